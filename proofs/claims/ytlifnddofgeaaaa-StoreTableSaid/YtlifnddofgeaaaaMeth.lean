/-
  The contracts of the memory's methods, and of room. Condition: what lies behind the memory.
-/
import Derived.Test.YtlifnddofgeaaaaFill
set_option linter.unusedSimpArgs false
set_option linter.unusedVariables false
set_option maxRecDepth 100000
namespace Go.Proofs.Ytlifnddofgeaaaa
open Go.RowKit

set_option maxHeartbeats 1000000 in
theorem room_says (size n : Nat) (most mn mx : Int) (has : Bool) (hs : size < 4611686018427387904) (hn : n < 18446744073709551616) (h1 : -9223372036854775808 ≤ most) (h2 : most < 9223372036854775808) (h3 : -9223372036854775808 ≤ mx) (h4 : mx < 9223372036854775808) (w : World) :
    Calls Try.prog 35 #[.int .i64 size, .int .u64 n, .int .i64 most, .agg #[.int .i64 mn, .int .i64 mx, .bool has]] w fun e w' => e = .returned (.bool (roomB size n most mx has)) ∧ Below w.heap.size w w' := by
  have key : ∀ lim : Int, -9223372036854775808 ≤ lim → lim < 9223372036854775808 → limI most mx has = lim → roomB size n most mx has = decide ((size : Int) + n ≤ lim) := by
    intro lim _ _ h
    unfold roomB
    rw [h]
  cases has with
  | false =>
    have hk := key most h1 h2 rfl
    rw [hk]
    clear key hk
    by_cases hle : (size : Int) ≤ most
    · obtain ⟨d, hd⟩ : ∃ d : Nat, most = (size : Int) + d := ⟨(most - size).toNat, by omega⟩
      subst hd
      have e1 : decide ((size : Int) + n ≤ (size : Int) + d) = decide (n ≤ d) := by congr 1; simp
      have e2 : (size : Int) + d - size = d := by omega
      rw [e1]
      clear e1
      go_enter Try.func35, Try.ntmps35
      go_wp2
      go_ret
      exact ⟨by simp, (Below.refl _ _).alloc (Nat.le_refl _) _⟩
    · have e1 : decide ((size : Int) + n ≤ most) = false := by simp; omega
      rw [e1]
      clear e1
      go_enter Try.func35, Try.ntmps35
      go_wp2
      go_ret
      exact ⟨rfl, (Below.refl _ _).alloc (Nat.le_refl _) _⟩
  | true =>
    by_cases hm : most ≤ mx
    · have hk := key most h1 h2 (by simp [limI]; omega)
      rw [hk]
      clear key hk
      by_cases hle : (size : Int) ≤ most
      · obtain ⟨d, hd⟩ : ∃ d : Nat, most = (size : Int) + d := ⟨(most - size).toNat, by omega⟩
        subst hd
        have e1 : decide ((size : Int) + n ≤ (size : Int) + d) = decide (n ≤ d) := by congr 1; simp
        have e2 : (size : Int) + d - size = d := by omega
        rw [e1]
        clear e1
        go_enter Try.func35, Try.ntmps35
        go_wp2
        go_ret
        exact ⟨by simp, (Below.refl _ _).alloc (Nat.le_refl _) _⟩
      · have e1 : decide ((size : Int) + n ≤ most) = false := by simp; omega
        rw [e1]
        clear e1
        go_enter Try.func35, Try.ntmps35
        go_wp2
        go_ret
        exact ⟨rfl, (Below.refl _ _).alloc (Nat.le_refl _) _⟩
    · have hk := key mx h3 h4 (by simp [limI]; omega)
      rw [hk]
      clear key hk
      by_cases hle : (size : Int) ≤ mx
      · obtain ⟨d, hd⟩ : ∃ d : Nat, mx = (size : Int) + d := ⟨(mx - size).toNat, by omega⟩
        subst hd
        have e1 : decide ((size : Int) + n ≤ (size : Int) + d) = decide (n ≤ d) := by congr 1; simp
        have e2 : (size : Int) + d - size = d := by omega
        rw [e1]
        clear e1
        go_enter Try.func35, Try.ntmps35
        go_wp2
        go_ret
        exact ⟨by simp, (Below.refl _ _).alloc (Nat.le_refl _) _⟩
      · have e1 : decide ((size : Int) + n ≤ mx) = false := by simp; omega
        rw [e1]
        clear e1
        go_enter Try.func35, Try.ntmps35
        go_wp2
        go_ret
        exact ⟨rfl, (Below.refl _ _).alloc (Nat.le_refl _) _⟩

/-- Are both parts there? -/
def okP (N M to_ from_ n : Nat) : Bool := decide (to_ + n ≤ N) && decide (from_ + n ≤ M)
def errP (ok : Bool) (k : Int) : Int := if ok = true then 0 else k
def putP (ok : Bool) (s : Nat) (xs ys : List Value) (to_ from_ n : Nat) : List Value := if ok = true then splice xs (to_ * s) (cut ys (from_ * s) (n * s)) else xs
def okF (N at_ n : Nat) : Bool := decide (at_ + n ≤ N)
def fillP (ok : Bool) (s : Nat) (xs cs : List Value) (at_ n : Nat) : List Value := if ok = true then splice xs (at_ * s) (repC cs n) else xs
theorem okP_yes {N M to_ from_ n : Nat} (h1 : to_ + n ≤ N) (h2 : from_ + n ≤ M) : okP N M to_ from_ n = true := by simp [okP, h1, h2]
theorem okP_no {N M to_ from_ n : Nat} (h : ¬ (to_ + n ≤ N ∧ from_ + n ≤ M)) : okP N M to_ from_ n = false := by
  rw [okP, Bool.and_eq_false_iff, decide_eq_false_iff_not, decide_eq_false_iff_not]
  omega
theorem okF_yes {N at_ n : Nat} (h : at_ + n ≤ N) : okF N at_ n = true := by simp [okF, h]
theorem okF_no {N at_ n : Nat} (h : ¬ (at_ + n ≤ N)) : okF N at_ n = false := by rw [okF, decide_eq_false_iff_not]; exact h
theorem move_b (B : Nat) (p sp : Option Addr) (N c M sc to_ from_ n : Nat) (xs ys : List Value) (w : World) (hr : Row B 5 1 p N c xs w) (hs : Src 1 sp M ys w) (hM : M ≤ sc) (hsc : sc < 9223372036854775808) (hto : to_ < 18446744073709551616) (hfr : from_ < 18446744073709551616) (hn : n < 18446744073709551616) :
    Calls Try.prog 32 #[.slice p N c, .int .u64 to_, .slice sp M sc, .int .u64 from_, .int .u64 n] w fun e w' => e = .returned (.bool (okP N M to_ from_ n)) ∧ Row B 5 1 p N c (putP (okP N M to_ from_ n) 1 xs ys to_ from_ n) w' ∧ KP (blk p) w w' := by
  have hcc : c < 9223372036854775808 := by have := hr.cap.2; unfold maxLen at this; omega
  by_cases h : to_ + n ≤ N ∧ from_ + n ≤ M
  · rw [okP_yes h.1 h.2]
    refine (move_b_yes B p sp N c M sc to_ from_ n xs ys w hr hs hM hsc h.1 h.2).mono fun e w' he => ?_
    simpa [putP] using he
  · rw [okP_no h]
    refine (move_b_no p sp N c M sc to_ from_ n hr.cap.1 hcc hM hsc hto hfr hn h w).mono fun e w' he => ?_
    obtain ⟨rfl, rfl⟩ := he
    exact ⟨rfl, hr, KP.refl _ _⟩
theorem move_v (B : Nat) (p sp : Option Addr) (N c M sc to_ from_ n : Nat) (xs ys : List Value) (w : World) (hr : Row B 32 4 p N c xs w) (hs : Src 4 sp M ys w) (hM : M ≤ sc) (hsc : sc < 9223372036854775808) (hto : to_ < 18446744073709551616) (hfr : from_ < 18446744073709551616) (hn : n < 18446744073709551616) :
    Calls Try.prog 37 #[.slice p N c, .int .u64 to_, .slice sp M sc, .int .u64 from_, .int .u64 n] w fun e w' => e = .returned (.bool (okP N M to_ from_ n)) ∧ Row B 32 4 p N c (putP (okP N M to_ from_ n) 4 xs ys to_ from_ n) w' ∧ KP (blk p) w w' := by
  have hcc : c < 9223372036854775808 := by have := hr.cap.2; unfold maxLen at this; omega
  by_cases h : to_ + n ≤ N ∧ from_ + n ≤ M
  · rw [okP_yes h.1 h.2]
    refine (move_v_yes B p sp N c M sc to_ from_ n xs ys w hr hs hM hsc h.1 h.2).mono fun e w' he => ?_
    simpa [putP] using he
  · rw [okP_no h]
    refine (move_v_no p sp N c M sc to_ from_ n hr.cap.1 hcc hM hsc hto hfr hn h w).mono fun e w' he => ?_
    obtain ⟨rfl, rfl⟩ := he
    exact ⟨rfl, hr, KP.refl _ _⟩
theorem fill_b (B : Nat) (p : Option Addr) (N c at_ n : Nat) (x : Int) (xs : List Value) (w : World) (hr : Row B 5 1 p N c xs w) (ha : at_ < 18446744073709551616) (hn : n < 18446744073709551616) :
    Calls Try.prog 31 #[.slice p N c, .int .u64 at_, .int .u8 x, .int .u64 n] w fun e w' => e = .returned (.bool (okF N at_ n)) ∧ Row B 5 1 p N c (fillP (okF N at_ n) 1 xs [.int .u8 x] at_ n) w' ∧ KP (blk p) w w' := by
  have hcc : N < 9223372036854775808 := by have := hr.cap; unfold maxLen at this; omega
  by_cases h : at_ + n ≤ N
  · rw [okF_yes h]
    refine (fill_b_yes B p N c at_ n x xs w hr h).mono fun e w' he => ?_
    simpa [fillP] using he
  · rw [okF_no h]
    refine (fill_b_no p N c at_ n x hcc ha hn h w).mono fun e w' he => ?_
    obtain ⟨rfl, rfl⟩ := he
    exact ⟨rfl, hr, KP.refl _ _⟩
theorem fill_v (B : Nat) (p : Option Addr) (N c at_ n : Nat) (x0 : Int) (x1 x2 : Nat) (x3 : Bool) (xs : List Value) (w : World) (hr : Row B 32 4 p N c xs w) (ha : at_ < 18446744073709551616) (hn : n < 18446744073709551616) :
    Calls Try.prog 36 #[.slice p N c, .int .u64 at_, .agg #[.int .i64 x0, .int .u64 x1, .int .u64 x2, .bool x3], .int .u64 n] w fun e w' => e = .returned (.bool (okF N at_ n)) ∧ Row B 32 4 p N c (fillP (okF N at_ n) 4 xs [.int .i64 x0, .int .u64 x1, .int .u64 x2, .bool x3] at_ n) w' ∧ KP (blk p) w w' := by
  have hcc : N < 9223372036854775808 := by have := hr.cap; unfold maxLen at this; omega
  by_cases h : at_ + n ≤ N
  · rw [okF_yes h]
    refine (fill_v_yes B p N c at_ n x0 x1 x2 x3 xs w hr h).mono fun e w' he => ?_
    simpa [fillP] using he
  · rw [okF_no h]
    refine (fill_v_no p N c at_ n x0 x1 x2 x3 hcc ha hn h w).mono fun e w' he => ?_
    obtain ⟨rfl, hb⟩ := he
    exact ⟨rfl, hr.below hb, KP.of hb⟩
/-- A memory: what its block holds, and its bytes. -/
structure MemA (B gm : Nat) (mn mx : Int) (has : Bool) (p : Option Addr) (N c : Nat) (xs : List Value) (w : World) : Prop where
  box : CA gm #[.int .i64 mn, .int .i64 mx, .bool has, .slice p N c] 29 w
  row : Row B 5 1 p N c xs w
theorem Row.typ {B T s n c g : Nat} {p : Option Addr} {xs : List Value} {cs : Array Value} {T2 : TypeId} {w : World} (h : Row B T s p n c xs w) (hc : CA g cs T2 w) (hT : T2 ≠ T) : blk p ≠ some g := by
  rcases h.own.2 with ⟨h1, _⟩ | ⟨g', cap, cur, h1, h2, h3, h4⟩
  · cases h1; simp [blk]
  · cases h1
    intro e
    cases e
    unfold CA at hc
    rw [hc] at h3
    cases h3
    exact hT rfl
set_option maxHeartbeats 1000000 in
theorem init_m (B gm : Nat) (mn mx : Int) (has : Bool) (p sp : Option Addr) (N c M sc to_ from_ n : Nat) (xs ys : List Value) (w : World) (hm : MemA B gm mn mx has p N c xs w) (hs : Src 1 sp M ys w) (hM : M ≤ sc) (hsc : sc < 9223372036854775808) (hto : to_ < 18446744073709551616) (hfr : from_ < 18446744073709551616) (hn : n < 18446744073709551616) :
    Calls Try.prog 14 #[.pointer (some ⟨gm, 0, none⟩), .int .u64 to_, .int .u64 from_, .int .u64 n, .slice sp M sc] w fun e w' => e = .returned (.int .i64 (errP (okP N M to_ from_ n) 44)) ∧ MemA B gm mn mx has p N c (putP (okP N M to_ from_ n) 1 xs ys to_ from_ n) w' ∧ KP (blk p) w w' := by
  have P := hid (move_b B p sp N c M sc to_ from_ n xs ys w hm.row hs hM hsc hto hfr hn)
  have HM := hid hm
  have b3 : w.cell? ⟨gm, 3, none⟩ = some (.slice p N c) := hm.box.at rfl
  generalize okP N M to_ from_ n = ok at P ⊢
  clear hm hs hM hsc hto hfr hn
  cases ok <;> (
    go_enter Try.func14, Try.ntmps14
    go_wp2_with (go_at_call 32; (with_reducible refine P.out.mono ?_); rintro e w1 ⟨rfl, hr1, hk1⟩; have HR1 := hid hr1; have HK1 := hid hk1; clear hr1 hk1)
    go_ret
    exact ⟨rfl, ⟨HM.out.box.keep HK1.out (HM.out.row.typ HM.out.box (by decide)), HR1.out⟩, HK1.out⟩)
set_option maxHeartbeats 1000000 in
theorem write_m (B gm : Nat) (mn mx : Int) (has : Bool) (p sp : Option Addr) (N c M sc to_ : Nat) (xs ys : List Value) (w : World) (hm : MemA B gm mn mx has p N c xs w) (hs : Src 1 sp M ys w) (hM : M ≤ sc) (hsc : sc < 9223372036854775808) (hto : to_ < 18446744073709551616) :
    Calls Try.prog 9 #[.pointer (some ⟨gm, 0, none⟩), .int .u64 to_, .slice sp M sc] w fun e w' => e = .returned (.int .i64 (errP (okP N M to_ 0 M) 44)) ∧ MemA B gm mn mx has p N c (putP (okP N M to_ 0 M) 1 xs ys to_ 0 M) w' ∧ KP (blk p) w w' := by
  have P : Hid (Calls Try.prog 14 #[.pointer (some ⟨gm, 0, none⟩), .int .u64 to_, .int .u64 0, .int .u64 M, .slice sp M sc] w fun e w' => e = .returned (.int .i64 (errP (okP N M to_ 0 M) 44)) ∧ MemA B gm mn mx has p N c (putP (okP N M to_ 0 M) 1 xs ys to_ 0 M) w' ∧ KP (blk p) w w') := hid (init_m B gm mn mx has p sp N c M sc to_ 0 M xs ys w hm hs hM hsc hto (by decide) (by omega))
  have hm62 : M < 9223372036854775808 := by omega
  generalize okP N M to_ 0 M = ok at P ⊢
  clear hm hs hM hsc hto
  go_enter Try.func9, Try.ntmps9
  go_wp2_with (go_at_call 14; (with_reducible refine P.out.mono ?_); rintro e w1 ⟨rfl, hr1, hk1⟩; have HR1 := hid hr1; have HK1 := hid hk1; clear hr1 hk1)
  go_ret
  exact ⟨rfl, HR1.out, HK1.out⟩
set_option maxHeartbeats 1000000 in
theorem copy_m (B gm : Nat) (mn mx : Int) (has : Bool) (p : Option Addr) (N c to_ from_ n : Nat) (xs : List Value) (w : World) (hm : MemA B gm mn mx has p N c xs w) (hto : to_ < 18446744073709551616) (hfr : from_ < 18446744073709551616) (hn : n < 18446744073709551616) :
    Calls Try.prog 13 #[.pointer (some ⟨gm, 0, none⟩), .int .u64 to_, .int .u64 from_, .int .u64 n] w fun e w' => e = .returned (.int .i64 (errP (okP N N to_ from_ n) 44)) ∧ MemA B gm mn mx has p N c (putP (okP N N to_ from_ n) 1 xs xs to_ from_ n) w' ∧ KP (blk p) w w' := by
  have P := hid (init_m B gm mn mx has p p N c N c to_ from_ n xs xs w hm hm.row.src hm.row.cap.1 (by have := hm.row.cap.2; unfold maxLen at this; omega) hto hfr hn)
  have b3 : w.cell? ⟨gm, 3, none⟩ = some (.slice p N c) := hm.box.at rfl
  generalize okP N N to_ from_ n = ok at P ⊢
  clear hm hto hfr hn
  go_enter Try.func13, Try.ntmps13
  go_wp2_with (go_at_call 14; (with_reducible refine P.out.mono ?_); rintro e w1 ⟨rfl, hr1, hk1⟩; have HR1 := hid hr1; have HK1 := hid hk1; clear hr1 hk1)
  go_ret
  exact ⟨rfl, HR1.out, HK1.out⟩
set_option maxHeartbeats 1000000 in
theorem fill_m (B gm : Nat) (mn mx : Int) (has : Bool) (p : Option Addr) (N c at_ n : Nat) (x : Int) (xs : List Value) (w : World) (hm : MemA B gm mn mx has p N c xs w) (ha : at_ < 18446744073709551616) (hn : n < 18446744073709551616) :
    Calls Try.prog 11 #[.pointer (some ⟨gm, 0, none⟩), .int .u64 at_, .int .u8 x, .int .u64 n] w fun e w' => e = .returned (.int .i64 (errP (okF N at_ n) 44)) ∧ MemA B gm mn mx has p N c (fillP (okF N at_ n) 1 xs [.int .u8 x] at_ n) w' ∧ KP (blk p) w w' := by
  have P := hid (fill_b B p N c at_ n x xs w hm.row ha hn)
  have HM := hid hm
  have b3 : w.cell? ⟨gm, 3, none⟩ = some (.slice p N c) := hm.box.at rfl
  generalize okF N at_ n = ok at P ⊢
  clear hm ha hn
  cases ok <;> (
    go_enter Try.func11, Try.ntmps11
    go_wp2_with (go_at_call 31; (with_reducible refine P.out.mono ?_); rintro e w1 ⟨rfl, hr1, hk1⟩; have HR1 := hid hr1; have HK1 := hid hk1; clear hr1 hk1)
    go_ret
    exact ⟨rfl, ⟨HM.out.box.keep HK1.out (HM.out.row.typ HM.out.box (by decide)), HR1.out⟩, HK1.out⟩)
theorem Src.part {s N at_ n : Nat} {p q : Option Addr} {xs : List Value} {w : World} (h : Src s p N xs w) (hq : n ≠ 0 → q = p.map fun x => x.add (at_ * s)) (hf : at_ + n ≤ N) : Src s q n (cut xs (at_ * s) (n * s)) w := by
  have hl := h.len
  have hle : at_ * s + n * s ≤ xs.length := by rw [hl, ← Nat.add_mul]; exact Nat.mul_le_mul_right _ hf
  refine ⟨cut_len hle, fun u hu => h.one u (cut_mem hu), fun hne => ?_⟩
  have hn0 : n ≠ 0 := by
    rintro rfl
    apply hne
    exact List.eq_nil_of_length_eq_zero (by rw [cut_len hle, Nat.zero_mul])
  obtain ⟨g, o, rfl, hg, ha⟩ := h.at_ (by
    rintro rfl
    apply hne
    simp [cut])
  refine ⟨g, o + at_ * s, by rw [hq hn0, Option.map_some, addr_add], hg, fun j u hj => ?_⟩
  rw [Nat.add_assoc]
  exact ha _ u (cut_at hj)
set_option maxHeartbeats 1000000 in
theorem read_m_yes (B gm : Nat) (mn mx : Int) (has : Bool) (p : Option Addr) (N c at_ n : Nat) (xs : List Value) (w : World) (hm : MemA B gm mn mx has p N c xs w) (hn : n < 4000000000) (h : at_ + n ≤ N) :
    Calls Try.prog 15 #[.pointer (some ⟨gm, 0, none⟩), .int .u64 at_, .int .i64 n] w fun e w' => (∃ g, e = .returned (.tuple #[.slice (some ⟨g, 0, none⟩) n n, .int .i64 0]) ∧ w.heap.size ≤ g ∧ Row w.heap.size 5 1 (some ⟨g, 0, none⟩) n n (cut xs at_ n) w') ∧ Below w.heap.size w w' := by
  have hcc : c < 9223372036854775808 := by have := hm.row.cap.2; unfold maxLen at this; omega
  have P := hid (part_b_yes p N c at_ n hm.row.cap.1 hcc h w)
  have b3 : w.cell? ⟨gm, 3, none⟩ = some (.slice p N c) := hm.box.at rfl
  have PL : ∀ q cc, n ≤ cc → cc ≤ c → (n ≠ 0 → q = p.map fun x => x.add (at_ * 1)) → Hid (Calls Try.prog 34 #[.slice q n cc, .int .u64 0] w fun e w' => ∃ g, e = .returned (.slice (some ⟨g, 0, none⟩) n n) ∧ w.heap.size ≤ g ∧ Row w.heap.size 5 1 (some ⟨g, 0, none⟩) n n (cut xs at_ n) w' ∧ Below w.heap.size w w') := by
    intro q cc h1 h2 h3
    refine (long_b q n cc 0 n _ w (hm.row.src.part h3 h) h1 (by omega) rfl (by omega)).mono fun e w' he => ?_
    simpa [repC] using he
  clear hm h hcc
  go_enter Try.func15, Try.ntmps15
  go_wp2_with (first
    | (go_at_call 33; (with_reducible refine P.out.mono ?_); rintro e w1 ⟨⟨q1, c1, rfl, hq1, hcc1, hz1⟩, rfl⟩; have PM := PL q1 c1 hq1 hcc1 hz1; clear PL hq1 hcc1 hz1)
    | (go_at_call 34; (with_reducible refine PM.out.mono ?_); rintro e w2 ⟨g, rfl, hg, hr, hb⟩; have HG := hid hg; have HR := hid hr; have HB := hid hb; clear hg hr hb))
  go_ret2
  exact ⟨⟨g, rfl, HG.out, HR.out⟩, HB.out⟩
set_option maxHeartbeats 1000000 in
theorem read_m_no (B gm : Nat) (mn mx : Int) (has : Bool) (p : Option Addr) (N c at_ n : Nat) (xs : List Value) (w : World) (hm : MemA B gm mn mx has p N c xs w) (hn : n < 4000000000) (ha : at_ < 18446744073709551616) (h : ¬ (at_ + n ≤ N)) :
    Calls Try.prog 15 #[.pointer (some ⟨gm, 0, none⟩), .int .u64 at_, .int .i64 n] w fun e w' => e = .returned (.tuple #[.slice none 0 0, .int .i64 44]) ∧ w = w' := by
  have hcc : c < 9223372036854775808 := by have := hm.row.cap.2; unfold maxLen at this; omega
  have P := hid (part_b_no p N c at_ n (by have := hm.row.cap.1; omega) ha (by omega) h w)
  have b3 : w.cell? ⟨gm, 3, none⟩ = some (.slice p N c) := hm.box.at rfl
  clear hm h hcc
  go_enter Try.func15, Try.ntmps15
  go_wp2_with (go_at_call 33; (with_reducible refine P.out.mono ?_); rintro e w1 ⟨rfl, rfl⟩)
  go_ret2
  exact ⟨rfl, rfl⟩
end Go.Proofs.Ytlifnddofgeaaaa
