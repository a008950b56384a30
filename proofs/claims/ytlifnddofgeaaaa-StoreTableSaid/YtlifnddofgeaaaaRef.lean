/-
  The contracts of the document's answers for memories and tables (bodkinref13). Condition: fewer elements than memory holds.
-/
import Derived.Test.YtlifnddofgeaaaaApp
import Derived.Deep.CutBlock
set_option linter.unusedSimpArgs false
set_option linter.unusedVariables false
set_option maxRecDepth 100000
namespace Go.Proofs.Ytlifnddofgeaaaa
open Go.RowKit

/-- A slice, what it holds and how far it may go. -/
structure Sl (s : Nat) (p : Option Addr) (n c : Nat) (xs : List Value) (w : World) : Prop where
  src : Src s p n xs w
  cap : n ≤ c
  big : c < 9223372036854775808
  nil : p = none → c = 0
theorem Row.sl {B T s n c : Nat} {p : Option Addr} {xs : List Value} {w : World} (h : Row B T s p n c xs w) : Sl s p n c xs w := by
  refine ⟨h.src, h.cap.1, by have := h.cap.2; unfold maxLen at this; omega, ?_⟩
  rintro rfl
  rcases h.own.2 with ⟨h1, _⟩ | ⟨g, cap, cur, h1, _⟩
  · cases h1; rfl
  · cases h1
theorem Sl.keep {s n c : Nat} {p : Option Addr} {xs : List Value} {w w' : World} {k : Option Nat} (h : Sl s p n c xs w) (hk : KP k w w') (hc : ∀ g o, p = some ⟨g, o, none⟩ → k ≠ some g) : Sl s p n c xs w' := ⟨h.src.keep hk hc, h.cap, h.big, h.nil⟩
theorem Sl.below {s n c : Nat} {p : Option Addr} {xs : List Value} {w w' : World} (h : Sl s p n c xs w) (hk : Below w.heap.size w w') : Sl s p n c xs w' := ⟨h.src.below hk, h.cap, h.big, h.nil⟩
theorem Nx.ne {w : World} {p p' : Option Addr} {g : Nat} (h : Nx w p p') (h1 : blk p ≠ some g) (h2 : g < w.heap.size) : blk p' ≠ some g := by
  rcases h with rfl | ⟨g', rfl, hg⟩
  · exact h1
  · intro e
    have : g' = g := by simpa [blk] using e
    omega
theorem Nx.trans {a b : World} {p q r : Option Addr} (h : Nx a p q) (k : Nx b q r) (hs : a.heap.size ≤ b.heap.size) : Nx a p r := by
  rcases k with rfl | ⟨g, rfl, hg⟩
  · exact h
  · exact .inr ⟨g, rfl, by omega⟩
theorem Src.front {s N n : Nat} {p : Option Addr} {xs : List Value} {w : World} (h : Src s p N xs w) (hf : n ≤ N) : Src s p n (cut xs 0 (n * s)) w := by
  have hl := h.len
  have hle : 0 + n * s ≤ xs.length := by rw [hl, Nat.zero_add]; exact Nat.mul_le_mul_right _ hf
  refine ⟨cut_len hle, fun u hu => h.one u (cut_mem hu), fun hne => ?_⟩
  obtain ⟨g, o, rfl, hg, ha⟩ := h.at_ (by rintro rfl; apply hne; simp [cut])
  exact ⟨g, o, rfl, hg, fun j u hj => by have := ha _ u (cut_at hj); rwa [Nat.zero_add] at this⟩
/-- Below what a new row is at, all stays. -/
theorem KP.fresh {B : Nat} {w w1 w2 : World} {p : Option Addr} (h : Below B w w1) (hk : KP (blk p) w1 w2) (hB : B ≤ w1.heap.size) (hp : ∀ g, blk p = some g → B ≤ g) : Below B w w2 :=
  h.trans (hk.below hB hp)
theorem Row.blk_ge {B T s n c : Nat} {p : Option Addr} {xs : List Value} {w : World} (h : Row B T s p n c xs w) : ∀ g, blk p = some g → B ≤ g := by
  intro g hg
  cases p with
  | none => cases hg
  | some a => exact (h.own.lt g (by simpa [Value.ownBlock, blk] using hg)).1
theorem splice_cuts {α : Type} (xs ys : List α) (a b c : Nat) (hb : a + ys.length = b) (hc : b + c = xs.length) : cut xs 0 a ++ ys ++ cut xs b c = splice xs a ys := by
  unfold cut splice
  rw [List.drop_zero, hb, List.take_of_length_le (l := xs.drop b) (by simp; omega), List.append_assoc]
set_option maxHeartbeats 1000000 in
theorem in_says (N at_ n : Nat) (hN : N < 9223372036854775808) (ha : at_ < 18446744073709551616) (hn : n < 18446744073709551616) (w : World) :
    Calls Try.prog 16 #[.int .u64 at_, .int .u64 n, .int .i64 N] w fun e w' => e = .returned (.bool (okF N at_ n)) ∧ w = w' := by
  by_cases h : at_ + n ≤ N
  · rw [okF_yes h]
    have h1 : at_ ≤ N := by omega
    have h2 : n ≤ N := by omega
    have h3 : at_ ≤ N - n := by omega
    clear h
    go_enter Try.func16, Try.ntmps16
    go_wp2
    go_ret
    exact ⟨by first | rfl | (simp; omega), rfl⟩
  · rw [okF_no h]
    by_cases h1 : at_ ≤ N
    · by_cases h2 : n ≤ N
      · have h3 : N - n < at_ := by omega
        clear h
        go_enter Try.func16, Try.ntmps16
        go_wp2
        go_ret
        exact ⟨by first | rfl | (simp; omega), rfl⟩
      · clear h
        go_enter Try.func16, Try.ntmps16
        go_wp2
        go_ret
        exact ⟨by first | rfl | (simp; omega), rfl⟩
    · clear h
      go_enter Try.func16, Try.ntmps16
      go_wp2
      go_ret
      exact ⟨by first | rfl | (simp; omega), rfl⟩
set_option maxHeartbeats 1000000 in
theorem put_b_no (p sp : Option Addr) (N c M sc to_ from_ n : Nat) (hN : N < 9223372036854775808) (hM : M < 9223372036854775808) (hto : to_ < 18446744073709551616) (hfr : from_ < 18446744073709551616) (hn : n < 18446744073709551616) (h : ¬ (to_ + n ≤ N ∧ from_ + n ≤ M)) (w : World) :
    Calls Try.prog 10 #[.slice p N c, .int .u64 to_, .int .u64 from_, .int .u64 n, .slice sp M sc] w fun e w' => e = .returned (.tuple #[.slice p N c, .int .i64 44]) ∧ w = w' := by
  have P1 := fun W => hid (in_says M from_ n hM hfr hn W)
  have P2 := fun W => hid (in_says N to_ n hN hto hn W)
  by_cases h1 : from_ + n ≤ M
  · rw [okF_yes h1] at P1
    rw [okF_no (fun h2 => h ⟨h2, h1⟩)] at P2
    clear h h1
    go_enter Try.func10, Try.ntmps10
    go_wp2_with (first
      | (go_at_call 16; (with_reducible refine (P1 _).out.mono ?_); rintro e w1 ⟨rfl, rfl⟩)
      | (go_at_call 16; (with_reducible refine (P2 _).out.mono ?_); rintro e w1 ⟨rfl, rfl⟩))
    go_ret2
    exact ⟨rfl, rfl⟩
  · rw [okF_no h1] at P1
    generalize okF N to_ n = ok at P2
    clear h h1
    go_enter Try.func10, Try.ntmps10
    go_wp2_with (first
      | (go_at_call 16; (with_reducible refine (P1 _).out.mono ?_); rintro e w1 ⟨rfl, rfl⟩)
      | (go_at_call 16; (with_reducible refine (P2 _).out.mono ?_); rintro e w1 ⟨rfl, rfl⟩))
    go_ret2
    exact ⟨rfl, rfl⟩
set_option maxHeartbeats 2000000 in
theorem put_b_yes (p sp : Option Addr) (N c M sc to_ from_ n : Nat) (xs ys : List Value) (w : World) (hm : Sl 1 p N c xs w) (hs : Sl 1 sp M sc ys w) (hN2 : N ≤ 100000000000) (h1 : to_ + n ≤ N) (h2 : from_ + n ≤ M) :
    Calls Try.prog 10 #[.slice p N c, .int .u64 to_, .int .u64 from_, .int .u64 n, .slice sp M sc] w fun e w' => ∃ p' c', e = .returned (.tuple #[.slice p' N c', .int .i64 0]) ∧ Row w.heap.size 5 1 p' N c' (splice xs (to_ * 1) (cut ys (from_ * 1) (n * 1))) w' ∧ Below w.heap.size w w' ∧ Nx w none p' := by
  have hcc := hm.big
  have hsc := hs.big
  have hcp := hm.cap
  have hsp := hs.cap
  have P1 := fun W => hid (in_says M from_ n (by omega) (by omega) (by omega) W)
  have P2 := fun W => hid (in_says N to_ n (by omega) (by omega) (by omega) W)
  rw [okF_yes h2] at P1
  rw [okF_yes h1] at P2
  have HM := hid hm
  have HS := hid hs
  have F1 : Hid (Src 1 p to_ (cut xs 0 (to_ * 1)) w) := hid (hm.src.front (n := to_) (by omega))
  have F2 : Hid (Src 1 (if sc = from_ then sp else sp.map fun x => x.add (from_)) (from_ + n - from_) (cut ys (from_ * 1) (n * 1)) w) := by
    rw [Nat.add_sub_cancel_left]
    exact hs.src.part (fun hne => by rw [if_neg (by omega)]; simp only [Nat.mul_one]) h2
  have F3 : Hid (Src 1 (if c = to_ + n then p else p.map fun x => x.add (to_ + n)) (N - (to_ + n)) (cut xs ((to_ + n) * 1) ((N - (to_ + n)) * 1)) w) := hm.src.part (fun hne => by rw [if_neg (by omega)]; simp only [Nat.mul_one]) (by omega)
  have Z2 : Hid ((if sc = from_ then sp else sp.map fun x => x.add (from_)) = none → sc - from_ = 0) := by
    intro hq
    split at hq
    · omega
    · have := hs.nil (by simpa using hq)
      omega
  have Z3 : Hid ((if c = to_ + n then p else p.map fun x => x.add (to_ + n)) = none → c - (to_ + n) = 0) := by
    intro hq
    split at hq
    · omega
    · have := hm.nil (by simpa using hq)
      omega
  have HN := hid hN2
  clear hm hs hN2
  go_enter Try.func10, Try.ntmps10
  go_wp2_with (first
    | (go_at_call 16; (with_reducible refine (P1 _).out.mono ?_); rintro e w1 ⟨rfl, rfl⟩)
    | (go_at_call 16; (with_reducible refine (P2 _).out.mono ?_); rintro e w1 ⟨rfl, rfl⟩)
    | (at_builtin; refine app_b rfl _ _ rfl w.heap.size p3 _ (to_ + n) c3 _ _ _ _ HR3.out (F3.out.below HB3.out) Z3.out N (by omega) (by have := HN.out; omega) HB3.out.size rfl rfl ?_; intro p4 c4 w4 hr4 hk4 hn4; have HR4 := hid hr4; have HN4 := hid (HN3.out.trans hn4 HB3.out.size); have HB4 := hid (KP.fresh HB3.out hk4 HB3.out.size HR3.out.blk_ge); clear hr4 hk4 hn4)
    | (at_builtin; refine app_b rfl _ _ rfl w.heap.size p2 _ to_ c2 _ _ _ _ HR2.out (F2.out.below HB2.out) Z2.out (to_ + n) (by rw [Nat.add_sub_cancel_left]) (by have := HN.out; omega) HB2.out.size rfl rfl ?_; intro p3 c3 w3 hr3 hk3 hn3; have HR3 := hid hr3; have HN3 := hid (HN2.out.trans hn3 HB2.out.size); have HB3 := hid (KP.fresh HB2.out hk3 HB2.out.size HR2.out.blk_ge); clear hr3 hk3 hn3)
    | (at_builtin; refine app_b rfl _ _ rfl w.heap.size none _ 0 0 _ _ [] _ ⟨World.ownsRow_nil _ _ _ _, fun _ h => by cases h⟩ F1.out HM.out.nil to_ (Nat.zero_add _) (by have := HN.out; omega) (Nat.le_refl _) rfl rfl ?_; intro p2 c2 w2 hr2 hk2 hn2; have HR2 := hid hr2; have HN2 := hid hn2; have HB2 := hid (KP.fresh (Below.refl w.heap.size w) hk2 (Nat.le_refl _) (fun g h => by cases h)); clear hr2 hk2 hn2))
  all_goals (
    go_ret2
    refine ⟨p4, c4, rfl, ?_, HB4.out, HN4.out⟩
    have hh := HR4.out
    have hl := HM.out.src.len
    rw [List.nil_append, splice_cuts xs (cut ys (from_ * 1) (n * 1)) (to_ * 1) ((to_ + n) * 1) ((N - (to_ + n)) * 1) (by rw [cut_len (by have := HS.out.src.len; omega)]; omega) (by omega)] at hh
    simpa only [Nat.mul_one] using hh)
set_option maxHeartbeats 1000000 in
theorem put_v_no (p sp : Option Addr) (N c M sc to_ from_ n : Nat) (hN : N < 9223372036854775808) (hM : M < 9223372036854775808) (hto : to_ < 18446744073709551616) (hfr : from_ < 18446744073709551616) (hn : n < 18446744073709551616) (h : ¬ (to_ + n ≤ N ∧ from_ + n ≤ M)) (w : World) :
    Calls Try.prog 20 #[.slice p N c, .int .u64 to_, .int .u64 from_, .int .u64 n, .slice sp M sc] w fun e w' => e = .returned (.tuple #[.slice p N c, .int .i64 45]) ∧ w = w' := by
  have P1 := fun W => hid (in_says M from_ n hM hfr hn W)
  have P2 := fun W => hid (in_says N to_ n hN hto hn W)
  by_cases h1 : from_ + n ≤ M
  · rw [okF_yes h1] at P1
    rw [okF_no (fun h2 => h ⟨h2, h1⟩)] at P2
    clear h h1
    go_enter Try.func20, Try.ntmps20
    go_wp2_with (first
      | (go_at_call 16; (with_reducible refine (P1 _).out.mono ?_); rintro e w1 ⟨rfl, rfl⟩)
      | (go_at_call 16; (with_reducible refine (P2 _).out.mono ?_); rintro e w1 ⟨rfl, rfl⟩))
    go_ret2
    exact ⟨rfl, rfl⟩
  · rw [okF_no h1] at P1
    generalize okF N to_ n = ok at P2
    clear h h1
    go_enter Try.func20, Try.ntmps20
    go_wp2_with (first
      | (go_at_call 16; (with_reducible refine (P1 _).out.mono ?_); rintro e w1 ⟨rfl, rfl⟩)
      | (go_at_call 16; (with_reducible refine (P2 _).out.mono ?_); rintro e w1 ⟨rfl, rfl⟩))
    go_ret2
    exact ⟨rfl, rfl⟩
set_option maxHeartbeats 2000000 in
theorem put_v_yes (p sp : Option Addr) (N c M sc to_ from_ n : Nat) (xs ys : List Value) (w : World) (hm : Sl 4 p N c xs w) (hs : Sl 4 sp M sc ys w) (hN2 : N ≤ 100000000000) (h1 : to_ + n ≤ N) (h2 : from_ + n ≤ M) :
    Calls Try.prog 20 #[.slice p N c, .int .u64 to_, .int .u64 from_, .int .u64 n, .slice sp M sc] w fun e w' => ∃ p' c', e = .returned (.tuple #[.slice p' N c', .int .i64 0]) ∧ Row w.heap.size 32 4 p' N c' (splice xs (to_ * 4) (cut ys (from_ * 4) (n * 4))) w' ∧ Below w.heap.size w w' ∧ Nx w none p' := by
  have hcc := hm.big
  have hsc := hs.big
  have hcp := hm.cap
  have hsp := hs.cap
  have P1 := fun W => hid (in_says M from_ n (by omega) (by omega) (by omega) W)
  have P2 := fun W => hid (in_says N to_ n (by omega) (by omega) (by omega) W)
  rw [okF_yes h2] at P1
  rw [okF_yes h1] at P2
  have HM := hid hm
  have HS := hid hs
  have F1 : Hid (Src 4 p to_ (cut xs 0 (to_ * 4)) w) := hid (hm.src.front (n := to_) (by omega))
  have F2 : Hid (Src 4 (if sc = from_ then sp else sp.map fun x => x.add (from_ * 4)) (from_ + n - from_) (cut ys (from_ * 4) (n * 4)) w) := by
    rw [Nat.add_sub_cancel_left]
    exact hs.src.part (fun hne => by rw [if_neg (by omega)]) h2
  have F3 : Hid (Src 4 (if c = to_ + n then p else p.map fun x => x.add ((to_ + n) * 4)) (N - (to_ + n)) (cut xs ((to_ + n) * 4) ((N - (to_ + n)) * 4)) w) := hm.src.part (fun hne => by rw [if_neg (by omega)]) (by omega)
  have Z2 : Hid ((if sc = from_ then sp else sp.map fun x => x.add (from_ * 4)) = none → sc - from_ = 0) := by
    intro hq
    split at hq
    · omega
    · have := hs.nil (by simpa using hq)
      omega
  have Z3 : Hid ((if c = to_ + n then p else p.map fun x => x.add ((to_ + n) * 4)) = none → c - (to_ + n) = 0) := by
    intro hq
    split at hq
    · omega
    · have := hm.nil (by simpa using hq)
      omega
  have HN := hid hN2
  clear hm hs hN2
  go_enter Try.func20, Try.ntmps20
  go_wp2_with (first
    | (go_at_call 16; (with_reducible refine (P1 _).out.mono ?_); rintro e w1 ⟨rfl, rfl⟩)
    | (go_at_call 16; (with_reducible refine (P2 _).out.mono ?_); rintro e w1 ⟨rfl, rfl⟩)
    | (at_builtin; refine app_v rfl _ _ rfl w.heap.size p3 _ (to_ + n) c3 _ _ _ _ HR3.out (F3.out.below HB3.out) Z3.out N (by omega) (by have := HN.out; omega) HB3.out.size rfl rfl ?_; intro p4 c4 w4 hr4 hk4 hn4; have HR4 := hid hr4; have HN4 := hid (HN3.out.trans hn4 HB3.out.size); have HB4 := hid (KP.fresh HB3.out hk4 HB3.out.size HR3.out.blk_ge); clear hr4 hk4 hn4)
    | (at_builtin; refine app_v rfl _ _ rfl w.heap.size p2 _ to_ c2 _ _ _ _ HR2.out (F2.out.below HB2.out) Z2.out (to_ + n) (by rw [Nat.add_sub_cancel_left]) (by have := HN.out; omega) HB2.out.size rfl rfl ?_; intro p3 c3 w3 hr3 hk3 hn3; have HR3 := hid hr3; have HN3 := hid (HN2.out.trans hn3 HB2.out.size); have HB3 := hid (KP.fresh HB2.out hk3 HB2.out.size HR2.out.blk_ge); clear hr3 hk3 hn3)
    | (at_builtin; refine app_v rfl _ _ rfl w.heap.size none _ 0 0 _ _ [] _ ⟨World.ownsRow_nil _ _ _ _, fun _ h => by cases h⟩ F1.out HM.out.nil to_ (Nat.zero_add _) (by have := HN.out; omega) (Nat.le_refl _) rfl rfl ?_; intro p2 c2 w2 hr2 hk2 hn2; have HR2 := hid hr2; have HN2 := hid hn2; have HB2 := hid (KP.fresh (Below.refl w.heap.size w) hk2 (Nat.le_refl _) (fun g h => by cases h)); clear hr2 hk2 hn2))
  all_goals (
    go_ret2
    refine ⟨p4, c4, rfl, ?_, HB4.out, HN4.out⟩
    have hh := HR4.out
    have hl := HM.out.src.len
    rw [List.nil_append, splice_cuts xs (cut ys (from_ * 4) (n * 4)) (to_ * 4) ((to_ + n) * 4) ((N - (to_ + n)) * 4) (by rw [cut_len (by have := HS.out.src.len; omega)]; omega) (by omega)] at hh
    exact hh)
set_option maxHeartbeats 1000000 in
theorem rfill_no (p : Option Addr) (N c at_ n : Nat) (x : Int) (hN : N < 9223372036854775808) (ha : at_ < 18446744073709551616) (hn : n < 18446744073709551616) (h : ¬ (at_ + n ≤ N)) (w : World) :
    Calls Try.prog 12 #[.slice p N c, .int .u64 at_, .int .u8 x, .int .u64 n] w fun e w' => e = .returned (.tuple #[.slice p N c, .int .i64 44]) ∧ w = w' := by
  have P1 := fun W => hid (in_says N at_ n hN ha hn W)
  rw [okF_no h] at P1
  clear h
  go_enter Try.func12, Try.ntmps12
  go_wp2_with (go_at_call 16; (with_reducible refine (P1 _).out.mono ?_); rintro e w1 ⟨rfl, rfl⟩)
  go_ret2
  exact ⟨rfl, rfl⟩
set_option maxHeartbeats 2000000 in
theorem rfill_yes (p : Option Addr) (N c at_ n : Nat) (x : Int) (xs : List Value) (w : World) (hm : Sl 1 p N c xs w) (hN2 : N ≤ 100000000000) (h : at_ + n ≤ N) :
    Calls Try.prog 12 #[.slice p N c, .int .u64 at_, .int .u8 x, .int .u64 n] w fun e w' => ∃ p' c', e = .returned (.tuple #[.slice p' N c', .int .i64 0]) ∧ Row w.heap.size 5 1 p' N c' (splice xs at_ (repC [.int .u8 x] n)) w' ∧ Below w.heap.size w w' ∧ Nx w none p' := by
  have P1 := fun W => hid (in_says N at_ n (by omega) (by omega) (by omega) W)
  rw [okF_yes h] at P1
  have HM := hid hm
  have HN := hid hN2
  have HH := hid h
  have hz64 : at_ + n < 9223372036854775808 := by omega
  have hl := hm.src.len
  clear hm hN2 h
  go_enter Try.func12, Try.ntmps12
  go_upto_block 0 with (first
    | (go_at_call 16; (with_reducible refine (P1 _).out.mono ?_); rintro e w1 ⟨rfl, rfl⟩)
    | (at_builtin; refine app_b rfl _ _ rfl w.heap.size none _ 0 0 _ _ [] _ ⟨World.ownsRow_nil _ _ _ _, fun _ h => by cases h⟩ HM.out.src HM.out.nil N (Nat.zero_add _) (by have := HN.out; omega) (Nat.le_refl _) rfl rfl ?_; intro p2 c2 w2 hr2 hk2 hn2; rw [List.nil_append] at hr2; have HR2 := hid hr2; have HN2 := hid hn2; have HB2 := hid (KP.fresh (Below.refl w.heap.size w) hk2 (Nat.le_refl _) (fun g h => by cases h)); clear hr2 hk2 hn2))
  by_cases h0 : n = 0
  · go_wp2
    go_loopw [12] (fun vi wr => vi = .int .u64 at_ ∧ Hid (wr = w2)) (fun vi _ => 0)
    case atStart => exact ⟨rfl, hid rfl⟩
    case round =>
      obtain ⟨rfl, HW⟩ := hrel
      have hn0 : n = 0 := h0
      go_wp2
      go_ret2
      rw [HW.out]
      exact ⟨p2, c2, rfl, by rw [h0, repC, splice_nil]; exact HR2.out, HB2.out, HN2.out⟩
  · obtain ⟨g, cur, rfl, hB, hca, hcs⟩ := HR2.out.pos (by have := HH.out; omega)
    have HBG := hid hB
    have HC := hid hca
    have HNC : Hid (at_ + n ≤ cur.size) := by have := HR2.out.cap.1; have := HH.out; show _ ≤ _; omega
    have hNc := HR2.out.cap
    clear hca hB hcs h0
    go_wp2
    go_loopw [12] (fun vi wr => ∃ i : Nat, i ≤ n ∧ vi = .int .u64 (at_ + i : Nat) ∧ Hid (CA g (splice cur.toList at_ (repC [.int .u8 x] i)).toArray 5 wr) ∧ Hid (Below w.heap.size w wr)) (fun vi _ => at_ + n - (intOf vi).toNat)
    case atStart => exact ⟨0, Nat.zero_le _, rfl, by rw [repC, splice_nil]; exact HC, HB2⟩
    case round =>
      obtain ⟨i, hi, rfl, HC2, HK2⟩ := hrel
      obtain ⟨q, hq⟩ : ∃ q, q = at_ + i := ⟨_, rfl⟩
      rw [← hq]
      by_cases hlt : i < n
      · have hfit : q < (splice cur.toList at_ (repC [.int .u8 x] i)).length := by
          rw [length_splice _ _ _ (by rw [repC_len]; have := HNC.out; simp; omega)]
          have := HNC.out
          simp; omega
        have z0 : wr.cell? ⟨g, q, none⟩ = some ((splice cur.toList at_ (repC [.int .u8 x] i))[q]) := HC2.out.at (by rw [List.getElem?_toArray, List.getElem?_eq_getElem hfit])
        have z1 := HC2.out.free q
        generalize (splice cur.toList at_ (repC [.int .u8 x] i))[q] = o0 at z0
        have hqn : q < at_ + n := by omega
        have hqN : q < N := by have := HH.out; omega
        have HQ := hid hq
        clear hfit hq
        go_wp2
        go_roundw
        case rel =>
          refine ⟨i + 1, hlt, by rw [HQ.out]; go_num, ?_, (HK2.out.setCell (p := ⟨g, q, none⟩) HBG.out _)⟩
          have hs := HC2.out.set (k := q) (.int .u8 x)
          rw [HQ.out, set_step _ [] _ _ _ (by have := HNC.out; simp; omega), ← HQ.out] at hs
          exact hs
        case measure => simp [intOf]; omega
      · obtain rfl : i = n := by omega
        have hqe : ¬ q < at_ + i := by omega
        have HQ := hid hq
        clear hq
        go_wp2
        go_ret2
        refine ⟨some ⟨g, 0, none⟩, c2, rfl, HR2.out.splice (by rw [repC_len]; have := HH.out; simp; omega) (repC_one (by simp [Value.oneCell']) _) (fun cur2 hc2 => ?_), HK2.out, HN2.out⟩
        have hc3 := HC.out
        unfold CA at hc3
        rw [hc3] at hc2
        cases hc2
        exact HC2.out
end Go.Proofs.Ytlifnddofgeaaaa
