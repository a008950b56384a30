/-
  Both sides' contracts by one Bool each: what was done, or nothing. Condition: fewer elements than memory holds.
-/
import Derived.Test.YtlifnddofgeaaaaLBack
set_option linter.unusedSimpArgs false
set_option linter.unusedVariables false
set_option maxRecDepth 100000
namespace Go.Proofs.Ytlifnddofgeaaaa
open Go.RowKit

def gN (ok : Bool) (a b : Nat) : Nat := if ok = true then b else a
def gE (ok : Bool) (k : Int) : Int := if ok = true then k else -1
def gX {α : Type} (ok : Bool) (xs ys : List α) : List α := if ok = true then xs ++ ys else xs
/-- Where a row lies behind a call: no older block that was not its own. -/
def NB (w : World) (p p' : Option Addr) : Prop := ∀ g, g < w.heap.size → blk p ≠ some g → blk p' ≠ some g
theorem NB.refl (w : World) (p : Option Addr) : NB w p p := fun _ _ h => h
theorem NB.new {w : World} {p p' : Option Addr} (h : Nx w none p') : NB w p p' := by
  intro g hg _ e
  rcases h with rfl | ⟨g', rfl, h2⟩
  · cases e
  · have : g' = g := by simpa [blk] using e
    omega
theorem NB.nx {w : World} {p p' : Option Addr} (h : Nx w p p') : NB w p p' := fun g hg hne => h.ne hne hg
theorem NB.fresh {w : World} {p : Option Addr} {g : Nat} (h : w.heap.size ≤ g) : NB w p (some ⟨g, 0, none⟩) := by
  intro g' hg _ e
  have : g = g' := by simpa [blk] using e
  omega
theorem rput_b (p sp : Option Addr) (N c M sc to_ from_ n : Nat) (xs ys : List Value) (w : World) (hm : Sl 1 p N c xs w) (hs : Sl 1 sp M sc ys w) (hN2 : N ≤ 100000000000) (hto : to_ < 18446744073709551616) (hfr : from_ < 18446744073709551616) (hn : n < 18446744073709551616) :
    Calls Try.prog 10 #[.slice p N c, .int .u64 to_, .int .u64 from_, .int .u64 n, .slice sp M sc] w fun e w' => ∃ p' c', e = .returned (.tuple #[.slice p' N c', .int .i64 (errP (okP N M to_ from_ n) 44)]) ∧ Sl 1 p' N c' (putP (okP N M to_ from_ n) 1 xs ys to_ from_ n) w' ∧ Below w.heap.size w w' ∧ NB w p p' := by
  by_cases h : to_ + n ≤ N ∧ from_ + n ≤ M
  · rw [okP_yes h.1 h.2]
    refine (put_b_yes p sp N c M sc to_ from_ n xs ys w hm hs hN2 h.1 h.2).mono fun e w' he => ?_
    obtain ⟨p', c', e1, e2, e3, e4⟩ := he
    exact ⟨p', c', e1, e2.sl, e3, NB.new e4⟩
  · rw [okP_no h]
    refine (put_b_no p sp N c M sc to_ from_ n (by have := hm.cap; have := hm.big; omega) (by have := hs.cap; have := hs.big; omega) hto hfr hn h w).mono fun e w' he => ?_
    obtain ⟨rfl, rfl⟩ := he
    exact ⟨p, c, rfl, hm, Below.refl _ _, NB.refl _ _⟩
theorem rput_v (p sp : Option Addr) (N c M sc to_ from_ n : Nat) (xs ys : List Value) (w : World) (hm : Sl 4 p N c xs w) (hs : Sl 4 sp M sc ys w) (hN2 : N ≤ 100000000000) (hto : to_ < 18446744073709551616) (hfr : from_ < 18446744073709551616) (hn : n < 18446744073709551616) :
    Calls Try.prog 20 #[.slice p N c, .int .u64 to_, .int .u64 from_, .int .u64 n, .slice sp M sc] w fun e w' => ∃ p' c', e = .returned (.tuple #[.slice p' N c', .int .i64 (errP (okP N M to_ from_ n) 45)]) ∧ Sl 4 p' N c' (putP (okP N M to_ from_ n) 4 xs ys to_ from_ n) w' ∧ Below w.heap.size w w' ∧ NB w p p' := by
  by_cases h : to_ + n ≤ N ∧ from_ + n ≤ M
  · rw [okP_yes h.1 h.2]
    refine (put_v_yes p sp N c M sc to_ from_ n xs ys w hm hs hN2 h.1 h.2).mono fun e w' he => ?_
    obtain ⟨p', c', e1, e2, e3, e4⟩ := he
    exact ⟨p', c', e1, e2.sl, e3, NB.new e4⟩
  · rw [okP_no h]
    refine (put_v_no p sp N c M sc to_ from_ n (by have := hm.cap; have := hm.big; omega) (by have := hs.cap; have := hs.big; omega) hto hfr hn h w).mono fun e w' he => ?_
    obtain ⟨rfl, rfl⟩ := he
    exact ⟨p, c, rfl, hm, Below.refl _ _, NB.refl _ _⟩
theorem rfill_b (p : Option Addr) (N c at_ n : Nat) (x : Int) (xs : List Value) (w : World) (hm : Sl 1 p N c xs w) (hN2 : N ≤ 100000000000) (ha : at_ < 18446744073709551616) (hn : n < 18446744073709551616) :
    Calls Try.prog 12 #[.slice p N c, .int .u64 at_, .int .u8 x, .int .u64 n] w fun e w' => ∃ p' c', e = .returned (.tuple #[.slice p' N c', .int .i64 (errP (okF N at_ n) 44)]) ∧ Sl 1 p' N c' (fillP (okF N at_ n) 1 xs [.int .u8 x] at_ n) w' ∧ Below w.heap.size w w' ∧ NB w p p' := by
  by_cases h : at_ + n ≤ N
  · rw [okF_yes h]
    refine (rfill_yes p N c at_ n x xs w hm hN2 h).mono fun e w' he => ?_
    obtain ⟨p', c', e1, e2, e3, e4⟩ := he
    refine ⟨p', c', e1, ?_, e3, NB.new e4⟩
    rw [fillP, if_pos rfl, Nat.mul_one]
    exact e2.sl
  · rw [okF_no h]
    refine (rfill_no p N c at_ n x (by have := hm.cap; have := hm.big; omega) ha hn h w).mono fun e w' he => ?_
    obtain ⟨rfl, rfl⟩ := he
    exact ⟨p, c, rfl, hm, Below.refl _ _, NB.refl _ _⟩
theorem rgrow_b (p : Option Addr) (k c n : Nat) (most mn mx : Int) (has : Bool) (xs : List Value) (w : World) (hm : Sl 1 p (65536 * k) c xs w) (hk0 : k ≤ 65536) (hn : n < 18446744073709551616) (h1 : -9223372036854775808 ≤ most) (h2 : most < 9223372036854775808) (h3 : -9223372036854775808 ≤ mx) (h4 : mx < 9223372036854775808) (ok : Bool) (hr : roomB k n (lim65 most) mx has = ok) :
    Calls Try.prog 18 #[.slice p (65536 * k) c, .agg #[.int .i64 mn, .int .i64 mx, .bool has], .int .u64 n, .int .i64 most] w fun e w' => ∃ p' c', e = .returned (.tuple #[.slice p' (65536 * gN ok k (k + n)) c', .int .i64 (gE ok k)]) ∧ Sl 1 p' (65536 * gN ok k (k + n)) c' (gX ok xs (repC [.int .u8 0] (65536 * n))) w' ∧ Below w.heap.size w w' ∧ NB w p p' := by
  cases ok with
  | true =>
    refine (rgrow_yes p k c n most mn mx has xs w hm hk0 hn h1 h2 h3 h4 hr).mono fun e w' he => ?_
    obtain ⟨p', c', e1, e2, e3, e4⟩ := he
    exact ⟨p', c', e1, e2.sl, e3, NB.new e4⟩
  | false =>
    refine (rgrow_no p k c n most mn mx has w hk0 hn h1 h2 h3 h4 hr).mono fun e w' he => ?_
    obtain ⟨e1, e2⟩ := he
    exact ⟨p, c, e1, hm.below e2, e2, NB.refl _ _⟩
theorem grow_b (B gm : Nat) (mn mx : Int) (has : Bool) (p : Option Addr) (k c n : Nat) (most : Int) (xs : List Value) (w : World) (hm : MemA B gm mn mx has p (65536 * k) c xs w) (hB : B ≤ w.heap.size) (hk : k ≤ 65536) (hn : n < 18446744073709551616) (h1 : -9223372036854775808 ≤ most) (h2 : most < 9223372036854775808) (h3 : -9223372036854775808 ≤ mx) (h4 : mx < 9223372036854775808) (ok : Bool) (hr : roomB k n (lim65 most) mx has = ok) :
    Calls Try.prog 17 #[.pointer (some ⟨gm, 0, none⟩), .int .u64 n, .int .i64 most] w fun e w' => ∃ p' c', e = .returned (.int .i64 (gE ok k)) ∧ MemA B gm mn mx has p' (65536 * gN ok k (k + n)) c' (gX ok xs (repC [.int .u8 0] (65536 * n))) w' ∧ KP (some gm) w w' ∧ NB w p p' := by
  cases ok with
  | true =>
    refine (grow_m_yes B gm mn mx has p k c n most xs w hm hB hk hn h1 h2 h3 h4 hr).mono fun e w' he => ?_
    obtain ⟨p', c', e1, e2, e3, e4⟩ := he
    refine ⟨p', c', e1, e2, e3, ?_⟩
    rcases e4 with rfl | ⟨g, rfl, hg⟩
    · exact NB.refl _ _
    · exact NB.fresh hg
  | false =>
    refine (grow_m_no B gm mn mx has p k c n most xs w hm hk hn h1 h2 h3 h4 hr).mono fun e w' he => ?_
    obtain ⟨e1, e2⟩ := he
    exact ⟨p, c, e1, hm.below e2, KP.of e2, NB.refl _ _⟩
theorem rgrow_v (p : Option Addr) (N c n : Nat) (mn mx : Int) (has : Bool) (x0 : Int) (x1 x2 : Nat) (x3 : Bool) (xs : List Value) (w : World) (hm : Sl 4 p N c xs w) (hN : N < 4611686018427387904) (hn : n < 18446744073709551616) (h3 : -9223372036854775808 ≤ mx) (h4 : mx < 9223372036854775808) (ok : Bool) (hr : roomB N n 10000 mx has = ok) :
    Calls Try.prog 27 #[.slice p N c, .agg #[.int .i64 mn, .int .i64 mx, .bool has], .int .u64 n, .agg #[.int .i64 x0, .int .u64 x1, .int .u64 x2, .bool x3]] w fun e w' => ∃ p' c', e = .returned (.tuple #[.slice p' (gN ok N (N + n)) c', .int .i64 (gE ok N)]) ∧ Sl 4 p' (gN ok N (N + n)) c' (gX ok xs (repC [.int .i64 x0, .int .u64 x1, .int .u64 x2, .bool x3] n)) w' ∧ Below w.heap.size w w' ∧ NB w p p' := by
  cases ok with
  | true =>
    refine (rgrowt_yes p N c n mn mx has x0 x1 x2 x3 xs w hm hN hn h3 h4 hr).mono fun e w' he => ?_
    obtain ⟨p', c', e1, e2, e3, e4⟩ := he
    exact ⟨p', c', e1, e2.sl, e3, NB.new e4⟩
  | false =>
    refine (rgrowt_no p N c n mn mx has x0 x1 x2 x3 w hN hn h3 h4 hr).mono fun e w' he => ?_
    obtain ⟨e1, e2⟩ := he
    exact ⟨p, c, e1, hm.below e2, e2, NB.refl _ _⟩
theorem grow_v (B gm : Nat) (rf mn mx : Int) (has : Bool) (p : Option Addr) (N c n : Nat) (x0 : Int) (x1 x2 : Nat) (x3 : Bool) (xs : List Value) (w : World) (hB : B ≤ w.heap.size) (hm : TabA B gm rf mn mx has p N c xs w) (hN : N < 4611686018427387904) (hn : n < 18446744073709551616) (h3 : -9223372036854775808 ≤ mx) (h4 : mx < 9223372036854775808) (ok : Bool) (hr : roomB N n 10000 mx has = ok) :
    Calls Try.prog 26 #[.pointer (some ⟨gm, 0, none⟩), .int .u64 n, .agg #[.int .i64 x0, .int .u64 x1, .int .u64 x2, .bool x3]] w fun e w' => ∃ p' c', e = .returned (.int .i64 (gE ok N)) ∧ TabA B gm rf mn mx has p' (gN ok N (N + n)) c' (gX ok xs (repC [.int .i64 x0, .int .u64 x1, .int .u64 x2, .bool x3] n)) w' ∧ KP (some gm) w w' ∧ NB w p p' := by
  cases ok with
  | true =>
    refine (grow_t_yes B gm rf mn mx has p N c n x0 x1 x2 x3 xs w hB hm hN hn h3 h4 hr).mono fun e w' he => ?_
    obtain ⟨g, e1, e2, e3, e4⟩ := he
    exact ⟨some ⟨g, 0, none⟩, N + n, e1, e2, e3, NB.fresh e4⟩
  | false =>
    refine (grow_t_no B gm rf mn mx has p N c n x0 x1 x2 x3 xs w hm hN hn h3 h4 hr).mono fun e w' he => ?_
    obtain ⟨e1, e2⟩ := he
    exact ⟨p, c, e1, hm.below e2, KP.of e2, NB.refl _ _⟩
theorem bytes_rep (m : Nat) (u : UInt8) : Lib.byteCells (List.replicate m u) = repC [.int .u8 u.toNat] m := by
  induction m with
  | zero => rfl
  | succ m ih => rw [List.replicate_succ, repC, ← ih]; rfl
theorem gX_bytes (ok : Bool) (l : List UInt8) (m : Nat) : gX ok (Lib.byteCells l) (repC [.int .u8 0] m) = Lib.byteCells (gX ok l (List.replicate m 0)) := by
  cases ok with
  | false => rfl
  | true => show _ ++ _ = Lib.byteCells (_ ++ _); rw [Lib.byteCells_append, bytes_rep]; rfl
theorem gX_vals (ok : Bool) (l : List V4) (x : V4) (m : Nat) : gX ok (cellsV l) (repC x.cs m) = cellsV (gX ok l (List.replicate m x)) := by
  cases ok with
  | false => rfl
  | true => show _ ++ _ = cellsV (_ ++ _); rw [cellsV_app, cellsV_rep]
theorem fillP_bytes (ok : Bool) (l : List UInt8) (u : UInt8) (a n : Nat) : fillP ok 1 (Lib.byteCells l) [.int .u8 u.toNat] a n = Lib.byteCells (if ok = true then splice l a (List.replicate n u) else l) := by
  cases ok with
  | false => rfl
  | true => rw [fillP, if_pos rfl, if_pos rfl, bytes_splice, bytes_rep, Nat.mul_one]
theorem putP_vals (ok : Bool) (l m : List V4) (a b n : Nat) : putP ok 4 (cellsV l) (cellsV m) a b n = cellsV (if ok = true then splice l a (cut m b n) else l) := by
  cases ok with
  | false => rfl
  | true => rw [putP, if_pos rfl, if_pos rfl, cellsV_splice, cellsV_cut]
theorem fillP_vals (ok : Bool) (l : List V4) (x : V4) (a n : Nat) : fillP ok 4 (cellsV l) x.cs a n = cellsV (if ok = true then splice l a (List.replicate n x) else l) := by
  cases ok with
  | false => rfl
  | true => rw [fillP, if_pos rfl, if_pos rfl, cellsV_splice, cellsV_rep]
end Go.Proofs.Ytlifnddofgeaaaa
