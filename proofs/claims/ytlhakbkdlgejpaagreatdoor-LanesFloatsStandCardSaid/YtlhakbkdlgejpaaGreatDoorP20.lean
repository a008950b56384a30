/-
  FReg, FNormal, FRoundMath, FSmall2, FParts, FApi, FSumMath, FPartsMath, FOpMath, FOrderM: merged, what the law does not reach left out (each text says what it holds where it lies in wip). No condition.
-/
import Derived.Test.YtlhakbkdlgejpaaGreatDoorP19
import Derived.LoopTactic
import Derived.Deep.RegionWith
import Derived.Deep.DeepCutAuto
set_option linter.unusedSimpArgs false
set_option linter.unusedVariables false
set_option maxRecDepth 100000
namespace Go.Proofs.YtlhakbkdlgejpaaGreatDoor.Fl
open Go.RowKit
theorem balloc {w w1 : World} (h : Below w.heap.size w w1) (o : Obj) : Below w.heap.size w (w1.alloc o) := h.alloc h.size o
/-- Block g holds a format. -/
def Fb (E P : Int) (g : Nat) (W : World) : Prop := W.cell? ⟨g, 0, none⟩ = some (.int .i64 E) ∧ W.cell? ⟨g, 1, none⟩ = some (.int .i64 P)
/-- Block g holds a number. -/
def Nb (g : Nat) (ng : Bool) (m e : Int) (W : World) : Prop :=
  (W.cell? ⟨g, 0, none⟩ = some (.bool ng) ∧ W.cell? ⟨g, 1, none⟩ = some (.int .u64 m) ∧ W.cell? ⟨g, 2, none⟩ = some (.int .i64 e)) ∧
  (W.frozen? ⟨g, 0, none⟩ = false ∧ W.frozen? ⟨g, 1, none⟩ = false ∧ W.frozen? ⟨g, 2, none⟩ = false)
theorem Fb.lt {E P : Int} {g : Nat} {W : World} (h : Fb E P g W) : g < W.heap.size := World.block_lt_of_cell? _ _ h.1
theorem Nb.lt {g : Nat} {ng : Bool} {m e : Int} {W : World} (h : Nb g ng m e W) : g < W.heap.size := World.block_lt_of_cell? _ _ h.1.1
theorem Fb.call {E P : Int} {g : Nat} {W W' : World} (h : Fb E P g W) (hb : Below W.heap.size W W') : Fb E P g W' := ⟨bkeep h.1 hb, bkeep h.2 hb⟩
theorem Nb.call {g : Nat} {ng : Bool} {m e : Int} {W W' : World} (h : Nb g ng m e W) (hb : Below W.heap.size W W') : Nb g ng m e W' := by
  have hl := h.lt
  refine ⟨⟨bkeep h.1.1 hb, bkeep h.1.2.1 hb, bkeep h.1.2.2 hb⟩, ?_, ?_, ?_⟩
  · rw [hb.frozen (p := ⟨g, 0, none⟩) hl]; exact h.2.1
  · rw [hb.frozen (p := ⟨g, 1, none⟩) hl]; exact h.2.2.1
  · rw [hb.frozen (p := ⟨g, 2, none⟩) hl]; exact h.2.2.2
theorem ball (W : World) (o : Obj) : Below W.heap.size W (W.alloc o) := (Below.refl _ _).alloc (Nat.le_refl _) o
theorem Fb.alloc {E P : Int} {g : Nat} {W : World} (h : Fb E P g W) (o : Obj) : Fb E P g (W.alloc o) := h.call (ball W o)
theorem Nb.alloc {g : Nat} {ng : Bool} {m e : Int} {W : World} (h : Nb g ng m e W) (o : Obj) : Nb g ng m e (W.alloc o) := h.call (ball W o)
theorem Fb.drew {E P : Int} {g : Nat} {W : World} (h : Fb E P g W) : Fb E P g W.drew := h
theorem Nb.drew {g : Nat} {ng : Bool} {m e : Int} {W : World} (h : Nb g ng m e W) : Nb g ng m e W.drew := h
theorem Fb.new (E P : Int) (W : World) : Fb E P W.heap.size (W.alloc (.cells #[.int .i64 E, .int .i64 P] 141)) := ⟨by simp, by simp⟩
theorem Nb.new (ng : Bool) (m e : Int) (W : World) : Nb W.heap.size ng m e (W.alloc (.cells #[.bool ng, .int .u64 m, .int .i64 e] 193)) :=
  ⟨⟨by simp, by simp, by simp⟩, by simp, by simp, by simp⟩
theorem Fb.set {E P : Int} {g c o : Nat} {u : Value} {W : World} (h : Fb E P g W) (hne : c ≠ g) : Fb E P g (W.setCell ⟨c, o, none⟩ u) := by
  refine ⟨?_, ?_⟩
  · rw [World.cell?_setCell_far _ _ _ _ hne]; exact h.1
  · rw [World.cell?_setCell_far _ _ _ _ hne]; exact h.2
theorem bset {w w1 : World} {c o : Nat} {u : Value} (h : Below w.heap.size w w1) (hc : w.heap.size ≤ c) : Below w.heap.size w (w1.setCell ⟨c, o, none⟩ u) := h.setCell hc u
theorem frozen_set {W : World} {a p : Addr} {u : Value} : (W.setCell p u).frozen? a = W.frozen? a := by simp
theorem Nb.set {g c o : Nat} {ng : Bool} {m e : Int} {u : Value} {W : World} (h : Nb g ng m e W) (hne : c ≠ g) : Nb g ng m e (W.setCell ⟨c, o, none⟩ u) := by
  refine ⟨⟨?_, ?_, ?_⟩, ?_, ?_, ?_⟩
  · rw [World.cell?_setCell_far _ _ _ _ hne]; exact h.1.1
  · rw [World.cell?_setCell_far _ _ _ _ hne]; exact h.1.2.1
  · rw [World.cell?_setCell_far _ _ _ _ hne]; exact h.1.2.2
  · rw [frozen_set]; exact h.2.1
  · rw [frozen_set]; exact h.2.2.1
  · rw [frozen_set]; exact h.2.2.2
theorem sSame {W : World} {g o : Nat} {v u : Value} (h : W.cell? ⟨g, o, none⟩ = some u) : (W.setCell ⟨g, o, none⟩ v).cell? ⟨g, o, none⟩ = some v := World.cell?_setCell_same _ _ _ h
theorem sOther {W : World} {g o o' : Nat} {v u : Value} (h : W.cell? ⟨g, o', none⟩ = some u) (hne : o ≠ o') : (W.setCell ⟨g, o, none⟩ v).cell? ⟨g, o', none⟩ = some u := by
  rw [World.cell?_setCell_other _ _ _ _ (fun e => hne (by injection e))]; exact h
theorem Nb.store {g : Nat} {ng ng' : Bool} {m e m' e' : Int} {W : World} (h : Nb g ng m e W) :
    Nb g ng' m' e' (((W.setCell ⟨g, 0, none⟩ (.bool ng')).setCell ⟨g, 1, none⟩ (.int .u64 m')).setCell ⟨g, 2, none⟩ (.int .i64 e')) := by
  have h0 := h.1.1
  have h1 := h.1.2.1
  have h2 := h.1.2.2
  refine ⟨⟨sOther (sOther (sSame h0) (by decide)) (by decide), sOther (sSame (sOther h1 (by decide))) (by decide), sSame (sOther (sOther h2 (by decide)) (by decide))⟩, ?_, ?_, ?_⟩
  · simp only [frozen_set]; exact h.2.1
  · simp only [frozen_set]; exact h.2.2.1
  · simp only [frozen_set]; exact h.2.2.2
/-- What a region of a function on formats keeps. -/
def Sx (E P : Int) (w W : World) : Prop := Fb E P w.heap.size W ∧ Below w.heap.size w W
theorem Sx.lt {E P : Int} {w W : World} (h : Sx E P w W) : w.heap.size < W.heap.size := h.1.lt
theorem Sx.call {E P : Int} {w W W' : World} (h : Sx E P w W) (hb : Below W.heap.size W W') : Sx E P w W' := ⟨h.1.call hb, bnext h.2 hb⟩
theorem Sx.alloc {E P : Int} {w W : World} (h : Sx E P w W) (o : Obj) : Sx E P w (W.alloc o) := h.call (ball W o)
theorem Sx.drew {E P : Int} {w W : World} (h : Sx E P w W) : Sx E P w W.drew := ⟨h.1, h.2.drew⟩
theorem Sx.new (E P : Int) (w : World) : Sx E P w (w.alloc (.cells #[.int .i64 E, .int .i64 P] 141)) := ⟨Fb.new E P w, ball w _⟩
theorem Sx.set {E P : Int} {w W : World} {c o : Nat} {u : Value} (h : Sx E P w W) (hne : w.heap.size < c) : Sx E P w (W.setCell ⟨c, o, none⟩ u) := ⟨h.1.set (by omega), bset h.2 (by omega)⟩
end Go.Proofs.YtlhakbkdlgejpaaGreatDoor.Fl
namespace Go.Proofs.YtlhakbkdlgejpaaGreatDoor.Fl
open Go.RowKit
/-- The lower bound of a number that is not 0 when shifts by k and less are still to come. -/
def nlow (k : Nat) : Nat := if k = 0 then 2 ^ 63 else 2 ^ (64 - 2 * k)
/-- The state of normal's loop. -/
def NS (w : World) (ng : Bool) (m : Nat) (e : Int) (k : Nat) (wr : World) : Prop :=
  ∃ j : Nat, (j + 2 * k ≤ 64 ∧ j ≤ 63) ∧ (m ≠ 0 → nlow k ≤ m * 2 ^ j) ∧ m * 2 ^ j < 18446744073709551616 ∧ Nb w.heap.size ng ((m * 2 ^ j : Nat) : Int) (e - j) wr ∧ Nb (w.heap.size + 1) false 0 0 wr ∧ Below w.heap.size w wr
theorem NS.start (w : World) (ng : Bool) (m : Nat) (e : Int) (hm : m < 18446744073709551616) :
    NS w ng m e 32 ((w.alloc (.cells #[.bool ng, .int .u64 m, .int .i64 e] 193)).alloc (.cells #[.bool false, .int .u64 0, .int .i64 0] 193)) := by
  refine ⟨0, by omega, fun h => ?_, by simpa using hm, ?_, ?_, balloc (ball w _) _⟩
  · simp [nlow]; omega
  · have := (Nb.new ng m e w).alloc (.cells #[.bool false, .int .u64 0, .int .i64 0] 193)
    simpa using this
  · have := Nb.new false 0 0 (w.alloc (.cells #[.bool ng, .int .u64 m, .int .i64 e] 193))
    simpa using this
end Go.Proofs.YtlhakbkdlgejpaaGreatDoor.Fl
namespace Go.Proofs.YtlhakbkdlgejpaaGreatDoor.Fl
open Ieee
theorem log2_lt_of {n k : Nat} (h0 : n ≠ 0) (h : n < 2 ^ k) : n.log2 < k := (Nat.log2_lt h0).2 h
end Go.Proofs.YtlhakbkdlgejpaaGreatDoor.Fl
namespace Go.Proofs.YtlhakbkdlgejpaaGreatDoor.Fl
open Go.RowKit
theorem kindOf_four (INF s : Nat) : (kindOf INF s = 4) = (INF < s) := by
  unfold kindOf
  apply propext
  split
  · subst s; simp
  · split
    · simp; omega
    · split
      · subst s; simp
      · simp; omega
/-- How a word stands to others, if it is no NaN. -/
def rankOf (SB a : Nat) : Int := if SB ≤ a then -((a % SB : Nat) : Int) else ((a % SB : Nat) : Int)
theorem anyNaN_32 (a b : Nat) (ha : a < 4294967296) (hb : b < 4294967296) (w : World) : Calls Tryz.prog 186 #[.agg #[.int .i64 8, .int .i64 23], .int .u64 a, .int .u64 b] w fun e w' => e = .returned (.bool (decide (2139095040 < a % 2147483648 ∨ 2139095040 < b % 2147483648))) ∧ Below w.heap.size w w' := by
  have KA := fun w => hid (kind_32 a ha w)
  have KB := fun w => hid (kind_32 b hb w)
  have ea := kindOf_four 2139095040 (a % 2147483648)
  have eb := kindOf_four 2139095040 (b % 2147483648)
  obtain ⟨k, hk⟩ : ∃ k : Nat, k = kindOf 2139095040 (a % 2147483648) := ⟨_, rfl⟩
  obtain ⟨j, hj⟩ : ∃ j : Nat, j = kindOf 2139095040 (b % 2147483648) := ⟨_, rfl⟩
  rw [← hk] at KA ea
  rw [← hj] at KB eb
  simp only [← ea, ← eb]
  clear ea eb hk hj
  have h0 : Below w.heap.size w w := Below.refl _ _
  by_cases h : k = 4
  · subst h
    go_enter Tryz.func186, Tryz.ntmps186
    go_wp2_with (go_at_call 241; (with_reducible refine (KA _).out.mono ?_); rintro e w1 ⟨rfl, hb1⟩; have c0 := bkeep (a := ⟨w.heap.size, 0, none⟩) (v := .int .i64 8) (by simp) hb1; have c1 := bkeep (a := ⟨w.heap.size, 1, none⟩) (v := .int .i64 23) (by simp) hb1)
    go_ret
    exact ⟨by simp, bnext ((Below.refl _ _).alloc (Nat.le_refl _) _) hb1⟩
  · have e1 : ((k : Int) == 4) = false := by simp; omega
    by_cases h2 : j = 4
    · subst h2
      go_enter Tryz.func186, Tryz.ntmps186
      go_wp2_with (first
        | (go_at_call 241; ((with_reducible refine (KA _).out.mono ?_); rintro e w1 ⟨rfl, hb1⟩; have c0 := bkeep (a := ⟨w.heap.size, 0, none⟩) (v := .int .i64 8) (by simp) hb1; have c1 := bkeep (a := ⟨w.heap.size, 1, none⟩) (v := .int .i64 23) (by simp) hb1))
        | (go_at_call 241; ((with_reducible refine (KB _).out.mono ?_); rintro e w2 ⟨rfl, hb2⟩)))
      go_ret
      exact ⟨by simp, bnext (bnext ((Below.refl _ _).alloc (Nat.le_refl _) _) hb1) hb2⟩
    · have e2 : ((j : Int) == 4) = false := by simp; omega
      rw [show decide (k = 4 ∨ j = 4) = false by simp [h, h2]]
      clear h h2
      go_enter Tryz.func186, Tryz.ntmps186
      go_wp2_with (first
        | (go_at_call 241; ((with_reducible refine (KA _).out.mono ?_); rintro e w1 ⟨rfl, hb1⟩; have c0 := bkeep (a := ⟨w.heap.size, 0, none⟩) (v := .int .i64 8) (by simp) hb1; have c1 := bkeep (a := ⟨w.heap.size, 1, none⟩) (v := .int .i64 23) (by simp) hb1))
        | (go_at_call 241; ((with_reducible refine (KB _).out.mono ?_); rintro e w2 ⟨rfl, hb2⟩)))
      go_ret
      exact ⟨rfl, bnext (bnext ((Below.refl _ _).alloc (Nat.le_refl _) _) hb1) hb2⟩
theorem rank_32 (a : Nat) (ha : a < 4294967296) (w : World) : Calls Tryz.prog 187 #[.agg #[.int .i64 8, .int .i64 23], .int .u64 a] w fun e w' => e = .returned (.int .i64 (rankOf 2147483648 a)) ∧ Below w.heap.size w w' := by
  have HS := fun w => hid (size_32 a ha w)
  have HG := fun w => hid (sign_32 a ha w)
  have hr : rankOf 2147483648 a = if 2147483648 ≤ a then -((a % 2147483648 : Nat) : Int) else ((a % 2147483648 : Nat) : Int) := rfl
  rw [hr]; clear hr
  obtain ⟨s, hs⟩ : ∃ s : Nat, s = a % 2147483648 := ⟨_, rfl⟩
  rw [← hs] at HS ⊢
  have hs2 : s < 2147483648 := by omega
  clear hs
  by_cases h : 2147483648 ≤ a
  · rw [if_pos h] at HG ⊢
    clear h ha
    go_enter Tryz.func187, Tryz.ntmps187
    go_wp2_with (first
      | (go_at_call 182; ((with_reducible refine (HS _).out.mono ?_); rintro e w1 ⟨rfl, hb1⟩; have c0 := bkeep (a := ⟨w.heap.size, 0, none⟩) (v := .int .i64 8) (by simp) hb1; have c1 := bkeep (a := ⟨w.heap.size, 1, none⟩) (v := .int .i64 23) (by simp) hb1))
      | (go_at_call 189; ((with_reducible refine (HG _).out.mono ?_); rintro e w2 ⟨rfl, hb2⟩)))
    go_ret
    exact ⟨rfl, bnext (bnext ((Below.refl _ _).alloc (Nat.le_refl _) _) hb1) hb2⟩
  · rw [if_neg h] at HG ⊢
    clear h ha
    go_enter Tryz.func187, Tryz.ntmps187
    go_wp2_with (first
      | (go_at_call 182; ((with_reducible refine (HS _).out.mono ?_); rintro e w1 ⟨rfl, hb1⟩; have c0 := bkeep (a := ⟨w.heap.size, 0, none⟩) (v := .int .i64 8) (by simp) hb1; have c1 := bkeep (a := ⟨w.heap.size, 1, none⟩) (v := .int .i64 23) (by simp) hb1))
      | (go_at_call 189; ((with_reducible refine (HG _).out.mono ?_); rintro e w2 ⟨rfl, hb2⟩)))
    go_ret
    exact ⟨rfl, bnext (bnext ((Below.refl _ _).alloc (Nat.le_refl _) _) hb1) hb2⟩
theorem anyNaN_64 (a b : Nat) (ha : a < 18446744073709551616) (hb : b < 18446744073709551616) (w : World) : Calls Tryz.prog 186 #[.agg #[.int .i64 11, .int .i64 52], .int .u64 a, .int .u64 b] w fun e w' => e = .returned (.bool (decide (9218868437227405312 < a % 9223372036854775808 ∨ 9218868437227405312 < b % 9223372036854775808))) ∧ Below w.heap.size w w' := by
  have KA := fun w => hid (kind_64 a ha w)
  have KB := fun w => hid (kind_64 b hb w)
  have ea := kindOf_four 9218868437227405312 (a % 9223372036854775808)
  have eb := kindOf_four 9218868437227405312 (b % 9223372036854775808)
  obtain ⟨k, hk⟩ : ∃ k : Nat, k = kindOf 9218868437227405312 (a % 9223372036854775808) := ⟨_, rfl⟩
  obtain ⟨j, hj⟩ : ∃ j : Nat, j = kindOf 9218868437227405312 (b % 9223372036854775808) := ⟨_, rfl⟩
  rw [← hk] at KA ea
  rw [← hj] at KB eb
  simp only [← ea, ← eb]
  clear ea eb hk hj
  have h0 : Below w.heap.size w w := Below.refl _ _
  by_cases h : k = 4
  · subst h
    go_enter Tryz.func186, Tryz.ntmps186
    go_wp2_with (go_at_call 241; (with_reducible refine (KA _).out.mono ?_); rintro e w1 ⟨rfl, hb1⟩; have c0 := bkeep (a := ⟨w.heap.size, 0, none⟩) (v := .int .i64 11) (by simp) hb1; have c1 := bkeep (a := ⟨w.heap.size, 1, none⟩) (v := .int .i64 52) (by simp) hb1)
    go_ret
    exact ⟨by simp, bnext ((Below.refl _ _).alloc (Nat.le_refl _) _) hb1⟩
  · have e1 : ((k : Int) == 4) = false := by simp; omega
    by_cases h2 : j = 4
    · subst h2
      go_enter Tryz.func186, Tryz.ntmps186
      go_wp2_with (first
        | (go_at_call 241; ((with_reducible refine (KA _).out.mono ?_); rintro e w1 ⟨rfl, hb1⟩; have c0 := bkeep (a := ⟨w.heap.size, 0, none⟩) (v := .int .i64 11) (by simp) hb1; have c1 := bkeep (a := ⟨w.heap.size, 1, none⟩) (v := .int .i64 52) (by simp) hb1))
        | (go_at_call 241; ((with_reducible refine (KB _).out.mono ?_); rintro e w2 ⟨rfl, hb2⟩)))
      go_ret
      exact ⟨by simp, bnext (bnext ((Below.refl _ _).alloc (Nat.le_refl _) _) hb1) hb2⟩
    · have e2 : ((j : Int) == 4) = false := by simp; omega
      rw [show decide (k = 4 ∨ j = 4) = false by simp [h, h2]]
      clear h h2
      go_enter Tryz.func186, Tryz.ntmps186
      go_wp2_with (first
        | (go_at_call 241; ((with_reducible refine (KA _).out.mono ?_); rintro e w1 ⟨rfl, hb1⟩; have c0 := bkeep (a := ⟨w.heap.size, 0, none⟩) (v := .int .i64 11) (by simp) hb1; have c1 := bkeep (a := ⟨w.heap.size, 1, none⟩) (v := .int .i64 52) (by simp) hb1))
        | (go_at_call 241; ((with_reducible refine (KB _).out.mono ?_); rintro e w2 ⟨rfl, hb2⟩)))
      go_ret
      exact ⟨rfl, bnext (bnext ((Below.refl _ _).alloc (Nat.le_refl _) _) hb1) hb2⟩
theorem rank_64 (a : Nat) (ha : a < 18446744073709551616) (w : World) : Calls Tryz.prog 187 #[.agg #[.int .i64 11, .int .i64 52], .int .u64 a] w fun e w' => e = .returned (.int .i64 (rankOf 9223372036854775808 a)) ∧ Below w.heap.size w w' := by
  have HS := fun w => hid (size_64 a ha w)
  have HG := fun w => hid (sign_64 a ha w)
  have hr : rankOf 9223372036854775808 a = if 9223372036854775808 ≤ a then -((a % 9223372036854775808 : Nat) : Int) else ((a % 9223372036854775808 : Nat) : Int) := rfl
  rw [hr]; clear hr
  obtain ⟨s, hs⟩ : ∃ s : Nat, s = a % 9223372036854775808 := ⟨_, rfl⟩
  rw [← hs] at HS ⊢
  have hs2 : s < 9223372036854775808 := by omega
  clear hs
  by_cases h : 9223372036854775808 ≤ a
  · rw [if_pos h] at HG ⊢
    clear h ha
    go_enter Tryz.func187, Tryz.ntmps187
    go_wp2_with (first
      | (go_at_call 182; ((with_reducible refine (HS _).out.mono ?_); rintro e w1 ⟨rfl, hb1⟩; have c0 := bkeep (a := ⟨w.heap.size, 0, none⟩) (v := .int .i64 11) (by simp) hb1; have c1 := bkeep (a := ⟨w.heap.size, 1, none⟩) (v := .int .i64 52) (by simp) hb1))
      | (go_at_call 189; ((with_reducible refine (HG _).out.mono ?_); rintro e w2 ⟨rfl, hb2⟩)))
    go_ret
    exact ⟨rfl, bnext (bnext ((Below.refl _ _).alloc (Nat.le_refl _) _) hb1) hb2⟩
  · rw [if_neg h] at HG ⊢
    clear h ha
    go_enter Tryz.func187, Tryz.ntmps187
    go_wp2_with (first
      | (go_at_call 182; ((with_reducible refine (HS _).out.mono ?_); rintro e w1 ⟨rfl, hb1⟩; have c0 := bkeep (a := ⟨w.heap.size, 0, none⟩) (v := .int .i64 11) (by simp) hb1; have c1 := bkeep (a := ⟨w.heap.size, 1, none⟩) (v := .int .i64 52) (by simp) hb1))
      | (go_at_call 189; ((with_reducible refine (HG _).out.mono ?_); rintro e w2 ⟨rfl, hb2⟩)))
    go_ret
    exact ⟨rfl, bnext (bnext ((Below.refl _ _).alloc (Nat.le_refl _) _) hb1) hb2⟩
end Go.Proofs.YtlhakbkdlgejpaaGreatDoor.Fl
namespace Go.Proofs.YtlhakbkdlgejpaaGreatDoor.Fl
open Go.RowKit
/-- The number of a float's parts. -/
def pm (P s : Nat) : Nat := if s / 2 ^ P = 0 then s else s % 2 ^ P + 2 ^ P
/-- The place of a float's parts. -/
def pe (P : Nat) (low : Int) (s : Nat) : Int := if s / 2 ^ P = 0 then low else low + ((s / 2 ^ P - 1 : Nat) : Int)
end Go.Proofs.YtlhakbkdlgejpaaGreatDoor.Fl
namespace Go.Proofs.YtlhakbkdlgejpaaGreatDoor.Fl
open Go.RowKit
/-- Block g holds the format, and nothing elder has turned. -/
def Sg (E P : Int) (w : World) (g : Nat) (W : World) : Prop := Fb E P g W ∧ w.heap.size ≤ g ∧ Below w.heap.size w W
theorem Sg.call {E P : Int} {w W W' : World} {g : Nat} (h : Sg E P w g W) (hb : Below W.heap.size W W') : Sg E P w g W' := ⟨h.1.call hb, h.2.1, bnext h.2.2 hb⟩
theorem Sg.drew {E P : Int} {w W : World} {g : Nat} (h : Sg E P w g W) : Sg E P w g W.drew := ⟨h.1, h.2.1, h.2.2.drew⟩
theorem Sg.alloc {E P : Int} {w W : World} {g : Nat} (h : Sg E P w g W) (o : Obj) : Sg E P w g (W.alloc o) := h.call (ball W o)
theorem Sg.lt {E P : Int} {w W : World} {g : Nat} (h : Sg E P w g W) : g < W.heap.size := h.1.lt
theorem Sg.new (E P : Int) {w w1 : World} (hb : Below w.heap.size w w1) : Sg E P w w1.heap.size (w1.alloc (.cells #[.int .i64 E, .int .i64 P] 141)) := ⟨Fb.new E P w1, hb.size, balloc hb _⟩
/-- How two numbers stand, by the operation. -/
def relI (op : Nat) (x y : Int) : Bool :=
  if op = 1 then x == y else if op = 2 then x != y else if op = 3 then decide (x < y) else if op = 4 then decide (y < x) else if op = 5 then decide (x ≤ y) else decide (y ≤ x)
/-- How two words stand. -/
def relW (SB INF op a b : Nat) : Bool := if INF < a % SB ∨ INF < b % SB then op == 2 else relI op (rankOf SB a) (rankOf SB b)
set_option maxHeartbeats 1600000 in
theorem Rel_32 (op : Nat) (hop : op = 1 ∨ op = 2 ∨ op = 3 ∨ op = 4 ∨ op = 5 ∨ op = 6) (a b : Nat) (ha : a < 18446744073709551616) (hb : b < 18446744073709551616) (w : World) :
    Calls Tryz.prog 110 #[.int .i64 32, .int .i64 op, .int .u64 a, .int .u64 b] w fun e w' => e = .returned (.tuple #[.bool (relW 2147483648 2139095040 op (a % 4294967296) (b % 4294967296)), .int .i64 0]) ∧ Below w.heap.size w w' := by
  have CA := fun w => hid (cut_32 a ha w)
  have CB := fun w => hid (cut_32 b hb w)
  have HN := fun w => hid (anyNaN_32 (a % 4294967296) (b % 4294967296) (by omega) (by omega) w)
  have RA := fun w => hid (rank_32 (a % 4294967296) (by omega) w)
  have RB := fun w => hid (rank_32 (b % 4294967296) (by omega) w)
  have hrw : relW 2147483648 2139095040 op (a % 4294967296) (b % 4294967296) = if 2139095040 < a % 4294967296 % 2147483648 ∨ 2139095040 < b % 4294967296 % 2147483648 then op == 2 else relI op (rankOf 2147483648 (a % 4294967296)) (rankOf 2147483648 (b % 4294967296)) := rfl
  rw [hrw]
  clear hrw
  generalize a % 4294967296 = a1 at *
  generalize b % 4294967296 = b1 at *
  generalize rankOf 2147483648 a1 = x at *
  generalize rankOf 2147483648 b1 = y at *
  have o1 : decide ((op : Int) < 1) = false := by simp; omega
  have o2 : decide ((6 : Int) < (op : Int)) = false := by simp; omega
  clear ha
  by_cases hn : 2139095040 < a1 % 2147483648 ∨ 2139095040 < b1 % 2147483648
  · rw [if_pos hn]
    rw [show decide (2139095040 < a1 % 2147483648 ∨ 2139095040 < b1 % 2147483648) = true by simp [hn]] at HN
    have ho : ((op : Int) == 2) = (op == 2) := Bool.eq_iff_iff.2 (by rw [beq_iff_eq, beq_iff_eq]; omega)
    clear hn hop RA RB hb
    go_enter Tryz.func110, Tryz.ntmps110
    go_wp2_with (first
      | (go_at_call 179; ((with_reducible refine (formatOf_32 _).mono ?_); rintro e w1 ⟨rfl, hb1⟩))
      | (go_at_call 180; ((with_reducible refine (known_32 _).mono ?_); rintro e w2 ⟨rfl, hb2⟩; have hS := (Sg.new 8 23 hb1).call hb2; obtain ⟨c0, c1⟩ := id hS.1)))
    go_cut [2, 3] (fun s2 s3 wx => s2 = .int .u64 a1 ∧ s3 = .int .u64 b1 ∧ Sg 8 23 w w1.heap.size wx)
    case first =>
      go_region_held3 (fun w' => w'.cell? ⟨w1.heap.size, 0, none⟩ = some (.int .i64 8) ∧ w'.cell? ⟨w1.heap.size, 1, none⟩ = some (.int .i64 23) ∧ Sg 8 23 w w1.heap.size w')
          (first
            | exact ⟨c0, c1, hS.drew⟩
            | (go_split_ands; exact ⟨bkeep ‹_› hb, bkeep ‹_› hb, Sg.call ‹_› hb⟩)
            | (go_split_ands; exact ⟨‹_›, ‹_›, ‹_›⟩))
        (first
          | (go_at_call 181; ((with_reducible refine (CA _).out.mono ?_); rintro e w' ⟨rfl, hb⟩))
          | (go_at_call 181; ((with_reducible refine (CB _).out.mono ?_); rintro e w' ⟨rfl, hb⟩)))
      all_goals
        (go_wp2_with fail)
        go_meet
        go_split_ands
        exact ⟨rfl, rfl, ‹_›⟩
    case rest =>
      clear hS c0 c1
      obtain ⟨rfl, rfl, hS⟩ := hcut
      obtain ⟨c0, c1⟩ := id hS.1
      go_wp2_with (go_at_call 186; ((with_reducible refine (HN _).out.mono ?_); rintro e w4 ⟨rfl, hb4⟩))
      go_ret2
      exact ⟨by first | rfl | rw [ho], bnext hS.2.2 hb4⟩
  · rw [if_neg hn]
    rw [show decide (2139095040 < a1 % 2147483648 ∨ 2139095040 < b1 % 2147483648) = false by simp [hn]] at HN
    clear hn hb
    go_enter Tryz.func110, Tryz.ntmps110
    go_wp2_with (first
      | (go_at_call 179; ((with_reducible refine (formatOf_32 _).mono ?_); rintro e w1 ⟨rfl, hb1⟩))
      | (go_at_call 180; ((with_reducible refine (known_32 _).mono ?_); rintro e w2 ⟨rfl, hb2⟩; have hS := (Sg.new 8 23 hb1).call hb2; obtain ⟨c0, c1⟩ := id hS.1)))
    go_cut [2, 3] (fun s2 s3 wx => s2 = .int .u64 a1 ∧ s3 = .int .u64 b1 ∧ Sg 8 23 w w1.heap.size wx)
    case first =>
      go_region_held3 (fun w' => w'.cell? ⟨w1.heap.size, 0, none⟩ = some (.int .i64 8) ∧ w'.cell? ⟨w1.heap.size, 1, none⟩ = some (.int .i64 23) ∧ Sg 8 23 w w1.heap.size w')
          (first
            | exact ⟨c0, c1, hS.drew⟩
            | (go_split_ands; exact ⟨bkeep ‹_› hb, bkeep ‹_› hb, Sg.call ‹_› hb⟩)
            | (go_split_ands; exact ⟨‹_›, ‹_›, ‹_›⟩))
        (first
          | (go_at_call 181; ((with_reducible refine (CA _).out.mono ?_); rintro e w' ⟨rfl, hb⟩))
          | (go_at_call 181; ((with_reducible refine (CB _).out.mono ?_); rintro e w' ⟨rfl, hb⟩)))
      all_goals
        (go_wp2_with fail)
        go_meet
        go_split_ands
        exact ⟨rfl, rfl, ‹_›⟩
    case rest =>
      clear hS c0 c1
      obtain ⟨rfl, rfl, hS⟩ := hcut
      obtain ⟨c0, c1⟩ := id hS.1
      go_upto_region 7 with (go_at_call 186; ((with_reducible refine (HN _).out.mono ?_); rintro e w4 ⟨rfl, hb4⟩; replace hS := hS.call hb4; have c0 := hS.1.1; have c1 := hS.1.2))
      go_cut [11, 12] (fun s2 s3 wx => s2 = .int .i64 x ∧ s3 = .int .i64 y ∧ Sg 8 23 w w1.heap.size wx)
      case first =>
        go_region_held3 (fun w' => w'.cell? ⟨w1.heap.size, 0, none⟩ = some (.int .i64 8) ∧ w'.cell? ⟨w1.heap.size, 1, none⟩ = some (.int .i64 23) ∧ Sg 8 23 w w1.heap.size w')
            (first
              | exact ⟨c0, c1, hS.drew⟩
              | (go_split_ands; exact ⟨bkeep ‹_› hb, bkeep ‹_› hb, Sg.call ‹_› hb⟩)
              | (go_split_ands; exact ⟨‹_›, ‹_›, ‹_›⟩))
          (first
            | (go_at_call 187; ((with_reducible refine (RA _).out.mono ?_); rintro e w' ⟨rfl, hb⟩))
            | (go_at_call 187; ((with_reducible refine (RB _).out.mono ?_); rintro e w' ⟨rfl, hb⟩)))
        all_goals
          (go_wp2_with fail)
          go_meet
          go_split_ands
          exact ⟨rfl, rfl, ‹_›⟩
      case rest =>
        clear hS c0 c1
        obtain ⟨rfl, rfl, hS⟩ := hcut
        have HS := hid hS
        clear hS o1 o2
        rcases hop with rfl | rfl | rfl | rfl | rfl | rfl
        all_goals
          go_wp2
          go_ret2
          exact ⟨by simp [relI], HS.out.2.2⟩
set_option maxHeartbeats 1600000 in
theorem Rel_64 (op : Nat) (hop : op = 1 ∨ op = 2 ∨ op = 3 ∨ op = 4 ∨ op = 5 ∨ op = 6) (a b : Nat) (ha : a < 18446744073709551616) (hb : b < 18446744073709551616) (w : World) :
    Calls Tryz.prog 110 #[.int .i64 64, .int .i64 op, .int .u64 a, .int .u64 b] w fun e w' => e = .returned (.tuple #[.bool (relW 9223372036854775808 9218868437227405312 op (a % 18446744073709551616) (b % 18446744073709551616)), .int .i64 0]) ∧ Below w.heap.size w w' := by
  have CA := fun w => hid (cut_64 a ha w)
  have CB := fun w => hid (cut_64 b hb w)
  have HN := fun w => hid (anyNaN_64 (a % 18446744073709551616) (b % 18446744073709551616) (by omega) (by omega) w)
  have RA := fun w => hid (rank_64 (a % 18446744073709551616) (by omega) w)
  have RB := fun w => hid (rank_64 (b % 18446744073709551616) (by omega) w)
  have hrw : relW 9223372036854775808 9218868437227405312 op (a % 18446744073709551616) (b % 18446744073709551616) = if 9218868437227405312 < a % 18446744073709551616 % 9223372036854775808 ∨ 9218868437227405312 < b % 18446744073709551616 % 9223372036854775808 then op == 2 else relI op (rankOf 9223372036854775808 (a % 18446744073709551616)) (rankOf 9223372036854775808 (b % 18446744073709551616)) := rfl
  rw [hrw]
  clear hrw
  generalize a % 18446744073709551616 = a1 at *
  generalize b % 18446744073709551616 = b1 at *
  generalize rankOf 9223372036854775808 a1 = x at *
  generalize rankOf 9223372036854775808 b1 = y at *
  have o1 : decide ((op : Int) < 1) = false := by simp; omega
  have o2 : decide ((6 : Int) < (op : Int)) = false := by simp; omega
  clear ha
  by_cases hn : 9218868437227405312 < a1 % 9223372036854775808 ∨ 9218868437227405312 < b1 % 9223372036854775808
  · rw [if_pos hn]
    rw [show decide (9218868437227405312 < a1 % 9223372036854775808 ∨ 9218868437227405312 < b1 % 9223372036854775808) = true by simp [hn]] at HN
    have ho : ((op : Int) == 2) = (op == 2) := Bool.eq_iff_iff.2 (by rw [beq_iff_eq, beq_iff_eq]; omega)
    clear hn hop RA RB hb
    go_enter Tryz.func110, Tryz.ntmps110
    go_wp2_with (first
      | (go_at_call 179; ((with_reducible refine (formatOf_64 _).mono ?_); rintro e w1 ⟨rfl, hb1⟩))
      | (go_at_call 180; ((with_reducible refine (known_64 _).mono ?_); rintro e w2 ⟨rfl, hb2⟩; have hS := (Sg.new 11 52 hb1).call hb2; obtain ⟨c0, c1⟩ := id hS.1)))
    go_cut [2, 3] (fun s2 s3 wx => s2 = .int .u64 a1 ∧ s3 = .int .u64 b1 ∧ Sg 11 52 w w1.heap.size wx)
    case first =>
      go_region_held3 (fun w' => w'.cell? ⟨w1.heap.size, 0, none⟩ = some (.int .i64 11) ∧ w'.cell? ⟨w1.heap.size, 1, none⟩ = some (.int .i64 52) ∧ Sg 11 52 w w1.heap.size w')
          (first
            | exact ⟨c0, c1, hS.drew⟩
            | (go_split_ands; exact ⟨bkeep ‹_› hb, bkeep ‹_› hb, Sg.call ‹_› hb⟩)
            | (go_split_ands; exact ⟨‹_›, ‹_›, ‹_›⟩))
        (first
          | (go_at_call 181; ((with_reducible refine (CA _).out.mono ?_); rintro e w' ⟨rfl, hb⟩))
          | (go_at_call 181; ((with_reducible refine (CB _).out.mono ?_); rintro e w' ⟨rfl, hb⟩)))
      all_goals
        (go_wp2_with fail)
        go_meet
        go_split_ands
        exact ⟨rfl, rfl, ‹_›⟩
    case rest =>
      clear hS c0 c1
      obtain ⟨rfl, rfl, hS⟩ := hcut
      obtain ⟨c0, c1⟩ := id hS.1
      go_wp2_with (go_at_call 186; ((with_reducible refine (HN _).out.mono ?_); rintro e w4 ⟨rfl, hb4⟩))
      go_ret2
      exact ⟨by first | rfl | rw [ho], bnext hS.2.2 hb4⟩
  · rw [if_neg hn]
    rw [show decide (9218868437227405312 < a1 % 9223372036854775808 ∨ 9218868437227405312 < b1 % 9223372036854775808) = false by simp [hn]] at HN
    clear hn hb
    go_enter Tryz.func110, Tryz.ntmps110
    go_wp2_with (first
      | (go_at_call 179; ((with_reducible refine (formatOf_64 _).mono ?_); rintro e w1 ⟨rfl, hb1⟩))
      | (go_at_call 180; ((with_reducible refine (known_64 _).mono ?_); rintro e w2 ⟨rfl, hb2⟩; have hS := (Sg.new 11 52 hb1).call hb2; obtain ⟨c0, c1⟩ := id hS.1)))
    go_cut [2, 3] (fun s2 s3 wx => s2 = .int .u64 a1 ∧ s3 = .int .u64 b1 ∧ Sg 11 52 w w1.heap.size wx)
    case first =>
      go_region_held3 (fun w' => w'.cell? ⟨w1.heap.size, 0, none⟩ = some (.int .i64 11) ∧ w'.cell? ⟨w1.heap.size, 1, none⟩ = some (.int .i64 52) ∧ Sg 11 52 w w1.heap.size w')
          (first
            | exact ⟨c0, c1, hS.drew⟩
            | (go_split_ands; exact ⟨bkeep ‹_› hb, bkeep ‹_› hb, Sg.call ‹_› hb⟩)
            | (go_split_ands; exact ⟨‹_›, ‹_›, ‹_›⟩))
        (first
          | (go_at_call 181; ((with_reducible refine (CA _).out.mono ?_); rintro e w' ⟨rfl, hb⟩))
          | (go_at_call 181; ((with_reducible refine (CB _).out.mono ?_); rintro e w' ⟨rfl, hb⟩)))
      all_goals
        (go_wp2_with fail)
        go_meet
        go_split_ands
        exact ⟨rfl, rfl, ‹_›⟩
    case rest =>
      clear hS c0 c1
      obtain ⟨rfl, rfl, hS⟩ := hcut
      obtain ⟨c0, c1⟩ := id hS.1
      go_upto_region 7 with (go_at_call 186; ((with_reducible refine (HN _).out.mono ?_); rintro e w4 ⟨rfl, hb4⟩; replace hS := hS.call hb4; have c0 := hS.1.1; have c1 := hS.1.2))
      go_cut [11, 12] (fun s2 s3 wx => s2 = .int .i64 x ∧ s3 = .int .i64 y ∧ Sg 11 52 w w1.heap.size wx)
      case first =>
        go_region_held3 (fun w' => w'.cell? ⟨w1.heap.size, 0, none⟩ = some (.int .i64 11) ∧ w'.cell? ⟨w1.heap.size, 1, none⟩ = some (.int .i64 52) ∧ Sg 11 52 w w1.heap.size w')
            (first
              | exact ⟨c0, c1, hS.drew⟩
              | (go_split_ands; exact ⟨bkeep ‹_› hb, bkeep ‹_› hb, Sg.call ‹_› hb⟩)
              | (go_split_ands; exact ⟨‹_›, ‹_›, ‹_›⟩))
          (first
            | (go_at_call 187; ((with_reducible refine (RA _).out.mono ?_); rintro e w' ⟨rfl, hb⟩))
            | (go_at_call 187; ((with_reducible refine (RB _).out.mono ?_); rintro e w' ⟨rfl, hb⟩)))
        all_goals
          (go_wp2_with fail)
          go_meet
          go_split_ands
          exact ⟨rfl, rfl, ‹_›⟩
      case rest =>
        clear hS c0 c1
        obtain ⟨rfl, rfl, hS⟩ := hcut
        have HS := hid hS
        clear hS o1 o2
        rcases hop with rfl | rfl | rfl | rfl | rfl | rfl
        all_goals
          go_wp2
          go_ret2
          exact ⟨by simp [relI], HS.out.2.2⟩
end Go.Proofs.YtlhakbkdlgejpaaGreatDoor.Fl
namespace Go.Proofs.YtlhakbkdlgejpaaGreatDoor.Fl
open Ieee
theorem signed_shift (s : Bool) (m k : Nat) : signed s m k = if s then -((m * 2 ^ k : Nat) : Int) else ((m * 2 ^ k : Nat) : Int) := by
  unfold signed; rw [Nat.shiftLeft_eq]
end Go.Proofs.YtlhakbkdlgejpaaGreatDoor.Fl
namespace Go.Proofs.YtlhakbkdlgejpaaGreatDoor.Fl
open Ieee
theorem pe_eq (P : Nat) (low : Int) (s : Nat) : pe P low s = low + ((s / 2 ^ P - 1 : Nat) : Int) := by
  unfold pe; split
  · rename_i h; rw [h]; simp
  · rfl
theorem pm_lt (P s : Nat) : pm P s < 2 ^ (P + 1) := by
  have hp : 0 < 2 ^ P := Nat.two_pow_pos P
  have hm := Nat.mod_lt s hp
  have e : (2 : Nat) ^ (P + 1) = 2 * 2 ^ P := by rw [Nat.pow_succ]; omega
  have hdm := Nat.div_add_mod s (2 ^ P)
  unfold pm; split
  · rename_i h; rw [h] at hdm; simp at hdm; omega
  · omega
theorem pm_ge (P s : Nat) (h : s / 2 ^ P ≠ 0) : 2 ^ P ≤ pm P s := by
  unfold pm; rw [if_neg h]; omega
theorem pm_small (P s : Nat) (h : s / 2 ^ P ≤ 1) : pm P s = s := by
  have hdm := Nat.div_add_mod s (2 ^ P)
  unfold pm; split
  · rfl
  · rename_i h0
    have h1 : s / 2 ^ P = 1 := by generalize s / 2 ^ P = q at *; omega
    rw [h1] at hdm; omega
/-- What a finite word stands for. -/
theorem read_fin {f : Format} {a SB P : Nat} {low : Int} (hSB : f.signWeight = SB) (hP : f.fractionBits = P) (hlow : f.leastPlace = low) (ha : a < 2 * SB) (h : a % SB < f.infRung) :
    f.read a = .number (decide (SB ≤ a)) (pm P (a % SB)) (pe P low (a % SB)) := by
  subst hSB hP hlow
  have hp : 0 < 2 ^ f.fractionBits := Nat.two_pow_pos _
  have hsg : (a / f.signWeight % 2 == 1) = decide (f.signWeight ≤ a) := by
    by_cases hc : f.signWeight ≤ a
    · have : a / f.signWeight = 1 := by rw [Nat.div_eq_iff (by omega)]; omega
      simp [this, hc]
    · have : a / f.signWeight = 0 := Nat.div_eq_of_lt (by omega)
      simp [this, hc]
  unfold Format.read
  simp only [hsg]
  by_cases hb : a % f.signWeight < f.binade
  · rw [if_pos hb]
    have h0 : a % f.signWeight / 2 ^ f.fractionBits = 0 := Nat.div_eq_of_lt hb
    unfold pm pe; rw [if_pos h0, if_pos h0]
  · rw [if_neg hb, if_pos h]
    have h0 : ¬ a % f.signWeight / 2 ^ f.fractionBits = 0 := by
      intro h0
      rcases Nat.lt_or_ge (a % f.signWeight) (2 ^ f.fractionBits) with h2 | h2
      · exact hb h2
      · have := Nat.div_pos h2 hp; omega
    unfold pm pe; rw [if_neg h0, if_neg h0, Nat.add_comm]; rfl
theorem read_inf {f : Format} {a SB : Nat} (hSB : f.signWeight = SB) (ha : a < 2 * SB) (hb : f.binade ≤ f.infRung) (h : a % SB = f.infRung) :
    f.read a = .infinity (decide (SB ≤ a)) := by
  subst hSB
  have hsg : (a / f.signWeight % 2 == 1) = decide (f.signWeight ≤ a) := by
    by_cases hc : f.signWeight ≤ a
    · have : a / f.signWeight = 1 := by rw [Nat.div_eq_iff (by omega)]; omega
      simp [this, hc]
    · have : a / f.signWeight = 0 := Nat.div_eq_of_lt (by omega)
      simp [this, hc]
  unfold Format.read
  simp only [hsg]
  rw [if_neg (by omega), if_neg (by omega), if_pos h]
theorem read_nan {f : Format} {a SB : Nat} (hSB : f.signWeight = SB) (hb : f.binade ≤ f.infRung) (h : f.infRung < a % SB) :
    ∃ s t, f.read a = .nan s t := by
  subst hSB
  unfold Format.read
  simp only []
  rw [if_neg (by omega), if_neg (by omega), if_neg (by omega)]
  exact ⟨_, _, rfl⟩
end Go.Proofs.YtlhakbkdlgejpaaGreatDoor.Fl
namespace Go.Proofs.YtlhakbkdlgejpaaGreatDoor.Fl
open Ieee
/-- A format's numbers. -/
structure Fmt (f : Format) (SB INF P : Nat) (low : Int) : Prop where
  sb : f.signWeight = SB
  inf : f.infRung = INF
  fr : f.fractionBits = P
  lp : f.leastPlace = low
  bi : f.binade ≤ f.infRung
  p52 : P ≤ 52
  inf0 : 0 < INF
theorem fmt_single : Fmt single 2147483648 2139095040 23 (-149) := ⟨rfl, rfl, rfl, rfl, by decide, by decide, by decide⟩
theorem fmt_double : Fmt double 9223372036854775808 9218868437227405312 52 (-1074) := ⟨rfl, rfl, rfl, rfl, by decide, by decide, by decide⟩
theorem kind1 {INF s : Nat} : kindOf INF s = 1 ↔ s = 0 := by
  unfold kindOf; split
  · simp [*]
  · split
    · simp [*]
    · split
      · simp; omega
      · simp [*]
theorem kind3 {INF s : Nat} (h0 : 0 < INF) : kindOf INF s = 3 ↔ s = INF := by
  unfold kindOf; split
  · simp; omega
  · split
    · simp; omega
    · split <;> simp [*]
theorem kind2 {INF s : Nat} : kindOf INF s = 2 ↔ s ≠ 0 ∧ s < INF := by
  unfold kindOf; split
  · simp [*]
  · split
    · simp [*]
    · split
      · simp; omega
      · simp; omega
section
variable {f : Format} {SB INF P : Nat} {low : Int} (F : Fmt f SB INF P low) {a b : Nat}
include F
theorem rk1 (ha : a < 2 * SB) (h : kindOf INF (a % SB) = 1) : f.read a = .number (decide (SB ≤ a)) 0 (pe P low (a % SB)) := by
  have h0 := kind1.1 h
  rw [read_fin F.sb F.fr F.lp ha (by rw [F.inf, h0]; exact F.inf0)]
  have : pm P (a % SB) = 0 := by rw [h0]; unfold pm; simp
  rw [this]
theorem rk2 (ha : a < 2 * SB) (h : kindOf INF (a % SB) = 2) : f.read a = .number (decide (SB ≤ a)) (pm P (a % SB)) (pe P low (a % SB)) ∧ pm P (a % SB) ≠ 0 := by
  have h0 := kind2.1 h
  refine ⟨read_fin F.sb F.fr F.lp ha (by rw [F.inf]; exact h0.2), ?_⟩
  unfold pm; split
  · exact h0.1
  · have := Nat.two_pow_pos P; omega
theorem rk3 (ha : a < 2 * SB) (h : kindOf INF (a % SB) = 3) : f.read a = .infinity (decide (SB ≤ a)) :=
  read_inf F.sb ha F.bi (by rw [F.inf]; exact (kind3 F.inf0).1 h)
theorem div_zero (ha : a < 2 * SB) (hb : b < 2 * SB) (h : kindOf INF (a % SB) = 1 ∧ (kindOf INF (b % SB) = 2 ∨ kindOf INF (b % SB) = 3) ∨ kindOf INF (a % SB) = 2 ∧ kindOf INF (b % SB) = 3) :
    f.div a b = some (f.word (decide (SB ≤ a) ^^ decide (SB ≤ b)) 0) := by
  unfold Format.div
  rcases h with ⟨h1, h2 | h2⟩ | ⟨h1, h2⟩
  · have h3 := rk2 F hb h2
    rw [rk1 F ha h1, h3.1]
    simp only [Datum.quotient, if_neg h3.2, Nat.zero_shiftLeft, Nat.zero_div, Nat.zero_mod, Option.map_some, Format.write]
    rw [nearest_eq]; rfl
  · rw [rk1 F ha h1, rk3 F hb h2]
    simp only [Datum.quotient, Option.map_some, Format.write]
    rw [nearest_eq]; rfl
  · rw [(rk2 F ha h1).1, rk3 F hb h2]
    simp only [Datum.quotient, Option.map_some, Format.write]
    rw [nearest_eq]; rfl
end
/-- The sign of two words held against each other. -/
theorem xor_top {k a b : Nat} (ha : a < 2 * 2 ^ k) (hb : b < 2 * 2 ^ k) : decide (2 ^ k ≤ a ^^^ b) = (decide (2 ^ k ≤ a) ^^ decide (2 ^ k ≤ b)) ∧ a ^^^ b < 2 * 2 ^ k := by
  have top : ∀ x, x < 2 * 2 ^ k → x.testBit k = decide (2 ^ k ≤ x) := fun x hx => by
    have hp : 0 < 2 ^ k := Nat.two_pow_pos k
    rw [Nat.testBit_eq_decide_div_mod_eq]
    by_cases hc : 2 ^ k ≤ x
    · have : x / 2 ^ k = 1 := by rw [Nat.div_eq_iff hp]; omega
      simp [this, hc]
    · have : x / 2 ^ k = 0 := Nat.div_eq_of_lt (by omega)
      simp [this, hc]
  have e : 2 * 2 ^ k = 2 ^ (k + 1) := by rw [Nat.pow_succ]; omega
  have hx : a ^^^ b < 2 * 2 ^ k := by rw [e] at ha hb ⊢; exact Nat.xor_lt_two_pow ha hb
  exact ⟨by rw [← top _ hx, ← top a ha, ← top b hb, Nat.testBit_xor], hx⟩
end Go.Proofs.YtlhakbkdlgejpaaGreatDoor.Fl
namespace Go.Proofs.YtlhakbkdlgejpaaGreatDoor.Fl
open Ieee
/-- A number with its sign. -/
def sgn (s : Bool) (x : Nat) : Int := if s then -(x : Int) else (x : Int)
theorem compare_congr {x y x' y' : Int} (h1 : x < y ↔ x' < y') (h2 : x = y ↔ x' = y') : compare x y = compare x' y' := by
  show compareOfLessAndEq x y = compareOfLessAndEq x' y'
  unfold compareOfLessAndEq
  simp only [h1, h2]
theorem cmp_lt {x y : Int} (h : x < y) : compare x y = .lt := by
  show compareOfLessAndEq x y = _
  unfold compareOfLessAndEq; rw [if_pos h]
theorem cmp_eq {x y : Int} (h : x = y) : compare x y = .eq := by
  show compareOfLessAndEq x y = _
  unfold compareOfLessAndEq; rw [if_neg (by omega), if_pos h]
theorem cmp_gt {x y : Int} (h : y < x) : compare x y = .gt := by
  show compareOfLessAndEq x y = _
  unfold compareOfLessAndEq; rw [if_neg (by omega), if_neg (by omega)]
theorem order_num (s t : Bool) (m n : Nat) (i j L : Int) (h1 : L ≤ i) (h2 : L ≤ j) :
    Datum.order (.number s m i) (.number t n j) = some (compare (sgn s (m * 2 ^ (i - L).toNat)) (sgn t (n * 2 ^ (j - L).toNat))) := by
  simp only [Datum.order]
  congr 1
  obtain ⟨c, hc⟩ : ∃ c : Nat, c = (min i j - L).toNat := ⟨_, rfl⟩
  have e1 : (i - L).toNat = (i - min i j).toNat + c := by omega
  have e2 : (j - L).toNat = (j - min i j).toNat + c := by omega
  have hp : (0 : Int) < ((2 ^ c : Nat) : Int) := by have := Nat.two_pow_pos c; omega
  have f : ∀ (s : Bool) (m k : Nat), sgn s (m * 2 ^ (k + c)) = signed s m k * ((2 ^ c : Nat) : Int) := fun s m k => by
    rw [signed_shift, Nat.pow_add, ← Nat.mul_assoc]
    unfold sgn
    cases s
    · simp [Int.natCast_mul]
    · simp [Int.natCast_mul, Int.neg_mul]
  rw [e1, e2, f, f]
  exact compare_congr ⟨fun h => Int.mul_lt_mul_of_pos_right h hp, fun h => Int.lt_of_mul_lt_mul_right h (Int.le_of_lt hp)⟩ ⟨fun h => by rw [h], fun h => Int.eq_of_mul_eq_mul_right (by omega) h⟩
/-- The size of a float in units of the smallest one. -/
def unitsOf (P s : Nat) : Nat := pm P s * 2 ^ (s / 2 ^ P - 1)
theorem units_zero (P : Nat) : unitsOf P 0 = 0 := by unfold unitsOf pm; simp
theorem units_lt (P : Nat) {s t : Nat} (h : s < t) : unitsOf P s < unitsOf P t := by
  have hp : 0 < 2 ^ P := Nat.two_pow_pos P
  have hq : s / 2 ^ P ≤ t / 2 ^ P := Nat.div_le_div_right (Nat.le_of_lt h)
  have key : pm P s < pm P t * 2 ^ ((t / 2 ^ P - 1) - (s / 2 ^ P - 1)) := by
    by_cases h0 : (t / 2 ^ P - 1) - (s / 2 ^ P - 1) = 0
    · rw [h0, Nat.pow_zero, Nat.mul_one]
      by_cases h1 : t / 2 ^ P ≤ 1
      · rw [pm_small P t h1, pm_small P s (Nat.le_trans hq h1)]; exact h
      · have he : s / 2 ^ P = t / 2 ^ P := by generalize t / 2 ^ P = q1 at *; generalize s / 2 ^ P = q2 at *; omega
        have d1 := Nat.div_add_mod t (2 ^ P)
        have d2 := Nat.div_add_mod s (2 ^ P)
        rw [he] at d2
        have h2 : ¬ t / 2 ^ P = 0 := fun h => h1 (by rw [h]; decide)
        unfold pm
        rw [if_neg h2, if_neg (by rw [he]; exact h2)]
        omega
    · have h1 := pm_ge P t (by generalize t / 2 ^ P = q1 at *; omega)
      have h2 := pm_lt P s
      have e : (2 : Nat) ^ (P + 1) = 2 ^ P * 2 ^ 1 := Nat.pow_add ..
      have h3 : 2 ^ P * 2 ^ 1 ≤ pm P t * 2 ^ ((t / 2 ^ P - 1) - (s / 2 ^ P - 1)) := Nat.mul_le_mul h1 (Nat.pow_le_pow_right (by decide) (by omega))
      omega
  unfold unitsOf
  have := Nat.mul_lt_mul_of_pos_right key (Nat.two_pow_pos (s / 2 ^ P - 1))
  rw [Nat.mul_assoc, ← Nat.pow_add, show (t / 2 ^ P - 1) - (s / 2 ^ P - 1) + (s / 2 ^ P - 1) = t / 2 ^ P - 1 by generalize t / 2 ^ P = q1 at *; generalize s / 2 ^ P = q2 at *; omega] at this
  exact this
theorem units_iff (P : Nat) {s t : Nat} : unitsOf P s < unitsOf P t ↔ s < t := by
  constructor
  · intro h
    rcases Nat.lt_trichotomy s t with h1 | h1 | h1
    · exact h1
    · subst h1; omega
    · have := units_lt P h1; omega
  · exact units_lt P
theorem units_pos (P : Nat) {s : Nat} : 0 < unitsOf P s ↔ 0 < s := by
  have := units_iff P (s := 0) (t := s)
  rw [units_zero] at this
  exact this
theorem compare_sgn (P : Nat) (s t : Bool) (x y : Nat) : compare (sgn s (unitsOf P x)) (sgn t (unitsOf P y)) = compare (sgn s x) (sgn t y) := by
  have h1 := units_iff P (s := x) (t := y)
  have h2 := units_iff P (s := y) (t := x)
  have h3 := units_pos P (s := x)
  have h4 := units_pos P (s := y)
  apply compare_congr
  · unfold sgn; cases s <;> cases t <;> simp <;> omega
  · unfold sgn; cases s <;> cases t <;> simp <;> omega
section
variable {f : Format} {SB INF P : Nat} {low : Int} (F : Fmt f SB INF P low) {a b : Nat}
include F
omit F in
theorem rank_sgn : rankOf SB a = sgn (decide (SB ≤ a)) (a % SB) := by
  unfold rankOf sgn
  by_cases h : SB ≤ a <;> simp [h]
theorem order_word (ha : a < 2 * SB) (hb : b < 2 * SB) (na : a % SB ≤ INF) (nb : b % SB ≤ INF) : f.order a b = some (compare (rankOf SB a) (rankOf SB b)) := by
  have h0 := F.inf0
  unfold Format.order
  rw [rank_sgn, rank_sgn]
  by_cases h1 : a % SB = INF
  · have k1 : kindOf INF (a % SB) = 3 := (kind3 h0).2 h1
    rw [rk3 F ha k1]
    by_cases h2 : b % SB = INF
    · have k2 : kindOf INF (b % SB) = 3 := (kind3 h0).2 h2
      rw [rk3 F hb k2, h1, h2]
      simp only [Datum.order]
      congr 1
      cases decide (SB ≤ a) <;> cases decide (SB ≤ b)
      · exact (cmp_eq rfl).symm
      · exact (cmp_gt (by show -(INF : Int) < (INF : Int); omega)).symm
      · exact (cmp_lt (by show -(INF : Int) < (INF : Int); omega)).symm
      · exact (cmp_eq rfl).symm
    · rw [read_fin F.sb F.fr F.lp hb (by rw [F.inf]; omega), h1]
      simp only [Datum.order]
      congr 1
      cases decide (SB ≤ a)
      · exact (cmp_gt (by unfold sgn; cases decide (SB ≤ b) <;> simp <;> omega)).symm
      · exact (cmp_lt (by unfold sgn; cases decide (SB ≤ b) <;> simp <;> omega)).symm
  · rw [read_fin F.sb F.fr F.lp ha (by rw [F.inf]; omega)]
    by_cases h2 : b % SB = INF
    · have k2 : kindOf INF (b % SB) = 3 := (kind3 h0).2 h2
      rw [rk3 F hb k2, h2]
      simp only [Datum.order]
      congr 1
      cases decide (SB ≤ b)
      · exact (cmp_lt (by unfold sgn; cases decide (SB ≤ a) <;> simp <;> omega)).symm
      · exact (cmp_gt (by unfold sgn; cases decide (SB ≤ a) <;> simp <;> omega)).symm
    · rw [read_fin F.sb F.fr F.lp hb (by rw [F.inf]; omega)]
      rw [order_num _ _ _ _ _ _ low (by rw [pe_eq]; omega) (by rw [pe_eq]; omega)]
      rw [show (pe P low (a % SB) - low).toNat = a % SB / 2 ^ P - 1 by rw [pe_eq]; generalize a % SB / 2 ^ P = q; omega]
      rw [show (pe P low (b % SB) - low).toNat = b % SB / 2 ^ P - 1 by rw [pe_eq]; generalize b % SB / 2 ^ P = q; omega]
      exact congrArg some (compare_sgn P _ _ _ _)
theorem order_nan (h : INF < a % SB ∨ INF < b % SB) : f.order a b = none := by
  unfold Format.order
  rcases h with h | h
  · obtain ⟨s, t, e⟩ := read_nan F.sb F.bi (by rw [F.inf]; exact h)
    rw [e]; rfl
  · obtain ⟨s, t, e⟩ := read_nan F.sb F.bi (by rw [F.inf]; exact h)
    rw [e]; cases f.read a <;> rfl
end
end Go.Proofs.YtlhakbkdlgejpaaGreatDoor.Fl
