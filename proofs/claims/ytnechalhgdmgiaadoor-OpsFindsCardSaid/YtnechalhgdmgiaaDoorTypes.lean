/-
  The contract of the program's typesOf: any list of the table's. Condition: the tables hold what their text lays.
-/
import Derived.Test.YtnechalhgdmgiaaDoorOpsAll0
set_option linter.unusedSimpArgs false
set_option linter.unusedVariables false
namespace Go.Proofs.YtnechalhgdmgiaaDoor
open Go.RowKit

/-- The types of a list. -/
def typesL (t : Nat) : List Int := ((glob5.drop (3 * t)).take 3).takeWhile fun z => z != 0
def typesOk (t : Nat) : Bool := decide ((typesL t).length ≤ 3) && ((List.range (typesL t).length).all fun k => (glob5.getD (t * 3 + k) 0 == (typesL t).getD k 0) && ((typesL t).getD k 0 != 0)) &&
  (decide ((typesL t).length = 3) || glob5.getD (t * 3 + (typesL t).length) 0 == 0)
theorem types_all : ((List.range 23).all typesOk) = true := by decide +kernel
theorem types_fact (t : Nat) (h : t < 23) : (typesL t).length ≤ 3 ∧ (∀ k, k < (typesL t).length → glob5.getD (t * 3 + k) 0 = (typesL t).getD k 0 ∧ (typesL t).getD k 0 ≠ 0) ∧ ((typesL t).length = 3 ∨ glob5.getD (t * 3 + (typesL t).length) 0 = 0) := by
  have := List.all_eq_true.1 types_all t (by simpa using h)
  unfold typesOk at this
  simp only [Bool.and_eq_true, Bool.or_eq_true, decide_eq_true_eq, List.all_eq_true, List.mem_range, beq_iff_eq, bne_iff_ne] at this
  exact ⟨this.1.1, this.1.2, this.2⟩

def TyPost (w : World) (l : List Int) (e : Ending) (w' : World) : Prop := ∃ v, e = .returned v ∧ w'.ownsRow w.heap.size 3 1 v l.length (ic l) ∧ Below w.heap.size w w'
def TyRel (w : World) (l : List Int) (k : Nat) (v : Value) (wr : World) : Prop := wr.ownsRow w.heap.size 3 1 v k (ic (l.take k)) ∧ Below w.heap.size w wr

set_option maxHeartbeats 2000000 in
theorem types_says (t : Nat) (ht : t < 23) (w : World) (hg : Glob w) : Calls Tryd.prog 31 #[.int .u8 t] w (TyPost w (typesL t)) := by
  obtain ⟨hl, hat, hend⟩ := types_fact t ht
  obtain ⟨l, hle⟩ : ∃ l, l = typesL t := ⟨_, rfl⟩
  rw [← hle] at hl hat hend ⊢
  clear hle
  have HG := hid hg
  have HA := hid hat
  have HE := hid hend
  clear hg hat hend
  go_enter Tryd.func31, Tryd.ntmps31
  go_wp2
  go_loopw [4, 3] (fun vi vo wr => ∃ k : Nat, k ≤ l.length ∧ vi = .int .i64 k ∧ TyRel w l k vo wr) (fun vi _ _ => 3 - (intOf vi).toNat)
  case atStart => exact ⟨0, by omega, rfl, World.ownsRow_nil w w.heap.size 3 1, Below.refl _ _⟩
  case round =>
    obtain ⟨k, hk, rfl, hrel⟩ := hrel
    have HR := hid hrel
    have HW := hid (HG.out.below hrel.2 HG.out.size)
    have hsz := hrel.2.size
    clear hrel
    by_cases hlt : k < l.length
    · have hk3 : k < 3 := by omega
      obtain ⟨z, hz⟩ : ∃ z, z = l.getD k 0 := ⟨_, rfl⟩
      have hc : wr.cell? ⟨5, t * 3 + k, none⟩ = some (.int .i64 z) := by rw [HW.out.c5 (t * 3 + k) (by omega), (HA.out k hlt).1, hz]
      have hz0 : (z != 0) = true := by have := (HA.out k hlt).2; rw [← hz] at this; simpa using this
      have HZ := hid hz
      clear hz
      have HS := hid (show ic (l.take k) ++ [.int .i64 z] = ic (l.take (k + 1)) by
        rw [List.take_add_one, List.getElem?_eq_getElem hlt]
        have : z = l[k] := by rw [HZ.out]; simp [List.getD_eq_getElem?_getD, hlt]
        simp only [ic, List.map_append, Option.toList, List.map_cons, List.map_nil, this])
      go_wp2_with (at_builtin; refine append_int rfl _ _ rfl w.heap.size _ _ _ z HR.out.1 hsz (by omega) rfl rfl ?_; intro v' w3 hown' hnx3 hsz3)
      go_roundw
      case rel => exact ⟨k + 1, by omega, by go_num, by rw [← HS.out]; exact hown', HR.out.2.trans hnx3⟩
      case measure => simp [intOf]; omega
    · obtain rfl : k = l.length := by omega
      have hfin : wr.ownsRow w.heap.size 3 1 u3 l.length (ic l) := by have := HR.out.1; rwa [List.take_of_length_le (Nat.le_refl _)] at this
      have HF := hid hfin
      clear hfin
      by_cases h3 : l.length < 3
      · have hc : wr.cell? ⟨5, t * 3 + l.length, none⟩ = some (.int .i64 0) := by
          rw [HW.out.c5 (t * 3 + l.length) (by omega)]
          rcases HE.out with h | h
          · omega
          · rw [h]
        go_wp2
        go_ret
        exact ⟨_, rfl, HF.out, HR.out.2⟩
      · go_wp2
        go_ret
        exact ⟨_, rfl, HF.out, HR.out.2⟩
end Go.Proofs.YtnechalhgdmgiaaDoor
