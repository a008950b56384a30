/-
  What the list of all instructions holds: 435 numbers, rising, each known; the first number of a name.
-/
import Derived.Test.YtnechalhgdmgiaaDoorFind
import Derived.Below
set_option linter.unusedSimpArgs false
set_option linter.unusedVariables false
namespace Go.Proofs.YtnechalhgdmgiaaDoor
open Go.RowKit

theorem getD_get {l : List Int} {k : Nat} (h : k < l.length) : l[k]? = some (l.getD k 0) := by
  rw [List.getD_eq_getElem?_getD, List.getElem?_eq_getElem h]; rfl

set_option maxRecDepth 100000 in
theorem all_length : allL.length = 435 := by kernel_rfl
noncomputable def allOkAt (k : Nat) : Bool := (k == 0 || decide (allL.getD (k - 1) 0 < allL.getD k 0)) && knB (lineL (allL.getD k 0))
set_option maxRecDepth 100000 in
theorem all_ats : ((List.range 435).all allOkAt) = true := by kernel_rfl
theorem all_at (k : Nat) (h : k < 435) : (k = 0 ∨ allL.getD (k - 1) 0 < allL.getD k 0) ∧ knB (lineL (allL.getD k 0)) = true := by
  have := List.all_eq_true.1 all_ats k (by simpa using h)
  unfold allOkAt at this
  simpa only [Bool.and_eq_true, Bool.or_eq_true, decide_eq_true_eq, beq_iff_eq] using this
set_option maxRecDepth 100000 in
theorem all_zero : allL.getD 0 0 = 0 := by kernel_rfl
theorem mem_all (op : Int) : op ∈ allL ↔ knB (lineL op) = true := by
  unfold allL
  rw [List.mem_filter]
  refine ⟨fun h => h.2, fun h => ⟨?_, h⟩⟩
  by_cases hin : op ∈ rangeOps
  · exact hin
  · rw [lineL_out op hin, show knB ln0 = false by kernel_rfl] at h; cases h

/-- Is the number among the first k? -/
noncomputable def inB (other : Int) (k : Nat) : Bool := (allL.take k).contains other
theorem in_zero (other : Int) : inB other 0 = false := by unfold inB; rfl
theorem in_succ (other : Int) (k : Nat) (h : k < 435) : inB other (k + 1) = (inB other k || (allL.getD k 0 == other)) := by
  unfold inB
  rw [List.take_add_one, getD_get (by rw [all_length]; exact h)]
  simp only [Option.toList, List.contains_eq_any_beq, List.any_append, List.any_cons, List.any_nil, Bool.or_false]
  congr 1
  rw [Bool.eq_iff_iff, beq_iff_eq, beq_iff_eq]
  exact ⟨Eq.symm, Eq.symm⟩
theorem in_all (other : Int) : inB other 435 = knB (lineL other) := by
  unfold inB
  rw [List.take_of_length_le (by rw [all_length]; exact Nat.le_refl _), Bool.eq_iff_iff, List.contains_iff_mem]
  exact mem_all other

theorem all_cell {w : World} {base g cap : Nat} (h : w.ownsRow base 3 1 (.slice (some ⟨g, 0, none⟩) 435 cap) 435 (ic allL)) (k : Nat) (hk : k < 435) : w.cell? ⟨g, k, none⟩ = some (.int .i64 (allL.getD k 0)) := by
  have := h.cellAt k (by simp [ic, all_length]; omega)
  rw [this]
  simp only [ic, List.getElem?_map, getD_get (show k < allL.length by rw [all_length]; exact hk), Option.map_some]

noncomputable def riseAt (k : Nat) : Bool := decide (rangeOps.getD k 0 < rangeOps.getD (k + 1) 0)
set_option maxRecDepth 100000 in
theorem rise_all : ((List.range 484).all riseAt) = true := by kernel_rfl
theorem range_rising (k : Nat) (h : k < 484) : rangeOps.getD k 0 < rangeOps.getD (k + 1) 0 := by
  have := List.all_eq_true.1 rise_all k (by simpa using h)
  simpa [riseAt] using this
theorem range_le (m d : Nat) (h : m + d < 485) : rangeOps.getD m 0 ≤ rangeOps.getD (m + d) 0 := by
  induction d with
  | zero => exact Int.le_refl _
  | succ d ih => exact Int.le_trans (ih (by omega)) (Int.le_of_lt (range_rising (m + d) (by omega)))
/-- The first number of a name is at most any other of that name. -/
theorem first_le {s : ByteArray} {n : Nat} {x z : Int} (hx : rangeOps[n]? = some x) (hno : NoneOf s n) (hz : z ∈ rangeOps) (hs : (lineL z).1 = s) : x ≤ z := by
  obtain ⟨m, hm⟩ := List.getElem?_of_mem hz
  have hmn : n ≤ m := by
    rcases Nat.lt_or_ge m n with h | h
    · exact absurd hs (hno m z h hm)
    · exact h
  have hlt : m < 485 := by have := (List.getElem?_eq_some_iff.1 hm).1; rw [range_length] at this; exact this
  have := range_le n (m - n) (by omega)
  rw [show n + (m - n) = m by omega] at this
  have e1 : rangeOps.getD n 0 = x := by rw [List.getD_eq_getElem?_getD, hx]; rfl
  have e2 : rangeOps.getD m 0 = z := by rw [List.getD_eq_getElem?_getD, hm]; rfl
  rw [e1, e2] at this
  exact this
theorem all_range (k : Nat) (h : k < 435) : allL.getD k 0 ∈ rangeOps := by
  have hm : allL.getD k 0 ∈ allL := List.mem_of_getElem? (getD_get (by rw [all_length]; exact h))
  exact (List.mem_filter.1 hm).1
theorem and_511 (a : Int) : ∃ K : Nat, K ≤ 511 ∧ bits .and .i64 a 511 = (K : Int) := by
  refine ⟨(BitVec.ofInt 64 a).toNat &&& 511, Nat.and_le_right, ?_⟩
  have hle : (BitVec.ofInt 64 a).toNat &&& 511 ≤ 511 := Nat.and_le_right
  have e2 : BitVec.toNat (BitVec.ofInt 64 511) = 511 := by decide
  show IntKind.i64.wrap ((BitVec.ofInt 64 a &&& BitVec.ofInt 64 511).toNat : Int) = _
  rw [BitVec.toNat_and, e2, IntKind.wrap_i64]
  generalize (BitVec.ofInt 64 a).toNat &&& 511 = q at *
  omega
end Go.Proofs.YtnechalhgdmgiaaDoor
