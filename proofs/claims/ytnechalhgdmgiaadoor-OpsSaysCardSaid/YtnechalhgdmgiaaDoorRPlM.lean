/-
  What the reference says of an instruction's place and lanes, on plain data; the program says the same.
-/
import Derived.Test.YtnechalhgdmgiaaDoorPlaces
import Derived.Test.YtnechalhgdmgiaaDoorROfM
import Derived.Test.YtnechalhgdmgiaaDoorRHas
set_option linter.unusedSimpArgs false
set_option linter.unusedVariables false
namespace Go.Proofs.YtnechalhgdmgiaaDoor
open Go.RowKit

def LS : List (List UInt8) := [[108, 111, 97, 100, 56], [115, 116, 111, 114, 101, 56], [108, 111, 97, 100, 49, 54], [115, 116, 111, 114, 101, 49, 54], [108, 111, 97, 100, 51, 50], [115, 116, 111, 114, 101, 51, 50], [108, 111, 97, 100, 54, 52], [115, 116, 111, 114, 101, 54, 52]]
def SZ : List Int := [1, 1, 2, 2, 4, 4, 8, 8]
def firstOf (nm : List UInt8) (L : List (List UInt8)) : Nat → Nat → Option Nat
  | _, 0 => none
  | i, k + 1 => if hasL nm (L.getD i []) then some i else firstOf nm L (i + 1) k
def lastOf (nm : List UInt8) : Int := if nm.take 3 = [105, 54, 52] then 8 else if nm.take 3 = [102, 54, 52] then 8 else if nm.take 3 = [118, 49, 50] then 16 else 4
def bytesN (nm : List UInt8) : Int :=
  if hasL nm [56, 120, 56] || hasL nm [49, 54, 120, 52] || hasL nm [51, 50, 120, 50] then 8 else
    match firstOf nm LS 0 8 with
    | some i => SZ.getD i 0
    | none => lastOf nm
def bytesL (r : Rw) : Int := if r.1 < 0 then 0 else if r.2.2.1 ≠ 10 ∧ r.2.2.1 ≠ 26 then 0 else bytesN r.2.1
def refAlign (b : Int) : Int := if b = 1 then 0 else if b = 2 then 1 else if b = 4 then 2 else if b = 8 then 3 else if b = 16 then 4 else -1
def SH : List (List UInt8) := [[105, 56, 120, 49, 54], [105, 49, 54, 120, 56], [105, 51, 50, 120, 52], [105, 54, 52, 120, 50], [102, 51, 50, 120, 52], [102, 54, 52, 120, 50]]
def SN : List Int := [16, 8, 4, 2, 4, 2]
def refLanes (r : Rw) : Int :=
  if r.1 < 0 then 0 else if r.2.2.1 = 24 then 32 else if r.2.2.1 = 26 then Int.tdiv 16 (bytesL r) else if r.2.2.1 = 25 then
    (match firstOf r.2.1 SH 0 6 with
    | some i => SN.getD i 0
    | none => 0)
  else 0
theorem first_none (nm : List UInt8) (L : List (List UInt8)) : ∀ (k i : Nat), (∀ j, i ≤ j → j < i + k → hasL nm (L.getD j []) = false) → firstOf nm L i k = none
  | 0, _, _ => rfl
  | k + 1, i, h => by
    unfold firstOf
    rw [h i (Nat.le_refl _) (by omega)]
    exact first_none nm L k (i + 1) fun j h1 h2 => h j (by omega) (by omega)
theorem first_some (nm : List UInt8) (L : List (List UInt8)) : ∀ (k i n : Nat), i ≤ n → n < i + k → (∀ j, i ≤ j → j < n → hasL nm (L.getD j []) = false) → hasL nm (L.getD n []) = true → firstOf nm L i k = some n
  | 0, _, _, _, _, _, _ => by omega
  | k + 1, i, n, h0, h1, h, ht => by
    unfold firstOf
    by_cases e : i = n
    · subst e; rw [ht]; rfl
    · rw [h i (Nat.le_refl _) (by omega)]
      exact first_some nm L k (i + 1) n (by omega) (by omega) (fun j h1 h2 => h j (by omega) h2) ht

noncomputable def agreeP (op : Int) : Bool :=
  let r := ofL op
  (alignL op == refAlign (bytesL r)) && (lanesL op == refLanes r) && decide (r.2.1.length ≤ 100) && (decide (r.1 < 0) || !(r.2.2.1 == 10 || r.2.2.1 == 26) || decide (3 ≤ r.2.1.length)) && (decide (r.1 < 0) || !(r.2.2.1 == 26) || decide (0 < bytesL r))
set_option maxRecDepth 100000 in
theorem agreeP_all : (rangeOps.all agreeP) = true := by kernel_rfl
theorem agreeP_any (op : Int) : agreeP op = true := by
  by_cases h : op ∈ rangeOps
  · exact List.all_eq_true.1 agreeP_all op h
  · have e1 := lineL_out op h
    have e2 : ofL op = rw0 := by unfold ofL; rw [text_out op h]; rfl
    have e3 : alignL op = -1 := by unfold alignL; rw [e1]; rfl
    have e4 : lanesL op = 0 := by unfold lanesL; rw [e1]; rfl
    unfold agreeP
    rw [e3, e4, e2]
    rfl
theorem agreeP_parts (op : Int) {r : Rw} (h : ofL op = r) : alignL op = refAlign (bytesL r) ∧ lanesL op = refLanes r ∧ r.2.1.length ≤ 100 ∧ (0 ≤ r.1 → r.2.2.1 = 10 ∨ r.2.2.1 = 26 → 3 ≤ r.2.1.length) ∧ (0 ≤ r.1 → r.2.2.1 = 26 → 0 < bytesL r) := by
  have := agreeP_any op
  unfold agreeP at this
  rw [h] at this
  simp only [Bool.and_eq_true, decide_eq_true_eq, beq_iff_eq, Bool.or_eq_true, Bool.not_eq_true', Bool.or_eq_false_iff, beq_eq_false_iff_ne] at this
  obtain ⟨⟨⟨⟨h1, h2⟩, h3⟩, h4⟩, h5⟩ := this
  refine ⟨h1, h2, h3, fun h0 hi => ?_, fun h0 hi => ?_⟩
  · rcases h4 with (h4 | h4) | h4
    · omega
    · rcases hi with hi | hi
      · exact absurd hi h4.1
      · exact absurd hi h4.2
    · exact h4
  · rcases h5 with (h5 | h5) | h5
    · omega
    · exact absurd hi h5
    · exact h5
end Go.Proofs.YtnechalhgdmgiaaDoor
