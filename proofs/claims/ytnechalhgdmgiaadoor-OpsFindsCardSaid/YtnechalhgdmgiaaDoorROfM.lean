/-
  What the reference's Of says of a number, on plain data; it is what the program's line says.
-/
import Derived.Test.YtnechalhgdmgiaaDoorRTabs
import Derived.Test.YtnechalhgdmgiaaDoorRDig
import Derived.Test.YtnechalhgdmgiaaDoorRTypes
set_option linter.unusedSimpArgs false
set_option linter.unusedVariables false
namespace Go.Proofs.YtnechalhgdmgiaaDoor
open Go.RowKit

/-- The text of a number's row. -/
noncomputable def textOf (op : Int) : List UInt8 :=
  if 0 ≤ op ∧ op < 211 then tabOne.getD op.toNat [] else if 64512 ≤ op ∧ op < 64530 then tabTwo.getD (op - 64512).toNat [] else if 64768 ≤ op ∧ op < 65024 then tabThree.getD (op - 64768).toNat [] else []
/-- A step over a letter of what is taken and left. -/
def stepS (p : Bool × List UInt8 × List UInt8) (c : UInt8) : Bool × List UInt8 × List UInt8 :=
  match p with
  | (b, t, l) => if c = 62 then (true, t, l) else if b then (b, t, l ++ [c]) else (b, t ++ [c], l)
def sst (l : List UInt8) (n : Nat) : Bool × List UInt8 × List UInt8 := (l.take n).foldl stepS (false, [], [])
def ofText (op : Int) (t : List UInt8) : Rw :=
  match wordsL t with
  | [a, b, c] => if c = [63] then (op, a, digL b, [], [], false) else (op, a, digL b, (sst c c.length).2.1, (sst c c.length).2.2, true)
  | _ => rw0
noncomputable def ofL (op : Int) : Rw := ofText op (textOf op)
def okText (t : List UInt8) : Bool := decide (t.length ≤ 100) && (match wordsL t with | [a, b, c] => decide (b.length ≤ 4) && decide (c.length ≤ 100) | _ => true)
set_option maxRecDepth 100000 in
theorem texts_ok : (rangeOps.all fun op => okText (textOf op)) = true := by kernel_rfl
theorem text_out (op : Int) (h : ¬ op ∈ rangeOps) : textOf op = [] := by
  rw [mem_rangeOps] at h
  unfold textOf
  rw [if_neg (by omega), if_neg (by omega), if_neg (by omega)]
theorem text_ok (op : Int) : okText (textOf op) = true := by
  by_cases h : op ∈ rangeOps
  · exact List.all_eq_true.1 texts_ok op h
  · rw [text_out op h]; rfl

/-- The program's line and the reference's row say the same. -/
noncomputable def agree (op : Int) : Bool :=
  let r := ofL op
  let l := lineL op
  (knB l == decide (0 ≤ r.1)) && (l.1.data.toList == r.2.1) && (l.2.1 == r.2.2.1) && (fxB l == r.2.2.2.2.2) &&
  ((if fxB l then typesL l.2.2.1.toNat else []) == tyL r.2.2.2.1) && ((if fxB l then typesL l.2.2.2.toNat else []) == tyL r.2.2.2.2.1) && decide (r.2.2.2.1.length ≤ 100) && decide (r.2.2.2.2.1.length ≤ 100) &&
  (r.1 == -1 || r.1 == op)
set_option maxRecDepth 100000 in
theorem agree_all : (rangeOps.all agree) = true := by kernel_rfl
end Go.Proofs.YtnechalhgdmgiaaDoor
