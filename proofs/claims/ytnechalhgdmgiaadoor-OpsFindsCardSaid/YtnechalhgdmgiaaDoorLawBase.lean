/-
  What the laws' walks share: the program's lines are the reference's rows. Condition: the tables hold what their text lays.
-/
import Derived.Test.YtnechalhgdmgiaaDoorAwake
import Derived.Test.YtnechalhgdmgiaaDoorROf
import Derived.Test.YtnechalhgdmgiaaDoorRSame
set_option linter.unusedSimpArgs false
set_option linter.unusedVariables false
namespace Go.Proofs.YtnechalhgdmgiaaDoor
open Go.RowKit

theorem agree_any (op : Int) : agree op = true := by
  by_cases h : op ∈ rangeOps
  · exact List.all_eq_true.1 agree_all op h
  · have e1 := lineL_out op h
    have e2 : ofL op = rw0 := by unfold ofL; rw [text_out op h]; rfl
    unfold agree
    rw [e1, e2]
    simp only [rw0]
    rw [Bool.and_eq_true]
    refine ⟨by kernel_rfl, rfl⟩
noncomputable def laL (op : Int) : List Int := if fxB (lineL op) then typesL (lineL op).2.2.1.toNat else []
noncomputable def lbL (op : Int) : List Int := if fxB (lineL op) then typesL (lineL op).2.2.2.toNat else []
theorem agree_parts (op : Int) {o : Int} {nm : List UInt8} {im : Int} {tk lv : List UInt8} {fx : Bool} (h : ofL op = (o, nm, im, tk, lv, fx)) :
    knB (lineL op) = decide (0 ≤ o) ∧ (lineL op).1 = str nm ∧ (lineL op).2.1 = im ∧ fxB (lineL op) = fx ∧ laL op = tyL tk ∧ lbL op = tyL lv ∧ tk.length ≤ 100 ∧ lv.length ≤ 100 ∧ (o = -1 ∨ o = op) := by
  have := agree_any op
  unfold agree at this
  rw [h] at this
  simp only [Bool.and_eq_true, decide_eq_true_eq, beq_iff_eq, Bool.or_eq_true] at this
  obtain ⟨⟨⟨⟨⟨⟨⟨⟨h1, h2⟩, h3⟩, h4⟩, h5⟩, h6⟩, h7⟩, h8⟩, h9⟩ := this
  refine ⟨h1, ?_, h3, h4, h5, h6, h7, h8, h9⟩
  rw [← h2]
  rfl

def SignP (w : World) (la lb : List Int) (fx : Bool) (e : Ending) (w' : World) : Prop :=
  ∃ v1 v2 B, e = .returned (.tuple #[v1, v2, .bool fx]) ∧ w'.ownsRow w.heap.size 3 1 v1 la.length (ic la) ∧ w'.ownsRow B 3 1 v2 lb.length (ic lb) ∧ w.heap.size ≤ B ∧ (∀ k, v1.ownBlock = some k → k < B) ∧ Below w.heap.size w w'
theorem Sign_any (op : Int) (w : World) (hg : Glob w) : Calls Tryd.prog 10 #[.int .i64 op] w (SignP w (laL op) (lbL op) (fxB (lineL op))) := by
  cases h : fxB (lineL op) with
  | true =>
    have e1 : laL op = typesL (lineL op).2.2.1.toNat := by unfold laL; rw [h]; rfl
    have e2 : lbL op = typesL (lineL op).2.2.2.toNat := by unfold lbL; rw [h]; rfl
    rw [e1, e2]
    exact (sign_yes op w h hg).mono fun e w' hp => hp
  | false =>
    have e1 : laL op = [] := by unfold laL; rw [h]; rfl
    have e2 : lbL op = [] := by unfold lbL; rw [h]; rfl
    rw [e1, e2]
    refine (sign_no op w h).mono fun e w' hp => ?_
    exact ⟨.slice none 0 0, .slice none 0 0, w.heap.size, hp.1, World.ownsRow_nil _ _ _ _, World.ownsRow_nil _ _ _ _, Nat.le_refl _, (fun k hk => by cases hk), hp.2⟩
theorem RB.newr (r : Rw) (w : World) : RB w.heap.size r (w.alloc (.cells (rwCells r) 24)) := by
  show (w.heap.push _)[w.heap.size]? = _
  simp
end Go.Proofs.YtnechalhgdmgiaaDoor
