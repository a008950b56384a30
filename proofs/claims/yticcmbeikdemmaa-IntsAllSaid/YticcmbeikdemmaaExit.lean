/-
  How a way leaves many blocks at once, a block a step. No condition.
-/
import Derived.WalkKit
namespace Go.Proofs.Yticcmbeikdemmaa
open Go

theorem ex_then {K : Act → World → Prop} {Q : Exit → Act → World → Prop} {id : Nat} {a : Act} {w : World} (h : Q (.exit id) a w) : Exit.then K Q (.exit id) a w := h
theorem ex_norm {K : Act → World → Prop} {Q : Exit → Act → World → Prop} {a : Act} {w : World} (h : K a w) : Exit.then K Q .normal a w := h
theorem ex_here {Q : Exit → Act → World → Prop} {id : Nat} {a : Act} {w : World} (h : Q .normal a w) : Exit.inBlock id Q (.exit id) a w := by
  simp [Exit.inBlock, h]
theorem ex_pass {Q : Exit → Act → World → Prop} {id id' : Nat} {a : Act} {w : World} (hne : Nat.beq id' id = false) (h : Q (.exit id') a w) : Exit.inBlock id Q (.exit id') a w := by
  have : id' ≠ id := Nat.ne_of_beq_eq_false hne
  simp [Exit.inBlock, this, h]

end Go.Proofs.Yticcmbeikdemmaa
