/-
  What the law of tables under a script wants of scripts, rows and blocks. No condition.
-/
import Derived.Test.YtlifnddofgeaaaaComb
import Derived.Test.YtlifnddofgeaaaaOpenA
set_option linter.unusedSimpArgs false
set_option linter.unusedVariables false
set_option maxRecDepth 100000
namespace Go.Proofs.Ytlifnddofgeaaaa
open Go.RowKit

theorem Scr.below {p : Option Addr} {n b o : Nat} {E : Nat → EAct} {w w' : World} (h : Scr p n b o E w) (hb : Below w.heap.size w w') (i : Nat) (hi : i < n) : (∀ k z, (E i).cs[k]? = some z → w'.cell? ⟨b, o + i * 10 + k, none⟩ = some z) ∧ (E i).ok w' := by
  obtain ⟨h1, h2⟩ := h.at_ (by omega)
  refine ⟨fun k z hz => (hb.cell (p := ⟨b, o + i * 10 + k, none⟩) h2).trans (h.cell i hi k z hz), ?_⟩
  have h3 := h.ok i hi
  exact ⟨h3.k, h3.a, h3.b, h3.n, h3.c, h3.s.below hb⟩
theorem Row.lt' {B T s n c : Nat} {p : Option Addr} {xs : List Value} {w : World} (h : Row B T s p n c xs w) (g : Nat) (hg : blk p = some g) : g < w.heap.size := by
  cases p with
  | none => cases hg
  | some a => exact (h.own.lt g (by simpa [Value.ownBlock, blk] using hg)).2
theorem Sl.drew {s n c : Nat} {p : Option Addr} {xs : List Value} {w : World} (h : Sl s p n c xs w) : Sl s p n c xs w.drew := ⟨h.src.drew, h.cap, h.big, h.nil⟩
/-- Where a row of the document's lies: where it lay, or in what there is. -/
def NL (w' : World) (p p' : Option Addr) : Prop := ∀ g, blk p' = some g → blk p = some g ∨ g < w'.heap.size
theorem Row.old {B T s n c : Nat} {p : Option Addr} {xs : List Value} {w : World} (h : Row B T s p n c xs w) : blk p ≠ some w.heap.size := by
  intro e
  cases p with
  | none => cases e
  | some a =>
    have h2 := h.own.lt a.block rfl
    have h3 : a.block = w.heap.size := by simpa [blk] using e
    omega
theorem CA.ne {g g' : Nat} {cs cs' : Array Value} {T T' : TypeId} {W : World} (h : CA g cs T W) (h' : CA g' cs' T' W) (hT : T ≠ T') : g ≠ g' := by
  rintro rfl
  unfold CA at h h'
  rw [h] at h'
  cases h'
  exact hT rfl
end Go.Proofs.Ytlifnddofgeaaaa
