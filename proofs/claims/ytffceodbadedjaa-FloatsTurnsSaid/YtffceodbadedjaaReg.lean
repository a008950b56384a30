/-
  What stays behind a call, an allocation, a store, in a region that makes memory: a format's block, a number's block. No condition.
-/
import Derived.Test.YtffceodbadedjaaBel
set_option linter.unusedSimpArgs false
set_option linter.unusedVariables false
namespace Go.Proofs.Ytffceodbadedjaa
open Go.RowKit

theorem sl0 {α : Type} (a b : α) (l : List α) : (a :: l).set 0 b = b :: l := rfl
theorem sl1 {α : Type} (a b : α) (l : List α) (n : Nat) : (a :: l).set (n + 1) b = a :: l.set n b := rfl
theorem sl2 {α : Type} (l : List α) (i : Nat) (a : α) : l.toArray.setIfInBounds i a = (l.set i a).toArray := by simp

theorem balloc {w w1 : World} (h : Below w.heap.size w w1) (o : Obj) : Below w.heap.size w (w1.alloc o) := h.alloc h.size o

/-- Block g holds a format. -/
def Fb (E P : Int) (g : Nat) (W : World) : Prop := W.cell? ⟨g, 0, none⟩ = some (.int .i64 E) ∧ W.cell? ⟨g, 1, none⟩ = some (.int .i64 P)
/-- Block g holds a number. -/
def Nb (g : Nat) (ng : Bool) (m e : Int) (W : World) : Prop :=
  (W.cell? ⟨g, 0, none⟩ = some (.bool ng) ∧ W.cell? ⟨g, 1, none⟩ = some (.int .u64 m) ∧ W.cell? ⟨g, 2, none⟩ = some (.int .i64 e)) ∧
  (W.frozen? ⟨g, 0, none⟩ = false ∧ W.frozen? ⟨g, 1, none⟩ = false ∧ W.frozen? ⟨g, 2, none⟩ = false)

theorem Fb.lt {E P : Int} {g : Nat} {W : World} (h : Fb E P g W) : g < W.heap.size := World.block_lt_of_cell? _ _ h.1
theorem Nb.lt {g : Nat} {ng : Bool} {m e : Int} {W : World} (h : Nb g ng m e W) : g < W.heap.size := World.block_lt_of_cell? _ _ h.1.1

theorem Fb.call {E P : Int} {g : Nat} {W W' : World} (h : Fb E P g W) (hb : Below W.heap.size W W') : Fb E P g W' := ⟨bkeep h.1 hb, bkeep h.2 hb⟩
theorem Nb.call {g : Nat} {ng : Bool} {m e : Int} {W W' : World} (h : Nb g ng m e W) (hb : Below W.heap.size W W') : Nb g ng m e W' := by
  have hl := h.lt
  refine ⟨⟨bkeep h.1.1 hb, bkeep h.1.2.1 hb, bkeep h.1.2.2 hb⟩, ?_, ?_, ?_⟩
  · rw [hb.frozen (p := ⟨g, 0, none⟩) hl]; exact h.2.1
  · rw [hb.frozen (p := ⟨g, 1, none⟩) hl]; exact h.2.2.1
  · rw [hb.frozen (p := ⟨g, 2, none⟩) hl]; exact h.2.2.2

theorem ball (W : World) (o : Obj) : Below W.heap.size W (W.alloc o) := (Below.refl _ _).alloc (Nat.le_refl _) o
theorem Fb.alloc {E P : Int} {g : Nat} {W : World} (h : Fb E P g W) (o : Obj) : Fb E P g (W.alloc o) := h.call (ball W o)
theorem Nb.alloc {g : Nat} {ng : Bool} {m e : Int} {W : World} (h : Nb g ng m e W) (o : Obj) : Nb g ng m e (W.alloc o) := h.call (ball W o)
theorem Fb.drew {E P : Int} {g : Nat} {W : World} (h : Fb E P g W) : Fb E P g W.drew := h
theorem Nb.drew {g : Nat} {ng : Bool} {m e : Int} {W : World} (h : Nb g ng m e W) : Nb g ng m e W.drew := h

theorem Fb.new (E P : Int) (W : World) : Fb E P W.heap.size (W.alloc (.cells #[.int .i64 E, .int .i64 P] 43)) := ⟨by simp, by simp⟩
theorem Nb.new (ng : Bool) (m e : Int) (W : World) : Nb W.heap.size ng m e (W.alloc (.cells #[.bool ng, .int .u64 m, .int .i64 e] 62)) :=
  ⟨⟨by simp, by simp, by simp⟩, by simp, by simp, by simp⟩

theorem Fb.set {E P : Int} {g c o : Nat} {u : Value} {W : World} (h : Fb E P g W) (hne : c ≠ g) : Fb E P g (W.setCell ⟨c, o, none⟩ u) := by
  refine ⟨?_, ?_⟩
  · rw [World.cell?_setCell_far _ _ _ _ hne]; exact h.1
  · rw [World.cell?_setCell_far _ _ _ _ hne]; exact h.2
theorem bset {w w1 : World} {c o : Nat} {u : Value} (h : Below w.heap.size w w1) (hc : w.heap.size ≤ c) : Below w.heap.size w (w1.setCell ⟨c, o, none⟩ u) := h.setCell hc u

theorem frozen_set {W : World} {a p : Addr} {u : Value} : (W.setCell p u).frozen? a = W.frozen? a := by simp

theorem Nb.set {g c o : Nat} {ng : Bool} {m e : Int} {u : Value} {W : World} (h : Nb g ng m e W) (hne : c ≠ g) : Nb g ng m e (W.setCell ⟨c, o, none⟩ u) := by
  refine ⟨⟨?_, ?_, ?_⟩, ?_, ?_, ?_⟩
  · rw [World.cell?_setCell_far _ _ _ _ hne]; exact h.1.1
  · rw [World.cell?_setCell_far _ _ _ _ hne]; exact h.1.2.1
  · rw [World.cell?_setCell_far _ _ _ _ hne]; exact h.1.2.2
  · rw [frozen_set]; exact h.2.1
  · rw [frozen_set]; exact h.2.2.1
  · rw [frozen_set]; exact h.2.2.2

theorem sSame {W : World} {g o : Nat} {v u : Value} (h : W.cell? ⟨g, o, none⟩ = some u) : (W.setCell ⟨g, o, none⟩ v).cell? ⟨g, o, none⟩ = some v := World.cell?_setCell_same _ _ _ h
theorem sOther {W : World} {g o o' : Nat} {v u : Value} (h : W.cell? ⟨g, o', none⟩ = some u) (hne : o ≠ o') : (W.setCell ⟨g, o, none⟩ v).cell? ⟨g, o', none⟩ = some u := by
  rw [World.cell?_setCell_other _ _ _ _ (fun e => hne (by injection e))]; exact h

theorem Nb.store {g : Nat} {ng ng' : Bool} {m e m' e' : Int} {W : World} (h : Nb g ng m e W) :
    Nb g ng' m' e' (((W.setCell ⟨g, 0, none⟩ (.bool ng')).setCell ⟨g, 1, none⟩ (.int .u64 m')).setCell ⟨g, 2, none⟩ (.int .i64 e')) := by
  have h0 := h.1.1
  have h1 := h.1.2.1
  have h2 := h.1.2.2
  refine ⟨⟨sOther (sOther (sSame h0) (by decide)) (by decide), sOther (sSame (sOther h1 (by decide))) (by decide), sSame (sOther (sOther h2 (by decide)) (by decide))⟩, ?_, ?_, ?_⟩
  · simp only [frozen_set]; exact h.2.1
  · simp only [frozen_set]; exact h.2.2.1
  · simp only [frozen_set]; exact h.2.2.2

theorem Nb.setm {g : Nat} {ng : Bool} {m e m' : Int} {W : World} (h : Nb g ng m e W) : Nb g ng m' e (W.setCell ⟨g, 1, none⟩ (.int .u64 m')) := by
  have h0 := h.1.1
  have h1 := h.1.2.1
  have h2 := h.1.2.2
  refine ⟨⟨sOther h0 (by decide), sSame h1, sOther h2 (by decide)⟩, ?_, ?_, ?_⟩
  · simp only [frozen_set]; exact h.2.1
  · simp only [frozen_set]; exact h.2.2.1
  · simp only [frozen_set]; exact h.2.2.2

theorem Nb.sete {g : Nat} {ng : Bool} {m e e' : Int} {W : World} (h : Nb g ng m e W) : Nb g ng m e' (W.setCell ⟨g, 2, none⟩ (.int .i64 e')) := by
  have h0 := h.1.1
  have h1 := h.1.2.1
  have h2 := h.1.2.2
  refine ⟨⟨sOther h0 (by decide), sOther h1 (by decide), sSame h2⟩, ?_, ?_, ?_⟩
  · simp only [frozen_set]; exact h.2.1
  · simp only [frozen_set]; exact h.2.2.1
  · simp only [frozen_set]; exact h.2.2.2

/-- What a region of a function on formats keeps. -/
def Sx (E P : Int) (w W : World) : Prop := Fb E P w.heap.size W ∧ Below w.heap.size w W
theorem Sx.lt {E P : Int} {w W : World} (h : Sx E P w W) : w.heap.size < W.heap.size := h.1.lt
theorem Sx.call {E P : Int} {w W W' : World} (h : Sx E P w W) (hb : Below W.heap.size W W') : Sx E P w W' := ⟨h.1.call hb, bnext h.2 hb⟩
theorem Sx.alloc {E P : Int} {w W : World} (h : Sx E P w W) (o : Obj) : Sx E P w (W.alloc o) := h.call (ball W o)
theorem Sx.drew {E P : Int} {w W : World} (h : Sx E P w W) : Sx E P w W.drew := ⟨h.1, h.2.drew⟩
theorem Sx.drewN {E P : Int} {w W : World} (h : Sx E P w W) (n : Nat) : Sx E P w (W.drewN n) := ⟨h.1, below_drewN h.2 n⟩
theorem Sx.new (E P : Int) (w : World) : Sx E P w (w.alloc (.cells #[.int .i64 E, .int .i64 P] 43)) := ⟨Fb.new E P w, ball w _⟩
theorem Sx.set {E P : Int} {w W : World} {c o : Nat} {u : Value} (h : Sx E P w W) (hne : w.heap.size < c) : Sx E P w (W.setCell ⟨c, o, none⟩ u) := ⟨h.1.set (by omega), bset h.2 (by omega)⟩

end Go.Proofs.Ytffceodbadedjaa
