/-
  The copy of the law's example: a module of one type and one function with a block in a block. Condition: the example lies in memory.
-/
import Derived.Test.YteianbgampljeaaGreatCop5
set_option linter.unusedSimpArgs false
set_option linter.unusedVariables false
set_option maxRecDepth 100000
namespace Go.Proofs.YteianbgampljeaaGreat
open Go.RowKit

abbrev T3 := Option Addr × Nat × Nat
def n3 : T3 := (none, 0, 0)
/-- An instruction without a list but for what is in it. -/
def InsAt (W : World) (r : Nat) (op : Int) (vb : Value) : Prop :=
  W.cell? ⟨r, 0, none⟩ = some (.int .i64 op) ∧ W.cell? ⟨r, 1, none⟩ = some (.int .i64 0) ∧ W.cell? ⟨r, 2, none⟩ = some (.int .i64 0) ∧ W.cell? ⟨r, 3, none⟩ = some (.int .u64 0) ∧ W.cell? ⟨r, 4, none⟩ = some (.int .u64 0) ∧
  W.cell? ⟨r, 5, none⟩ = some (.slice none 0 0) ∧ W.cell? ⟨r, 6, none⟩ = some vb ∧ W.cell? ⟨r, 7, none⟩ = some (.slice none 0 0) ∧ W.cell? ⟨r, 8, none⟩ = some (.bool false)
theorem InsAt.far {W : World} {r g j : Nat} {op : Int} {vb v : Value} (h : InsAt W r op vb) (hne : g ≠ r) : InsAt (W.setCell ⟨g, j, none⟩ v) r op vb := by
  unfold InsAt at h ⊢
  simp only [cell_far hne]
  exact h
theorem InsAt.below {W W' : World} {r B : Nat} {op : Int} {vb : Value} (h : InsAt W r op vb) (hb : Below B W W') (hr : r < B) : InsAt W' r op vb := by
  have hc : ∀ k, W'.cell? ⟨r, k, none⟩ = W.cell? ⟨r, k, none⟩ := fun k => hb.cell (p := ⟨r, k, none⟩) hr
  unfold InsAt at h ⊢
  simp only [hc]
  exact h
/-- A block with a nop in it, in new memory. -/
def XB (s r : Nat) (W : World) : Prop := ∃ r', s ≤ r ∧ s ≤ r' ∧ r < W.heap.size ∧ r' < W.heap.size ∧ InsAt W r 2 (.slice (some ⟨r', 0, none⟩) 1 1) ∧ InsAt W r' 1 (.slice none 0 0)
def XN (s r : Nat) (W : World) : Prop := s ≤ r ∧ r < W.heap.size ∧ InsAt W r 1 (.slice none 0 0)
def XFn (s r : Nat) (W : World) : Prop := ∃ r', s ≤ r ∧ r < W.heap.size ∧ W.cell? ⟨r, 0, none⟩ = some (.int .i64 0) ∧ W.cell? ⟨r, 1, none⟩ = some (.slice none 0 0) ∧ W.cell? ⟨r, 2, none⟩ = some (.slice (some ⟨r', 0, none⟩) 1 1) ∧ XB s r' W
def XI (s r : Nat) (W : World) : Prop := s ≤ r ∧ r < W.heap.size ∧ W.cell? ⟨r, 0, none⟩ = some (.int .i64 127)
def XTy (s r : Nat) (W : World) : Prop := ∃ r', s ≤ r ∧ r < W.heap.size ∧ W.cell? ⟨r, 0, none⟩ = some (.slice (some ⟨r', 0, none⟩) 1 1) ∧ W.cell? ⟨r, 1, none⟩ = some (.slice none 0 0) ∧ XI s r' W
theorem sXN : Stay XN where
  mono s s' r W h := fun ⟨a, b, c⟩ => ⟨Nat.le_trans h a, b, c⟩
  store s r W g j v h := fun ⟨a, b, c⟩ => ⟨a, by rw [setCell_size]; exact b, c.far (by omega)⟩
  below s r W W' hb := fun ⟨a, b, c⟩ => ⟨a, Nat.lt_of_lt_of_le b hb.size, c.below hb b⟩
theorem sXB : Stay XB where
  mono s s' r W h := fun ⟨r', a, a', b, b', c, c'⟩ => ⟨r', Nat.le_trans h a, Nat.le_trans h a', b, b', c, c'⟩
  store s r W g j v h := fun ⟨r', a, a', b, b', c, c'⟩ => ⟨r', a, a', by rw [setCell_size]; exact b, by rw [setCell_size]; exact b', c.far (by omega), c'.far (by omega)⟩
  below s r W W' hb := fun ⟨r', a, a', b, b', c, c'⟩ => ⟨r', a, a', Nat.lt_of_lt_of_le b hb.size, Nat.lt_of_lt_of_le b' hb.size, c.below hb b, c'.below hb b'⟩
theorem sXFn : Stay XFn where
  mono s s' r W h := fun ⟨r', a, b, c0, c1, c2, d⟩ => ⟨r', Nat.le_trans h a, b, c0, c1, c2, sXB.mono _ _ _ _ h d⟩
  store s r W g j v h := fun ⟨r', a, b, c0, c1, c2, d⟩ => ⟨r', a, by rw [setCell_size]; exact b, by rw [cell_far (by omega)]; exact c0, by rw [cell_far (by omega)]; exact c1, by rw [cell_far (by omega)]; exact c2, sXB.store _ _ _ _ _ _ h d⟩
  below s r W W' hb := fun ⟨r', a, b, c0, c1, c2, d⟩ => ⟨r', a, Nat.lt_of_lt_of_le b hb.size, (hb.cell (p := ⟨r, 0, none⟩) b).trans c0, (hb.cell (p := ⟨r, 1, none⟩) b).trans c1, (hb.cell (p := ⟨r, 2, none⟩) b).trans c2, sXB.below _ _ _ _ hb d⟩
theorem sXI : Stay XI where
  mono s s' r W h := fun ⟨a, b, c⟩ => ⟨Nat.le_trans h a, b, c⟩
  store s r W g j v h := fun ⟨a, b, c⟩ => ⟨a, by rw [setCell_size]; exact b, by rw [cell_far (by omega)]; exact c⟩
  below s r W W' hb := fun ⟨a, b, c⟩ => ⟨a, Nat.lt_of_lt_of_le b hb.size, (hb.cell (p := ⟨r, 0, none⟩) b).trans c⟩
theorem sXTy : Stay XTy where
  mono s s' r W h := fun ⟨r', a, b, c0, c1, d⟩ => ⟨r', Nat.le_trans h a, b, c0, c1, sXI.mono _ _ _ _ h d⟩
  store s r W g j v h := fun ⟨r', a, b, c0, c1, d⟩ => ⟨r', a, by rw [setCell_size]; exact b, by rw [cell_far (by omega)]; exact c0, by rw [cell_far (by omega)]; exact c1, sXI.store _ _ _ _ _ _ h d⟩
  below s r W W' hb := fun ⟨r', a, b, c0, c1, d⟩ => ⟨r', a, Nat.lt_of_lt_of_le b hb.size, (hb.cell (p := ⟨r, 0, none⟩) b).trans c0, (hb.cell (p := ⟨r, 1, none⟩) b).trans c1, sXI.below _ _ _ _ hb d⟩

/-- copyCode says what copied says. -/
theorem code_of (X : Nat → Nat → World → Prop) (v : Value) (s : Nat) (w : World)
    (h : Calls Tryz.prog 130 #[v, .func (.func 131) #[] #[]] w fun e w' => ∃ r, e = .returned (.slice (some ⟨r, 0, none⟩) 1 1) ∧ X s r w' ∧ Below w.heap.size w w') :
    Calls Tryz.prog 111 #[v] w fun e w' => ∃ r, e = .returned (.slice (some ⟨r, 0, none⟩) 1 1) ∧ X s r w' ∧ Below w.heap.size w w' := by
  have H := hid h
  clear h
  go_enter Tryz.func111, Tryz.ntmps111
  go_wp2_with (go_at_call 130; (with_reducible refine H.out.mono ?_); rintro e w1 ⟨r, rfl, hx, hb⟩)
  go_ret
  exact ⟨r, rfl, hx, hb⟩

def T3of (X : Nat → Nat → World → Prop) (s : Nat) (q : T3) (W : World) : Prop := ∃ r, q = (some ⟨r, 0, none⟩, 1, 1) ∧ X s r W
theorem copy_nop (g c : Nat) (w : World) (hg : g < w.heap.size) (h : InsAt w g 1 (.slice none 0 0)) :
    Calls Tryz.prog 111 #[.slice (some ⟨g, 0, none⟩) 1 c] w fun e w' => ∃ r, e = .returned (.slice (some ⟨r, 0, none⟩) 1 1) ∧ XN w.heap.size r w' ∧ Below w.heap.size w w' := by
  refine code_of XN _ _ _ ?_
  refine (cop_ins 131 (fun _ _ => rfl) (fun _ q5 q6 q7 _ => q5 = n3 ∧ q6 = n3 ∧ q7 = n3) (fun _ _ _ _ _ _ _ h => h) (fun _ _ _ _ _ _ _ _ _ h => h) g 0 c 1 0 0 0 0 none 0 0 none 0 0 none 0 0 false w hg h (fun W hW => ?_)).mono ?_
  · refine (copI (fun _ q _ => q = n3) (fun _ _ _ _ _ h => h) (fun _ _ _ _ _ _ _ h => h) 1 0 0 0 0 none 0 0 false W (fun W' hW' => ?_)).mono ?_
    · refine (code_nil W').mono ?_
      rintro e w' ⟨rfl, rfl⟩
      exact ⟨n3, rfl, rfl, Below.refl _ _⟩
    · rintro e w' ⟨q, rfl, rfl, hb⟩
      exact ⟨n3, n3, n3, rfl, ⟨rfl, rfl, rfl⟩, hb⟩
  · rintro e w' ⟨r, q5, q6, q7, rfl, h1, h2, h3, ⟨rfl, rfl, rfl⟩, hb⟩
    exact ⟨r, rfl, ⟨h1, h2, h3⟩, hb⟩
theorem copy_blk (g g' c : Nat) (w : World) (hg : g < w.heap.size) (hg' : g' < w.heap.size) (h : InsAt w g 2 (.slice (some ⟨g', 0, none⟩) 1 1)) (h' : InsAt w g' 1 (.slice none 0 0)) :
    Calls Tryz.prog 111 #[.slice (some ⟨g, 0, none⟩) 1 c] w fun e w' => ∃ r, e = .returned (.slice (some ⟨r, 0, none⟩) 1 1) ∧ XB w.heap.size r w' ∧ Below w.heap.size w w' := by
  refine code_of XB _ _ _ ?_
  refine (cop_ins 131 (fun _ _ => rfl) (fun s q5 q6 q7 W => q5 = n3 ∧ q7 = n3 ∧ T3of XN s q6 W) (fun _ _ _ _ _ _ hs h => ⟨h.1, h.2.1, h.2.2.imp fun r hr => ⟨hr.1, sXN.mono _ _ _ _ hs hr.2⟩⟩) (fun _ _ _ _ _ _ _ _ hs h => ⟨h.1, h.2.1, h.2.2.imp fun r hr => ⟨hr.1, sXN.store _ _ _ _ _ _ hs hr.2⟩⟩)
    g 0 c 2 0 0 0 0 none 0 0 (some ⟨g', 0, none⟩) 1 1 none 0 0 false w hg h (fun W hW => ?_)).mono ?_
  · refine (copI (T3of XN) (fun _ _ _ _ hs h => h.imp fun r hr => ⟨hr.1, sXN.mono _ _ _ _ hs hr.2⟩) (fun _ _ _ _ _ _ hs h => h.imp fun r hr => ⟨hr.1, sXN.store _ _ _ _ _ _ hs hr.2⟩) 2 0 0 0 0 (some ⟨g', 0, none⟩) 1 1 false W (fun W' hW' => ?_)).mono ?_
    · have hb := hW.trans (hW'.mono hW.size)
      refine (copy_nop g' 1 W' (Nat.lt_of_lt_of_le hg' hb.size) (h'.below hb hg')).mono ?_
      rintro e w' ⟨r, rfl, hx, hb⟩
      exact ⟨(some ⟨r, 0, none⟩, 1, 1), rfl, ⟨r, rfl, hx⟩, hb⟩
    · rintro e w' ⟨q, rfl, hx, hb⟩
      exact ⟨n3, q, n3, rfl, ⟨rfl, rfl, hx⟩, hb⟩
  · rintro e w' ⟨r, q5, q6, q7, rfl, h1, h2, h3, ⟨rfl, rfl, r', rfl, hr'⟩, hb⟩
    exact ⟨r, rfl, ⟨r', h1, hr'.1, h2, hr'.2.1, h3, hr'.2.2⟩, hb⟩
/-- A function of that block, copied. -/
theorem copy_fn (g b g' : Nat) (w : World) (hg : g < w.heap.size) (hb : b < w.heap.size) (hg' : g' < w.heap.size) (h0 : w.cell? ⟨g, 0, none⟩ = some (.int .i64 0)) (h1 : w.cell? ⟨g, 1, none⟩ = some (.slice none 0 0)) (h2 : w.cell? ⟨g, 2, none⟩ = some (.slice (some ⟨b, 0, none⟩) 1 1))
    (hi : InsAt w b 2 (.slice (some ⟨g', 0, none⟩) 1 1)) (hi' : InsAt w g' 1 (.slice none 0 0)) :
    Calls Tryz.prog 60 #[.slice (some ⟨g, 0, none⟩) 1 1, .func (.func 61) #[] #[]] w fun e w' => ∃ r, e = .returned (.slice (some ⟨r, 0, none⟩) 1 1) ∧ XFn w.heap.size r w' ∧ Below w.heap.size w w' := by
  refine (cop_code 61 (fun _ _ => rfl) (fun s q1 q2 W => q1 = n3 ∧ T3of XB s q2 W) (fun _ _ _ _ _ hs h => ⟨h.1, h.2.imp fun r hr => ⟨hr.1, sXB.mono _ _ _ _ hs hr.2⟩⟩) (fun _ _ _ _ _ _ _ hs h => ⟨h.1, h.2.imp fun r hr => ⟨hr.1, sXB.store _ _ _ _ _ _ hs hr.2⟩⟩)
    g 0 1 0 none 0 0 (some ⟨b, 0, none⟩) 1 1 w hg ⟨h0, h1, h2⟩ (fun W hW => ?_)).mono ?_
  · refine (copF (T3of XB) (fun _ _ _ _ hs h => h.imp fun r hr => ⟨hr.1, sXB.mono _ _ _ _ hs hr.2⟩) (fun _ _ _ _ _ _ hs h => h.imp fun r hr => ⟨hr.1, sXB.store _ _ _ _ _ _ hs hr.2⟩) 0 (some ⟨b, 0, none⟩) 1 1 W (fun W' hW' => ?_)).mono ?_
    · have hw := hW.trans (hW'.mono hW.size)
      refine (copy_blk b g' 1 W' (Nat.lt_of_lt_of_le hb hw.size) (Nat.lt_of_lt_of_le hg' hw.size) (hi.below hw hb) (hi'.below hw hg')).mono ?_
      rintro e w' ⟨r, rfl, hx, hb⟩
      exact ⟨(some ⟨r, 0, none⟩, 1, 1), rfl, ⟨r, rfl, hx⟩, hb⟩
    · rintro e w' ⟨q, rfl, hx, hb⟩
      exact ⟨n3, q, rfl, ⟨rfl, hx⟩, hb⟩
  · rintro e w' ⟨r, q1, q2, rfl, k1, k2, ⟨k3, k4, k5⟩, ⟨rfl, r', rfl, hr'⟩, hb⟩
    exact ⟨r, rfl, ⟨r', k1, k2, k3, k4, k5, hr'⟩, hb⟩
/-- A type of one parameter, copied. -/
theorem copy_ty (g b : Nat) (w : World) (hg : g < w.heap.size) (hb : b < w.heap.size) (h0 : w.cell? ⟨g, 0, none⟩ = some (.slice (some ⟨b, 0, none⟩) 1 1)) (h1 : w.cell? ⟨g, 1, none⟩ = some (.slice none 0 0)) (h2 : w.cell? ⟨b, 0, none⟩ = some (.int .i64 127)) :
    Calls Tryz.prog 56 #[.slice (some ⟨g, 0, none⟩) 1 1, .func (.func 57) #[] #[]] w fun e w' => ∃ r, e = .returned (.slice (some ⟨r, 0, none⟩) 1 1) ∧ XTy w.heap.size r w' ∧ Below w.heap.size w w' := by
  refine (cop_ft 57 (fun _ _ => rfl) (fun s q0 q1 W => q1 = n3 ∧ T3of XI s q0 W) (fun _ _ _ _ _ hs h => ⟨h.1, h.2.imp fun r hr => ⟨hr.1, sXI.mono _ _ _ _ hs hr.2⟩⟩) (fun _ _ _ _ _ _ _ hs h => ⟨h.1, h.2.imp fun r hr => ⟨hr.1, sXI.store _ _ _ _ _ _ hs hr.2⟩⟩)
    g 0 1 (some ⟨b, 0, none⟩) 1 1 none 0 0 w hg ⟨h0, h1⟩ (fun W hW => ?_)).mono ?_
  · refine (copT (T3of XI) (fun _ _ _ _ hs h => h.imp fun r hr => ⟨hr.1, sXI.mono _ _ _ _ hs hr.2⟩) (fun _ _ _ _ _ _ hs h => h.imp fun r hr => ⟨hr.1, sXI.store _ _ _ _ _ _ hs hr.2⟩) (some ⟨b, 0, none⟩) 1 1 W (fun W' hW' => ?_)).mono ?_
    · have hw := hW.trans (hW'.mono hW.size)
      refine (cop_int 110 (fun _ _ => rfl) (fun _ _ => True) (fun _ _ _ _ h => h) (fun _ _ _ _ _ _ h => h) b 0 1 127 W' (Nat.lt_of_lt_of_le hb hw.size) ((hw.cell (p := ⟨b, 0, none⟩) hb).trans h2) (fun W2 _ => (itself_int 127 W2).mono ?_)).mono ?_
      · rintro e w' ⟨rfl, rfl⟩
        exact ⟨rfl, trivial, Below.refl _ _⟩
      · rintro e w' ⟨r, rfl, k1, k2, k3, _, hb⟩
        exact ⟨(some ⟨r, 0, none⟩, 1, 1), rfl, ⟨r, rfl, k1, k2, k3⟩, hb⟩
    · rintro e w' ⟨q, rfl, hx, hb⟩
      exact ⟨q, n3, rfl, ⟨rfl, hx⟩, hb⟩
  · rintro e w' ⟨r, q0, q1, rfl, k1, k2, ⟨k3, k4⟩, ⟨rfl, r', rfl, hr'⟩, hb⟩
    exact ⟨r, rfl, ⟨r', k1, k2, k3, k4, hr'⟩, hb⟩
end Go.Proofs.YteianbgampljeaaGreat
