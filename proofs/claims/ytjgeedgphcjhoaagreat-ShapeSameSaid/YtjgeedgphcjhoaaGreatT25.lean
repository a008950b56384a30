/-
  CFo: merged, what the law does not reach left out (each text says what it holds where it lies in wip). No condition.
-/
import Derived.Test.YtjgeedgphcjhoaaGreatT07
import Derived.Test.YtjgeedgphcjhoaaGreatT01
set_option linter.unusedSimpArgs false
set_option linter.unusedVariables false
set_option maxRecDepth 100000
namespace Go.Proofs.YtjgeedgphcjhoaaGreat
open Go.RowKit
def UP (s : Nat) (w w' : World) : Prop := ∀ b,s ≤ b → b < w.heap.size → w'.heap[b]? = w.heap[b]?
theorem UP.of {s : Nat} {w w' : World} (h : Below w.heap.size w w') : UP s w w' := fun b _ hb => h.block b hb
theorem UP.mono {s s' : Nat} {w w' : World} (h : UP s w w') (hs : s ≤ s') : UP s' w w' := fun b h1 h2 => h b (Nat.le_trans hs h1) h2
theorem cell_in {w : World} {g k : Nat} {v : Value} (h : w.cell? ⟨g,k,none⟩ = some v) : g < w.heap.size := by
 rcases Nat.lt_or_ge g w.heap.size with h1 | h1
 ·exact h1
 ·rw [World.cell?,Array.getElem?_eq_none h1] at h; cases h
theorem UP.cell {s g k : Nat} {w w' : World} {v : Value} (h : UP s w w') (hg : s ≤ g) (hc : w.cell? ⟨g,k,none⟩ = some v) : w'.cell? ⟨g,k,none⟩ = some v := by
 have := h g hg (cell_in hc)
 rw [World.cell?] at hc ⊢
 rw [this]
 exact hc
def LP (s : Nat) (w : World) (v : Value) (l : List Int) : Prop := ∃ p c,v = .slice p l.length c ∧ l.length < 9223372036854775807 ∧ (l ≠ [] → ∃ g o,p = some ⟨g,o,none⟩ ∧ s ≤ g ∧ ∀ j x,l[j]? = some x → w.cell? ⟨g,o + j,none⟩ = some (.int .i64 x))
theorem LP.up {s : Nat} {w w' : World} {v : Value} {l : List Int} (h : LP s w v l) (hu : UP s w w') : LP s w' v l := by
 obtain ⟨p,c,rfl,hq,h⟩ := h
 refine ⟨p,c,rfl,hq,fun hn => ?_⟩
 obtain ⟨g,o,rfl,hg,hc⟩ := h hn
 exact ⟨g,o,rfl,hg,fun j x hj => hu.cell hg (hc j x hj)⟩
theorem LP.mono {s s' : Nat} {w : World} {v : Value} {l : List Int} (h : LP s w v l) (hs : s' ≤ s) : LP s' w v l := by
 obtain ⟨p,c,rfl,hq,h⟩ := h
 refine ⟨p,c,rfl,hq,fun hn => ?_⟩
 obtain ⟨g,o,rfl,hg,hc⟩ := h hn
 exact ⟨g,o,rfl,Nat.le_trans hs hg,hc⟩
theorem LP.li {s : Nat} {w : World} {v : Value} {l : List Int} (h : LP s w v l) : LI w.heap.size w v l := by
 obtain ⟨p,c,rfl,hq,h⟩ := h
 refine ⟨p,c,rfl,hq,fun hn => ?_⟩
 obtain ⟨g,o,rfl,hg,hc⟩ := h hn
 refine ⟨g,o,rfl,?_,hc⟩
 cases l with
 | nil => exact absurd rfl hn
 | cons x l => exact cell_in (hc 0 x rfl)
def FP (s : Nat) (w : World) : Fo → Nat → Nat → Prop
 | .nil,_,_ => True
 | .cons op a b n h l ot body els rest,g,o => s ≤ g ∧ (∃ vl vb ve,
   w.cell? ⟨g,o,none⟩ = some (.int .i64 op) ∧ w.cell? ⟨g,o + 1,none⟩ = some (.int .i64 a) ∧ w.cell? ⟨g,o + 2,none⟩ = some (.int .i64 b) ∧
   w.cell? ⟨g,o + 3,none⟩ = some (.int .u64 (n : Nat)) ∧ w.cell? ⟨g,o + 4,none⟩ = some (.int .u64 (h : Nat)) ∧ w.cell? ⟨g,o + 5,none⟩ = some vl ∧
   w.cell? ⟨g,o + 6,none⟩ = some vb ∧ w.cell? ⟨g,o + 7,none⟩ = some ve ∧ w.cell? ⟨g,o + 8,none⟩ = some (.bool ot) ∧ LP s w vl l ∧
   (∃ p c g' o',vb = .slice p body.len c ∧ (body.len ≠ 0 → p = some ⟨g',o',none⟩) ∧ FP s w body g' o') ∧
   (∃ p c g' o',ve = .slice p els.len c ∧ (els.len ≠ 0 → p = some ⟨g',o',none⟩) ∧ FP s w els g' o')) ∧ FP s w rest g (o + 9)
def SP (s : Nat) (w : World) (v : Value) (f : Fo) : Prop := ∃ p c g' o',v = .slice p f.len c ∧ (f.len ≠ 0 → p = some ⟨g',o',none⟩) ∧ FP s w f g' o'
theorem FP.up {s : Nat} {w w' : World} (hu : UP s w w') : ∀ (f : Fo) (g o : Nat),FP s w f g o → FP s w' f g o := by
 intro f
 induction f with
 | nil => intro g o h; trivial
 | cons op a b n h l ot body els rest ihb ihe ihr =>
  rintro g o ⟨hg,⟨vl,vb,ve,h0,h1,h2,h3,h4,h5,h6,h7,h8,hl,⟨p,c,g',o',e1,e2,e3⟩,⟨p2,c2,g2,o2,f1,f2,f3⟩⟩,hr⟩
  exact ⟨hg,⟨vl,vb,ve,hu.cell hg h0,hu.cell hg h1,hu.cell hg h2,hu.cell hg h3,hu.cell hg h4,hu.cell hg h5,hu.cell hg h6,hu.cell hg h7,hu.cell hg h8,hl.up hu,⟨p,c,g',o',e1,e2,ihb _ _ e3⟩,⟨p2,c2,g2,o2,f1,f2,ihe _ _ f3⟩⟩,ihr _ _ hr⟩
theorem FP.mono {s s' : Nat} {w : World} (hs : s' ≤ s) : ∀ (f : Fo) (g o : Nat),FP s w f g o → FP s' w f g o := by
 intro f
 induction f with
 | nil => intro g o h; trivial
 | cons op a b n h l ot body els rest ihb ihe ihr =>
  rintro g o ⟨hg,⟨vl,vb,ve,h0,h1,h2,h3,h4,h5,h6,h7,h8,hl,⟨p,c,g',o',e1,e2,e3⟩,⟨p2,c2,g2,o2,f1,f2,f3⟩⟩,hr⟩
  exact ⟨Nat.le_trans hs hg,⟨vl,vb,ve,h0,h1,h2,h3,h4,h5,h6,h7,h8,hl.mono hs,⟨p,c,g',o',e1,e2,ihb _ _ e3⟩,⟨p2,c2,g2,o2,f1,f2,ihe _ _ f3⟩⟩,ihr _ _ hr⟩
theorem FP.fa {s : Nat} {w : World} : ∀ (f : Fo) (g o : Nat),FP s w f g o → FA w.heap.size w f g o := by
 intro f
 induction f with
 | nil => intro g o h; trivial
 | cons op a b n h l ot body els rest ihb ihe ihr =>
  rintro g o ⟨hg,⟨vl,vb,ve,h0,h1,h2,h3,h4,h5,h6,h7,h8,hl,⟨p,c,g',o',e1,e2,e3⟩,⟨p2,c2,g2,o2,f1,f2,f3⟩⟩,hr⟩
  exact ⟨cell_in h0,⟨vl,vb,ve,h0,h1,h2,h3,h4,h5,h6,h7,h8,hl.li,⟨p,c,g',o',e1,e2,ihb _ _ e3⟩,⟨p2,c2,g2,o2,f1,f2,ihe _ _ f3⟩⟩,ihr _ _ hr⟩
theorem SP.up {s : Nat} {w w' : World} {v : Value} {f : Fo} (h : SP s w v f) (hu : UP s w w') : SP s w' v f := by
 obtain ⟨p,c,g,o,e1,e2,e3⟩ := h
 exact ⟨p,c,g,o,e1,e2,FP.up hu _ _ _ e3⟩
theorem SP.mono {s s' : Nat} {w : World} {v : Value} {f : Fo} (h : SP s w v f) (hs : s' ≤ s) : SP s' w v f := by
 obtain ⟨p,c,g,o,e1,e2,e3⟩ := h
 exact ⟨p,c,g,o,e1,e2,FP.mono hs _ _ _ e3⟩
theorem SP.sa {s : Nat} {w : World} {v : Value} {f : Fo} (h : SP s w v f) : SA w.heap.size w v f := by
 obtain ⟨p,c,g,o,e1,e2,e3⟩ := h
 exact ⟨p,c,g,o,e1,e2,FP.fa _ _ _ e3⟩
def setL (w : World) (r : Nat) : Nat → List Value → World
 | _,[] => w
 | o,v :: vs => setL (w.setCell ⟨r,o,none⟩ v) r (o + 1) vs
structure SetL (r o : Nat) (vs : List Value) (n : Nat) (T : TypeId) (w w' : World) : Prop where
 row : ∃ cur,CA r cur T w' ∧ cur.size = n
 here : ∀ k v,vs[k]? = some v → w'.cell? ⟨r,o + k,none⟩ = some v
 front : ∀ p,p < o → w'.cell? ⟨r,p,none⟩ = w.cell? ⟨r,p,none⟩
 other : ∀ b,b ≠ r → w'.heap[b]? = w.heap[b]?
 size : w'.heap.size = w.heap.size
theorem set_other (w : World) (r k b : Nat) (v : Value) (h : b ≠ r) : (w.setCell ⟨r,k,none⟩ v).heap[b]? = w.heap[b]? := by
 rw [World.setCell,Array.getElem?_modify,if_neg (fun e => h e.symm)]
theorem set_front (w : World) (r k p : Nat) (v : Value) (h : p ≠ k) : (w.setCell ⟨r,k,none⟩ v).cell? ⟨r,p,none⟩ = w.cell? ⟨r,p,none⟩ := by
 simp only [World.cell?,World.setCell,Array.getElem?_modify]
 cases hr : w.heap[r]? with
 | none => simp
 | some o =>
  simp only [if_true,Option.map_some]
  cases o <;> simp [Array.getElem?_setIfInBounds,Ne.symm h]
theorem setL_ok (T : TypeId) (r n : Nat) : ∀ (vs : List Value) (o : Nat) (w : World) (cur : Array Value),CA r cur T w → cur.size = n → o + vs.length ≤ n → SetL r o vs n T w (setL w r o vs) := by
 intro vs
 induction vs with
 | nil =>
  intro o w cur h hs hn
  exact ⟨⟨cur,h,hs⟩,fun k v hk => by simp at hk,fun p _ => rfl,fun b _ => rfl,rfl⟩
 | cons v vs ih =>
  intro o w cur h hs hn
  simp only [List.length_cons] at hn
  have h1 := CA.set (k := o) h v
  have H := ih (o + 1) _ _ h1 (by simpa using hs) (by omega)
  refine ⟨H.row,fun k u hk => ?_,fun p hp => ?_,fun b hb => ?_,?_⟩
  ·cases k with
   | zero =>
    obtain rfl : v = u := by simpa using hk
    show (setL _ r (o + 1) vs).cell? ⟨r,o,none⟩ = _
    rw [H.front o (by omega)]
    exact h1.at (by simp [Array.getElem?_setIfInBounds,hs]; omega)
   | succ k =>
    have := H.here k u (by simpa using hk)
    rw [← this,show o + 1 + k = o + (k + 1) by omega]
    rfl
  ·exact (H.front p (by omega)).trans (set_front w r o p v (by omega))
  ·exact (H.other b hb).trans (set_other w r o b v hb)
  ·exact H.size.trans (by simp [World.setCell])
end Go.Proofs.YtjgeedgphcjhoaaGreat
