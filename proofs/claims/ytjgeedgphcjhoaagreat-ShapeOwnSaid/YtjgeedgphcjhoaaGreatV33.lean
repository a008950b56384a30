/-
  SpK: what a copy is in memory, and what becomes of it (the text says what it holds where it lies in wip). No condition.
-/
import Derived.Test.YtjgeedgphcjhoaaGreatT24
import Derived.Test.YtjgeedgphcjhoaaGreatT08
import Derived.Test.YtjgeedgphcjhoaaGreatT14
set_option linter.unusedSimpArgs false
set_option linter.unusedVariables false
set_option maxRecDepth 100000
namespace Go.Proofs.YtjgeedgphcjhoaaGreat
open Go.RowKit
structure KS (s B : Nat) (w w' : World) : Prop where
 os : w'.os = w.os
 tape : w'.tape = w.tape
 output : w'.output = w.output
 size : w'.heap.size = w.heap.size
 block : ∀ b,b < s ∨ B ≤ b → w'.heap[b]? = w.heap[b]?
 int : ∀ b k kd x,w.cell? ⟨b,k,none⟩ = some (.int kd x) → ∃ y,w'.cell? ⟨b,k,none⟩ = some (.int kd y)
 str : ∀ b k x,w.cell? ⟨b,k,none⟩ = some (.string x) → ∃ y,w'.cell? ⟨b,k,none⟩ = some (.string y)
 sl : ∀ b k p n c,w.cell? ⟨b,k,none⟩ = some (.slice p n c) → w'.cell? ⟨b,k,none⟩ = some (.slice p n c) ∨ w'.cell? ⟨b,k,none⟩ = some (.slice none 0 0)
 fr : ∀ b k,w.frozen? ⟨b,k,none⟩ = false → w'.frozen? ⟨b,k,none⟩ = false
theorem KS.refl (s B : Nat) (w : World) : KS s B w w := ⟨rfl,rfl,rfl,rfl,fun _ _ => rfl,fun _ _ _ x h => ⟨x,h⟩,fun _ _ x h => ⟨x,h⟩,fun _ _ _ _ _ h => .inl h,fun _ _ h => h⟩
theorem KS.trans {s B : Nat} {a b c : World} (h : KS s B a b) (k : KS s B b c) : KS s B a c :=
 ⟨k.os.trans h.os,k.tape.trans h.tape,k.output.trans h.output,k.size.trans h.size,fun x hx => (k.block x hx).trans (h.block x hx),
  fun x y kd z hz => by obtain ⟨u,hu⟩ := h.int x y kd z hz; exact k.int x y kd u hu,
  fun x y z hz => by obtain ⟨u,hu⟩ := h.str x y z hz; exact k.str x y u hu,
  fun x y p n c hz => by
   rcases h.sl x y p n c hz with h1 | h1
   ·exact k.sl x y p n c h1
   ·rcases k.sl x y none 0 0 h1 with h2 | h2 <;> exact .inr h2,
  fun x y hz => k.fr x y (h.fr x y hz)⟩
theorem KS.below {s B : Nat} {w w' : World} (h : KS s B w w') : Below s w w' := ⟨h.os,h.tape,h.output,Nat.le_of_eq h.size.symm,fun k hk => h.block k (.inl hk)⟩
def SameK : Value → Value → Prop
 | .int k _,v => ∃ y,v = .int k y
 | .string _,v => ∃ y,v = .string y
 | .slice _ _ _,v => v = .slice none 0 0
 | _,_ => False
theorem frozen_set (w : World) (r k b j : Nat) (v : Value) : (w.setCell ⟨r,k,none⟩ v).frozen? ⟨b,j,none⟩ = w.frozen? ⟨b,j,none⟩ := by
 simp only [World.frozen?,World.setCell,Array.getElem?_modify]
 by_cases h : r = b
 ·subst h
  cases hr : w.heap[r]? with
  | none => simp
  | some o => cases o <;> simp
 ·simp [h]
theorem cell_set {w : World} {r k : Nat} {old v : Value} (h : w.cell? ⟨r,k,none⟩ = some old) (b j : Nat) : (w.setCell ⟨r,k,none⟩ v).cell? ⟨b,j,none⟩ = if b = r ∧ j = k then some v else w.cell? ⟨b,j,none⟩ := by
 simp only [World.cell?,World.setCell,Array.getElem?_modify] at h ⊢
 by_cases hb : r = b
 ·subst hb
  cases hr : w.heap[r]? with
  | none => rw [hr] at h; simp at h
  | some o =>
   rw [hr] at h
   cases o with
   | cells cs T fr =>
    simp only [if_true,Option.map_some] at h ⊢
    by_cases hj : j = k
    ·subst hj
     have hlt : j < cs.size := by
      rcases Nat.lt_or_ge j cs.size with h1 | h1
      ·exact h1
      ·simp [Array.getElem?_eq_none h1] at h
     simp [Array.getElem?_setIfInBounds,hlt]
    ·simp [Array.getElem?_setIfInBounds,hj,Ne.symm hj]
   | _ => simp_all
 ·have hb2 : ¬ b = r := fun e => hb e.symm
  simp [hb,hb2]
theorem KS.set {s B r k : Nat} {w : World} {old v : Value} (hs : s ≤ r) (hB : r < B) (hc : w.cell? ⟨r,k,none⟩ = some old) (hk : SameK old v) : KS s B w (w.setCell ⟨r,k,none⟩ v) := by
 have hset := cell_set (v := v) hc
 refine ⟨rfl,rfl,rfl,by simp [World.setCell],fun b hb => ?_,fun b j kd x hx => ?_,fun b j x hx => ?_,fun b j p n c hx => ?_,fun b j hx => ?_⟩
 ·rw [World.setCell,Array.getElem?_modify,if_neg (by show ¬ r = b; omega)]
 ·rw [hset]
  by_cases h : b = r ∧ j = k
  ·rw [if_pos h]
   obtain ⟨rfl,rfl⟩ := h
   rw [hc] at hx
   obtain rfl := Option.some.inj hx
   obtain ⟨y,rfl⟩ := hk
   exact ⟨y,rfl⟩
  ·rw [if_neg h]; exact ⟨x,hx⟩
 ·rw [hset]
  by_cases h : b = r ∧ j = k
  ·rw [if_pos h]
   obtain ⟨rfl,rfl⟩ := h
   rw [hc] at hx
   obtain rfl := Option.some.inj hx
   obtain ⟨y,rfl⟩ := hk
   exact ⟨y,rfl⟩
  ·rw [if_neg h]; exact ⟨x,hx⟩
 ·rw [hset]
  by_cases h : b = r ∧ j = k
  ·rw [if_pos h]
   obtain ⟨rfl,rfl⟩ := h
   rw [hc] at hx
   obtain rfl := Option.some.inj hx
   exact .inr (congrArg some hk)
  ·rw [if_neg h]; exact .inl hx
 ·rw [frozen_set]; exact hx
def WI (s B : Nat) (w : World) (v : Value) : Prop := ∃ p n c,v = .slice p n c ∧ n < 9223372036854775807 ∧ (n ≠ 0 → ∃ g o,p = some ⟨g,o,none⟩ ∧ s ≤ g ∧ g < B ∧ (∀ k,w.frozen? ⟨g,k,none⟩ = false) ∧ ∀ j,j < n → ∃ x,w.cell? ⟨g,o + j,none⟩ = some (.int .i64 x))
theorem WI.nil (s B : Nat) (w : World) : WI s B w (.slice none 0 0) := ⟨none,0,0,rfl,by decide,fun h => absurd rfl h⟩
theorem WI.ks {s B : Nat} {w w' : World} {v : Value} (h : WI s B w v) (hk : KS s B w w') : WI s B w' v := by
 obtain ⟨p,n,c,rfl,hn,h⟩ := h
 refine ⟨p,n,c,rfl,hn,fun h0 => ?_⟩
 obtain ⟨g,o,rfl,h1,h2,h3,h4⟩ := h h0
 exact ⟨g,o,rfl,h1,h2,fun k => hk.fr _ _ (h3 k),fun j hj => by obtain ⟨x,hx⟩ := h4 j hj; exact hk.int _ _ _ _ hx⟩
def WF (s B : Nat) (w : World) : Fo → Nat → Nat → Prop
 | .nil,_,_ => True
 | .cons _ _ _ _ _ _ _ body els rest,g,o => (s ≤ g ∧ g < B ∧ w.frozen? ⟨g,o,none⟩ = false) ∧ (∃ op vl vb ve,w.cell? ⟨g,o,none⟩ = some (.int .i64 op) ∧ w.cell? ⟨g,o + 5,none⟩ = some vl ∧ w.cell? ⟨g,o + 6,none⟩ = some vb ∧ w.cell? ⟨g,o + 7,none⟩ = some ve ∧ WI s B w vl ∧
   (vb = .slice none 0 0 ∨ ∃ p c g' o',vb = .slice p body.len c ∧ (body.len ≠ 0 → p = some ⟨g',o',none⟩) ∧ WF s B w body g' o') ∧
   (ve = .slice none 0 0 ∨ ∃ p c g' o',ve = .slice p els.len c ∧ (els.len ≠ 0 → p = some ⟨g',o',none⟩) ∧ WF s B w els g' o')) ∧ WF s B w rest g (o + 9)
def WS (s B : Nat) (w : World) (v : Value) (f : Fo) : Prop := v = .slice none 0 0 ∨ ∃ p c g' o',v = .slice p f.len c ∧ (f.len ≠ 0 → p = some ⟨g',o',none⟩) ∧ WF s B w f g' o'
theorem WF.ks {s B : Nat} {w w' : World} (hk : KS s B w w') : ∀ (f : Fo) (g o : Nat),WF s B w f g o → WF s B w' f g o := by
 intro f
 induction f with
 | nil => intro g o h; trivial
 | cons op a b n h l ot body els rest ihb ihe ihr =>
  rintro g o ⟨⟨g1,g2,g3⟩,⟨op,vl,vb,ve,h0,h5,h6,h7,hl,hb,he⟩,hr⟩
  obtain ⟨y,hy⟩ := hk.int _ _ _ _ h0
  have sl : ∀ (k : Nat) (v : Value) (P : Value → Prop),(∃ p n c,v = .slice p n c) → w.cell? ⟨g,k,none⟩ = some v → P v → P (.slice none 0 0) → ∃ v',w'.cell? ⟨g,k,none⟩ = some v' ∧ P v' := by
   rintro k v P ⟨p,n,c,rfl⟩ hv p1 p2
   rcases hk.sl _ _ _ _ _ hv with h1 | h1
   ·exact ⟨_,h1,p1⟩
   ·exact ⟨_,h1,p2⟩
  have es : ∀ (v : Value) (f : Fo),(v = .slice none 0 0 ∨ ∃ p c g' o',v = .slice p f.len c ∧ (f.len ≠ 0 → p = some ⟨g',o',none⟩) ∧ WF s B w' f g' o') → ∃ p n c,v = .slice p n c := by
   rintro v f (rfl | ⟨p,c,g',o',rfl,_⟩)
   ·exact ⟨_,_,_,rfl⟩
   ·exact ⟨_,_,_,rfl⟩
  have hb' : vb = .slice none 0 0 ∨ ∃ p c g' o',vb = .slice p body.len c ∧ (body.len ≠ 0 → p = some ⟨g',o',none⟩) ∧ WF s B w' body g' o' := by
   rcases hb with h | ⟨p,c,g',o',h1,h2,h3⟩
   ·exact .inl h
   ·exact .inr ⟨p,c,g',o',h1,h2,ihb _ _ h3⟩
  have he' : ve = .slice none 0 0 ∨ ∃ p c g' o',ve = .slice p els.len c ∧ (els.len ≠ 0 → p = some ⟨g',o',none⟩) ∧ WF s B w' els g' o' := by
   rcases he with h | ⟨p,c,g',o',h1,h2,h3⟩
   ·exact .inl h
   ·exact .inr ⟨p,c,g',o',h1,h2,ihe _ _ h3⟩
  obtain ⟨vl',l1,l2⟩ := sl (o + 5) vl (WI s B w') (by obtain ⟨p,n,c,e,_⟩ := hl; exact ⟨p,n,c,e⟩) h5 (hl.ks hk) (WI.nil _ _ _)
  obtain ⟨vb',b1,b2⟩ := sl (o + 6) vb (fun v => v = .slice none 0 0 ∨ ∃ p c g' o',v = .slice p body.len c ∧ (body.len ≠ 0 → p = some ⟨g',o',none⟩) ∧ WF s B w' body g' o') (es _ _ hb') h6 hb' (.inl rfl)
  obtain ⟨ve',e1,e2⟩ := sl (o + 7) ve (fun v => v = .slice none 0 0 ∨ ∃ p c g' o',v = .slice p els.len c ∧ (els.len ≠ 0 → p = some ⟨g',o',none⟩) ∧ WF s B w' els g' o') (es _ _ he') h7 he' (.inl rfl)
  exact ⟨⟨g1,g2,hk.fr _ _ g3⟩,⟨y,vl',vb',ve',hy,l1,b1,e1,l2,b2,e2⟩,ihr _ _ hr⟩
theorem WS.ks {s B : Nat} {w w' : World} {v : Value} {f : Fo} (h : WS s B w v f) (hk : KS s B w w') : WS s B w' v f := by
 rcases h with h | ⟨p,c,g,o,h1,h2,h3⟩
 ·exact .inl h
 ·exact .inr ⟨p,c,g,o,h1,h2,WF.ks hk _ _ _ h3⟩
set_option maxHeartbeats 4000000 in
theorem turn_says (s B : Nat) (v : Value) (w : World) (h : WI s B w v) : Calls Tryz.prog 95 #[v] w fun e w' => e = .returned (.tuple #[]) ∧ KS s B w w' := by
 obtain ⟨p,n,c,rfl,hn,h⟩ := h
 have hn' : (n : Int) < 9223372036854775807 := by omega
 have H := hid h
 clear h hn
 go_enter Tryz.func95,Tryz.ntmps95
 go_wp2
 go_loopw [2] (fun vi wr => ∃ i : Nat,i ≤ n ∧ vi = .int .i64 i ∧ Hid (KS s B w wr)) (fun vi _ => n - (intOf vi).toNat)
 case atStart => exact ⟨0,Nat.zero_le _,rfl,KS.refl _ _ _⟩
 case round =>
  obtain ⟨i,hi,rfl,HK⟩ := hrel
  by_cases hlt : i < n
  ·obtain ⟨g,o,rfl,hs,hB,hz,hc⟩ := H.out (by omega)
   obtain ⟨x0,hx0⟩ := hc i hlt
   obtain ⟨x,hx⟩ := HK.out.int _ _ _ _ hx0
   have hf := HK.out.fr _ _ (hz (o + i))
   have HXX := hid hx
   have HSB := hid (And.intro hs hB)
   clear hx0 hc hz hs hB
   go_wp2
   go_roundw
   case rel => exact ⟨i + 1,hlt,by go_num,HK.out.trans (KS.set HSB.out.1 HSB.out.2 HXX.out ⟨_,rfl⟩)⟩
   case measure => simp [intOf]; omega
  ·obtain rfl : i = n := by omega
   go_wp2
   (first | go_end0 | refine bodyPost_ret (results_none rfl _ _ _) rfl ?_)
   exact ⟨rfl,HK.out⟩
end Go.Proofs.YtjgeedgphcjhoaaGreat
