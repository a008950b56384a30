/-
  SpM: what a copy is in memory, and what becomes of it (the text says what it holds where it lies in wip). No condition.
-/
import Derived.Test.YtjgeedgphcjhoaaGreatT24
import Derived.Test.YtjgeedgphcjhoaaGreatT08
import Derived.Test.YtjgeedgphcjhoaaGreatT14
import Derived.Test.YtjgeedgphcjhoaaGreatV34
set_option linter.unusedSimpArgs false
set_option linter.unusedVariables false
set_option maxRecDepth 100000
namespace Go.Proofs.YtjgeedgphcjhoaaGreat
open Go.RowKit
def SC (Q : World → Value → Prop) (w : World) (b k : Nat) : Prop := ∃ p n c,w.cell? ⟨b,k,none⟩ = some (.slice p n c) ∧ Q w (.slice p n c)
theorem SC.ks {s B : Nat} {w w' : World} {Q : World → Value → Prop} {b k : Nat} (hk : KS s B w w') (h1 : ∀ v,Q w v → Q w' v) (h2 : Q w' (.slice none 0 0)) (h : SC Q w b k) : SC Q w' b k := by
 obtain ⟨p,n,c,hc,hq⟩ := h
 rcases hk.sl _ _ _ _ _ hc with h3 | h3
 ·exact ⟨p,n,c,h3,h1 _ hq⟩
 ·exact ⟨none,0,0,h3,h2⟩
theorem KS.drew {s B : Nat} {a w : World} (h : KS s B a w) : KS s B a w.drew := ⟨h.os,h.tape,h.output,h.size,h.block,h.int,h.str,h.sl,h.fr⟩
def IC (w : World) (b k : Nat) : Prop := ∃ x,w.cell? ⟨b,k,none⟩ = some (.int .i64 x)
def TC (w : World) (b k : Nat) : Prop := ∃ x,w.cell? ⟨b,k,none⟩ = some (.string x)
theorem CA.ks {s B g : Nat} {cs : Array Value} {T : TypeId} {w w' : World} (h : CA g cs T w) (hk : KS s B w w') (hg : B ≤ g) : CA g cs T w' := by
 unfold CA at h ⊢
 rw [hk.block g (.inr hg),h]
def WY (s B : Nat) (w : World) (v : Value) : Prop := ∃ p n c,v = .slice p n c ∧ n < 9223372036854775807 ∧ (n ≠ 0 → ∃ g o,p = some ⟨g,o,none⟩ ∧ s ≤ g ∧ g < B ∧ (∀ k,w.frozen? ⟨g,k,none⟩ = false) ∧ ∀ j,j < n → ∃ x,w.cell? ⟨g,o + j,none⟩ = some (.int .u8 x))
theorem WY.nil (s B : Nat) (w : World) : WY s B w (.slice none 0 0) := ⟨none,0,0,rfl,by decide,fun h => absurd rfl h⟩
theorem WY.ks {s B : Nat} {w w' : World} {v : Value} (h : WY s B w v) (hk : KS s B w w') : WY s B w' v := by
 obtain ⟨p,n,c,rfl,hn,h⟩ := h
 refine ⟨p,n,c,rfl,hn,fun h0 => ?_⟩
 obtain ⟨g,o,rfl,h1,h2,h3,h4⟩ := h h0
 exact ⟨g,o,rfl,h1,h2,fun k => hk.fr _ _ (h3 k),fun j hj => by obtain ⟨x,hx⟩ := h4 j hj; exact hk.int _ _ _ _ hx⟩
def WK (s B : Nat) (w : World) (v : Value) (F : Nat → Fo) : Prop := ∃ p n c,v = .slice p n c ∧ n < 9223372036854775807 ∧ (n ≠ 0 → ∃ g o,p = some ⟨g,o,none⟩ ∧ g < B ∧ ∀ j,j < n → (F j).cnt < 9223372036854775807 ∧ SC (fun w v => WS s B w v (F j)) w g (o + j))
theorem WK.nil (s B : Nat) (w : World) (F : Nat → Fo) : WK s B w (.slice none 0 0) F := ⟨none,0,0,rfl,by decide,fun h => absurd rfl h⟩
theorem WK.ks {s B : Nat} {w w' : World} {v : Value} {F : Nat → Fo} (h : WK s B w v F) (hk : KS s B w w') : WK s B w' v F := by
 obtain ⟨p,n,c,rfl,hn,h⟩ := h
 refine ⟨p,n,c,rfl,hn,fun h0 => ?_⟩
 obtain ⟨g,o,rfl,hB,h1⟩ := h h0
 exact ⟨g,o,rfl,hB,fun j hj => ⟨(h1 j hj).1,(h1 j hj).2.ks hk (fun v h => h.ks hk) (.inl rfl)⟩⟩
structure WBox where
 tp : Option Addr
 tn : Nat
 tc : Nat
 tb : Nat
 imp : Option Addr
 imn : Nat
 imc : Nat
 imb : Nat
 fp : Option Addr
 fn : Nat
 fc : Nat
 fb : Nat
 tbp : Option Addr
 tbn : Nat
 tbc : Nat
 tbb : Nat
 mp : Option Addr
 mn : Nat
 mc : Nat
 mb : Nat
 gp : Option Addr
 gn : Nat
 gc : Nat
 gb : Nat
 xp : Option Addr
 xn : Nat
 xc : Nat
 xb : Nat
 ep : Option Addr
 en : Nat
 ec : Nat
 eb : Nat
 dp : Option Addr
 dn : Nat
 dc : Nat
 db : Nat
 fF : Nat → Fo
 gF : Nat → Fo
 eF : Nat → Fo
 dF : Nat → Fo
 kF : Nat → Nat → Fo
 st : Int
 cnt : Bool
structure WM (s B : Nat) (D : WBox) (w : World) : Prop where
 th : D.tn < 9223372036854775807
 tg : D.tn ≠ 0 → D.tp = some ⟨D.tb,0,none⟩ ∧ s ≤ D.tb ∧ D.tb < B
 tz : D.tn ≠ 0 → ∀ k,w.frozen? ⟨D.tb,k,none⟩ = false
 imh : D.imn < 9223372036854775807
 img : D.imn ≠ 0 → D.imp = some ⟨D.imb,0,none⟩ ∧ s ≤ D.imb ∧ D.imb < B
 imz : D.imn ≠ 0 → ∀ k,w.frozen? ⟨D.imb,k,none⟩ = false
 fh : D.fn < 9223372036854775807
 fg : D.fn ≠ 0 → D.fp = some ⟨D.fb,0,none⟩ ∧ s ≤ D.fb ∧ D.fb < B
 fz : D.fn ≠ 0 → ∀ k,w.frozen? ⟨D.fb,k,none⟩ = false
 tbh : D.tbn < 9223372036854775807
 tbg : D.tbn ≠ 0 → D.tbp = some ⟨D.tbb,0,none⟩ ∧ s ≤ D.tbb ∧ D.tbb < B
 tbz : D.tbn ≠ 0 → ∀ k,w.frozen? ⟨D.tbb,k,none⟩ = false
 mh : D.mn < 9223372036854775807
 mg : D.mn ≠ 0 → D.mp = some ⟨D.mb,0,none⟩ ∧ s ≤ D.mb ∧ D.mb < B
 mz : D.mn ≠ 0 → ∀ k,w.frozen? ⟨D.mb,k,none⟩ = false
 gh : D.gn < 9223372036854775807
 gg : D.gn ≠ 0 → D.gp = some ⟨D.gb,0,none⟩ ∧ s ≤ D.gb ∧ D.gb < B
 gz : D.gn ≠ 0 → ∀ k,w.frozen? ⟨D.gb,k,none⟩ = false
 xh : D.xn < 9223372036854775807
 xg : D.xn ≠ 0 → D.xp = some ⟨D.xb,0,none⟩ ∧ s ≤ D.xb ∧ D.xb < B
 xz : D.xn ≠ 0 → ∀ k,w.frozen? ⟨D.xb,k,none⟩ = false
 eh : D.en < 9223372036854775807
 eg : D.en ≠ 0 → D.ep = some ⟨D.eb,0,none⟩ ∧ s ≤ D.eb ∧ D.eb < B
 ez : D.en ≠ 0 → ∀ k,w.frozen? ⟨D.eb,k,none⟩ = false
 dh : D.dn < 9223372036854775807
 dg : D.dn ≠ 0 → D.dp = some ⟨D.db,0,none⟩ ∧ s ≤ D.db ∧ D.db < B
 dz : D.dn ≠ 0 → ∀ k,w.frozen? ⟨D.db,k,none⟩ = false
 t0 : ∀ i,i < D.tn → SC (WI s B) w D.tb (i * 2)
 t1 : ∀ i,i < D.tn → SC (WI s B) w D.tb (i * 2 + 1)
 f1 : ∀ i,i < D.fn → SC (WI s B) w D.fb (i * 3 + 1)
 f2 : ∀ i,i < D.fn → SC (fun w v => WS s B w v (D.fF i)) w D.fb (i * 3 + 2)
 g2 : ∀ i,i < D.gn → SC (fun w v => WS s B w v (D.gF i)) w D.gb (i * 3 + 2)
 e3 : ∀ i,i < D.en → SC (fun w v => WS s B w v (D.eF i)) w D.eb (i * 5 + 3)
 e4 : ∀ i,i < D.en → SC (fun w v => WK s B w v (D.kF i)) w D.eb (i * 5 + 4)
 d2 : ∀ i,i < D.dn → SC (fun w v => WS s B w v (D.dF i)) w D.db (i * 4 + 2)
 d3 : ∀ i,i < D.dn → SC (WY s B) w D.db (i * 4 + 3)
 x2 : ∀ i,i < D.xn → IC w D.xb (i * 3 + 2)
 im1 : ∀ i,i < D.imn → TC w D.imb (i * 13 + 1)
 tb0 : ∀ i,i < D.tbn → IC w D.tbb (i * 4)
 m0 : ∀ i,i < D.mn → IC w D.mb (i * 3)
 fk : ∀ i,i < D.fn → (D.fF i).cnt < 9223372036854775807
 gk : ∀ i,i < D.gn → (D.gF i).cnt < 9223372036854775807
 ek : ∀ i,i < D.en → (D.eF i).cnt < 9223372036854775807
 dk : ∀ i,i < D.dn → (D.dF i).cnt < 9223372036854775807
theorem WM.ks {s B : Nat} {D : WBox} {w w' : World} (h : WM s B D w) (hk : KS s B w w') : WM s B D w' where
 th := h.th
 tg := h.tg
 tz := fun h0 k => hk.fr _ _ (h.tz h0 k)
 imh := h.imh
 img := h.img
 imz := fun h0 k => hk.fr _ _ (h.imz h0 k)
 fh := h.fh
 fg := h.fg
 fz := fun h0 k => hk.fr _ _ (h.fz h0 k)
 tbh := h.tbh
 tbg := h.tbg
 tbz := fun h0 k => hk.fr _ _ (h.tbz h0 k)
 mh := h.mh
 mg := h.mg
 mz := fun h0 k => hk.fr _ _ (h.mz h0 k)
 gh := h.gh
 gg := h.gg
 gz := fun h0 k => hk.fr _ _ (h.gz h0 k)
 xh := h.xh
 xg := h.xg
 xz := fun h0 k => hk.fr _ _ (h.xz h0 k)
 eh := h.eh
 eg := h.eg
 ez := fun h0 k => hk.fr _ _ (h.ez h0 k)
 dh := h.dh
 dg := h.dg
 dz := fun h0 k => hk.fr _ _ (h.dz h0 k)
 t0 := fun i hi => (h.t0 i hi).ks hk (fun v h => h.ks hk) (WI.nil _ _ _)
 t1 := fun i hi => (h.t1 i hi).ks hk (fun v h => h.ks hk) (WI.nil _ _ _)
 f1 := fun i hi => (h.f1 i hi).ks hk (fun v h => h.ks hk) (WI.nil _ _ _)
 f2 := fun i hi => (h.f2 i hi).ks hk (fun v h => h.ks hk) (.inl rfl)
 g2 := fun i hi => (h.g2 i hi).ks hk (fun v h => h.ks hk) (.inl rfl)
 e3 := fun i hi => (h.e3 i hi).ks hk (fun v h => h.ks hk) (.inl rfl)
 e4 := fun i hi => (h.e4 i hi).ks hk (fun v h => h.ks hk) (WK.nil _ _ _ _)
 d2 := fun i hi => (h.d2 i hi).ks hk (fun v h => h.ks hk) (.inl rfl)
 d3 := fun i hi => (h.d3 i hi).ks hk (fun v h => h.ks hk) (WY.nil _ _ _)
 x2 := fun i hi => by obtain ⟨x,hx⟩ := h.x2 i hi; exact hk.int _ _ _ _ hx
 tb0 := fun i hi => by obtain ⟨x,hx⟩ := h.tb0 i hi; exact hk.int _ _ _ _ hx
 m0 := fun i hi => by obtain ⟨x,hx⟩ := h.m0 i hi; exact hk.int _ _ _ _ hx
 im1 := fun i hi => by obtain ⟨x,hx⟩ := h.im1 i hi; exact hk.str _ _ _ hx
 fk := h.fk
 gk := h.gk
 ek := h.ek
 dk := h.dk
def WBox.arr (D : WBox) : Array Value := #[.slice D.tp D.tn D.tc,.slice D.imp D.imn D.imc,.slice D.fp D.fn D.fc,.slice D.tbp D.tbn D.tbc,.slice D.mp D.mn D.mc,.slice D.gp D.gn D.gc,.slice D.xp D.xn D.xc,.int .i64 D.st,.slice D.ep D.en D.ec,.slice D.dp D.dn D.dc,.bool D.cnt]
end Go.Proofs.YtjgeedgphcjhoaaGreat
