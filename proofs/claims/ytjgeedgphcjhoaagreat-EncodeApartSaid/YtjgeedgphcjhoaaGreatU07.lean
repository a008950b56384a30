/-
  MDat, All, MayG1: merged, what the law does not reach left out (each text says what it holds where it lies in wip). No condition.
-/
import Derived.Test.YtjgeedgphcjhoaaGreatU06
import Derived.Test.YtjgeedgphcjhoaaGreatU03
import Derived.Test.YtjgeedgphcjhoaaGreatU01
set_option linter.unusedSimpArgs false
set_option linter.unusedVariables false
set_option maxRecDepth 100000
namespace Go.Proofs.YtjgeedgphcjhoaaGreat
open Go.RowKit
def LO (B : Nat) (w : World) (p : Option Addr) (c : Nat) (l : List Int) : Prop := LI B w (.slice p l.length c) l ∧ ∀ x ∈ l,i64B x
def CO (B : Nat) (w : World) (p : Option Addr) (c : Nat) (f : Fo) : Prop := SA B w (.slice p f.len c) f ∧ f.len < 9223372036854775807 ∧ Lens f ∧ RN f
def YO (B : Nat) (w : World) (p : Option Addr) (c : Nat) (l : List UInt8) : Prop := l.length ≤ reachBytes ∧ (l ≠ [] → ∃ g o,p = some ⟨g,o,none⟩ ∧ g < B ∧ ∀ j x,l[j]? = some x → w.cell? ⟨g,o + j,none⟩ = some (.int .u8 (x.toNat : Nat)))
def RowM (B : Nat) (w : World) (p : Option Addr) (n b o N : Nat) (cs : Nat → List Value) : Prop := n < 9223372036854775807 ∧ (n ≠ 0 → p = some ⟨b,o,none⟩ ∧ b < B) ∧ ∀ i,i < n → ∀ k v,(cs i)[k]? = some v → w.cell? ⟨b,o + i * N + k,none⟩ = some v
def KO (B : Nat) (w : World) (p : Option Addr) (n b o : Nat) (g : Nat → Fo) (q : Nat → Option Addr) (d : Nat → Nat) : Prop := RowM B w p n b o 1 (fun i => [.slice (q i) (g i).len (d i)]) ∧ ∀ i,i < n → CO B w (q i) (d i) (g i)
theorem LO.below {B : Nat} {w w' : World} {p : Option Addr} {c : Nat} {l : List Int} (h : LO B w p c l) (hb : Below B w w') : LO B w' p c l := ⟨h.1.below hb,h.2⟩
theorem LO.mono {B B' : Nat} {w : World} {p : Option Addr} {c : Nat} {l : List Int} (h : LO B w p c l) (hb : B ≤ B') : LO B' w p c l := ⟨h.1.mono hb,h.2⟩
theorem CO.below {B : Nat} {w w' : World} {p : Option Addr} {c : Nat} {f : Fo} (h : CO B w p c f) (hb : Below B w w') : CO B w' p c f := ⟨h.1.below hb,h.2⟩
theorem CO.mono {B B' : Nat} {w : World} {p : Option Addr} {c : Nat} {f : Fo} (h : CO B w p c f) (hb : B ≤ B') : CO B' w p c f := ⟨h.1.mono hb,h.2⟩
theorem YO.below {B : Nat} {w w' : World} {p : Option Addr} {c : Nat} {l : List UInt8} (h : YO B w p c l) (hb : Below B w w') : YO B w' p c l := by
 refine ⟨h.1,fun hn => ?_⟩
 obtain ⟨g,o,e,hg,hc⟩ := h.2 hn
 exact ⟨g,o,e,hg,fun j x hj => by rw [hb.cell (p := ⟨g,o + j,none⟩) hg]; exact hc j x hj⟩
theorem YO.mono {B B' : Nat} {w : World} {p : Option Addr} {c : Nat} {l : List UInt8} (h : YO B w p c l) (hb : B ≤ B') : YO B' w p c l := by
 refine ⟨h.1,fun hn => ?_⟩
 obtain ⟨g,o,e,hg,hc⟩ := h.2 hn
 exact ⟨g,o,e,Nat.lt_of_lt_of_le hg hb,hc⟩
theorem RowM.below {B : Nat} {w w' : World} {p : Option Addr} {n b o N : Nat} {cs : Nat → List Value} (h : RowM B w p n b o N cs) (hb : Below B w w') : RowM B w' p n b o N cs :=
 ⟨h.1,h.2.1,fun i hi k v hk => (hb.cell (p := ⟨b,o + i * N + k,none⟩) (h.2.1 (by omega)).2).trans (h.2.2 i hi k v hk)⟩
theorem RowM.mono {B B' : Nat} {w : World} {p : Option Addr} {n b o N : Nat} {cs : Nat → List Value} (h : RowM B w p n b o N cs) (hb : B ≤ B') : RowM B' w p n b o N cs :=
 ⟨h.1,fun hn => ⟨(h.2.1 hn).1,Nat.lt_of_lt_of_le (h.2.1 hn).2 hb⟩,h.2.2⟩
theorem KO.below {B : Nat} {w w' : World} {p : Option Addr} {n b o : Nat} {g : Nat → Fo} {q : Nat → Option Addr} {d : Nat → Nat} (h : KO B w p n b o g q d) (hb : Below B w w') : KO B w' p n b o g q d := ⟨h.1.below hb,fun i hi => (h.2 i hi).below hb⟩
theorem KO.mono {B B' : Nat} {w : World} {p : Option Addr} {n b o : Nat} {g : Nat → Fo} {q : Nat → Option Addr} {d : Nat → Nat} (h : KO B w p n b o g q d) (hb : B ≤ B') : KO B' w p n b o g q d := ⟨h.1.mono hb,fun i hi => (h.2 i hi).mono hb⟩
structure ETyp where
 a : List Int
 pa : Option Addr
 ca : Nat
 b : List Int
 pb : Option Addr
 cb : Nat
def ETyp.cs (e : ETyp) : List Value := [.slice e.pa e.a.length e.ca,.slice e.pb e.b.length e.cb]
structure ETyp.ok (B : Nat) (w : World) (e : ETyp) : Prop where
 h0 : LO B w e.pa e.ca e.a
 h1 : LO B w e.pb e.cb e.b
theorem ETyp.ok.below {B : Nat} {w w' : World} {e : ETyp} (h : ETyp.ok B w e) (hb : Below B w w') : ETyp.ok B w' e := ⟨h.h0.below hb,h.h1.below hb⟩
theorem ETyp.ok.mono {B B' : Nat} {w : World} {e : ETyp} (h : ETyp.ok B w e) (hb : B ≤ B') : ETyp.ok B' w e := ⟨h.h0.mono hb,h.h1.mono hb⟩
structure EImp where
 s0 : ByteArray
 s1 : ByteArray
 kd : Int
 ty : Int
 tr : Int
 tmn : Int
 tmx : Int
 th : Bool
 mmn : Int
 mmx : Int
 mh : Bool
 gt : Int
 gm : Bool
def EImp.cs (e : EImp) : List Value := [.string e.s0,.string e.s1,.int .i64 e.kd,.int .i64 e.ty,.int .i64 e.tr,.int .i64 e.tmn,.int .i64 e.tmx,.bool e.th,.int .i64 e.mmn,.int .i64 e.mmx,.bool e.mh,.int .i64 e.gt,.bool e.gm]
structure EImp.ok (B : Nat) (w : World) (e : EImp) : Prop where
 h0 : e.s0.size ≤ reachBytes
 h1 : e.s1.size ≤ reachBytes
 h2 : i64B e.kd
 h3 : i64B e.ty
 h4 : i64B e.tr
 h5 : i64B e.tmn
 h6 : i64B e.tmx
 h7 : i64B e.mmn
 h8 : i64B e.mmx
 h9 : i64B e.gt
theorem EImp.ok.below {B : Nat} {w w' : World} {e : EImp} (h : EImp.ok B w e) (hb : Below B w w') : EImp.ok B w' e := ⟨h.h0,h.h1,h.h2,h.h3,h.h4,h.h5,h.h6,h.h7,h.h8,h.h9⟩
theorem EImp.ok.mono {B B' : Nat} {w : World} {e : EImp} (h : EImp.ok B w e) (hb : B ≤ B') : EImp.ok B' w e := ⟨h.h0,h.h1,h.h2,h.h3,h.h4,h.h5,h.h6,h.h7,h.h8,h.h9⟩
structure EFun where
 ty : Int
 l : List Int
 pl : Option Addr
 cl : Nat
 f : Fo
 pf : Option Addr
 cf : Nat
def EFun.cs (e : EFun) : List Value := [.int .i64 e.ty,.slice e.pl e.l.length e.cl,.slice e.pf e.f.len e.cf]
structure EFun.ok (B : Nat) (w : World) (e : EFun) : Prop where
 h0 : i64B e.ty
 h1 : LO B w e.pl e.cl e.l
 h2 : CO B w e.pf e.cf e.f
theorem EFun.ok.below {B : Nat} {w w' : World} {e : EFun} (h : EFun.ok B w e) (hb : Below B w w') : EFun.ok B w' e := ⟨h.h0,h.h1.below hb,h.h2.below hb⟩
theorem EFun.ok.mono {B B' : Nat} {w : World} {e : EFun} (h : EFun.ok B w e) (hb : B ≤ B') : EFun.ok B' w e := ⟨h.h0,h.h1.mono hb,h.h2.mono hb⟩
structure ETab where
 r : Int
 mn : Int
 mx : Int
 h : Bool
def ETab.cs (e : ETab) : List Value := [.int .i64 e.r,.int .i64 e.mn,.int .i64 e.mx,.bool e.h]
structure ETab.ok (B : Nat) (w : World) (e : ETab) : Prop where
 h0 : i64B e.r
 h1 : i64B e.mn
 h2 : i64B e.mx
theorem ETab.ok.below {B : Nat} {w w' : World} {e : ETab} (h : ETab.ok B w e) (hb : Below B w w') : ETab.ok B w' e := ⟨h.h0,h.h1,h.h2⟩
theorem ETab.ok.mono {B B' : Nat} {w : World} {e : ETab} (h : ETab.ok B w e) (hb : B ≤ B') : ETab.ok B' w e := ⟨h.h0,h.h1,h.h2⟩
structure ELim where
 mn : Int
 mx : Int
 h : Bool
def ELim.cs (e : ELim) : List Value := [.int .i64 e.mn,.int .i64 e.mx,.bool e.h]
structure ELim.ok (B : Nat) (w : World) (e : ELim) : Prop where
 h0 : i64B e.mn
 h1 : i64B e.mx
theorem ELim.ok.below {B : Nat} {w w' : World} {e : ELim} (h : ELim.ok B w e) (hb : Below B w w') : ELim.ok B w' e := ⟨h.h0,h.h1⟩
theorem ELim.ok.mono {B B' : Nat} {w : World} {e : ELim} (h : ELim.ok B w e) (hb : B ≤ B') : ELim.ok B' w e := ⟨h.h0,h.h1⟩
structure EGlo where
 t : Int
 m : Bool
 f : Fo
 pf : Option Addr
 cf : Nat
def EGlo.cs (e : EGlo) : List Value := [.int .i64 e.t,.bool e.m,.slice e.pf e.f.len e.cf]
structure EGlo.ok (B : Nat) (w : World) (e : EGlo) : Prop where
 h0 : i64B e.t
 h1 : CO B w e.pf e.cf e.f
theorem EGlo.ok.below {B : Nat} {w w' : World} {e : EGlo} (h : EGlo.ok B w e) (hb : Below B w w') : EGlo.ok B w' e := ⟨h.h0,h.h1.below hb⟩
theorem EGlo.ok.mono {B B' : Nat} {w : World} {e : EGlo} (h : EGlo.ok B w e) (hb : B ≤ B') : EGlo.ok B' w e := ⟨h.h0,h.h1.mono hb⟩
structure EExp where
 s : ByteArray
 k : Int
 ix : Int
def EExp.cs (e : EExp) : List Value := [.string e.s,.int .i64 e.k,.int .i64 e.ix]
structure EExp.ok (B : Nat) (w : World) (e : EExp) : Prop where
 h0 : e.s.size ≤ reachBytes
 h1 : i64B e.k
 h2 : i64B e.ix
theorem EExp.ok.below {B : Nat} {w w' : World} {e : EExp} (h : EExp.ok B w e) (hb : Below B w w') : EExp.ok B w' e := ⟨h.h0,h.h1,h.h2⟩
theorem EExp.ok.mono {B B' : Nat} {w : World} {e : EExp} (h : EExp.ok B w e) (hb : B ≤ B') : EExp.ok B' w e := ⟨h.h0,h.h1,h.h2⟩
structure EElm where
 r : Int
 m : Int
 t : Int
 f : Fo
 pf : Option Addr
 cf : Nat
 ng : Nat
 pg : Option Addr
 cg : Nat
 bg : Nat
 og : Nat
 g : Nat → Fo
 qg : Nat → Option Addr
 dg : Nat → Nat
def EElm.cs (e : EElm) : List Value := [.int .i64 e.r,.int .i64 e.m,.int .i64 e.t,.slice e.pf e.f.len e.cf,.slice e.pg e.ng e.cg]
structure EElm.ok (B : Nat) (w : World) (e : EElm) : Prop where
 h0 : i64B e.r
 h1 : i64B e.m
 h2 : i64B e.t
 h3 : CO B w e.pf e.cf e.f
 h4 : KO B w e.pg e.ng e.bg e.og e.g e.qg e.dg
theorem EElm.ok.below {B : Nat} {w w' : World} {e : EElm} (h : EElm.ok B w e) (hb : Below B w w') : EElm.ok B w' e := ⟨h.h0,h.h1,h.h2,h.h3.below hb,h.h4.below hb⟩
theorem EElm.ok.mono {B B' : Nat} {w : World} {e : EElm} (h : EElm.ok B w e) (hb : B ≤ B') : EElm.ok B' w e := ⟨h.h0,h.h1,h.h2,h.h3.mono hb,h.h4.mono hb⟩
structure EDat where
 m : Int
 t : Int
 f : Fo
 pf : Option Addr
 cf : Nat
 b : List UInt8
 pb : Option Addr
 cb : Nat
def EDat.cs (e : EDat) : List Value := [.int .i64 e.m,.int .i64 e.t,.slice e.pf e.f.len e.cf,.slice e.pb e.b.length e.cb]
structure EDat.ok (B : Nat) (w : World) (e : EDat) : Prop where
 h0 : i64B e.m
 h1 : i64B e.t
 h2 : CO B w e.pf e.cf e.f
 h3 : YO B w e.pb e.cb e.b
theorem EDat.ok.below {B : Nat} {w w' : World} {e : EDat} (h : EDat.ok B w e) (hb : Below B w w') : EDat.ok B w' e := ⟨h.h0,h.h1,h.h2.below hb,h.h3.below hb⟩
theorem EDat.ok.mono {B B' : Nat} {w : World} {e : EDat} (h : EDat.ok B w e) (hb : B ≤ B') : EDat.ok B' w e := ⟨h.h0,h.h1,h.h2.mono hb,h.h3.mono hb⟩
structure MD where
 tp : Option Addr
 tn : Nat
 tc : Nat
 tg : Nat
 tw : Nat
 t : Nat → ETyp
 imp : Option Addr
 imn : Nat
 imc : Nat
 img : Nat
 imw : Nat
 im : Nat → EImp
 fp : Option Addr
 fn : Nat
 fc : Nat
 fg : Nat
 fw : Nat
 f : Nat → EFun
 tbp : Option Addr
 tbn : Nat
 tbc : Nat
 tbg : Nat
 tbw : Nat
 tb : Nat → ETab
 mp : Option Addr
 mn : Nat
 mc : Nat
 mg : Nat
 mw : Nat
 m : Nat → ELim
 gp : Option Addr
 gn : Nat
 gc : Nat
 gg : Nat
 gw : Nat
 g : Nat → EGlo
 xp : Option Addr
 xn : Nat
 xc : Nat
 xg : Nat
 xw : Nat
 x : Nat → EExp
 ep : Option Addr
 en : Nat
 ec : Nat
 eg : Nat
 ew : Nat
 e : Nat → EElm
 dp : Option Addr
 dn : Nat
 dc : Nat
 dg : Nat
 dw : Nat
 d : Nat → EDat
 st : Int
 cnt : Bool
def MD.val (M : MD) : Value := .agg #[.slice M.tp M.tn M.tc,.slice M.imp M.imn M.imc,.slice M.fp M.fn M.fc,.slice M.tbp M.tbn M.tbc,.slice M.mp M.mn M.mc,.slice M.gp M.gn M.gc,.slice M.xp M.xn M.xc,.int .i64 M.st,.slice M.ep M.en M.ec,.slice M.dp M.dn M.dc,.bool M.cnt]
structure MD.ok (B : Nat) (w : World) (M : MD) : Prop where
 tr : RowM B w M.tp M.tn M.tg M.tw 2 (fun i => (M.t i).cs)
 tz : ∀ i,i < M.tn → (M.t i).ok B w
 imr : RowM B w M.imp M.imn M.img M.imw 13 (fun i => (M.im i).cs)
 imz : ∀ i,i < M.imn → (M.im i).ok B w
 fr : RowM B w M.fp M.fn M.fg M.fw 3 (fun i => (M.f i).cs)
 fz : ∀ i,i < M.fn → (M.f i).ok B w
 tbr : RowM B w M.tbp M.tbn M.tbg M.tbw 4 (fun i => (M.tb i).cs)
 tbz : ∀ i,i < M.tbn → (M.tb i).ok B w
 mr : RowM B w M.mp M.mn M.mg M.mw 3 (fun i => (M.m i).cs)
 mz : ∀ i,i < M.mn → (M.m i).ok B w
 gr : RowM B w M.gp M.gn M.gg M.gw 3 (fun i => (M.g i).cs)
 gz : ∀ i,i < M.gn → (M.g i).ok B w
 xr : RowM B w M.xp M.xn M.xg M.xw 3 (fun i => (M.x i).cs)
 xz : ∀ i,i < M.xn → (M.x i).ok B w
 er : RowM B w M.ep M.en M.eg M.ew 5 (fun i => (M.e i).cs)
 ez : ∀ i,i < M.en → (M.e i).ok B w
 dr : RowM B w M.dp M.dn M.dg M.dw 4 (fun i => (M.d i).cs)
 dz : ∀ i,i < M.dn → (M.d i).ok B w
 stk : i64B M.st
theorem MD.ok.below {B : Nat} {w w' : World} {M : MD} (h : MD.ok B w M) (hb : Below B w w') : MD.ok B w' M := ⟨h.tr.below hb,fun i hi => (h.tz i hi).below hb,h.imr.below hb,fun i hi => (h.imz i hi).below hb,h.fr.below hb,fun i hi => (h.fz i hi).below hb,h.tbr.below hb,fun i hi => (h.tbz i hi).below hb,h.mr.below hb,fun i hi => (h.mz i hi).below hb,h.gr.below hb,fun i hi => (h.gz i hi).below hb,h.xr.below hb,fun i hi => (h.xz i hi).below hb,h.er.below hb,fun i hi => (h.ez i hi).below hb,h.dr.below hb,fun i hi => (h.dz i hi).below hb,h.stk⟩
theorem MD.ok.mono {B B' : Nat} {w : World} {M : MD} (h : MD.ok B w M) (hb : B ≤ B') : MD.ok B' w M := ⟨h.tr.mono hb,fun i hi => (h.tz i hi).mono hb,h.imr.mono hb,fun i hi => (h.imz i hi).mono hb,h.fr.mono hb,fun i hi => (h.fz i hi).mono hb,h.tbr.mono hb,fun i hi => (h.tbz i hi).mono hb,h.mr.mono hb,fun i hi => (h.mz i hi).mono hb,h.gr.mono hb,fun i hi => (h.gz i hi).mono hb,h.xr.mono hb,fun i hi => (h.xz i hi).mono hb,h.er.mono hb,fun i hi => (h.ez i hi).mono hb,h.dr.mono hb,fun i hi => (h.dz i hi).mono hb,h.stk⟩
end Go.Proofs.YtjgeedgphcjhoaaGreat
namespace Go.Proofs.YtjgeedgphcjhoaaGreat
open Go.RowKit
set_option maxHeartbeats 4000000 in
theorem all_ft (k : Nat) (eg : ∀ args w,(callFunc k args).run Tryz.prog w = .ok (.enter k args) w) (P : Nat → Bool) (n g o c : Nat) (p0 : Nat → Option Addr) (n0 c0 : Nat → Nat) (p1 : Nat → Option Addr) (n1 c1 : Nat → Nat) (w : World) (hg : g < w.heap.size) (hn : n < 9223372036854775807)
  (hx : ∀ i,i < n → w.cell? ⟨g,o + i * 2,none⟩ = some (.slice (p0 i) (n0 i) (c0 i)) ∧ w.cell? ⟨g,o + i * 2 + 1,none⟩ = some (.slice (p1 i) (n1 i) (c1 i))) (hP : ∀ i,i < n → ∀ W,Below w.heap.size w W → Calls Tryz.prog k #[.agg #[.slice (p0 i) (n0 i) (c0 i),.slice (p1 i) (n1 i) (c1 i)]] W fun e w' => e = .returned (.bool (P i)) ∧ Below W.heap.size W w') :
  Calls Tryz.prog 30 #[.slice (some ⟨g,o,none⟩) n c,.func (.func k) #[] #[]] w fun e w' => e = .returned (.bool ((List.range n).all P)) ∧ Below w.heap.size w w' := by
 have HP := hid hP
 have HXX := hid hx
 have hn' : (n : Int) < 9223372036854775807 := by omega
 obtain ⟨r,hr⟩ : ∃ r,r = (List.range n).all P := ⟨_,rfl⟩
 rw [← hr]
 have HR := hid hr
 clear hP hx hr hn
 go_enter Tryz.func30,Tryz.ntmps30
 go_wp2
 go_loopw [9] (fun vi wr => ∃ i : Nat,i ≤ n ∧ vi = .int .i64 i ∧ Hid (∀ j,j < i → P j = true) ∧ Hid (Below w.heap.size w wr)) (fun vi _ => n - (intOf vi).toNat)
 case atStart => exact ⟨0,Nat.zero_le _,rfl,fun j hj => absurd hj (Nat.not_lt_zero _),Below.refl _ _⟩
 obtain ⟨i,hi,rfl,HI,HB⟩ := hrel
 by_cases hlt : i < n
 ·obtain ⟨z0,z1⟩ := HXX.out i hlt
  have hPi := fun W h => hid (HP.out i hlt W h)
  have x0 := (HB.out.cell (p := ⟨g,o + i * 2,none⟩) hg).trans z0
  have x1 := (HB.out.cell (p := ⟨g,o + i * 2 + 1,none⟩) hg).trans z1
  clear z0 z1
  obtain ⟨b,hb⟩ : ∃ b,b = P i := ⟨_,rfl⟩
  rw [← hb] at hPi
  have HBP := hid hb
  clear hb
  generalize p0 i = q0 at *
  generalize n0 i = m0 at *
  generalize c0 i = d0 at *
  generalize p1 i = q1 at *
  generalize n1 i = m1 at *
  generalize c1 i = d1 at *
  have HB1 := hid (HB.out.alloc HB.out.size (.cells #[.slice q0 m0 d0,.slice q1 m1 d1] 67))
  cases b with
  | false =>
   have HE : Hid (r = false) := by
    rw [HR.out]
    exact List.all_eq_false.2 ⟨i,List.mem_range.2 hlt,by rw [← HBP.out]; decide⟩
   go_wp2_with (go_at_fn k; (with_reducible refine (hPi _ HB1.out).out.mono ?_); rintro e w2 ⟨rfl,hb2⟩; have HB2 := hid (HB1.out.trans (hb2.mono HB1.out.size)); clear hb2)
   go_ret
   exact ⟨by rw [HE.out]; rfl,HB2.out⟩
  | true =>
   go_wp2_with (go_at_fn k; (with_reducible refine (hPi _ HB1.out).out.mono ?_); rintro e w2 ⟨rfl,hb2⟩; have HB2 := hid (HB1.out.trans (hb2.mono HB1.out.size)); clear hb2)
   go_roundw
   case rel =>
    refine ⟨i + 1,hlt,by go_num,fun j hj => ?_,HB2.out⟩
    by_cases hji : j = i
    ·rw [hji]; exact HBP.out.symm
    exact HI.out j (by omega)
   case measure => simp [intOf]; omega
 obtain rfl : i = n := by omega
 have HE : Hid (r = true) := by
  rw [HR.out]
  exact List.all_eq_true.2 fun j hj => HI.out j (List.mem_range.1 hj)
 go_wp2
 go_ret
 exact ⟨by rw [HE.out]; rfl,HB.out⟩
set_option maxHeartbeats 4000000 in
theorem all_code (k : Nat) (eg : ∀ args w,(callFunc k args).run Tryz.prog w = .ok (.enter k args) w) (P : Nat → Bool) (n g o c : Nat) (t0 : Nat → Int) (p1 : Nat → Option Addr) (n1 c1 : Nat → Nat) (p2 : Nat → Option Addr) (n2 c2 : Nat → Nat) (w : World) (hg : g < w.heap.size) (hn : n < 9223372036854775807)
  (hx : ∀ i,i < n → w.cell? ⟨g,o + i * 3,none⟩ = some (.int .i64 (t0 i)) ∧ w.cell? ⟨g,o + i * 3 + 1,none⟩ = some (.slice (p1 i) (n1 i) (c1 i)) ∧ w.cell? ⟨g,o + i * 3 + 2,none⟩ = some (.slice (p2 i) (n2 i) (c2 i))) (hP : ∀ i,i < n → ∀ W,Below w.heap.size w W → Calls Tryz.prog k #[.agg #[.int .i64 (t0 i),.slice (p1 i) (n1 i) (c1 i),.slice (p2 i) (n2 i) (c2 i)]] W fun e w' => e = .returned (.bool (P i)) ∧ Below W.heap.size W w') :
  Calls Tryz.prog 34 #[.slice (some ⟨g,o,none⟩) n c,.func (.func k) #[] #[]] w fun e w' => e = .returned (.bool ((List.range n).all P)) ∧ Below w.heap.size w w' := by
 have HP := hid hP
 have HXX := hid hx
 have hn' : (n : Int) < 9223372036854775807 := by omega
 obtain ⟨r,hr⟩ : ∃ r,r = (List.range n).all P := ⟨_,rfl⟩
 rw [← hr]
 have HR := hid hr
 clear hP hx hr hn
 go_enter Tryz.func34,Tryz.ntmps34
 go_wp2
 go_loopw [9] (fun vi wr => ∃ i : Nat,i ≤ n ∧ vi = .int .i64 i ∧ Hid (∀ j,j < i → P j = true) ∧ Hid (Below w.heap.size w wr)) (fun vi _ => n - (intOf vi).toNat)
 case atStart => exact ⟨0,Nat.zero_le _,rfl,fun j hj => absurd hj (Nat.not_lt_zero _),Below.refl _ _⟩
 obtain ⟨i,hi,rfl,HI,HB⟩ := hrel
 by_cases hlt : i < n
 ·obtain ⟨z0,z1,z2⟩ := HXX.out i hlt
  have hPi := fun W h => hid (HP.out i hlt W h)
  have x0 := (HB.out.cell (p := ⟨g,o + i * 3,none⟩) hg).trans z0
  have x1 := (HB.out.cell (p := ⟨g,o + i * 3 + 1,none⟩) hg).trans z1
  have x2 := (HB.out.cell (p := ⟨g,o + i * 3 + 2,none⟩) hg).trans z2
  clear z0 z1 z2
  obtain ⟨b,hb⟩ : ∃ b,b = P i := ⟨_,rfl⟩
  rw [← hb] at hPi
  have HBP := hid hb
  clear hb
  generalize t0 i = s0 at *
  generalize p1 i = q1 at *
  generalize n1 i = m1 at *
  generalize c1 i = d1 at *
  generalize p2 i = q2 at *
  generalize n2 i = m2 at *
  generalize c2 i = d2 at *
  have HB1 := hid (HB.out.alloc HB.out.size (.cells #[.int .i64 s0,.slice q1 m1 d1,.slice q2 m2 d2] 42))
  cases b with
  | false =>
   have HE : Hid (r = false) := by
    rw [HR.out]
    exact List.all_eq_false.2 ⟨i,List.mem_range.2 hlt,by rw [← HBP.out]; decide⟩
   go_wp2_with (go_at_fn k; (with_reducible refine (hPi _ HB1.out).out.mono ?_); rintro e w2 ⟨rfl,hb2⟩; have HB2 := hid (HB1.out.trans (hb2.mono HB1.out.size)); clear hb2)
   go_ret
   exact ⟨by rw [HE.out]; rfl,HB2.out⟩
  | true =>
   go_wp2_with (go_at_fn k; (with_reducible refine (hPi _ HB1.out).out.mono ?_); rintro e w2 ⟨rfl,hb2⟩; have HB2 := hid (HB1.out.trans (hb2.mono HB1.out.size)); clear hb2)
   go_roundw
   case rel =>
    refine ⟨i + 1,hlt,by go_num,fun j hj => ?_,HB2.out⟩
    by_cases hji : j = i
    ·rw [hji]; exact HBP.out.symm
    exact HI.out j (by omega)
   case measure => simp [intOf]; omega
 obtain rfl : i = n := by omega
 have HE : Hid (r = true) := by
  rw [HR.out]
  exact List.all_eq_true.2 fun j hj => HI.out j (List.mem_range.1 hj)
 go_wp2
 go_ret
 exact ⟨by rw [HE.out]; rfl,HB.out⟩
theorem all_nil_22 (k : Nat) (p : Option Addr) (c : Nat) (w : World) : Calls Tryz.prog 30 #[.slice p 0 c,.func (.func k) #[] #[]] w fun e w' => e = .returned (.bool true) ∧ w = w' := by
 go_enter Tryz.func30,Tryz.ntmps30
 go_wp2
 go_loop [9] (fun vi => vi = .int .i64 0) (fun _ => 0)
 case atStart => rfl
 subst hrel
 go_wp2
 go_ret
 exact ⟨rfl,rfl⟩
theorem all_nil_24 (k : Nat) (p : Option Addr) (c : Nat) (w : World) : Calls Tryz.prog 32 #[.slice p 0 c,.func (.func k) #[] #[]] w fun e w' => e = .returned (.bool true) ∧ w = w' := by
 go_enter Tryz.func32,Tryz.ntmps32
 go_wp2
 go_loop [9] (fun vi => vi = .int .i64 0) (fun _ => 0)
 case atStart => rfl
 subst hrel
 go_wp2
 go_ret
 exact ⟨rfl,rfl⟩
theorem all_nil_26 (k : Nat) (p : Option Addr) (c : Nat) (w : World) : Calls Tryz.prog 34 #[.slice p 0 c,.func (.func k) #[] #[]] w fun e w' => e = .returned (.bool true) ∧ w = w' := by
 go_enter Tryz.func34,Tryz.ntmps34
 go_wp2
 go_loop [9] (fun vi => vi = .int .i64 0) (fun _ => 0)
 case atStart => rfl
 subst hrel
 go_wp2
 go_ret
 exact ⟨rfl,rfl⟩
theorem all_nil_28 (k : Nat) (p : Option Addr) (c : Nat) (w : World) : Calls Tryz.prog 36 #[.slice p 0 c,.func (.func k) #[] #[]] w fun e w' => e = .returned (.bool true) ∧ w = w' := by
 go_enter Tryz.func36,Tryz.ntmps36
 go_wp2
 go_loop [9] (fun vi => vi = .int .i64 0) (fun _ => 0)
 case atStart => rfl
 subst hrel
 go_wp2
 go_ret
 exact ⟨rfl,rfl⟩
theorem all_nil_30 (k : Nat) (p : Option Addr) (c : Nat) (w : World) : Calls Tryz.prog 38 #[.slice p 0 c,.func (.func k) #[] #[]] w fun e w' => e = .returned (.bool true) ∧ w = w' := by
 go_enter Tryz.func38,Tryz.ntmps38
 go_wp2
 go_loop [9] (fun vi => vi = .int .i64 0) (fun _ => 0)
 case atStart => rfl
 subst hrel
 go_wp2
 go_ret
 exact ⟨rfl,rfl⟩
theorem all_nil_32 (k : Nat) (p : Option Addr) (c : Nat) (w : World) : Calls Tryz.prog 40 #[.slice p 0 c,.func (.func k) #[] #[]] w fun e w' => e = .returned (.bool true) ∧ w = w' := by
 go_enter Tryz.func40,Tryz.ntmps40
 go_wp2
 go_loop [9] (fun vi => vi = .int .i64 0) (fun _ => 0)
 case atStart => rfl
 subst hrel
 go_wp2
 go_ret
 exact ⟨rfl,rfl⟩
theorem all_nil_34 (k : Nat) (p : Option Addr) (c : Nat) (w : World) : Calls Tryz.prog 42 #[.slice p 0 c,.func (.func k) #[] #[]] w fun e w' => e = .returned (.bool true) ∧ w = w' := by
 go_enter Tryz.func42,Tryz.ntmps42
 go_wp2
 go_loop [9] (fun vi => vi = .int .i64 0) (fun _ => 0)
 case atStart => rfl
 subst hrel
 go_wp2
 go_ret
 exact ⟨rfl,rfl⟩
theorem all_nil_37 (k : Nat) (p : Option Addr) (c : Nat) (w : World) : Calls Tryz.prog 45 #[.slice p 0 c,.func (.func k) #[] #[]] w fun e w' => e = .returned (.bool true) ∧ w = w' := by
 go_enter Tryz.func45,Tryz.ntmps45
 go_wp2
 go_loop [9] (fun vi => vi = .int .i64 0) (fun _ => 0)
 case atStart => rfl
 subst hrel
 go_wp2
 go_ret
 exact ⟨rfl,rfl⟩
theorem all_nil_39 (k : Nat) (p : Option Addr) (c : Nat) (w : World) : Calls Tryz.prog 47 #[.slice p 0 c,.func (.func k) #[] #[]] w fun e w' => e = .returned (.bool true) ∧ w = w' := by
 go_enter Tryz.func47,Tryz.ntmps47
 go_wp2
 go_loop [9] (fun vi => vi = .int .i64 0) (fun _ => 0)
 case atStart => rfl
 subst hrel
 go_wp2
 go_ret
 exact ⟨rfl,rfl⟩
end Go.Proofs.YtjgeedgphcjhoaaGreat
namespace Go.Proofs.YtjgeedgphcjhoaaGreat
open Go.RowKit
set_option maxHeartbeats 16000000 in
theorem MayG_0 (tp imp fp tbp mp gp xp ep dp : Option Addr) (tn tc imn imc fn fc tbn tbc mn mc gn gc xn xc en ec dn dc : Nat) (tb imb fb tbb mb gb xb sb eb db qb cnt : Bool) (st : Int) (w : World)
  (ht : ∀ W,Below w.heap.size w W → Calls Tryz.prog 30 #[.slice tp tn tc,.func (.func 31) #[] #[]] W fun e w' => e = .returned (.bool false) ∧ Below W.heap.size W w')
  (him : ∀ W,Below w.heap.size w W → Calls Tryz.prog 32 #[.slice imp imn imc,.func (.func 33) #[] #[]] W fun e w' => e = .returned (.bool imb) ∧ Below W.heap.size W w')
  (hf : ∀ W,Below w.heap.size w W → Calls Tryz.prog 34 #[.slice fp fn fc,.func (.func 35) #[] #[]] W fun e w' => e = .returned (.bool fb) ∧ Below W.heap.size W w')
  (htb : ∀ W,Below w.heap.size w W → Calls Tryz.prog 36 #[.slice tbp tbn tbc,.func (.func 37) #[] #[]] W fun e w' => e = .returned (.bool tbb) ∧ Below W.heap.size W w')
  (hm : ∀ W,Below w.heap.size w W → Calls Tryz.prog 38 #[.slice mp mn mc,.func (.func 39) #[] #[]] W fun e w' => e = .returned (.bool mb) ∧ Below W.heap.size W w')
  (hg : ∀ W,Below w.heap.size w W → Calls Tryz.prog 40 #[.slice gp gn gc,.func (.func 41) #[] #[]] W fun e w' => e = .returned (.bool gb) ∧ Below W.heap.size W w')
  (hx : ∀ W,Below w.heap.size w W → Calls Tryz.prog 42 #[.slice xp xn xc,.func (.func 43) #[] #[]] W fun e w' => e = .returned (.bool xb) ∧ Below W.heap.size W w')
  (hs : ∀ W,Calls Tryz.prog 44 #[.int .i64 st] W fun e w' => e = .returned (.bool sb) ∧ W = w')
  (he : ∀ W,Below w.heap.size w W → Calls Tryz.prog 45 #[.slice ep en ec,.func (.func 46) #[] #[]] W fun e w' => e = .returned (.bool eb) ∧ Below W.heap.size W w')
  (hd : ∀ W,Below w.heap.size w W → Calls Tryz.prog 47 #[.slice dp dn dc,.func (.func 48) #[] #[]] W fun e w' => e = .returned (.bool db) ∧ Below W.heap.size W w')
  (hq : ∀ W,Below w.heap.size w W → Calls Tryz.prog 34 #[.slice fp fn fc,.func (.func 49) #[] #[]] W fun e w' => e = .returned (.bool qb) ∧ Below W.heap.size W w') :
  Calls Tryz.prog 15 #[.agg #[.slice tp tn tc,.slice imp imn imc,.slice fp fn fc,.slice tbp tbn tbc,.slice mp mn mc,.slice gp gn gc,.slice xp xn xc,.int .i64 st,.slice ep en ec,.slice dp dn dc,.bool cnt]] w fun e w' => e = .returned (.bool false) ∧ Below w.heap.size w w' := by
 have Ht := fun W h => hid (ht W h)
 have Him := fun W h => hid (him W h)
 have Hf := fun W h => hid (hf W h)
 have Htb := fun W h => hid (htb W h)
 have Hm := fun W h => hid (hm W h)
 have Hg := fun W h => hid (hg W h)
 have Hx := fun W h => hid (hx W h)
 have HS := fun W => hid (hs W)
 have He := fun W h => hid (he W h)
 have Hd := fun W h => hid (hd W h)
 have HQ := fun W h => hid (hq W h)
 have HBX := hid ((Below.refl w.heap.size w).alloc (Nat.le_refl _) (.cells #[.slice tp tn tc,.slice imp imn imc,.slice fp fn fc,.slice tbp tbn tbc,.slice mp mn mc,.slice gp gn gc,.slice xp xn xc,.int .i64 st,.slice ep en ec,.slice dp dn dc,.bool cnt] 32))
 have HX := hid (CA.new w #[.slice tp tn tc,.slice imp imn imc,.slice fp fn fc,.slice tbp tbn tbc,.slice mp mn mc,.slice gp gn gc,.slice xp xn xc,.int .i64 st,.slice ep en ec,.slice dp dn dc,.bool cnt] 32)
 obtain ⟨x0,x1,x2,x3,x4,x5,x6,x7,x8,x9,x10⟩ := ca11 HX.out
 clear ht him hf htb hm hg hx hs he hd hq
 go_enter Tryz.func15,Tryz.ntmps15
 go_wp2_with (first
  | (go_at_call 30; (with_reducible refine (Ht _ HBX.out).out.mono ?_); rintro e w10 ⟨rfl,hb⟩; have HB0 := hid (HBX.out.trans (hb.mono HBX.out.size)); have HX0 := hid (HX.out.below hb HX.out.lt); clear x0 x1 x2 x3 x4 x5 x6 x7 x8 x9 x10; obtain ⟨x0,x1,x2,x3,x4,x5,x6,x7,x8,x9,x10⟩ := ca11 HX0.out; clear hb))
 go_ret
 exact ⟨rfl,HB0.out⟩
set_option maxHeartbeats 16000000 in
theorem MayG_1 (tp imp fp tbp mp gp xp ep dp : Option Addr) (tn tc imn imc fn fc tbn tbc mn mc gn gc xn xc en ec dn dc : Nat) (tb imb fb tbb mb gb xb sb eb db qb cnt : Bool) (st : Int) (w : World)
  (ht : ∀ W,Below w.heap.size w W → Calls Tryz.prog 30 #[.slice tp tn tc,.func (.func 31) #[] #[]] W fun e w' => e = .returned (.bool true) ∧ Below W.heap.size W w')
  (him : ∀ W,Below w.heap.size w W → Calls Tryz.prog 32 #[.slice imp imn imc,.func (.func 33) #[] #[]] W fun e w' => e = .returned (.bool false) ∧ Below W.heap.size W w')
  (hf : ∀ W,Below w.heap.size w W → Calls Tryz.prog 34 #[.slice fp fn fc,.func (.func 35) #[] #[]] W fun e w' => e = .returned (.bool fb) ∧ Below W.heap.size W w')
  (htb : ∀ W,Below w.heap.size w W → Calls Tryz.prog 36 #[.slice tbp tbn tbc,.func (.func 37) #[] #[]] W fun e w' => e = .returned (.bool tbb) ∧ Below W.heap.size W w')
  (hm : ∀ W,Below w.heap.size w W → Calls Tryz.prog 38 #[.slice mp mn mc,.func (.func 39) #[] #[]] W fun e w' => e = .returned (.bool mb) ∧ Below W.heap.size W w')
  (hg : ∀ W,Below w.heap.size w W → Calls Tryz.prog 40 #[.slice gp gn gc,.func (.func 41) #[] #[]] W fun e w' => e = .returned (.bool gb) ∧ Below W.heap.size W w')
  (hx : ∀ W,Below w.heap.size w W → Calls Tryz.prog 42 #[.slice xp xn xc,.func (.func 43) #[] #[]] W fun e w' => e = .returned (.bool xb) ∧ Below W.heap.size W w')
  (hs : ∀ W,Calls Tryz.prog 44 #[.int .i64 st] W fun e w' => e = .returned (.bool sb) ∧ W = w')
  (he : ∀ W,Below w.heap.size w W → Calls Tryz.prog 45 #[.slice ep en ec,.func (.func 46) #[] #[]] W fun e w' => e = .returned (.bool eb) ∧ Below W.heap.size W w')
  (hd : ∀ W,Below w.heap.size w W → Calls Tryz.prog 47 #[.slice dp dn dc,.func (.func 48) #[] #[]] W fun e w' => e = .returned (.bool db) ∧ Below W.heap.size W w')
  (hq : ∀ W,Below w.heap.size w W → Calls Tryz.prog 34 #[.slice fp fn fc,.func (.func 49) #[] #[]] W fun e w' => e = .returned (.bool qb) ∧ Below W.heap.size W w') :
  Calls Tryz.prog 15 #[.agg #[.slice tp tn tc,.slice imp imn imc,.slice fp fn fc,.slice tbp tbn tbc,.slice mp mn mc,.slice gp gn gc,.slice xp xn xc,.int .i64 st,.slice ep en ec,.slice dp dn dc,.bool cnt]] w fun e w' => e = .returned (.bool false) ∧ Below w.heap.size w w' := by
 have Ht := fun W h => hid (ht W h)
 have Him := fun W h => hid (him W h)
 have Hf := fun W h => hid (hf W h)
 have Htb := fun W h => hid (htb W h)
 have Hm := fun W h => hid (hm W h)
 have Hg := fun W h => hid (hg W h)
 have Hx := fun W h => hid (hx W h)
 have HS := fun W => hid (hs W)
 have He := fun W h => hid (he W h)
 have Hd := fun W h => hid (hd W h)
 have HQ := fun W h => hid (hq W h)
 have HBX := hid ((Below.refl w.heap.size w).alloc (Nat.le_refl _) (.cells #[.slice tp tn tc,.slice imp imn imc,.slice fp fn fc,.slice tbp tbn tbc,.slice mp mn mc,.slice gp gn gc,.slice xp xn xc,.int .i64 st,.slice ep en ec,.slice dp dn dc,.bool cnt] 32))
 have HX := hid (CA.new w #[.slice tp tn tc,.slice imp imn imc,.slice fp fn fc,.slice tbp tbn tbc,.slice mp mn mc,.slice gp gn gc,.slice xp xn xc,.int .i64 st,.slice ep en ec,.slice dp dn dc,.bool cnt] 32)
 obtain ⟨x0,x1,x2,x3,x4,x5,x6,x7,x8,x9,x10⟩ := ca11 HX.out
 clear ht him hf htb hm hg hx hs he hd hq
 go_enter Tryz.func15,Tryz.ntmps15
 go_wp2_with (first
  | (go_at_call 30; (with_reducible refine (Ht _ HBX.out).out.mono ?_); rintro e w10 ⟨rfl,hb⟩; have HB0 := hid (HBX.out.trans (hb.mono HBX.out.size)); have HX0 := hid (HX.out.below hb HX.out.lt); clear x0 x1 x2 x3 x4 x5 x6 x7 x8 x9 x10; obtain ⟨x0,x1,x2,x3,x4,x5,x6,x7,x8,x9,x10⟩ := ca11 HX0.out; clear hb)
  | (go_at_call 32; (with_reducible refine (Him _ HB0.out).out.mono ?_); rintro e w11 ⟨rfl,hb⟩; have HB1 := hid (HB0.out.trans (hb.mono HB0.out.size)); have HX1 := hid (HX0.out.below hb HX0.out.lt); clear x0 x1 x2 x3 x4 x5 x6 x7 x8 x9 x10; obtain ⟨x0,x1,x2,x3,x4,x5,x6,x7,x8,x9,x10⟩ := ca11 HX1.out; clear hb))
 go_ret
 exact ⟨rfl,HB1.out⟩
set_option maxHeartbeats 16000000 in
theorem MayG_2 (tp imp fp tbp mp gp xp ep dp : Option Addr) (tn tc imn imc fn fc tbn tbc mn mc gn gc xn xc en ec dn dc : Nat) (tb imb fb tbb mb gb xb sb eb db qb cnt : Bool) (st : Int) (w : World)
  (ht : ∀ W,Below w.heap.size w W → Calls Tryz.prog 30 #[.slice tp tn tc,.func (.func 31) #[] #[]] W fun e w' => e = .returned (.bool true) ∧ Below W.heap.size W w')
  (him : ∀ W,Below w.heap.size w W → Calls Tryz.prog 32 #[.slice imp imn imc,.func (.func 33) #[] #[]] W fun e w' => e = .returned (.bool true) ∧ Below W.heap.size W w')
  (hf : ∀ W,Below w.heap.size w W → Calls Tryz.prog 34 #[.slice fp fn fc,.func (.func 35) #[] #[]] W fun e w' => e = .returned (.bool false) ∧ Below W.heap.size W w')
  (htb : ∀ W,Below w.heap.size w W → Calls Tryz.prog 36 #[.slice tbp tbn tbc,.func (.func 37) #[] #[]] W fun e w' => e = .returned (.bool tbb) ∧ Below W.heap.size W w')
  (hm : ∀ W,Below w.heap.size w W → Calls Tryz.prog 38 #[.slice mp mn mc,.func (.func 39) #[] #[]] W fun e w' => e = .returned (.bool mb) ∧ Below W.heap.size W w')
  (hg : ∀ W,Below w.heap.size w W → Calls Tryz.prog 40 #[.slice gp gn gc,.func (.func 41) #[] #[]] W fun e w' => e = .returned (.bool gb) ∧ Below W.heap.size W w')
  (hx : ∀ W,Below w.heap.size w W → Calls Tryz.prog 42 #[.slice xp xn xc,.func (.func 43) #[] #[]] W fun e w' => e = .returned (.bool xb) ∧ Below W.heap.size W w')
  (hs : ∀ W,Calls Tryz.prog 44 #[.int .i64 st] W fun e w' => e = .returned (.bool sb) ∧ W = w')
  (he : ∀ W,Below w.heap.size w W → Calls Tryz.prog 45 #[.slice ep en ec,.func (.func 46) #[] #[]] W fun e w' => e = .returned (.bool eb) ∧ Below W.heap.size W w')
  (hd : ∀ W,Below w.heap.size w W → Calls Tryz.prog 47 #[.slice dp dn dc,.func (.func 48) #[] #[]] W fun e w' => e = .returned (.bool db) ∧ Below W.heap.size W w')
  (hq : ∀ W,Below w.heap.size w W → Calls Tryz.prog 34 #[.slice fp fn fc,.func (.func 49) #[] #[]] W fun e w' => e = .returned (.bool qb) ∧ Below W.heap.size W w') :
  Calls Tryz.prog 15 #[.agg #[.slice tp tn tc,.slice imp imn imc,.slice fp fn fc,.slice tbp tbn tbc,.slice mp mn mc,.slice gp gn gc,.slice xp xn xc,.int .i64 st,.slice ep en ec,.slice dp dn dc,.bool cnt]] w fun e w' => e = .returned (.bool false) ∧ Below w.heap.size w w' := by
 have Ht := fun W h => hid (ht W h)
 have Him := fun W h => hid (him W h)
 have Hf := fun W h => hid (hf W h)
 have Htb := fun W h => hid (htb W h)
 have Hm := fun W h => hid (hm W h)
 have Hg := fun W h => hid (hg W h)
 have Hx := fun W h => hid (hx W h)
 have HS := fun W => hid (hs W)
 have He := fun W h => hid (he W h)
 have Hd := fun W h => hid (hd W h)
 have HQ := fun W h => hid (hq W h)
 have HBX := hid ((Below.refl w.heap.size w).alloc (Nat.le_refl _) (.cells #[.slice tp tn tc,.slice imp imn imc,.slice fp fn fc,.slice tbp tbn tbc,.slice mp mn mc,.slice gp gn gc,.slice xp xn xc,.int .i64 st,.slice ep en ec,.slice dp dn dc,.bool cnt] 32))
 have HX := hid (CA.new w #[.slice tp tn tc,.slice imp imn imc,.slice fp fn fc,.slice tbp tbn tbc,.slice mp mn mc,.slice gp gn gc,.slice xp xn xc,.int .i64 st,.slice ep en ec,.slice dp dn dc,.bool cnt] 32)
 obtain ⟨x0,x1,x2,x3,x4,x5,x6,x7,x8,x9,x10⟩ := ca11 HX.out
 clear ht him hf htb hm hg hx hs he hd hq
 go_enter Tryz.func15,Tryz.ntmps15
 go_wp2_with (first
  | (go_at_call 30; (with_reducible refine (Ht _ HBX.out).out.mono ?_); rintro e w10 ⟨rfl,hb⟩; have HB0 := hid (HBX.out.trans (hb.mono HBX.out.size)); have HX0 := hid (HX.out.below hb HX.out.lt); clear x0 x1 x2 x3 x4 x5 x6 x7 x8 x9 x10; obtain ⟨x0,x1,x2,x3,x4,x5,x6,x7,x8,x9,x10⟩ := ca11 HX0.out; clear hb)
  | (go_at_call 32; (with_reducible refine (Him _ HB0.out).out.mono ?_); rintro e w11 ⟨rfl,hb⟩; have HB1 := hid (HB0.out.trans (hb.mono HB0.out.size)); have HX1 := hid (HX0.out.below hb HX0.out.lt); clear x0 x1 x2 x3 x4 x5 x6 x7 x8 x9 x10; obtain ⟨x0,x1,x2,x3,x4,x5,x6,x7,x8,x9,x10⟩ := ca11 HX1.out; clear hb)
  | (go_at_call 34; (with_reducible refine (Hf _ HB1.out).out.mono ?_); rintro e w12 ⟨rfl,hb⟩; have HB2 := hid (HB1.out.trans (hb.mono HB1.out.size)); have HX2 := hid (HX1.out.below hb HX1.out.lt); clear x0 x1 x2 x3 x4 x5 x6 x7 x8 x9 x10; obtain ⟨x0,x1,x2,x3,x4,x5,x6,x7,x8,x9,x10⟩ := ca11 HX2.out; clear hb))
 go_ret
 exact ⟨rfl,HB2.out⟩
end Go.Proofs.YtjgeedgphcjhoaaGreat
