/-
  MDat, All, May, PImp0, LBase, RMay, MayM: merged, what the law does not reach left out (each text says what it holds where it lies in wip). No condition.
-/
import Derived.Test.YtjgeedgphcjhoaaGreatT06
import Derived.Test.YtjgeedgphcjhoaaGreatT03
import Derived.Deep.DeepCutAuto
import Derived.Deep.RegionHeld3
import Derived.Test.YtjgeedgphcjhoaaGreatProg
import Derived.Test.YtjgeedgphcjhoaaGreatT02
import Derived.WalkKit
import Derived.WalkSpells
import Derived.WalkLawsBesides
import Derived.Lib.UnsafeStr
import Derived.Laws.AppendOwnNone
import Derived.Lib.DecodeN
import Derived.Laws.RangeAny
import Derived.Lib.OthersKept
import Derived.Lib.Strings
import Derived.Test.YtjgeedgphcjhoaaGreatT05
import Derived.Test.YtjgeedgphcjhoaaGreatT01
set_option linter.unusedSimpArgs false
set_option linter.unusedVariables false
set_option maxRecDepth 100000
namespace Go.Proofs.YtjgeedgphcjhoaaGreat
open Go.RowKit
def LO (B : Nat) (w : World) (p : Option Addr) (c : Nat) (l : List Int) : Prop := LI B w (.slice p l.length c) l ∧ ∀ x ∈ l,i64B x
def CO (B : Nat) (w : World) (p : Option Addr) (c : Nat) (f : Fo) : Prop := SA B w (.slice p f.len c) f ∧ f.len < 9223372036854775807 ∧ Lens f ∧ RN f
def YO (B : Nat) (w : World) (p : Option Addr) (c : Nat) (l : List UInt8) : Prop := l.length ≤ reachBytes ∧ (l ≠ [] → ∃ g o,p = some ⟨g,o,none⟩ ∧ g < B ∧ ∀ j x,l[j]? = some x → w.cell? ⟨g,o + j,none⟩ = some (.int .u8 (x.toNat : Nat)))
def RowM (B : Nat) (w : World) (p : Option Addr) (n b o N : Nat) (cs : Nat → List Value) : Prop := n < 9223372036854775807 ∧ (n ≠ 0 → p = some ⟨b,o,none⟩ ∧ b < B) ∧ ∀ i,i < n → ∀ k v,(cs i)[k]? = some v → w.cell? ⟨b,o + i * N + k,none⟩ = some v
def KO (B : Nat) (w : World) (p : Option Addr) (n b o : Nat) (g : Nat → Fo) (q : Nat → Option Addr) (d : Nat → Nat) : Prop := RowM B w p n b o 1 (fun i => [.slice (q i) (g i).len (d i)]) ∧ ∀ i,i < n → CO B w (q i) (d i) (g i)
theorem LO.below {B : Nat} {w w' : World} {p : Option Addr} {c : Nat} {l : List Int} (h : LO B w p c l) (hb : Below B w w') : LO B w' p c l := ⟨h.1.below hb,h.2⟩
theorem LO.mono {B B' : Nat} {w : World} {p : Option Addr} {c : Nat} {l : List Int} (h : LO B w p c l) (hb : B ≤ B') : LO B' w p c l := ⟨h.1.mono hb,h.2⟩
theorem CO.below {B : Nat} {w w' : World} {p : Option Addr} {c : Nat} {f : Fo} (h : CO B w p c f) (hb : Below B w w') : CO B w' p c f := ⟨h.1.below hb,h.2⟩
theorem CO.mono {B B' : Nat} {w : World} {p : Option Addr} {c : Nat} {f : Fo} (h : CO B w p c f) (hb : B ≤ B') : CO B' w p c f := ⟨h.1.mono hb,h.2⟩
theorem YO.below {B : Nat} {w w' : World} {p : Option Addr} {c : Nat} {l : List UInt8} (h : YO B w p c l) (hb : Below B w w') : YO B w' p c l := by
 refine ⟨h.1,fun hn => ?_⟩
 obtain ⟨g,o,e,hg,hc⟩ := h.2 hn
 exact ⟨g,o,e,hg,fun j x hj => by rw [hb.cell (p := ⟨g,o + j,none⟩) hg]; exact hc j x hj⟩
theorem YO.mono {B B' : Nat} {w : World} {p : Option Addr} {c : Nat} {l : List UInt8} (h : YO B w p c l) (hb : B ≤ B') : YO B' w p c l := by
 refine ⟨h.1,fun hn => ?_⟩
 obtain ⟨g,o,e,hg,hc⟩ := h.2 hn
 exact ⟨g,o,e,Nat.lt_of_lt_of_le hg hb,hc⟩
theorem RowM.below {B : Nat} {w w' : World} {p : Option Addr} {n b o N : Nat} {cs : Nat → List Value} (h : RowM B w p n b o N cs) (hb : Below B w w') : RowM B w' p n b o N cs :=
 ⟨h.1,h.2.1,fun i hi k v hk => (hb.cell (p := ⟨b,o + i * N + k,none⟩) (h.2.1 (by omega)).2).trans (h.2.2 i hi k v hk)⟩
theorem RowM.mono {B B' : Nat} {w : World} {p : Option Addr} {n b o N : Nat} {cs : Nat → List Value} (h : RowM B w p n b o N cs) (hb : B ≤ B') : RowM B' w p n b o N cs :=
 ⟨h.1,fun hn => ⟨(h.2.1 hn).1,Nat.lt_of_lt_of_le (h.2.1 hn).2 hb⟩,h.2.2⟩
theorem KO.below {B : Nat} {w w' : World} {p : Option Addr} {n b o : Nat} {g : Nat → Fo} {q : Nat → Option Addr} {d : Nat → Nat} (h : KO B w p n b o g q d) (hb : Below B w w') : KO B w' p n b o g q d := ⟨h.1.below hb,fun i hi => (h.2 i hi).below hb⟩
theorem KO.mono {B B' : Nat} {w : World} {p : Option Addr} {n b o : Nat} {g : Nat → Fo} {q : Nat → Option Addr} {d : Nat → Nat} (h : KO B w p n b o g q d) (hb : B ≤ B') : KO B' w p n b o g q d := ⟨h.1.mono hb,fun i hi => (h.2 i hi).mono hb⟩
structure ETyp where
 a : List Int
 pa : Option Addr
 ca : Nat
 b : List Int
 pb : Option Addr
 cb : Nat
def ETyp.cs (e : ETyp) : List Value := [.slice e.pa e.a.length e.ca,.slice e.pb e.b.length e.cb]
structure ETyp.ok (B : Nat) (w : World) (e : ETyp) : Prop where
 h0 : LO B w e.pa e.ca e.a
 h1 : LO B w e.pb e.cb e.b
theorem ETyp.ok.below {B : Nat} {w w' : World} {e : ETyp} (h : ETyp.ok B w e) (hb : Below B w w') : ETyp.ok B w' e := ⟨h.h0.below hb,h.h1.below hb⟩
theorem ETyp.ok.mono {B B' : Nat} {w : World} {e : ETyp} (h : ETyp.ok B w e) (hb : B ≤ B') : ETyp.ok B' w e := ⟨h.h0.mono hb,h.h1.mono hb⟩
structure EImp where
 s0 : ByteArray
 s1 : ByteArray
 kd : Int
 ty : Int
 tr : Int
 tmn : Int
 tmx : Int
 th : Bool
 mmn : Int
 mmx : Int
 mh : Bool
 gt : Int
 gm : Bool
def EImp.cs (e : EImp) : List Value := [.string e.s0,.string e.s1,.int .i64 e.kd,.int .i64 e.ty,.int .i64 e.tr,.int .i64 e.tmn,.int .i64 e.tmx,.bool e.th,.int .i64 e.mmn,.int .i64 e.mmx,.bool e.mh,.int .i64 e.gt,.bool e.gm]
structure EImp.ok (B : Nat) (w : World) (e : EImp) : Prop where
 h0 : e.s0.size ≤ reachBytes
 h1 : e.s1.size ≤ reachBytes
 h2 : i64B e.kd
 h3 : i64B e.ty
 h4 : i64B e.tr
 h5 : i64B e.tmn
 h6 : i64B e.tmx
 h7 : i64B e.mmn
 h8 : i64B e.mmx
 h9 : i64B e.gt
theorem EImp.ok.below {B : Nat} {w w' : World} {e : EImp} (h : EImp.ok B w e) (hb : Below B w w') : EImp.ok B w' e := ⟨h.h0,h.h1,h.h2,h.h3,h.h4,h.h5,h.h6,h.h7,h.h8,h.h9⟩
theorem EImp.ok.mono {B B' : Nat} {w : World} {e : EImp} (h : EImp.ok B w e) (hb : B ≤ B') : EImp.ok B' w e := ⟨h.h0,h.h1,h.h2,h.h3,h.h4,h.h5,h.h6,h.h7,h.h8,h.h9⟩
structure EFun where
 ty : Int
 l : List Int
 pl : Option Addr
 cl : Nat
 f : Fo
 pf : Option Addr
 cf : Nat
def EFun.cs (e : EFun) : List Value := [.int .i64 e.ty,.slice e.pl e.l.length e.cl,.slice e.pf e.f.len e.cf]
structure EFun.ok (B : Nat) (w : World) (e : EFun) : Prop where
 h0 : i64B e.ty
 h1 : LO B w e.pl e.cl e.l
 h2 : CO B w e.pf e.cf e.f
theorem EFun.ok.below {B : Nat} {w w' : World} {e : EFun} (h : EFun.ok B w e) (hb : Below B w w') : EFun.ok B w' e := ⟨h.h0,h.h1.below hb,h.h2.below hb⟩
theorem EFun.ok.mono {B B' : Nat} {w : World} {e : EFun} (h : EFun.ok B w e) (hb : B ≤ B') : EFun.ok B' w e := ⟨h.h0,h.h1.mono hb,h.h2.mono hb⟩
structure ETab where
 r : Int
 mn : Int
 mx : Int
 h : Bool
def ETab.cs (e : ETab) : List Value := [.int .i64 e.r,.int .i64 e.mn,.int .i64 e.mx,.bool e.h]
structure ETab.ok (B : Nat) (w : World) (e : ETab) : Prop where
 h0 : i64B e.r
 h1 : i64B e.mn
 h2 : i64B e.mx
theorem ETab.ok.below {B : Nat} {w w' : World} {e : ETab} (h : ETab.ok B w e) (hb : Below B w w') : ETab.ok B w' e := ⟨h.h0,h.h1,h.h2⟩
theorem ETab.ok.mono {B B' : Nat} {w : World} {e : ETab} (h : ETab.ok B w e) (hb : B ≤ B') : ETab.ok B' w e := ⟨h.h0,h.h1,h.h2⟩
structure ELim where
 mn : Int
 mx : Int
 h : Bool
def ELim.cs (e : ELim) : List Value := [.int .i64 e.mn,.int .i64 e.mx,.bool e.h]
structure ELim.ok (B : Nat) (w : World) (e : ELim) : Prop where
 h0 : i64B e.mn
 h1 : i64B e.mx
theorem ELim.ok.below {B : Nat} {w w' : World} {e : ELim} (h : ELim.ok B w e) (hb : Below B w w') : ELim.ok B w' e := ⟨h.h0,h.h1⟩
theorem ELim.ok.mono {B B' : Nat} {w : World} {e : ELim} (h : ELim.ok B w e) (hb : B ≤ B') : ELim.ok B' w e := ⟨h.h0,h.h1⟩
structure EGlo where
 t : Int
 m : Bool
 f : Fo
 pf : Option Addr
 cf : Nat
def EGlo.cs (e : EGlo) : List Value := [.int .i64 e.t,.bool e.m,.slice e.pf e.f.len e.cf]
structure EGlo.ok (B : Nat) (w : World) (e : EGlo) : Prop where
 h0 : i64B e.t
 h1 : CO B w e.pf e.cf e.f
theorem EGlo.ok.below {B : Nat} {w w' : World} {e : EGlo} (h : EGlo.ok B w e) (hb : Below B w w') : EGlo.ok B w' e := ⟨h.h0,h.h1.below hb⟩
theorem EGlo.ok.mono {B B' : Nat} {w : World} {e : EGlo} (h : EGlo.ok B w e) (hb : B ≤ B') : EGlo.ok B' w e := ⟨h.h0,h.h1.mono hb⟩
structure EExp where
 s : ByteArray
 k : Int
 ix : Int
def EExp.cs (e : EExp) : List Value := [.string e.s,.int .i64 e.k,.int .i64 e.ix]
structure EExp.ok (B : Nat) (w : World) (e : EExp) : Prop where
 h0 : e.s.size ≤ reachBytes
 h1 : i64B e.k
 h2 : i64B e.ix
theorem EExp.ok.below {B : Nat} {w w' : World} {e : EExp} (h : EExp.ok B w e) (hb : Below B w w') : EExp.ok B w' e := ⟨h.h0,h.h1,h.h2⟩
theorem EExp.ok.mono {B B' : Nat} {w : World} {e : EExp} (h : EExp.ok B w e) (hb : B ≤ B') : EExp.ok B' w e := ⟨h.h0,h.h1,h.h2⟩
structure EElm where
 r : Int
 m : Int
 t : Int
 f : Fo
 pf : Option Addr
 cf : Nat
 ng : Nat
 pg : Option Addr
 cg : Nat
 bg : Nat
 og : Nat
 g : Nat → Fo
 qg : Nat → Option Addr
 dg : Nat → Nat
def EElm.cs (e : EElm) : List Value := [.int .i64 e.r,.int .i64 e.m,.int .i64 e.t,.slice e.pf e.f.len e.cf,.slice e.pg e.ng e.cg]
structure EElm.ok (B : Nat) (w : World) (e : EElm) : Prop where
 h0 : i64B e.r
 h1 : i64B e.m
 h2 : i64B e.t
 h3 : CO B w e.pf e.cf e.f
 h4 : KO B w e.pg e.ng e.bg e.og e.g e.qg e.dg
theorem EElm.ok.below {B : Nat} {w w' : World} {e : EElm} (h : EElm.ok B w e) (hb : Below B w w') : EElm.ok B w' e := ⟨h.h0,h.h1,h.h2,h.h3.below hb,h.h4.below hb⟩
theorem EElm.ok.mono {B B' : Nat} {w : World} {e : EElm} (h : EElm.ok B w e) (hb : B ≤ B') : EElm.ok B' w e := ⟨h.h0,h.h1,h.h2,h.h3.mono hb,h.h4.mono hb⟩
structure EDat where
 m : Int
 t : Int
 f : Fo
 pf : Option Addr
 cf : Nat
 b : List UInt8
 pb : Option Addr
 cb : Nat
def EDat.cs (e : EDat) : List Value := [.int .i64 e.m,.int .i64 e.t,.slice e.pf e.f.len e.cf,.slice e.pb e.b.length e.cb]
structure EDat.ok (B : Nat) (w : World) (e : EDat) : Prop where
 h0 : i64B e.m
 h1 : i64B e.t
 h2 : CO B w e.pf e.cf e.f
 h3 : YO B w e.pb e.cb e.b
theorem EDat.ok.below {B : Nat} {w w' : World} {e : EDat} (h : EDat.ok B w e) (hb : Below B w w') : EDat.ok B w' e := ⟨h.h0,h.h1,h.h2.below hb,h.h3.below hb⟩
theorem EDat.ok.mono {B B' : Nat} {w : World} {e : EDat} (h : EDat.ok B w e) (hb : B ≤ B') : EDat.ok B' w e := ⟨h.h0,h.h1,h.h2.mono hb,h.h3.mono hb⟩
structure MD where
 tp : Option Addr
 tn : Nat
 tc : Nat
 tg : Nat
 tw : Nat
 t : Nat → ETyp
 imp : Option Addr
 imn : Nat
 imc : Nat
 img : Nat
 imw : Nat
 im : Nat → EImp
 fp : Option Addr
 fn : Nat
 fc : Nat
 fg : Nat
 fw : Nat
 f : Nat → EFun
 tbp : Option Addr
 tbn : Nat
 tbc : Nat
 tbg : Nat
 tbw : Nat
 tb : Nat → ETab
 mp : Option Addr
 mn : Nat
 mc : Nat
 mg : Nat
 mw : Nat
 m : Nat → ELim
 gp : Option Addr
 gn : Nat
 gc : Nat
 gg : Nat
 gw : Nat
 g : Nat → EGlo
 xp : Option Addr
 xn : Nat
 xc : Nat
 xg : Nat
 xw : Nat
 x : Nat → EExp
 ep : Option Addr
 en : Nat
 ec : Nat
 eg : Nat
 ew : Nat
 e : Nat → EElm
 dp : Option Addr
 dn : Nat
 dc : Nat
 dg : Nat
 dw : Nat
 d : Nat → EDat
 st : Int
 cnt : Bool
def MD.val (M : MD) : Value := .agg #[.slice M.tp M.tn M.tc,.slice M.imp M.imn M.imc,.slice M.fp M.fn M.fc,.slice M.tbp M.tbn M.tbc,.slice M.mp M.mn M.mc,.slice M.gp M.gn M.gc,.slice M.xp M.xn M.xc,.int .i64 M.st,.slice M.ep M.en M.ec,.slice M.dp M.dn M.dc,.bool M.cnt]
structure MD.ok (B : Nat) (w : World) (M : MD) : Prop where
 tr : RowM B w M.tp M.tn M.tg M.tw 2 (fun i => (M.t i).cs)
 tz : ∀ i,i < M.tn → (M.t i).ok B w
 imr : RowM B w M.imp M.imn M.img M.imw 13 (fun i => (M.im i).cs)
 imz : ∀ i,i < M.imn → (M.im i).ok B w
 fr : RowM B w M.fp M.fn M.fg M.fw 3 (fun i => (M.f i).cs)
 fz : ∀ i,i < M.fn → (M.f i).ok B w
 tbr : RowM B w M.tbp M.tbn M.tbg M.tbw 4 (fun i => (M.tb i).cs)
 tbz : ∀ i,i < M.tbn → (M.tb i).ok B w
 mr : RowM B w M.mp M.mn M.mg M.mw 3 (fun i => (M.m i).cs)
 mz : ∀ i,i < M.mn → (M.m i).ok B w
 gr : RowM B w M.gp M.gn M.gg M.gw 3 (fun i => (M.g i).cs)
 gz : ∀ i,i < M.gn → (M.g i).ok B w
 xr : RowM B w M.xp M.xn M.xg M.xw 3 (fun i => (M.x i).cs)
 xz : ∀ i,i < M.xn → (M.x i).ok B w
 er : RowM B w M.ep M.en M.eg M.ew 5 (fun i => (M.e i).cs)
 ez : ∀ i,i < M.en → (M.e i).ok B w
 dr : RowM B w M.dp M.dn M.dg M.dw 4 (fun i => (M.d i).cs)
 dz : ∀ i,i < M.dn → (M.d i).ok B w
 stk : i64B M.st
theorem MD.ok.below {B : Nat} {w w' : World} {M : MD} (h : MD.ok B w M) (hb : Below B w w') : MD.ok B w' M := ⟨h.tr.below hb,fun i hi => (h.tz i hi).below hb,h.imr.below hb,fun i hi => (h.imz i hi).below hb,h.fr.below hb,fun i hi => (h.fz i hi).below hb,h.tbr.below hb,fun i hi => (h.tbz i hi).below hb,h.mr.below hb,fun i hi => (h.mz i hi).below hb,h.gr.below hb,fun i hi => (h.gz i hi).below hb,h.xr.below hb,fun i hi => (h.xz i hi).below hb,h.er.below hb,fun i hi => (h.ez i hi).below hb,h.dr.below hb,fun i hi => (h.dz i hi).below hb,h.stk⟩
theorem MD.ok.mono {B B' : Nat} {w : World} {M : MD} (h : MD.ok B w M) (hb : B ≤ B') : MD.ok B' w M := ⟨h.tr.mono hb,fun i hi => (h.tz i hi).mono hb,h.imr.mono hb,fun i hi => (h.imz i hi).mono hb,h.fr.mono hb,fun i hi => (h.fz i hi).mono hb,h.tbr.mono hb,fun i hi => (h.tbz i hi).mono hb,h.mr.mono hb,fun i hi => (h.mz i hi).mono hb,h.gr.mono hb,fun i hi => (h.gz i hi).mono hb,h.xr.mono hb,fun i hi => (h.xz i hi).mono hb,h.er.mono hb,fun i hi => (h.ez i hi).mono hb,h.dr.mono hb,fun i hi => (h.dz i hi).mono hb,h.stk⟩
end Go.Proofs.YtjgeedgphcjhoaaGreat
namespace Go.Proofs.YtjgeedgphcjhoaaGreat
open Go.RowKit
set_option maxHeartbeats 4000000 in
theorem all_ft (k : Nat) (eg : ∀ args w,(callFunc k args).run Tryz.prog w = .ok (.enter k args) w) (P : Nat → Bool) (n g o c : Nat) (p0 : Nat → Option Addr) (n0 c0 : Nat → Nat) (p1 : Nat → Option Addr) (n1 c1 : Nat → Nat) (w : World) (hg : g < w.heap.size) (hn : n < 9223372036854775807)
  (hx : ∀ i,i < n → w.cell? ⟨g,o + i * 2,none⟩ = some (.slice (p0 i) (n0 i) (c0 i)) ∧ w.cell? ⟨g,o + i * 2 + 1,none⟩ = some (.slice (p1 i) (n1 i) (c1 i))) (hP : ∀ i,i < n → ∀ W,Below w.heap.size w W → Calls Tryz.prog k #[.agg #[.slice (p0 i) (n0 i) (c0 i),.slice (p1 i) (n1 i) (c1 i)]] W fun e w' => e = .returned (.bool (P i)) ∧ Below W.heap.size W w') :
  Calls Tryz.prog 30 #[.slice (some ⟨g,o,none⟩) n c,.func (.func k) #[] #[]] w fun e w' => e = .returned (.bool ((List.range n).all P)) ∧ Below w.heap.size w w' := by
 have HP := hid hP
 have HXX := hid hx
 have hn' : (n : Int) < 9223372036854775807 := by omega
 obtain ⟨r,hr⟩ : ∃ r,r = (List.range n).all P := ⟨_,rfl⟩
 rw [← hr]
 have HR := hid hr
 clear hP hx hr hn
 go_enter Tryz.func30,Tryz.ntmps30
 go_wp2
 go_loopw [9] (fun vi wr => ∃ i : Nat,i ≤ n ∧ vi = .int .i64 i ∧ Hid (∀ j,j < i → P j = true) ∧ Hid (Below w.heap.size w wr)) (fun vi _ => n - (intOf vi).toNat)
 case atStart => exact ⟨0,Nat.zero_le _,rfl,fun j hj => absurd hj (Nat.not_lt_zero _),Below.refl _ _⟩
 case round =>
  obtain ⟨i,hi,rfl,HI,HB⟩ := hrel
  by_cases hlt : i < n
  ·obtain ⟨z0,z1⟩ := HXX.out i hlt
   have hPi := fun W h => hid (HP.out i hlt W h)
   have x0 := (HB.out.cell (p := ⟨g,o + i * 2,none⟩) hg).trans z0
   have x1 := (HB.out.cell (p := ⟨g,o + i * 2 + 1,none⟩) hg).trans z1
   clear z0 z1
   obtain ⟨b,hb⟩ : ∃ b,b = P i := ⟨_,rfl⟩
   rw [← hb] at hPi
   have HBP := hid hb
   clear hb
   generalize p0 i = q0 at *
   generalize n0 i = m0 at *
   generalize c0 i = d0 at *
   generalize p1 i = q1 at *
   generalize n1 i = m1 at *
   generalize c1 i = d1 at *
   have HB1 := hid (HB.out.alloc HB.out.size (.cells #[.slice q0 m0 d0,.slice q1 m1 d1] 67))
   cases b with
   | false =>
    have HE : Hid (r = false) := by
     rw [HR.out]
     exact List.all_eq_false.2 ⟨i,List.mem_range.2 hlt,by rw [← HBP.out]; decide⟩
    go_wp2_with (go_at_fn k; (with_reducible refine (hPi _ HB1.out).out.mono ?_); rintro e w2 ⟨rfl,hb2⟩; have HB2 := hid (HB1.out.trans (hb2.mono HB1.out.size)); clear hb2)
    go_ret
    exact ⟨by rw [HE.out]; rfl,HB2.out⟩
   | true =>
    go_wp2_with (go_at_fn k; (with_reducible refine (hPi _ HB1.out).out.mono ?_); rintro e w2 ⟨rfl,hb2⟩; have HB2 := hid (HB1.out.trans (hb2.mono HB1.out.size)); clear hb2)
    go_roundw
    case rel =>
     refine ⟨i + 1,hlt,by go_num,fun j hj => ?_,HB2.out⟩
     by_cases hji : j = i
     ·rw [hji]; exact HBP.out.symm
     ·exact HI.out j (by omega)
    case measure => simp [intOf]; omega
  ·obtain rfl : i = n := by omega
   have HE : Hid (r = true) := by
    rw [HR.out]
    exact List.all_eq_true.2 fun j hj => HI.out j (List.mem_range.1 hj)
   go_wp2
   go_ret
   exact ⟨by rw [HE.out]; rfl,HB.out⟩
set_option maxHeartbeats 4000000 in
theorem all_code (k : Nat) (eg : ∀ args w,(callFunc k args).run Tryz.prog w = .ok (.enter k args) w) (P : Nat → Bool) (n g o c : Nat) (t0 : Nat → Int) (p1 : Nat → Option Addr) (n1 c1 : Nat → Nat) (p2 : Nat → Option Addr) (n2 c2 : Nat → Nat) (w : World) (hg : g < w.heap.size) (hn : n < 9223372036854775807)
  (hx : ∀ i,i < n → w.cell? ⟨g,o + i * 3,none⟩ = some (.int .i64 (t0 i)) ∧ w.cell? ⟨g,o + i * 3 + 1,none⟩ = some (.slice (p1 i) (n1 i) (c1 i)) ∧ w.cell? ⟨g,o + i * 3 + 2,none⟩ = some (.slice (p2 i) (n2 i) (c2 i))) (hP : ∀ i,i < n → ∀ W,Below w.heap.size w W → Calls Tryz.prog k #[.agg #[.int .i64 (t0 i),.slice (p1 i) (n1 i) (c1 i),.slice (p2 i) (n2 i) (c2 i)]] W fun e w' => e = .returned (.bool (P i)) ∧ Below W.heap.size W w') :
  Calls Tryz.prog 34 #[.slice (some ⟨g,o,none⟩) n c,.func (.func k) #[] #[]] w fun e w' => e = .returned (.bool ((List.range n).all P)) ∧ Below w.heap.size w w' := by
 have HP := hid hP
 have HXX := hid hx
 have hn' : (n : Int) < 9223372036854775807 := by omega
 obtain ⟨r,hr⟩ : ∃ r,r = (List.range n).all P := ⟨_,rfl⟩
 rw [← hr]
 have HR := hid hr
 clear hP hx hr hn
 go_enter Tryz.func34,Tryz.ntmps34
 go_wp2
 go_loopw [9] (fun vi wr => ∃ i : Nat,i ≤ n ∧ vi = .int .i64 i ∧ Hid (∀ j,j < i → P j = true) ∧ Hid (Below w.heap.size w wr)) (fun vi _ => n - (intOf vi).toNat)
 case atStart => exact ⟨0,Nat.zero_le _,rfl,fun j hj => absurd hj (Nat.not_lt_zero _),Below.refl _ _⟩
 case round =>
  obtain ⟨i,hi,rfl,HI,HB⟩ := hrel
  by_cases hlt : i < n
  ·obtain ⟨z0,z1,z2⟩ := HXX.out i hlt
   have hPi := fun W h => hid (HP.out i hlt W h)
   have x0 := (HB.out.cell (p := ⟨g,o + i * 3,none⟩) hg).trans z0
   have x1 := (HB.out.cell (p := ⟨g,o + i * 3 + 1,none⟩) hg).trans z1
   have x2 := (HB.out.cell (p := ⟨g,o + i * 3 + 2,none⟩) hg).trans z2
   clear z0 z1 z2
   obtain ⟨b,hb⟩ : ∃ b,b = P i := ⟨_,rfl⟩
   rw [← hb] at hPi
   have HBP := hid hb
   clear hb
   generalize t0 i = s0 at *
   generalize p1 i = q1 at *
   generalize n1 i = m1 at *
   generalize c1 i = d1 at *
   generalize p2 i = q2 at *
   generalize n2 i = m2 at *
   generalize c2 i = d2 at *
   have HB1 := hid (HB.out.alloc HB.out.size (.cells #[.int .i64 s0,.slice q1 m1 d1,.slice q2 m2 d2] 42))
   cases b with
   | false =>
    have HE : Hid (r = false) := by
     rw [HR.out]
     exact List.all_eq_false.2 ⟨i,List.mem_range.2 hlt,by rw [← HBP.out]; decide⟩
    go_wp2_with (go_at_fn k; (with_reducible refine (hPi _ HB1.out).out.mono ?_); rintro e w2 ⟨rfl,hb2⟩; have HB2 := hid (HB1.out.trans (hb2.mono HB1.out.size)); clear hb2)
    go_ret
    exact ⟨by rw [HE.out]; rfl,HB2.out⟩
   | true =>
    go_wp2_with (go_at_fn k; (with_reducible refine (hPi _ HB1.out).out.mono ?_); rintro e w2 ⟨rfl,hb2⟩; have HB2 := hid (HB1.out.trans (hb2.mono HB1.out.size)); clear hb2)
    go_roundw
    case rel =>
     refine ⟨i + 1,hlt,by go_num,fun j hj => ?_,HB2.out⟩
     by_cases hji : j = i
     ·rw [hji]; exact HBP.out.symm
     ·exact HI.out j (by omega)
    case measure => simp [intOf]; omega
  ·obtain rfl : i = n := by omega
   have HE : Hid (r = true) := by
    rw [HR.out]
    exact List.all_eq_true.2 fun j hj => HI.out j (List.mem_range.1 hj)
   go_wp2
   go_ret
   exact ⟨by rw [HE.out]; rfl,HB.out⟩
theorem all_nil_24 (k : Nat) (p : Option Addr) (c : Nat) (w : World) : Calls Tryz.prog 32 #[.slice p 0 c,.func (.func k) #[] #[]] w fun e w' => e = .returned (.bool true) ∧ w = w' := by
 go_enter Tryz.func32,Tryz.ntmps32
 go_wp2
 go_loop [9] (fun vi => vi = .int .i64 0) (fun _ => 0)
 case atStart => rfl
 case round =>
  subst hrel
  go_wp2
  go_ret
  exact ⟨rfl,rfl⟩
theorem all_nil_28 (k : Nat) (p : Option Addr) (c : Nat) (w : World) : Calls Tryz.prog 36 #[.slice p 0 c,.func (.func k) #[] #[]] w fun e w' => e = .returned (.bool true) ∧ w = w' := by
 go_enter Tryz.func36,Tryz.ntmps36
 go_wp2
 go_loop [9] (fun vi => vi = .int .i64 0) (fun _ => 0)
 case atStart => rfl
 case round =>
  subst hrel
  go_wp2
  go_ret
  exact ⟨rfl,rfl⟩
theorem all_nil_30 (k : Nat) (p : Option Addr) (c : Nat) (w : World) : Calls Tryz.prog 38 #[.slice p 0 c,.func (.func k) #[] #[]] w fun e w' => e = .returned (.bool true) ∧ w = w' := by
 go_enter Tryz.func38,Tryz.ntmps38
 go_wp2
 go_loop [9] (fun vi => vi = .int .i64 0) (fun _ => 0)
 case atStart => rfl
 case round =>
  subst hrel
  go_wp2
  go_ret
  exact ⟨rfl,rfl⟩
theorem all_nil_32 (k : Nat) (p : Option Addr) (c : Nat) (w : World) : Calls Tryz.prog 40 #[.slice p 0 c,.func (.func k) #[] #[]] w fun e w' => e = .returned (.bool true) ∧ w = w' := by
 go_enter Tryz.func40,Tryz.ntmps40
 go_wp2
 go_loop [9] (fun vi => vi = .int .i64 0) (fun _ => 0)
 case atStart => rfl
 case round =>
  subst hrel
  go_wp2
  go_ret
  exact ⟨rfl,rfl⟩
theorem all_nil_34 (k : Nat) (p : Option Addr) (c : Nat) (w : World) : Calls Tryz.prog 42 #[.slice p 0 c,.func (.func k) #[] #[]] w fun e w' => e = .returned (.bool true) ∧ w = w' := by
 go_enter Tryz.func42,Tryz.ntmps42
 go_wp2
 go_loop [9] (fun vi => vi = .int .i64 0) (fun _ => 0)
 case atStart => rfl
 case round =>
  subst hrel
  go_wp2
  go_ret
  exact ⟨rfl,rfl⟩
theorem all_nil_37 (k : Nat) (p : Option Addr) (c : Nat) (w : World) : Calls Tryz.prog 45 #[.slice p 0 c,.func (.func k) #[] #[]] w fun e w' => e = .returned (.bool true) ∧ w = w' := by
 go_enter Tryz.func45,Tryz.ntmps45
 go_wp2
 go_loop [9] (fun vi => vi = .int .i64 0) (fun _ => 0)
 case atStart => rfl
 case round =>
  subst hrel
  go_wp2
  go_ret
  exact ⟨rfl,rfl⟩
theorem all_nil_39 (k : Nat) (p : Option Addr) (c : Nat) (w : World) : Calls Tryz.prog 47 #[.slice p 0 c,.func (.func k) #[] #[]] w fun e w' => e = .returned (.bool true) ∧ w = w' := by
 go_enter Tryz.func47,Tryz.ntmps47
 go_wp2
 go_loop [9] (fun vi => vi = .int .i64 0) (fun _ => 0)
 case atStart => rfl
 case round =>
  subst hrel
  go_wp2
  go_ret
  exact ⟨rfl,rfl⟩
end Go.Proofs.YtjgeedgphcjhoaaGreat
namespace Go.Proofs.YtjgeedgphcjhoaaGreat
open Go.RowKit
set_option maxHeartbeats 2000000 in
theorem isFT_says (l1 l2 : List Int) (p1 p2 : Option Addr) (c1 c2 B : Nat) (w : World) (hB : B ≤ w.heap.size) (h1 : LI B w (.slice p1 l1.length c1) l1) (h2 : LI B w (.slice p2 l2.length c2) l2) :
  Calls Tryz.prog 31 #[.agg #[.slice p1 l1.length c1,.slice p2 l2.length c2]] w fun e w' => e = .returned (.bool (l1.all valB && l2.all valB)) ∧ Below w.heap.size w w' := by
 have hq1 : l1.length < 9223372036854775807 := by obtain ⟨_,_,_,h,_⟩ := h1; exact h
 have hq2 : l2.length < 9223372036854775807 := by obtain ⟨_,_,_,h,_⟩ := h2; exact h
 have H1 := fun W (hW : Below B w W) => hid (all_int 144 (fun _ _ => rfl) valB isVal_says l1 (.slice p1 l1.length c1) B W (h1.below hW) (Nat.le_trans hB hW.size) hq1)
 have H2 := fun W (hW : Below B w W) => hid (all_int 144 (fun _ _ => rfl) valB isVal_says l2 (.slice p2 l2.length c2) B W (h2.below hW) (Nat.le_trans hB hW.size) hq2)
 generalize l1.all valB = b1 at *
 generalize l2.all valB = b2 at *
 generalize l1.length = n1 at *
 generalize l2.length = n2 at *
 have HBX := hid ((Below.refl w.heap.size w).alloc (Nat.le_refl _) (.cells #[.slice p1 n1 c1,.slice p2 n2 c2] 67))
 have HBY := hid (HBX.out.mono hB)
 clear h1 h2 hq1 hq2 hB
 cases b1
 all_goals
  go_enter Tryz.func31,Tryz.ntmps31
  go_wp2_with (first
   | (go_at_call 143; (with_reducible refine (H1 _ HBY.out).out.mono ?_); rintro e w3 ⟨rfl,rfl⟩)
   | (go_at_call 143; (with_reducible refine (H2 _ HBY.out).out.mono ?_); rintro e w3 ⟨rfl,rfl⟩))
  go_ret
  exact ⟨by simp,HBX.out⟩
set_option maxHeartbeats 4000000 in
theorem isFunc_says (t : Int) (l : List Int) (f : Fo) (p1 p2 : Option Addr) (c1 c2 B : Nat) (w : World) (hn : f.cnt < 9223372036854775806) (hB : B ≤ w.heap.size) (h1 : LI B w (.slice p1 l.length c1) l) (h2 : SA B w (.slice p2 f.len c2) f) :
  Calls Tryz.prog 35 #[.agg #[.int .i64 t,.slice p1 l.length c1,.slice p2 f.len c2]] w fun e w' => e = .returned (.bool (idxB t && decide ((l.length : Int) ≤ 50000) && l.all valB && codeB f)) ∧ Below w.heap.size w w' := by
 have hq1 : l.length < 9223372036854775807 := by obtain ⟨_,_,_,h,_⟩ := h1; exact h
 have HT := fun W => hid (isIndex_says t W)
 have H1 := fun W (hW : Below B w W) => hid (all_int 144 (fun _ _ => rfl) valB isVal_says l (.slice p1 l.length c1) B W (h1.below hW) (Nat.le_trans hB hW.size) hq1)
 have H2 := fun W (hW : Below B w W) => hid (isCode_says f (.slice p2 f.len c2) B W hn (Nat.le_trans hB hW.size) (SA.below h2 hW))
 generalize l.all valB = b3 at *
 generalize codeB f = b4 at *
 generalize idxB t = b1 at *
 obtain ⟨n1,hn1⟩ : ∃ x,x = l.length := ⟨_,rfl⟩
 rw [← hn1] at H1 ⊢
 generalize f.len = n2 at *
 obtain ⟨b2,d2⟩ : ∃ x,decide ((n1 : Int) ≤ 50000) = x := ⟨_,rfl⟩
 rw [d2]
 have HBX := hid ((Below.refl w.heap.size w).alloc (Nat.le_refl _) (.cells #[.int .i64 t,.slice p1 n1 c1,.slice p2 n2 c2] 42))
 have HBY := hid (HBX.out.mono hB)
 clear h1 h2 hq1 hB hn hn1
 rcases (show b1 = false ∨ (b1 = true ∧ b2 = false) ∨ (b1 = true ∧ b2 = true ∧ b3 = false) ∨ (b1 = true ∧ b2 = true ∧ b3 = true) by cases b1 <;> cases b2 <;> cases b3 <;> simp) with rfl | ⟨rfl,rfl⟩ | ⟨rfl,rfl,rfl⟩ | ⟨rfl,rfl,rfl⟩
 ·go_enter Tryz.func35,Tryz.ntmps35
  go_wp2_with (first
   | (go_at_call 145; (with_reducible refine (HT _).out.mono ?_); rintro e w3 ⟨rfl,rfl⟩)
   | (go_at_call 143; (with_reducible refine (H1 _ HBY.out).out.mono ?_); rintro e w3 ⟨rfl,rfl⟩)
   | (go_at_call 148; (with_reducible refine (H2 _ HBY.out).out.mono ?_); rintro e w4 ⟨rfl,hb4⟩; have HB4 := hid (HBX.out.trans (hb4.mono HBX.out.size)); clear hb4))
  go_ret
  exact ⟨by simp,HBX.out⟩
 ·go_enter Tryz.func35,Tryz.ntmps35
  go_wp2_with (first
   | (go_at_call 145; (with_reducible refine (HT _).out.mono ?_); rintro e w3 ⟨rfl,rfl⟩)
   | (go_at_call 143; (with_reducible refine (H1 _ HBY.out).out.mono ?_); rintro e w3 ⟨rfl,rfl⟩)
   | (go_at_call 148; (with_reducible refine (H2 _ HBY.out).out.mono ?_); rintro e w4 ⟨rfl,hb4⟩; have HB4 := hid (HBX.out.trans (hb4.mono HBX.out.size)); clear hb4))
  go_ret
  exact ⟨by simp,HBX.out⟩
 ·go_enter Tryz.func35,Tryz.ntmps35
  go_wp2_with (first
   | (go_at_call 145; (with_reducible refine (HT _).out.mono ?_); rintro e w3 ⟨rfl,rfl⟩)
   | (go_at_call 143; (with_reducible refine (H1 _ HBY.out).out.mono ?_); rintro e w3 ⟨rfl,rfl⟩)
   | (go_at_call 148; (with_reducible refine (H2 _ HBY.out).out.mono ?_); rintro e w4 ⟨rfl,hb4⟩; have HB4 := hid (HBX.out.trans (hb4.mono HBX.out.size)); clear hb4))
  go_ret
  exact ⟨by simp,HBX.out⟩
 ·go_enter Tryz.func35,Tryz.ntmps35
  go_wp2_with (first
   | (go_at_call 145; (with_reducible refine (HT _).out.mono ?_); rintro e w3 ⟨rfl,rfl⟩)
   | (go_at_call 143; (with_reducible refine (H1 _ HBY.out).out.mono ?_); rintro e w3 ⟨rfl,rfl⟩)
   | (go_at_call 148; (with_reducible refine (H2 _ HBY.out).out.mono ?_); rintro e w4 ⟨rfl,hb4⟩; have HB4 := hid (HBX.out.trans (hb4.mono HBX.out.size)); clear hb4))
  go_ret
  exact ⟨by simp,HB4.out⟩
theorem isDataless_says (t : Int) (f : Fo) (p1 p2 : Option Addr) (n1 c1 c2 B : Nat) (w : World) (hn : f.cnt < 9223372036854775806) (hB : B ≤ w.heap.size) (h2 : SA B w (.slice p2 f.len c2) f) :
  Calls Tryz.prog 49 #[.agg #[.int .i64 t,.slice p1 n1 c1,.slice p2 f.len c2]] w fun e w' => e = .returned (.bool (dataB f)) ∧ Below w.heap.size w w' := by
 have H := fun W (hW : Below B w W) => hid (every_says 151 #[] (fun _ _ => rfl) (fun (_ : Unit) _ => True) dataSt B none (fun k e => by cases e) (fun _ _ _ _ _ => trivial) (asks_data B) f () (.slice p2 f.len c2) W hn (Nat.le_trans hB hW.size) (fun k e => by cases e) (SA.below h2 hW) trivial)
 unfold dataB
 generalize (evF dataSt f 1 ()).1 = r at *
 generalize f.len = n2 at *
 have HBX := hid ((Below.refl w.heap.size w).alloc (Nat.le_refl _) (.cells #[.int .i64 t,.slice p1 n1 c1,.slice p2 n2 c2] 42))
 have HBY := hid (HBX.out.mono hB)
 clear h2 hn hB
 go_enter Tryz.func49,Tryz.ntmps49
 go_wp2_with (go_at_call 140; (with_reducible refine (H _ HBY.out).out.mono ?_); rintro e w1 ⟨rfl,_,hk1⟩; have HB1 := hid (HBX.out.trans (hk1.pure.mono HBX.out.size)); clear hk1)
 go_ret
 exact ⟨rfl,HB1.out⟩
set_option maxHeartbeats 16000000 in
theorem May_says (tp : Option Addr) (tn tc fg fo fc : Nat) (tb fb db : Bool) (w : World)
  (ht : ∀ W,Below w.heap.size w W → Calls Tryz.prog 30 #[.slice tp tn tc,.func (.func 31) #[] #[]] W fun e w' => e = .returned (.bool tb) ∧ Below W.heap.size W w')
  (hf : ∀ W,Below w.heap.size w W → Calls Tryz.prog 34 #[.slice (some ⟨fg,fo,none⟩) 1 fc,.func (.func 35) #[] #[]] W fun e w' => e = .returned (.bool fb) ∧ Below W.heap.size W w')
  (hd : ∀ W,Below w.heap.size w W → Calls Tryz.prog 34 #[.slice (some ⟨fg,fo,none⟩) 1 fc,.func (.func 49) #[] #[]] W fun e w' => e = .returned (.bool db) ∧ Below W.heap.size W w') :
  Calls Tryz.prog 15 #[.agg #[.slice tp tn tc,.slice none 0 0,.slice (some ⟨fg,fo,none⟩) 1 fc,.slice none 0 0,.slice none 0 0,.slice none 0 0,.slice none 0 0,.int .i64 0,.slice none 0 0,.slice none 0 0,.bool false]] w fun e w' => e = .returned (.bool (tb && fb && db)) ∧ Below w.heap.size w w' := by
 have HT := fun W h => hid (ht W h)
 have HF := fun W h => hid (hf W h)
 have HD := fun W h => hid (hd W h)
 have HN24 := fun W => hid (all_nil_24 33 none 0 W)
 have HN28 := fun W => hid (all_nil_28 37 none 0 W)
 have HN30 := fun W => hid (all_nil_30 39 none 0 W)
 have HN32 := fun W => hid (all_nil_32 41 none 0 W)
 have HN34 := fun W => hid (all_nil_34 43 none 0 W)
 have HN37 := fun W => hid (all_nil_37 46 none 0 W)
 have HN39 := fun W => hid (all_nil_39 48 none 0 W)
 have HS := fun W => hid (isStart_says 0 W)
 rw [show decide (IntKind.u64.wrap 0 ≤ 4294967296) = true from rfl] at HS
 have HBX := hid ((Below.refl w.heap.size w).alloc (Nat.le_refl _) (.cells #[.slice tp tn tc,.slice none 0 0,.slice (some ⟨fg,fo,none⟩) 1 fc,.slice none 0 0,.slice none 0 0,.slice none 0 0,.slice none 0 0,.int .i64 0,.slice none 0 0,.slice none 0 0,.bool false] 32))
 have HX := hid (CA.new w #[.slice tp tn tc,.slice none 0 0,.slice (some ⟨fg,fo,none⟩) 1 fc,.slice none 0 0,.slice none 0 0,.slice none 0 0,.slice none 0 0,.int .i64 0,.slice none 0 0,.slice none 0 0,.bool false] 32)
 clear ht hf hd
 rcases (show tb = false ∨ (tb = true ∧ fb = false) ∨ (tb = true ∧ fb = true) by cases tb <;> cases fb <;> simp) with rfl | ⟨rfl,rfl⟩ | ⟨rfl,rfl⟩
 ·go_enter Tryz.func15,Tryz.ntmps15
  go_wp2_with (first
   | (go_at_call 30; (with_reducible refine (HT _ HBX.out).out.mono ?_); rintro e w1 ⟨rfl,hb1⟩; have HB1 := hid (HBX.out.trans (hb1.mono HBX.out.size)); have HX1 := hid (HX.out.below hb1 HX.out.lt); obtain ⟨y0,y1,y2,y3,y4,y5,y6,y7,y8,y9,y10⟩ := ca11 HX1.out; clear hb1)
   | (go_at_call 34; (with_reducible refine (HF _ HB1.out).out.mono ?_); rintro e w2 ⟨rfl,hb2⟩; have HB2 := hid (HB1.out.trans (hb2.mono HB1.out.size)); have HX2 := hid (HX1.out.below hb2 HX1.out.lt); obtain ⟨z0,z1,z2,z3,z4,z5,z6,z7,z8,z9,z10⟩ := ca11 HX2.out; clear hb2)
   | (go_at_call 34; (with_reducible refine (HD _ HB2.out).out.mono ?_); rintro e w3 ⟨rfl,hb3⟩; have HB3 := hid (HB2.out.trans (hb3.mono HB2.out.size)); clear hb3)
   | (go_at_call 44; (with_reducible refine (HS _).out.mono ?_); rintro e w5 ⟨rfl,rfl⟩)
   | (go_at_call 32; (with_reducible refine (HN24 _).out.mono ?_); rintro e w5 ⟨rfl,rfl⟩)
   | (go_at_call 36; (with_reducible refine (HN28 _).out.mono ?_); rintro e w5 ⟨rfl,rfl⟩)
   | (go_at_call 38; (with_reducible refine (HN30 _).out.mono ?_); rintro e w5 ⟨rfl,rfl⟩)
   | (go_at_call 40; (with_reducible refine (HN32 _).out.mono ?_); rintro e w5 ⟨rfl,rfl⟩)
   | (go_at_call 42; (with_reducible refine (HN34 _).out.mono ?_); rintro e w5 ⟨rfl,rfl⟩)
   | (go_at_call 45; (with_reducible refine (HN37 _).out.mono ?_); rintro e w5 ⟨rfl,rfl⟩)
   | (go_at_call 47; (with_reducible refine (HN39 _).out.mono ?_); rintro e w5 ⟨rfl,rfl⟩))
  go_ret
  exact ⟨by simp,HB1.out⟩
 ·go_enter Tryz.func15,Tryz.ntmps15
  go_wp2_with (first
   | (go_at_call 30; (with_reducible refine (HT _ HBX.out).out.mono ?_); rintro e w1 ⟨rfl,hb1⟩; have HB1 := hid (HBX.out.trans (hb1.mono HBX.out.size)); have HX1 := hid (HX.out.below hb1 HX.out.lt); obtain ⟨y0,y1,y2,y3,y4,y5,y6,y7,y8,y9,y10⟩ := ca11 HX1.out; clear hb1)
   | (go_at_call 34; (with_reducible refine (HF _ HB1.out).out.mono ?_); rintro e w2 ⟨rfl,hb2⟩; have HB2 := hid (HB1.out.trans (hb2.mono HB1.out.size)); have HX2 := hid (HX1.out.below hb2 HX1.out.lt); obtain ⟨z0,z1,z2,z3,z4,z5,z6,z7,z8,z9,z10⟩ := ca11 HX2.out; clear hb2)
   | (go_at_call 34; (with_reducible refine (HD _ HB2.out).out.mono ?_); rintro e w3 ⟨rfl,hb3⟩; have HB3 := hid (HB2.out.trans (hb3.mono HB2.out.size)); clear hb3)
   | (go_at_call 44; (with_reducible refine (HS _).out.mono ?_); rintro e w5 ⟨rfl,rfl⟩)
   | (go_at_call 32; (with_reducible refine (HN24 _).out.mono ?_); rintro e w5 ⟨rfl,rfl⟩)
   | (go_at_call 36; (with_reducible refine (HN28 _).out.mono ?_); rintro e w5 ⟨rfl,rfl⟩)
   | (go_at_call 38; (with_reducible refine (HN30 _).out.mono ?_); rintro e w5 ⟨rfl,rfl⟩)
   | (go_at_call 40; (with_reducible refine (HN32 _).out.mono ?_); rintro e w5 ⟨rfl,rfl⟩)
   | (go_at_call 42; (with_reducible refine (HN34 _).out.mono ?_); rintro e w5 ⟨rfl,rfl⟩)
   | (go_at_call 45; (with_reducible refine (HN37 _).out.mono ?_); rintro e w5 ⟨rfl,rfl⟩)
   | (go_at_call 47; (with_reducible refine (HN39 _).out.mono ?_); rintro e w5 ⟨rfl,rfl⟩))
  go_ret
  exact ⟨by simp,HB2.out⟩
 ·go_enter Tryz.func15,Tryz.ntmps15
  go_wp2_with (first
   | (go_at_call 30; (with_reducible refine (HT _ HBX.out).out.mono ?_); rintro e w1 ⟨rfl,hb1⟩; have HB1 := hid (HBX.out.trans (hb1.mono HBX.out.size)); have HX1 := hid (HX.out.below hb1 HX.out.lt); obtain ⟨y0,y1,y2,y3,y4,y5,y6,y7,y8,y9,y10⟩ := ca11 HX1.out; clear hb1)
   | (go_at_call 34; (with_reducible refine (HF _ HB1.out).out.mono ?_); rintro e w2 ⟨rfl,hb2⟩; have HB2 := hid (HB1.out.trans (hb2.mono HB1.out.size)); have HX2 := hid (HX1.out.below hb2 HX1.out.lt); obtain ⟨z0,z1,z2,z3,z4,z5,z6,z7,z8,z9,z10⟩ := ca11 HX2.out; clear hb2)
   | (go_at_call 34; (with_reducible refine (HD _ HB2.out).out.mono ?_); rintro e w3 ⟨rfl,hb3⟩; have HB3 := hid (HB2.out.trans (hb3.mono HB2.out.size)); clear hb3)
   | (go_at_call 44; (with_reducible refine (HS _).out.mono ?_); rintro e w5 ⟨rfl,rfl⟩)
   | (go_at_call 32; (with_reducible refine (HN24 _).out.mono ?_); rintro e w5 ⟨rfl,rfl⟩)
   | (go_at_call 36; (with_reducible refine (HN28 _).out.mono ?_); rintro e w5 ⟨rfl,rfl⟩)
   | (go_at_call 38; (with_reducible refine (HN30 _).out.mono ?_); rintro e w5 ⟨rfl,rfl⟩)
   | (go_at_call 40; (with_reducible refine (HN32 _).out.mono ?_); rintro e w5 ⟨rfl,rfl⟩)
   | (go_at_call 42; (with_reducible refine (HN34 _).out.mono ?_); rintro e w5 ⟨rfl,rfl⟩)
   | (go_at_call 45; (with_reducible refine (HN37 _).out.mono ?_); rintro e w5 ⟨rfl,rfl⟩)
   | (go_at_call 47; (with_reducible refine (HN39 _).out.mono ?_); rintro e w5 ⟨rfl,rfl⟩))
  go_ret
  exact ⟨by simp,HB3.out⟩
end Go.Proofs.YtjgeedgphcjhoaaGreat
namespace Go.Proofs.YtjgeedgphcjhoaaGreat
open Go.RowKit
theorem CA.far {g c o : Nat} {cs : Array Value} {T : TypeId} {W : World} (h : CA g cs T W) (hne : c ≠ g) (v : Value) : CA g cs T (W.setCell ⟨c,o,none⟩ v) := by
 unfold CA at h ⊢
 rw [World.setCell,Array.getElem?_modify,if_neg hne,h]
end Go.Proofs.YtjgeedgphcjhoaaGreat
namespace Go.Proofs.YtjgeedgphcjhoaaGreat
open Go.RowKit
def BytesAt (B : Nat) (w : World) (v : Value) (l : List UInt8) : Prop :=
 (v = .slice none 0 0 ∧ l = []) ∨
 ∃ g off cap,v = .slice (some ⟨g,off,none⟩) l.length cap ∧ g < B ∧ l.length ≤ cap ∧ (cap ≤ 9223372036854775807 ∧ l.length ≤ 140737488351232) ∧
  ∀ j u,l[j]? = some u → w.cell? ⟨g,off + j,none⟩ = some (.int .u8 u.toNat)
theorem BytesAt.mono {B B' : Nat} {w : World} {v : Value} {l : List UInt8} (h : BytesAt B w v l) (hB : B ≤ B') : BytesAt B' w v l := by
 rcases h with h | ⟨g,off,cap,h1,h2,h3⟩
 ·exact .inl h
 ·exact .inr ⟨g,off,cap,h1,by omega,h3⟩
theorem BytesAt.below {B : Nat} {w w' : World} {v : Value} {l : List UInt8} (h : BytesAt B w v l) (hb : Below B w w') : BytesAt B w' v l := by
 rcases h with h | ⟨g,off,cap,h1,h2,h3,h4,h5⟩
 ·exact .inl h
 ·exact .inr ⟨g,off,cap,h1,h2,h3,h4,fun j u hj => by rw [hb.cell (p := ⟨g,off + j,none⟩) h2]; exact h5 j u hj⟩
theorem BytesAt.len {B : Nat} {w : World} {v : Value} {l : List UInt8} (h : BytesAt B w v l) : l.length ≤ 140737488351232 := by
 rcases h with ⟨_,rfl⟩ | ⟨_,_,_,_,_,_,h,_⟩
 ·simp
 ·exact h.2
def BytesIn (B : Nat) (w : World) (v : Value) (l : List UInt8) : Prop := BytesAt B w v l ∨ ∃ x c,v = .slice (some x) 0 c ∧ l = []
theorem BytesIn.below {B : Nat} {w w' : World} {v : Value} {l : List UInt8} (h : BytesIn B w v l) (hb : Below B w w') : BytesIn B w' v l := h.imp (fun h => h.below hb) (fun h => h)
theorem BytesIn.mono {B B' : Nat} {w : World} {v : Value} {l : List UInt8} (h : BytesIn B w v l) (hB : B ≤ B') : BytesIn B' w v l := h.imp (fun h => h.mono hB) (fun h => h)
theorem BytesIn.len {B : Nat} {w : World} {v : Value} {l : List UInt8} (h : BytesIn B w v l) : l.length ≤ 140737488351232 := by
 rcases h with h | ⟨_,_,_,rfl⟩
 ·exact h.len
 ·simp
end Go.Proofs.YtjgeedgphcjhoaaGreat
namespace Go.Proofs.YtjgeedgphcjhoaaGreat
open Go.RowKit
theorem range_all_snoc (P : Nat → Bool) (i : Nat) : (List.range (i + 1)).all P = ((List.range i).all P && P i) := by
 rw [List.range_succ,List.all_append]
 simp
end Go.Proofs.YtjgeedgphcjhoaaGreat
namespace Go.Proofs.YtjgeedgphcjhoaaGreat
open Go.RowKit
structure FitM (M : MD) : Prop where
 tn : M.tn ≤ 100
 imn : M.imn ≤ 100
 fn : M.fn ≤ 50
 tbn : M.tbn ≤ 100
 mn : M.mn ≤ 100
 gn : M.gn ≤ 50
 xn : M.xn ≤ 100
 en : M.en ≤ 50
 dn : M.dn ≤ 50
 t : ∀ i,i < M.tn → (M.t i).a.length ≤ 1000 ∧ (M.t i).b.length ≤ 1000
 im : ∀ i,i < M.imn → (M.im i).s0.size ≤ 1000 ∧ (M.im i).s1.size ≤ 1000
 x : ∀ i,i < M.xn → (M.x i).s.size ≤ 1000
 f : ∀ i,i < M.fn → 0 ≤ wg (M.f i).f 0 3000 ∧ (M.f i).l.length ≤ 60000
 g : ∀ i,i < M.gn → 0 ≤ wg (M.g i).f 0 3000
 e : ∀ i,i < M.en → 0 ≤ wg (M.e i).f 0 3000 ∧ (M.e i).ng ≤ 100
 ek : ∀ i,i < M.en → ∀ k,k < (M.e i).ng → 0 ≤ wg ((M.e i).g k) 0 3000
 d : ∀ i,i < M.dn → 0 ≤ wg (M.d i).f 0 3000 ∧ (M.d i).b.length ≤ 100000
section
variable {M : MD} {w : World}
end
section
variable {M : MD} {w : World}
end
end Go.Proofs.YtjgeedgphcjhoaaGreat
