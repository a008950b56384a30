/-
  CMod2: merged, what the law does not reach left out (each text says what it holds where it lies in wip). No condition.
-/
import Derived.Test.YtjgeedgphcjhoaaGreatT29
import Derived.Test.YtjgeedgphcjhoaaGreatT30
import Derived.Test.YtjgeedgphcjhoaaGreatT24
import Derived.Test.YtjgeedgphcjhoaaGreatT01
set_option linter.unusedSimpArgs false
set_option linter.unusedVariables false
set_option maxRecDepth 100000
namespace Go.Proofs.YtjgeedgphcjhoaaGreat
open Go.RowKit
section
variable {A : MD} {B : Nat} {W : World}
theorem cpL_t (hA : A.ok B W) (hf : FitM A) (hB : B ≤ W.heap.size) : Calls Tryz.prog 60 #[.slice A.tp A.tn A.tc,.func (.func 61) #[] #[]] W fun e w' => ∃ q : Sl,e = .returned (.slice q.1 q.2.1 q.2.2) ∧ CL A.tn 2 ETyp.cs (fun i s e W => RT (A.t i) s e W) W.heap.size q w' ∧ Below W.heap.size W w' := by
 refine (cp_ft 61 (fun _ _ => rfl) (fun i s q0 q1 W => LP s W (.slice q0.1 q0.2.1 q0.2.2) (A.t i).a ∧ LP s W (.slice q1.1 q1.2.1 q1.2.2) (A.t i).b) (fun j s s' q0 q1 W hs h => ⟨h.1.mono hs,h.2.mono hs⟩) (fun j s q0 q1 W W' hu h => ⟨h.1.up hu,h.2.up hu⟩) A.tn A.tc A.tg A.tw A.tp (fun i => (A.t i).pa) (fun i => (A.t i).a.length) (fun i => (A.t i).ca) (fun i => (A.t i).pb) (fun i => (A.t i).b.length) (fun i => (A.t i).cb) W (by have := hf.tn; omega) (fun h => ⟨(hA.tr.2.1 h).1,Nat.lt_of_lt_of_le (hA.tr.2.1 h).2 hB⟩) (fun i hi => ⟨hA.tr.get hi 0 rfl,hA.tr.get hi 1 rfl⟩) (fun i hi W2 h => cpy_t ((hA.tz i hi).below (h.mono hB)) (Nat.le_trans hB h.size) (hf.t i hi).1 (hf.t i hi).2)).mono ?_
 rintro e w' ⟨⟨p,c,b,rfl,hp,hall⟩,hb⟩
 refine ⟨(p,A.tn,c),rfl,CL.of ⟨[],none,0,[],none,0⟩ (fun h => ⟨(hp h).1,(hp h).2.1⟩) (fun i hi => ?_),hb⟩
 obtain ⟨⟨a0,b0,c0⟩,⟨a1,b1,c1⟩,hc,h1,h2⟩ := hall i hi
 obtain rfl : b0 = (A.t i).a.length := by obtain ⟨_,_,e,_⟩ := h1; exact (Value.slice.inj e).2.1
 obtain rfl : b1 = (A.t i).b.length := by obtain ⟨_,_,e,_⟩ := h2; exact (Value.slice.inj e).2.1
 exact ⟨⟨(A.t i).a,a0,c0,(A.t i).b,a1,c1⟩,hc,⟨rfl,rfl⟩,h1,h2⟩
theorem cpL_f (hA : A.ok B W) (hf : FitM A) (hB : B ≤ W.heap.size) : Calls Tryz.prog 64 #[.slice A.fp A.fn A.fc,.func (.func 65) #[] #[]] W fun e w' => ∃ q : Sl,e = .returned (.slice q.1 q.2.1 q.2.2) ∧ CL A.fn 3 EFun.cs (fun i s e W => RFn (A.f i) s e W) W.heap.size q w' ∧ Below W.heap.size W w' := by
 refine (cp_code 65 (fun _ _ => rfl) (fun i s q0 q1 W => LP s W (.slice q0.1 q0.2.1 q0.2.2) (A.f i).l ∧ SP s W (.slice q1.1 q1.2.1 q1.2.2) (A.f i).f) (fun j s s' q0 q1 W hs h => ⟨h.1.mono hs,h.2.mono hs⟩) (fun j s q0 q1 W W' hu h => ⟨h.1.up hu,h.2.up hu⟩) A.fn A.fc A.fg A.fw A.fp (fun i => (A.f i).ty) (fun i => (A.f i).pl) (fun i => (A.f i).l.length) (fun i => (A.f i).cl) (fun i => (A.f i).pf) (fun i => (A.f i).f.len) (fun i => (A.f i).cf) W (by have := hf.fn; omega) (fun h => ⟨(hA.fr.2.1 h).1,Nat.lt_of_lt_of_le (hA.fr.2.1 h).2 hB⟩) (fun i hi => ⟨hA.fr.get hi 0 rfl,hA.fr.get hi 1 rfl,hA.fr.get hi 2 rfl⟩) (fun i hi W2 h => cpy_f ((hA.fz i hi).below (h.mono hB)) (Nat.le_trans hB h.size) (hf.f i hi).1 (hf.f i hi).2)).mono ?_
 rintro e w' ⟨⟨p,c,b,rfl,hp,hall⟩,hb⟩
 refine ⟨(p,A.fn,c),rfl,CL.of ⟨0,[],none,0,.nil,none,0⟩ (fun h => ⟨(hp h).1,(hp h).2.1⟩) (fun i hi => ?_),hb⟩
 obtain ⟨⟨a0,b0,c0⟩,⟨a1,b1,c1⟩,hc,h1,h2⟩ := hall i hi
 obtain rfl : b0 = (A.f i).l.length := by obtain ⟨_,_,e,_⟩ := h1; exact (Value.slice.inj e).2.1
 obtain rfl : b1 = (A.f i).f.len := by obtain ⟨_,_,_,_,e,_⟩ := h2; exact (Value.slice.inj e).2.1
 exact ⟨⟨(A.f i).ty,(A.f i).l,a0,c0,(A.f i).f,a1,c1⟩,hc,⟨rfl,rfl,rfl⟩,h1,h2⟩
theorem cpL_g (hA : A.ok B W) (hf : FitM A) (hB : B ≤ W.heap.size) : Calls Tryz.prog 70 #[.slice A.gp A.gn A.gc,.func (.func 71) #[] #[]] W fun e w' => ∃ q : Sl,e = .returned (.slice q.1 q.2.1 q.2.2) ∧ CL A.gn 3 EGlo.cs (fun i s e W => RG (A.g i) s e W) W.heap.size q w' ∧ Below W.heap.size W w' := by
 refine (cp_var 71 (fun _ _ => rfl) (fun i s q1 W => SP s W (.slice q1.1 q1.2.1 q1.2.2) (A.g i).f) (fun j s s' q1 W hs h => h.mono hs) (fun j s q1 W W' hu h => h.up hu) A.gn A.gc A.gg A.gw A.gp (fun i => (A.g i).t) (fun i => (A.g i).m) (fun i => (A.g i).pf) (fun i => (A.g i).f.len) (fun i => (A.g i).cf) W (by have := hf.gn; omega) (fun h => ⟨(hA.gr.2.1 h).1,Nat.lt_of_lt_of_le (hA.gr.2.1 h).2 hB⟩) (fun i hi => ⟨hA.gr.get hi 0 rfl,hA.gr.get hi 1 rfl,hA.gr.get hi 2 rfl⟩) (fun i hi W2 h => cpy_g ((hA.gz i hi).below (h.mono hB)) (Nat.le_trans hB h.size) (hf.g i hi))).mono ?_
 rintro e w' ⟨⟨p,c,b,rfl,hp,hall⟩,hb⟩
 refine ⟨(p,A.gn,c),rfl,CL.of ⟨0,false,.nil,none,0⟩ (fun h => ⟨(hp h).1,(hp h).2.1⟩) (fun i hi => ?_),hb⟩
 obtain ⟨⟨a1,b1,c1⟩,hc,h2⟩ := hall i hi
 obtain rfl : b1 = (A.g i).f.len := by obtain ⟨_,_,_,_,e,_⟩ := h2; exact (Value.slice.inj e).2.1
 exact ⟨⟨(A.g i).t,(A.g i).m,(A.g i).f,a1,c1⟩,hc,⟨rfl,rfl,rfl⟩,h2⟩
theorem cpL_e (hA : A.ok B W) (hf : FitM A) (hB : B ≤ W.heap.size) : Calls Tryz.prog 74 #[.slice A.ep A.en A.ec,.func (.func 75) #[] #[]] W fun e w' => ∃ q : Sl,e = .returned (.slice q.1 q.2.1 q.2.2) ∧ CL A.en 5 EElm.cs (fun i s e W => RE (A.e i) s e W) W.heap.size q w' ∧ Below W.heap.size W w' := by
 refine (cp_elem 75 (fun _ _ => rfl) (fun i s q0 q1 W => SP s W (.slice q0.1 q0.2.1 q0.2.2) (A.e i).f ∧ XK (A.e i) s q1 W) (fun j s s' q0 q1 W hs h => ⟨h.1.mono hs,by obtain ⟨_,e,a,b,c,d⟩ := h; exact ⟨e,a,b,c,d.mono hs⟩⟩) (fun j s q0 q1 W W' hu h => ⟨h.1.up hu,by obtain ⟨_,e,a,b,c,d⟩ := h; exact ⟨e,a,b,c,d.up hu⟩⟩) A.en A.ec A.eg A.ew A.ep (fun i => (A.e i).r) (fun i => (A.e i).m) (fun i => (A.e i).t) (fun i => (A.e i).pf) (fun i => (A.e i).f.len) (fun i => (A.e i).cf) (fun i => (A.e i).pg) (fun i => (A.e i).ng) (fun i => (A.e i).cg) W (by have := hf.en; omega) (fun h => ⟨(hA.er.2.1 h).1,Nat.lt_of_lt_of_le (hA.er.2.1 h).2 hB⟩) (fun i hi => ⟨hA.er.get hi 0 rfl,hA.er.get hi 1 rfl,hA.er.get hi 2 rfl,hA.er.get hi 3 rfl,hA.er.get hi 4 rfl⟩) (fun i hi W2 h => cpy_e ((hA.ez i hi).below (h.mono hB)) (Nat.le_trans hB h.size) (hf.e i hi).1 (hf.e i hi).2 (hf.ek i hi))).mono ?_
 rintro e w' ⟨⟨p,c,b,rfl,hp,hall⟩,hb⟩
 refine ⟨(p,A.en,c),rfl,CL.of ⟨0,0,0,.nil,none,0,0,none,0,0,0,fun _ => .nil,fun _ => none,fun _ => 0⟩ (fun h => ⟨(hp h).1,(hp h).2.1⟩) (fun i hi => ?_),hb⟩
 obtain ⟨⟨a0,b0,c0⟩,q1,hc,h1,⟨x,rfl,hx1,hx2,hx3⟩⟩ := hall i hi
 obtain rfl : b0 = (A.e i).f.len := by obtain ⟨_,_,_,_,e,_⟩ := h1; exact (Value.slice.inj e).2.1
 exact ⟨⟨(A.e i).r,(A.e i).m,(A.e i).t,(A.e i).f,a0,c0,x.ng,x.pg,x.cg,x.bg,x.og,x.g,x.qg,x.dg⟩,hc,⟨rfl,rfl,rfl,rfl,hx1,hx2⟩,h1,hx3⟩
theorem cpL_d (hA : A.ok B W) (hf : FitM A) (hB : B ≤ W.heap.size) : Calls Tryz.prog 76 #[.slice A.dp A.dn A.dc,.func (.func 77) #[] #[]] W fun e w' => ∃ q : Sl,e = .returned (.slice q.1 q.2.1 q.2.2) ∧ CL A.dn 4 EDat.cs (fun i s e W => RD (A.d i) s e W) W.heap.size q w' ∧ Below W.heap.size W w' := by
 refine (cp_data 77 (fun _ _ => rfl) (fun i s q0 q1 W => SP s W (.slice q0.1 q0.2.1 q0.2.2) (A.d i).f ∧ q1.2.1 = (A.d i).b.length ∧ YP s W q1.1 (A.d i).b) (fun j s s' q0 q1 W hs h => ⟨h.1.mono hs,h.2.1,h.2.2.mono hs⟩) (fun j s q0 q1 W W' hu h => ⟨h.1.up hu,h.2.1,h.2.2.up hu⟩) A.dn A.dc A.dg A.dw A.dp (fun i => (A.d i).m) (fun i => (A.d i).t) (fun i => (A.d i).pf) (fun i => (A.d i).f.len) (fun i => (A.d i).cf) (fun i => (A.d i).pb) (fun i => (A.d i).b.length) (fun i => (A.d i).cb) W (by have := hf.dn; omega) (fun h => ⟨(hA.dr.2.1 h).1,Nat.lt_of_lt_of_le (hA.dr.2.1 h).2 hB⟩) (fun i hi => ⟨hA.dr.get hi 0 rfl,hA.dr.get hi 1 rfl,hA.dr.get hi 2 rfl,hA.dr.get hi 3 rfl⟩) (fun i hi W2 h => cpy_d ((hA.dz i hi).below (h.mono hB)) (Nat.le_trans hB h.size) (hf.d i hi).1 (hf.d i hi).2)).mono ?_
 rintro e w' ⟨⟨p,c,b,rfl,hp,hall⟩,hb⟩
 refine ⟨(p,A.dn,c),rfl,CL.of ⟨0,0,.nil,none,0,[],none,0⟩ (fun h => ⟨(hp h).1,(hp h).2.1⟩) (fun i hi => ?_),hb⟩
 obtain ⟨⟨a0,b0,c0⟩,⟨a1,b1,c1⟩,hc,h1,h2,h3⟩ := hall i hi
 obtain rfl : b0 = (A.d i).f.len := by obtain ⟨_,_,_,_,e,_⟩ := h1; exact (Value.slice.inj e).2.1
 obtain rfl : b1 = (A.d i).b.length := h2
 exact ⟨⟨(A.d i).m,(A.d i).t,(A.d i).f,a0,c0,(A.d i).b,a1,c1⟩,hc,⟨rfl,rfl,rfl,rfl⟩,h1,h3⟩
theorem cpL_im (hA : A.ok B W) (hf : FitM A) (hB : B ≤ W.heap.size) : Calls Tryz.prog 62 #[.slice A.imp A.imn A.imc,.func (.func 63) #[] #[]] W fun e w' => ∃ q : Sl,e = .returned (.slice q.1 q.2.1 q.2.2) ∧ CL A.imn 13 EImp.cs (fun i s e W => e = A.im i) W.heap.size q w' ∧ Below W.heap.size W w' := by
 refine (cp_imp 63 (fun _ _ => rfl) A.imn A.imc A.img A.imw A.imp (fun i => (A.im i).s0) (fun i => (A.im i).s1) (fun i => (A.im i).kd) (fun i => (A.im i).ty) (fun i => (A.im i).tr) (fun i => (A.im i).tmn) (fun i => (A.im i).tmx) (fun i => (A.im i).th) (fun i => (A.im i).mmn) (fun i => (A.im i).mmx) (fun i => (A.im i).mh) (fun i => (A.im i).gt) (fun i => (A.im i).gm) W (by have := hf.imn; omega) (fun h => ⟨(hA.imr.2.1 h).1,Nat.lt_of_lt_of_le (hA.imr.2.1 h).2 hB⟩) (fun i hi => ⟨hA.imr.get hi 0 rfl,hA.imr.get hi 1 rfl,hA.imr.get hi 2 rfl,hA.imr.get hi 3 rfl,hA.imr.get hi 4 rfl,hA.imr.get hi 5 rfl,hA.imr.get hi 6 rfl,hA.imr.get hi 7 rfl,hA.imr.get hi 8 rfl,hA.imr.get hi 9 rfl,hA.imr.get hi 10 rfl,hA.imr.get hi 11 rfl,hA.imr.get hi 12 rfl⟩) (fun i hi W2 h => itself_im (A.im i) W2)).mono ?_
 rintro e w' ⟨⟨p,c,b,rfl,hp,hall⟩,hb⟩
 exact ⟨(p,A.imn,c),rfl,CL.of (A.im 0) (fun h => ⟨(hp h).1,(hp h).2.1⟩) (fun i hi => ⟨A.im i,hall i hi,rfl⟩),hb⟩
theorem cpL_tb (hA : A.ok B W) (hf : FitM A) (hB : B ≤ W.heap.size) : Calls Tryz.prog 66 #[.slice A.tbp A.tbn A.tbc,.func (.func 67) #[] #[]] W fun e w' => ∃ q : Sl,e = .returned (.slice q.1 q.2.1 q.2.2) ∧ CL A.tbn 4 ETab.cs (fun i s e W => e = A.tb i) W.heap.size q w' ∧ Below W.heap.size W w' := by
 refine (cp_tab 67 (fun _ _ => rfl) A.tbn A.tbc A.tbg A.tbw A.tbp (fun i => (A.tb i).r) (fun i => (A.tb i).mn) (fun i => (A.tb i).mx) (fun i => (A.tb i).h) W (by have := hf.tbn; omega) (fun h => ⟨(hA.tbr.2.1 h).1,Nat.lt_of_lt_of_le (hA.tbr.2.1 h).2 hB⟩) (fun i hi => ⟨hA.tbr.get hi 0 rfl,hA.tbr.get hi 1 rfl,hA.tbr.get hi 2 rfl,hA.tbr.get hi 3 rfl⟩) (fun i hi W2 h => itself_tb (A.tb i) W2)).mono ?_
 rintro e w' ⟨⟨p,c,b,rfl,hp,hall⟩,hb⟩
 exact ⟨(p,A.tbn,c),rfl,CL.of (A.tb 0) (fun h => ⟨(hp h).1,(hp h).2.1⟩) (fun i hi => ⟨A.tb i,hall i hi,rfl⟩),hb⟩
theorem cpL_m (hA : A.ok B W) (hf : FitM A) (hB : B ≤ W.heap.size) : Calls Tryz.prog 68 #[.slice A.mp A.mn A.mc,.func (.func 69) #[] #[]] W fun e w' => ∃ q : Sl,e = .returned (.slice q.1 q.2.1 q.2.2) ∧ CL A.mn 3 ELim.cs (fun i s e W => e = A.m i) W.heap.size q w' ∧ Below W.heap.size W w' := by
 refine (cp_lim 69 (fun _ _ => rfl) A.mn A.mc A.mg A.mw A.mp (fun i => (A.m i).mn) (fun i => (A.m i).mx) (fun i => (A.m i).h) W (by have := hf.mn; omega) (fun h => ⟨(hA.mr.2.1 h).1,Nat.lt_of_lt_of_le (hA.mr.2.1 h).2 hB⟩) (fun i hi => ⟨hA.mr.get hi 0 rfl,hA.mr.get hi 1 rfl,hA.mr.get hi 2 rfl⟩) (fun i hi W2 h => itself_m (A.m i) W2)).mono ?_
 rintro e w' ⟨⟨p,c,b,rfl,hp,hall⟩,hb⟩
 exact ⟨(p,A.mn,c),rfl,CL.of (A.m 0) (fun h => ⟨(hp h).1,(hp h).2.1⟩) (fun i hi => ⟨A.m i,hall i hi,rfl⟩),hb⟩
theorem cpL_x (hA : A.ok B W) (hf : FitM A) (hB : B ≤ W.heap.size) : Calls Tryz.prog 72 #[.slice A.xp A.xn A.xc,.func (.func 73) #[] #[]] W fun e w' => ∃ q : Sl,e = .returned (.slice q.1 q.2.1 q.2.2) ∧ CL A.xn 3 EExp.cs (fun i s e W => e = A.x i) W.heap.size q w' ∧ Below W.heap.size W w' := by
 refine (cp_exp 73 (fun _ _ => rfl) A.xn A.xc A.xg A.xw A.xp (fun i => (A.x i).s) (fun i => (A.x i).k) (fun i => (A.x i).ix) W (by have := hf.xn; omega) (fun h => ⟨(hA.xr.2.1 h).1,Nat.lt_of_lt_of_le (hA.xr.2.1 h).2 hB⟩) (fun i hi => ⟨hA.xr.get hi 0 rfl,hA.xr.get hi 1 rfl,hA.xr.get hi 2 rfl⟩) (fun i hi W2 h => itself_x (A.x i) W2)).mono ?_
 rintro e w' ⟨⟨p,c,b,rfl,hp,hall⟩,hb⟩
 exact ⟨(p,A.xn,c),rfl,CL.of (A.x 0) (fun h => ⟨(hp h).1,(hp h).2.1⟩) (fun i hi => ⟨A.x i,hall i hi,rfl⟩),hb⟩
def CpM (A : MD) (s : Nat) (W : World) (v : Value) : Prop := ∃ qt qim qf qtb qm qg qx qe qd : Sl,v = .agg #[.slice qt.1 qt.2.1 qt.2.2,.slice qim.1 qim.2.1 qim.2.2,.slice qf.1 qf.2.1 qf.2.2,.slice qtb.1 qtb.2.1 qtb.2.2,.slice qm.1 qm.2.1 qm.2.2,.slice qg.1 qg.2.1 qg.2.2,.slice qx.1 qx.2.1 qx.2.2,.int .i64 A.st,.slice qe.1 qe.2.1 qe.2.2,.slice qd.1 qd.2.1 qd.2.2,.bool A.cnt] ∧ CL A.tn 2 ETyp.cs (fun i s e W => RT (A.t i) s e W) s qt W ∧ CL A.imn 13 EImp.cs (fun i s e W => e = A.im i) s qim W ∧ CL A.fn 3 EFun.cs (fun i s e W => RFn (A.f i) s e W) s qf W ∧ CL A.tbn 4 ETab.cs (fun i s e W => e = A.tb i) s qtb W ∧ CL A.mn 3 ELim.cs (fun i s e W => e = A.m i) s qm W ∧ CL A.gn 3 EGlo.cs (fun i s e W => RG (A.g i) s e W) s qg W ∧ CL A.xn 3 EExp.cs (fun i s e W => e = A.x i) s qx W ∧ CL A.en 5 EElm.cs (fun i s e W => RE (A.e i) s e W) s qe W ∧ CL A.dn 4 EDat.cs (fun i s e W => RD (A.d i) s e W) s qd W
theorem Copy_P (hA : A.ok B W) (hf : FitM A) (hB : B ≤ W.heap.size) : Calls Tryz.prog 18 #[A.val] W fun e w' => ∃ v,e = .returned v ∧ CpM A W.heap.size w' v ∧ Below W.heap.size W w' := by
 refine (cpModule (CL A.tn 2 ETyp.cs (fun i s e W => RT (A.t i) s e W)) (CL.mono (fun i s s' e W hs h => RT.mono (A.t i) s s' e W hs h)) (CL.up (fun i s e W W' hu h => RT.up (A.t i) s e W W' hu h)) (CL A.imn 13 EImp.cs (fun i s e W => e = A.im i)) (CL.mono (fun i s s' e W hs h => h)) (CL.up (fun i s e W W' hu h => h)) (CL A.fn 3 EFun.cs (fun i s e W => RFn (A.f i) s e W)) (CL.mono (fun i s s' e W hs h => RFn.mono (A.f i) s s' e W hs h)) (CL.up (fun i s e W W' hu h => RFn.up (A.f i) s e W W' hu h)) (CL A.tbn 4 ETab.cs (fun i s e W => e = A.tb i)) (CL.mono (fun i s s' e W hs h => h)) (CL.up (fun i s e W W' hu h => h)) (CL A.mn 3 ELim.cs (fun i s e W => e = A.m i)) (CL.mono (fun i s s' e W hs h => h)) (CL.up (fun i s e W W' hu h => h)) (CL A.gn 3 EGlo.cs (fun i s e W => RG (A.g i) s e W)) (CL.mono (fun i s s' e W hs h => RG.mono (A.g i) s s' e W hs h)) (CL.up (fun i s e W W' hu h => RG.up (A.g i) s e W W' hu h)) (CL A.xn 3 EExp.cs (fun i s e W => e = A.x i)) (CL.mono (fun i s s' e W hs h => h)) (CL.up (fun i s e W W' hu h => h)) (CL A.en 5 EElm.cs (fun i s e W => RE (A.e i) s e W)) (CL.mono (fun i s s' e W hs h => RE.mono (A.e i) s s' e W hs h)) (CL.up (fun i s e W W' hu h => RE.up (A.e i) s e W W' hu h)) (CL A.dn 4 EDat.cs (fun i s e W => RD (A.d i) s e W)) (CL.mono (fun i s s' e W hs h => RD.mono (A.d i) s s' e W hs h)) (CL.up (fun i s e W W' hu h => RD.up (A.d i) s e W W' hu h)) A.tp A.tn A.tc A.imp A.imn A.imc A.fp A.fn A.fc A.tbp A.tbn A.tbc A.mp A.mn A.mc A.gp A.gn A.gc A.xp A.xn A.xc A.st A.ep A.en A.ec A.dp A.dn A.dc A.cnt W (fun W2 h => cpL_t (hA.below (h.mono hB)) hf (Nat.le_trans hB h.size)) (fun W2 h => cpL_im (hA.below (h.mono hB)) hf (Nat.le_trans hB h.size)) (fun W2 h => cpL_f (hA.below (h.mono hB)) hf (Nat.le_trans hB h.size)) (fun W2 h => cpL_tb (hA.below (h.mono hB)) hf (Nat.le_trans hB h.size)) (fun W2 h => cpL_m (hA.below (h.mono hB)) hf (Nat.le_trans hB h.size)) (fun W2 h => cpL_g (hA.below (h.mono hB)) hf (Nat.le_trans hB h.size)) (fun W2 h => cpL_x (hA.below (h.mono hB)) hf (Nat.le_trans hB h.size)) (fun W2 h => cpL_e (hA.below (h.mono hB)) hf (Nat.le_trans hB h.size)) (fun W2 h => cpL_d (hA.below (h.mono hB)) hf (Nat.le_trans hB h.size))).mono ?_
 rintro e w' ⟨qt,qim,qf,qtb,qm,qg,qx,qe,qd,rfl,ht,him,hf,htb,hm,hg,hx,he,hd,hb⟩
 exact ⟨_,rfl,⟨qt,qim,qf,qtb,qm,qg,qx,qe,qd,rfl,ht,him,hf,htb,hm,hg,hx,he,hd⟩,hb⟩
end
theorem CL.row {E : Type} {n N : Nat} {cs : E → List Value} {R : Nat → Nat → E → World → Prop} {s : Nat} {q : Sl} {W : World} (h : CL n N cs R s q W) (hn : n < 9223372036854775807) (hc : ∀ e,∃ v,(cs e)[0]? = some v) : q.2.1 = n ∧ ∃ (b : Nat) (T : Nat → E),RowM W.heap.size W q.1 n b 0 N (fun i => cs (T i)) ∧ ∀ i,i < n → R i s (T i) W := by
 obtain ⟨h1,b,T,h2,h3⟩ := h
 refine ⟨h1,b,T,⟨hn,fun h0 => ⟨(h2 h0).1,?_⟩,fun i hi k v hk => by rw [Nat.zero_add]; exact (h3 i hi).1 k v hk⟩,fun i hi => (h3 i hi).2⟩
 obtain ⟨v,hv⟩ := hc (T 0)
 exact cell_in ((h3 0 (by omega)).1 0 v hv)
theorem LO.ofLP {B s : Nat} {w W : World} {p p2 : Option Addr} {c c2 : Nat} {l l2 : List Int} (h : LO B w p c l) (e : l2 = l) (h2 : LP s W (.slice p2 l2.length c2) l2) : LO W.heap.size W p2 c2 l2 := by
 subst e
 exact ⟨h2.li,h.2⟩
theorem CO.ofSP {B s : Nat} {w W : World} {p p2 : Option Addr} {c c2 : Nat} {f f2 : Fo} (h : CO B w p c f) (e : f2 = f) (h2 : SP s W (.slice p2 f2.len c2) f2) : CO W.heap.size W p2 c2 f2 := by
 subst e
 exact ⟨h2.sa,h.2⟩
theorem CpM.md {A : MD} {B s : Nat} {w W : World} {v : Value} (hA : A.ok B w) (h : CpM A s W v) : ∃ C : MD,v = C.val ∧ C.ok W.heap.size W ∧ A.eq C = true := by
 obtain ⟨qt,qim,qf,qtb,qm,qg,qx,qe,qd,rfl,ht,him,hf,htb,hm,hg,hx,he,hd⟩ := h
 obtain ⟨lt,bt,Tt,rt,et⟩ := ht.row hA.tr.1 (fun e => ⟨_,rfl⟩)
 obtain ⟨pt,_,ct⟩ := qt
 dsimp only at lt rt
 subst lt
 obtain ⟨lim,bim,Tim,rim,eim⟩ := him.row hA.imr.1 (fun e => ⟨_,rfl⟩)
 obtain ⟨pim,_,cim⟩ := qim
 dsimp only at lim rim
 subst lim
 obtain ⟨lf,bf,Tf,rf,ef⟩ := hf.row hA.fr.1 (fun e => ⟨_,rfl⟩)
 obtain ⟨pf,_,cf⟩ := qf
 dsimp only at lf rf
 subst lf
 obtain ⟨ltb,btb,Ttb,rtb,etb⟩ := htb.row hA.tbr.1 (fun e => ⟨_,rfl⟩)
 obtain ⟨ptb,_,ctb⟩ := qtb
 dsimp only at ltb rtb
 subst ltb
 obtain ⟨lm,bm,Tm,rm,em⟩ := hm.row hA.mr.1 (fun e => ⟨_,rfl⟩)
 obtain ⟨pm,_,cm⟩ := qm
 dsimp only at lm rm
 subst lm
 obtain ⟨lg,bg,Tg,rg,eg⟩ := hg.row hA.gr.1 (fun e => ⟨_,rfl⟩)
 obtain ⟨pg,_,cg⟩ := qg
 dsimp only at lg rg
 subst lg
 obtain ⟨lx,bx,Tx,rx,ex⟩ := hx.row hA.xr.1 (fun e => ⟨_,rfl⟩)
 obtain ⟨px,_,cx⟩ := qx
 dsimp only at lx rx
 subst lx
 obtain ⟨le,be,Te,re,ee⟩ := he.row hA.er.1 (fun e => ⟨_,rfl⟩)
 obtain ⟨pe,_,ce⟩ := qe
 dsimp only at le re
 subst le
 obtain ⟨ld,bd,Td,rd,ed⟩ := hd.row hA.dr.1 (fun e => ⟨_,rfl⟩)
 obtain ⟨pd,_,cd⟩ := qd
 dsimp only at ld rd
 subst ld
 refine ⟨⟨pt,A.tn,ct,bt,0,Tt,pim,A.imn,cim,bim,0,Tim,pf,A.fn,cf,bf,0,Tf,ptb,A.tbn,ctb,btb,0,Ttb,pm,A.mn,cm,bm,0,Tm,pg,A.gn,cg,bg,0,Tg,px,A.xn,cx,bx,0,Tx,pe,A.en,ce,be,0,Te,pd,A.dn,cd,bd,0,Td,A.st,A.cnt⟩,rfl,⟨rt,fun i hi => ?_,rim,fun i hi => ?_,rf,fun i hi => ?_,rtb,fun i hi => ?_,rm,fun i hi => ?_,rg,fun i hi => ?_,rx,fun i hi => ?_,re,fun i hi => ?_,rd,fun i hi => ?_,hA.stk⟩,?_⟩
 ·exact ⟨(hA.tz i hi).h0.ofLP (et i hi).1.1 (et i hi).2.1,(hA.tz i hi).h1.ofLP (et i hi).1.2 (et i hi).2.2⟩
 ·have := eim i hi; dsimp only at this ⊢; rw [this]; have h := hA.imz i hi; exact ⟨h.h0,h.h1,h.h2,h.h3,h.h4,h.h5,h.h6,h.h7,h.h8,h.h9⟩
 ·have := ef i hi; have h := hA.fz i hi; exact ⟨by dsimp only; rw [this.1.1]; exact h.h0,h.h1.ofLP this.1.2.1 this.2.1,h.h2.ofSP this.1.2.2 this.2.2⟩
 ·have := etb i hi; dsimp only at this ⊢; rw [this]; have h := hA.tbz i hi; exact ⟨h.h0,h.h1,h.h2⟩
 ·have := em i hi; dsimp only at this ⊢; rw [this]; have h := hA.mz i hi; exact ⟨h.h0,h.h1⟩
 ·have := eg i hi; have h := hA.gz i hi; exact ⟨by dsimp only; rw [this.1.1]; exact h.h0,h.h1.ofSP this.1.2.2 this.2⟩
 ·have := ex i hi; dsimp only at this ⊢; rw [this]; have h := hA.xz i hi; exact ⟨h.h0,h.h1,h.h2⟩
 ·have := ee i hi
  have h := hA.ez i hi
  obtain ⟨⟨a1,a2,a3,a4,a5,a6⟩,s1,k1,k2⟩ := this
  refine ⟨by dsimp only; rw [a1]; exact h.h0,by dsimp only; rw [a2]; exact h.h1,by dsimp only; rw [a3]; exact h.h2,h.h3.ofSP a4 s1,⟨⟨by rw [a5]; exact h.h4.1.1,fun h0 => ⟨(k1 h0).1,?_⟩,fun i2 hi2 k v hk => ?_⟩,fun k hk => (h.h4.2 k (by rw [← a5]; exact hk)).ofSP (a6 k hk) (k2 k hk).2⟩⟩
  ·exact cell_in (k2 0 (Nat.pos_of_ne_zero h0)).1
  ·have hk0 : k < 1 := (List.getElem?_eq_some_iff.1 hk).1
   obtain rfl : k = 0 := by omega
   have := (k2 i2 hi2).1
   obtain rfl : _ = v := by simpa using hk
   rw [Nat.mul_one]
   exact this
 ·have := ed i hi
  have h := hA.dz i hi
  obtain ⟨⟨a1,a2,a3,a4⟩,s1,y1⟩ := this
  refine ⟨by dsimp only; rw [a1]; exact h.h0,by dsimp only; rw [a2]; exact h.h1,h.h2.ofSP a3 s1,⟨by rw [a4]; exact h.h3.1,fun hne => ?_⟩⟩
  obtain ⟨g,o,e1,hg,hc⟩ := y1 hne
  refine ⟨g,o,e1,?_,hc⟩
  have hpos := List.length_pos_iff.2 hne
  exact cell_in (hc 0 _ (List.getElem?_eq_getElem hpos))
 ·simp only [MD.eq]
  have zt := @eqL_refl A.tn (fun i => (A.t i).eq (Tt i)) (fun i hi => by have := (et i hi).1; simp only [ETyp.eq]; rw [this.1,this.2]; simp)
  have zim := @eqL_refl A.imn (fun i => (A.im i).eq (Tim i)) (fun i hi => by have := eim i hi; rw [this]; exact EImp.eq_refl _)
  have zf := @eqL_refl A.fn (fun i => (A.f i).eq (Tf i)) (fun i hi => by have := (ef i hi).1; simp only [EFun.eq]; rw [this.1,this.2.1,this.2.2]; simp [Fo.beq_refl])
  have ztb := @eqL_refl A.tbn (fun i => (A.tb i).eq (Ttb i)) (fun i hi => by have := etb i hi; rw [this]; exact ETab.eq_refl _)
  have zm := @eqL_refl A.mn (fun i => (A.m i).eq (Tm i)) (fun i hi => by have := em i hi; rw [this]; exact ELim.eq_refl _)
  have zg := @eqL_refl A.gn (fun i => (A.g i).eq (Tg i)) (fun i hi => by have := (eg i hi).1; simp only [EGlo.eq]; rw [this.1,this.2.1,this.2.2]; simp [Fo.beq_refl])
  have zx := @eqL_refl A.xn (fun i => (A.x i).eq (Tx i)) (fun i hi => by have := ex i hi; rw [this]; exact EExp.eq_refl _)
  have ze := @eqL_refl A.en (fun i => (A.e i).eq (Te i)) (fun i hi => by obtain ⟨a1,a2,a3,a4,a5,a6⟩ := (ee i hi).1; simp only [EElm.eq]; rw [a1,a2,a3,a4,a5,eqL_refl (fun k hk => by rw [a6 k (by rw [a5]; exact hk)]; exact Fo.beq_refl _)]; simp [Fo.beq_refl])
  have zd := @eqL_refl A.dn (fun i => (A.d i).eq (Td i)) (fun i hi => by have := (ed i hi).1; simp only [EDat.eq]; rw [this.1,this.2.1,this.2.2.1,this.2.2.2]; simp [Fo.beq_refl])
  rw [zt,zim,zf,ztb,zm,zg,zx,ze,zd]
  simp
theorem Copy_M {A : MD} {B : Nat} {W : World} (hA : A.ok B W) (hf : FitM A) (hB : B ≤ W.heap.size) : Calls Tryz.prog 18 #[A.val] W fun e w' => ∃ C : MD,e = .returned C.val ∧ (C.ok w'.heap.size w' ∧ A.eq C = true) ∧ Below W.heap.size W w' := by
 refine (Copy_P hA hf hB).mono ?_
 rintro e w' ⟨v,rfl,hc,hb⟩
 obtain ⟨C,rfl,h1,h2⟩ := hc.md hA
 exact ⟨C,rfl,⟨h1,h2⟩,hb⟩
end Go.Proofs.YtjgeedgphcjhoaaGreat
