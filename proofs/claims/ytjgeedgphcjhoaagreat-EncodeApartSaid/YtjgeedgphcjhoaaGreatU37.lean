/-
  SRefM, EApL: merged, what the law does not reach left out (each text says what it holds where it lies in wip). No condition.
-/
import Derived.Test.YtjgeedgphcjhoaaGreatU34
import Derived.Test.YtjgeedgphcjhoaaGreatU35
import Derived.Test.YtjgeedgphcjhoaaGreatU36
import Derived.Test.YtjgeedgphcjhoaaGreatU29
import Derived.Test.YtjgeedgphcjhoaaGreatU31
import Derived.Test.YtjgeedgphcjhoaaGreatU32
import Derived.Deep.RegionHeld3
import Derived.Deep.DeepCutAuto
import Derived.BigGuard
import Derived.Test.YtjgeedgphcjhoaaGreatU01
set_option linter.unusedSimpArgs false
set_option linter.unusedVariables false
set_option maxRecDepth 100000
namespace Go.Proofs.YtjgeedgphcjhoaaGreat
open Go.RowKit
section
variable {A C : MD} {B : Nat} {w : World}
theorem conv_Y {p : Option Addr} {c : Nat} {l : List UInt8} (h : YO B w p c l) : (convert 52 9 (.slice p l.length c)).run Tryz.prog w = .ok (.string ⟨l.toArray⟩) w := by
 cases l with
 | nil =>
  cases p with
  | none => 
   rw [show ([] : List UInt8).length = 0 from rfl,run_convert_bytes_string w 52 9 5 none 0 c Tryz.underlying52 Tryz.underlying5 Tryz.underlying9]
   rfl
  | some a =>
   rw [run_convert_bytes_string w 52 9 5 (some a) _ c Tryz.underlying52 Tryz.underlying5 Tryz.underlying9,run_bytesToString w a _ c [] (by rfl)]
   rfl
 | cons a l =>
  obtain ⟨g,o,rfl,hg,hc⟩ := h.2 (by simp)
  rw [run_convert_bytes_arg w 52 5 Tryz.underlying52 Tryz.underlying5 g o (a :: l).length c ((a :: l).map fun b => (b.toNat : Int)) (by simp) (fun i hi => ?_) 9 Tryz.underlying9,strOfNums_bytes]
  rw [hc i (a :: l)[i] (List.getElem?_eq_getElem hi),List.getD_eq_getElem?_getD,List.getElem?_map,List.getElem?_eq_getElem hi]
  rfl
theorem ref_co {p q : Option Addr} {c d : Nat} {f g : Fo} (hf : CO B w p c f) (hg : CO B w q d g) (hB : B ≤ w.heap.size) : Calls Tryz.prog 93 #[.slice p f.len c,.slice q g.len d] w fun e w' => e = .returned (.bool (f.beq g)) ∧ Below w.heap.size w w' :=
 refCode_at f g _ _ B w hf.2.2.1 hf.2.1 hg.2.2.1 hg.2.1 hB hf.1 hg.1
theorem str_eq (a b : List UInt8) : ((⟨a.toArray⟩ : ByteArray) == ⟨b.toArray⟩) = (a == b) := by
 rw [Bool.eq_iff_iff,beq_iff_eq,beq_iff_eq]
 constructor
 ·intro h
  have := congrArg (fun x => x.data.toList) h
  simpa using this
 rintro rfl; rfl
theorem RSsg_M (hA : A.ok B w) (hC : C.ok B w) (hB : B ≤ w.heap.size) (hen : A.en = C.en) (hdn : A.dn = C.dn) : Calls Tryz.prog 94 #[A.val,C.val] w fun e w' => e = .returned (.bool ((List.range A.en).all (fun i => (A.e i).eq (C.e i)) && (List.range A.dn).all (fun i => (A.d i).eq (C.d i)))) ∧ Below w.heap.size w w' := by
 rcases C with ⟨tp,tn,tc,tg,tw,tF,imp,imn,imc,img,imw,imF,fp,fn,fc,fg,fw,fF,tbp,tbn,tbc,tbg,tbw,tbF,mp,mn,mc,mg,mw,mF,gp,gn,gc,gg,gw,gF,xp,xn,xc,xg,xw,xF,ep,en,ec,eg,ew,eF,dp,dn,dc,dg,dw,dF,st,cnt⟩
 dsimp only at hen hdn
 subst hen hdn
 have h := RSsg_says A.tp A.imp A.fp A.tbp A.mp A.gp A.xp A.ep A.dp A.tn A.tc A.imn A.imc A.fn A.fc A.tbn A.tbc A.mn A.mc A.gn A.gc A.xn A.xc A.ec A.dc A.st A.cnt tp imp fp tbp mp gp xp ep dp tn tc imn imc fn fc tbn tbc mn mc gn gc xn xc ec dc st cnt A.en A.dn A.eg A.ew A.dg A.dw (fun i => (A.e i).r) (fun i => (A.e i).m) (fun i => (A.e i).t) (fun i => (A.e i).pf) (fun i => (A.e i).f.len) (fun i => (A.e i).cf) (fun i => (A.e i).pg) (fun i => (A.e i).ng) (fun i => (A.e i).cg) (fun i => (A.e i).bg) (fun i => (A.e i).og) (fun i k => (A.e i).qg k) (fun i k => ((A.e i).g k).len) (fun i k => (A.e i).dg k) (fun i => (A.d i).m) (fun i => (A.d i).t) (fun i => (A.d i).pf) (fun i => (A.d i).f.len) (fun i => (A.d i).cf) (fun i => (A.d i).pb) (fun i => (A.d i).b.length) (fun i => (A.d i).cb) (fun i => ⟨(A.d i).b.toArray⟩) eg ew dg dw (fun i => (eF i).r) (fun i => (eF i).m) (fun i => (eF i).t) (fun i => (eF i).pf) (fun i => (eF i).f.len) (fun i => (eF i).cf) (fun i => (eF i).pg) (fun i => (eF i).ng) (fun i => (eF i).cg) (fun i => (eF i).bg) (fun i => (eF i).og) (fun i k => (eF i).qg k) (fun i k => ((eF i).g k).len) (fun i k => (eF i).dg k) (fun i => (dF i).m) (fun i => (dF i).t) (fun i => (dF i).pf) (fun i => (dF i).f.len) (fun i => (dF i).cf) (fun i => (dF i).pb) (fun i => (dF i).b.length) (fun i => (dF i).cb) (fun i => ⟨(dF i).b.toArray⟩) (fun i => (A.e i).f.beq (eF i).f) (fun i k => ((A.e i).g k).beq ((eF i).g k)) (fun i => (A.d i).f.beq (dF i).f) w hA.er.1 hA.dr.1 (fun h => ⟨(hA.er.2.1 h).1,Nat.lt_of_lt_of_le (hA.er.2.1 h).2 hB⟩) (fun h => ⟨(hA.dr.2.1 h).1,Nat.lt_of_lt_of_le (hA.dr.2.1 h).2 hB⟩) (fun i hi => ⟨hA.er.get hi 0 rfl,hA.er.get hi 1 rfl,hA.er.get hi 2 rfl,hA.er.get hi 3 rfl,hA.er.get hi 4 rfl⟩) (fun i hi h => ⟨((hA.ez i hi).h4.1.2.1 h).1,Nat.lt_of_lt_of_le ((hA.ez i hi).h4.1.2.1 h).2 hB⟩) (fun i hi => (hA.ez i hi).h4.1.1) (fun i hi k hk => by have := (hA.ez i hi).h4.1.2.2 k hk 0 _ rfl; rw [Nat.mul_one] at this; exact this) (fun i hi => ⟨hA.dr.get hi 0 rfl,hA.dr.get hi 1 rfl,hA.dr.get hi 2 rfl,hA.dr.get hi 3 rfl⟩) (fun i hi W h => conv_Y ((hA.dz i hi).h3.below (h.mono hB))) (fun h => ⟨(hC.er.2.1 h).1,Nat.lt_of_lt_of_le (hC.er.2.1 h).2 hB⟩) (fun h => ⟨(hC.dr.2.1 h).1,Nat.lt_of_lt_of_le (hC.dr.2.1 h).2 hB⟩) (fun i hi => ⟨hC.er.get hi 0 rfl,hC.er.get hi 1 rfl,hC.er.get hi 2 rfl,hC.er.get hi 3 rfl,hC.er.get hi 4 rfl⟩) (fun i hi h => ⟨((hC.ez i hi).h4.1.2.1 h).1,Nat.lt_of_lt_of_le ((hC.ez i hi).h4.1.2.1 h).2 hB⟩) (fun i hi => (hC.ez i hi).h4.1.1) (fun i hi k hk => by have := (hC.ez i hi).h4.1.2.2 k hk 0 _ rfl; rw [Nat.mul_one] at this; exact this) (fun i hi => ⟨hC.dr.get hi 0 rfl,hC.dr.get hi 1 rfl,hC.dr.get hi 2 rfl,hC.dr.get hi 3 rfl⟩) (fun i hi W h => conv_Y ((hC.dz i hi).h3.below (h.mono hB))) (fun i hi W h => ref_co ((hA.ez i hi).h3.below (h.mono hB)) ((hC.ez i hi).h3.below (h.mono hB)) (Nat.le_trans hB h.size)) (fun i hi k h1 h2 W h => ref_co (((hA.ez i hi).h4.2 k h1).below (h.mono hB)) (((hC.ez i hi).h4.2 k h2).below (h.mono hB)) (Nat.le_trans hB h.size)) (fun i hi W h => ref_co ((hA.dz i hi).h2.below (h.mono hB)) ((hC.dz i hi).h2.below (h.mono hB)) (Nat.le_trans hB h.size))
 have e1 : ∀ i,((A.e i).f.beq (eF i).f && ((A.e i).r == (eF i).r) && ((A.e i).m == (eF i).m) && ((A.e i).t == (eF i).t) && (((A.e i).ng : Int) == ((eF i).ng : Int)) && (List.range (A.e i).ng).all (fun k => ((A.e i).g k).beq ((eF i).g k))) = (A.e i).eq (eF i) := by
  intro i
  rw [Bool.eq_iff_iff]
  simp only [EElm.eq,eqL,natb,Bool.and_eq_true]
  grind
 have e2 : ∀ i,((A.d i).f.beq (dF i).f && ((A.d i).m == (dF i).m) && ((A.d i).t == (dF i).t) && ((⟨(A.d i).b.toArray⟩ : ByteArray) == ⟨(dF i).b.toArray⟩)) = (A.d i).eq (dF i) := by
  intro i
  rw [Bool.eq_iff_iff]
  simp only [EDat.eq,str_eq,Bool.and_eq_true]
  grind
 simp only [e1,e2] at h
 exact h
theorem RSame_M (hA : A.ok B w) (hC : C.ok B w) (hB : B ≤ w.heap.size) : Calls Tryz.prog 20 #[A.val,C.val] w fun e w' => e = .returned (.bool (A.eq C)) ∧ Below w.heap.size w w' := by
 obtain ⟨sb,hsb⟩ : ∃ sb,sb = ((List.range A.en).all (fun i => (A.e i).eq (C.e i)) && (List.range A.dn).all (fun i => (A.d i).eq (C.d i))) := ⟨_,rfl⟩
 have h := RSame_says A.tp A.imp A.fp A.tbp A.mp A.gp A.xp A.ep A.dp A.tn A.tc A.imn A.imc A.fn A.fc A.tbn A.tbc A.mn A.mc A.gn A.gc A.xn A.xc A.en A.ec A.dn A.dc A.st A.cnt C.tp C.imp C.fp C.tbp C.mp C.gp C.xp C.ep C.dp C.tn C.tc C.imn C.imc C.fn C.fc C.tbn C.tbc C.mn C.mc C.gn C.gc C.xn C.xc C.en C.ec C.dn C.dc C.st C.cnt A.tg A.tw (fun i => (A.t i).pa) (fun i => (A.t i).a.length) (fun i => (A.t i).ca) (fun i => (A.t i).pb) (fun i => (A.t i).b.length) (fun i => (A.t i).cb) C.tg C.tw (fun i => (C.t i).pa) (fun i => (C.t i).a.length) (fun i => (C.t i).ca) (fun i => (C.t i).pb) (fun i => (C.t i).b.length) (fun i => (C.t i).cb) (fun i => (A.t i).a == (C.t i).a) (fun i => (A.t i).b == (C.t i).b) A.img A.imw (fun i => (A.im i).s0) (fun i => (A.im i).s1) (fun i => (A.im i).kd) (fun i => (A.im i).ty) (fun i => (A.im i).tr) (fun i => (A.im i).tmn) (fun i => (A.im i).tmx) (fun i => (A.im i).th) (fun i => (A.im i).mmn) (fun i => (A.im i).mmx) (fun i => (A.im i).mh) (fun i => (A.im i).gt) (fun i => (A.im i).gm) C.img C.imw (fun i => (C.im i).s0) (fun i => (C.im i).s1) (fun i => (C.im i).kd) (fun i => (C.im i).ty) (fun i => (C.im i).tr) (fun i => (C.im i).tmn) (fun i => (C.im i).tmx) (fun i => (C.im i).th) (fun i => (C.im i).mmn) (fun i => (C.im i).mmx) (fun i => (C.im i).mh) (fun i => (C.im i).gt) (fun i => (C.im i).gm) A.fg A.fw (fun i => (A.f i).ty) (fun i => (A.f i).pl) (fun i => (A.f i).l.length) (fun i => (A.f i).cl) (fun i => (A.f i).pf) (fun i => (A.f i).f.len) (fun i => (A.f i).cf) C.fg C.fw (fun i => (C.f i).ty) (fun i => (C.f i).pl) (fun i => (C.f i).l.length) (fun i => (C.f i).cl) (fun i => (C.f i).pf) (fun i => (C.f i).f.len) (fun i => (C.f i).cf) (fun i => (A.f i).l == (C.f i).l) (fun i => (A.f i).f.beq (C.f i).f) A.tbg A.tbw (fun i => (A.tb i).r) (fun i => (A.tb i).mn) (fun i => (A.tb i).mx) (fun i => (A.tb i).h) C.tbg C.tbw (fun i => (C.tb i).r) (fun i => (C.tb i).mn) (fun i => (C.tb i).mx) (fun i => (C.tb i).h) A.mg A.mw (fun i => (A.m i).mn) (fun i => (A.m i).mx) (fun i => (A.m i).h) C.mg C.mw (fun i => (C.m i).mn) (fun i => (C.m i).mx) (fun i => (C.m i).h) A.gg A.gw (fun i => (A.g i).t) (fun i => (A.g i).m) (fun i => (A.g i).pf) (fun i => (A.g i).f.len) (fun i => (A.g i).cf) C.gg C.gw (fun i => (C.g i).t) (fun i => (C.g i).m) (fun i => (C.g i).pf) (fun i => (C.g i).f.len) (fun i => (C.g i).cf) (fun i => (A.g i).f.beq (C.g i).f) A.xg A.xw (fun i => (A.x i).s) (fun i => (A.x i).k) (fun i => (A.x i).ix) C.xg C.xw (fun i => (C.x i).s) (fun i => (C.x i).k) (fun i => (C.x i).ix) sb w hA.tr.1 (fun h => ⟨(hA.tr.2.1 h).1,Nat.lt_of_lt_of_le (hA.tr.2.1 h).2 hB⟩) (fun i hi => ⟨hA.tr.get hi 0 rfl,hA.tr.get hi 1 rfl⟩) hC.tr.1 (fun h => ⟨(hC.tr.2.1 h).1,Nat.lt_of_lt_of_le (hC.tr.2.1 h).2 hB⟩) (fun i hi => ⟨hC.tr.get hi 0 rfl,hC.tr.get hi 1 rfl⟩) (fun i h1 h2 W h => refInts_says _ _ _ _ B W ((hA.tz i h1).h0.1.below (h.mono hB)) ((hC.tz i h2).h0.1.below (h.mono hB)) (Nat.le_trans hB h.size)) (fun i h1 h2 W h => refInts_says _ _ _ _ B W ((hA.tz i h1).h1.1.below (h.mono hB)) ((hC.tz i h2).h1.1.below (h.mono hB)) (Nat.le_trans hB h.size)) hA.imr.1 (fun h => ⟨(hA.imr.2.1 h).1,Nat.lt_of_lt_of_le (hA.imr.2.1 h).2 hB⟩) (fun i hi => ⟨hA.imr.get hi 0 rfl,hA.imr.get hi 1 rfl,hA.imr.get hi 2 rfl,hA.imr.get hi 3 rfl,hA.imr.get hi 4 rfl,hA.imr.get hi 5 rfl,hA.imr.get hi 6 rfl,hA.imr.get hi 7 rfl,hA.imr.get hi 8 rfl,hA.imr.get hi 9 rfl,hA.imr.get hi 10 rfl,hA.imr.get hi 11 rfl,hA.imr.get hi 12 rfl⟩) hC.imr.1 (fun h => ⟨(hC.imr.2.1 h).1,Nat.lt_of_lt_of_le (hC.imr.2.1 h).2 hB⟩) (fun i hi => ⟨hC.imr.get hi 0 rfl,hC.imr.get hi 1 rfl,hC.imr.get hi 2 rfl,hC.imr.get hi 3 rfl,hC.imr.get hi 4 rfl,hC.imr.get hi 5 rfl,hC.imr.get hi 6 rfl,hC.imr.get hi 7 rfl,hC.imr.get hi 8 rfl,hC.imr.get hi 9 rfl,hC.imr.get hi 10 rfl,hC.imr.get hi 11 rfl,hC.imr.get hi 12 rfl⟩) hA.fr.1 (fun h => ⟨(hA.fr.2.1 h).1,Nat.lt_of_lt_of_le (hA.fr.2.1 h).2 hB⟩) (fun i hi => ⟨hA.fr.get hi 0 rfl,hA.fr.get hi 1 rfl,hA.fr.get hi 2 rfl⟩) hC.fr.1 (fun h => ⟨(hC.fr.2.1 h).1,Nat.lt_of_lt_of_le (hC.fr.2.1 h).2 hB⟩) (fun i hi => ⟨hC.fr.get hi 0 rfl,hC.fr.get hi 1 rfl,hC.fr.get hi 2 rfl⟩) (fun i h1 h2 W h => refInts_says _ _ _ _ B W ((hA.fz i h1).h1.1.below (h.mono hB)) ((hC.fz i h2).h1.1.below (h.mono hB)) (Nat.le_trans hB h.size)) (fun i h1 h2 W h => ref_co ((hA.fz i h1).h2.below (h.mono hB)) ((hC.fz i h2).h2.below (h.mono hB)) (Nat.le_trans hB h.size)) hA.tbr.1 (fun h => ⟨(hA.tbr.2.1 h).1,Nat.lt_of_lt_of_le (hA.tbr.2.1 h).2 hB⟩) (fun i hi => ⟨hA.tbr.get hi 0 rfl,hA.tbr.get hi 1 rfl,hA.tbr.get hi 2 rfl,hA.tbr.get hi 3 rfl⟩) hC.tbr.1 (fun h => ⟨(hC.tbr.2.1 h).1,Nat.lt_of_lt_of_le (hC.tbr.2.1 h).2 hB⟩) (fun i hi => ⟨hC.tbr.get hi 0 rfl,hC.tbr.get hi 1 rfl,hC.tbr.get hi 2 rfl,hC.tbr.get hi 3 rfl⟩) hA.mr.1 (fun h => ⟨(hA.mr.2.1 h).1,Nat.lt_of_lt_of_le (hA.mr.2.1 h).2 hB⟩) (fun i hi => ⟨hA.mr.get hi 0 rfl,hA.mr.get hi 1 rfl,hA.mr.get hi 2 rfl⟩) hC.mr.1 (fun h => ⟨(hC.mr.2.1 h).1,Nat.lt_of_lt_of_le (hC.mr.2.1 h).2 hB⟩) (fun i hi => ⟨hC.mr.get hi 0 rfl,hC.mr.get hi 1 rfl,hC.mr.get hi 2 rfl⟩) hA.gr.1 (fun h => ⟨(hA.gr.2.1 h).1,Nat.lt_of_lt_of_le (hA.gr.2.1 h).2 hB⟩) (fun i hi => ⟨hA.gr.get hi 0 rfl,hA.gr.get hi 1 rfl,hA.gr.get hi 2 rfl⟩) hC.gr.1 (fun h => ⟨(hC.gr.2.1 h).1,Nat.lt_of_lt_of_le (hC.gr.2.1 h).2 hB⟩) (fun i hi => ⟨hC.gr.get hi 0 rfl,hC.gr.get hi 1 rfl,hC.gr.get hi 2 rfl⟩) (fun i h1 h2 W h => ref_co ((hA.gz i h1).h1.below (h.mono hB)) ((hC.gz i h2).h1.below (h.mono hB)) (Nat.le_trans hB h.size)) hA.xr.1 (fun h => ⟨(hA.xr.2.1 h).1,Nat.lt_of_lt_of_le (hA.xr.2.1 h).2 hB⟩) (fun i hi => ⟨hA.xr.get hi 0 rfl,hA.xr.get hi 1 rfl,hA.xr.get hi 2 rfl⟩) hC.xr.1 (fun h => ⟨(hC.xr.2.1 h).1,Nat.lt_of_lt_of_le (hC.xr.2.1 h).2 hB⟩) (fun i hi => ⟨hC.xr.get hi 0 rfl,hC.xr.get hi 1 rfl,hC.xr.get hi 2 rfl⟩) (fun ht him hf htb hm hg hx he hd W h => by rw [hsb]; exact RSsg_M (hA.below (h.mono hB)) (hC.below (h.mono hB)) (Nat.le_trans hB h.size) he hd)
 have ef : ∀ i,(((A.f i).l == (C.f i).l) && (A.f i).f.beq (C.f i).f && ((A.f i).ty == (C.f i).ty)) = (A.f i).eq (C.f i) := by
  intro i
  rw [Bool.eq_iff_iff]
  simp only [EFun.eq,Bool.and_eq_true]
  grind
 have eg : ∀ i,((A.g i).f.beq (C.g i).f && (((A.g i).t == (C.g i).t) && ((A.g i).m == (C.g i).m))) = (A.g i).eq (C.g i) := by
  intro i
  rw [Bool.eq_iff_iff]
  simp only [EGlo.eq,Bool.and_eq_true]
  grind
 simp only [ef,eg] at h
 have e0 : (((A.tn == C.tn) && (A.imn == C.imn) && (A.fn == C.fn) && (A.tbn == C.tbn) && (A.mn == C.mn) && (A.gn == C.gn) && (A.xn == C.xn) && (A.st == C.st) && (A.en == C.en) && (A.dn == C.dn) && (A.cnt == C.cnt)) && ((List.range A.tn).all (fun i => (A.t i).eq (C.t i)) && (List.range A.imn).all (fun i => (A.im i).eq (C.im i)) && (List.range A.fn).all (fun i => (A.f i).eq (C.f i)) && (List.range A.tbn).all (fun i => (A.tb i).eq (C.tb i)) && (List.range A.mn).all (fun i => (A.m i).eq (C.m i)) && (List.range A.gn).all (fun i => (A.g i).eq (C.g i)) && (List.range A.xn).all (fun i => (A.x i).eq (C.x i)) && sb)) = A.eq C := by
  rw [hsb,Bool.eq_iff_iff]
  simp only [MD.eq,eqL,Bool.and_eq_true]
  grind
 refine h.mono ?_
 rintro e w' ⟨rfl,hb⟩
 exact ⟨congrArg (fun b => Ending.returned (.bool b)) e0,hb⟩
end
end Go.Proofs.YtjgeedgphcjhoaaGreat
namespace Go.Proofs.YtjgeedgphcjhoaaGreat
open Go.RowKit
theorem strA_inj {l m : List UInt8} (h : (⟨l.toArray⟩ : ByteArray) = ⟨m.toArray⟩) : l = m := by
 have := congrArg (fun b : ByteArray => b.data.toList) h
 simpa using this
set_option maxHeartbeats 16000000 in
theorem law_Apart (A C : MD) (w : World) (hA : A.ok w.heap.size w) (hC : C.ok w.heap.size w) : Calls Tryz.prog 9 #[A.val,C.val] w fun e w' => e = .returned (.bool true) ∧ Below w.heap.size w w' := by
 have HA := fun W => hid (awakeE W)
 have HFA := fun (W : World) (hW : Below w.heap.size w W) => hid (Fits_M ((hA.below hW).mono hW.size))
 have HFC := fun (W : World) (hW : Below w.heap.size w W) => hid (Fits_M ((hC.below hW).mono hW.size))
 have HAY := fun (hf : FitM A) (hm : mayP A = true) (W : World) (hW : Below w.heap.size w W) => hid (encMod_yes A W ((hA.below hW).mono hW.size) hf hm)
 have HAN := fun (hf : FitM A) (hm : mayP A = false) (W : World) (hW : Below w.heap.size w W) => hid (encMod_no A W ((hA.below hW).mono hW.size) hf hm)
 have HCY := fun (hf : FitM C) (hm : mayP C = true) (W : World) (hW : Below w.heap.size w W) => hid (encMod_yes C W ((hC.below hW).mono hW.size) hf hm)
 have HCN := fun (hf : FitM C) (hm : mayP C = false) (W : World) (hW : Below w.heap.size w W) => hid (encMod_no C W ((hC.below hW).mono hW.size) hf hm)
 have HRS := fun (W : World) (hW : Below w.heap.size w W) => hid (RSame_M (hA.below hW) (hC.below hW) hW.size)
 have HEQ : FitM A → FitM C → mayP A = true → mayP C = true → Hid ((⟨(modL A).toArray⟩ : ByteArray) = ⟨(modL C).toArray⟩ ↔ A.eq C = true) := fun fa fc ma mc => ⟨fun h => modL_inj hA hC fa fc (small_M hA fa ma) (small_M hC fc mc) ma mc (strA_inj h),fun h => by rw [modL_same h]⟩
 clear hA hC
 unfold MD.val at HFA HFC HAY HAN HCY HCN HRS
 generalize modL A = EA at *
 generalize modL C = EC at *
 generalize A.eq C = r at *
 generalize mayP A = ma at *
 generalize mayP C = mc at *
 generalize FitM A = FA at *
 generalize FitM C = FC at *
 show Calls Tryz.prog 9 #[.agg #[.slice A.tp A.tn A.tc,.slice A.imp A.imn A.imc,.slice A.fp A.fn A.fc,.slice A.tbp A.tbn A.tbc,.slice A.mp A.mn A.mc,.slice A.gp A.gn A.gc,.slice A.xp A.xn A.xc,.int .i64 A.st,.slice A.ep A.en A.ec,.slice A.dp A.dn A.dc,.bool A.cnt],.agg #[.slice C.tp C.tn C.tc,.slice C.imp C.imn C.imc,.slice C.fp C.fn C.fc,.slice C.tbp C.tbn C.tbc,.slice C.mp C.mn C.mc,.slice C.gp C.gn C.gc,.slice C.xp C.xn C.xc,.int .i64 C.st,.slice C.ep C.en C.ec,.slice C.dp C.dn C.dc,.bool C.cnt]] w _
 have HX0 := hid ((CA.new w #[.slice A.tp A.tn A.tc,.slice A.imp A.imn A.imc,.slice A.fp A.fn A.fc,.slice A.tbp A.tbn A.tbc,.slice A.mp A.mn A.mc,.slice A.gp A.gn A.gc,.slice A.xp A.xn A.xc,.int .i64 A.st,.slice A.ep A.en A.ec,.slice A.dp A.dn A.dc,.bool A.cnt] 32).alloc (.cells #[.slice C.tp C.tn C.tc,.slice C.imp C.imn C.imc,.slice C.fp C.fn C.fc,.slice C.tbp C.tbn C.tbc,.slice C.mp C.mn C.mc,.slice C.gp C.gn C.gc,.slice C.xp C.xn C.xc,.int .i64 C.st,.slice C.ep C.en C.ec,.slice C.dp C.dn C.dc,.bool C.cnt] 32))
 have HY0 := hid (CA.new (w.alloc (.cells #[.slice A.tp A.tn A.tc,.slice A.imp A.imn A.imc,.slice A.fp A.fn A.fc,.slice A.tbp A.tbn A.tbc,.slice A.mp A.mn A.mc,.slice A.gp A.gn A.gc,.slice A.xp A.xn A.xc,.int .i64 A.st,.slice A.ep A.en A.ec,.slice A.dp A.dn A.dc,.bool A.cnt] 32)) #[.slice C.tp C.tn C.tc,.slice C.imp C.imn C.imc,.slice C.fp C.fn C.fc,.slice C.tbp C.tbn C.tbc,.slice C.mp C.mn C.mc,.slice C.gp C.gn C.gc,.slice C.xp C.xn C.xc,.int .i64 C.st,.slice C.ep C.en C.ec,.slice C.dp C.dn C.dc,.bool C.cnt] 32)
 rw [size_al] at HY0
 have HB0 := hid (((Below.refl w.heap.size w).alloc (Nat.le_refl _) (.cells #[.slice A.tp A.tn A.tc,.slice A.imp A.imn A.imc,.slice A.fp A.fn A.fc,.slice A.tbp A.tbn A.tbc,.slice A.mp A.mn A.mc,.slice A.gp A.gn A.gc,.slice A.xp A.xn A.xc,.int .i64 A.st,.slice A.ep A.en A.ec,.slice A.dp A.dn A.dc,.bool A.cnt] 32)).alloc (by rw [size_al]; omega) (.cells #[.slice C.tp C.tn C.tc,.slice C.imp C.imn C.imc,.slice C.fp C.fn C.fc,.slice C.tbp C.tbn C.tbc,.slice C.mp C.mn C.mc,.slice C.gp C.gn C.gc,.slice C.xp C.xn C.xc,.int .i64 C.st,.slice C.ep C.en C.ec,.slice C.dp C.dn C.dc,.bool C.cnt] 32))
 go_enter Tryz.func9,Tryz.ntmps9
 go_upto_region 4 with (go_at_call 22; (with_reducible refine (HA _).out.mono ?_); rintro e w1 ⟨rfl,hb⟩; have HB1 := hid (HB0.out.trans (hb.mono HB0.out.size)); have HX1 := hid (HX0.out.below hb HX0.out.lt); have HY1 := hid (HY0.out.below hb HY0.out.lt); clear hb)
 obtain ⟨x0,x1,x2,x3,x4,x5,x6,x7,x8,x9,x10⟩ := ca11 HX1.out
 go_upto_region 5 with (go_at_call 14; (with_reducible refine (HFA _ HB1.out).out.mono ?_); rintro e w2 ⟨bf,rfl,hb,hr⟩; have HFM := hid hr; have HB2 := hid (HB1.out.trans (hb.mono HB1.out.size)); have HX2 := hid (HX1.out.below hb HX1.out.lt); have HY2 := hid (HY1.out.below hb HY1.out.lt); clear hb hr)
 clear x0 x1 x2 x3 x4 x5 x6 x7 x8 x9 x10 HX0 HY0 HB0 HX1 HY1 HB1
 obtain ⟨y0,y1,y2,y3,y4,y5,y6,y7,y8,y9,y10⟩ := ca11 HY2.out
 go_upto_region 6 with (go_at_call 14; (with_reducible refine (HFC _ HB2.out).out.mono ?_); rintro e w3 ⟨bg,rfl,hb,hr⟩; have HGM := hid hr; have HB3 := hid (HB2.out.trans (hb.mono HB2.out.size)); have HX3 := hid (HX2.out.below hb HX2.out.lt); have HY3 := hid (HY2.out.below hb HY2.out.lt); clear hb hr)
 clear y0 y1 y2 y3 y4 y5 y6 y7 y8 y9 y10 HX2 HY2 HB2 HFA HFC HA
 cases bf with
 | false =>
  clear HAY HAN HCY HCN HRS HEQ HFM HGM
  go_wp2
  go_ret
  exact ⟨rfl,HB3.out⟩
 | true =>
  cases bg with
  | false =>
   clear HAY HAN HCY HCN HRS HEQ HFM HGM
   go_wp2
   go_ret
   exact ⟨rfl,HB3.out⟩
  | true =>
   have hfa := HFM.out rfl
   have hfc := HGM.out rfl
   clear HFM HGM
   obtain ⟨x0,x1,x2,x3,x4,x5,x6,x7,x8,x9,x10⟩ := ca11 HX3.out
   cases ma with
   | false =>
    have KA := fun (W : World) (h : Below w.heap.size w W) => hid (HAN hfa rfl W h).out
    cases mc with
    | false =>
     have KC := fun (W : World) (h : Below w.heap.size w W) => hid (HCN hfc rfl W h).out
     clear HAY HAN HCY HCN HRS HEQ hfa hfc
     go_upto_region 9 with (go_at_call 23; (with_reducible refine (KA _ HB3.out).out.mono ?_); rintro e w4 ⟨rfl,hb⟩; have HB4 := hid (HB3.out.trans (hb.mono HB3.out.size)); have HX4 := hid (HX3.out.below hb HX3.out.lt); have HY4 := hid (HY3.out.below hb HY3.out.lt); clear hb)
     clear x0 x1 x2 x3 x4 x5 x6 x7 x8 x9 x10 HX3 HY3 HB3
     obtain ⟨y0,y1,y2,y3,y4,y5,y6,y7,y8,y9,y10⟩ := ca11 HY4.out
     go_upto_region 10 with (go_at_call 23; (with_reducible refine (KC _ HB4.out).out.mono ?_); rintro e w5 ⟨rfl,hb⟩; have HB5 := hid (HB4.out.trans (hb.mono HB4.out.size)); have HX5 := hid (HX4.out.below hb HX4.out.lt); have HY5 := hid (HY4.out.below hb HY4.out.lt); clear hb)
     clear y0 y1 y2 y3 y4 y5 y6 y7 y8 y9 y10 HX4 HY4 HB4
     obtain ⟨x0,x1,x2,x3,x4,x5,x6,x7,x8,x9,x10⟩ := ca11 HX5.out
     go_upto_region 11 with (go_at_call 23; (with_reducible refine (KA _ HB5.out).out.mono ?_); rintro e w6 ⟨rfl,hb⟩; have HB6 := hid (HB5.out.trans (hb.mono HB5.out.size)); have HX6 := hid (HX5.out.below hb HX5.out.lt); have HY6 := hid (HY5.out.below hb HY5.out.lt); clear hb)
     clear x0 x1 x2 x3 x4 x5 x6 x7 x8 x9 x10 HX5 HY5 HB5
     have cN := conv_bytes (bytes_of_owned (own_nil w6 0) (by decide))
     go_wp2
     go_ret
     exact ⟨rfl,HB6.out⟩
    | true =>
     have KC := fun (W : World) (h : Below w.heap.size w W) => hid (HCY hfc rfl W h).out
     clear HAY HAN HCY HCN HRS HEQ hfa hfc
     go_upto_region 9 with (go_at_call 23; (with_reducible refine (KA _ HB3.out).out.mono ?_); rintro e w4 ⟨rfl,hb⟩; have HB4 := hid (HB3.out.trans (hb.mono HB3.out.size)); have HX4 := hid (HX3.out.below hb HX3.out.lt); have HY4 := hid (HY3.out.below hb HY3.out.lt); clear hb)
     clear x0 x1 x2 x3 x4 x5 x6 x7 x8 x9 x10 HX3 HY3 HB3
     obtain ⟨y0,y1,y2,y3,y4,y5,y6,y7,y8,y9,y10⟩ := ca11 HY4.out
     go_upto_region 10 with (go_at_call 23; (with_reducible refine (KC _ HB4.out).out.mono ?_); rintro e w5 ⟨p5,n5,c5,rfl,hby,hb⟩; have HP5 := hid hby; have HB5 := hid (HB4.out.trans (hb.mono HB4.out.size)); have HX5 := hid (HX4.out.below hb HX4.out.lt); have HY5 := hid (HY4.out.below hb HY4.out.lt); clear hb hby)
     clear y0 y1 y2 y3 y4 y5 y6 y7 y8 y9 y10 HX4 HY4 HB4
     obtain ⟨x0,x1,x2,x3,x4,x5,x6,x7,x8,x9,x10⟩ := ca11 HX5.out
     go_upto_region 11 with (go_at_call 23; (with_reducible refine (KA _ HB5.out).out.mono ?_); rintro e w6 ⟨rfl,hb⟩; have HB6 := hid (HB5.out.trans (hb.mono HB5.out.size)); have HX6 := hid (HX5.out.below hb HX5.out.lt); have HY6 := hid (HY5.out.below hb HY5.out.lt); have HP5b := hid (HP5.out.below hb); clear hb)
     clear x0 x1 x2 x3 x4 x5 x6 x7 x8 x9 x10 HX5 HY5 HB5
     have cN := conv_bytes (bytes_of_owned (own_nil w6 0) (by decide))
     go_wp2
     go_ret
     exact ⟨rfl,HB6.out⟩
   | true =>
    have KA := fun (W : World) (h : Below w.heap.size w W) => hid (HAY hfa rfl W h).out
    obtain ⟨s,hs⟩ : ∃ s : ByteArray,(⟨EA.toArray⟩ : ByteArray) = s := ⟨_,rfl⟩
    have HST := hid hs
    cases mc with
    | false =>
     have KC := fun (W : World) (h : Below w.heap.size w W) => hid (HCN hfc rfl W h).out
     clear HAY HAN HCY HCN HRS HEQ hfa hfc hs
     go_upto_region 9 with (go_at_call 23; (with_reducible refine (KA _ HB3.out).out.mono ?_); rintro e w4 ⟨p4,n4,c4,rfl,hby,hb⟩; have HP4 := hid hby; have HB4 := hid (HB3.out.trans (hb.mono HB3.out.size)); have HX4 := hid (HX3.out.below hb HX3.out.lt); have HY4 := hid (HY3.out.below hb HY3.out.lt); clear hb hby)
     clear x0 x1 x2 x3 x4 x5 x6 x7 x8 x9 x10 HX3 HY3 HB3
     obtain ⟨y0,y1,y2,y3,y4,y5,y6,y7,y8,y9,y10⟩ := ca11 HY4.out
     go_upto_region 10 with (go_at_call 23; (with_reducible refine (KC _ HB4.out).out.mono ?_); rintro e w5 ⟨rfl,hb⟩; have HB5 := hid (HB4.out.trans (hb.mono HB4.out.size)); have HX5 := hid (HX4.out.below hb HX4.out.lt); have HY5 := hid (HY4.out.below hb HY4.out.lt); have HP4b := hid (HP4.out.below hb); have HPS := hid hb.size; clear hb)
     clear y0 y1 y2 y3 y4 y5 y6 y7 y8 y9 y10 HX4 HY4 HB4
     obtain ⟨x0,x1,x2,x3,x4,x5,x6,x7,x8,x9,x10⟩ := ca11 HX5.out
     go_upto_region 11 with (go_at_call 23; (with_reducible refine (KA _ HB5.out).out.mono ?_); rintro e w6 ⟨p6,n6,c6,rfl,hby,hb⟩; have HP6 := hid hby; have HB6 := hid (HB5.out.trans (hb.mono HB5.out.size)); have HX6 := hid (HX5.out.below hb HX5.out.lt); have HY6 := hid (HY5.out.below hb HY5.out.lt); have HP4c := hid (HP4b.out.below (hb.mono (by have := HPS.out; omega))); clear hb hby)
     clear x0 x1 x2 x3 x4 x5 x6 x7 x8 x9 x10 HX5 HY5 HB5
     have c1 := conv_bytes HP4c.out
     have c2 := conv_bytes HP6.out
     rw [HST.out] at c1 c2
     go_wp2
     go_ret
     exact ⟨rfl,HB6.out⟩
    | true =>
     have KC := fun (W : World) (h : Below w.heap.size w W) => hid (HCY hfc rfl W h).out
     have HIFF := HEQ hfa hfc rfl rfl
     obtain ⟨t,ht⟩ : ∃ t : ByteArray,(⟨EC.toArray⟩ : ByteArray) = t := ⟨_,rfl⟩
     have HTT := hid ht
     rw [hs,ht] at HIFF
     clear HAY HAN HCY HCN HEQ hfa hfc hs ht
     go_upto_region 9 with (go_at_call 23; (with_reducible refine (KA _ HB3.out).out.mono ?_); rintro e w4 ⟨p4,n4,c4,rfl,hby,hb⟩; have HP4 := hid hby; have HB4 := hid (HB3.out.trans (hb.mono HB3.out.size)); have HX4 := hid (HX3.out.below hb HX3.out.lt); have HY4 := hid (HY3.out.below hb HY3.out.lt); clear hb hby)
     clear x0 x1 x2 x3 x4 x5 x6 x7 x8 x9 x10 HX3 HY3 HB3
     obtain ⟨y0,y1,y2,y3,y4,y5,y6,y7,y8,y9,y10⟩ := ca11 HY4.out
     go_upto_region 10 with (go_at_call 23; (with_reducible refine (KC _ HB4.out).out.mono ?_); rintro e w5 ⟨p5,n5,c5,rfl,hby,hb⟩; have HP5 := hid hby; have HB5 := hid (HB4.out.trans (hb.mono HB4.out.size)); have HX5 := hid (HX4.out.below hb HX4.out.lt); have HY5 := hid (HY4.out.below hb HY4.out.lt); have HP4b := hid (HP4.out.below hb); have HPS := hid hb.size; clear hb hby)
     clear y0 y1 y2 y3 y4 y5 y6 y7 y8 y9 y10 HX4 HY4 HB4
     obtain ⟨x0,x1,x2,x3,x4,x5,x6,x7,x8,x9,x10⟩ := ca11 HX5.out
     go_upto_region 11 with (go_at_call 23; (with_reducible refine (KA _ HB5.out).out.mono ?_); rintro e w6 ⟨p6,n6,c6,rfl,hby,hb⟩; have HP6 := hid hby; have HB6 := hid (HB5.out.trans (hb.mono HB5.out.size)); have HX6 := hid (HX5.out.below hb HX5.out.lt); have HY6 := hid (HY5.out.below hb HY5.out.lt); have HP4c := hid (HP4b.out.below (hb.mono (by have := HPS.out; omega))); have HP5b := hid (HP5.out.below hb); have HPT := hid hb.size; clear hb hby)
     clear x0 x1 x2 x3 x4 x5 x6 x7 x8 x9 x10 HX5 HY5 HB5
     have c1 := conv_bytes HP4c.out
     have c2 := conv_bytes HP6.out
     rw [HST.out] at c1 c2
     go_upto_region 15 with fail
     clear c1 c2 KA KC
     have LA := fun (W : World) (h : Below w6.heap.size w6 W) => hid (HX6.out.below h HX6.out.lt)
     have LC := fun (W : World) (h : Below w6.heap.size w6 W) => hid (HY6.out.below h HY6.out.lt)
     have K1 := fun (W : World) (h : Below w6.heap.size w6 W) => hid (HRS W (HB6.out.trans (h.mono HB6.out.size))).out
     have CV1 : ∀ W,Below w6.heap.size w6 W → Hid ((convert 52 9 (.slice p4 n4 c4)).run Tryz.prog W = .ok (.string s) W) := fun W h => by
      have h9 := conv_bytes (HP4c.out.below (h.mono (by have := HPS.out; have := HPT.out; omega)))
      rw [HST.out] at h9
      exact h9
     have CV2 : ∀ W,Below w6.heap.size w6 W → Hid ((convert 52 9 (.slice p5 n5 c5)).run Tryz.prog W = .ok (.string t) W) := fun W h => by
      have h9 := conv_bytes (HP5b.out.below (h.mono HPT.out))
      rw [HTT.out] at h9
      exact h9
     clear HRS HX6 HY6 HP4 HP5 HP6 HP4b HP4c HP5b HST HTT
     cases r with
     | true =>
      have hst := HIFF.out.2 rfl
      subst hst
      clear HIFF
      have hS : Below w6.heap.size w6 w6.drew := (Below.refl _ _).drew
      refine wp_region_held_drew (S := fun W => Below w6.heap.size w6 W) (by kernel_rfl) hS (fun _ => ?_)
      generalize w6.drew = W at *
      refine zt 0 (.slice p4 n4 c4) rfl ?_ ?_
      ·(intro W hSw; clear hSw; go_simp; try (exact wrap_b8 _); try (with_reducible rfl))
      try simp only [Act.put,sl2,sl0,sl1]
      refine zt 1 (.string s) rfl ?_ ?_
      ·(intro W hSw; (have q1 := (CV1 W hSw).out); clear hSw; go_simp; try (exact wrap_b8 _); try (with_reducible rfl))
      try simp only [Act.put,sl2,sl0,sl1]
      refine zt 2 (.slice p5 n5 c5) rfl ?_ ?_
      ·(intro W hSw; clear hSw; go_simp; try (exact wrap_b8 _); try (with_reducible rfl))
      try simp only [Act.put,sl2,sl0,sl1]
      refine zt 3 (.string s) rfl ?_ ?_
      ·(intro W hSw; (have q2 := (CV2 W hSw).out); clear hSw; go_simp; try (exact wrap_b8 _); try (with_reducible rfl))
      try simp only [Act.put,sl2,sl0,sl1]
      refine zt 4 (.bool true) rfl ?_ ?_
      ·(intro W hSw; clear hSw; go_simp; try (exact wrap_b8 _); try (with_reducible rfl))
      try simp only [Act.put,sl2,sl0,sl1]
      refine zt 5 (.agg #[.slice A.tp A.tn A.tc,.slice A.imp A.imn A.imc,.slice A.fp A.fn A.fc,.slice A.tbp A.tbn A.tbc,.slice A.mp A.mn A.mc,.slice A.gp A.gn A.gc,.slice A.xp A.xn A.xc,.int .i64 A.st,.slice A.ep A.en A.ec,.slice A.dp A.dn A.dc,.bool A.cnt]) rfl ?_ ?_
      ·(intro W hSw; have x0 := (LA W hSw).out.at (k := 0) (v := .slice A.tp A.tn A.tc) rfl; have x1 := (LA W hSw).out.at (k := 1) (v := .slice A.imp A.imn A.imc) rfl; have x2 := (LA W hSw).out.at (k := 2) (v := .slice A.fp A.fn A.fc) rfl; have x3 := (LA W hSw).out.at (k := 3) (v := .slice A.tbp A.tbn A.tbc) rfl; have x4 := (LA W hSw).out.at (k := 4) (v := .slice A.mp A.mn A.mc) rfl; have x5 := (LA W hSw).out.at (k := 5) (v := .slice A.gp A.gn A.gc) rfl; have x6 := (LA W hSw).out.at (k := 6) (v := .slice A.xp A.xn A.xc) rfl; have x7 := (LA W hSw).out.at (k := 7) (v := .int .i64 A.st) rfl; have x8 := (LA W hSw).out.at (k := 8) (v := .slice A.ep A.en A.ec) rfl; have x9 := (LA W hSw).out.at (k := 9) (v := .slice A.dp A.dn A.dc) rfl; have x10 := (LA W hSw).out.at (k := 10) (v := .bool A.cnt) rfl; clear hSw; go_simp; try (exact wrap_b8 _); try (with_reducible rfl))
      try simp only [Act.put,sl2,sl0,sl1]
      refine zt 6 (.agg #[.slice C.tp C.tn C.tc,.slice C.imp C.imn C.imc,.slice C.fp C.fn C.fc,.slice C.tbp C.tbn C.tbc,.slice C.mp C.mn C.mc,.slice C.gp C.gn C.gc,.slice C.xp C.xn C.xc,.int .i64 C.st,.slice C.ep C.en C.ec,.slice C.dp C.dn C.dc,.bool C.cnt]) rfl ?_ ?_
      ·(intro W hSw; have y0 := (LC W hSw).out.at (k := 0) (v := .slice C.tp C.tn C.tc) rfl; have y1 := (LC W hSw).out.at (k := 1) (v := .slice C.imp C.imn C.imc) rfl; have y2 := (LC W hSw).out.at (k := 2) (v := .slice C.fp C.fn C.fc) rfl; have y3 := (LC W hSw).out.at (k := 3) (v := .slice C.tbp C.tbn C.tbc) rfl; have y4 := (LC W hSw).out.at (k := 4) (v := .slice C.mp C.mn C.mc) rfl; have y5 := (LC W hSw).out.at (k := 5) (v := .slice C.gp C.gn C.gc) rfl; have y6 := (LC W hSw).out.at (k := 6) (v := .slice C.xp C.xn C.xc) rfl; have y7 := (LC W hSw).out.at (k := 7) (v := .int .i64 C.st) rfl; have y8 := (LC W hSw).out.at (k := 8) (v := .slice C.ep C.en C.ec) rfl; have y9 := (LC W hSw).out.at (k := 9) (v := .slice C.dp C.dn C.dc) rfl; have y10 := (LC W hSw).out.at (k := 10) (v := .bool C.cnt) rfl; clear hSw; go_simp; try (exact wrap_b8 _); try (with_reducible rfl))
      try simp only [Act.put,sl2,sl0,sl1]
      refine zr 7 rfl (fun K hK => ?_)
      go_simp
      go_at_call 20
      (with_reducible refine (K1 _ hS).out.mono ?_)
      rintro e W1 ⟨rfl,hb⟩
      replace hS := hS.trans (hb.mono hS.size)
      clear hb
      refine hK.out _ _ hS (fun _ => ?_)
      clear hK K
      try simp only [Act.put,sl2,sl0,sl1]
      refine zt 8 (.bool true) rfl ?_ ?_
      ·(intro W hSw; clear hSw; go_simp; try (exact wrap_b8 _); try (with_reducible rfl))
      try simp only [Act.put,sl2,sl0,sl1]
      refine zt 9 (.bool true) rfl ?_ ?_
      ·(intro W hSw; clear hSw; go_simp; try (exact wrap_b8 _); try (with_reducible rfl))
      try simp only [Act.put,sl2,sl0,sl1]
      refine wpAnyH_done (by kernel_rfl) ?_ _
      have HF := hid (HB6.out.trans (hS.mono HB6.out.size))
      clear hS
      go_wp2
      go_ret
      exact ⟨rfl,HF.out⟩
     | false =>
      have hne : s ≠ t := fun h => by cases HIFF.out.1 h
      have hne2 : ¬ s.toList = t.toList := fun h => hne (by rw [ByteArray.toList_eq,ByteArray.toList_eq] at h; cases s; cases t; simp only at h; rw [Array.toList_inj.1 h])
      clear HIFF
      have hS : Below w6.heap.size w6 w6.drew := (Below.refl _ _).drew
      refine wp_region_held_drew (S := fun W => Below w6.heap.size w6 W) (by kernel_rfl) hS (fun _ => ?_)
      generalize w6.drew = W at *
      refine zt 0 (.slice p4 n4 c4) rfl ?_ ?_
      ·(intro W hSw; clear hSw; go_simp; try (exact wrap_b8 _); try (with_reducible rfl))
      try simp only [Act.put,sl2,sl0,sl1]
      refine zt 1 (.string s) rfl ?_ ?_
      ·(intro W hSw; (have q1 := (CV1 W hSw).out); clear hSw; go_simp; try (exact wrap_b8 _); try (with_reducible rfl))
      try simp only [Act.put,sl2,sl0,sl1]
      refine zt 2 (.slice p5 n5 c5) rfl ?_ ?_
      ·(intro W hSw; clear hSw; go_simp; try (exact wrap_b8 _); try (with_reducible rfl))
      try simp only [Act.put,sl2,sl0,sl1]
      refine zt 3 (.string t) rfl ?_ ?_
      ·(intro W hSw; (have q2 := (CV2 W hSw).out); clear hSw; go_simp; try (exact wrap_b8 _); try (with_reducible rfl))
      try simp only [Act.put,sl2,sl0,sl1]
      refine zt 4 (.bool false) rfl ?_ ?_
      ·(intro W hSw; clear hSw; go_simp; try (exact wrap_b8 _); try (with_reducible rfl))
      try simp only [Act.put,sl2,sl0,sl1]
      refine zt 5 (.agg #[.slice A.tp A.tn A.tc,.slice A.imp A.imn A.imc,.slice A.fp A.fn A.fc,.slice A.tbp A.tbn A.tbc,.slice A.mp A.mn A.mc,.slice A.gp A.gn A.gc,.slice A.xp A.xn A.xc,.int .i64 A.st,.slice A.ep A.en A.ec,.slice A.dp A.dn A.dc,.bool A.cnt]) rfl ?_ ?_
      ·(intro W hSw; have x0 := (LA W hSw).out.at (k := 0) (v := .slice A.tp A.tn A.tc) rfl; have x1 := (LA W hSw).out.at (k := 1) (v := .slice A.imp A.imn A.imc) rfl; have x2 := (LA W hSw).out.at (k := 2) (v := .slice A.fp A.fn A.fc) rfl; have x3 := (LA W hSw).out.at (k := 3) (v := .slice A.tbp A.tbn A.tbc) rfl; have x4 := (LA W hSw).out.at (k := 4) (v := .slice A.mp A.mn A.mc) rfl; have x5 := (LA W hSw).out.at (k := 5) (v := .slice A.gp A.gn A.gc) rfl; have x6 := (LA W hSw).out.at (k := 6) (v := .slice A.xp A.xn A.xc) rfl; have x7 := (LA W hSw).out.at (k := 7) (v := .int .i64 A.st) rfl; have x8 := (LA W hSw).out.at (k := 8) (v := .slice A.ep A.en A.ec) rfl; have x9 := (LA W hSw).out.at (k := 9) (v := .slice A.dp A.dn A.dc) rfl; have x10 := (LA W hSw).out.at (k := 10) (v := .bool A.cnt) rfl; clear hSw; go_simp; try (exact wrap_b8 _); try (with_reducible rfl))
      try simp only [Act.put,sl2,sl0,sl1]
      refine zt 6 (.agg #[.slice C.tp C.tn C.tc,.slice C.imp C.imn C.imc,.slice C.fp C.fn C.fc,.slice C.tbp C.tbn C.tbc,.slice C.mp C.mn C.mc,.slice C.gp C.gn C.gc,.slice C.xp C.xn C.xc,.int .i64 C.st,.slice C.ep C.en C.ec,.slice C.dp C.dn C.dc,.bool C.cnt]) rfl ?_ ?_
      ·(intro W hSw; have y0 := (LC W hSw).out.at (k := 0) (v := .slice C.tp C.tn C.tc) rfl; have y1 := (LC W hSw).out.at (k := 1) (v := .slice C.imp C.imn C.imc) rfl; have y2 := (LC W hSw).out.at (k := 2) (v := .slice C.fp C.fn C.fc) rfl; have y3 := (LC W hSw).out.at (k := 3) (v := .slice C.tbp C.tbn C.tbc) rfl; have y4 := (LC W hSw).out.at (k := 4) (v := .slice C.mp C.mn C.mc) rfl; have y5 := (LC W hSw).out.at (k := 5) (v := .slice C.gp C.gn C.gc) rfl; have y6 := (LC W hSw).out.at (k := 6) (v := .slice C.xp C.xn C.xc) rfl; have y7 := (LC W hSw).out.at (k := 7) (v := .int .i64 C.st) rfl; have y8 := (LC W hSw).out.at (k := 8) (v := .slice C.ep C.en C.ec) rfl; have y9 := (LC W hSw).out.at (k := 9) (v := .slice C.dp C.dn C.dc) rfl; have y10 := (LC W hSw).out.at (k := 10) (v := .bool C.cnt) rfl; clear hSw; go_simp; try (exact wrap_b8 _); try (with_reducible rfl))
      try simp only [Act.put,sl2,sl0,sl1]
      refine zr 7 rfl (fun K hK => ?_)
      go_simp
      go_at_call 20
      (with_reducible refine (K1 _ hS).out.mono ?_)
      rintro e W1 ⟨rfl,hb⟩
      replace hS := hS.trans (hb.mono hS.size)
      clear hb
      refine hK.out _ _ hS (fun _ => ?_)
      clear hK K
      try simp only [Act.put,sl2,sl0,sl1]
      refine zt 8 (.bool true) rfl ?_ ?_
      ·(intro W hSw; clear hSw; go_simp; try (exact wrap_b8 _); try (with_reducible rfl))
      try simp only [Act.put,sl2,sl0,sl1]
      refine zt 9 (.bool true) rfl ?_ ?_
      ·(intro W hSw; clear hSw; go_simp; try (exact wrap_b8 _); try (with_reducible rfl))
      try simp only [Act.put,sl2,sl0,sl1]
      refine wpAnyH_done (by kernel_rfl) ?_ _
      have HF := hid (HB6.out.trans (hS.mono HB6.out.size))
      clear hS
      go_wp2
      go_ret
      exact ⟨rfl,HF.out⟩
end Go.Proofs.YtjgeedgphcjhoaaGreat
