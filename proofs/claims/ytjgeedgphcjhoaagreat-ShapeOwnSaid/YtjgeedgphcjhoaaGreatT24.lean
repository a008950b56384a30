/-
  SSame, WBase, WOp, WBlock, EAw, SRefM: merged, what the law does not reach left out (each text says what it holds where it lies in wip). No condition.
-/
import Derived.Test.YtjgeedgphcjhoaaGreatT23
import Derived.Test.YtjgeedgphcjhoaaGreatT22
import Derived.Test.YtjgeedgphcjhoaaGreatT16
import Derived.Test.YtjgeedgphcjhoaaGreatT07
import Derived.Test.YtjgeedgphcjhoaaGreatT06
import Derived.Lib.AppendStr
import Derived.Lib.Builder
import Derived.Laws.AppendOwn
import Derived.Deep.DeepCutAuto
import Derived.Deep.RegionHeld3
import Derived.Shelf.Abstract
import Derived.Test.YtjgeedgphcjhoaaGreatT03
import Derived.Test.YtjgeedgphcjhoaaGreatT05
import Derived.Laws.BytesArg
import Derived.Lib.SlBytesConst
import Derived.Test.YtjgeedgphcjhoaaGreatT18
import Derived.Test.YtjgeedgphcjhoaaGreatT19
import Derived.Test.YtjgeedgphcjhoaaGreatT21
import Derived.Test.YtjgeedgphcjhoaaGreatT01
set_option linter.unusedSimpArgs false
set_option linter.unusedVariables false
set_option maxRecDepth 100000
namespace Go.Proofs.YtjgeedgphcjhoaaGreat
open Go.RowKit
theorem LO.li {B : Nat} {w : World} {p : Option Addr} {c : Nat} {l : List Int} (h : LO B w p c l) : LI B w (.slice p l.length c) l := h.1
theorem eqY (a b : List UInt8) : eqL a.length b.length (fun i => (a.getD i 0).toNat == (b.getD i 0).toNat) = (a == b) := by
 rw [Bool.eq_iff_iff,eqL_iff,beq_iff_eq]
 constructor
 ·rintro ⟨h1,h2⟩
  refine List.ext_getElem h1 fun i ha hb => ?_
  have := h2 i ha
  rw [beq_iff_eq,List.getD_eq_getElem?_getD,List.getD_eq_getElem?_getD,List.getElem?_eq_getElem ha,List.getElem?_eq_getElem hb] at this
  exact UInt8.toNat_inj.1 this
 ·rintro rfl
  exact ⟨rfl,fun i _ => by simp⟩
theorem RowM.get {B : Nat} {w : World} {p : Option Addr} {n b o N : Nat} {cs : Nat → List Value} (h : RowM B w p n b o N cs) {i : Nat} (hi : i < n) (k : Nat) {v : Value} (hk : (cs i)[k]? = some v) : w.cell? ⟨b,o + i * N + k,none⟩ = some v := h.2.2 i hi k v hk
section
variable {B : Nat} {w : World}
theorem same_ft {x y : ETyp} (hx : x.ok B w) (hy : y.ok B w) (hB : B ≤ w.heap.size) : Calls Tryz.prog 79 #[.agg #[.slice x.pa x.a.length x.ca,.slice x.pb x.b.length x.cb],.agg #[.slice y.pa y.a.length y.ca,.slice y.pb y.b.length y.cb]] w fun e w' => e = .returned (.bool (x.eq y)) ∧ Below w.heap.size w w' :=
 sameFuncType_says _ _ _ _ _ _ _ _ _ _ _ _ _ _ w
  (fun W h => eq_int _ _ _ _ B W (hx.h0.1.below (h.mono hB)) (hy.h0.1.below (h.mono hB)) (Nat.le_trans hB h.size))
  (fun W h => eq_int _ _ _ _ B W (hx.h1.1.below (h.mono hB)) (hy.h1.1.below (h.mono hB)) (Nat.le_trans hB h.size))
theorem same_fun {x y : EFun} (hx : x.ok B w) (hy : y.ok B w) (hB : B ≤ w.heap.size) : Calls Tryz.prog 82 #[.agg #[.int .i64 x.ty,.slice x.pl x.l.length x.cl,.slice x.pf x.f.len x.cf],.agg #[.int .i64 y.ty,.slice y.pl y.l.length y.cl,.slice y.pf y.f.len y.cf]] w fun e w' => e = .returned (.bool (x.eq y)) ∧ Below w.heap.size w w' := by
 have h := sameFunc_says x.ty x.pl x.l.length x.cl x.pf x.f.len x.cf y.ty y.pl y.l.length y.cl y.pf y.f.len y.cf _ _ w
  (fun W h => eq_int _ _ _ _ B W (hx.h1.1.below (h.mono hB)) (hy.h1.1.below (h.mono hB)) (Nat.le_trans hB h.size))
  (fun W h => sameCode_says x.f y.f (.slice x.pf x.f.len x.cf) (.slice y.pf y.f.len y.cf) B W hx.h2.2.2.1 hx.h2.2.1 hy.h2.2.2.1 hy.h2.2.1 (Nat.le_trans hB h.size) (hx.h2.1.below (h.mono hB)) (hy.h2.1.below (h.mono hB)))
 simp only [EFun.eq,Bool.and_assoc]
 exact h
theorem same_glo {x y : EGlo} (hx : x.ok B w) (hy : y.ok B w) (hB : B ≤ w.heap.size) : Calls Tryz.prog 86 #[.agg #[.int .i64 x.t,.bool x.m,.slice x.pf x.f.len x.cf],.agg #[.int .i64 y.t,.bool y.m,.slice y.pf y.f.len y.cf]] w fun e w' => e = .returned (.bool (x.eq y)) ∧ Below w.heap.size w w' :=
 sameGlobal_says _ _ _ _ _ _ _ _ _ _ _ w
  (fun W h => sameCode_says x.f y.f (.slice x.pf x.f.len x.cf) (.slice y.pf y.f.len y.cf) B W hx.h1.2.2.1 hx.h1.2.1 hy.h1.2.2.1 hy.h1.2.1 (Nat.le_trans hB h.size) (hx.h1.1.below (h.mono hB)) (hy.h1.1.below (h.mono hB)))
theorem same_K {pa pb : Option Addr} {na nb ca cb ba bb oa ob : Nat} {ga gb : Nat → Fo} {qa qb : Nat → Option Addr} {da db : Nat → Nat} (ha : KO B w pa na ba oa ga qa da) (hb : KO B w pb nb bb ob gb qb db) (hB : B ≤ w.heap.size) :
  Calls Tryz.prog 165 #[.slice pa na ca,.slice pb nb cb,.func (.func 164) #[] #[]] w fun e w' => e = .returned (.bool (eqL na nb (fun k => (ga k).beq (gb k)))) ∧ Below w.heap.size w w' := by
 refine eqg_cs 164 (fun _ _ => rfl) _ na ca ba oa nb cb bb ob pa pb qa (fun i => (ga i).len) da qb (fun i => (gb i).len) db w ha.1.1 hb.1.1 (fun h => ⟨(ha.1.2.1 h).1,Nat.lt_of_lt_of_le (ha.1.2.1 h).2 hB⟩) (fun h => ⟨(hb.1.2.1 h).1,Nat.lt_of_lt_of_le (hb.1.2.1 h).2 hB⟩) (fun i hi => by have := ha.1.2.2 i hi 0 _ rfl; rw [Nat.mul_one] at this; exact this) (fun i hi => by have := hb.1.2.2 i hi 0 _ rfl; rw [Nat.mul_one] at this; exact this) ?_
 intro i h1 h2 W h
 have x := ha.2 i h1
 have y := hb.2 i h2
 exact sameCode_says _ _ _ _ B W x.2.2.1 x.2.1 y.2.2.1 y.2.1 (Nat.le_trans hB h.size) (x.1.below (h.mono hB)) (y.1.below (h.mono hB))
theorem same_elm {x y : EElm} (hx : x.ok B w) (hy : y.ok B w) (hB : B ≤ w.heap.size) : Calls Tryz.prog 89 #[.agg #[.int .i64 x.r,.int .i64 x.m,.int .i64 x.t,.slice x.pf x.f.len x.cf,.slice x.pg x.ng x.cg],.agg #[.int .i64 y.r,.int .i64 y.m,.int .i64 y.t,.slice y.pf y.f.len y.cf,.slice y.pg y.ng y.cg]] w fun e w' => e = .returned (.bool (x.eq y)) ∧ Below w.heap.size w w' := by
 have h := sameElem_says x.r x.m x.t x.pf x.f.len x.cf x.pg x.ng x.cg y.r y.m y.t y.pf y.f.len y.cf y.pg y.ng y.cg _ _ w
  (fun W h => sameCode_says x.f y.f (.slice x.pf x.f.len x.cf) (.slice y.pf y.f.len y.cf) B W hx.h3.2.2.1 hx.h3.2.1 hy.h3.2.2.1 hy.h3.2.1 (Nat.le_trans hB h.size) (hx.h3.1.below (h.mono hB)) (hy.h3.1.below (h.mono hB)))
  (fun W h => same_K (hx.h4.below (h.mono hB)) (hy.h4.below (h.mono hB)) (Nat.le_trans hB h.size))
 simp only [EElm.eq,Bool.and_assoc]
 exact h
theorem same_Y {pa pb : Option Addr} {ca cb : Nat} {la lb : List UInt8} (ha : YO B w pa ca la) (hb : YO B w pb cb lb) (hB : B ≤ w.heap.size) : Calls Tryz.prog 166 #[.slice pa la.length ca,.slice pb lb.length cb] w fun e w' => e = .returned (.bool (la == lb)) ∧ Below w.heap.size w w' := by
 have row : ∀ {p : Option Addr} {c : Nat} {l : List UInt8},YO B w p c l → ∃ g o,(l.length ≠ 0 → p = some ⟨g,o,none⟩ ∧ g < w.heap.size) ∧ ∀ i,i < l.length → w.cell? ⟨g,o + i,none⟩ = some (.int .u8 ((l.getD i 0).toNat : Nat)) := by
  intro p c l h
  cases l with
  | nil => exact ⟨0,0,fun h => absurd rfl h,fun i hi => absurd hi (Nat.not_lt_zero i)⟩
  | cons a l =>
   obtain ⟨g,o,e,hg,hc⟩ := h.2 (by simp)
   exact ⟨g,o,fun _ => ⟨e,Nat.lt_of_lt_of_le hg hB⟩,fun i hi => hc i _ (by rw [List.getD_eq_getElem?_getD,List.getElem?_eq_getElem hi]; rfl)⟩
 obtain ⟨g1,o1,a1,a2⟩ := row ha
 obtain ⟨g2,o2,b1,b2⟩ := row hb
 rw [← eqY]
 exact eqs_byte la.length ca g1 o1 lb.length cb g2 o2 pa pb (fun i => (la.getD i 0).toNat) (fun i => (lb.getD i 0).toNat) w (by have := ha.1; unfold reachBytes at this; omega) (by have := hb.1; unfold reachBytes at this; omega) a1 b1 a2 b2
theorem same_dat {x y : EDat} (hx : x.ok B w) (hy : y.ok B w) (hB : B ≤ w.heap.size) : Calls Tryz.prog 91 #[.agg #[.int .i64 x.m,.int .i64 x.t,.slice x.pf x.f.len x.cf,.slice x.pb x.b.length x.cb],.agg #[.int .i64 y.m,.int .i64 y.t,.slice y.pf y.f.len y.cf,.slice y.pb y.b.length y.cb]] w fun e w' => e = .returned (.bool (x.eq y)) ∧ Below w.heap.size w w' := by
 have h := sameData_says x.m x.t x.pf x.f.len x.cf x.pb x.b.length x.cb y.m y.t y.pf y.f.len y.cf y.pb y.b.length y.cb _ _ w
  (fun W h => sameCode_says x.f y.f (.slice x.pf x.f.len x.cf) (.slice y.pf y.f.len y.cf) B W hx.h2.2.2.1 hx.h2.2.1 hy.h2.2.2.1 hy.h2.2.1 (Nat.le_trans hB h.size) (hx.h2.1.below (h.mono hB)) (hy.h2.1.below (h.mono hB)))
  (fun W h => same_Y (hx.h3.below (h.mono hB)) (hy.h3.below (h.mono hB)) (Nat.le_trans hB h.size))
 simp only [EDat.eq,Bool.and_assoc]
 exact h
end
theorem sameL_t {A C : MD} {B : Nat} {W : World} (hA : A.ok B W) (hC : C.ok B W) (hW : B ≤ W.heap.size) : Calls Tryz.prog 78 #[.slice A.tp A.tn A.tc,.slice C.tp C.tn C.tc,.func (.func 79) #[] #[]] W fun e w' => e = .returned (.bool (eqL A.tn C.tn (fun i => (A.t i).eq (C.t i)))) ∧ Below W.heap.size W w' :=
 eqg_ft 79 (fun _ _ => rfl) (fun i => (A.t i).eq (C.t i)) A.tn A.tc A.tg A.tw C.tn C.tc C.tg C.tw A.tp C.tp (fun i => (A.t i).pa) (fun i => (A.t i).a.length) (fun i => (A.t i).ca) (fun i => (A.t i).pb) (fun i => (A.t i).b.length) (fun i => (A.t i).cb) (fun i => (C.t i).pa) (fun i => (C.t i).a.length) (fun i => (C.t i).ca) (fun i => (C.t i).pb) (fun i => (C.t i).b.length) (fun i => (C.t i).cb) W hA.tr.1 hC.tr.1 (fun h => ⟨(hA.tr.2.1 h).1,Nat.lt_of_lt_of_le (hA.tr.2.1 h).2 hW⟩) (fun h => ⟨(hC.tr.2.1 h).1,Nat.lt_of_lt_of_le (hC.tr.2.1 h).2 hW⟩) (fun i hi => ⟨hA.tr.get hi 0 rfl,hA.tr.get hi 1 rfl⟩) (fun i hi => ⟨hC.tr.get hi 0 rfl,hC.tr.get hi 1 rfl⟩) (fun i h1 h2 W2 h => same_ft ((hA.tz i h1).below (h.mono hW)) ((hC.tz i h2).below (h.mono hW)) (Nat.le_trans hW h.size))
theorem sameL_im {A C : MD} {B : Nat} {W : World} (hA : A.ok B W) (hC : C.ok B W) (hW : B ≤ W.heap.size) : Calls Tryz.prog 80 #[.slice A.imp A.imn A.imc,.slice C.imp C.imn C.imc] W fun e w' => e = .returned (.bool (eqL A.imn C.imn (fun i => (A.im i).eq (C.im i)))) ∧ Below W.heap.size W w' :=
 eqs_imp A.imn A.imc A.img A.imw C.imn C.imc C.img C.imw A.imp C.imp (fun i => (A.im i).s0) (fun i => (A.im i).s1) (fun i => (A.im i).kd) (fun i => (A.im i).ty) (fun i => (A.im i).tr) (fun i => (A.im i).tmn) (fun i => (A.im i).tmx) (fun i => (A.im i).th) (fun i => (A.im i).mmn) (fun i => (A.im i).mmx) (fun i => (A.im i).mh) (fun i => (A.im i).gt) (fun i => (A.im i).gm) (fun i => (C.im i).s0) (fun i => (C.im i).s1) (fun i => (C.im i).kd) (fun i => (C.im i).ty) (fun i => (C.im i).tr) (fun i => (C.im i).tmn) (fun i => (C.im i).tmx) (fun i => (C.im i).th) (fun i => (C.im i).mmn) (fun i => (C.im i).mmx) (fun i => (C.im i).mh) (fun i => (C.im i).gt) (fun i => (C.im i).gm) W hA.imr.1 hC.imr.1 (fun h => ⟨(hA.imr.2.1 h).1,Nat.lt_of_lt_of_le (hA.imr.2.1 h).2 hW⟩) (fun h => ⟨(hC.imr.2.1 h).1,Nat.lt_of_lt_of_le (hC.imr.2.1 h).2 hW⟩) (fun i hi => ⟨hA.imr.get hi 0 rfl,hA.imr.get hi 1 rfl,hA.imr.get hi 2 rfl,hA.imr.get hi 3 rfl,hA.imr.get hi 4 rfl,hA.imr.get hi 5 rfl,hA.imr.get hi 6 rfl,hA.imr.get hi 7 rfl,hA.imr.get hi 8 rfl,hA.imr.get hi 9 rfl,hA.imr.get hi 10 rfl,hA.imr.get hi 11 rfl,hA.imr.get hi 12 rfl⟩) (fun i hi => ⟨hC.imr.get hi 0 rfl,hC.imr.get hi 1 rfl,hC.imr.get hi 2 rfl,hC.imr.get hi 3 rfl,hC.imr.get hi 4 rfl,hC.imr.get hi 5 rfl,hC.imr.get hi 6 rfl,hC.imr.get hi 7 rfl,hC.imr.get hi 8 rfl,hC.imr.get hi 9 rfl,hC.imr.get hi 10 rfl,hC.imr.get hi 11 rfl,hC.imr.get hi 12 rfl⟩)
theorem sameL_f {A C : MD} {B : Nat} {W : World} (hA : A.ok B W) (hC : C.ok B W) (hW : B ≤ W.heap.size) : Calls Tryz.prog 81 #[.slice A.fp A.fn A.fc,.slice C.fp C.fn C.fc,.func (.func 82) #[] #[]] W fun e w' => e = .returned (.bool (eqL A.fn C.fn (fun i => (A.f i).eq (C.f i)))) ∧ Below W.heap.size W w' :=
 eqg_code 82 (fun _ _ => rfl) (fun i => (A.f i).eq (C.f i)) A.fn A.fc A.fg A.fw C.fn C.fc C.fg C.fw A.fp C.fp (fun i => (A.f i).ty) (fun i => (A.f i).pl) (fun i => (A.f i).l.length) (fun i => (A.f i).cl) (fun i => (A.f i).pf) (fun i => (A.f i).f.len) (fun i => (A.f i).cf) (fun i => (C.f i).ty) (fun i => (C.f i).pl) (fun i => (C.f i).l.length) (fun i => (C.f i).cl) (fun i => (C.f i).pf) (fun i => (C.f i).f.len) (fun i => (C.f i).cf) W hA.fr.1 hC.fr.1 (fun h => ⟨(hA.fr.2.1 h).1,Nat.lt_of_lt_of_le (hA.fr.2.1 h).2 hW⟩) (fun h => ⟨(hC.fr.2.1 h).1,Nat.lt_of_lt_of_le (hC.fr.2.1 h).2 hW⟩) (fun i hi => ⟨hA.fr.get hi 0 rfl,hA.fr.get hi 1 rfl,hA.fr.get hi 2 rfl⟩) (fun i hi => ⟨hC.fr.get hi 0 rfl,hC.fr.get hi 1 rfl,hC.fr.get hi 2 rfl⟩) (fun i h1 h2 W2 h => same_fun ((hA.fz i h1).below (h.mono hW)) ((hC.fz i h2).below (h.mono hW)) (Nat.le_trans hW h.size))
theorem sameL_tb {A C : MD} {B : Nat} {W : World} (hA : A.ok B W) (hC : C.ok B W) (hW : B ≤ W.heap.size) : Calls Tryz.prog 83 #[.slice A.tbp A.tbn A.tbc,.slice C.tbp C.tbn C.tbc] W fun e w' => e = .returned (.bool (eqL A.tbn C.tbn (fun i => (A.tb i).eq (C.tb i)))) ∧ Below W.heap.size W w' :=
 eqs_tab A.tbn A.tbc A.tbg A.tbw C.tbn C.tbc C.tbg C.tbw A.tbp C.tbp (fun i => (A.tb i).r) (fun i => (A.tb i).mn) (fun i => (A.tb i).mx) (fun i => (A.tb i).h) (fun i => (C.tb i).r) (fun i => (C.tb i).mn) (fun i => (C.tb i).mx) (fun i => (C.tb i).h) W hA.tbr.1 hC.tbr.1 (fun h => ⟨(hA.tbr.2.1 h).1,Nat.lt_of_lt_of_le (hA.tbr.2.1 h).2 hW⟩) (fun h => ⟨(hC.tbr.2.1 h).1,Nat.lt_of_lt_of_le (hC.tbr.2.1 h).2 hW⟩) (fun i hi => ⟨hA.tbr.get hi 0 rfl,hA.tbr.get hi 1 rfl,hA.tbr.get hi 2 rfl,hA.tbr.get hi 3 rfl⟩) (fun i hi => ⟨hC.tbr.get hi 0 rfl,hC.tbr.get hi 1 rfl,hC.tbr.get hi 2 rfl,hC.tbr.get hi 3 rfl⟩)
theorem sameL_m {A C : MD} {B : Nat} {W : World} (hA : A.ok B W) (hC : C.ok B W) (hW : B ≤ W.heap.size) : Calls Tryz.prog 84 #[.slice A.mp A.mn A.mc,.slice C.mp C.mn C.mc] W fun e w' => e = .returned (.bool (eqL A.mn C.mn (fun i => (A.m i).eq (C.m i)))) ∧ Below W.heap.size W w' :=
 eqs_lim A.mn A.mc A.mg A.mw C.mn C.mc C.mg C.mw A.mp C.mp (fun i => (A.m i).mn) (fun i => (A.m i).mx) (fun i => (A.m i).h) (fun i => (C.m i).mn) (fun i => (C.m i).mx) (fun i => (C.m i).h) W hA.mr.1 hC.mr.1 (fun h => ⟨(hA.mr.2.1 h).1,Nat.lt_of_lt_of_le (hA.mr.2.1 h).2 hW⟩) (fun h => ⟨(hC.mr.2.1 h).1,Nat.lt_of_lt_of_le (hC.mr.2.1 h).2 hW⟩) (fun i hi => ⟨hA.mr.get hi 0 rfl,hA.mr.get hi 1 rfl,hA.mr.get hi 2 rfl⟩) (fun i hi => ⟨hC.mr.get hi 0 rfl,hC.mr.get hi 1 rfl,hC.mr.get hi 2 rfl⟩)
theorem sameL_g {A C : MD} {B : Nat} {W : World} (hA : A.ok B W) (hC : C.ok B W) (hW : B ≤ W.heap.size) : Calls Tryz.prog 85 #[.slice A.gp A.gn A.gc,.slice C.gp C.gn C.gc,.func (.func 86) #[] #[]] W fun e w' => e = .returned (.bool (eqL A.gn C.gn (fun i => (A.g i).eq (C.g i)))) ∧ Below W.heap.size W w' :=
 eqg_var 86 (fun _ _ => rfl) (fun i => (A.g i).eq (C.g i)) A.gn A.gc A.gg A.gw C.gn C.gc C.gg C.gw A.gp C.gp (fun i => (A.g i).t) (fun i => (A.g i).m) (fun i => (A.g i).pf) (fun i => (A.g i).f.len) (fun i => (A.g i).cf) (fun i => (C.g i).t) (fun i => (C.g i).m) (fun i => (C.g i).pf) (fun i => (C.g i).f.len) (fun i => (C.g i).cf) W hA.gr.1 hC.gr.1 (fun h => ⟨(hA.gr.2.1 h).1,Nat.lt_of_lt_of_le (hA.gr.2.1 h).2 hW⟩) (fun h => ⟨(hC.gr.2.1 h).1,Nat.lt_of_lt_of_le (hC.gr.2.1 h).2 hW⟩) (fun i hi => ⟨hA.gr.get hi 0 rfl,hA.gr.get hi 1 rfl,hA.gr.get hi 2 rfl⟩) (fun i hi => ⟨hC.gr.get hi 0 rfl,hC.gr.get hi 1 rfl,hC.gr.get hi 2 rfl⟩) (fun i h1 h2 W2 h => same_glo ((hA.gz i h1).below (h.mono hW)) ((hC.gz i h2).below (h.mono hW)) (Nat.le_trans hW h.size))
theorem sameL_x {A C : MD} {B : Nat} {W : World} (hA : A.ok B W) (hC : C.ok B W) (hW : B ≤ W.heap.size) : Calls Tryz.prog 87 #[.slice A.xp A.xn A.xc,.slice C.xp C.xn C.xc] W fun e w' => e = .returned (.bool (eqL A.xn C.xn (fun i => (A.x i).eq (C.x i)))) ∧ Below W.heap.size W w' :=
 eqs_exp A.xn A.xc A.xg A.xw C.xn C.xc C.xg C.xw A.xp C.xp (fun i => (A.x i).s) (fun i => (A.x i).k) (fun i => (A.x i).ix) (fun i => (C.x i).s) (fun i => (C.x i).k) (fun i => (C.x i).ix) W hA.xr.1 hC.xr.1 (fun h => ⟨(hA.xr.2.1 h).1,Nat.lt_of_lt_of_le (hA.xr.2.1 h).2 hW⟩) (fun h => ⟨(hC.xr.2.1 h).1,Nat.lt_of_lt_of_le (hC.xr.2.1 h).2 hW⟩) (fun i hi => ⟨hA.xr.get hi 0 rfl,hA.xr.get hi 1 rfl,hA.xr.get hi 2 rfl⟩) (fun i hi => ⟨hC.xr.get hi 0 rfl,hC.xr.get hi 1 rfl,hC.xr.get hi 2 rfl⟩)
theorem sameL_e {A C : MD} {B : Nat} {W : World} (hA : A.ok B W) (hC : C.ok B W) (hW : B ≤ W.heap.size) : Calls Tryz.prog 88 #[.slice A.ep A.en A.ec,.slice C.ep C.en C.ec,.func (.func 89) #[] #[]] W fun e w' => e = .returned (.bool (eqL A.en C.en (fun i => (A.e i).eq (C.e i)))) ∧ Below W.heap.size W w' :=
 eqg_elem 89 (fun _ _ => rfl) (fun i => (A.e i).eq (C.e i)) A.en A.ec A.eg A.ew C.en C.ec C.eg C.ew A.ep C.ep (fun i => (A.e i).r) (fun i => (A.e i).m) (fun i => (A.e i).t) (fun i => (A.e i).pf) (fun i => (A.e i).f.len) (fun i => (A.e i).cf) (fun i => (A.e i).pg) (fun i => (A.e i).ng) (fun i => (A.e i).cg) (fun i => (C.e i).r) (fun i => (C.e i).m) (fun i => (C.e i).t) (fun i => (C.e i).pf) (fun i => (C.e i).f.len) (fun i => (C.e i).cf) (fun i => (C.e i).pg) (fun i => (C.e i).ng) (fun i => (C.e i).cg) W hA.er.1 hC.er.1 (fun h => ⟨(hA.er.2.1 h).1,Nat.lt_of_lt_of_le (hA.er.2.1 h).2 hW⟩) (fun h => ⟨(hC.er.2.1 h).1,Nat.lt_of_lt_of_le (hC.er.2.1 h).2 hW⟩) (fun i hi => ⟨hA.er.get hi 0 rfl,hA.er.get hi 1 rfl,hA.er.get hi 2 rfl,hA.er.get hi 3 rfl,hA.er.get hi 4 rfl⟩) (fun i hi => ⟨hC.er.get hi 0 rfl,hC.er.get hi 1 rfl,hC.er.get hi 2 rfl,hC.er.get hi 3 rfl,hC.er.get hi 4 rfl⟩) (fun i h1 h2 W2 h => same_elm ((hA.ez i h1).below (h.mono hW)) ((hC.ez i h2).below (h.mono hW)) (Nat.le_trans hW h.size))
theorem sameL_d {A C : MD} {B : Nat} {W : World} (hA : A.ok B W) (hC : C.ok B W) (hW : B ≤ W.heap.size) : Calls Tryz.prog 90 #[.slice A.dp A.dn A.dc,.slice C.dp C.dn C.dc,.func (.func 91) #[] #[]] W fun e w' => e = .returned (.bool (eqL A.dn C.dn (fun i => (A.d i).eq (C.d i)))) ∧ Below W.heap.size W w' :=
 eqg_data 91 (fun _ _ => rfl) (fun i => (A.d i).eq (C.d i)) A.dn A.dc A.dg A.dw C.dn C.dc C.dg C.dw A.dp C.dp (fun i => (A.d i).m) (fun i => (A.d i).t) (fun i => (A.d i).pf) (fun i => (A.d i).f.len) (fun i => (A.d i).cf) (fun i => (A.d i).pb) (fun i => (A.d i).b.length) (fun i => (A.d i).cb) (fun i => (C.d i).m) (fun i => (C.d i).t) (fun i => (C.d i).pf) (fun i => (C.d i).f.len) (fun i => (C.d i).cf) (fun i => (C.d i).pb) (fun i => (C.d i).b.length) (fun i => (C.d i).cb) W hA.dr.1 hC.dr.1 (fun h => ⟨(hA.dr.2.1 h).1,Nat.lt_of_lt_of_le (hA.dr.2.1 h).2 hW⟩) (fun h => ⟨(hC.dr.2.1 h).1,Nat.lt_of_lt_of_le (hC.dr.2.1 h).2 hW⟩) (fun i hi => ⟨hA.dr.get hi 0 rfl,hA.dr.get hi 1 rfl,hA.dr.get hi 2 rfl,hA.dr.get hi 3 rfl⟩) (fun i hi => ⟨hC.dr.get hi 0 rfl,hC.dr.get hi 1 rfl,hC.dr.get hi 2 rfl,hC.dr.get hi 3 rfl⟩) (fun i h1 h2 W2 h => same_dat ((hA.dz i h1).below (h.mono hW)) ((hC.dz i h2).below (h.mono hW)) (Nat.le_trans hW h.size))
theorem Same_M {A C : MD} {B : Nat} {w : World} (hA : A.ok B w) (hC : C.ok B w) (hB : B ≤ w.heap.size) : Calls Tryz.prog 19 #[A.val,C.val] w fun e w' => e = .returned (.bool (A.eq C)) ∧ Below w.heap.size w w' :=
 sameMod_says A.tp A.tn A.tc A.imp A.imn A.imc A.fp A.fn A.fc A.tbp A.tbn A.tbc A.mp A.mn A.mc A.gp A.gn A.gc A.xp A.xn A.xc A.st A.ep A.en A.ec A.dp A.dn A.dc A.cnt C.tp C.tn C.tc C.imp C.imn C.imc C.fp C.fn C.fc C.tbp C.tbn C.tbc C.mp C.mn C.mc C.gp C.gn C.gc C.xp C.xn C.xc C.st C.ep C.en C.ec C.dp C.dn C.dc C.cnt _ _ _ _ _ _ _ _ _ w (fun W h => sameL_t (hA.below (h.mono hB)) (hC.below (h.mono hB)) (Nat.le_trans hB h.size)) (fun W h => sameL_im (hA.below (h.mono hB)) (hC.below (h.mono hB)) (Nat.le_trans hB h.size)) (fun W h => sameL_f (hA.below (h.mono hB)) (hC.below (h.mono hB)) (Nat.le_trans hB h.size)) (fun W h => sameL_tb (hA.below (h.mono hB)) (hC.below (h.mono hB)) (Nat.le_trans hB h.size)) (fun W h => sameL_m (hA.below (h.mono hB)) (hC.below (h.mono hB)) (Nat.le_trans hB h.size)) (fun W h => sameL_g (hA.below (h.mono hB)) (hC.below (h.mono hB)) (Nat.le_trans hB h.size)) (fun W h => sameL_x (hA.below (h.mono hB)) (hC.below (h.mono hB)) (Nat.le_trans hB h.size)) (fun W h => sameL_e (hA.below (h.mono hB)) (hC.below (h.mono hB)) (Nat.le_trans hB h.size)) (fun W h => sameL_d (hA.below (h.mono hB)) (hC.below (h.mono hB)) (Nat.le_trans hB h.size))
end Go.Proofs.YtjgeedgphcjhoaaGreat
namespace Go.Proofs.YtjgeedgphcjhoaaGreat
open Go.RowKit
theorem own_kept {w w' : World} {base : Nat} {v : Value} {n : Nat} {xs : List Value} (h : w.ownsRow base 5 1 v n xs) (hb : Below w.heap.size w w') : w'.ownsRow base 5 1 v n xs := by
 refine ⟨h.1,?_⟩
 rcases h.2 with h2 | ⟨g,cap,cur,h1,h2,h3,h4⟩
 ·exact .inl h2
 ·exact .inr ⟨g,cap,cur,h1,h2,(hb.block g (Array.getElem?_eq_some_iff.1 h3).1).trans h3,h4⟩
def NR (g : Nat) (w : World) (k : Nat) : Prop := ∀ u,w.cell? ⟨g,0,none⟩ = some u → u.ownBlock ≠ some k
def NW (B g : Nat) (w : World) (k : Nat) : Prop := k ≠ g ∧ k < w.heap.size ∧ (k < B ∨ (∃ cs T fr,w.heap[k]? = some (.cells cs T fr) ∧ T ≠ 5) ∨ (g < w.heap.size ∧ NR g w k))
structure FR (B g : Nat) (w w' : World) : Prop where
 os : w'.os = w.os
 tape : w'.tape = w.tape
 output : w'.output = w.output
 size : w.heap.size ≤ w'.heap.size
 block : ∀ k,NW B g w k → w'.heap[k]? = w.heap[k]?
 own : g < w.heap.size → ∀ k,k < w.heap.size → NR g w k → NR g w' k
theorem FR.refl (B g : Nat) (w : World) : FR B g w w := ⟨rfl,rfl,rfl,Nat.le_refl _,fun _ _ => rfl,fun _ _ _ h => h⟩
theorem FR.nw {B g : Nat} {w w' : World} (h : FR B g w w') {k : Nat} (hk : NW B g w k) : NW B g w' k := by
 refine ⟨hk.1,Nat.lt_of_lt_of_le hk.2.1 h.size,?_⟩
 rcases hk.2.2 with h2 | ⟨cs,T,fr,h2,h3⟩ | ⟨h2,h3⟩
 ·exact .inl h2
 ·exact .inr (.inl ⟨cs,T,fr,(h.block k hk).trans h2,h3⟩)
 ·exact .inr (.inr ⟨Nat.lt_of_lt_of_le h2 h.size,h.own h2 k hk.2.1 h3⟩)
theorem FR.trans {B g : Nat} {a b c : World} (h : FR B g a b) (k : FR B g b c) : FR B g a c :=
 ⟨k.os.trans h.os,k.tape.trans h.tape,k.output.trans h.output,Nat.le_trans h.size k.size,fun i hi => (k.block i (h.nw hi)).trans (h.block i hi),fun hg i hi hn => k.own (Nat.lt_of_lt_of_le hg h.size) i (Nat.lt_of_lt_of_le hi h.size) (h.own hg i hi hn)⟩
theorem NR.below {g k : Nat} {w w' : World} (h : NR g w k) (hb : w'.heap[g]? = w.heap[g]?) : NR g w' k := fun u hu => h u (by rw [← World.cell?_of_block (a := ⟨g,0,none⟩) hb]; exact hu)
theorem FR.of {B g : Nat} {w w' : World} (h : Below w.heap.size w w') : FR B g w w' := ⟨h.os,h.tape,h.output,h.size,fun k hk => h.block k hk.2.1,fun hg k _ hn => hn.below (h.block g hg)⟩
theorem FR.alloc {B g : Nat} {a w : World} (h : FR B g a w) (o : Obj) : FR B g a (w.alloc o) := h.trans (FR.of ((Below.refl _ _).alloc (Nat.le_refl _) o))
theorem FR.drew {B g : Nat} {a w : World} (h : FR B g a w) : FR B g a w.drew := ⟨h.os,h.tape,h.output,h.size,h.block,h.own⟩
def lo (B g : Nat) : Nat := min B g
theorem lo_B (B g : Nat) : lo B g ≤ B := Nat.min_le_left _ _
theorem lo_g (B g : Nat) : lo B g ≤ g := Nat.min_le_right _ _
theorem FR.below {B g : Nat} {w w' : World} (h : FR B g w w') (hg : B ≤ g) (hB : B ≤ w.heap.size) : Below B w w' :=
 ⟨h.os,h.tape,h.output,h.size,fun k hk => h.block k ⟨by omega,by omega,.inl hk⟩⟩
theorem FR.put {B g : Nat} {a w : World} (h : FR B g a w) {z : Value} (hz : w.cell? ⟨g,0,none⟩ = some z) (v : Value) (hv : ∀ k,k < a.heap.size → NR g a k → v.ownBlock ≠ some k) : FR B g a (w.setCell ⟨g,0,none⟩ v) := by
 refine ⟨h.os,h.tape,h.output,by simpa [World.setCell] using h.size,fun i hi => ?_,fun hg k hk hn u hu => ?_⟩
 ·rw [Below.heap_setCell _ _ _ _ (fun e => hi.1 (by rw [e]))]
  exact h.block i hi
 ·have hv' := hv k hk hn
  rw [World.cell?_setCell_same w ⟨g,0,none⟩ v hz] at hu
  obtain rfl := Option.some.inj hu
  exact hv'
theorem NW.not_row {B g k : Nat} {w : World} {v : Value} {n : Nat} {xs : List Value} (h : NW B g w k) (ho : w.ownsRow B 5 1 v n xs) (hc : w.cell? ⟨g,0,none⟩ = some v) : v.ownBlock ≠ some k := by
 rcases h.2.2 with h2 | ⟨cs,T,fr,h2,h3⟩ | ⟨_,h3⟩
 ·intro e
  have := (ho.lt k e).1
  omega
 ·exact Lib.ownBlock_ne ho h2 h3
 ·exact h3 v hc
theorem FR.grown {B g : Nat} {w w' : World} {v : Value} {n : Nat} {xs : List Value} (ho : w.ownsRow B 5 1 v n xs) (hg : w.grownBy w' v.ownBlock) (hc : w.cell? ⟨g,0,none⟩ = some v) (hne : v.ownBlock ≠ some g) : FR B g w w' :=
 ⟨hg.os,hg.tape,hg.output,hg.size,fun k hk => hg.block k hk.2.1 (hk.not_row ho hc).symm,fun hlt k _ hn => hn.below (hg.block g hlt hne.symm)⟩
theorem CA.nw {B g k : Nat} {cs : Array Value} {T : TypeId} {w : World} (h : CA k cs T w) (hT : T ≠ 5) (hk : k ≠ g) : NW B g w k := ⟨hk,h.lt,.inr (.inl ⟨cs,T,_,h,hT⟩)⟩
theorem CA.fr {B g k : Nat} {cs : Array Value} {T : TypeId} {w w' : World} (h : CA k cs T w) (hf : FR B g w w') (hT : T ≠ 5) (hk : k ≠ g) : CA k cs T w' := by
 have := hf.block k (h.nw hT hk)
 unfold CA at h ⊢
 rw [this,h]
def WR (B g : Nat) (bs : List UInt8) (w : World) : Prop := B ≤ w.heap.size ∧ ∃ v,CA g #[v] 137 w ∧ w.ownsRow B 5 1 v bs.length (Lib.byteCells bs)
theorem WR.lt {B g : Nat} {bs : List UInt8} {w : World} (h : WR B g bs w) : g < w.heap.size := by
 obtain ⟨_,v,hc,_⟩ := h
 exact hc.lt
theorem WR.call {B g : Nat} {bs : List UInt8} {w w' : World} (h : WR B g bs w) (hb : Below w.heap.size w w') : WR B g bs w' := by
 obtain ⟨h1,v,hc,ho⟩ := h
 exact ⟨Nat.le_trans h1 hb.size,v,hc.below hb hc.lt,own_kept ho hb⟩
theorem WR.alloc {B g : Nat} {bs : List UInt8} {w : World} (h : WR B g bs w) (o : Obj) : WR B g bs (w.alloc o) := h.call ((Below.refl _ _).alloc (Nat.le_refl _) o)
theorem WR.put {B g : Nat} {bs : List UInt8} {w : World} {v v' : Value} (hB : B ≤ w.heap.size) (hc : CA g #[v] 137 w) (ho : w.ownsRow B 5 1 v' bs.length (Lib.byteCells bs)) : WR B g bs (w.setCell ⟨g,0,none⟩ v') := by
 refine ⟨by simpa [World.setCell] using hB,v',hc.set v',?_⟩
 exact ho.kept (row := some g) ⟨rfl,rfl,rfl,by simp [World.setCell],fun k _ hk => Below.heap_setCell _ _ _ _ (fun e => hk (by simp [e]))⟩ (Or.inr (Lib.ownBlock_ne ho hc (by decide)))
def LT (B g : Nat) (w : World) (v : Value) (l : List Int) : Prop := ∃ p c,v = .slice p l.length c ∧ l.length < 9223372036854775807 ∧ (l ≠ [] → ∃ k o,p = some ⟨k,o,none⟩ ∧ NW B g w k ∧ ∀ j x,l[j]? = some x → w.cell? ⟨k,o + j,none⟩ = some (.int .i64 x))
theorem LT.fr {B g : Nat} {w w' : World} {v : Value} {l : List Int} (h : LT B g w v l) (hf : FR B g w w') : LT B g w' v l := by
 obtain ⟨p,c,e,hq,h⟩ := h
 refine ⟨p,c,e,hq,fun hn => ?_⟩
 obtain ⟨k,o,e2,hk,hc⟩ := h hn
 exact ⟨k,o,e2,hf.nw hk,fun j x hj => by rw [World.cell?_of_block (hf.block k hk)]; exact hc j x hj⟩
theorem LT.of {B g B0 : Nat} {w : World} {v : Value} {l : List Int} (h : LI B0 w v l) (hB : B0 ≤ lo B g) (hw : B ≤ w.heap.size) : LT B g w v l := by
 have l1 := lo_B B g
 have l2 := lo_g B g
 obtain ⟨p,c,e,hq,h⟩ := h
 refine ⟨p,c,e,hq,fun hn => ?_⟩
 obtain ⟨k,o,e2,hk,hc⟩ := h hn
 exact ⟨k,o,e2,⟨by omega,by omega,.inl (by omega)⟩,hc⟩
theorem LT.one {B g : Nat} {w : World} (x : Int) (c : Nat) (hg : g < w.heap.size) : LT B g (w.alloc (.cells #[.int .i64 x] 3)) (.slice (some ⟨w.heap.size,0,none⟩) 1 c) [x] := by
 have hc := CA.new w #[.int .i64 x] 3
 refine ⟨_,c,rfl,by simp,fun _ => ⟨w.heap.size,0,rfl,hc.nw (by decide) (by omega),fun j y hj => ?_⟩⟩
 cases j with
 | zero => simp at hj; subst hj; exact hc.at rfl
 | succ j => simp at hj
theorem LT.two {B g : Nat} {w : World} (x y : Int) (c : Nat) (hg : g < w.heap.size) : LT B g (w.alloc (.cells #[.int .i64 x,.int .i64 y] 3)) (.slice (some ⟨w.heap.size,0,none⟩) 2 c) [x,y] := by
 have hc := CA.new w #[.int .i64 x,.int .i64 y] 3
 refine ⟨_,c,rfl,by simp,fun _ => ⟨w.heap.size,0,rfl,hc.nw (by decide) (by omega),fun j z hj => ?_⟩⟩
 match j with
 | 0 => simp at hj; subst hj; exact hc.at rfl
 | 1 => simp at hj; subst hj; exact hc.at rfl
 | j + 2 => simp at hj
end Go.Proofs.YtjgeedgphcjhoaaGreat
namespace Go.Proofs.YtjgeedgphcjhoaaGreat
open Go.RowKit
theorem WR.base {B g : Nat} {bs : List UInt8} {w : World} (h : WR B g bs w) : B ≤ w.heap.size := h.1
end Go.Proofs.YtjgeedgphcjhoaaGreat
namespace Go.Proofs.YtjgeedgphcjhoaaGreat
open Go.RowKit
def Wrote (B g : Nat) (w : World) (v : Value) (E : List UInt8) (sz : Nat) : Prop :=
 ∀ bs W,Below (lo B g) w W → WR B g bs W → bs.length + sz ≤ 140737488355000 → Calls Tryz.prog 208 #[.pointer (some ⟨g,0,none⟩),v] W fun e w' => e = .returned (.tuple #[]) ∧ WR B g (bs ++ E) w' ∧ FR B g W w'
theorem Wrote.mono {B g : Nat} {w W : World} {v : Value} {E : List UInt8} {sz : Nat} (h : Wrote B g w v E sz) (hb : Below (lo B g) w W) : Wrote B g W v E sz := fun bs W' h1 h2 h3 => h bs W' (hb.trans h1) h2 h3
end Go.Proofs.YtjgeedgphcjhoaaGreat
namespace Go.Proofs.YtjgeedgphcjhoaaGreat
open Go.RowKit
theorem strOfNums_bytes (l : List UInt8) : strOfNums (l.map fun b => (b.toNat : Int)) = ⟨l.toArray⟩ := by
 unfold strOfNums
 congr 2
 rw [List.map_map]
 conv => rhs; rw [← List.map_id l]
 apply List.map_congr_left
 intro b _
 simp
def EMp (gm gb : Nat) (w : World) : Prop := CA gm #[.slice none 0 0,.slice none 0 0,.slice none 0 0,.slice none 0 0,.slice none 0 0,.slice none 0 0,.slice none 0 0,.int .i64 0,.slice none 0 0,.slice none 0 0,.bool false] 32 w ∧ CA (gb + 1) #[.slice (some ⟨gb,0,none⟩) 8 8] 137 w ∧ CA (gb + 1 + 1) #[.pointer (some ⟨gb + 1,0,none⟩)] 135 w ∧ BytesAt (gb + 1) w (.slice (some ⟨gb,0,none⟩) 8 8) [0,97,115,109,1,0,0,0]
theorem EMp.call {gm gb : Nat} {w w' : World} (h : EMp gm gb w) (hb : Below w.heap.size w w') : EMp gm gb w' :=
 ⟨h.1.below hb h.1.lt,h.2.1.below hb h.2.1.lt,h.2.2.1.below hb h.2.2.1.lt,h.2.2.2.below (hb.mono (Nat.le_of_lt h.2.1.lt))⟩
end Go.Proofs.YtjgeedgphcjhoaaGreat
namespace Go.Proofs.YtjgeedgphcjhoaaGreat
open Go.RowKit
section
variable {A C : MD} {B : Nat} {w : World}
theorem conv_Y {p : Option Addr} {c : Nat} {l : List UInt8} (h : YO B w p c l) : (convert 52 9 (.slice p l.length c)).run Tryz.prog w = .ok (.string ⟨l.toArray⟩) w := by
 cases l with
 | nil =>
  cases p with
  | none => 
   rw [show ([] : List UInt8).length = 0 from rfl,run_convert_bytes_string w 52 9 5 none 0 c Tryz.underlying52 Tryz.underlying5 Tryz.underlying9]
   rfl
  | some a =>
   rw [run_convert_bytes_string w 52 9 5 (some a) _ c Tryz.underlying52 Tryz.underlying5 Tryz.underlying9,run_bytesToString w a _ c [] (by rfl)]
   rfl
 | cons a l =>
  obtain ⟨g,o,rfl,hg,hc⟩ := h.2 (by simp)
  rw [run_convert_bytes_arg w 52 5 Tryz.underlying52 Tryz.underlying5 g o (a :: l).length c ((a :: l).map fun b => (b.toNat : Int)) (by simp) (fun i hi => ?_) 9 Tryz.underlying9,strOfNums_bytes]
  rw [hc i (a :: l)[i] (List.getElem?_eq_getElem hi),List.getD_eq_getElem?_getD,List.getElem?_map,List.getElem?_eq_getElem hi]
  rfl
theorem ref_co {p q : Option Addr} {c d : Nat} {f g : Fo} (hf : CO B w p c f) (hg : CO B w q d g) (hB : B ≤ w.heap.size) : Calls Tryz.prog 93 #[.slice p f.len c,.slice q g.len d] w fun e w' => e = .returned (.bool (f.beq g)) ∧ Below w.heap.size w w' :=
 refCode_at f g _ _ B w hf.2.2.1 hf.2.1 hg.2.2.1 hg.2.1 hB hf.1 hg.1
theorem str_eq (a b : List UInt8) : ((⟨a.toArray⟩ : ByteArray) == ⟨b.toArray⟩) = (a == b) := by
 rw [Bool.eq_iff_iff,beq_iff_eq,beq_iff_eq]
 constructor
 ·intro h
  have := congrArg (fun x => x.data.toList) h
  simpa using this
 ·rintro rfl; rfl
theorem RSsg_M (hA : A.ok B w) (hC : C.ok B w) (hB : B ≤ w.heap.size) (hen : A.en = C.en) (hdn : A.dn = C.dn) : Calls Tryz.prog 94 #[A.val,C.val] w fun e w' => e = .returned (.bool ((List.range A.en).all (fun i => (A.e i).eq (C.e i)) && (List.range A.dn).all (fun i => (A.d i).eq (C.d i)))) ∧ Below w.heap.size w w' := by
 rcases C with ⟨tp,tn,tc,tg,tw,tF,imp,imn,imc,img,imw,imF,fp,fn,fc,fg,fw,fF,tbp,tbn,tbc,tbg,tbw,tbF,mp,mn,mc,mg,mw,mF,gp,gn,gc,gg,gw,gF,xp,xn,xc,xg,xw,xF,ep,en,ec,eg,ew,eF,dp,dn,dc,dg,dw,dF,st,cnt⟩
 dsimp only at hen hdn
 subst hen hdn
 have h := RSsg_says A.tp A.imp A.fp A.tbp A.mp A.gp A.xp A.ep A.dp A.tn A.tc A.imn A.imc A.fn A.fc A.tbn A.tbc A.mn A.mc A.gn A.gc A.xn A.xc A.ec A.dc A.st A.cnt tp imp fp tbp mp gp xp ep dp tn tc imn imc fn fc tbn tbc mn mc gn gc xn xc ec dc st cnt A.en A.dn A.eg A.ew A.dg A.dw (fun i => (A.e i).r) (fun i => (A.e i).m) (fun i => (A.e i).t) (fun i => (A.e i).pf) (fun i => (A.e i).f.len) (fun i => (A.e i).cf) (fun i => (A.e i).pg) (fun i => (A.e i).ng) (fun i => (A.e i).cg) (fun i => (A.e i).bg) (fun i => (A.e i).og) (fun i k => (A.e i).qg k) (fun i k => ((A.e i).g k).len) (fun i k => (A.e i).dg k) (fun i => (A.d i).m) (fun i => (A.d i).t) (fun i => (A.d i).pf) (fun i => (A.d i).f.len) (fun i => (A.d i).cf) (fun i => (A.d i).pb) (fun i => (A.d i).b.length) (fun i => (A.d i).cb) (fun i => ⟨(A.d i).b.toArray⟩) eg ew dg dw (fun i => (eF i).r) (fun i => (eF i).m) (fun i => (eF i).t) (fun i => (eF i).pf) (fun i => (eF i).f.len) (fun i => (eF i).cf) (fun i => (eF i).pg) (fun i => (eF i).ng) (fun i => (eF i).cg) (fun i => (eF i).bg) (fun i => (eF i).og) (fun i k => (eF i).qg k) (fun i k => ((eF i).g k).len) (fun i k => (eF i).dg k) (fun i => (dF i).m) (fun i => (dF i).t) (fun i => (dF i).pf) (fun i => (dF i).f.len) (fun i => (dF i).cf) (fun i => (dF i).pb) (fun i => (dF i).b.length) (fun i => (dF i).cb) (fun i => ⟨(dF i).b.toArray⟩) (fun i => (A.e i).f.beq (eF i).f) (fun i k => ((A.e i).g k).beq ((eF i).g k)) (fun i => (A.d i).f.beq (dF i).f) w hA.er.1 hA.dr.1 (fun h => ⟨(hA.er.2.1 h).1,Nat.lt_of_lt_of_le (hA.er.2.1 h).2 hB⟩) (fun h => ⟨(hA.dr.2.1 h).1,Nat.lt_of_lt_of_le (hA.dr.2.1 h).2 hB⟩) (fun i hi => ⟨hA.er.get hi 0 rfl,hA.er.get hi 1 rfl,hA.er.get hi 2 rfl,hA.er.get hi 3 rfl,hA.er.get hi 4 rfl⟩) (fun i hi h => ⟨((hA.ez i hi).h4.1.2.1 h).1,Nat.lt_of_lt_of_le ((hA.ez i hi).h4.1.2.1 h).2 hB⟩) (fun i hi => (hA.ez i hi).h4.1.1) (fun i hi k hk => by have := (hA.ez i hi).h4.1.2.2 k hk 0 _ rfl; rw [Nat.mul_one] at this; exact this) (fun i hi => ⟨hA.dr.get hi 0 rfl,hA.dr.get hi 1 rfl,hA.dr.get hi 2 rfl,hA.dr.get hi 3 rfl⟩) (fun i hi W h => conv_Y ((hA.dz i hi).h3.below (h.mono hB))) (fun h => ⟨(hC.er.2.1 h).1,Nat.lt_of_lt_of_le (hC.er.2.1 h).2 hB⟩) (fun h => ⟨(hC.dr.2.1 h).1,Nat.lt_of_lt_of_le (hC.dr.2.1 h).2 hB⟩) (fun i hi => ⟨hC.er.get hi 0 rfl,hC.er.get hi 1 rfl,hC.er.get hi 2 rfl,hC.er.get hi 3 rfl,hC.er.get hi 4 rfl⟩) (fun i hi h => ⟨((hC.ez i hi).h4.1.2.1 h).1,Nat.lt_of_lt_of_le ((hC.ez i hi).h4.1.2.1 h).2 hB⟩) (fun i hi => (hC.ez i hi).h4.1.1) (fun i hi k hk => by have := (hC.ez i hi).h4.1.2.2 k hk 0 _ rfl; rw [Nat.mul_one] at this; exact this) (fun i hi => ⟨hC.dr.get hi 0 rfl,hC.dr.get hi 1 rfl,hC.dr.get hi 2 rfl,hC.dr.get hi 3 rfl⟩) (fun i hi W h => conv_Y ((hC.dz i hi).h3.below (h.mono hB))) (fun i hi W h => ref_co ((hA.ez i hi).h3.below (h.mono hB)) ((hC.ez i hi).h3.below (h.mono hB)) (Nat.le_trans hB h.size)) (fun i hi k h1 h2 W h => ref_co (((hA.ez i hi).h4.2 k h1).below (h.mono hB)) (((hC.ez i hi).h4.2 k h2).below (h.mono hB)) (Nat.le_trans hB h.size)) (fun i hi W h => ref_co ((hA.dz i hi).h2.below (h.mono hB)) ((hC.dz i hi).h2.below (h.mono hB)) (Nat.le_trans hB h.size))
 have e1 : ∀ i,((A.e i).f.beq (eF i).f && ((A.e i).r == (eF i).r) && ((A.e i).m == (eF i).m) && ((A.e i).t == (eF i).t) && (((A.e i).ng : Int) == ((eF i).ng : Int)) && (List.range (A.e i).ng).all (fun k => ((A.e i).g k).beq ((eF i).g k))) = (A.e i).eq (eF i) := by
  intro i
  rw [Bool.eq_iff_iff]
  simp only [EElm.eq,eqL,natb,Bool.and_eq_true]
  grind
 have e2 : ∀ i,((A.d i).f.beq (dF i).f && ((A.d i).m == (dF i).m) && ((A.d i).t == (dF i).t) && ((⟨(A.d i).b.toArray⟩ : ByteArray) == ⟨(dF i).b.toArray⟩)) = (A.d i).eq (dF i) := by
  intro i
  rw [Bool.eq_iff_iff]
  simp only [EDat.eq,str_eq,Bool.and_eq_true]
  grind
 simp only [e1,e2] at h
 exact h
theorem RSame_M (hA : A.ok B w) (hC : C.ok B w) (hB : B ≤ w.heap.size) : Calls Tryz.prog 20 #[A.val,C.val] w fun e w' => e = .returned (.bool (A.eq C)) ∧ Below w.heap.size w w' := by
 obtain ⟨sb,hsb⟩ : ∃ sb,sb = ((List.range A.en).all (fun i => (A.e i).eq (C.e i)) && (List.range A.dn).all (fun i => (A.d i).eq (C.d i))) := ⟨_,rfl⟩
 have h := RSame_says A.tp A.imp A.fp A.tbp A.mp A.gp A.xp A.ep A.dp A.tn A.tc A.imn A.imc A.fn A.fc A.tbn A.tbc A.mn A.mc A.gn A.gc A.xn A.xc A.en A.ec A.dn A.dc A.st A.cnt C.tp C.imp C.fp C.tbp C.mp C.gp C.xp C.ep C.dp C.tn C.tc C.imn C.imc C.fn C.fc C.tbn C.tbc C.mn C.mc C.gn C.gc C.xn C.xc C.en C.ec C.dn C.dc C.st C.cnt A.tg A.tw (fun i => (A.t i).pa) (fun i => (A.t i).a.length) (fun i => (A.t i).ca) (fun i => (A.t i).pb) (fun i => (A.t i).b.length) (fun i => (A.t i).cb) C.tg C.tw (fun i => (C.t i).pa) (fun i => (C.t i).a.length) (fun i => (C.t i).ca) (fun i => (C.t i).pb) (fun i => (C.t i).b.length) (fun i => (C.t i).cb) (fun i => (A.t i).a == (C.t i).a) (fun i => (A.t i).b == (C.t i).b) A.img A.imw (fun i => (A.im i).s0) (fun i => (A.im i).s1) (fun i => (A.im i).kd) (fun i => (A.im i).ty) (fun i => (A.im i).tr) (fun i => (A.im i).tmn) (fun i => (A.im i).tmx) (fun i => (A.im i).th) (fun i => (A.im i).mmn) (fun i => (A.im i).mmx) (fun i => (A.im i).mh) (fun i => (A.im i).gt) (fun i => (A.im i).gm) C.img C.imw (fun i => (C.im i).s0) (fun i => (C.im i).s1) (fun i => (C.im i).kd) (fun i => (C.im i).ty) (fun i => (C.im i).tr) (fun i => (C.im i).tmn) (fun i => (C.im i).tmx) (fun i => (C.im i).th) (fun i => (C.im i).mmn) (fun i => (C.im i).mmx) (fun i => (C.im i).mh) (fun i => (C.im i).gt) (fun i => (C.im i).gm) A.fg A.fw (fun i => (A.f i).ty) (fun i => (A.f i).pl) (fun i => (A.f i).l.length) (fun i => (A.f i).cl) (fun i => (A.f i).pf) (fun i => (A.f i).f.len) (fun i => (A.f i).cf) C.fg C.fw (fun i => (C.f i).ty) (fun i => (C.f i).pl) (fun i => (C.f i).l.length) (fun i => (C.f i).cl) (fun i => (C.f i).pf) (fun i => (C.f i).f.len) (fun i => (C.f i).cf) (fun i => (A.f i).l == (C.f i).l) (fun i => (A.f i).f.beq (C.f i).f) A.tbg A.tbw (fun i => (A.tb i).r) (fun i => (A.tb i).mn) (fun i => (A.tb i).mx) (fun i => (A.tb i).h) C.tbg C.tbw (fun i => (C.tb i).r) (fun i => (C.tb i).mn) (fun i => (C.tb i).mx) (fun i => (C.tb i).h) A.mg A.mw (fun i => (A.m i).mn) (fun i => (A.m i).mx) (fun i => (A.m i).h) C.mg C.mw (fun i => (C.m i).mn) (fun i => (C.m i).mx) (fun i => (C.m i).h) A.gg A.gw (fun i => (A.g i).t) (fun i => (A.g i).m) (fun i => (A.g i).pf) (fun i => (A.g i).f.len) (fun i => (A.g i).cf) C.gg C.gw (fun i => (C.g i).t) (fun i => (C.g i).m) (fun i => (C.g i).pf) (fun i => (C.g i).f.len) (fun i => (C.g i).cf) (fun i => (A.g i).f.beq (C.g i).f) A.xg A.xw (fun i => (A.x i).s) (fun i => (A.x i).k) (fun i => (A.x i).ix) C.xg C.xw (fun i => (C.x i).s) (fun i => (C.x i).k) (fun i => (C.x i).ix) sb w hA.tr.1 (fun h => ⟨(hA.tr.2.1 h).1,Nat.lt_of_lt_of_le (hA.tr.2.1 h).2 hB⟩) (fun i hi => ⟨hA.tr.get hi 0 rfl,hA.tr.get hi 1 rfl⟩) hC.tr.1 (fun h => ⟨(hC.tr.2.1 h).1,Nat.lt_of_lt_of_le (hC.tr.2.1 h).2 hB⟩) (fun i hi => ⟨hC.tr.get hi 0 rfl,hC.tr.get hi 1 rfl⟩) (fun i h1 h2 W h => refInts_says _ _ _ _ B W ((hA.tz i h1).h0.1.below (h.mono hB)) ((hC.tz i h2).h0.1.below (h.mono hB)) (Nat.le_trans hB h.size)) (fun i h1 h2 W h => refInts_says _ _ _ _ B W ((hA.tz i h1).h1.1.below (h.mono hB)) ((hC.tz i h2).h1.1.below (h.mono hB)) (Nat.le_trans hB h.size)) hA.imr.1 (fun h => ⟨(hA.imr.2.1 h).1,Nat.lt_of_lt_of_le (hA.imr.2.1 h).2 hB⟩) (fun i hi => ⟨hA.imr.get hi 0 rfl,hA.imr.get hi 1 rfl,hA.imr.get hi 2 rfl,hA.imr.get hi 3 rfl,hA.imr.get hi 4 rfl,hA.imr.get hi 5 rfl,hA.imr.get hi 6 rfl,hA.imr.get hi 7 rfl,hA.imr.get hi 8 rfl,hA.imr.get hi 9 rfl,hA.imr.get hi 10 rfl,hA.imr.get hi 11 rfl,hA.imr.get hi 12 rfl⟩) hC.imr.1 (fun h => ⟨(hC.imr.2.1 h).1,Nat.lt_of_lt_of_le (hC.imr.2.1 h).2 hB⟩) (fun i hi => ⟨hC.imr.get hi 0 rfl,hC.imr.get hi 1 rfl,hC.imr.get hi 2 rfl,hC.imr.get hi 3 rfl,hC.imr.get hi 4 rfl,hC.imr.get hi 5 rfl,hC.imr.get hi 6 rfl,hC.imr.get hi 7 rfl,hC.imr.get hi 8 rfl,hC.imr.get hi 9 rfl,hC.imr.get hi 10 rfl,hC.imr.get hi 11 rfl,hC.imr.get hi 12 rfl⟩) hA.fr.1 (fun h => ⟨(hA.fr.2.1 h).1,Nat.lt_of_lt_of_le (hA.fr.2.1 h).2 hB⟩) (fun i hi => ⟨hA.fr.get hi 0 rfl,hA.fr.get hi 1 rfl,hA.fr.get hi 2 rfl⟩) hC.fr.1 (fun h => ⟨(hC.fr.2.1 h).1,Nat.lt_of_lt_of_le (hC.fr.2.1 h).2 hB⟩) (fun i hi => ⟨hC.fr.get hi 0 rfl,hC.fr.get hi 1 rfl,hC.fr.get hi 2 rfl⟩) (fun i h1 h2 W h => refInts_says _ _ _ _ B W ((hA.fz i h1).h1.1.below (h.mono hB)) ((hC.fz i h2).h1.1.below (h.mono hB)) (Nat.le_trans hB h.size)) (fun i h1 h2 W h => ref_co ((hA.fz i h1).h2.below (h.mono hB)) ((hC.fz i h2).h2.below (h.mono hB)) (Nat.le_trans hB h.size)) hA.tbr.1 (fun h => ⟨(hA.tbr.2.1 h).1,Nat.lt_of_lt_of_le (hA.tbr.2.1 h).2 hB⟩) (fun i hi => ⟨hA.tbr.get hi 0 rfl,hA.tbr.get hi 1 rfl,hA.tbr.get hi 2 rfl,hA.tbr.get hi 3 rfl⟩) hC.tbr.1 (fun h => ⟨(hC.tbr.2.1 h).1,Nat.lt_of_lt_of_le (hC.tbr.2.1 h).2 hB⟩) (fun i hi => ⟨hC.tbr.get hi 0 rfl,hC.tbr.get hi 1 rfl,hC.tbr.get hi 2 rfl,hC.tbr.get hi 3 rfl⟩) hA.mr.1 (fun h => ⟨(hA.mr.2.1 h).1,Nat.lt_of_lt_of_le (hA.mr.2.1 h).2 hB⟩) (fun i hi => ⟨hA.mr.get hi 0 rfl,hA.mr.get hi 1 rfl,hA.mr.get hi 2 rfl⟩) hC.mr.1 (fun h => ⟨(hC.mr.2.1 h).1,Nat.lt_of_lt_of_le (hC.mr.2.1 h).2 hB⟩) (fun i hi => ⟨hC.mr.get hi 0 rfl,hC.mr.get hi 1 rfl,hC.mr.get hi 2 rfl⟩) hA.gr.1 (fun h => ⟨(hA.gr.2.1 h).1,Nat.lt_of_lt_of_le (hA.gr.2.1 h).2 hB⟩) (fun i hi => ⟨hA.gr.get hi 0 rfl,hA.gr.get hi 1 rfl,hA.gr.get hi 2 rfl⟩) hC.gr.1 (fun h => ⟨(hC.gr.2.1 h).1,Nat.lt_of_lt_of_le (hC.gr.2.1 h).2 hB⟩) (fun i hi => ⟨hC.gr.get hi 0 rfl,hC.gr.get hi 1 rfl,hC.gr.get hi 2 rfl⟩) (fun i h1 h2 W h => ref_co ((hA.gz i h1).h1.below (h.mono hB)) ((hC.gz i h2).h1.below (h.mono hB)) (Nat.le_trans hB h.size)) hA.xr.1 (fun h => ⟨(hA.xr.2.1 h).1,Nat.lt_of_lt_of_le (hA.xr.2.1 h).2 hB⟩) (fun i hi => ⟨hA.xr.get hi 0 rfl,hA.xr.get hi 1 rfl,hA.xr.get hi 2 rfl⟩) hC.xr.1 (fun h => ⟨(hC.xr.2.1 h).1,Nat.lt_of_lt_of_le (hC.xr.2.1 h).2 hB⟩) (fun i hi => ⟨hC.xr.get hi 0 rfl,hC.xr.get hi 1 rfl,hC.xr.get hi 2 rfl⟩) (fun ht him hf htb hm hg hx he hd W h => by rw [hsb]; exact RSsg_M (hA.below (h.mono hB)) (hC.below (h.mono hB)) (Nat.le_trans hB h.size) he hd)
 have ef : ∀ i,(((A.f i).l == (C.f i).l) && (A.f i).f.beq (C.f i).f && ((A.f i).ty == (C.f i).ty)) = (A.f i).eq (C.f i) := by
  intro i
  rw [Bool.eq_iff_iff]
  simp only [EFun.eq,Bool.and_eq_true]
  grind
 have eg : ∀ i,((A.g i).f.beq (C.g i).f && (((A.g i).t == (C.g i).t) && ((A.g i).m == (C.g i).m))) = (A.g i).eq (C.g i) := by
  intro i
  rw [Bool.eq_iff_iff]
  simp only [EGlo.eq,Bool.and_eq_true]
  grind
 simp only [ef,eg] at h
 have e0 : (((A.tn == C.tn) && (A.imn == C.imn) && (A.fn == C.fn) && (A.tbn == C.tbn) && (A.mn == C.mn) && (A.gn == C.gn) && (A.xn == C.xn) && (A.st == C.st) && (A.en == C.en) && (A.dn == C.dn) && (A.cnt == C.cnt)) && ((List.range A.tn).all (fun i => (A.t i).eq (C.t i)) && (List.range A.imn).all (fun i => (A.im i).eq (C.im i)) && (List.range A.fn).all (fun i => (A.f i).eq (C.f i)) && (List.range A.tbn).all (fun i => (A.tb i).eq (C.tb i)) && (List.range A.mn).all (fun i => (A.m i).eq (C.m i)) && (List.range A.gn).all (fun i => (A.g i).eq (C.g i)) && (List.range A.xn).all (fun i => (A.x i).eq (C.x i)) && sb)) = A.eq C := by
  rw [hsb,Bool.eq_iff_iff]
  simp only [MD.eq,eqL,Bool.and_eq_true]
  grind
 refine h.mono ?_
 rintro e w' ⟨rfl,hb⟩
 exact ⟨congrArg (fun b => Ending.returned (.bool b)) e0,hb⟩
end
end Go.Proofs.YtjgeedgphcjhoaaGreat
