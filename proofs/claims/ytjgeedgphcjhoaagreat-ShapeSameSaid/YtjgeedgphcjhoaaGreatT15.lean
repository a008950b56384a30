/-
  SEq: merged, what the law does not reach left out (each text says what it holds where it lies in wip). No condition.
-/
import Derived.Test.YtjgeedgphcjhoaaGreatT07
import Derived.Test.YtjgeedgphcjhoaaGreatT01
set_option linter.unusedSimpArgs false
set_option linter.unusedVariables false
set_option maxRecDepth 100000
namespace Go.Proofs.YtjgeedgphcjhoaaGreat
open Go.RowKit
instance lawB : LawfulBEq ByteArray where
 eq_of_beq {a b} h := by
  cases a; cases b
  have : (_ : Array UInt8) = _ := eq_of_beq (α := Array UInt8) h
  simp_all
 rfl {a} := by
  cases a
  exact beq_self_eq_true (α := Array UInt8) _
def Fo.beq : Fo → Fo → Bool
 | .nil,.nil => true
 | .cons op a b n h l ot body els rest,.cons op2 a2 b2 n2 h2 l2 ot2 body2 els2 rest2 =>
  (op == op2) && (a == a2) && (b == b2) && (n == n2) && (h == h2) && (ot == ot2) && (l == l2) && body.beq body2 && els.beq els2 && rest.beq rest2
 | _,_ => false
theorem Fo.beq_iff : ∀ (f g : Fo),f.beq g = true ↔ f = g := by
 intro f
 induction f with
 | nil => intro g; cases g <;> simp [Fo.beq]
 | cons op a b n h l ot body els rest ihb ihe ihr =>
  intro g
  cases g with
  | nil => simp [Fo.beq]
  | cons op2 a2 b2 n2 h2 l2 ot2 body2 els2 rest2 =>
   simp only [Fo.beq,Bool.and_eq_true,beq_iff_eq,ihb,ihe,ihr,Fo.cons.injEq]
   grind
theorem Fo.beq_refl (f : Fo) : f.beq f = true := (f.beq_iff f).2 rfl
theorem Fo.beq_len {f g : Fo} (h : f.beq g = true) : f.len = g.len := by rw [(f.beq_iff g).1 h]
theorem Fo.beq_comm (f g : Fo) : f.beq g = g.beq f := by
 rw [Bool.eq_iff_iff,Fo.beq_iff,Fo.beq_iff]
 exact eq_comm
def eqL (n m : Nat) (P : Nat → Bool) : Bool := (n == m) && (List.range n).all P
theorem eqL_iff (n m : Nat) (P : Nat → Bool) : eqL n m P = true ↔ n = m ∧ ∀ i,i < n → P i = true := by
 simp [eqL]
theorem eqL_refl {n : Nat} {P : Nat → Bool} (h : ∀ i,i < n → P i = true) : eqL n n P = true := (eqL_iff n n P).2 ⟨rfl,h⟩
theorem eqL_comm (n m : Nat) (P Q : Nat → Bool) (h : ∀ i,P i = Q i) : eqL n m P = eqL m n Q := by
 rw [Bool.eq_iff_iff,eqL_iff,eqL_iff]
 constructor
 ·rintro ⟨rfl,h2⟩; exact ⟨rfl,fun i hi => by rw [← h i]; exact h2 i hi⟩
 ·rintro ⟨rfl,h2⟩; exact ⟨rfl,fun i hi => by rw [h i]; exact h2 i hi⟩
def ETyp.eq (x y : ETyp) : Bool := (x.a == y.a) && (x.b == y.b)
def ETab.eq (x y : ETab) : Bool := (x.r == y.r) && (x.mn == y.mn) && (x.mx == y.mx) && (x.h == y.h)
def ELim.eq (x y : ELim) : Bool := (x.mn == y.mn) && (x.mx == y.mx) && (x.h == y.h)
def EImp.eq (x y : EImp) : Bool := (x.s0 == y.s0) && (x.s1 == y.s1) && (x.kd == y.kd) && (x.ty == y.ty) && (x.tr == y.tr) && (x.tmn == y.tmn) && (x.tmx == y.tmx) && (x.th == y.th) && (x.mmn == y.mmn) && (x.mmx == y.mmx) && (x.mh == y.mh) && (x.gt == y.gt) && (x.gm == y.gm)
def EFun.eq (x y : EFun) : Bool := (x.ty == y.ty) && (x.l == y.l) && x.f.beq y.f
def EGlo.eq (x y : EGlo) : Bool := (x.t == y.t) && (x.m == y.m) && x.f.beq y.f
def EExp.eq (x y : EExp) : Bool := (x.s == y.s) && (x.k == y.k) && (x.ix == y.ix)
def EElm.eq (x y : EElm) : Bool := (x.r == y.r) && (x.m == y.m) && (x.t == y.t) && x.f.beq y.f && eqL x.ng y.ng (fun k => (x.g k).beq (y.g k))
def EDat.eq (x y : EDat) : Bool := (x.m == y.m) && (x.t == y.t) && x.f.beq y.f && (x.b == y.b)
theorem ETyp.eq_refl (x : ETyp) : x.eq x = true := by simp [ETyp.eq]
theorem ETab.eq_refl (x : ETab) : x.eq x = true := by simp [ETab.eq]
theorem ELim.eq_refl (x : ELim) : x.eq x = true := by simp [ELim.eq]
theorem EImp.eq_refl (x : EImp) : x.eq x = true := by simp [EImp.eq]
theorem EFun.eq_refl (x : EFun) : x.eq x = true := by simp [EFun.eq,Fo.beq_refl]
theorem EGlo.eq_refl (x : EGlo) : x.eq x = true := by simp [EGlo.eq,Fo.beq_refl]
theorem EExp.eq_refl (x : EExp) : x.eq x = true := by simp [EExp.eq]
theorem EElm.eq_refl (x : EElm) : x.eq x = true := by simp [EElm.eq,Fo.beq_refl,eqL]
theorem EDat.eq_refl (x : EDat) : x.eq x = true := by simp [EDat.eq,Fo.beq_refl]
theorem beq_turn {α : Type} [BEq α] [LawfulBEq α] (a b : α) : (a == b) = (b == a) := by
 rw [Bool.eq_iff_iff,beq_iff_eq,beq_iff_eq]
 exact eq_comm
theorem ETyp.eq_comm (x y : ETyp) : x.eq y = y.eq x := by simp only [ETyp.eq,beq_turn x.a,beq_turn x.b]
theorem ETab.eq_comm (x y : ETab) : x.eq y = y.eq x := by simp only [ETab.eq,beq_turn x.r,beq_turn x.mn,beq_turn x.mx,beq_turn x.h]
theorem ELim.eq_comm (x y : ELim) : x.eq y = y.eq x := by simp only [ELim.eq,beq_turn x.mn,beq_turn x.mx,beq_turn x.h]
theorem EImp.eq_comm (x y : EImp) : x.eq y = y.eq x := by
 simp only [EImp.eq,beq_turn x.s0,beq_turn x.s1,beq_turn x.kd,beq_turn x.ty,beq_turn x.tr,beq_turn x.tmn,beq_turn x.tmx,beq_turn x.th,beq_turn x.mmn,beq_turn x.mmx,beq_turn x.mh,beq_turn x.gt,beq_turn x.gm]
theorem EFun.eq_comm (x y : EFun) : x.eq y = y.eq x := by simp only [EFun.eq,beq_turn x.ty,beq_turn x.l,Fo.beq_comm x.f]
theorem EGlo.eq_comm (x y : EGlo) : x.eq y = y.eq x := by simp only [EGlo.eq,beq_turn x.t,beq_turn x.m,Fo.beq_comm x.f]
theorem EExp.eq_comm (x y : EExp) : x.eq y = y.eq x := by simp only [EExp.eq,beq_turn x.s,beq_turn x.k,beq_turn x.ix]
theorem EElm.eq_comm (x y : EElm) : x.eq y = y.eq x := by
 simp only [EElm.eq,beq_turn x.r,beq_turn x.m,beq_turn x.t,Fo.beq_comm x.f]
 rw [eqL_comm x.ng y.ng _ (fun k => (y.g k).beq (x.g k)) (fun k => Fo.beq_comm _ _)]
theorem EDat.eq_comm (x y : EDat) : x.eq y = y.eq x := by simp only [EDat.eq,beq_turn x.m,beq_turn x.t,Fo.beq_comm x.f,beq_turn x.b]
def MD.eq (A B : MD) : Bool :=
 eqL A.tn B.tn (fun i => (A.t i).eq (B.t i)) && (eqL A.imn B.imn (fun i => (A.im i).eq (B.im i)) && (eqL A.fn B.fn (fun i => (A.f i).eq (B.f i)) && (eqL A.tbn B.tbn (fun i => (A.tb i).eq (B.tb i)) && (eqL A.mn B.mn (fun i => (A.m i).eq (B.m i)) && (eqL A.gn B.gn (fun i => (A.g i).eq (B.g i)) && (eqL A.xn B.xn (fun i => (A.x i).eq (B.x i)) && ((A.st == B.st) && (eqL A.en B.en (fun i => (A.e i).eq (B.e i)) && (eqL A.dn B.dn (fun i => (A.d i).eq (B.d i)) && (A.cnt == B.cnt))))))))))
theorem MD.eq_refl (A : MD) : A.eq A = true := by
 unfold MD.eq
 rw [@eqL_refl A.tn (fun i => (A.t i).eq (A.t i)) (fun i _ => ETyp.eq_refl _),@eqL_refl A.imn (fun i => (A.im i).eq (A.im i)) (fun i _ => EImp.eq_refl _),@eqL_refl A.fn (fun i => (A.f i).eq (A.f i)) (fun i _ => EFun.eq_refl _),@eqL_refl A.tbn (fun i => (A.tb i).eq (A.tb i)) (fun i _ => ETab.eq_refl _),@eqL_refl A.mn (fun i => (A.m i).eq (A.m i)) (fun i _ => ELim.eq_refl _),@eqL_refl A.gn (fun i => (A.g i).eq (A.g i)) (fun i _ => EGlo.eq_refl _),@eqL_refl A.xn (fun i => (A.x i).eq (A.x i)) (fun i _ => EExp.eq_refl _),@eqL_refl A.en (fun i => (A.e i).eq (A.e i)) (fun i _ => EElm.eq_refl _),@eqL_refl A.dn (fun i => (A.d i).eq (A.d i)) (fun i _ => EDat.eq_refl _)]
 simp
theorem MD.eq_comm (A B : MD) : A.eq B = B.eq A := by
 simp only [MD.eq,beq_turn A.st,beq_turn A.cnt]
 rw [eqL_comm A.tn B.tn _ _ (fun i => ETyp.eq_comm (A.t i) (B.t i)),eqL_comm A.imn B.imn _ _ (fun i => EImp.eq_comm (A.im i) (B.im i)),eqL_comm A.fn B.fn _ _ (fun i => EFun.eq_comm (A.f i) (B.f i)),eqL_comm A.tbn B.tbn _ _ (fun i => ETab.eq_comm (A.tb i) (B.tb i)),eqL_comm A.mn B.mn _ _ (fun i => ELim.eq_comm (A.m i) (B.m i)),eqL_comm A.gn B.gn _ _ (fun i => EGlo.eq_comm (A.g i) (B.g i)),eqL_comm A.xn B.xn _ _ (fun i => EExp.eq_comm (A.x i) (B.x i)),eqL_comm A.en B.en _ _ (fun i => EElm.eq_comm (A.e i) (B.e i)),eqL_comm A.dn B.dn _ _ (fun i => EDat.eq_comm (A.d i) (B.d i))]
end Go.Proofs.YtjgeedgphcjhoaaGreat
