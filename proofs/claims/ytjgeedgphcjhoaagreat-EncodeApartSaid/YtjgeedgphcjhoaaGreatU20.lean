/-
  EIn4, WCode, RBase, WSec, WName: merged, what the law does not reach left out (each text says what it holds where it lies in wip). No condition.
-/
import Derived.Test.YtjgeedgphcjhoaaGreatU19
import Derived.Test.YtjgeedgphcjhoaaGreatU17
import Derived.Test.YtjgeedgphcjhoaaGreatU09
import Derived.Test.YtjgeedgphcjhoaaGreatU06
import Derived.Test.YtjgeedgphcjhoaaGreatU13
import Derived.Laws.AppendOwnNone
import Derived.Deep.RegionHeld3
import Derived.Test.YtjgeedgphcjhoaaGreatU01
set_option linter.unusedSimpArgs false
set_option linter.unusedVariables false
set_option maxRecDepth 100000
namespace Go.Proofs.YtjgeedgphcjhoaaGreat
open Go.RowKit
theorem len_app (_ b : List UInt8) (n : Int) : (uI n ++ b).length ≤ b.length + 10 := by
 have := uI_len n
 rw [List.length_append]
 omega
def Hd (S : List UInt8) (X : List UInt8) : Prop := ∀ t Z,X = t :: Z → t ∈ S
theorem Hd.nil : Hd [] [] := fun t Z h => by cases h
theorem Hd.sec {S X : List UInt8} (h : Hd S X) (id : Int) (n : Nat) (b : List UInt8) : Hd (byI id :: S) (secL id n b ++ X) := by
 intro t Z e
 unfold secL at e
 split at e
 ·exact List.mem_cons_of_mem _ (h t Z (by simpa using e))
 simp only [List.cons_append,List.cons.injEq] at e
 rw [← e.1]
 exact List.mem_cons_self
theorem sec_inj {id : Int} {n m : Nat} {b c S X Y : List UInt8} (hS : byI id ∉ S) (hX : Hd S X) (hY : Hd S Y) (hb : b.length ≤ 1000000000000) (hc : c.length ≤ 1000000000000) (hn : n ≤ 1000) (hm : m ≤ 1000) (e : secL id n b ++ X = secL id m c ++ Y) : n = m ∧ (n ≠ 0 → b = c) ∧ X = Y := by
 unfold secL at e
 by_cases h1 : n = 0
 ·rw [if_pos h1] at e
  by_cases h2 : m = 0
  ·rw [if_pos h2] at e
   exact ⟨by omega,fun h => absurd h1 h,by simpa using e⟩
  rw [if_neg h2] at e
  exact absurd (hX _ _ (by simpa using e)) hS
 rw [if_neg h1] at e
 by_cases h2 : m = 0
 ·rw [if_pos h2] at e
  exact absurd (hY (byI id) (szL (uI n ++ b) ++ X) (by simpa using e.symm)) hS
 rw [if_neg h2] at e
 simp only [List.cons_append,List.cons.injEq,true_and] at e
 have l1 := len_app [] b n
 have l2 := len_app [] c m
 obtain ⟨h3,h4⟩ := szL_inj (by omega) (by omega) e
 obtain ⟨h5,h6⟩ := uI_inj (x := (n : Int)) (y := (m : Int)) ⟨by omega,by omega⟩ ⟨by omega,by omega⟩ h3
 exact ⟨by omega,fun _ => h6,h4⟩
theorem sec_list {id : Int} {n m : Nat} {P Q : Nat → List UInt8} {R : Nat → Prop} {S X Y : List UInt8} (hS : byI id ∉ S) (hX : Hd S X) (hY : Hd S Y) (hb : (flB n P).length ≤ 1000000000000) (hc : (flB m Q).length ≤ 1000000000000) (hn : n ≤ 1000) (hm : m ≤ 1000)
  (hR : ∀ i,i < n → i < m → ∀ X Y,P i ++ X = Q i ++ Y → R i ∧ X = Y) (e : secL id n (flB n P) ++ X = secL id m (flB m Q) ++ Y) : n = m ∧ (∀ i,i < n → R i) ∧ X = Y := by
 obtain ⟨h1,h2,h3⟩ := sec_inj hS hX hY hb hc hn hm e
 subst h1
 refine ⟨rfl,fun i hi => ?_,h3⟩
 have h4 : flB n P ++ [] = flB n Q ++ [] := by rw [h2 (by omega)]
 exact (flB_inj n [] [] (fun i hi => hR i hi hi) h4).1 i hi
theorem sec_congr (id : Int) {n m : Nat} {P Q : Nat → List UInt8} (h : n = m) (hp : ∀ i,i < n → P i = Q i) : secL id n (flB n P) = secL id m (flB m Q) := by
 subst h
 rw [flB_congr n hp]
noncomputable def cntL (c : Bool) (n : Nat) : List UInt8 := if c = true then 12 :: szL (uI n) else []
theorem Hd.cnt {S X : List UInt8} (h : Hd S X) (c : Bool) (n : Nat) : Hd (12 :: S) (cntL c n ++ X) := by
 intro t Z e
 unfold cntL at e
 split at e
 ·simp only [List.cons_append,List.cons.injEq] at e
  rw [← e.1]
  exact List.mem_cons_self
 exact List.mem_cons_of_mem _ (h t Z (by simpa using e))
theorem cnt_inj {c d : Bool} {n m : Nat} {S X Y : List UInt8} (hS : (12 : UInt8) ∉ S) (hX : Hd S X) (hY : Hd S Y) (e : cntL c n ++ X = cntL d m ++ Y) : c = d ∧ X = Y := by
 unfold cntL at e
 cases c <;> cases d
 ·exact ⟨rfl,by simpa using e⟩
 ·exact absurd (hX 12 (szL (uI m) ++ Y) (by simpa using e)) hS
 ·exact absurd (hY 12 (szL (uI n) ++ X) (by simpa using e.symm)) hS
 simp only [if_true,List.cons_append,List.cons.injEq,true_and] at e
 have h1 := uI_len (n : Int)
 have h2 := uI_len (m : Int)
 exact ⟨rfl,(szL_inj (by omega) (by omega) e).2⟩
theorem Hd.star {S X : List UInt8} (h : Hd S X) (st : Int) : Hd (8 :: S) (starL st ++ X) := by
 intro t Z e
 unfold starL at e
 split at e
 ·exact List.mem_cons_of_mem _ (h t Z (by simpa using e))
 simp only [List.cons_append,List.cons.injEq] at e
 rw [← e.1]
 exact List.mem_cons_self
theorem star_inj {s t : Int} {S X Y : List UInt8} (hS : (8 : UInt8) ∉ S) (hX : Hd S X) (hY : Hd S Y) (rs : 0 ≤ s ∧ s ≤ 4294967296) (rt : 0 ≤ t ∧ t ≤ 4294967296) (e : starL s ++ X = starL t ++ Y) : s = t ∧ X = Y := by
 unfold starL at e
 by_cases h1 : s = 0
 ·rw [if_pos h1] at e
  by_cases h2 : t = 0
  ·rw [if_pos h2] at e
   exact ⟨by omega,by simpa using e⟩
  rw [if_neg h2] at e
  exact absurd (hX 8 (szL (uI (t - 1)) ++ Y) (by simpa using e)) hS
 rw [if_neg h1] at e
 by_cases h2 : t = 0
 ·rw [if_pos h2] at e
  exact absurd (hY 8 (szL (uI (s - 1)) ++ X) (by simpa using e.symm)) hS
 rw [if_neg h2] at e
 simp only [List.cons_append,List.cons.injEq,true_and] at e
 have l1 := uI_len (s - 1)
 have l2 := uI_len (t - 1)
 obtain ⟨h3,h4⟩ := szL_inj (by omega) (by omega) e
 have h3' : uI (s - 1) ++ [] = uI (t - 1) ++ [] := by rw [h3]
 obtain ⟨h5,_⟩ := uI_inj (x := s - 1) (y := t - 1) ⟨by omega,by omega⟩ ⟨by omega,by omega⟩ h3'
 exact ⟨by omega,h4⟩
noncomputable def TL11 (M : MD) : List UInt8 := secL 11 M.dn (flB M.dn fun i => mdL (M.d i)) ++ ([] : List UInt8)
theorem hd_TL11 (M : MD) : Hd [11] (TL11 M) := (Hd.nil).sec _ _ _
noncomputable def TL10 (M : MD) : List UInt8 := secL 10 M.fn (flB M.fn fun i => mfL (M.f i)) ++ TL11 M
theorem hd_TL10 (M : MD) : Hd [10,11] (TL10 M) := (hd_TL11 M).sec _ _ _
noncomputable def TL12 (M : MD) : List UInt8 := cntL M.cnt M.dn ++ TL10 M
theorem hd_TL12 (M : MD) : Hd [12,10,11] (TL12 M) := (hd_TL10 M).cnt _ _
noncomputable def TL9 (M : MD) : List UInt8 := secL 9 M.en (flB M.en fun i => meL (M.e i)) ++ TL12 M
theorem hd_TL9 (M : MD) : Hd [9,12,10,11] (TL9 M) := (hd_TL12 M).sec _ _ _
noncomputable def TL8 (M : MD) : List UInt8 := starL M.st ++ TL9 M
theorem hd_TL8 (M : MD) : Hd [8,9,12,10,11] (TL8 M) := (hd_TL9 M).star _
noncomputable def TL7 (M : MD) : List UInt8 := secL 7 M.xn (flB M.xn fun i => mxL (M.x i)) ++ TL8 M
theorem hd_TL7 (M : MD) : Hd [7,8,9,12,10,11] (TL7 M) := (hd_TL8 M).sec _ _ _
noncomputable def TL6 (M : MD) : List UInt8 := secL 6 M.gn (flB M.gn fun i => mgL (M.g i)) ++ TL7 M
theorem hd_TL6 (M : MD) : Hd [6,7,8,9,12,10,11] (TL6 M) := (hd_TL7 M).sec _ _ _
noncomputable def TL5 (M : MD) : List UInt8 := secL 5 M.mn (flB M.mn fun i => mlL (M.m i)) ++ TL6 M
theorem hd_TL5 (M : MD) : Hd [5,6,7,8,9,12,10,11] (TL5 M) := (hd_TL6 M).sec _ _ _
noncomputable def TL4 (M : MD) : List UInt8 := secL 4 M.tbn (flB M.tbn fun i => mbL (M.tb i)) ++ TL5 M
theorem hd_TL4 (M : MD) : Hd [4,5,6,7,8,9,12,10,11] (TL4 M) := (hd_TL5 M).sec _ _ _
noncomputable def TL3 (M : MD) : List UInt8 := secL 3 M.fn (flB M.fn fun i => uI (M.f i).ty) ++ TL4 M
theorem hd_TL3 (M : MD) : Hd [3,4,5,6,7,8,9,12,10,11] (TL3 M) := (hd_TL4 M).sec _ _ _
noncomputable def TL2 (M : MD) : List UInt8 := secL 2 M.imn (flB M.imn fun i => miL (M.im i)) ++ TL3 M
theorem hd_TL2 (M : MD) : Hd [2,3,4,5,6,7,8,9,12,10,11] (TL2 M) := (hd_TL3 M).sec _ _ _
noncomputable def TL1 (M : MD) : List UInt8 := secL 1 M.tn (flB M.tn fun i => mtL (M.t i)) ++ TL2 M
theorem modL_T (M : MD) : modL M = [0,97,115,109,1,0,0,0] ++ TL1 M := by
 simp only [modL,headsL,midL,TL11,TL10,TL12,TL9,TL8,TL7,TL6,TL5,TL4,TL3,TL2,TL1,cntL,List.append_assoc,List.append_nil]
structure Small (M : MD) : Prop where
 t : (flB M.tn fun i => mtL (M.t i)).length ≤ 1000000000000
 im : (flB M.imn fun i => miL (M.im i)).length ≤ 1000000000000
 ft : (flB M.fn fun i => uI (M.f i).ty).length ≤ 1000000000000
 tb : (flB M.tbn fun i => mbL (M.tb i)).length ≤ 1000000000000
 m : (flB M.mn fun i => mlL (M.m i)).length ≤ 1000000000000
 g : (flB M.gn fun i => mgL (M.g i)).length ≤ 1000000000000
 x : (flB M.xn fun i => mxL (M.x i)).length ≤ 1000000000000
 e : (flB M.en fun i => meL (M.e i)).length ≤ 1000000000000
 f : (flB M.fn fun i => mfL (M.f i)).length ≤ 1000000000000
 d : (flB M.dn fun i => mdL (M.d i)).length ≤ 1000000000000
 c : ∀ i,i < M.fn → (locL (M.f i).l ++ codL (M.f i).f).length ≤ 70000000
 st : 0 ≤ M.st ∧ M.st ≤ 4294967296
theorem may_parts {M : MD} (h : mayP M = true) : (∀ i,i < M.tn → mtP (M.t i) = true) ∧ (∀ i,i < M.imn → miP (M.im i) = true) ∧ (∀ i,i < M.fn → mfP (M.f i) = true) ∧ (∀ i,i < M.tbn → mbP (M.tb i) = true) ∧ (∀ i,i < M.mn → mlP (M.m i) = true) ∧ (∀ i,i < M.gn → mgP (M.g i) = true) ∧ (∀ i,i < M.xn → mxP (M.x i) = true) ∧ (∀ i,i < M.en → meP (M.e i) = true) ∧ (∀ i,i < M.dn → mdP (M.d i) = true) := by
 unfold mayP at h
 simp only [Bool.and_eq_true,List.all_eq_true,List.mem_range] at h
 obtain ⟨⟨⟨⟨⟨⟨⟨⟨⟨⟨h1,h2⟩,h3⟩,h4⟩,h5⟩,h6⟩,h7⟩,h8⟩,h9⟩,h10⟩,h11⟩ := h
 exact ⟨h1,h2,h3,h4,h5,h6,h7,h9,h10⟩
theorem eq_of_parts {A C : MD} (h1 : A.tn = C.tn ∧ ∀ i,i < A.tn → (A.t i).eq (C.t i) = true) (h2 : A.imn = C.imn ∧ ∀ i,i < A.imn → (A.im i).eq (C.im i) = true) (h3 : A.fn = C.fn ∧ ∀ i,i < A.fn → (A.f i).eq (C.f i) = true) (h4 : A.tbn = C.tbn ∧ ∀ i,i < A.tbn → (A.tb i).eq (C.tb i) = true) (h5 : A.mn = C.mn ∧ ∀ i,i < A.mn → (A.m i).eq (C.m i) = true) (h6 : A.gn = C.gn ∧ ∀ i,i < A.gn → (A.g i).eq (C.g i) = true) (h7 : A.xn = C.xn ∧ ∀ i,i < A.xn → (A.x i).eq (C.x i) = true) (h8 : A.st = C.st) (h9 : A.en = C.en ∧ ∀ i,i < A.en → (A.e i).eq (C.e i) = true) (h10 : A.dn = C.dn ∧ ∀ i,i < A.dn → (A.d i).eq (C.d i) = true) (h11 : A.cnt = C.cnt) : A.eq C = true := by
 unfold MD.eq
 rw [(eqL_iff _ _ _).2 h1,(eqL_iff _ _ _).2 h2,(eqL_iff _ _ _).2 h3,(eqL_iff _ _ _).2 h4,(eqL_iff _ _ _).2 h5,(eqL_iff _ _ _).2 h6,(eqL_iff _ _ _).2 h7,(eqL_iff _ _ _).2 h9,(eqL_iff _ _ _).2 h10,h8,h11]
 simp
theorem eq_parts {A C : MD} (h : A.eq C = true) : (A.tn = C.tn ∧ ∀ i,i < A.tn → (A.t i).eq (C.t i) = true) ∧ (A.imn = C.imn ∧ ∀ i,i < A.imn → (A.im i).eq (C.im i) = true) ∧ (A.fn = C.fn ∧ ∀ i,i < A.fn → (A.f i).eq (C.f i) = true) ∧ (A.tbn = C.tbn ∧ ∀ i,i < A.tbn → (A.tb i).eq (C.tb i) = true) ∧ (A.mn = C.mn ∧ ∀ i,i < A.mn → (A.m i).eq (C.m i) = true) ∧ (A.gn = C.gn ∧ ∀ i,i < A.gn → (A.g i).eq (C.g i) = true) ∧ (A.xn = C.xn ∧ ∀ i,i < A.xn → (A.x i).eq (C.x i) = true) ∧ A.st = C.st ∧ (A.en = C.en ∧ ∀ i,i < A.en → (A.e i).eq (C.e i) = true) ∧ (A.dn = C.dn ∧ ∀ i,i < A.dn → (A.d i).eq (C.d i) = true) ∧ A.cnt = C.cnt := by
 unfold MD.eq at h
 simp only [Bool.and_eq_true,beq_iff_eq,eqL_iff] at h
 exact h
theorem modL_inj {A C : MD} {B : Nat} {w w2 : World} (oa : A.ok B w) (oc : C.ok B w2) (fa : FitM A) (fc : FitM C) (sa : Small A) (sc : Small C) (ha : mayP A = true) (hc : mayP C = true) (e : modL A = modL C) : A.eq C = true := by
 obtain ⟨a1,a2,a3,a4,a5,a6,a7,a8,a9⟩ := may_parts ha
 obtain ⟨c1,c2,c3,c4,c5,c6,c7,c8,c9⟩ := may_parts hc
 have k1 := fa.tn; have k2 := fa.imn; have k3 := fa.fn; have k4 := fa.tbn; have k5 := fa.mn; have k6 := fa.gn; have k7 := fa.xn; have k8 := fa.en; have k9 := fa.dn
 have q1 := fc.tn; have q2 := fc.imn; have q3 := fc.fn; have q4 := fc.tbn; have q5 := fc.mn; have q6 := fc.gn; have q7 := fc.xn; have q8 := fc.en; have q9 := fc.dn
 rw [modL_T,modL_T] at e
 have e1 : TL1 A = TL1 C := by simpa using e
 obtain ⟨n1,h1,e2⟩ := sec_list (R := fun i => (A.t i).eq (C.t i) = true) (by decide) (hd_TL2 A) (hd_TL2 C) sa.t sc.t (by omega) (by omega) (fun i hi hj X Y h => mt_inj (a1 i hi) (c1 i hj) (fa.t i hi) (fc.t i hj) h) e1
 obtain ⟨n2,h2,e3⟩ := sec_list (R := fun i => (A.im i).eq (C.im i) = true) (by decide) (hd_TL3 A) (hd_TL3 C) sa.im sc.im (by omega) (by omega) (fun i hi hj X Y h => mi_inj (oa.imz i hi) (oc.imz i hj) (a2 i hi) (c2 i hj) (fa.im i hi) (fc.im i hj) h) e2
 have idx : ∀ {x : EFun},mfP x = true → i64B x.ty → uR x.ty := by
  intro x hx hr
  unfold mfP at hx
  simp only [Bool.and_eq_true] at hx
  exact (idxB_in hr hx.1.1.1).1
 obtain ⟨n3,h3,e4⟩ := sec_list (R := fun i => (A.f i).ty = (C.f i).ty) (by decide) (hd_TL4 A) (hd_TL4 C) sa.ft sc.ft (by omega) (by omega) (fun i hi hj X Y h => uI_inj (idx (a3 i hi) (oa.fz i hi).h0) (idx (c3 i hj) (oc.fz i hj).h0) h) e3
 obtain ⟨n4,h4,e5⟩ := sec_list (R := fun i => (A.tb i).eq (C.tb i) = true) (by decide) (hd_TL5 A) (hd_TL5 C) sa.tb sc.tb (by omega) (by omega) (fun i hi hj X Y h => mb_inj (oa.tbz i hi) (oc.tbz i hj) (a4 i hi) (c4 i hj) h) e4
 obtain ⟨n5,h5,e6⟩ := sec_list (R := fun i => (A.m i).eq (C.m i) = true) (by decide) (hd_TL6 A) (hd_TL6 C) sa.m sc.m (by omega) (by omega) (fun i hi hj X Y h => ml_inj (oa.mz i hi) (oc.mz i hj) (a5 i hi) (c5 i hj) h) e5
 obtain ⟨n6,h6,e7⟩ := sec_list (R := fun i => (A.g i).eq (C.g i) = true) (by decide) (hd_TL7 A) (hd_TL7 C) sa.g sc.g (by omega) (by omega) (fun i hi hj X Y h => mg_inj (oa.gz i hi) (oc.gz i hj) (a6 i hi) (c6 i hj) h) e6
 obtain ⟨n7,h7,e8⟩ := sec_list (R := fun i => (A.x i).eq (C.x i) = true) (by decide) (hd_TL8 A) (hd_TL8 C) sa.x sc.x (by omega) (by omega) (fun i hi hj X Y h => mx_inj (oa.xz i hi) (oc.xz i hj) (a7 i hi) (c7 i hj) (fa.x i hi) (fc.x i hj) h) e7
 obtain ⟨h8,e9⟩ := star_inj (by decide) (hd_TL9 A) (hd_TL9 C) sa.st sc.st e8
 obtain ⟨n9,h9,e12⟩ := sec_list (R := fun i => (A.e i).eq (C.e i) = true) (by decide) (hd_TL12 A) (hd_TL12 C) sa.e sc.e (by omega) (by omega) (fun i hi hj X Y h => me_inj (oa.ez i hi) (oc.ez i hj) (a8 i hi) (c8 i hj) (fa.e i hi).2 (fc.e i hj).2 h) e9
 obtain ⟨h12,e10⟩ := cnt_inj (by decide) (hd_TL10 A) (hd_TL10 C) e12
 obtain ⟨n10,h10,e11⟩ := sec_list (R := fun i => (((A.f i).l == (C.f i).l) && (A.f i).f.beq (C.f i).f) = true) (by decide) (hd_TL11 A) (hd_TL11 C) sa.f sc.f (by omega) (by omega) (fun i hi hj X Y h => mf_inj (oa.fz i hi) (oc.fz i hj) (a3 i hi) (c3 i hj) (sa.c i hi) (sc.c i hj) h) e10
 obtain ⟨n11,h11,_⟩ := sec_list (R := fun i => (A.d i).eq (C.d i) = true) (by decide) Hd.nil Hd.nil sa.d sc.d (by omega) (by omega) (fun i hi hj X Y h => md_inj (oa.dz i hi) (oc.dz i hj) (a9 i hi) (c9 i hj) (fa.d i hi).2 (fc.d i hj).2 h) e11
 refine eq_of_parts ⟨n1,h1⟩ ⟨n2,h2⟩ ⟨n3,fun i hi => ?_⟩ ⟨n4,h4⟩ ⟨n5,h5⟩ ⟨n6,h6⟩ ⟨n7,h7⟩ h8 ⟨n9,h9⟩ ⟨n11,h11⟩ h12
 have h13 := h10 i hi
 rw [Bool.and_eq_true] at h13
 unfold EFun.eq
 rw [h3 i hi,h13.1,h13.2]
 simp
theorem modL_same {A C : MD} (h : A.eq C = true) : modL A = modL C := by
 obtain ⟨⟨n1,h1⟩,⟨n2,h2⟩,⟨n3,h3⟩,⟨n4,h4⟩,⟨n5,h5⟩,⟨n6,h6⟩,⟨n7,h7⟩,h8,⟨n9,h9⟩,⟨n10,h10⟩,h11⟩ := eq_parts h
 have x1 := sec_congr 1 n1 (P := fun i => mtL (A.t i)) (Q := fun i => mtL (C.t i)) (fun i hi => by
  have := h1 i hi
  simp only [ETyp.eq,Bool.and_eq_true,beq_iff_eq] at this
  simp only [mtL,this.1,this.2])
 have x2 := sec_congr 2 n2 (P := fun i => miL (A.im i)) (Q := fun i => miL (C.im i)) (fun i hi => by
  have := h2 i hi
  simp only [EImp.eq,Bool.and_eq_true,beq_iff_eq] at this
  obtain ⟨⟨⟨⟨⟨⟨⟨⟨⟨⟨⟨⟨q1,q2⟩,q3⟩,q4⟩,q5⟩,q6⟩,q7⟩,q8⟩,q9⟩,q10⟩,q11⟩,q12⟩,q13⟩ := this
  simp only [miL,q1,q2,q3,q4,q5,q6,q7,q8,q9,q10,q11,q12,q13])
 have f3 : ∀ i,i < A.fn → (A.f i).ty = (C.f i).ty ∧ (A.f i).l = (C.f i).l ∧ (A.f i).f = (C.f i).f := fun i hi => by
  have := h3 i hi
  simp only [EFun.eq,Bool.and_eq_true,beq_iff_eq,Fo.beq_iff] at this
  exact ⟨this.1.1,this.1.2,this.2⟩
 have x3 := sec_congr 3 n3 (P := fun i => uI (A.f i).ty) (Q := fun i => uI (C.f i).ty) (fun i hi => by simp only [(f3 i hi).1])
 have x10 := sec_congr 10 n3 (P := fun i => mfL (A.f i)) (Q := fun i => mfL (C.f i)) (fun i hi => by simp only [mfL,(f3 i hi).2.1,(f3 i hi).2.2])
 have x4 := sec_congr 4 n4 (P := fun i => mbL (A.tb i)) (Q := fun i => mbL (C.tb i)) (fun i hi => by
  have := h4 i hi
  simp only [ETab.eq,Bool.and_eq_true,beq_iff_eq] at this
  simp only [mbL,this.1.1.1,this.1.1.2,this.1.2,this.2])
 have x5 := sec_congr 5 n5 (P := fun i => mlL (A.m i)) (Q := fun i => mlL (C.m i)) (fun i hi => by
  have := h5 i hi
  simp only [ELim.eq,Bool.and_eq_true,beq_iff_eq] at this
  simp only [mlL,this.1.1,this.1.2,this.2])
 have x6 := sec_congr 6 n6 (P := fun i => mgL (A.g i)) (Q := fun i => mgL (C.g i)) (fun i hi => by
  have := h6 i hi
  simp only [EGlo.eq,Bool.and_eq_true,beq_iff_eq,Fo.beq_iff] at this
  simp only [mgL,this.1.1,this.1.2,this.2])
 have x7 := sec_congr 7 n7 (P := fun i => mxL (A.x i)) (Q := fun i => mxL (C.x i)) (fun i hi => by
  have := h7 i hi
  simp only [EExp.eq,Bool.and_eq_true,beq_iff_eq] at this
  simp only [mxL,this.1.1,this.1.2,this.2])
 have x9 := sec_congr 9 n9 (P := fun i => meL (A.e i)) (Q := fun i => meL (C.e i)) (fun i hi => by
  have := h9 i hi
  simp only [EElm.eq,Bool.and_eq_true,beq_iff_eq,Fo.beq_iff,eqL_iff] at this
  obtain ⟨⟨⟨⟨q1,q2⟩,q3⟩,q4⟩,q5,q6⟩ := this
  have hfu : funsB (A.e i) = funsB (C.e i) := by
   unfold funsB
   rw [q1,← q5]
   congr 1
   rw [Bool.eq_iff_iff]
   simp only [List.all_eq_true,List.mem_range]
   exact ⟨fun k j hj => by rw [← q6 j hj]; exact k j hj,fun k j hj => by rw [q6 j hj]; exact k j hj⟩
  have hfl := flB_congr (P := fun k => iniL (funsB (C.e i)) ((A.e i).g k)) (Q := fun k => iniL (funsB (C.e i)) ((C.e i).g k)) (A.e i).ng (fun k hk => by simp only [q6 k hk])
  simp only [meL,hfu,q1,q2,q3,q4,hfl]
  rw [q5])
 have x11 := sec_congr 11 n10 (P := fun i => mdL (A.d i)) (Q := fun i => mdL (C.d i)) (fun i hi => by
  have := h10 i hi
  simp only [EDat.eq,Bool.and_eq_true,beq_iff_eq,Fo.beq_iff] at this
  simp only [mdL,this.1.1.1,this.1.1.2,this.1.2,this.2])
 simp only [modL_T,TL1,TL2,TL3,TL4,TL5,TL6,TL7,TL8,TL9,TL10,TL11,TL12,x1,x2,x3,x4,x5,x6,x7,x9,x10,x11]
 simp only [h8,h11,n10]
end Go.Proofs.YtjgeedgphcjhoaaGreat
namespace Go.Proofs.YtjgeedgphcjhoaaGreat
open Go.RowKit
set_option maxHeartbeats 1000000 in
theorem code_says (B g : Nat) (f : Fo) (hf : f.cnt < 9223372036854775806) (hok : okE f) (v : Value) (bs : List UInt8) (w : World) (hw : WR B g bs w) (hs : SA (lo B g) w v f) (hn : bs.length + 20 + f.siz ≤ 140737488355000) :
  Calls Tryz.prog 136 #[.pointer (some ⟨g,0,none⟩),v] w fun e w' => e = .returned (.tuple #[]) ∧ WR B g (bs ++ (f.enc ++ [11])) w' ∧ FR B g w w' := by
 have HI := hid (instrs_says B g (f.cnt + 1) f (by omega) hf hok v w hw.base hs bs w (Below.refl _ _) hw (by omega))
 have hsz := enc_siz f hok
 obtain ⟨p,c,g',o',rfl,_,_⟩ := hs
 have HN := hid (show (bs ++ f.enc).length + ([11] : List Int).length ≤ 140737488355000 by simp only [List.length_append,List.length_cons,List.length_nil]; omega)
 clear hn hsz hok hf hw
 generalize f.len = m at *
 go_enter Tryz.func136,Tryz.ntmps136
 go_wp2_with (first
  | (go_at_call 208; (with_reducible refine HI.out.mono ?_); rintro e w1 ⟨rfl,hw1,hf1⟩; have HW1 := hid hw1; have HF1 := hid hf1; clear hw1 hf1)
  | (go_at_call 169; (with_reducible refine (bytes_says B g _ [11] _ _ (HW1.out.alloc _) (LT.one 11 1 HW1.out.lt) HN.out).mono ?_); rintro e w2 ⟨rfl,hw2,hf2⟩; have HW2 := hid hw2; have HF2 := hid ((HF1.out.alloc _).trans hf2); clear hw2 hf2))
 (first | go_end0 | refine bodyPost_ret (results_none rfl _ _ _) rfl ?_)
 exact ⟨rfl,by rw [← List.append_assoc]; exact HW2.out,HF2.out⟩
end Go.Proofs.YtjgeedgphcjhoaaGreat
namespace Go.Proofs.YtjgeedgphcjhoaaGreat
open Go.RowKit
structure RF (B : Nat) (w w' : World) : Prop where
 os : w'.os = w.os
 tape : w'.tape = w.tape
 output : w'.output = w.output
 size : w.heap.size ≤ w'.heap.size
 block : ∀ k,k < w.heap.size → (k < B ∨ ∃ cs T fr,w.heap[k]? = some (.cells cs T fr) ∧ T ≠ 5) → w'.heap[k]? = w.heap[k]?
theorem RF.refl (B : Nat) (w : World) : RF B w w := ⟨rfl,rfl,rfl,Nat.le_refl _,fun _ _ _ => rfl⟩
theorem RF.nw {B : Nat} {w w' : World} (h : RF B w w') {k : Nat} (hl : k < w.heap.size) (hk : k < B ∨ ∃ cs T fr,w.heap[k]? = some (.cells cs T fr) ∧ T ≠ 5) : k < B ∨ ∃ cs T fr,w'.heap[k]? = some (.cells cs T fr) ∧ T ≠ 5 := by
 rcases hk with h2 | ⟨cs,T,fr,h2,h3⟩
 ·exact .inl h2
 exact .inr ⟨cs,T,fr,(h.block k hl (.inr ⟨cs,T,fr,h2,h3⟩)).trans h2,h3⟩
theorem RF.trans {B : Nat} {a b c : World} (h : RF B a b) (k : RF B b c) : RF B a c :=
 ⟨k.os.trans h.os,k.tape.trans h.tape,k.output.trans h.output,Nat.le_trans h.size k.size,fun i hi hk => (k.block i (Nat.lt_of_lt_of_le hi h.size) (h.nw hi hk)).trans (h.block i hi hk)⟩
theorem RF.of {B : Nat} {w w' : World} (h : Below w.heap.size w w') : RF B w w' := ⟨h.os,h.tape,h.output,h.size,fun k hk _ => h.block k hk⟩
theorem RF.alloc {B : Nat} {a w : World} (h : RF B a w) (o : Obj) : RF B a (w.alloc o) := h.trans (RF.of ((Below.refl _ _).alloc (Nat.le_refl _) o))
theorem RF.drew {B : Nat} {a w : World} (h : RF B a w) : RF B a w.drew := ⟨h.os,h.tape,h.output,h.size,h.block⟩
theorem RF.below {B : Nat} {w w' : World} (h : RF B w w') (hB : B ≤ w.heap.size) : Below B w w' :=
 ⟨h.os,h.tape,h.output,h.size,fun k hk => h.block k (by omega) (.inl hk)⟩
theorem RF.grown {B : Nat} {w w' : World} {v : Value} {n : Nat} {xs : List Value} (ho : w.ownsRow B 5 1 v n xs) (hg : w.grownBy w' v.ownBlock) : RF B w w' :=
 ⟨hg.os,hg.tape,hg.output,hg.size,fun k hl hk => hg.block k hl (by
  rcases hk with h2 | ⟨cs,T,fr,h2,h3⟩
  ·intro e
   have := (ho.lt k e.symm).1
   omega
  exact (Lib.ownBlock_ne ho h2 h3).symm)⟩
theorem CA.rf {B k : Nat} {cs : Array Value} {T : TypeId} {w w' : World} (h : CA k cs T w) (hf : RF B w w') (hT : T ≠ 5) : CA k cs T w' := by
 have := hf.block k h.lt (.inr ⟨cs,T,_,h,hT⟩)
 unfold CA at h ⊢
 rw [this,h]
theorem own_nil (w : World) (B : Nat) : w.ownsRow B 5 1 (.slice none 0 0) ([] : List UInt8).length (Lib.byteCells []) := World.ownsRow_nil _ _ _ _
end Go.Proofs.YtjgeedgphcjhoaaGreat
namespace Go.Proofs.YtjgeedgphcjhoaaGreat
open Go.RowKit
def WM (B g k : Nat) (args : Array Value) (X : List UInt8) (w : World) : Prop :=
 ∀ bs,WR B g bs w → bs.length ≤ 100000000000000 → Calls Tryz.prog k args w fun e w' => e = .returned (.tuple #[]) ∧ WR B g (bs ++ X) w' ∧ FR B g w w'
theorem row_keep {w w' : World} {c : Option Nat} {base : Nat} {v : Value} {n : Nat} {xs : List Value} (h : w.ownsRow base 5 1 v n xs) (hb : KP c w w') (hc : ∀ k,v.ownBlock = some k → c ≠ some k) : w'.ownsRow base 5 1 v n xs := by
 refine ⟨h.1,?_⟩
 rcases h.2 with h2 | ⟨g,cap,cur,h1,h2,h3,h4⟩
 ·exact .inl h2
 refine .inr ⟨g,cap,cur,h1,h2,(hb.block g (Array.getElem?_eq_some_iff.1 h3).1 (hc g ?_)).trans h3,h4⟩
 rw [h1]
 rfl
theorem row_nw {B g : Nat} {w w' : World} {base : Nat} {v : Value} {n : Nat} {xs : List Value} (h : w.ownsRow base 5 1 v n xs) (hb : FR B g w w') (hc : ∀ k,v.ownBlock = some k → NW B g w k) : w'.ownsRow base 5 1 v n xs := by
 refine ⟨h.1,?_⟩
 rcases h.2 with h2 | ⟨g,cap,cur,h1,h2,h3,h4⟩
 ·exact .inl h2
 refine .inr ⟨g,cap,cur,h1,h2,(hb.block g (hc g ?_)).trans h3,h4⟩
 rw [h1]
 rfl
theorem row_len {w : World} {base : Nat} {p : Option Addr} {q c n : Nat} {xs : List Value} (h : w.ownsRow base 5 1 (.slice p q c) n xs) : q = n := by
 rcases h.2 with ⟨h2,h3⟩ | ⟨g,cap,cur,h1,_⟩
 ·injection h2 with _ e _
  omega
 injection h1
theorem FR.kp {g : Nat} {w w' : World} (h : FR w.heap.size g w w') : KP (some g) w w' := ⟨h.os,h.tape,h.output,h.size,fun k hk hc => h.block k ⟨fun e => hc (by rw [e]),hk,.inl hk⟩⟩
theorem FR.up {B B' g : Nat} {w w' : World} (h : FR B' g w w') (hB : w.heap.size ≤ B') : FR B g w w' := ⟨h.os,h.tape,h.output,h.size,fun k hk => h.block k ⟨hk.1,hk.2.1,.inl (by have := hk.2.1; omega)⟩,h.own⟩
theorem append_rowF {w : World} {ops : Array Oper} {rest : List Oper} {o : Oper} {a : Act} {Q : Exit → Act → World → Prop} (hgd : o.guard = none) (s x : Operand)
  (ho : o.op = .call { callee := .builtin .append,args := #[s,x],argTypes := #[52,52] }) (B g : Nat) (bs ys : List UInt8) (v v2 : Value) (B2 : Nat) (W0 : World)
  (hBw : B ≤ w.heap.size) (hc : CA g #[v] 137 w) (hown : w.ownsRow B 5 1 v bs.length (Lib.byteCells bs)) (hown2 : w.ownsRow B2 5 1 v2 ys.length (Lib.byteCells ys)) (hn : bs.length + ys.length ≤ 140737488355328) (hga : g < W0.heap.size) (hf : FR B g W0 w) (hs : a.eval s = v) (hx : a.eval x = v2)
  (h : ∀ p m c w',w'.ownsRow B 5 1 (.slice p m c) (bs ++ ys).length (Lib.byteCells (bs ++ ys)) → CA g #[v] 137 w' → FR B g W0 w' → FR B g W0 (w'.setCell ⟨g,0,none⟩ (.slice p m c)) → wpList Tryz.prog ops Q rest (a.put o.dst (.slice p m c)) w') :
  wpList Tryz.prog ops Q (o :: rest) a w := by
 refine wpList_plain hgd fun K hK => ?_
 have key : ∃ v' w',(Builtin.append_ #[52,52] o.type #[v,v2]).run Tryz.prog w = .ok v' w' ∧ w'.ownsRow B 5 1 v' (bs ++ ys).length (Lib.byteCells (bs ++ ys)) ∧ w.grownBy w' v.ownBlock ∧ ∀ j,v'.ownBlock = some j → v.ownBlock = some j ∨ w.heap.size ≤ j := by
  rcases hown2.2 with ⟨rfl,h2⟩ | ⟨g2,cap,cur,rfl,hr⟩
  ·obtain ⟨i0,hi,hz0,hz1,hz2⟩ := info_parts info5
   obtain rfl : ys = [] := List.eq_nil_of_length_eq_zero h2
   exact ⟨v,w,run_append_owned_none (P := Tryz.prog) (w := w) B 52 o.type 5 i0 1 Tryz.underlying52 hi v bs.length (Lib.byteCells bs) hown,by rw [List.append_nil]; exact hown,⟨rfl,rfl,rfl,Nat.le_refl _,fun _ _ _ => rfl⟩,fun j e => .inl e⟩
  obtain ⟨v',w',h1,h2,h3,h4⟩ := run_app5 w B o.type v bs.length (Lib.byteCells bs) hown ⟨g2,0,none⟩ ys.length cap (Lib.byteCells ys) (by rw [Lib.byteCells_length]) (own_cells hown2) (byteCells_one ys) hn hBw
  exact ⟨v',w',h1,by rw [List.length_append,Lib.byteCells_append]; exact h2,h3,h4⟩
 obtain ⟨v',w',hrun,r1,r2,r3⟩ := key
 obtain ⟨p,m,c,rfl⟩ := own_slice r1
 have hne := Lib.ownBlock_ne hown hc (by decide)
 have hc2 := WR.set_row hc hown r2
 have hf2 := hf.trans (FR.grown (g := g) hown r2 (hc.at rfl) hne)
 unfold Oper.wp
 simp [execOp,ho,resolve,invoke,builtin,hs,hx,hrun,Result.andThen]
 exact hK _ _ (h _ _ _ _ r1 hc2 hf2 (hf2.put (hc2.at (v := v) rfl) _ (own_put hf hga (hc.at rfl) r3)))
set_option maxHeartbeats 4000000 in
theorem sized_wm (B g k : Nat) (eg : ∀ args w,(callFunc k args).run Tryz.prog w = .ok (.enter k args) w) (cs : Array Value) (X : List UInt8) (w : World) (hX : X.length ≤ 2000000000000)
  (hc : ∀ B' W,B ≤ B' → FR B g w W → WR B' g [] W → Calls Tryz.prog k cs W fun e w' => e = .returned (.tuple #[]) ∧ WR B' g X w' ∧ FR B' g W w') :
  WM B g 187 #[.pointer (some ⟨g,0,none⟩),.func (.func k) #[] cs] (szL X) w := by
 intro bs hw hn
 have HGA := hid hw.lt
 obtain ⟨hB,u,hcu,ho⟩ := hw
 obtain ⟨pu,nu,cu,rfl⟩ := own_slice ho
 have HO := hid ho
 have HBW := hid hB
 have HCU := hid hcu
 have HC := hid hc
 have HX := hid hX
 have HN := hid hn
 have HUX := hid (uI_len X.length)
 have y0 := HCU.out.at (k := 0) (v := .slice pu nu cu) rfl
 have y1 := HCU.out.free 0
 have HC1 : Hid (CA g #[.slice none 0 0] 137 (w.setCell ⟨g,0,none⟩ (.slice none 0 0))) := hid (HCU.out.set (k := 0) (.slice none 0 0))
 have HK1 := hid (KP.set w g 0 (.slice none 0 0))
 have HF1 := hid ((FR.refl B g w).put (HCU.out.at (v := .slice pu nu cu) rfl) (.slice none 0 0) (fun k _ _ e => by cases e))
 have HO1 := hid (row_keep HO.out HK1.out (fun k hk e => Lib.ownBlock_ne HO.out HCU.out (by decide) (by rw [hk]; exact e.symm)))
 have HS1 := hid (show (w.setCell ⟨g,0,none⟩ (.slice none 0 0)).heap.size = w.heap.size by simp [World.setCell])
 clear ho hB hcu hc hX hn HO
 go_enter Tryz.func187,Tryz.ntmps187
 go_upto_region 2 with fail
 clear y0 y1
 generalize w.setCell ⟨g,0,none⟩ (.slice none 0 0) = w1 at *
 have HCC := hid (HC.out w1.heap.size w1 (by rw [HS1.out]; exact HBW.out) HF1.out ⟨Nat.le_refl _,_,HC1.out,World.ownsRow_nil _ _ _ _⟩)
 go_upto_region 3 with (go_at_fn k; (with_reducible refine HCC.out.mono ?_); rintro e w2 ⟨rfl,⟨hb2,u2,hc2,ho2⟩,hf2⟩; obtain ⟨p2,n2,c2,rfl⟩ := own_slice ho2; have HC2 := hid hc2; have HO2 := hid ho2; have HF2 := hid hf2; have hn2 := row_len ho2; clear hb2 hc2 ho2 hf2)
 subst hn2
 have HKP := hid (FR.kp HF2.out)
 have HO3 := hid (row_keep HO1.out HKP.out (fun j hj e => Lib.ownBlock_ne HO1.out HC1.out (by decide) (by rw [hj]; exact e.symm)))
 have y0 := HC2.out.at (k := 0) (v := .slice p2 X.length c2) rfl
 have y1 := HC2.out.free 0
 have HF3 := hid (HF1.out.trans (FR.up (B := B) HF2.out (Nat.le_refl _)))
 have hsz := HF3.out.size
 have hB2 : B ≤ w2.heap.size := Nat.le_trans HBW.out hsz
 have HKS := hid (KP.set w2 g 0 (.slice pu nu cu))
 have HW3 := hid (show WR B g bs (w2.setCell ⟨g,0,none⟩ (.slice pu nu cu)) from ⟨by simpa [World.setCell] using hB2,_,HC2.out.set (k := 0) _,row_keep HO3.out HKS.out (fun j hj e => Lib.ownBlock_ne HO3.out HC2.out (by decide) (by rw [hj]; exact e.symm))⟩)
 have HX3 := hid (row_keep HO2.out HKS.out (fun j hj e => Lib.ownBlock_ne HO2.out HC2.out (by decide) (by rw [hj]; exact e.symm)))
 have HF4 := hid (HF3.out.put (HC2.out.at (v := .slice p2 X.length c2) rfl) (.slice pu nu cu) (fun j _ hn => hn _ (HCU.out.at rfl)))
 have HLT := hid (fun j (e : (Value.slice pu nu cu).ownBlock = some j) => (HO1.out.lt j e).2)
 have HGE := hid (fun j (e : (Value.slice p2 X.length c2).ownBlock = some j) => (HO2.out.lt j e))
 have HS3 := hid (show (w2.setCell ⟨g,0,none⟩ (.slice pu nu cu)).heap.size = w2.heap.size by simp [World.setCell])
 go_upto_region 5 with fail
 clear y0 y1 hsz hB2 HF3 HKS HKP
 have HY3 := hid (show CA g #[.slice pu nu cu] 137 (w2.setCell ⟨g,0,none⟩ (.slice pu nu cu)) from HC2.out.set (k := 0) _)
 generalize w2.setCell ⟨g,0,none⟩ (.slice pu nu cu) = w3 at *
 have HU := hid (u_says B g bs X.length w3 HW3.out.1 HW3.out (by have := HN.out; omega))
 go_upto_region 6 with (go_at_call 105; (with_reducible refine HU.out.mono ?_); rintro e w4 ⟨rfl,hw4,hf4⟩; have HW4 := hid hw4; have HF5 := hid hf4; clear hw4 hf4)
 have HX4 := hid (row_nw HX3.out HF5.out (fun j hj => ⟨fun e => Lib.ownBlock_ne HX3.out HY3.out (by decide) (by rw [hj,e]),by rw [HS3.out]; exact (HGE.out j hj).2,.inr (.inr ⟨HY3.out.lt,fun u hu => by
  rw [HY3.out.at (v := .slice pu nu cu) rfl] at hu
  obtain rfl := Option.some.inj hu
  intro e
  have h1 := HLT.out j e
  have h2 := (HGE.out j hj).1
  omega⟩)⟩))
 obtain ⟨hb4,u4,hc4,ho4⟩ := HW4.out
 obtain ⟨p4,n4,c4,rfl⟩ := own_slice ho4
 have HC4 := hid hc4
 have HO4 := hid ho4
 have HB4 := hid hb4
 have y0 := HC4.out.at (k := 0) (v := .slice p4 n4 c4) rfl
 have y1 := HC4.out.free 0
 have HF6 := hid (HF4.out.trans HF5.out)
 clear hb4 hc4 ho4
 have HLE := hid (show (bs ++ uI X.length).length + X.length ≤ 140737488355328 by
  have h1 := HN.out
  have h2 := HX.out
  have h3 := HUX.out
  simp only [List.length_append]
  omega)
 go_wp2_with (at_builtin; refine append_rowF rfl _ _ rfl B g _ _ _ _ _ w HB4.out HC4.out HO4.out HX4.out HLE.out HGA.out HF6.out rfl rfl ?_; intro p5 m5 c5 w5 ho5 hc5 hf5 hf6; have y0 := hc5.at (k := 0) (v := .slice p4 n4 c4) rfl; have y1 := hc5.free 0; have HW5 := hid (WR.put (bs := bs ++ uI X.length ++ X) (Nat.le_trans HBW.out hf5.size) hc5 ho5); have HF7 := hid hf6; clear ho5 hc5 hf5 hf6)
 (first | go_end0 | refine bodyPost_ret (results_none rfl _ _ _) rfl ?_)
 exact ⟨rfl,by rw [szL,← List.append_assoc]; exact HW5.out,HF7.out⟩
set_option maxHeartbeats 4000000 in
theorem section_wm (B g k : Nat) (eg : ∀ args w,(callFunc k args).run Tryz.prog w = .ok (.enter k args) w) (cs : Array Value) (id : Int) (X : List UInt8) (w : World) (hX : X.length ≤ 2000000000000)
  (hc : ∀ B' W,B ≤ B' → FR B g w W → WR B' g [] W → Calls Tryz.prog k cs W fun e w' => e = .returned (.tuple #[]) ∧ WR B' g X w' ∧ FR B' g W w') :
  ∀ bs,WR B g bs w → bs.length ≤ 90000000000000 → Calls Tryz.prog 118 #[.pointer (some ⟨g,0,none⟩),.int .i64 id,.func (.func k) #[] cs] w fun e w' => e = .returned (.tuple #[]) ∧ WR B g (bs ++ byI id :: szL X) w' ∧ FR B g w w' := by
 intro bs hw hn
 have HW := hid hw
 have HN1 := hid (show bs.length + ([id] : List Int).length ≤ 140737488355000 by simp only [List.length_cons,List.length_nil]; omega)
 have HN2 := hid (show (bs ++ ([id] : List Int).map byI).length ≤ 100000000000000 by simp only [List.length_append,List.length_map,List.length_cons,List.length_nil]; omega)
 have HS := fun (W : World) (h : FR B g w W) (bs : List UInt8) (h2 : WR B g bs W) (h3 : bs.length ≤ 100000000000000) => hid (sized_wm B g k eg cs X W hX (fun B' W' h1 h2 h3 => hc B' W' h1 (h.trans h2) h3) bs h2 h3)
 clear hw hn hc hX
 go_enter Tryz.func118,Tryz.ntmps118
 go_wp2_with (first
  | (go_at_call 169; (with_reducible refine (bytes_says B g bs [id] _ _ (HW.out.alloc _) (LT.one id 1 HW.out.lt) HN1.out).mono ?_); rintro e w1 ⟨rfl,hw1,hf1⟩; have HW1 := hid hw1; have HF1 := hid (((FR.refl B g w).alloc _).trans hf1); clear hw1 hf1)
  | (go_at_call 187; (with_reducible refine (HS _ HF1.out _ HW1.out HN2.out).out.mono ?_); rintro e w2 ⟨rfl,hw2,hf2⟩; have HW2 := hid hw2; have HF2 := hid (HF1.out.trans hf2); clear hw2 hf2))
 (first | go_end0 | refine bodyPost_ret (results_none rfl _ _ _) rfl ?_)
 refine ⟨rfl,?_,HF2.out⟩
 have := HW2.out
 simpa using this
end Go.Proofs.YtjgeedgphcjhoaaGreat
namespace Go.Proofs.YtjgeedgphcjhoaaGreat
open Go.RowKit
set_option maxHeartbeats 2000000 in
theorem name_of (B g : Nat) (bs : List UInt8) (s : ByteArray) (y : List UInt8) (m : Nat) (hm : m = y.length) (w : World) (hw : WR B g bs w) (hn : bs.length + m ≤ 140737488355000)
  (HU : ∀ W,Hid (Calls Tryz.prog 228 #[.slice none 0 0,.string s] W fun e w' => ∃ g2 c2,e = .returned (.slice (some ⟨g2,0,none⟩) m c2) ∧ w'.ownsRow W.heap.size 5 1 (.slice (some ⟨g2,0,none⟩) m c2) m (Lib.byteCells y) ∧ Below W.heap.size W w')) :
  Calls Tryz.prog 173 #[.pointer (some ⟨g,0,none⟩),.string s] w fun e w' => e = .returned (.tuple #[]) ∧ WR B g (bs ++ y) w' ∧ FR B g w w' := by
 have HGA := hid hw.lt
 obtain ⟨hBg,u,hc,ho⟩ := hw
 obtain ⟨pu,nu,cu,rfl⟩ := own_slice ho
 have HN2 := hid (show (bs.length + m) * 1 ≤ 140737488355328 by omega)
 have HBW := hid hBg
 have HM := hid hm
 have HC0 := hid hc
 have HO0 := hid ho
 clear hBg hc ho hm hn
 go_enter Tryz.func173,Tryz.ntmps173
 go_upto_region 0 with fail
 have hS : FR B g w w.drew := (FR.refl B g w).drew
 have HC : Hid (CA g #[.slice pu nu cu] 137 w.drew) := HC0
 have HO : Hid (w.drew.ownsRow B 5 1 (.slice pu nu cu) bs.length (Lib.byteCells bs)) := HO0
 clear HC0 HO0
 refine wp_region_held_drew (S := fun W => FR B g w W) (by kernel_rfl) hS (fun _ => ?_)
 generalize w.drew = W at *
 refine zt 0 (.pointer (some ⟨g,0,none⟩)) rfl ?_ ?_
 ·(intro W hSw; skip; go_simp; try (with_reducible rfl))
 try simp only [Act.put,sl2,sl0,sl1]
 refine zt 1 (.pointer (some ⟨g,0,none⟩)) rfl ?_ ?_
 ·(intro W hSw; skip; go_simp; try (with_reducible rfl))
 try simp only [Act.put,sl2,sl0,sl1]
 refine zt 2 (.pointer (some ⟨g,0,none⟩)) rfl ?_ ?_
 ·(intro W hSw; skip; go_simp; try (with_reducible rfl))
 try simp only [Act.put,sl2,sl0,sl1]
 refine zt 3 (.pointer (some ⟨g,0,none⟩)) rfl ?_ ?_
 ·(intro W hSw; skip; go_simp; try (with_reducible rfl))
 try simp only [Act.put,sl2,sl0,sl1]
 refine zt 5 (.string s) rfl ?_ ?_
 ·(intro W hSw; skip; go_simp; try (with_reducible rfl))
 try simp only [Act.put,sl2,sl0,sl1]
 refine zm [4,6] ?_
 refine zc rfl (fun K hK => ?_) ?_
 ·have z0 := HC.out.at (k := 0) (v := .slice pu nu cu) rfl
  go_simp
  clear z0
  refine hK.out _ _ hS (fun _ => ?_)
  clear hK K
  try simp only [Act.put,sl2,sl0,sl1]
  refine zr 6 rfl (fun K hK => ?_)
  go_simp
  go_at_call 228
  (with_reducible refine (HU W).out.mono ?_)
  rintro e W1 ⟨g2,c2,rfl,ho2,hb⟩
  replace HO := hid (own_kept HO.out hb)
  replace HC := hid (HC.out.below hb HC.out.lt)
  replace hS := hS.trans (FR.of hb)
  have HO2 := hid ho2
  clear hb ho2
  refine hK.out _ _ hS (fun _ => ?_)
  clear hK K
  try simp only [Act.put,sl2,sl0,sl1]
  refine zr 7 rfl (fun K hK => ?_)
  refine step_append_own rfl (.tmp 8) (.tmp 10) rfl B (.slice pu nu cu) bs.length (Lib.byteCells bs) rfl HO.out ⟨g2,0,none⟩ m c2 (Lib.byteCells y) rfl (by rw [Lib.byteCells_length,HM.out]) (own_cells HO2.out) (byteCells_one y) (by have := HN2.out; omega) (Nat.le_trans HBW.out hS.size) ?_
  intro v3 W2 ho3 hg3 hwh
  have HPV := hid (own_put hS HGA.out (HC.out.at (v := .slice pu nu cu) rfl) hwh)
  replace hS := hS.trans (FR.grown (g := g) HO.out hg3 (HC.out.at rfl) (Lib.ownBlock_ne HO.out HC.out (by decide)))
  replace HC := hid (WR.set_row HC.out HO.out hg3)
  clear hwh HO HO2
  obtain ⟨p3,n3,c3,rfl⟩ := own_slice ho3
  have HO3 := hid ho3
  clear ho3 hg3
  refine hK.out _ _ hS (fun _ => ?_)
  clear hK K
  try simp only [Act.put,sl2,sl0,sl1]
  refine zt 8 (.pointer (some ⟨g,0,none⟩)) rfl ?_ ?_
  ·(intro W hSw; skip; go_simp; try (with_reducible rfl))
  try simp only [Act.put,sl2,sl0,sl1]
  refine zt 9 (.pointer (some ⟨g,0,none⟩)) rfl ?_ ?_
  ·(intro W hSw; skip; go_simp; try (with_reducible rfl))
  try simp only [Act.put,sl2,sl0,sl1]
  refine zr 10 rfl (fun K hK => ?_)
  have z0 := HC.out.at (k := 0) (v := .slice pu nu cu) rfl
  have z1 := HC.out.free 0
  go_simp
  clear z0 z1
  have HWR := hid (WR.put (bs := bs ++ y) (Nat.le_trans HBW.out hS.size) HC.out (by rw [List.length_append,← HM.out,Lib.byteCells_append]; exact HO3.out))
  replace hS := hS.put (HC.out.at (v := .slice pu nu cu) rfl) (.slice p3 n3 c3) HPV.out
  clear HC HO3
  generalize W2.setCell ⟨g,0,none⟩ (.slice p3 n3 c3) = W3 at *
  refine hK.out _ _ hS (fun _ => ?_)
  clear hK K
  try simp only [Act.put,sl2,sl0,sl1]
  refine wpAnyH_done (by kernel_rfl) ?_ _
  have HF := hid hS
  clear hS
  go_wp2
  (first | go_end0 | refine bodyPost_ret (results_none rfl _ _ _) rfl ?_)
  exact ⟨rfl,HWR.out,HF.out⟩
 refine zc rfl (fun K hK => ?_) ?_
 ·go_simp
  go_at_call 228
  (with_reducible refine (HU W).out.mono ?_)
  rintro e W1 ⟨g2,c2,rfl,ho2,hb⟩
  replace HO := hid (own_kept HO.out hb)
  replace HC := hid (HC.out.below hb HC.out.lt)
  replace hS := hS.trans (FR.of hb)
  have HO2 := hid ho2
  clear hb ho2
  refine hK.out _ _ hS (fun _ => ?_)
  clear hK K
  try simp only [Act.put,sl2,sl0,sl1]
  refine zr 4 rfl (fun K hK => ?_)
  have z0 := HC.out.at (k := 0) (v := .slice pu nu cu) rfl
  go_simp
  clear z0
  refine hK.out _ _ hS (fun _ => ?_)
  clear hK K
  try simp only [Act.put,sl2,sl0,sl1]
  refine zr 7 rfl (fun K hK => ?_)
  refine step_append_own rfl (.tmp 8) (.tmp 10) rfl B (.slice pu nu cu) bs.length (Lib.byteCells bs) rfl HO.out ⟨g2,0,none⟩ m c2 (Lib.byteCells y) rfl (by rw [Lib.byteCells_length,HM.out]) (own_cells HO2.out) (byteCells_one y) (by have := HN2.out; omega) (Nat.le_trans HBW.out hS.size) ?_
  intro v3 W2 ho3 hg3 hwh
  have HPV := hid (own_put hS HGA.out (HC.out.at (v := .slice pu nu cu) rfl) hwh)
  replace hS := hS.trans (FR.grown (g := g) HO.out hg3 (HC.out.at rfl) (Lib.ownBlock_ne HO.out HC.out (by decide)))
  replace HC := hid (WR.set_row HC.out HO.out hg3)
  clear hwh HO HO2
  obtain ⟨p3,n3,c3,rfl⟩ := own_slice ho3
  have HO3 := hid ho3
  clear ho3 hg3
  refine hK.out _ _ hS (fun _ => ?_)
  clear hK K
  try simp only [Act.put,sl2,sl0,sl1]
  refine zt 8 (.pointer (some ⟨g,0,none⟩)) rfl ?_ ?_
  ·(intro W hSw; skip; go_simp; try (with_reducible rfl))
  try simp only [Act.put,sl2,sl0,sl1]
  refine zt 9 (.pointer (some ⟨g,0,none⟩)) rfl ?_ ?_
  ·(intro W hSw; skip; go_simp; try (with_reducible rfl))
  try simp only [Act.put,sl2,sl0,sl1]
  refine zr 10 rfl (fun K hK => ?_)
  have z0 := HC.out.at (k := 0) (v := .slice pu nu cu) rfl
  have z1 := HC.out.free 0
  go_simp
  clear z0 z1
  have HWR := hid (WR.put (bs := bs ++ y) (Nat.le_trans HBW.out hS.size) HC.out (by rw [List.length_append,← HM.out,Lib.byteCells_append]; exact HO3.out))
  replace hS := hS.put (HC.out.at (v := .slice pu nu cu) rfl) (.slice p3 n3 c3) HPV.out
  clear HC HO3
  generalize W2.setCell ⟨g,0,none⟩ (.slice p3 n3 c3) = W3 at *
  refine hK.out _ _ hS (fun _ => ?_)
  clear hK K
  try simp only [Act.put,sl2,sl0,sl1]
  refine wpAnyH_done (by kernel_rfl) ?_ _
  have HF := hid hS
  clear hS
  go_wp2
  (first | go_end0 | refine bodyPost_ret (results_none rfl _ _ _) rfl ?_)
  exact ⟨rfl,HWR.out,HF.out⟩
 exact zn
theorem uI_nat (n : Nat) (h : n < 18446744073709551616) : uI n = ulist n := by unfold uI; rw [show ((n : Int) % 18446744073709551616).toNat = n by omega]
theorem strL_len (s : ByteArray) : (strL s).length ≤ 10 + s.size := by
 have := uI_len s.size
 simp only [strL,List.length_append]
 have : s.data.toList.length = s.size := by simp
 omega
theorem name_says (B g : Nat) (bs : List UInt8) (s : ByteArray) (w : World) (hs : s.size ≤ 1000) (hw : WR B g bs w) (hn : bs.length ≤ 130737488355000) :
  Calls Tryz.prog 173 #[.pointer (some ⟨g,0,none⟩),.string s] w fun e w' => e = .returned (.tuple #[]) ∧ WR B g (bs ++ strL s) w' ∧ FR B g w w' := by
 have hl := strL_len s
 refine name_of B g bs s (strL s) (strL s).length rfl w hw (by omega) (fun W => ?_)
 refine (Name_in 0 (.slice none 0 0) [] s W (.inl (.inl ⟨rfl,rfl⟩)) (Nat.zero_le _) (by simp; omega)).mono ?_
 rintro e w' ⟨v,rfl,ho,hb⟩
 rw [List.nil_append,← uI_nat s.size (by omega)] at ho
 obtain ⟨g2,c2,rfl⟩ := own_at ho (by
  have := ulist_pos s.size
  rw [← uI_nat s.size (by omega)] at this
  simp only [List.length_append]
  omega)
 exact ⟨g2,c2,rfl,ho,hb⟩
end Go.Proofs.YtjgeedgphcjhoaaGreat
