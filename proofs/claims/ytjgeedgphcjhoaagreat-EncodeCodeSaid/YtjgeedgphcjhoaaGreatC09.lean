/-
  Every, Small, RSm, RStr, RTabs: merged, what the law does not reach left out (each text says what it holds where it lies in wip). No condition.
-/
import Derived.Test.YtjgeedgphcjhoaaGreatC02
import Derived.Deep.DeepCutAuto
import Derived.Deep.RegionHeld3
import Derived.Shelf.Abstract
import Derived.Laws.AppendOwnNone
import Derived.Laws.Concat
set_option linter.unusedSimpArgs false
set_option linter.unusedVariables false
set_option maxRecDepth 100000
namespace Go.Proofs.YtjgeedgphcjhoaaGreat
open Go.RowKit
theorem evF_cons {σ : Type} (st : σ → Int → Int → Int → Int → Nat → Nat → List Int → Bool → Fo → Fo → Bool × σ) (op a b : Int) (n h : Nat) (l : List Int) (ot : Bool) (body els rest : Fo) (d : Int) (s : σ) (b1 : Bool) (s1 : σ) (h1 : st s d op a b n h l ot body els = (b1,s1)) (b2 : Bool) (s2 : σ) (h2 : evF st body (d + 1) s1 = (b2,s2)) (b3 : Bool) (s3 : σ) (h3 : evF st els (d + 1) s2 = (b3,s3)) :
  evF st (.cons op a b n h l ot body els rest) d s = if b1 = true then (if b2 = true then (if b3 = true then evF st rest d s3 else (false,s3)) else (false,s2)) else (false,s1) := by
 rw [evF,h1]
 simp only
 rw [h2]
 simp only
 rw [h3]
/-- What the question's own contract says. -/
def Asked {σ : Type} (k : Nat) (caps : Array Value) (St : σ → World → Prop) (st : σ → Int → Int → Int → Int → Nat → Nat → List Int → Bool → Fo → Fo → Bool × σ) (B : Nat) (c : Option Nat) : Prop :=
 ∀ s (d op a b : Int) (n h : Nat) l ot body els vl vb ve W,0 ≤ d → B ≤ W.heap.size → (∀ k,c = some k → k < W.heap.size) → LI B W vl l → SA B W vb body → SA B W ve els → St s W →
  Calls Tryz.prog k (#[.agg #[.int .i64 op,.int .i64 a,.int .i64 b,.int .u64 (n : Nat),.int .u64 (h : Nat),vl,vb,ve,.bool ot],.int .i64 d] ++ caps) W fun e w' => e = .returned (.bool (st s d op a b n h l ot body els).1) ∧ St (st s d op a b n h l ot body els).2 w' ∧ KP c W w'
set_option maxHeartbeats 4000000 in
theorem from_says {σ : Type} (k : Nat) (caps : Array Value) (eg : ∀ args w,(callFunc k args).run Tryz.prog w = .ok (.enter k args) w)
  (St : σ → World → Prop) (st : σ → Int → Int → Int → Int → Nat → Nat → List Int → Bool → Fo → Fo → Bool × σ) (B : Nat) (c : Option Nat) (hBc : ∀ k,c = some k → B ≤ k) (hal : ∀ s W o,(∀ k,c = some k → k < W.heap.size) → St s W → St s (W.alloc o)) (hcl : Asked k caps St st B c) :
  ∀ (N : Nat) (f : Fo),f.cnt < N → ∀ (d : Int) (s : σ) (v : Value) (w : World),0 ≤ d → d + f.cnt < 9223372036854775807 → B ≤ w.heap.size → (∀ k,c = some k → k < w.heap.size) → SA B w v f → St s w →
   Calls Tryz.prog 211 #[.int .i64 d,v,.func (.func k) #[] caps] w fun e w' => e = .returned (.bool (evF st f d s).1) ∧ St (evF st f d s).2 w' ∧ KP c w w' := by
 intro N
 induction N with
 | zero => intro f h; omega
 | succ N ih =>
  intro f hf d s v w hd hdn hB hcw hs hst
  obtain ⟨p,cp,g0,o0,rfl,hp,hfa⟩ := hs
  have HBC := hid hBc
  have HCW := hid hcw
  clear hBc hcw
  have HIH := hid ih
  have HCL := hid hcl
  have HP := hid hp
  have HAL := hid hal
  obtain ⟨R,hR⟩ : ∃ R,R = evF st f d s := ⟨_,rfl⟩
  rw [← hR]
  obtain ⟨m,hm⟩ : ∃ m,m = f.len := ⟨_,rfl⟩
  rw [← hm] at HP ⊢
  have hml : m ≤ f.cnt := by
   have : ∀ f : Fo,f.len ≤ f.cnt := by
    intro f
    induction f with
    | nil => exact Nat.le_refl _
    | cons _ _ _ _ _ _ _ _ _ _ _ _ ihr => simp only [Fo.len,Fo.cnt]; omega
   rw [hm]; exact this f
  have HS : Hid (0 + f.len = m ∧ f.cnt ≤ f.cnt ∧ FA B w f g0 (o0 + 0 * 9) ∧ R = evF st f d s ∧ St s w ∧ KP c w w) := ⟨by rw [hm]; omega,Nat.le_refl _,by simpa using hfa,hR,hst,KP.refl _ _⟩
  have hm62 : (m : Int) < 9223372036854775807 := by omega
  obtain ⟨C,hC⟩ : ∃ C,C = f.cnt := ⟨_,rfl⟩
  rw [← hC] at hf hdn
  have HCC := hid hC
  have HSC : Hid (∀ fi : Fo,fi.cnt ≤ f.cnt → fi.cnt < N + 1 ∧ d + fi.cnt < 9223372036854775807) := fun fi h => by rw [← hC] at h; omega
  have HD := hid hd
  clear ih hcl hp hal hR hm hml hst hfa hf hdn hC HCC
  go_enter Tryz.func211,Tryz.ntmps211
  go_wp2
  go_loopw [11] (fun vi wr => ∃ (i : Nat) (fi : Fo) (si : σ),i ≤ m ∧ vi = .int .i64 i ∧ Hid (i + fi.len = m ∧ fi.cnt ≤ f.cnt ∧ FA B wr fi g0 (o0 + i * 9) ∧ R = evF st fi d si ∧ St si wr ∧ KP c w wr)) (fun vi _ => m - (intOf vi).toNat)
  case atStart => exact ⟨0,f,s,Nat.zero_le _,rfl,HS⟩
  case round =>
   obtain ⟨i,fi,si,him,rfl,HI⟩ := hrel
   cases fi with
   | nil =>
    have hi : i = m := HI.out.1
    subst hi
    have HE := hid HI.out.2.2.2.1
    have HF := hid HI.out.2.2.2.2
    go_wp2
    go_ret
    exact ⟨by rw [HE.out]; rfl,by rw [HE.out]; exact HF.out.1,HF.out.2⟩
   | cons op a b n h l ot body els rest =>
    obtain ⟨hg,⟨vl,vb,ve,x0,x1,x2,x3,x4,x5,x6,x7,x8,hl,hbo,hel⟩,hrest⟩ := HI.out.2.2.1
    obtain ⟨pl,cl,evl,_⟩ := id hl
    obtain ⟨pb,cb,gb',ob',evb,_⟩ := id hbo
    obtain ⟨pe,ce,ge',oe',eve,_⟩ := id hel
    obtain ⟨nl,hnl⟩ : ∃ x,x = l.length := ⟨_,rfl⟩
    obtain ⟨nb,hnb⟩ : ∃ x,x = body.len := ⟨_,rfl⟩
    obtain ⟨ne,hne⟩ : ∃ x,x = els.len := ⟨_,rfl⟩
    rw [← hnl] at evl
    rw [← hnb] at evb
    rw [← hne] at eve
    subst evl evb eve
    clear hnl hnb hne
    have hlt : i < m := by have := HI.out.1; simp only [Fo.len] at this; omega
    obtain rfl := HP.out (by omega)
    have hcn := (HSC.out _ HI.out.2.1)
    simp only [Fo.cnt] at hcn
    have HR := hid HI.out.2.2.2.1
    have HK0 := hid HI.out.2.2.2.2.2
    have hBr : B ≤ wr.heap.size := Nat.le_trans hB HK0.out.size
    have HCR := hid (fun q hq => Nat.lt_of_lt_of_le (HCW.out q hq) HK0.out.size)
    have hst0 := HI.out.2.2.2.2.1
    have HLE := hid (show i + 1 + rest.len = m ∧ rest.cnt ≤ f.cnt by have h1 := HI.out.1; have h2 := HI.out.2.1; simp only [Fo.len,Fo.cnt] at h1 h2; omega)
    rcases hr1 : st si d op a b n h l ot body els with ⟨b1,s1⟩
    rcases hr2 : evF st body (d + 1) s1 with ⟨b2,s2⟩
    rcases hr3 : evF st els (d + 1) s2 with ⟨b3,s3⟩
    have hev := HR.out
    rw [evF_cons st op a b n h l ot body els rest d si b1 s1 hr1 b2 s2 hr2 b3 s3 hr3] at hev
    have HEV := hid hev
    have HST := hid hst0
    have HLI := hid hl
    have HBD := hid hbo
    have HEE := hid hel
    have HRS := hid hrest
    have HR1 := hid hr1
    have HR2 := hid hr2
    have HR3 := hid hr3
    have hdw : wrap64 (d + 1) = d + 1 := by unfold wrap64; have := HD.out; omega
    have HCN := hid hcn
    clear hl hbo hel hrest hst0 HI hg hcn hr1 hr2 hr3 hev HR HS
    go_upto_region 4 with fail
    have hb1 := (Below.refl B wr).alloc hBr (.cells #[.int .i64 op,.int .i64 a,.int .i64 b,.int .u64 (n : Nat),.int .u64 (h : Nat),.slice pl nl cl,.slice pb nb cb,.slice pe ne ce,.bool ot] 39)
    have HX := hid (CA.new wr #[.int .i64 op,.int .i64 a,.int .i64 b,.int .u64 (n : Nat),.int .u64 (h : Nat),.slice pl nl cl,.slice pb nb cb,.slice pe ne ce,.bool ot] 39)
    have HK1 := hid (HK0.out.alloc (.cells #[.int .i64 op,.int .i64 a,.int .i64 b,.int .u64 (n : Nat),.int .u64 (h : Nat),.slice pl nl cl,.slice pb nb cb,.slice pe ne ce,.bool ot] 39))
    have HSA := hid (HAL.out si wr (.cells #[.int .i64 op,.int .i64 a,.int .i64 b,.int .u64 (n : Nat),.int .u64 (h : Nat),.slice pl nl cl,.slice pb nb cb,.slice pe ne ce,.bool ot] 39) HCR.out HST.out)
    have HC1W := hid (fun (q : Nat) (hq : c = some q) => show q < (wr.alloc (.cells #[.int .i64 op,.int .i64 a,.int .i64 b,.int .u64 (n : Nat),.int .u64 (h : Nat),.slice pl nl cl,.slice pb nb cb,.slice pe ne ce,.bool ot] 39)).heap.size by rw [size_al]; have := HCR.out q hq; omega)
    have HNG := hid (show c ≠ some wr.heap.size from fun e => by have := HCR.out _ e; omega)
    have hBo : B ≤ (wr.alloc (.cells #[.int .i64 op,.int .i64 a,.int .i64 b,.int .u64 (n : Nat),.int .u64 (h : Nat),.slice pl nl cl,.slice pb nb cb,.slice pe ne ce,.bool ot] 39)).heap.size := by rw [size_al]; omega
    have HLI1 := hid (LI.below HLI.out hb1)
    have HBO := hid (SA.below HBD.out hb1)
    have HEL := hid (SA.below HEE.out hb1)
    have HRE := hid (FA.below hb1 _ _ _ HRS.out)
    clear hb1 HLI HBD HEE HRS HK0 HST
    generalize wr.alloc (.cells #[.int .i64 op,.int .i64 a,.int .i64 b,.int .u64 (n : Nat),.int .u64 (h : Nat),.slice pl nl cl,.slice pb nb cb,.slice pe ne ce,.bool ot] 39) = W1 at *
    generalize wr.heap.size = gb at *
    have hc1 := HCL.out si d op a b n h l ot body els (.slice pl nl cl) (.slice pb nb cb) (.slice pe ne ce) W1 HD.out hBo HC1W.out HLI1.out HBO.out HEL.out HSA.out
    rw [HR1.out] at hc1
    have HC := hid hc1
    have y0 := HX.out.at (k := 0) (v := .int .i64 op) rfl
    have y1 := HX.out.at (k := 1) (v := .int .i64 a) rfl
    have y2 := HX.out.at (k := 2) (v := .int .i64 b) rfl
    have y3 := HX.out.at (k := 3) (v := .int .u64 (n : Nat)) rfl
    have y4 := HX.out.at (k := 4) (v := .int .u64 (h : Nat)) rfl
    have y5 := HX.out.at (k := 5) (v := .slice pl nl cl) rfl
    have y6 := HX.out.at (k := 6) (v := .slice pb nb cb) rfl
    have y7 := HX.out.at (k := 7) (v := .slice pe ne ce) rfl
    have y8 := HX.out.at (k := 8) (v := .bool ot) rfl
    have HIB := fun W h1 h2 h3 h4 => hid (HIH.out body (by have := HCN.out; omega) (d + 1) s1 (.slice pb nb cb) W (by have := HD.out; omega) (by have := HCN.out; omega) h1 h2 h3 h4)
    have HIE := fun W h1 h2 h3 h4 => hid (HIH.out els (by have := HCN.out; omega) (d + 1) s2 (.slice pe ne ce) W (by have := HD.out; omega) (by have := HCN.out; omega) h1 h2 h3 h4)
    rw [HR2.out] at HIB
    rw [HR3.out] at HIE
    clear hc1 x0 x1 x2 x3 x4 x5 x6 x7 x8 HLI1 HSA
    cases b1 with
    | false =>
     clear HIB HIE
     go_wp2_with (first
        | (go_at_fn k; (with_reducible refine HC.out.mono ?_); rintro e w2 ⟨rfl,hs2,hk2⟩; have HS2 := hid hs2; have HK2 := hid (HK1.out.trans hk2); have HKK2 := hid hk2; have HX2 := hid (HX.out.keep hk2 HNG.out); have y6 := HX2.out.at (k := 6) (v := .slice pb nb cb) rfl; clear hs2 hk2))
     go_ret
     exact ⟨by rw [HEV.out]; rfl,by rw [HEV.out]; exact HS2.out,HK2.out⟩
    | true =>
     cases b2 with
     | false =>
      clear HIE
      go_wp2_with (first
        | (go_at_fn k; (with_reducible refine HC.out.mono ?_); rintro e w2 ⟨rfl,hs2,hk2⟩; have HS2 := hid hs2; have HK2 := hid (HK1.out.trans hk2); have HKK2 := hid hk2; have HX2 := hid (HX.out.keep hk2 HNG.out); have y6 := HX2.out.at (k := 6) (v := .slice pb nb cb) rfl; clear hs2 hk2)
        | (go_at_call 211; (with_reducible refine (HIB _ (Nat.le_trans hBo HKK2.out.size) (fun q hq => Nat.lt_of_lt_of_le (HC1W.out q hq) HKK2.out.size) (SA.below HBO.out (HKK2.out.below hBo HBC.out)) HS2.out).out.mono ?_); rintro e w3 ⟨rfl,hs3,hk3⟩; have HS3 := hid hs3; have HK3 := hid (HK2.out.trans hk3); have HKK3 := hid (HKK2.out.trans hk3); have HX3 := hid (HX2.out.keep hk3 HNG.out); have y7 := HX3.out.at (k := 7) (v := .slice pe ne ce) rfl; clear hs3 hk3))
      go_ret
      exact ⟨by rw [HEV.out]; rfl,by rw [HEV.out]; exact HS3.out,HK3.out⟩
     | true =>
      cases b3 with
      | false =>
       go_wp2_with (first
        | (go_at_fn k; (with_reducible refine HC.out.mono ?_); rintro e w2 ⟨rfl,hs2,hk2⟩; have HS2 := hid hs2; have HK2 := hid (HK1.out.trans hk2); have HKK2 := hid hk2; have HX2 := hid (HX.out.keep hk2 HNG.out); have y6 := HX2.out.at (k := 6) (v := .slice pb nb cb) rfl; clear hs2 hk2)
        | (go_at_call 211; (with_reducible refine (HIB _ (Nat.le_trans hBo HKK2.out.size) (fun q hq => Nat.lt_of_lt_of_le (HC1W.out q hq) HKK2.out.size) (SA.below HBO.out (HKK2.out.below hBo HBC.out)) HS2.out).out.mono ?_); rintro e w3 ⟨rfl,hs3,hk3⟩; have HS3 := hid hs3; have HK3 := hid (HK2.out.trans hk3); have HKK3 := hid (HKK2.out.trans hk3); have HX3 := hid (HX2.out.keep hk3 HNG.out); have y7 := HX3.out.at (k := 7) (v := .slice pe ne ce) rfl; clear hs3 hk3)
        | (go_at_call 211; (with_reducible refine (HIE _ (Nat.le_trans hBo HKK3.out.size) (fun q hq => Nat.lt_of_lt_of_le (HC1W.out q hq) HKK3.out.size) (SA.below HEL.out (HKK3.out.below hBo HBC.out)) HS3.out).out.mono ?_); rintro e w4 ⟨rfl,hs4,hk4⟩; have HS4 := hid hs4; have HK4 := hid (HK3.out.trans hk4); have HKK4 := hid (HKK3.out.trans hk4); clear hs4 hk4))
       go_ret
       exact ⟨by rw [HEV.out]; rfl,by rw [HEV.out]; exact HS4.out,HK4.out⟩
      | true =>
       go_wp2_with (first
        | (go_at_fn k; (with_reducible refine HC.out.mono ?_); rintro e w2 ⟨rfl,hs2,hk2⟩; have HS2 := hid hs2; have HK2 := hid (HK1.out.trans hk2); have HKK2 := hid hk2; have HX2 := hid (HX.out.keep hk2 HNG.out); have y6 := HX2.out.at (k := 6) (v := .slice pb nb cb) rfl; clear hs2 hk2)
        | (go_at_call 211; (with_reducible refine (HIB _ (Nat.le_trans hBo HKK2.out.size) (fun q hq => Nat.lt_of_lt_of_le (HC1W.out q hq) HKK2.out.size) (SA.below HBO.out (HKK2.out.below hBo HBC.out)) HS2.out).out.mono ?_); rintro e w3 ⟨rfl,hs3,hk3⟩; have HS3 := hid hs3; have HK3 := hid (HK2.out.trans hk3); have HKK3 := hid (HKK2.out.trans hk3); have HX3 := hid (HX2.out.keep hk3 HNG.out); have y7 := HX3.out.at (k := 7) (v := .slice pe ne ce) rfl; clear hs3 hk3)
        | (go_at_call 211; (with_reducible refine (HIE _ (Nat.le_trans hBo HKK3.out.size) (fun q hq => Nat.lt_of_lt_of_le (HC1W.out q hq) HKK3.out.size) (SA.below HEL.out (HKK3.out.below hBo HBC.out)) HS3.out).out.mono ?_); rintro e w4 ⟨rfl,hs4,hk4⟩; have HS4 := hid hs4; have HK4 := hid (HK3.out.trans hk4); have HKK4 := hid (HKK3.out.trans hk4); clear hs4 hk4))
       go_roundw
       case rel => exact ⟨i + 1,rest,s3,hlt,by go_num,HLE.out.1,HLE.out.2,by (have h9 : o0 + (i + 1) * 9 = o0 + i * 9 + 9 := by omega); rw [h9]; exact FA.below (HKK4.out.below hBo HBC.out) _ _ _ HRE.out,by have := HEV.out; simpa using this,HS4.out,HK4.out⟩
       case measure => simp [intOf]; omega
/-- every itself. -/
theorem every_says {σ : Type} (k : Nat) (caps : Array Value) (eg : ∀ args w,(callFunc k args).run Tryz.prog w = .ok (.enter k args) w)
  (St : σ → World → Prop) (st : σ → Int → Int → Int → Int → Nat → Nat → List Int → Bool → Fo → Fo → Bool × σ) (B : Nat) (c : Option Nat) (hBc : ∀ k,c = some k → B ≤ k) (hal : ∀ s W o,(∀ k,c = some k → k < W.heap.size) → St s W → St s (W.alloc o)) (hcl : Asked k caps St st B c)
  (f : Fo) (s : σ) (v : Value) (w : World) (hn : f.cnt < 9223372036854775806) (hB : B ≤ w.heap.size) (hcw : ∀ k,c = some k → k < w.heap.size) (hs : SA B w v f) (hst : St s w) :
  Calls Tryz.prog 140 #[v,.func (.func k) #[] caps] w fun e w' => e = .returned (.bool (evF st f 1 s).1) ∧ St (evF st f 1 s).2 w' ∧ KP c w w' := by
 have H := hid (from_says k caps eg St st B c hBc hal hcl (f.cnt + 1) f (Nat.lt_succ_self _) 1 s v w (by decide) (by omega) hB hcw hs hst)
 generalize evF st f 1 s = R at *
 clear hs hst hcl hal hn hcw hBc
 go_enter Tryz.func140,Tryz.ntmps140
 go_wp2_with (go_at_call 211; (with_reducible refine H.out.mono ?_); rintro e w2 ⟨rfl,hs2,hb2⟩)
 go_ret
 exact ⟨rfl,hs2,hb2⟩
end Go.Proofs.YtjgeedgphcjhoaaGreat
namespace Go.Proofs.YtjgeedgphcjhoaaGreat
open Go.RowKit
def idxB (a : Int) : Bool := decide (IntKind.u64.wrap a ≤ 4294967295)
def refB (a : Int) : Bool := a == 112 || a == 111
def valB (a : Int) : Bool := a == 127 || a == 126 || a == 125 || a == 124 || a == 123 || refB a
def byteB (a : Int) : Bool := decide (0 ≤ a) && decide (a ≤ 255)
theorem isIndex_says (a : Int) (w : World) : Calls Tryz.prog 145 #[.int .i64 a] w fun e w' => e = .returned (.bool (idxB a)) ∧ w = w' := by
 unfold idxB
 go_enter Tryz.func145,Tryz.ntmps145
 go_wp2
 go_ret
 exact ⟨rfl,rfl⟩
theorem isStart_says (a : Int) (w : World) : Calls Tryz.prog 44 #[.int .i64 a] w fun e w' => e = .returned (.bool (decide (IntKind.u64.wrap a ≤ 4294967296))) ∧ w = w' := by
 go_enter Tryz.func44,Tryz.ntmps44
 go_wp2
 go_ret
 exact ⟨rfl,rfl⟩
theorem isRef_says (a : Int) (w : World) : Calls Tryz.prog 149 #[.int .i64 a] w fun e w' => e = .returned (.bool (refB a)) ∧ w = w' := by
 unfold refB
 obtain ⟨b1,d1⟩ : ∃ b,(a == 112) = b := ⟨_,rfl⟩
 rw [d1]
 cases b1
 all_goals
  go_enter Tryz.func149,Tryz.ntmps149
  go_wp2
  go_ret
  exact ⟨rfl,rfl⟩
theorem isByte_says (a : Int) (w : World) : Calls Tryz.prog 235 #[.int .i64 a] w fun e w' => e = .returned (.bool (byteB a)) ∧ w = w' := by
 unfold byteB
 obtain ⟨b1,d1⟩ : ∃ b,decide (0 ≤ a) = b := ⟨_,rfl⟩
 rw [d1]
 cases b1
 all_goals
  go_enter Tryz.func235,Tryz.ntmps235
  go_wp2
  go_ret
  exact ⟨rfl,rfl⟩
theorem isVal_says (a : Int) (w : World) : Calls Tryz.prog 144 #[.int .i64 a] w fun e w' => e = .returned (.bool (valB a)) ∧ w = w' := by
 have HR := fun W => hid (isRef_says a W)
 unfold valB
 generalize refB a = r at *
 obtain ⟨b1,d1⟩ : ∃ b,(a == 127) = b := ⟨_,rfl⟩
 obtain ⟨b2,d2⟩ : ∃ b,(a == 126) = b := ⟨_,rfl⟩
 obtain ⟨b3,d3⟩ : ∃ b,(a == 125) = b := ⟨_,rfl⟩
 obtain ⟨b4,d4⟩ : ∃ b,(a == 124) = b := ⟨_,rfl⟩
 obtain ⟨b5,d5⟩ : ∃ b,(a == 123) = b := ⟨_,rfl⟩
 rw [d1,d2,d3,d4,d5]
 rcases (show b1 = true ∨ (b1 = false ∧ b2 = true) ∨ (b1 = false ∧ b2 = false ∧ b3 = true) ∨ (b1 = false ∧ b2 = false ∧ b3 = false ∧ b4 = true) ∨ (b1 = false ∧ b2 = false ∧ b3 = false ∧ b4 = false ∧ b5 = true) ∨ (b1 = false ∧ b2 = false ∧ b3 = false ∧ b4 = false ∧ b5 = false) by cases b1 <;> cases b2 <;> cases b3 <;> cases b4 <;> cases b5 <;> simp) with rfl | ⟨rfl,rfl⟩ | ⟨rfl,rfl,rfl⟩ | ⟨rfl,rfl,rfl,rfl⟩ | ⟨rfl,rfl,rfl,rfl,rfl⟩ | ⟨rfl,rfl,rfl,rfl,rfl⟩
 all_goals
  go_enter Tryz.func144,Tryz.ntmps144
  go_wp2_with (go_at_call 149; (with_reducible refine (HR _).out.mono ?_); rintro e w1 ⟨rfl,rfl⟩)
  go_ret
  exact ⟨by simp,rfl⟩
set_option maxHeartbeats 2000000 in
/-- all of a list of integers. -/
theorem all_int (k : Nat) (eg : ∀ args w,(callFunc k args).run Tryz.prog w = .ok (.enter k args) w) (P : Int → Bool) (hP : ∀ x W,Calls Tryz.prog k #[.int .i64 x] W fun e w' => e = .returned (.bool (P x)) ∧ W = w')
  (l : List Int) (v : Value) (B : Nat) (w : World) (hl : LI B w v l) (hB : B ≤ w.heap.size) (hn : l.length < 9223372036854775807) : Calls Tryz.prog 143 #[v,.func (.func k) #[] #[]] w fun e w' => e = .returned (.bool (l.all P)) ∧ w = w' := by
 obtain ⟨p,c,rfl,_,hc⟩ := hl
 have HP := fun x W => hid (hP x W)
 obtain ⟨r,hr⟩ : ∃ r,r = l.all P := ⟨_,rfl⟩
 rw [← hr]
 obtain ⟨n,hnn⟩ : ∃ n,n = l.length := ⟨_,rfl⟩
 rw [← hnn] at hn ⊢
 have HR := hid hr
 have HC := hid hc
 have HN := hid hnn
 have hn' : (n : Int) < 9223372036854775807 := by omega
 clear hP hr hc hnn hn
 go_enter Tryz.func143,Tryz.ntmps143
 go_wp2
 go_loop [9] (fun vi => ∃ i : Nat,i ≤ n ∧ vi = .int .i64 i ∧ Hid (r = (l.drop i).all P)) (fun vi => n - (intOf vi).toNat)
 case atStart => exact ⟨0,Nat.zero_le _,rfl,by (have := HR.out; show r = _; simpa using this)⟩
 case round =>
  obtain ⟨i,hi,rfl,HI⟩ := hrel
  by_cases hlt : i < n
  ·have hll : i < l.length := by rw [← HN.out]; exact hlt
   obtain ⟨g,o,rfl,hg,hx⟩ := HC.out (fun e => by rw [e] at hll; simp at hll)
   have hd := List.drop_eq_getElem_cons hll
   obtain ⟨x,hxe⟩ : ∃ x,x = l[i] := ⟨_,rfl⟩
   have x0 := hx i x (by rw [hxe]; simp [List.getElem?_eq_getElem hll])
   have HE : Hid (r = (P x && (l.drop (i + 1)).all P)) := by have := HI.out; rw [hd,← hxe] at this; (show r = _); simpa using this
   have HPX := fun W => HP x W
   clear hx hd hxe hll
   rcases hpx : P x with _ | _
   ·rw [hpx] at HPX HE
    clear hpx
    go_wp2_with (go_at_fn k; (with_reducible refine (HPX _).out.mono ?_); rintro e w1 ⟨rfl,rfl⟩)
    go_ret
    exact ⟨by rw [HE.out]; rfl,rfl⟩
   ·rw [hpx] at HPX HE
    clear hpx
    go_wp2_with (go_at_fn k; (with_reducible refine (HPX _).out.mono ?_); rintro e w1 ⟨rfl,rfl⟩)
    go_round
    case rel => exact ⟨i + 1,hlt,by go_num,by (have := HE.out; show r = _; simpa using this)⟩
    case measure => simp [intOf]; omega
  ·obtain rfl : i = n := by omega
   have HE : Hid (r = true) := by have := HI.out; rw [List.drop_of_length_le (by rw [← HN.out]; exact Nat.le_refl _)] at this; exact this
   go_wp2
   go_ret
   exact ⟨by rw [HE.out]; rfl,rfl⟩
/-- Are all fields unused? -/
def unB (a b : Int) (n h : Nat) (ot : Bool) (nl nb ne : Nat) : Bool := (a == 0) && (b == 0) && ((n : Int) == 0) && ((h : Int) == 0) && !ot && ((nl : Int) == 0) && ((nb : Int) == 0) && ((ne : Int) == 0)
set_option maxHeartbeats 4000000 in
theorem isUnused_says (op a b : Int) (n h : Nat) (pl pb pe : Option Addr) (nl cl nb cb ne ce : Nat) (ot : Bool) (w : World) : Calls Tryz.prog 236 #[.agg #[.int .i64 op,.int .i64 a,.int .i64 b,.int .u64 (n : Nat),.int .u64 (h : Nat),.slice pl nl cl,.slice pb nb cb,.slice pe ne ce,.bool ot]] w fun e w' => e = .returned (.bool (unB a b n h ot nl nb ne)) ∧ Below w.heap.size w w' := by
 unfold unB
 obtain ⟨b1,d1⟩ : ∃ x,(a == 0) = x := ⟨_,rfl⟩
 obtain ⟨b2,d2⟩ : ∃ x,(b == 0) = x := ⟨_,rfl⟩
 obtain ⟨b3,d3⟩ : ∃ x,((n : Int) == 0) = x := ⟨_,rfl⟩
 obtain ⟨b4,d4⟩ : ∃ x,((h : Int) == 0) = x := ⟨_,rfl⟩
 obtain ⟨b6,d6⟩ : ∃ x,((nl : Int) == 0) = x := ⟨_,rfl⟩
 obtain ⟨b7,d7⟩ : ∃ x,((nb : Int) == 0) = x := ⟨_,rfl⟩
 obtain ⟨b8,d8⟩ : ∃ x,((ne : Int) == 0) = x := ⟨_,rfl⟩
 rw [d1,d2,d3,d4,d6,d7,d8]
 cases b1 with
 | false =>
  go_enter Tryz.func236,Tryz.ntmps236
  go_wp2
  go_ret
  exact ⟨by simp,(Below.refl _ _).alloc (Nat.le_refl _) _⟩
 | true =>
  cases b2 with
  | false =>
   go_enter Tryz.func236,Tryz.ntmps236
   go_wp2
   go_ret
   exact ⟨by simp,(Below.refl _ _).alloc (Nat.le_refl _) _⟩
  | true =>
   cases b3 with
   | false =>
    go_enter Tryz.func236,Tryz.ntmps236
    go_wp2
    go_ret
    exact ⟨by simp,(Below.refl _ _).alloc (Nat.le_refl _) _⟩
   | true =>
    cases b4 with
    | false =>
     go_enter Tryz.func236,Tryz.ntmps236
     go_wp2
     go_ret
     exact ⟨by simp,(Below.refl _ _).alloc (Nat.le_refl _) _⟩
    | true =>
     cases ot with
     | true =>
      go_enter Tryz.func236,Tryz.ntmps236
      go_wp2
      go_ret
      exact ⟨by simp,(Below.refl _ _).alloc (Nat.le_refl _) _⟩
     | false =>
      cases b6 with
      | false =>
       go_enter Tryz.func236,Tryz.ntmps236
       go_wp2
       go_ret
       exact ⟨by simp,(Below.refl _ _).alloc (Nat.le_refl _) _⟩
      | true =>
       cases b7 with
       | false =>
        go_enter Tryz.func236,Tryz.ntmps236
        go_wp2
        go_ret
        exact ⟨by simp,(Below.refl _ _).alloc (Nat.le_refl _) _⟩
       | true =>
        go_enter Tryz.func236,Tryz.ntmps236
        go_wp2
        go_ret
        exact ⟨by simp,(Below.refl _ _).alloc (Nat.le_refl _) _⟩
end Go.Proofs.YtjgeedgphcjhoaaGreat
namespace Go.Proofs.YtjgeedgphcjhoaaGreat
open Go.RowKit
def idxR (a : Int) : Bool := decide (0 ≤ a) && decide (a < 4294967296)
def inR (n a : Int) : Bool := decide (0 ≤ a) && decide (a < n)
theorem idx_eq (a : Int) (h0 : -9223372036854775808 ≤ a) (h1 : a < 9223372036854775808) : idxB a = idxR a := by
 have hw : IntKind.u64.wrap a = a % 18446744073709551616 := rfl
 unfold idxB idxR
 rw [hw]
 by_cases h : 0 ≤ a
 ·rw [Int.emod_eq_of_lt h (by omega)]
  simp only [h,decide_true,Bool.true_and]
  exact decide_eq_decide.2 (by omega)
 ·have e : a % 18446744073709551616 = a + 18446744073709551616 := by omega
  rw [e]
  simp only [h,decide_false,Bool.false_and]
  exact decide_eq_false (by omega)
theorem byte_eq (a : Int) : byteB a = inR 256 a := by
 unfold byteB inR
 congr 1
 exact decide_eq_decide.2 (by omega)
theorem RIndex_says (a : Int) (w : World) : Calls Tryz.prog 52 #[.int .i64 a] w fun e w' => e = .returned (.bool (idxR a)) ∧ w = w' := by
 unfold idxR
 obtain ⟨b1,d1⟩ : ∃ b,decide (0 ≤ a) = b := ⟨_,rfl⟩
 rw [d1]
 cases b1
 all_goals
  go_enter Tryz.func52,Tryz.ntmps52
  go_wp2
  go_ret
  exact ⟨rfl,rfl⟩
theorem RRef_says (a : Int) (w : World) : Calls Tryz.prog 154 #[.int .i64 a] w fun e w' => e = .returned (.bool (refB a)) ∧ w = w' := by
 unfold refB
 obtain ⟨b1,d1⟩ : ∃ b,(a == 112) = b := ⟨_,rfl⟩
 rw [d1]
 cases b1
 all_goals
  go_enter Tryz.func154,Tryz.ntmps154
  go_wp2
  go_ret
  exact ⟨rfl,rfl⟩
theorem RVal_says (a : Int) (w : World) : Calls Tryz.prog 56 #[.int .i64 a] w fun e w' => e = .returned (.bool (valB a)) ∧ w = w' := by
 unfold valB refB
 obtain ⟨b1,d1⟩ : ∃ b,(a == 127) = b := ⟨_,rfl⟩
 obtain ⟨b2,d2⟩ : ∃ b,(a == 126) = b := ⟨_,rfl⟩
 obtain ⟨b3,d3⟩ : ∃ b,(a == 125) = b := ⟨_,rfl⟩
 obtain ⟨b4,d4⟩ : ∃ b,(a == 124) = b := ⟨_,rfl⟩
 obtain ⟨b5,d5⟩ : ∃ b,(a == 123) = b := ⟨_,rfl⟩
 obtain ⟨b6,d6⟩ : ∃ b,(a == 112) = b := ⟨_,rfl⟩
 rw [d1,d2,d3,d4,d5,d6]
 rcases (show (b1 = true) ∨ (b1 = false ∧ b2 = true) ∨ (b1 = false ∧ b2 = false ∧ b3 = true) ∨ (b1 = false ∧ b2 = false ∧ b3 = false ∧ b4 = true) ∨ (b1 = false ∧ b2 = false ∧ b3 = false ∧ b4 = false ∧ b5 = true) ∨ (b1 = false ∧ b2 = false ∧ b3 = false ∧ b4 = false ∧ b5 = false ∧ b6 = true) ∨ (b1 = false ∧ b2 = false ∧ b3 = false ∧ b4 = false ∧ b5 = false ∧ b6 = false) by cases b1 <;> cases b2 <;> cases b3 <;> cases b4 <;> cases b5 <;> cases b6 <;> simp) with rfl | ⟨rfl,rfl⟩ | ⟨rfl,rfl,rfl⟩ | ⟨rfl,rfl,rfl,rfl⟩ | ⟨rfl,rfl,rfl,rfl,rfl⟩ | ⟨rfl,rfl,rfl,rfl,rfl,rfl⟩ | ⟨rfl,rfl,rfl,rfl,rfl,rfl⟩
 all_goals
  go_enter Tryz.func56,Tryz.ntmps56
  go_wp2
  go_ret
  exact ⟨rfl,rfl⟩
set_option maxHeartbeats 2000000 in
theorem RVals_says (l : List Int) (v : Value) (B : Nat) (w : World) (hl : LI B w v l) : Calls Tryz.prog 50 #[v] w fun e w' => e = .returned (.bool (l.all valB)) ∧ w = w' := by
 obtain ⟨p,c,rfl,hn,hc⟩ := hl
 have HP := fun x W => hid (RVal_says x W)
 obtain ⟨r,hr⟩ : ∃ r,r = l.all valB := ⟨_,rfl⟩
 rw [← hr]
 obtain ⟨n,hnn⟩ : ∃ n,n = l.length := ⟨_,rfl⟩
 rw [← hnn] at hn ⊢
 have HR := hid hr
 have HC := hid hc
 have HN := hid hnn
 have hn' : (n : Int) < 9223372036854775807 := by omega
 clear hr hc hnn hn
 go_enter Tryz.func50,Tryz.ntmps50
 go_wp2
 go_loop [3] (fun vi => ∃ i : Nat,i ≤ n ∧ vi = .int .i64 i ∧ Hid (r = (l.drop i).all valB)) (fun vi => n - (intOf vi).toNat)
 case atStart => exact ⟨0,Nat.zero_le _,rfl,by (have := HR.out; show r = _; simpa using this)⟩
 case round =>
  obtain ⟨i,hi,rfl,HI⟩ := hrel
  by_cases hlt : i < n
  ·have hll : i < l.length := by rw [← HN.out]; exact hlt
   obtain ⟨g,o,rfl,hg,hx⟩ := HC.out (fun e => by rw [e] at hll; simp at hll)
   have hd := List.drop_eq_getElem_cons hll
   obtain ⟨x,hxe⟩ : ∃ x,x = l[i] := ⟨_,rfl⟩
   have x0 := hx i x (by rw [hxe]; simp [List.getElem?_eq_getElem hll])
   have HE : Hid (r = (valB x && (l.drop (i + 1)).all valB)) := by have := HI.out; rw [hd,← hxe] at this; (show r = _); simpa using this
   clear hx hd hxe hll
   have HPX := fun W => HP x W
   rcases hpx : valB x with _ | _
   ·rw [hpx] at HPX HE
    clear hpx
    go_wp2_with (go_at_call 56; (with_reducible refine (HPX _).out.mono ?_); rintro e w1 ⟨rfl,rfl⟩)
    go_ret
    exact ⟨by rw [HE.out]; rfl,rfl⟩
   ·rw [hpx] at HPX HE
    clear hpx
    go_wp2_with (go_at_call 56; (with_reducible refine (HPX _).out.mono ?_); rintro e w1 ⟨rfl,rfl⟩)
    go_round
    case rel => exact ⟨i + 1,hlt,by go_num,by (have := HE.out; show r = _; simpa using this)⟩
    case measure => simp [intOf]; omega
  ·obtain rfl : i = n := by omega
   go_wp2
   go_ret
   exact ⟨by (have := HI.out; rw [List.drop_eq_nil_of_le (by rw [HN.out]; exact Nat.le_refl _)] at this; rw [this]; rfl),rfl⟩
set_option maxHeartbeats 2000000 in
theorem RIns_says (q : Int) (l : List Int) (v : Value) (B : Nat) (w : World) (hl : LI B w v l) : Calls Tryz.prog 231 #[v,.int .i64 q] w fun e w' => e = .returned (.bool (l.all (inR q))) ∧ w = w' := by
 obtain ⟨p,c,rfl,hn,hc⟩ := hl
 obtain ⟨r,hr⟩ : ∃ r,r = l.all (inR q) := ⟨_,rfl⟩
 rw [← hr]
 obtain ⟨n,hnn⟩ : ∃ n,n = l.length := ⟨_,rfl⟩
 rw [← hnn] at hn ⊢
 have HR := hid hr
 have HC := hid hc
 have HN := hid hnn
 have hn' : (n : Int) < 9223372036854775807 := by omega
 clear hr hc hnn hn
 go_enter Tryz.func231,Tryz.ntmps231
 go_wp2
 go_loop [5] (fun vi => ∃ i : Nat,i ≤ n ∧ vi = .int .i64 i ∧ Hid (r = (l.drop i).all (inR q))) (fun vi => n - (intOf vi).toNat)
 case atStart => exact ⟨0,Nat.zero_le _,rfl,by (have := HR.out; show r = _; simpa using this)⟩
 case round =>
  obtain ⟨i,hi,rfl,HI⟩ := hrel
  by_cases hlt : i < n
  ·have hll : i < l.length := by rw [← HN.out]; exact hlt
   obtain ⟨g,o,rfl,hg,hx⟩ := HC.out (fun e => by rw [e] at hll; simp at hll)
   have hd := List.drop_eq_getElem_cons hll
   obtain ⟨x,hxe⟩ : ∃ x,x = l[i] := ⟨_,rfl⟩
   have x0 := hx i x (by rw [hxe]; simp [List.getElem?_eq_getElem hll])
   have HE : Hid (r = ((inR q) x && (l.drop (i + 1)).all (inR q))) := by have := HI.out; rw [hd,← hxe] at this; (show r = _); simpa using this
   clear hx hd hxe hll
   have HX : Hid (inR q x = (decide (0 ≤ x) && decide (x < q))) := rfl
   by_cases c0 : x < 0
   ·have b0 : decide (x < 0) = true := by simp; omega
    have HF : Hid (inR q x = false) := by (show inR q x = false); rw [HX.out,show decide (0 ≤ x) = false by simp; omega]; rfl
    go_wp2
    go_ret
    exact ⟨by rw [HE.out,HF.out]; rfl,rfl⟩
   ·have b0 : decide (x < 0) = false := by simp; omega
    by_cases c1 : q ≤ x
    ·have b1 : decide (q ≤ x) = true := by simp; omega
     have HF : Hid (inR q x = false) := by (show inR q x = false); rw [HX.out,show decide (x < q) = false by simp; omega]; simp
     go_wp2
     go_ret
     exact ⟨by rw [HE.out,HF.out]; rfl,rfl⟩
    ·have b1 : decide (q ≤ x) = false := by simp; omega
     have HF : Hid (inR q x = true) := by (show inR q x = true); rw [HX.out,show decide (0 ≤ x) = true by simp; omega,show decide (x < q) = true by simp; omega]; rfl
     go_wp2
     go_round
     case rel => exact ⟨i + 1,hlt,by go_num,by (have := HE.out; rw [HF.out] at this; show r = _; simpa using this)⟩
     case measure => simp [intOf]; omega
  ·obtain rfl : i = n := by omega
   go_wp2
   go_ret
   exact ⟨by (have := HI.out; rw [List.drop_eq_nil_of_le (by rw [HN.out]; exact Nat.le_refl _)] at this; rw [this]; rfl),rfl⟩
end Go.Proofs.YtjgeedgphcjhoaaGreat
namespace Go.Proofs.YtjgeedgphcjhoaaGreat
open Go.RowKit
def str (l : List UInt8) : ByteArray := ⟨l.toArray⟩
theorem str_list (l : List UInt8) : (str l).toList = l := by rw [ByteArray.toList_eq]; rfl
theorem str_size (l : List UInt8) : (str l).size = l.length := by simp [str,ByteArray.size]
theorem str_get (l : List UInt8) (n : Nat) (h : n < l.length) (h' : n < (str l).size) : (str l)[n]'h' = l[n] := by
 show (l.toArray)[n]'(by simpa using h) = l[n]
 rfl
theorem str_snoc (x l : List UInt8) (n : Nat) (h : n < l.length) : str x ++ (str l).extract n (n + 1) = str (x ++ [l[n]]) := by
 apply ByteArray.ext
 simp only [ByteArray.data_append,ByteArray.data_extract,str]
 rw [List.extract_toArray,List.append_toArray]
 congr 2
 rw [List.extract_eq_take_drop,Nat.add_sub_cancel_left,List.drop_eq_getElem_cons h]
 rfl
def sc (l : List (List UInt8)) : List Value := l.map fun x => Value.string (str x)
theorem info9 : (Tryz.prog.info? 9).map (fun i => (i.zero,i.size,i.bytes)) = some (some (.string ⟨#[]⟩),1,16) := by kernel_rfl
theorem append_str {w : World} {ops : Array Oper} {rest : List Oper} {o : Oper} {a : Act} {Q : Exit → Act → World → Prop} (hgd : o.guard = none) (s x : Operand)
  (ho : o.op = .call { callee := .builtin .append,args := #[s,x],argTypes := #[218,218] }) (base : Nat) (v : Value) (n : Nat) (xs : List Value) (q : ByteArray)
  (hown : w.ownsRow base 9 1 v n xs) (hbase : base ≤ w.heap.size) (hn : n + 1 ≤ 1000000) (hs : a.eval s = v) (hx : a.eval x = .slice (some ⟨w.heap.size,0,none⟩) 1 1)
  (h : ∀ v' w',w'.ownsRow base 9 1 v' (n + 1) (xs ++ [.string q]) → Below base w w' → base ≤ w'.heap.size → wpList Tryz.prog ops Q rest (a.put o.dst v') w') :
  wpList Tryz.prog ops Q (o :: rest) a (w.alloc (.cells #[.string q] 9)) := by
 obtain ⟨i0,hi,hz0,hz1,hz2⟩ := info_parts info9
 have hb1 := (Below.refl base w).alloc hbase (.cells #[.string q] 9)
 refine wpList_append_own _ hgd s x 218 ho base 9 i0 (.string ⟨#[]⟩) 1 16 Tryz.underlying218 hi hz0 hz1 hz2 rfl (by decide) v n xs hs (hown.alloc _) ⟨w.heap.size,0,none⟩ 1 1 [.string q] hx rfl (cell_one_new _ _ _)
  (fun u hu => by simp at hu; subst hu; rfl) (by unfold maxLen; omega) (by omega) (by simp; omega) ?_
 intro v' w1 hown' hgrow _
 exact h v' w1 hown' (hb1.grown hgrow (by simp; omega) (fun k hk => (hown.lt k hk).1)) (by have := hgrow.size; simp at this; omega)
/-- A step over a text's byte: the words so far, the word at hand. -/
def stepW (p : List (List UInt8) × List UInt8) (c : UInt8) : List (List UInt8) × List UInt8 :=
 match p with
 | (o,x) => if c = 32 then (if x = [] then (o,[]) else (o ++ [x],[])) else (o,x ++ [c])
def wst (l : List UInt8) (n : Nat) : List (List UInt8) × List UInt8 := ((l ++ [32]).take n).foldl stepW ([],[])
/-- The words of a text. -/
def wordsL (l : List UInt8) : List (List UInt8) := (wst l (l.length + 1)).1
theorem wst_succ (l : List UInt8) (n : Nat) (c : UInt8) (h : (l ++ [32])[n]? = some c) : wst l (n + 1) = stepW (wst l n) c := by
 unfold wst
 rw [List.take_add_one,h,List.foldl_append]
 rfl
theorem wst_len (l : List UInt8) (n : Nat) : (wst l n).1.length + (wst l n).2.length ≤ n := by
 induction n with
 | zero => simp [wst]
 | succ n ih =>
  cases h : (l ++ [32])[n]? with
  | none =>
   have e : wst l (n + 1) = wst l n := by unfold wst; rw [List.take_add_one,h]; simp
   rw [e]; omega
  | some c =>
   rw [wst_succ l n c h]
   generalize wst l n = p at ih
   obtain ⟨o,x⟩ := p
   simp only [stepW] at ih ⊢
   split
   ·split
    ·rename_i hx; subst hx; simp at ih ⊢; omega
    ·rename_i hx
     have : 0 < x.length := List.length_pos_iff.2 hx
     simp; omega
   ·simp; omega
end Go.Proofs.YtjgeedgphcjhoaaGreat
namespace Go.Proofs.YtjgeedgphcjhoaaGreat
open Go.RowKit
theorem tab_front {T : TypeId} {oa ob oc os : Oper} {rest : Code} {Q : Exit → Act → World → Prop} {i : Value} {w : World} {parts : Array (Nat × Operand)} {cs zs : Array Value}
  (ha : oa.op = .assign (.const (.string ⟨#[]⟩)) ∧ oa.dst = some 2 ∧ oa.guard = none)
  (hb : ob.op = .build T parts ∧ ob.dst = some 4 ∧ ob.guard = none) (hbuilt : ∀ a : Act,Tryz.prog.built T (parts.map fun (i,x) => (i,a.eval x)).toList = some cs)
  (hc : oc.op = .alloc T ∧ oc.dst = some 3 ∧ oc.guard = none) (halloc : ∀ (a : Act) (W : World),(execOp a.eval oc).run Tryz.prog W = .ok (.value (.pointer (some ⟨W.heap.size,0,none⟩))) (W.alloc (.cells zs T)))
  (hs : os.op = .store T (.tmp 3) (.tmp 4) ∧ os.dst = none ∧ os.guard = none)
  (hzs : zs.size = cs.size) (hi : (Tryz.prog.info? T).map (·.size) = some cs.size) (h1 : cs.all (·.oneCell') = true)
  (h : ∀ v4 W,(∀ k v,cs[k]? = some v → W.cell? ⟨w.heap.size,k,none⟩ = some v) → Below w.heap.size w W →
   Code.wp Tryz.prog rest Q { tmps := #[i,undef,.string ⟨#[]⟩,.pointer (some ⟨w.heap.size,0,none⟩),v4,undef,undef,undef],defers := [] } W) :
  Code.wp Tryz.prog (.seq (.region 0 #[oa] false) (.seq (.region 1 #[ob,oc,os] false) rest)) Q { tmps := #[i,undef,undef,undef,undef,undef,undef,undef],defers := [] } w := by
 obtain ⟨ha1,ha2,ha3⟩ := ha
 obtain ⟨hb1,hb2,hb3⟩ := hb
 obtain ⟨hc1,hc2,hc3⟩ := hc
 obtain ⟨hs1,hs2,hs3⟩ := hs
 refine wp_seq (wp_region_lit (l := [oa]) ?_)
 refine run_to ha3 (some 2) ha2 (.string ⟨#[]⟩) w (by unfold execOp; rw [ha1]; rfl) ?_
 show Exit.then _ _ .normal _ _
 show Code.wp _ _ _ _ _
 refine wp_seq (wp_region_lit (l := [ob,oc,os]) ?_)
 refine wpList_buildTo hb3 T parts hb1 (some 4) hb2 cs (hbuilt _) ?_
 refine run_to hc3 (some 3) hc2 (.pointer (some ⟨w.heap.size,0,none⟩)) (w.alloc (.cells zs T)) (halloc _ _) ?_
 have hheap : (w.alloc (.cells zs T)).heap[w.heap.size]? = some (.cells zs T (0,0)) := by
  show (w.heap.push _)[w.heap.size]? = _
  simp
 refine wpList_store_rowTo hs3 T (.tmp 3) (.tmp 4) hs1 hs2 w.heap.size cs (by rfl) (by rfl) T zs hheap hi hzs h1 ?_
 show Exit.then _ _ .normal _ _
 show Code.wp _ _ _ _ _
 refine h (.agg cs) _ ?_ ?_
 ·intro k v hk
  rw [World.cell?,setRow_heap _ _ _ _ _ _ hheap]
  simpa using hk
 ·exact ⟨rfl,rfl,rfl,by simp,fun k hk => by rw [setRow_other _ _ _ _ (by omega)]; exact Below.heap_alloc _ _ _ hk⟩
def buildOf (f : Func) : Oper := match f.body with
 | some (.seq _ (.seq (.region _ ops _) _)) => ops.getD 0 default
 | _ => default
def partsOf (o : Oper) : Array (Nat × Operand) := match o.op with
 | .build _ parts => parts
 | _ => #[]
def strOf (v : Value) : List UInt8 := match v with
 | .string s => s.data.toList
 | _ => []
def refTab (n : Nat) (f : Func) : List (List UInt8) := (List.range n).map fun k => match (partsOf (buildOf f)).toList.find? fun x => x.1 == k with
 | some (_,.const v) => strOf v
 | _ => []
noncomputable def tabOne : List (List UInt8) := refTab 211 Tryz.f216
noncomputable def tabTwo : List (List UInt8) := refTab 18 Tryz.f217
noncomputable def tabThree : List (List UInt8) := refTab 256 Tryz.f218
theorem one_len : tabOne.length = 211 := by kernel_rfl
theorem two_len : tabTwo.length = 18 := by kernel_rfl
theorem three_len : tabThree.length = 256 := by kernel_rfl
theorem sc_at {l : List (List UInt8)} {k : Nat} (h : k < l.length) : (sc l).toArray[k]? = some (.string (str (l.getD k []))) := by
 simp [sc,List.getElem?_eq_getElem h,List.getD_eq_getElem?_getD]
def ops0 (f : Func) : Oper := match f.body with
 | some (.seq (.region _ ops _) _) => ops.getD 0 default
 | _ => default
def ops1 (f : Func) (k : Nat) : Oper := match f.body with
 | some (.seq _ (.seq (.region _ ops _) _)) => ops.getD k default
 | _ => default
theorem two_says (k : Nat) (hk : k < 18) (w : World) : Calls Tryz.prog 217 #[.int .i64 k] w fun e w' => e = .returned (.string (str (tabTwo.getD k []))) ∧ Below w.heap.size w w' := by
 refine calls_of_wp (c := .seq (.region 0 #[ops0 Tryz.f217] false) (.seq (.region 1 #[ops1 Tryz.f217 0, ops1 Tryz.f217 1, ops1 Tryz.f217 2] false) (.seq (.region 2 #[{ dst := some 5, op := Op.move (Operand.tmp 0), type := 3, pos := "table.go:45", after := #[], guard := none }, { dst := some 6, op := Op.indexAddr 234 (Operand.tmp 3) (Operand.tmp 5), type := 0, pos := "table.go:45", after := #[{ on := 0, ground := Ground.data }], guard := none }, { dst := some 7, op := Op.load 9 (Operand.tmp 6), type := 9, pos := "table.go:45", after := #[{ on := 1, ground := Ground.data }], guard := none }, { dst := some 2, op := Op.assign (Operand.tmp 7), type := 9, pos := "table.go:45", after := #[{ on := 2, ground := Ground.data }, { on := 0, ground := Ground.phase }, { on := 1, ground := Ground.phase }, { on := 2, ground := Ground.phase }], guard := none }] false) .ret))) Tryz.func217 (by kernel_rfl) ?_
 show Code.wp _ _ _ { tmps := #[.int .i64 k,undef,undef,undef,undef,undef,undef,undef],defers := [] } _
 refine tab_front (T := 234) (parts := partsOf (buildOf Tryz.f217)) (cs := (sc tabTwo).toArray) (zs := Array.replicate 18 (.string ⟨#[]⟩)) ⟨by kernel_rfl,by kernel_rfl,by kernel_rfl⟩ ⟨by kernel_rfl,by kernel_rfl,by kernel_rfl⟩ (fun _ => by kernel_rfl) ⟨by kernel_rfl,by kernel_rfl,by kernel_rfl⟩ (fun _ _ => by kernel_rfl) ⟨by kernel_rfl,by kernel_rfl,by kernel_rfl⟩ (by kernel_rfl) (by kernel_rfl) (by kernel_rfl) ?_
 intro v4 W hc hb
 have hcell := hc k _ (sc_at (by rw [two_len]; exact hk))
 obtain ⟨s,hs⟩ : ∃ s,s = str (tabTwo.getD k []) := ⟨_,rfl⟩
 rw [← hs] at hcell ⊢
 clear hc hs
 go_wp2
 go_ret
 exact ⟨rfl,hb⟩
theorem one_says (k : Nat) (hk : k < 211) (w : World) : Calls Tryz.prog 216 #[.int .i64 k] w fun e w' => e = .returned (.string (str (tabOne.getD k []))) ∧ Below w.heap.size w w' := by
 refine calls_of_wp (c := .seq (.region 0 #[ops0 Tryz.f216] false) (.seq (.region 1 #[ops1 Tryz.f216 0, ops1 Tryz.f216 1, ops1 Tryz.f216 2] false) (.seq (.region 2 #[{ dst := some 5, op := Op.move (Operand.tmp 0), type := 3, pos := "table.go:34", after := #[], guard := none }, { dst := some 6, op := Op.indexAddr 233 (Operand.tmp 3) (Operand.tmp 5), type := 0, pos := "table.go:34", after := #[{ on := 0, ground := Ground.data }], guard := none }, { dst := some 7, op := Op.load 9 (Operand.tmp 6), type := 9, pos := "table.go:34", after := #[{ on := 1, ground := Ground.data }], guard := none }, { dst := some 2, op := Op.assign (Operand.tmp 7), type := 9, pos := "table.go:34", after := #[{ on := 2, ground := Ground.data }, { on := 0, ground := Ground.phase }, { on := 1, ground := Ground.phase }, { on := 2, ground := Ground.phase }], guard := none }] false) .ret))) Tryz.func216 (by kernel_rfl) ?_
 show Code.wp _ _ _ { tmps := #[.int .i64 k,undef,undef,undef,undef,undef,undef,undef],defers := [] } _
 refine tab_front (T := 233) (parts := partsOf (buildOf Tryz.f216)) (cs := (sc tabOne).toArray) (zs := Array.replicate 211 (.string ⟨#[]⟩)) ⟨by kernel_rfl,by kernel_rfl,by kernel_rfl⟩ ⟨by kernel_rfl,by kernel_rfl,by kernel_rfl⟩ (fun _ => by kernel_rfl) ⟨by kernel_rfl,by kernel_rfl,by kernel_rfl⟩ (fun _ _ => by kernel_rfl) ⟨by kernel_rfl,by kernel_rfl,by kernel_rfl⟩ (by kernel_rfl) (by kernel_rfl) (by kernel_rfl) ?_
 intro v4 W hc hb
 have hcell := hc k _ (sc_at (by rw [one_len]; exact hk))
 obtain ⟨s,hs⟩ : ∃ s,s = str (tabOne.getD k []) := ⟨_,rfl⟩
 rw [← hs] at hcell ⊢
 clear hc hs
 go_wp2
 go_ret
 exact ⟨rfl,hb⟩
theorem three_says (k : Nat) (hk : k < 256) (w : World) : Calls Tryz.prog 218 #[.int .i64 k] w fun e w' => e = .returned (.string (str (tabThree.getD k []))) ∧ Below w.heap.size w w' := by
 refine calls_of_wp (c := .seq (.region 0 #[ops0 Tryz.f218] false) (.seq (.region 1 #[ops1 Tryz.f218 0, ops1 Tryz.f218 1, ops1 Tryz.f218 2] false) (.seq (.region 2 #[{ dst := some 5, op := Op.move (Operand.tmp 0), type := 3, pos := "table.go:95", after := #[], guard := none }, { dst := some 6, op := Op.indexAddr 235 (Operand.tmp 3) (Operand.tmp 5), type := 0, pos := "table.go:95", after := #[{ on := 0, ground := Ground.data }], guard := none }, { dst := some 7, op := Op.load 9 (Operand.tmp 6), type := 9, pos := "table.go:95", after := #[{ on := 1, ground := Ground.data }], guard := none }, { dst := some 2, op := Op.assign (Operand.tmp 7), type := 9, pos := "table.go:95", after := #[{ on := 2, ground := Ground.data }, { on := 0, ground := Ground.phase }, { on := 1, ground := Ground.phase }, { on := 2, ground := Ground.phase }], guard := none }] false) .ret))) Tryz.func218 (by kernel_rfl) ?_
 show Code.wp _ _ _ { tmps := #[.int .i64 k,undef,undef,undef,undef,undef,undef,undef],defers := [] } _
 refine tab_front (T := 235) (parts := partsOf (buildOf Tryz.f218)) (cs := (sc tabThree).toArray) (zs := Array.replicate 256 (.string ⟨#[]⟩)) ⟨by kernel_rfl,by kernel_rfl,by kernel_rfl⟩ ⟨by kernel_rfl,by kernel_rfl,by kernel_rfl⟩ (fun _ => by kernel_rfl) ⟨by kernel_rfl,by kernel_rfl,by kernel_rfl⟩ (fun _ _ => by kernel_rfl) ⟨by kernel_rfl,by kernel_rfl,by kernel_rfl⟩ (by kernel_rfl) (by kernel_rfl) (by kernel_rfl) ?_
 intro v4 W hc hb
 have hcell := hc k _ (sc_at (by rw [three_len]; exact hk))
 obtain ⟨s,hs⟩ : ∃ s,s = str (tabThree.getD k []) := ⟨_,rfl⟩
 rw [← hs] at hcell ⊢
 clear hc hs
 go_wp2
 go_ret
 exact ⟨rfl,hb⟩
end Go.Proofs.YtjgeedgphcjhoaaGreat
