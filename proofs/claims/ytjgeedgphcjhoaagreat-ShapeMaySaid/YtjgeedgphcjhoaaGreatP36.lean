/-
  SMayL: merged, what the law does not reach left out (each text says what it holds where it lies in wip). No condition.
-/
import Derived.Test.YtjgeedgphcjhoaaGreatP29
import Derived.Test.YtjgeedgphcjhoaaGreatP35
import Derived.Deep.RegionHeld3
import Derived.Deep.DeepCutAuto
set_option linter.unusedSimpArgs false
set_option linter.unusedVariables false
set_option maxRecDepth 100000
namespace Go.Proofs.YtjgeedgphcjhoaaGreat
open Go.RowKit
set_option maxHeartbeats 4000000 in
theorem law_May (M : MD) (w : World) (h : M.ok w.heap.size w) : Calls Tryz.prog 3 #[M.val] w fun e w' => e = .returned (.bool true) ∧ Below w.heap.size w w' := by
 have HA := fun W => hid (awake_says W)
 have HF := fun (W : World) (hW : Below w.heap.size w W) => hid (Fits_M ((h.below hW).mono hW.size))
 have HM := fun (hf : FitM M) (W : World) (hW : Below w.heap.size w W) => hid (May_M ((h.below hW).mono hW.size) hf)
 have HR := fun (hf : FitM M) (W : World) (hW : Below w.heap.size w W) => hid (RMay_M ((h.below hW).mono hW.size) hf)
 rw [may_eq h] at HM
 generalize mayR M = b at *
 unfold MD.val at *
 generalize FitM M = FM at *
 clear h
 rcases M with ⟨tp,tn,tc,tg,tw,t,imp,imn,imc,img,imw,im,fp,fn,fc,fg,fw,f,tbp,tbn,tbc,tbg,tbw,tb,mp,mn,mc,mg,mw,m,gp,gn,gc,gg,gw,g,xp,xn,xc,xg,xw,x,ep,en,ec,eg,ew,e,dp,dn,dc,dg,dw,d,st,cnt⟩
 dsimp only at *
 have HX0 := hid (CA.new w #[.slice tp tn tc,.slice imp imn imc,.slice fp fn fc,.slice tbp tbn tbc,.slice mp mn mc,.slice gp gn gc,.slice xp xn xc,.int .i64 st,.slice ep en ec,.slice dp dn dc,.bool cnt] 32)
 have HB0 := hid ((Below.refl w.heap.size w).alloc (Nat.le_refl _) (.cells #[.slice tp tn tc,.slice imp imn imc,.slice fp fn fc,.slice tbp tbn tbc,.slice mp mn mc,.slice gp gn gc,.slice xp xn xc,.int .i64 st,.slice ep en ec,.slice dp dn dc,.bool cnt] 32))
 go_enter Tryz.func3,Tryz.ntmps3
 go_upto_region 4 with (go_at_call 13; (with_reducible refine (HA _).out.mono ?_); rintro e w1 ⟨rfl,hb⟩; have HB1 := hid (HB0.out.trans (hb.mono HB0.out.size)); have HX1 := hid (HX0.out.below hb HX0.out.lt); clear hb)
 obtain ⟨y0,y1,y2,y3,y4,y5,y6,y7,y8,y9,y10⟩ := ca11 HX1.out
 go_upto_region 5 with (go_at_call 14; (with_reducible refine (HF _ HB1.out).out.mono ?_); rintro e w2 ⟨bf,rfl,hb,hr⟩; have HFM := hid hr; have HB2 := hid (HB1.out.trans (hb.mono HB1.out.size)); have HX2 := hid (HX1.out.below hb HX1.out.lt); clear hb hr)
 clear y0 y1 y2 y3 y4 y5 y6 y7 y8 y9 y10 HF HA HX0 HB0 HX1 HB1
 cases bf with
 | false =>
  clear HM HR HFM
  have hS : Below w2.heap.size w2 w2.drew := (Below.refl _ _).drew
  refine wp_region_held_drew (S := fun W => Below w2.heap.size w2 W) (by kernel_rfl) hS (fun _ => ?_)
  generalize w2.drew = W at *
  refine wpAnyH_take (oi := ⟨_,_,_,_,_,_⟩) (i := 0) (v := .bool false) rfl (by kernel_rfl) (by kernel_rfl) (by kernel_rfl) (fun _ _ _ h => h) (Or.inl ⟨by rfl,?_⟩) (by assumption) ?_
  ·(intro W hSw; skip; go_simp; try (with_reducible rfl))
  try simp only [Act.put,List.setIfInBounds_toArray,List.set_cons_zero,List.set_cons_succ]
  refine wpAnyH_take (oi := ⟨_,_,_,_,_,_⟩) (i := 1) (v := .bool true) rfl (by kernel_rfl) (by kernel_rfl) (by kernel_rfl) (fun _ _ _ h => h) (Or.inl ⟨by rfl,?_⟩) (by assumption) ?_
  ·(intro W hSw; skip; go_simp; try (with_reducible rfl))
  try simp only [Act.put,List.setIfInBounds_toArray,List.set_cons_zero,List.set_cons_succ]
  refine wpAnyH_take (oi := ⟨_,_,_,_,_,_⟩) (i := 2) (v := .bool true) rfl (by kernel_rfl) (by kernel_rfl) (by kernel_rfl) (fun _ _ _ h => h) (Or.inl ⟨by rfl,?_⟩) (by assumption) ?_
  ·(intro W hSw; skip; go_simp; try (with_reducible rfl))
  try simp only [Act.put,List.setIfInBounds_toArray,List.set_cons_zero,List.set_cons_succ]
  refine wpAnyH_take (oi := ⟨_,_,_,_,_,_⟩) (i := 3) (v := undef) rfl (by kernel_rfl) (by kernel_rfl) (by kernel_rfl) (fun _ _ _ h => h) (Or.inr ⟨by rfl,rfl⟩) (by assumption) ?_
  try simp only [Act.put,List.setIfInBounds_toArray,List.set_cons_zero,List.set_cons_succ]
  refine wpAnyH_take (oi := ⟨_,_,_,_,_,_⟩) (i := 4) (v := undef) rfl (by kernel_rfl) (by kernel_rfl) (by kernel_rfl) (fun _ _ _ h => h) (Or.inr ⟨by rfl,rfl⟩) (by assumption) ?_
  try simp only [Act.put,List.setIfInBounds_toArray,List.set_cons_zero,List.set_cons_succ]
  refine wpAnyH_take (oi := ⟨_,_,_,_,_,_⟩) (i := 5) (v := undef) rfl (by kernel_rfl) (by kernel_rfl) (by kernel_rfl) (fun _ _ _ h => h) (Or.inr ⟨by rfl,rfl⟩) (by assumption) ?_
  try simp only [Act.put,List.setIfInBounds_toArray,List.set_cons_zero,List.set_cons_succ]
  refine wpAnyH_take (oi := ⟨_,_,_,_,_,_⟩) (i := 6) (v := undef) rfl (by kernel_rfl) (by kernel_rfl) (by kernel_rfl) (fun _ _ _ h => h) (Or.inr ⟨by rfl,rfl⟩) (by assumption) ?_
  try simp only [Act.put,List.setIfInBounds_toArray,List.set_cons_zero,List.set_cons_succ]
  refine wpAnyH_take (oi := ⟨_,_,_,_,_,_⟩) (i := 7) (v := undef) rfl (by kernel_rfl) (by kernel_rfl) (by kernel_rfl) (fun _ _ _ h => h) (Or.inr ⟨by rfl,rfl⟩) (by assumption) ?_
  try simp only [Act.put,List.setIfInBounds_toArray,List.set_cons_zero,List.set_cons_succ]
  refine wpAnyH_take (oi := ⟨_,_,_,_,_,_⟩) (i := 8) (v := .bool true) rfl (by kernel_rfl) (by kernel_rfl) (by kernel_rfl) (fun _ _ _ h => h) (Or.inl ⟨by rfl,?_⟩) (by assumption) ?_
  ·(intro W hSw; skip; go_simp; try (with_reducible rfl))
  try simp only [Act.put,List.setIfInBounds_toArray,List.set_cons_zero,List.set_cons_succ]
  refine wpAnyH_take (oi := ⟨_,_,_,_,_,_⟩) (i := 9) (v := .bool true) rfl (by kernel_rfl) (by kernel_rfl) (by kernel_rfl) (fun _ _ _ h => h) (Or.inl ⟨by rfl,?_⟩) (by assumption) ?_
  ·(intro W hSw; skip; go_simp; try (with_reducible rfl))
  try simp only [Act.put,List.setIfInBounds_toArray,List.set_cons_zero,List.set_cons_succ]
  refine wpAnyH_done (by kernel_rfl) ?_ _
  have HF := hid (HB2.out.trans (hS.mono HB2.out.size))
  clear hS
  go_wp2
  go_ret
  exact ⟨rfl,HF.out⟩
 | true =>
  have hf := HFM.out rfl
  have LF := fun (W : World) (h : Below w2.heap.size w2 W) => hid (HX2.out.below h HX2.out.lt)
  have KP := fun (W : World) (h : Below w2.heap.size w2 W) => hid (HM hf W (HB2.out.trans (h.mono HB2.out.size))).out
  have KR := fun (W : World) (h : Below w2.heap.size w2 W) => hid (HR hf W (HB2.out.trans (h.mono HB2.out.size))).out
  clear HM HR HFM hf HX2
  have hS : Below w2.heap.size w2 w2.drew := (Below.refl _ _).drew
  refine wp_region_held_drew (S := fun W => Below w2.heap.size w2 W) (by kernel_rfl) hS (fun _ => ?_)
  generalize w2.drew = W at *
  refine wpAnyH_take (oi := ⟨_,_,_,_,_,_⟩) (i := 0) (v := .bool true) rfl (by kernel_rfl) (by kernel_rfl) (by kernel_rfl) (fun _ _ _ h => h) (Or.inl ⟨by rfl,?_⟩) (by assumption) ?_
  ·(intro W hSw; have x0 := ((LF W hSw).out).at (k := 0) (v := .slice tp tn tc) rfl; have x1 := ((LF W hSw).out).at (k := 1) (v := .slice imp imn imc) rfl; have x2 := ((LF W hSw).out).at (k := 2) (v := .slice fp fn fc) rfl; have x3 := ((LF W hSw).out).at (k := 3) (v := .slice tbp tbn tbc) rfl; have x4 := ((LF W hSw).out).at (k := 4) (v := .slice mp mn mc) rfl; have x5 := ((LF W hSw).out).at (k := 5) (v := .slice gp gn gc) rfl; have x6 := ((LF W hSw).out).at (k := 6) (v := .slice xp xn xc) rfl; have x7 := ((LF W hSw).out).at (k := 7) (v := .int .i64 st) rfl; have x8 := ((LF W hSw).out).at (k := 8) (v := .slice ep en ec) rfl; have x9 := ((LF W hSw).out).at (k := 9) (v := .slice dp dn dc) rfl; have x10 := ((LF W hSw).out).at (k := 10) (v := .bool cnt) rfl; go_simp; try (with_reducible rfl))
  try simp only [Act.put,List.setIfInBounds_toArray,List.set_cons_zero,List.set_cons_succ]
  refine wpAnyH_take (oi := ⟨_,_,_,_,_,_⟩) (i := 1) (v := .bool false) rfl (by kernel_rfl) (by kernel_rfl) (by kernel_rfl) (fun _ _ _ h => h) (Or.inl ⟨by rfl,?_⟩) (by assumption) ?_
  ·(intro W hSw; have x0 := ((LF W hSw).out).at (k := 0) (v := .slice tp tn tc) rfl; have x1 := ((LF W hSw).out).at (k := 1) (v := .slice imp imn imc) rfl; have x2 := ((LF W hSw).out).at (k := 2) (v := .slice fp fn fc) rfl; have x3 := ((LF W hSw).out).at (k := 3) (v := .slice tbp tbn tbc) rfl; have x4 := ((LF W hSw).out).at (k := 4) (v := .slice mp mn mc) rfl; have x5 := ((LF W hSw).out).at (k := 5) (v := .slice gp gn gc) rfl; have x6 := ((LF W hSw).out).at (k := 6) (v := .slice xp xn xc) rfl; have x7 := ((LF W hSw).out).at (k := 7) (v := .int .i64 st) rfl; have x8 := ((LF W hSw).out).at (k := 8) (v := .slice ep en ec) rfl; have x9 := ((LF W hSw).out).at (k := 9) (v := .slice dp dn dc) rfl; have x10 := ((LF W hSw).out).at (k := 10) (v := .bool cnt) rfl; go_simp; try (with_reducible rfl))
  try simp only [Act.put,List.setIfInBounds_toArray,List.set_cons_zero,List.set_cons_succ]
  refine wpAnyH_take (oi := ⟨_,_,_,_,_,_⟩) (i := 2) (v := .bool false) rfl (by kernel_rfl) (by kernel_rfl) (by kernel_rfl) (fun _ _ _ h => h) (Or.inl ⟨by rfl,?_⟩) (by assumption) ?_
  ·(intro W hSw; have x0 := ((LF W hSw).out).at (k := 0) (v := .slice tp tn tc) rfl; have x1 := ((LF W hSw).out).at (k := 1) (v := .slice imp imn imc) rfl; have x2 := ((LF W hSw).out).at (k := 2) (v := .slice fp fn fc) rfl; have x3 := ((LF W hSw).out).at (k := 3) (v := .slice tbp tbn tbc) rfl; have x4 := ((LF W hSw).out).at (k := 4) (v := .slice mp mn mc) rfl; have x5 := ((LF W hSw).out).at (k := 5) (v := .slice gp gn gc) rfl; have x6 := ((LF W hSw).out).at (k := 6) (v := .slice xp xn xc) rfl; have x7 := ((LF W hSw).out).at (k := 7) (v := .int .i64 st) rfl; have x8 := ((LF W hSw).out).at (k := 8) (v := .slice ep en ec) rfl; have x9 := ((LF W hSw).out).at (k := 9) (v := .slice dp dn dc) rfl; have x10 := ((LF W hSw).out).at (k := 10) (v := .bool cnt) rfl; go_simp; try (with_reducible rfl))
  try simp only [Act.put,List.setIfInBounds_toArray,List.set_cons_zero,List.set_cons_succ]
  refine wpAnyH_take (oi := ⟨_,_,_,_,_,_⟩) (i := 3) (v := .agg #[.slice tp tn tc,.slice imp imn imc,.slice fp fn fc,.slice tbp tbn tbc,.slice mp mn mc,.slice gp gn gc,.slice xp xn xc,.int .i64 st,.slice ep en ec,.slice dp dn dc,.bool cnt]) rfl (by kernel_rfl) (by kernel_rfl) (by kernel_rfl) (fun _ _ _ h => h) (Or.inl ⟨by rfl,?_⟩) (by assumption) ?_
  ·(intro W hSw; have x0 := ((LF W hSw).out).at (k := 0) (v := .slice tp tn tc) rfl; have x1 := ((LF W hSw).out).at (k := 1) (v := .slice imp imn imc) rfl; have x2 := ((LF W hSw).out).at (k := 2) (v := .slice fp fn fc) rfl; have x3 := ((LF W hSw).out).at (k := 3) (v := .slice tbp tbn tbc) rfl; have x4 := ((LF W hSw).out).at (k := 4) (v := .slice mp mn mc) rfl; have x5 := ((LF W hSw).out).at (k := 5) (v := .slice gp gn gc) rfl; have x6 := ((LF W hSw).out).at (k := 6) (v := .slice xp xn xc) rfl; have x7 := ((LF W hSw).out).at (k := 7) (v := .int .i64 st) rfl; have x8 := ((LF W hSw).out).at (k := 8) (v := .slice ep en ec) rfl; have x9 := ((LF W hSw).out).at (k := 9) (v := .slice dp dn dc) rfl; have x10 := ((LF W hSw).out).at (k := 10) (v := .bool cnt) rfl; go_simp; try (with_reducible rfl))
  try simp only [Act.put,List.setIfInBounds_toArray,List.set_cons_zero,List.set_cons_succ]
  refine wpAnyH_take (oi := ⟨_,_,_,_,_,_⟩) (i := 5) (v := .agg #[.slice tp tn tc,.slice imp imn imc,.slice fp fn fc,.slice tbp tbn tbc,.slice mp mn mc,.slice gp gn gc,.slice xp xn xc,.int .i64 st,.slice ep en ec,.slice dp dn dc,.bool cnt]) rfl (by kernel_rfl) (by kernel_rfl) (by kernel_rfl) (fun _ _ _ h => h) (Or.inl ⟨by rfl,?_⟩) (by assumption) ?_
  ·(intro W hSw; have x0 := ((LF W hSw).out).at (k := 0) (v := .slice tp tn tc) rfl; have x1 := ((LF W hSw).out).at (k := 1) (v := .slice imp imn imc) rfl; have x2 := ((LF W hSw).out).at (k := 2) (v := .slice fp fn fc) rfl; have x3 := ((LF W hSw).out).at (k := 3) (v := .slice tbp tbn tbc) rfl; have x4 := ((LF W hSw).out).at (k := 4) (v := .slice mp mn mc) rfl; have x5 := ((LF W hSw).out).at (k := 5) (v := .slice gp gn gc) rfl; have x6 := ((LF W hSw).out).at (k := 6) (v := .slice xp xn xc) rfl; have x7 := ((LF W hSw).out).at (k := 7) (v := .int .i64 st) rfl; have x8 := ((LF W hSw).out).at (k := 8) (v := .slice ep en ec) rfl; have x9 := ((LF W hSw).out).at (k := 9) (v := .slice dp dn dc) rfl; have x10 := ((LF W hSw).out).at (k := 10) (v := .bool cnt) rfl; go_simp; try (with_reducible rfl))
  try simp only [Act.put,List.setIfInBounds_toArray,List.set_cons_zero,List.set_cons_succ]
  refine wpAnyH_ready (rs := [4]) (by kernel_rfl) (by simp) ?_
  refine AllReadyH.cons (o := ⟨_,_,_,_,_,_⟩) rfl (fun K hK => ?_) ?_
  ·go_simp
   go_at_call 15
   (with_reducible refine (KP W hS).out.mono ?_)
   rintro e W11 ⟨rfl,hb⟩
   replace hS := hS.trans (hb.mono hS.size)
   clear hb
   refine hK.out _ _ hS (fun _ => ?_)
   clear hK K
   try simp only [Act.put,List.setIfInBounds_toArray,List.set_cons_zero,List.set_cons_succ]
   refine wpAnyH_ready (rs := [6]) (by kernel_rfl) (by simp) ?_
   refine AllReadyH.cons (o := ⟨_,_,_,_,_,_⟩) rfl (fun K hK => ?_) ?_
   ·go_simp
    go_at_call 16
    (with_reducible refine (KR W11 hS).out.mono ?_)
    rintro e W12 ⟨rfl,hb⟩
    replace hS := hS.trans (hb.mono hS.size)
    clear hb
    refine hK.out _ _ hS (fun _ => ?_)
    clear hK K
    try simp only [Act.put,List.setIfInBounds_toArray,List.set_cons_zero,List.set_cons_succ]
    refine wpAnyH_take (oi := ⟨_,_,_,_,_,_⟩) (i := 7) (v := .bool true) rfl (by kernel_rfl) (by kernel_rfl) (by kernel_rfl) (fun _ _ _ h => h) (Or.inl ⟨by rfl,?_⟩) (by assumption) ?_
    ·(intro W hSw; have x0 := ((LF W hSw).out).at (k := 0) (v := .slice tp tn tc) rfl; have x1 := ((LF W hSw).out).at (k := 1) (v := .slice imp imn imc) rfl; have x2 := ((LF W hSw).out).at (k := 2) (v := .slice fp fn fc) rfl; have x3 := ((LF W hSw).out).at (k := 3) (v := .slice tbp tbn tbc) rfl; have x4 := ((LF W hSw).out).at (k := 4) (v := .slice mp mn mc) rfl; have x5 := ((LF W hSw).out).at (k := 5) (v := .slice gp gn gc) rfl; have x6 := ((LF W hSw).out).at (k := 6) (v := .slice xp xn xc) rfl; have x7 := ((LF W hSw).out).at (k := 7) (v := .int .i64 st) rfl; have x8 := ((LF W hSw).out).at (k := 8) (v := .slice ep en ec) rfl; have x9 := ((LF W hSw).out).at (k := 9) (v := .slice dp dn dc) rfl; have x10 := ((LF W hSw).out).at (k := 10) (v := .bool cnt) rfl; go_simp; try (with_reducible rfl))
    try simp only [Act.put,List.setIfInBounds_toArray,List.set_cons_zero,List.set_cons_succ]
    refine wpAnyH_take (oi := ⟨_,_,_,_,_,_⟩) (i := 8) (v := .bool true) rfl (by kernel_rfl) (by kernel_rfl) (by kernel_rfl) (fun _ _ _ h => h) (Or.inl ⟨by rfl,?_⟩) (by assumption) ?_
    ·(intro W hSw; have x0 := ((LF W hSw).out).at (k := 0) (v := .slice tp tn tc) rfl; have x1 := ((LF W hSw).out).at (k := 1) (v := .slice imp imn imc) rfl; have x2 := ((LF W hSw).out).at (k := 2) (v := .slice fp fn fc) rfl; have x3 := ((LF W hSw).out).at (k := 3) (v := .slice tbp tbn tbc) rfl; have x4 := ((LF W hSw).out).at (k := 4) (v := .slice mp mn mc) rfl; have x5 := ((LF W hSw).out).at (k := 5) (v := .slice gp gn gc) rfl; have x6 := ((LF W hSw).out).at (k := 6) (v := .slice xp xn xc) rfl; have x7 := ((LF W hSw).out).at (k := 7) (v := .int .i64 st) rfl; have x8 := ((LF W hSw).out).at (k := 8) (v := .slice ep en ec) rfl; have x9 := ((LF W hSw).out).at (k := 9) (v := .slice dp dn dc) rfl; have x10 := ((LF W hSw).out).at (k := 10) (v := .bool cnt) rfl; go_simp; try (with_reducible rfl))
    try simp only [Act.put,List.setIfInBounds_toArray,List.set_cons_zero,List.set_cons_succ]
    refine wpAnyH_take (oi := ⟨_,_,_,_,_,_⟩) (i := 9) (v := .bool true) rfl (by kernel_rfl) (by kernel_rfl) (by kernel_rfl) (fun _ _ _ h => h) (Or.inl ⟨by rfl,?_⟩) (by assumption) ?_
    ·(intro W hSw; have x0 := ((LF W hSw).out).at (k := 0) (v := .slice tp tn tc) rfl; have x1 := ((LF W hSw).out).at (k := 1) (v := .slice imp imn imc) rfl; have x2 := ((LF W hSw).out).at (k := 2) (v := .slice fp fn fc) rfl; have x3 := ((LF W hSw).out).at (k := 3) (v := .slice tbp tbn tbc) rfl; have x4 := ((LF W hSw).out).at (k := 4) (v := .slice mp mn mc) rfl; have x5 := ((LF W hSw).out).at (k := 5) (v := .slice gp gn gc) rfl; have x6 := ((LF W hSw).out).at (k := 6) (v := .slice xp xn xc) rfl; have x7 := ((LF W hSw).out).at (k := 7) (v := .int .i64 st) rfl; have x8 := ((LF W hSw).out).at (k := 8) (v := .slice ep en ec) rfl; have x9 := ((LF W hSw).out).at (k := 9) (v := .slice dp dn dc) rfl; have x10 := ((LF W hSw).out).at (k := 10) (v := .bool cnt) rfl; go_simp; try (with_reducible rfl))
    try simp only [Act.put,List.setIfInBounds_toArray,List.set_cons_zero,List.set_cons_succ]
    refine wpAnyH_done (by kernel_rfl) ?_ _
    have HF := hid (HB2.out.trans (hS.mono HB2.out.size))
    clear hS
    go_wp2
    go_ret
    exact ⟨rfl,HF.out⟩
   exact AllReadyH.nil
  exact AllReadyH.nil
end Go.Proofs.YtjgeedgphcjhoaaGreat
