/-
  SpW: what a copy is in memory, and what becomes of it (the text says what it holds where it lies in wip). No condition.
-/
import Derived.Test.YtjgeedgphcjhoaaGreatT24
import Derived.Test.YtjgeedgphcjhoaaGreatT08
import Derived.Test.YtjgeedgphcjhoaaGreatT14
import Derived.Test.YtjgeedgphcjhoaaGreatV35
import Derived.Deep.RegionHeld3
import Derived.Deep.DeepCutAuto
set_option linter.unusedSimpArgs false
set_option linter.unusedVariables false
set_option maxRecDepth 100000
namespace Go.Proofs.YtjgeedgphcjhoaaGreat
open Go.RowKit
set_option maxHeartbeats 64000000 in
theorem spoil_says (s gd : Nat) (D : WBox) (w : World) (hm : WM s gd D w) (hx : CA gd D.arr 32 w) : Calls Tryz.prog 21 #[.pointer (some ⟨gd,0,none⟩)] w fun e w' => e = .returned (.tuple #[]) ∧ KS s gd w w' := by
 unfold WBox.arr at hx
 obtain ⟨tp,tn,tc,tb,imp,imn,imc,imb,fp,fn,fc,fb,tbp,tbn,tbc,tbb,mp,mn,mc,mb,gp,gn,gc,gb,xp,xn,xc,xb,ep,en,ec,eb,dp,dn,dc,db,fF,gF,eF,dF,kF,st,cnt⟩ := D
 dsimp only at hx
 obtain ⟨D,hD⟩ : ∃ D : WBox,D = ⟨tp,tn,tc,tb,imp,imn,imc,imb,fp,fn,fc,fb,tbp,tbn,tbc,tbb,mp,mn,mc,mb,gp,gn,gc,gb,xp,xn,xc,xb,ep,en,ec,eb,dp,dn,dc,db,fF,gF,eF,dF,kF,st,cnt⟩ := ⟨_,rfl⟩
 have HM0 := hid hm
 have HX0 := hid hx
 have nnt : (tn : Int) < 9223372036854775807 := by have := hm.th; dsimp only at this; omega
 have nnim : (imn : Int) < 9223372036854775807 := by have := hm.imh; dsimp only at this; omega
 have nnf : (fn : Int) < 9223372036854775807 := by have := hm.fh; dsimp only at this; omega
 have nntb : (tbn : Int) < 9223372036854775807 := by have := hm.tbh; dsimp only at this; omega
 have nnm : (mn : Int) < 9223372036854775807 := by have := hm.mh; dsimp only at this; omega
 have nng : (gn : Int) < 9223372036854775807 := by have := hm.gh; dsimp only at this; omega
 have nnx : (xn : Int) < 9223372036854775807 := by have := hm.xh; dsimp only at this; omega
 have nne : (en : Int) < 9223372036854775807 := by have := hm.eh; dsimp only at this; omega
 have nnd : (dn : Int) < 9223372036854775807 := by have := hm.dh; dsimp only at this; omega
 clear hm hx hD
 have HK0 := hid (KS.refl s gd w)
 go_enter Tryz.func21,Tryz.ntmps21
 have yq := HX0.out.at (k := 0) (v := .slice tp tn tc) rfl
 go_wp2
 go_loopw [2] (fun vi wr => ∃ i : Nat,i ≤ tn ∧ vi = .int .i64 i ∧ Hid (WM s gd ⟨tp,tn,tc,tb,imp,imn,imc,imb,fp,fn,fc,fb,tbp,tbn,tbc,tbb,mp,mn,mc,mb,gp,gn,gc,gb,xp,xn,xc,xb,ep,en,ec,eb,dp,dn,dc,db,fF,gF,eF,dF,kF,st,cnt⟩ wr) ∧ Hid (CA gd #[.slice tp tn tc,.slice imp imn imc,.slice fp fn fc,.slice tbp tbn tbc,.slice mp mn mc,.slice gp gn gc,.slice xp xn xc,.int .i64 st,.slice ep en ec,.slice dp dn dc,.bool cnt] 32 wr) ∧ Hid (KS s gd w wr)) (fun vi _ => tn - (intOf vi).toNat)
 case atStart => exact ⟨0,Nat.zero_le _,rfl,HM0,HX0,HK0⟩
 case round =>
  clear yq
  obtain ⟨i,hi,rfl,HM,HX,HK⟩ := hrel
  have yq := HX.out.at (k := 0) (v := .slice tp tn tc) rfl
  by_cases hlt : i < tn
  ·as_aux_lemma =>
    obtain ⟨hpe,hs,hB⟩ := HM.out.tg (by show tn ≠ 0; omega)
    dsimp only at hpe hs hB
    subst hpe
    have HZ := hid (HM.out.tz (by show tn ≠ 0; omega))
    have HSB := hid (And.intro hs hB)
    clear hs hB
    obtain ⟨p0,n0,c0,x0,h0⟩ := HM.out.t0 i hlt
    dsimp only at x0 h0
    have KQ0 := hid (turn_says s gd _ _ h0)
    clear h0
    go_upto_region 4 with (go_at_call 95; (with_reducible refine KQ0.out.mono ?_); rintro e w1 ⟨rfl,hk⟩; have HM1 := hid (HM.out.ks hk); have HX1 := hid (HX.out.ks hk (Nat.le_refl _)); have HK1 := hid (HK.out.trans hk); clear hk)
    clear x0 yq
    obtain ⟨p1,n1,c1,x1,h1⟩ := HM1.out.t1 i hlt
    dsimp only at x1 h1
    have KQ1 := hid (turn_says s gd _ _ h1)
    have yr1 := HX1.out.at (k := 0) (v := .slice (some ⟨tb,0,none⟩) tn tc) rfl
    clear h1
    go_upto_region 5 with (go_at_call 95; (with_reducible refine KQ1.out.mono ?_); rintro e w2 ⟨rfl,hk⟩; have HM2 := hid (HM1.out.ks hk); have HX2 := hid (HX1.out.ks hk (Nat.le_refl _)); have HK2 := hid (HK1.out.trans hk); clear hk)
    clear x1 yr1
    obtain ⟨p8,n8,c8,x8,_⟩ := HM2.out.t0 i hlt
    obtain ⟨p9,n9,c9,x9,_⟩ := HM2.out.t1 i hlt
    dsimp only at x8 x9
    have yr := HX2.out.at (k := 0) (v := .slice (some ⟨tb,0,none⟩) tn tc) rfl
    have f8 : w2.frozen? ⟨tb,i * 2,none⟩ = false := HM2.out.tz (by show tn ≠ 0; omega) _
    have f9 : w2.frozen? ⟨tb,i * 2 + 1,none⟩ = false := HM2.out.tz (by show tn ≠ 0; omega) _
    have HX8 := hid x8
    have HX9 := hid x9
    go_wp2
    have hk1 := KS.set (v := .slice none 0 0) HSB.out.1 HSB.out.2 HX8.out rfl
    have hc2 : (w2.setCell ⟨tb,i * 2,none⟩ (.slice none 0 0)).cell? ⟨tb,i * 2 + 1,none⟩ = some (.slice p9 n9 c9) := by
     rw [cell_set HX8.out,if_neg (by omega)]
     exact HX9.out
    have hk2 := hk1.trans (KS.set (v := .slice none 0 0) HSB.out.1 HSB.out.2 hc2 rfl)
    go_roundw
    case rel => exact ⟨i + 1,hlt,by go_num,HM2.out.ks hk2,HX2.out.ks hk2 (Nat.le_refl _),HK2.out.trans hk2⟩
    case measure => simp [intOf]; omega
  ·have hie : tn = i := by omega
   subst hie
   have HM0_ := HM
   have HX0_ := HX
   have HK0_ := HK
   clear HM HX HK hlt hi
   have yq := HX0_.out.at (k := 2) (v := .slice fp fn fc) rfl
   go_wp2
   go_loopw [3] (fun vi wr => ∃ i : Nat,i ≤ fn ∧ vi = .int .i64 i ∧ Hid (WM s gd ⟨tp,tn,tc,tb,imp,imn,imc,imb,fp,fn,fc,fb,tbp,tbn,tbc,tbb,mp,mn,mc,mb,gp,gn,gc,gb,xp,xn,xc,xb,ep,en,ec,eb,dp,dn,dc,db,fF,gF,eF,dF,kF,st,cnt⟩ wr) ∧ Hid (CA gd #[.slice tp tn tc,.slice imp imn imc,.slice fp fn fc,.slice tbp tbn tbc,.slice mp mn mc,.slice gp gn gc,.slice xp xn xc,.int .i64 st,.slice ep en ec,.slice dp dn dc,.bool cnt] 32 wr) ∧ Hid (KS s gd w wr)) (fun vi _ => fn - (intOf vi).toNat)
   case atStart => exact ⟨0,Nat.zero_le _,rfl,HM0_,HX0_,HK0_⟩
   case round =>
    clear yq
    obtain ⟨i,hi,rfl,HM,HX,HK⟩ := hrel
    have yq := HX.out.at (k := 2) (v := .slice fp fn fc) rfl
    by_cases hlt : i < fn
    ·as_aux_lemma =>
      obtain ⟨hpe,hs,hB⟩ := HM.out.fg (by show fn ≠ 0; omega)
      dsimp only at hpe hs hB
      subst hpe
      have HZ := hid (HM.out.fz (by show fn ≠ 0; omega))
      have HSB := hid (And.intro hs hB)
      clear hs hB
      obtain ⟨p0,n0,c0,x0,h0⟩ := HM.out.f1 i hlt
      dsimp only at x0 h0
      have KQ0 := hid (turn_says s gd _ _ h0)
      clear h0
      go_upto_region 10 with (go_at_call 95; (with_reducible refine KQ0.out.mono ?_); rintro e w1 ⟨rfl,hk⟩; have HM1 := hid (HM.out.ks hk); have HX1 := hid (HX.out.ks hk (Nat.le_refl _)); have HK1 := hid (HK.out.trans hk); clear hk)
      clear x0 yq
      obtain ⟨p1,n1,c1,x1,h1⟩ := HM1.out.f2 i hlt
      dsimp only at x1 h1
      have KQ1 := hid (spoilCode_says s gd (((fF i).cnt) + 1) (fF i) (Nat.lt_succ_self _) (HM1.out.fk i hlt) _ _ h1)
      have yr1 := HX1.out.at (k := 2) (v := .slice (some ⟨fb,0,none⟩) fn fc) rfl
      clear h1
      go_wp2_with (go_at_call 96; (with_reducible refine KQ1.out.mono ?_); rintro e w2 ⟨rfl,hk⟩; have HM2 := hid (HM1.out.ks hk); have HX2 := hid (HX1.out.ks hk (Nat.le_refl _)); have HK2 := hid (HK1.out.trans hk); clear hk)
      go_roundw
      case rel => exact ⟨i + 1,hlt,by go_num,HM2,HX2,HK2⟩
      case measure => simp [intOf]; omega
    ·have hie : fn = i := by omega
     subst hie
     have HM1_ := HM
     have HX1_ := HX
     have HK1_ := HK
     clear HM HX HK hlt hi
     have yq := HX1_.out.at (k := 5) (v := .slice gp gn gc) rfl
     go_wp2
     go_loopw [4] (fun vi wr => ∃ i : Nat,i ≤ gn ∧ vi = .int .i64 i ∧ Hid (WM s gd ⟨tp,tn,tc,tb,imp,imn,imc,imb,fp,fn,fc,fb,tbp,tbn,tbc,tbb,mp,mn,mc,mb,gp,gn,gc,gb,xp,xn,xc,xb,ep,en,ec,eb,dp,dn,dc,db,fF,gF,eF,dF,kF,st,cnt⟩ wr) ∧ Hid (CA gd #[.slice tp tn tc,.slice imp imn imc,.slice fp fn fc,.slice tbp tbn tbc,.slice mp mn mc,.slice gp gn gc,.slice xp xn xc,.int .i64 st,.slice ep en ec,.slice dp dn dc,.bool cnt] 32 wr) ∧ Hid (KS s gd w wr)) (fun vi _ => gn - (intOf vi).toNat)
     case atStart => exact ⟨0,Nat.zero_le _,rfl,HM1_,HX1_,HK1_⟩
     case round =>
      clear yq
      obtain ⟨i,hi,rfl,HM,HX,HK⟩ := hrel
      have yq := HX.out.at (k := 5) (v := .slice gp gn gc) rfl
      by_cases hlt : i < gn
      ·as_aux_lemma =>
        obtain ⟨hpe,hs,hB⟩ := HM.out.gg (by show gn ≠ 0; omega)
        dsimp only at hpe hs hB
        subst hpe
        have HZ := hid (HM.out.gz (by show gn ≠ 0; omega))
        have HSB := hid (And.intro hs hB)
        clear hs hB
        obtain ⟨p0,n0,c0,x0,h0⟩ := HM.out.g2 i hlt
        dsimp only at x0 h0
        have KQ0 := hid (spoilCode_says s gd (((gF i).cnt) + 1) (gF i) (Nat.lt_succ_self _) (HM.out.gk i hlt) _ _ h0)
        clear h0
        go_wp2_with (go_at_call 96; (with_reducible refine KQ0.out.mono ?_); rintro e w1 ⟨rfl,hk⟩; have HM1 := hid (HM.out.ks hk); have HX1 := hid (HX.out.ks hk (Nat.le_refl _)); have HK1 := hid (HK.out.trans hk); clear hk)
        go_roundw
        case rel => exact ⟨i + 1,hlt,by go_num,HM1,HX1,HK1⟩
        case measure => simp [intOf]; omega
      ·have hie : gn = i := by omega
       subst hie
       have HM2_ := HM
       have HX2_ := HX
       have HK2_ := HK
       clear HM HX HK hlt hi
       have yq := HX2_.out.at (k := 8) (v := .slice ep en ec) rfl
       go_wp2
       go_loopw [5] (fun vi wr => ∃ i : Nat,i ≤ en ∧ vi = .int .i64 i ∧ Hid (WM s gd ⟨tp,tn,tc,tb,imp,imn,imc,imb,fp,fn,fc,fb,tbp,tbn,tbc,tbb,mp,mn,mc,mb,gp,gn,gc,gb,xp,xn,xc,xb,ep,en,ec,eb,dp,dn,dc,db,fF,gF,eF,dF,kF,st,cnt⟩ wr) ∧ Hid (CA gd #[.slice tp tn tc,.slice imp imn imc,.slice fp fn fc,.slice tbp tbn tbc,.slice mp mn mc,.slice gp gn gc,.slice xp xn xc,.int .i64 st,.slice ep en ec,.slice dp dn dc,.bool cnt] 32 wr) ∧ Hid (KS s gd w wr)) (fun vi _ => en - (intOf vi).toNat)
       case atStart => exact ⟨0,Nat.zero_le _,rfl,HM2_,HX2_,HK2_⟩
       case round =>
        clear yq
        obtain ⟨i,hi,rfl,HM,HX,HK⟩ := hrel
        have yq := HX.out.at (k := 8) (v := .slice ep en ec) rfl
        by_cases hlt : i < en
        ·as_aux_lemma =>
          obtain ⟨hpe,hs,hB⟩ := HM.out.eg (by show en ≠ 0; omega)
          dsimp only at hpe hs hB
          subst hpe
          have HZ := hid (HM.out.ez (by show en ≠ 0; omega))
          have HSB := hid (And.intro hs hB)
          clear hs hB
          obtain ⟨p0,n0,c0,x0,h0⟩ := HM.out.e3 i hlt
          dsimp only at x0 h0
          have KQ0 := hid (spoilCode_says s gd (((eF i).cnt) + 1) (eF i) (Nat.lt_succ_self _) (HM.out.ek i hlt) _ _ h0)
          clear h0
          go_upto_region 19 with (go_at_call 96; (with_reducible refine KQ0.out.mono ?_); rintro e w1 ⟨rfl,hk⟩; have HM1 := hid (HM.out.ks hk); have HX1 := hid (HX.out.ks hk (Nat.le_refl _)); have HK1 := hid (HK.out.trans hk); clear hk)
          clear x0 yq
          obtain ⟨p9,n9,c9,x9,h9⟩ := HM1.out.e4 i hlt
          dsimp only at x9 h9
          obtain ⟨pz,nz,cz,hz,hnz,_⟩ := h9
          obtain ⟨rfl,rfl,rfl⟩ := Value.slice.inj hz
          have nn9 : (n9 : Int) < 9223372036854775807 := by omega
          clear hz hnz
          have yr := HX1.out.at (k := 8) (v := .slice (some ⟨eb,0,none⟩) en ec) rfl
          have HX9 := hid x9
          go_wp2
          go_loopw [6] (fun vk wk => ∃ k : Nat,k ≤ n9 ∧ vk = .int .i64 k ∧ Hid (w1.cell? ⟨eb,i * 5 + 4,none⟩ = some (.slice p9 n9 c9)) ∧ Hid (KS s gd w1 wk)) (fun vk _ => n9 - (intOf vk).toNat)
          case atStart => exact ⟨0,Nat.zero_le _,rfl,HX9,KS.refl _ _ _⟩
          case round =>
           clear yr x9
           obtain ⟨k,hk,rfl,_,HKK⟩ := hrel
           have HMk := hid (HM1.out.ks HKK.out)
           have HXk := hid (HX1.out.ks HKK.out (Nat.le_refl _))
           have HKk := hid (HK1.out.trans HKK.out)
           have yr := HXk.out.at (k := 8) (v := .slice (some ⟨eb,0,none⟩) en ec) rfl
           rcases HKK.out.sl _ _ _ _ _ HX9.out with xs | xs
           ·by_cases hkt : k < n9
            ·obtain ⟨p7,n7,c7,x7,h7⟩ := HMk.out.e4 i hlt
             dsimp only at x7 h7
             rw [xs] at x7
             obtain ⟨rfl,rfl,rfl⟩ := Value.slice.inj (Option.some.inj x7)
             obtain ⟨pz,nz,cz,hz,_,h8⟩ := h7
             obtain ⟨rfl,rfl,rfl⟩ := Value.slice.inj hz
             obtain ⟨g,o,rfl,_,hc⟩ := h8 (by omega)
             obtain ⟨hcn,p6,n6,c6,x6,h6⟩ := hc k hkt
             have KQ := hid (spoilCode_says s gd ((kF i k).cnt + 1) (kF i k) (Nat.lt_succ_self _) hcn _ _ h6)
             clear x7 hz h8 hc h6 hcn
             go_wp2_with (go_at_call 96; (with_reducible refine KQ.out.mono ?_); rintro e w3 ⟨rfl,hk3⟩; have HK3 := hid (HKK.out.trans hk3); clear hk3)
             go_roundw
             case rel => exact ⟨k + 1,hkt,by go_num,HX9,HK3⟩
             case measure => simp [intOf]; omega
            ·obtain rfl : k = n9 := by omega
             go_wp2
             go_roundw
             case rel => exact ⟨i + 1,hlt,by go_num,HMk,HXk,HKk⟩
             case measure => simp [intOf]; omega
           ·have d0 : decide ((k : Int) < 0) = false := by simp
            go_wp2
            go_roundw
            case rel => exact ⟨i + 1,hlt,by go_num,HMk,HXk,HKk⟩
            case measure => simp [intOf]; omega
        ·have hie : en = i := by omega
         subst hie
         have HM3_ := HM
         have HX3_ := HX
         have HK3_ := HK
         clear HM HX HK hlt hi
         have yq := HX3_.out.at (k := 9) (v := .slice dp dn dc) rfl
         go_wp2
         go_loopw [7] (fun vi wr => ∃ i : Nat,i ≤ dn ∧ vi = .int .i64 i ∧ Hid (WM s gd ⟨tp,tn,tc,tb,imp,imn,imc,imb,fp,fn,fc,fb,tbp,tbn,tbc,tbb,mp,mn,mc,mb,gp,gn,gc,gb,xp,xn,xc,xb,ep,en,ec,eb,dp,dn,dc,db,fF,gF,eF,dF,kF,st,cnt⟩ wr) ∧ Hid (CA gd #[.slice tp tn tc,.slice imp imn imc,.slice fp fn fc,.slice tbp tbn tbc,.slice mp mn mc,.slice gp gn gc,.slice xp xn xc,.int .i64 st,.slice ep en ec,.slice dp dn dc,.bool cnt] 32 wr) ∧ Hid (KS s gd w wr)) (fun vi _ => dn - (intOf vi).toNat)
         case atStart => exact ⟨0,Nat.zero_le _,rfl,HM3_,HX3_,HK3_⟩
         case round =>
          clear yq
          obtain ⟨i,hi,rfl,HM,HX,HK⟩ := hrel
          have yq := HX.out.at (k := 9) (v := .slice dp dn dc) rfl
          by_cases hlt : i < dn
          ·as_aux_lemma =>
            obtain ⟨hpe,hs,hB⟩ := HM.out.dg (by show dn ≠ 0; omega)
            dsimp only at hpe hs hB
            subst hpe
            have HZ := hid (HM.out.dz (by show dn ≠ 0; omega))
            have HSB := hid (And.intro hs hB)
            clear hs hB
            obtain ⟨p0,n0,c0,x0,h0⟩ := HM.out.d2 i hlt
            dsimp only at x0 h0
            have KQ0 := hid (spoilCode_says s gd (((dF i).cnt) + 1) (dF i) (Nat.lt_succ_self _) (HM.out.dk i hlt) _ _ h0)
            clear h0
            go_upto_region 27 with (go_at_call 96; (with_reducible refine KQ0.out.mono ?_); rintro e w1 ⟨rfl,hk⟩; have HM1 := hid (HM.out.ks hk); have HX1 := hid (HX.out.ks hk (Nat.le_refl _)); have HK1 := hid (HK.out.trans hk); clear hk)
            clear x0 yq
            obtain ⟨p9,n9,c9,x9,h9⟩ := HM1.out.d3 i hlt
            dsimp only at x9 h9
            obtain ⟨pz,nz,cz,hz,hnz,_⟩ := h9
            obtain ⟨rfl,rfl,rfl⟩ := Value.slice.inj hz
            have nn9 : (n9 : Int) < 9223372036854775807 := by omega
            clear hz hnz
            have yr := HX1.out.at (k := 9) (v := .slice (some ⟨db,0,none⟩) dn dc) rfl
            have HX9 := hid x9
            go_wp2
            go_loopw [8] (fun vk wk => ∃ k : Nat,k ≤ n9 ∧ vk = .int .i64 k ∧ Hid (w1.cell? ⟨db,i * 4 + 3,none⟩ = some (.slice p9 n9 c9)) ∧ Hid (KS s gd w1 wk)) (fun vk _ => n9 - (intOf vk).toNat)
            case atStart => exact ⟨0,Nat.zero_le _,rfl,HX9,KS.refl _ _ _⟩
            case round =>
             clear yr x9
             obtain ⟨k,hk,rfl,_,HKK⟩ := hrel
             have HMk := hid (HM1.out.ks HKK.out)
             have HXk := hid (HX1.out.ks HKK.out (Nat.le_refl _))
             have HKk := hid (HK1.out.trans HKK.out)
             have yr := HXk.out.at (k := 9) (v := .slice (some ⟨db,0,none⟩) dn dc) rfl
             rcases HKK.out.sl _ _ _ _ _ HX9.out with xs | xs
             ·by_cases hkt : k < n9
              ·obtain ⟨p7,n7,c7,x7,h7⟩ := HMk.out.d3 i hlt
               dsimp only at x7 h7
               rw [xs] at x7
               obtain ⟨rfl,rfl,rfl⟩ := Value.slice.inj (Option.some.inj x7)
               obtain ⟨pz,nz,cz,hz,_,h8⟩ := h7
               obtain ⟨rfl,rfl,rfl⟩ := Value.slice.inj hz
               obtain ⟨g,o,rfl,hs1,hs2,hfz,hc⟩ := h8 (by omega)
               obtain ⟨x,x6⟩ := hc k hkt
               have f6 := hfz (o + k)
               have HX6 := hid x6
               have HS6 := hid (And.intro hs1 hs2)
               clear x7 hz h8 hc hfz hs1 hs2
               go_upto_region 30 with fail
               go_region
               go_wp2
               have hk1 := fun v hv => (KS.set (v := v) HS6.out.1 HS6.out.2 HX6.out hv).drew
               go_roundw
               case rel => exact ⟨k + 1,hkt,by go_num,HX9,HKK.out.trans (hk1 _ ⟨_,rfl⟩)⟩
               case measure => simp [intOf]; omega
              ·obtain rfl : k = n9 := by omega
               go_wp2
               go_roundw
               case rel => exact ⟨i + 1,hlt,by go_num,HMk,HXk,HKk⟩
               case measure => simp [intOf]; omega
             ·have d0 : decide ((k : Int) < 0) = false := by simp
              go_wp2
              go_roundw
              case rel => exact ⟨i + 1,hlt,by go_num,HMk,HXk,HKk⟩
              case measure => simp [intOf]; omega
          ·have hie : dn = i := by omega
           subst hie
           have HM4_ := HM
           have HX4_ := HX
           have HK4_ := HK
           clear HM HX HK hlt hi
           have yq := HX4_.out.at (k := 6) (v := .slice xp xn xc) rfl
           go_wp2
           go_loopw [9] (fun vi wr => ∃ i : Nat,i ≤ xn ∧ vi = .int .i64 i ∧ Hid (WM s gd ⟨tp,tn,tc,tb,imp,imn,imc,imb,fp,fn,fc,fb,tbp,tbn,tbc,tbb,mp,mn,mc,mb,gp,gn,gc,gb,xp,xn,xc,xb,ep,en,ec,eb,dp,dn,dc,db,fF,gF,eF,dF,kF,st,cnt⟩ wr) ∧ Hid (CA gd #[.slice tp tn tc,.slice imp imn imc,.slice fp fn fc,.slice tbp tbn tbc,.slice mp mn mc,.slice gp gn gc,.slice xp xn xc,.int .i64 st,.slice ep en ec,.slice dp dn dc,.bool cnt] 32 wr) ∧ Hid (KS s gd w wr)) (fun vi _ => xn - (intOf vi).toNat)
           case atStart => exact ⟨0,Nat.zero_le _,rfl,HM4_,HX4_,HK4_⟩
           case round =>
            clear yq
            obtain ⟨i,hi,rfl,HM,HX,HK⟩ := hrel
            have yq := HX.out.at (k := 6) (v := .slice xp xn xc) rfl
            by_cases hlt : i < xn
            ·as_aux_lemma =>
              obtain ⟨hpe,hs,hB⟩ := HM.out.xg (by show xn ≠ 0; omega)
              dsimp only at hpe hs hB
              subst hpe
              have HZ := hid (HM.out.xz (by show xn ≠ 0; omega))
              have HSB := hid (And.intro hs hB)
              clear hs hB
              obtain ⟨x,x9⟩ := HM.out.x2 i hlt
              dsimp only at x9
              have f9 : wr.frozen? ⟨xb,i * 3 + 2,none⟩ = false := HZ.out _
              have HX9 := hid x9
              go_upto_region 34 with fail
              go_region
              go_wp2
              have hk1 := fun v hv => (KS.set (v := v) HSB.out.1 HSB.out.2 HX9.out hv).drew
              go_roundw
              case rel => exact ⟨i + 1,hlt,by go_num,HM.out.ks (hk1 _ ⟨_,rfl⟩),HX.out.ks (hk1 _ ⟨_,rfl⟩) (Nat.le_refl _),HK.out.trans (hk1 _ ⟨_,rfl⟩)⟩
              case measure => simp [intOf]; omega
            ·have hie : xn = i := by omega
             subst hie
             have HM5_ := HM
             have HX5_ := HX
             have HK5_ := HK
             clear HM HX HK hlt hi
             have yq := HX5_.out.at (k := 1) (v := .slice imp imn imc) rfl
             go_wp2
             go_loopw [10] (fun vi wr => ∃ i : Nat,i ≤ imn ∧ vi = .int .i64 i ∧ Hid (WM s gd ⟨tp,tn,tc,tb,imp,imn,imc,imb,fp,fn,fc,fb,tbp,tbn,tbc,tbb,mp,mn,mc,mb,gp,gn,gc,gb,xp,xn,xc,xb,ep,en,ec,eb,dp,dn,dc,db,fF,gF,eF,dF,kF,st,cnt⟩ wr) ∧ Hid (CA gd #[.slice tp tn tc,.slice imp imn imc,.slice fp fn fc,.slice tbp tbn tbc,.slice mp mn mc,.slice gp gn gc,.slice xp xn xc,.int .i64 st,.slice ep en ec,.slice dp dn dc,.bool cnt] 32 wr) ∧ Hid (KS s gd w wr)) (fun vi _ => imn - (intOf vi).toNat)
             case atStart => exact ⟨0,Nat.zero_le _,rfl,HM5_,HX5_,HK5_⟩
             case round =>
              clear yq
              obtain ⟨i,hi,rfl,HM,HX,HK⟩ := hrel
              have yq := HX.out.at (k := 1) (v := .slice imp imn imc) rfl
              by_cases hlt : i < imn
              ·as_aux_lemma =>
                obtain ⟨hpe,hs,hB⟩ := HM.out.img (by show imn ≠ 0; omega)
                dsimp only at hpe hs hB
                subst hpe
                have HZ := hid (HM.out.imz (by show imn ≠ 0; omega))
                have HSB := hid (And.intro hs hB)
                clear hs hB
                obtain ⟨x,x9⟩ := HM.out.im1 i hlt
                dsimp only at x9
                have f9 : wr.frozen? ⟨imb,i * 13 + 1,none⟩ = false := HZ.out _
                have HX9 := hid x9
                go_wp2
                have hk1 := fun v hv => KS.set (v := v) HSB.out.1 HSB.out.2 HX9.out hv
                go_roundw
                case rel => exact ⟨i + 1,hlt,by go_num,HM.out.ks (hk1 _ ⟨_,rfl⟩),HX.out.ks (hk1 _ ⟨_,rfl⟩) (Nat.le_refl _),HK.out.trans (hk1 _ ⟨_,rfl⟩)⟩
                case measure => simp [intOf]; omega
              ·have hie : imn = i := by omega
               subst hie
               have HM6_ := HM
               have HX6_ := HX
               have HK6_ := HK
               clear HM HX HK hlt hi
               have yq := HX6_.out.at (k := 3) (v := .slice tbp tbn tbc) rfl
               go_wp2
               go_loopw [11] (fun vi wr => ∃ i : Nat,i ≤ tbn ∧ vi = .int .i64 i ∧ Hid (WM s gd ⟨tp,tn,tc,tb,imp,imn,imc,imb,fp,fn,fc,fb,tbp,tbn,tbc,tbb,mp,mn,mc,mb,gp,gn,gc,gb,xp,xn,xc,xb,ep,en,ec,eb,dp,dn,dc,db,fF,gF,eF,dF,kF,st,cnt⟩ wr) ∧ Hid (CA gd #[.slice tp tn tc,.slice imp imn imc,.slice fp fn fc,.slice tbp tbn tbc,.slice mp mn mc,.slice gp gn gc,.slice xp xn xc,.int .i64 st,.slice ep en ec,.slice dp dn dc,.bool cnt] 32 wr) ∧ Hid (KS s gd w wr)) (fun vi _ => tbn - (intOf vi).toNat)
               case atStart => exact ⟨0,Nat.zero_le _,rfl,HM6_,HX6_,HK6_⟩
               case round =>
                clear yq
                obtain ⟨i,hi,rfl,HM,HX,HK⟩ := hrel
                have yq := HX.out.at (k := 3) (v := .slice tbp tbn tbc) rfl
                by_cases hlt : i < tbn
                ·as_aux_lemma =>
                  obtain ⟨hpe,hs,hB⟩ := HM.out.tbg (by show tbn ≠ 0; omega)
                  dsimp only at hpe hs hB
                  subst hpe
                  have HZ := hid (HM.out.tbz (by show tbn ≠ 0; omega))
                  have HSB := hid (And.intro hs hB)
                  clear hs hB
                  obtain ⟨x,x9⟩ := HM.out.tb0 i hlt
                  dsimp only at x9
                  have f9 : wr.frozen? ⟨tbb,i * 4,none⟩ = false := HZ.out _
                  have HX9 := hid x9
                  go_wp2
                  have hk1 := fun v hv => KS.set (v := v) HSB.out.1 HSB.out.2 HX9.out hv
                  go_roundw
                  case rel => exact ⟨i + 1,hlt,by go_num,HM.out.ks (hk1 _ ⟨_,rfl⟩),HX.out.ks (hk1 _ ⟨_,rfl⟩) (Nat.le_refl _),HK.out.trans (hk1 _ ⟨_,rfl⟩)⟩
                  case measure => simp [intOf]; omega
                ·have hie : tbn = i := by omega
                 subst hie
                 have HM7_ := HM
                 have HX7_ := HX
                 have HK7_ := HK
                 clear HM HX HK hlt hi
                 have yq := HX7_.out.at (k := 4) (v := .slice mp mn mc) rfl
                 go_wp2
                 go_loopw [12] (fun vi wr => ∃ i : Nat,i ≤ mn ∧ vi = .int .i64 i ∧ Hid (WM s gd ⟨tp,tn,tc,tb,imp,imn,imc,imb,fp,fn,fc,fb,tbp,tbn,tbc,tbb,mp,mn,mc,mb,gp,gn,gc,gb,xp,xn,xc,xb,ep,en,ec,eb,dp,dn,dc,db,fF,gF,eF,dF,kF,st,cnt⟩ wr) ∧ Hid (CA gd #[.slice tp tn tc,.slice imp imn imc,.slice fp fn fc,.slice tbp tbn tbc,.slice mp mn mc,.slice gp gn gc,.slice xp xn xc,.int .i64 st,.slice ep en ec,.slice dp dn dc,.bool cnt] 32 wr) ∧ Hid (KS s gd w wr)) (fun vi _ => mn - (intOf vi).toNat)
                 case atStart => exact ⟨0,Nat.zero_le _,rfl,HM7_,HX7_,HK7_⟩
                 case round =>
                  clear yq
                  obtain ⟨i,hi,rfl,HM,HX,HK⟩ := hrel
                  have yq := HX.out.at (k := 4) (v := .slice mp mn mc) rfl
                  by_cases hlt : i < mn
                  ·as_aux_lemma =>
                    obtain ⟨hpe,hs,hB⟩ := HM.out.mg (by show mn ≠ 0; omega)
                    dsimp only at hpe hs hB
                    subst hpe
                    have HZ := hid (HM.out.mz (by show mn ≠ 0; omega))
                    have HSB := hid (And.intro hs hB)
                    clear hs hB
                    obtain ⟨x,x9⟩ := HM.out.m0 i hlt
                    dsimp only at x9
                    have f9 : wr.frozen? ⟨mb,i * 3,none⟩ = false := HZ.out _
                    have HX9 := hid x9
                    go_wp2
                    have hk1 := fun v hv => KS.set (v := v) HSB.out.1 HSB.out.2 HX9.out hv
                    go_roundw
                    case rel => exact ⟨i + 1,hlt,by go_num,HM.out.ks (hk1 _ ⟨_,rfl⟩),HX.out.ks (hk1 _ ⟨_,rfl⟩) (Nat.le_refl _),HK.out.trans (hk1 _ ⟨_,rfl⟩)⟩
                    case measure => simp [intOf]; omega
                  ·have hie : mn = i := by omega
                   subst hie
                   have HM8_ := HM
                   have HX8_ := HX
                   have HK8_ := HK
                   clear HM HX HK hlt hi
                   go_wp2
                   (first | go_end0 | refine bodyPost_ret (results_none rfl _ _ _) rfl ?_)
                   exact ⟨rfl,HK8_.out⟩
end Go.Proofs.YtjgeedgphcjhoaaGreat
