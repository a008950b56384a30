/-
  RMay: merged, what the law does not reach left out (each text says what it holds where it lies in wip). No condition.
-/
import Derived.Test.YtjgeedgphcjhoaaGreatP02
import Derived.Deep.DeepCutAuto
set_option linter.unusedSimpArgs false
set_option linter.unusedVariables false
set_option maxRecDepth 100000
namespace Go.Proofs.YtjgeedgphcjhoaaGreat
open Go.RowKit
theorem range_all_snoc (P : Nat → Bool) (i : Nat) : (List.range (i + 1)).all P = ((List.range i).all P && P i) := by
 rw [List.range_succ,List.all_append]
 simp
set_option maxHeartbeats 64000000 in
theorem RMay_says (tp imp fp tbp mp gp xp ep dp : Option Addr) (tn tc imn imc fn fc tbn tbc mn mc gn gc xn xc en ec dn dc : Nat) (st : Int) (cnt sb : Bool) (tblk toff : Nat) (tp0 : Nat → Option Addr) (tn0 tc0 : Nat → Nat) (tp1 : Nat → Option Addr) (tn1 tc1 : Nat → Nat) (tA : Nat → Bool) (tB : Nat → Bool) (imblk imoff : Nat) (imz0 : Nat → ByteArray) (imz1 : Nat → ByteArray) (imt2 : Nat → Int) (imt3 : Nat → Int) (imt4 : Nat → Int) (imt5 : Nat → Int) (imt6 : Nat → Int) (imu7 : Nat → Bool) (imt8 : Nat → Int) (imt9 : Nat → Int) (imu10 : Nat → Bool) (imt11 : Nat → Int) (imu12 : Nat → Bool) (imA : Nat → Bool) (fblk foff : Nat) (ft0 : Nat → Int) (fp1 : Nat → Option Addr) (fn1 fc1 : Nat → Nat) (fp2 : Nat → Option Addr) (fn2 fc2 : Nat → Nat) (fA : Nat → Bool) (fB : Nat → Bool) (fC : Nat → Bool) (fD : Nat → Bool) (tbblk tboff : Nat) (tbt0 : Nat → Int) (tbt1 : Nat → Int) (tbt2 : Nat → Int) (tbu3 : Nat → Bool) (tbA : Nat → Bool) (mblk moff : Nat) (mt0 : Nat → Int) (mt1 : Nat → Int) (mu2 : Nat → Bool) (mA : Nat → Bool) (gblk goff : Nat) (gt0 : Nat → Int) (gu1 : Nat → Bool) (gp2 : Nat → Option Addr) (gn2 gc2 : Nat → Nat) (gA : Nat → Bool) (gB : Nat → Bool) (xblk xoff : Nat) (xz0 : Nat → ByteArray) (xt1 : Nat → Int) (xt2 : Nat → Int) (xA : Nat → Bool) (xB : Nat → Bool) (w : World)
  (htl : tn < 9223372036854775807) (htg : tn ≠ 0 → tp = some ⟨tblk,toff,none⟩ ∧ tblk < w.heap.size)
  (htx : ∀ i,i < tn → w.cell? ⟨tblk,toff + i * 2,none⟩ = some (.slice (tp0 i) (tn0 i) (tc0 i)) ∧ w.cell? ⟨tblk,toff + i * 2 + 1,none⟩ = some (.slice (tp1 i) (tn1 i) (tc1 i)))
  (htA : ∀ i,i < tn → ∀ W,Below w.heap.size w W → Calls Tryz.prog 50 #[.slice (tp0 i) (tn0 i) (tc0 i)] W fun e w' => e = .returned (.bool (tA i)) ∧ Below W.heap.size W w')
  (htB : ∀ i,i < tn → ∀ W,Below w.heap.size w W → Calls Tryz.prog 50 #[.slice (tp1 i) (tn1 i) (tc1 i)] W fun e w' => e = .returned (.bool (tB i)) ∧ Below W.heap.size W w')
  (himl : imn < 9223372036854775807) (himg : imn ≠ 0 → imp = some ⟨imblk,imoff,none⟩ ∧ imblk < w.heap.size)
  (himx : ∀ i,i < imn → w.cell? ⟨imblk,imoff + i * 13,none⟩ = some (.string (imz0 i)) ∧ w.cell? ⟨imblk,imoff + i * 13 + 1,none⟩ = some (.string (imz1 i)) ∧ w.cell? ⟨imblk,imoff + i * 13 + 2,none⟩ = some (.int .i64 (imt2 i)) ∧ w.cell? ⟨imblk,imoff + i * 13 + 3,none⟩ = some (.int .i64 (imt3 i)) ∧ w.cell? ⟨imblk,imoff + i * 13 + 4,none⟩ = some (.int .i64 (imt4 i)) ∧ w.cell? ⟨imblk,imoff + i * 13 + 5,none⟩ = some (.int .i64 (imt5 i)) ∧ w.cell? ⟨imblk,imoff + i * 13 + 6,none⟩ = some (.int .i64 (imt6 i)) ∧ w.cell? ⟨imblk,imoff + i * 13 + 7,none⟩ = some (.bool (imu7 i)) ∧ w.cell? ⟨imblk,imoff + i * 13 + 8,none⟩ = some (.int .i64 (imt8 i)) ∧ w.cell? ⟨imblk,imoff + i * 13 + 9,none⟩ = some (.int .i64 (imt9 i)) ∧ w.cell? ⟨imblk,imoff + i * 13 + 10,none⟩ = some (.bool (imu10 i)) ∧ w.cell? ⟨imblk,imoff + i * 13 + 11,none⟩ = some (.int .i64 (imt11 i)) ∧ w.cell? ⟨imblk,imoff + i * 13 + 12,none⟩ = some (.bool (imu12 i)))
  (himA : ∀ i,i < imn → ∀ W,Below w.heap.size w W → Calls Tryz.prog 51 #[.agg #[.string (imz0 i),.string (imz1 i),.int .i64 (imt2 i),.int .i64 (imt3 i),.int .i64 (imt4 i),.int .i64 (imt5 i),.int .i64 (imt6 i),.bool (imu7 i),.int .i64 (imt8 i),.int .i64 (imt9 i),.bool (imu10 i),.int .i64 (imt11 i),.bool (imu12 i)]] W fun e w' => e = .returned (.bool (imA i)) ∧ Below W.heap.size W w')
  (hfl : fn < 9223372036854775807) (hfg : fn ≠ 0 → fp = some ⟨fblk,foff,none⟩ ∧ fblk < w.heap.size)
  (hfx : ∀ i,i < fn → w.cell? ⟨fblk,foff + i * 3,none⟩ = some (.int .i64 (ft0 i)) ∧ w.cell? ⟨fblk,foff + i * 3 + 1,none⟩ = some (.slice (fp1 i) (fn1 i) (fc1 i)) ∧ w.cell? ⟨fblk,foff + i * 3 + 2,none⟩ = some (.slice (fp2 i) (fn2 i) (fc2 i)))
  (hfA : ∀ i,i < fn → ∀ W,Below w.heap.size w W → Calls Tryz.prog 52 #[.int .i64 (ft0 i)] W fun e w' => e = .returned (.bool (fA i)) ∧ Below W.heap.size W w')
  (hfB : ∀ i,i < fn → ∀ W,Below w.heap.size w W → Calls Tryz.prog 50 #[.slice (fp1 i) (fn1 i) (fc1 i)] W fun e w' => e = .returned (.bool (fB i)) ∧ Below W.heap.size W w')
  (hfC : ∀ i,i < fn → ∀ W,Below w.heap.size w W → Calls Tryz.prog 26 #[.slice (fp2 i) (fn2 i) (fc2 i)] W fun e w' => e = .returned (.bool (fC i)) ∧ Below W.heap.size W w')
  (hfD : ∀ i,i < fn → ∀ W,Below w.heap.size w W → Calls Tryz.prog 53 #[.slice (fp2 i) (fn2 i) (fc2 i)] W fun e w' => e = .returned (.bool (fD i)) ∧ Below W.heap.size W w')
  (htbl : tbn < 9223372036854775807) (htbg : tbn ≠ 0 → tbp = some ⟨tbblk,tboff,none⟩ ∧ tbblk < w.heap.size)
  (htbx : ∀ i,i < tbn → w.cell? ⟨tbblk,tboff + i * 4,none⟩ = some (.int .i64 (tbt0 i)) ∧ w.cell? ⟨tbblk,tboff + i * 4 + 1,none⟩ = some (.int .i64 (tbt1 i)) ∧ w.cell? ⟨tbblk,tboff + i * 4 + 2,none⟩ = some (.int .i64 (tbt2 i)) ∧ w.cell? ⟨tbblk,tboff + i * 4 + 3,none⟩ = some (.bool (tbu3 i)))
  (htbA : ∀ i,i < tbn → ∀ W,Below w.heap.size w W → Calls Tryz.prog 54 #[.agg #[.int .i64 (tbt0 i),.int .i64 (tbt1 i),.int .i64 (tbt2 i),.bool (tbu3 i)]] W fun e w' => e = .returned (.bool (tbA i)) ∧ Below W.heap.size W w')
  (hml : mn < 9223372036854775807) (hmg : mn ≠ 0 → mp = some ⟨mblk,moff,none⟩ ∧ mblk < w.heap.size)
  (hmx : ∀ i,i < mn → w.cell? ⟨mblk,moff + i * 3,none⟩ = some (.int .i64 (mt0 i)) ∧ w.cell? ⟨mblk,moff + i * 3 + 1,none⟩ = some (.int .i64 (mt1 i)) ∧ w.cell? ⟨mblk,moff + i * 3 + 2,none⟩ = some (.bool (mu2 i)))
  (hmA : ∀ i,i < mn → ∀ W,Below w.heap.size w W → Calls Tryz.prog 55 #[.agg #[.int .i64 (mt0 i),.int .i64 (mt1 i),.bool (mu2 i)]] W fun e w' => e = .returned (.bool (mA i)) ∧ Below W.heap.size W w')
  (hgl : gn < 9223372036854775807) (hgg : gn ≠ 0 → gp = some ⟨gblk,goff,none⟩ ∧ gblk < w.heap.size)
  (hgx : ∀ i,i < gn → w.cell? ⟨gblk,goff + i * 3,none⟩ = some (.int .i64 (gt0 i)) ∧ w.cell? ⟨gblk,goff + i * 3 + 1,none⟩ = some (.bool (gu1 i)) ∧ w.cell? ⟨gblk,goff + i * 3 + 2,none⟩ = some (.slice (gp2 i) (gn2 i) (gc2 i)))
  (hgA : ∀ i,i < gn → ∀ W,Below w.heap.size w W → Calls Tryz.prog 56 #[.int .i64 (gt0 i)] W fun e w' => e = .returned (.bool (gA i)) ∧ Below W.heap.size W w')
  (hgB : ∀ i,i < gn → ∀ W,Below w.heap.size w W → Calls Tryz.prog 26 #[.slice (gp2 i) (gn2 i) (gc2 i)] W fun e w' => e = .returned (.bool (gB i)) ∧ Below W.heap.size W w')
  (hxl : xn < 9223372036854775807) (hxg : xn ≠ 0 → xp = some ⟨xblk,xoff,none⟩ ∧ xblk < w.heap.size)
  (hxx : ∀ i,i < xn → w.cell? ⟨xblk,xoff + i * 3,none⟩ = some (.string (xz0 i)) ∧ w.cell? ⟨xblk,xoff + i * 3 + 1,none⟩ = some (.int .i64 (xt1 i)) ∧ w.cell? ⟨xblk,xoff + i * 3 + 2,none⟩ = some (.int .i64 (xt2 i)))
  (hxA : ∀ i,i < xn → ∀ W,Below w.heap.size w W → Calls Tryz.prog 57 #[.string (xz0 i),.string ⟨#[]⟩] W fun e w' => e = .returned (.bool (xA i)) ∧ Below W.heap.size W w')
  (hxB : ∀ i,i < xn → ∀ W,Below w.heap.size w W → Calls Tryz.prog 52 #[.int .i64 (xt2 i)] W fun e w' => e = .returned (.bool (xB i)) ∧ Below W.heap.size W w')
  (hsg : ∀ W,Below w.heap.size w W → Calls Tryz.prog 58 #[.agg #[.slice tp tn tc,.slice imp imn imc,.slice fp fn fc,.slice tbp tbn tbc,.slice mp mn mc,.slice gp gn gc,.slice xp xn xc,.int .i64 st,.slice ep en ec,.slice dp dn dc,.bool cnt]] W fun e w' => e = .returned (.bool sb) ∧ Below W.heap.size W w') :
  Calls Tryz.prog 16 #[.agg #[.slice tp tn tc,.slice imp imn imc,.slice fp fn fc,.slice tbp tbn tbc,.slice mp mn mc,.slice gp gn gc,.slice xp xn xc,.int .i64 st,.slice ep en ec,.slice dp dn dc,.bool cnt]] w fun e w' => e = .returned (.bool (((((((((decide (0 ≤ st) && decide (st ≤ 4294967296)) && (List.range tn).all (fun i => tA i && tB i)) && (List.range imn).all (fun i => imA i)) && (List.range fn).all (fun i => fA i && fB i && fC i && decide ((fn1 i : Int) ≤ 50000) && (cnt || !fD i))) && (List.range tbn).all (fun i => tbA i)) && (List.range mn).all (fun i => mA i)) && (List.range gn).all (fun i => gA i && gB i)) && (List.range xn).all (fun i => xA i && xB i && decide (0 ≤ xt1 i) && decide (xt1 i ≤ 3))) && sb)) ∧ Below w.heap.size w w' := by
 have HtG := hid htg
 have HtX := hid htx
 have nt62 : (tn : Int) < 9223372036854775807 := by omega
 have HtA := hid htA
 have HtB := hid htB
 have HimG := hid himg
 have HimX := hid himx
 have nim62 : (imn : Int) < 9223372036854775807 := by omega
 have HimA := hid himA
 have HfG := hid hfg
 have HfX := hid hfx
 have nf62 : (fn : Int) < 9223372036854775807 := by omega
 have HfA := hid hfA
 have HfB := hid hfB
 have HfC := hid hfC
 have HfD := hid hfD
 have HtbG := hid htbg
 have HtbX := hid htbx
 have ntb62 : (tbn : Int) < 9223372036854775807 := by omega
 have HtbA := hid htbA
 have HmG := hid hmg
 have HmX := hid hmx
 have nm62 : (mn : Int) < 9223372036854775807 := by omega
 have HmA := hid hmA
 have HgG := hid hgg
 have HgX := hid hgx
 have ng62 : (gn : Int) < 9223372036854775807 := by omega
 have HgA := hid hgA
 have HgB := hid hgB
 have HxG := hid hxg
 have HxX := hid hxx
 have nx62 : (xn : Int) < 9223372036854775807 := by omega
 have HxA := hid hxA
 have HxB := hid hxB
 have HSG := fun W h => hid (hsg W h)
 obtain ⟨b0,hb0⟩ : ∃ b,b = (decide (0 ≤ st) && decide (st ≤ 4294967296)) := ⟨_,rfl⟩
 rw [← hb0]
 obtain ⟨Qt,hQt⟩ : ∃ Q : Nat → Bool,Q = (fun i => tA i && tB i) := ⟨_,rfl⟩
 rw [← hQt]
 have HQt := hid hQt
 obtain ⟨Qim,hQim⟩ : ∃ Q : Nat → Bool,Q = (fun i => imA i) := ⟨_,rfl⟩
 rw [← hQim]
 have HQim := hid hQim
 obtain ⟨Qf,hQf⟩ : ∃ Q : Nat → Bool,Q = (fun i => fA i && fB i && fC i && decide ((fn1 i : Int) ≤ 50000) && (cnt || !fD i)) := ⟨_,rfl⟩
 rw [← hQf]
 have HQf := hid hQf
 obtain ⟨Qtb,hQtb⟩ : ∃ Q : Nat → Bool,Q = (fun i => tbA i) := ⟨_,rfl⟩
 rw [← hQtb]
 have HQtb := hid hQtb
 obtain ⟨Qm,hQm⟩ : ∃ Q : Nat → Bool,Q = (fun i => mA i) := ⟨_,rfl⟩
 rw [← hQm]
 have HQm := hid hQm
 obtain ⟨Qg,hQg⟩ : ∃ Q : Nat → Bool,Q = (fun i => gA i && gB i) := ⟨_,rfl⟩
 rw [← hQg]
 have HQg := hid hQg
 obtain ⟨Qx,hQx⟩ : ∃ Q : Nat → Bool,Q = (fun i => xA i && xB i && decide (0 ≤ xt1 i) && decide (xt1 i ≤ 3)) := ⟨_,rfl⟩
 rw [← hQx]
 have HQx := hid hQx
 obtain ⟨R,hR⟩ : ∃ R,R = ((((((((b0 && (List.range tn).all Qt) && (List.range imn).all Qim) && (List.range fn).all Qf) && (List.range tbn).all Qtb) && (List.range mn).all Qm) && (List.range gn).all Qg) && (List.range xn).all Qx) && sb) := ⟨_,rfl⟩
 rw [← hR]
 have HR := hid hR
 have HX0 := hid (CA.new w #[.slice tp tn tc,.slice imp imn imc,.slice fp fn fc,.slice tbp tbn tbc,.slice mp mn mc,.slice gp gn gc,.slice xp xn xc,.int .i64 st,.slice ep en ec,.slice dp dn dc,.bool cnt] 32)
 have HB0 := hid ((Below.refl w.heap.size w).alloc (Nat.le_refl _) (.cells #[.slice tp tn tc,.slice imp imn imc,.slice fp fn fc,.slice tbp tbn tbc,.slice mp mn mc,.slice gp gn gc,.slice xp xn xc,.int .i64 st,.slice ep en ec,.slice dp dn dc,.bool cnt] 32))
 have y7 := HX0.out.at (k := 7) (v := .int .i64 st) rfl
 clear htg htx htl htA htB himg himx himl himA hfg hfx hfl hfA hfB hfC hfD htbg htbx htbl htbA hmg hmx hml hmA hgg hgx hgl hgA hgB hxg hxx hxl hxA hxB hsg hQt hQim hQf hQtb hQm hQg hQx hR
 go_enter Tryz.func16,Tryz.ntmps16
 go_upto_region 1 with fail
 go_cut [3] (fun s wx => s = .bool b0 ∧ wx = w.alloc (.cells #[.slice tp tn tc,.slice imp imn imc,.slice fp fn fc,.slice tbp tbn tbc,.slice mp mn mc,.slice gp gn gc,.slice xp xn xc,.int .i64 st,.slice ep en ec,.slice dp dn dc,.bool cnt] 32))
 case first =>
  by_cases c0 : 0 ≤ st
  ·by_cases c1 : st ≤ 4294967296
   ·have e0 : b0 = true := by rw [hb0,decide_eq_true c0,decide_eq_true c1]; rfl
    subst e0
    clear hb0
    go_wp2
    go_meet
    exact ⟨rfl,rfl⟩
   ·have e0 : b0 = false := by rw [hb0,decide_eq_false c1,Bool.and_false]
    subst e0
    clear hb0
    go_wp2
    go_meet
    exact ⟨rfl,rfl⟩
  ·have e0 : b0 = false := by rw [hb0,decide_eq_false c0,Bool.false_and]
   subst e0
   clear hb0
   go_wp2
   go_meet
   exact ⟨rfl,rfl⟩
 case rest =>
  obtain ⟨rfl,rfl⟩ := hcut
  clear hb0 y7
  generalize w.alloc (.cells #[.slice tp tn tc,.slice imp imn imc,.slice fp fn fc,.slice tbp tbn tbc,.slice mp mn mc,.slice gp gn gc,.slice xp xn xc,.int .i64 st,.slice ep en ec,.slice dp dn dc,.bool cnt] 32) = W0 at *
  have HK0 : Hid (b0 = b0) := rfl
  have y0 := HX0.out.at (k := 0) (v := .slice tp tn tc) rfl
  go_wp2
  go_loopw [3,4] (fun vo vi wr => ∃ (i : Nat) (ok : Bool),i ≤ tn ∧ vi = .int .i64 i ∧ vo = .bool ok ∧ Hid (ok = (b0 && (List.range i).all Qt)) ∧ Hid (Below w.heap.size w wr) ∧ Hid (CA w.heap.size #[.slice tp tn tc,.slice imp imn imc,.slice fp fn fc,.slice tbp tbn tbc,.slice mp mn mc,.slice gp gn gc,.slice xp xn xc,.int .i64 st,.slice ep en ec,.slice dp dn dc,.bool cnt] 32 wr)) (fun _ vi _ => tn - (intOf vi).toNat)
  case atStart => exact ⟨0,b0,Nat.zero_le _,rfl,rfl,by simp [Hid],HB0,HX0⟩
  case round =>
   clear y0
   obtain ⟨i,ok,hi,rfl,rfl,HK,HB,HX⟩ := hrel
   have y0 := HX.out.at (k := 0) (v := .slice tp tn tc) rfl
   by_cases hlt : i < tn
   ·as_aux_lemma =>
     obtain ⟨z0,z1⟩ := HtX.out i hlt
     obtain ⟨hpe,hg⟩ := HtG.out (by omega)
     subst hpe
     have x0 := (HB.out.cell (p := ⟨tblk,toff + i * 2,none⟩) hg).trans z0
     have x1 := (HB.out.cell (p := ⟨tblk,toff + i * 2 + 1,none⟩) hg).trans z1
     have Z0 := hid z0
     have Z1 := hid z1
     have HGL := hid hg
     clear z0 z1 hg
     have KKA := fun W h => hid (HtA.out i hlt W h)
     have KKB := fun W h => hid (HtB.out i hlt W h)
     have HSN := hid (show (List.range (i + 1)).all Qt = ((List.range i).all Qt && (tA i && tB i)) by rw [range_all_snoc]; rw [HQt.out])
     generalize tA i = bA at *
     generalize tB i = bB at *
     generalize tp0 i = q0 at *
     generalize tn0 i = m0 at *
     generalize tc0 i = d0 at *
     generalize tp1 i = q1 at *
     generalize tn1 i = m1 at *
     generalize tc1 i = d1 at *
     rcases (show (ok = false) ∨ (ok = true ∧ bA = false) ∨ (ok = true ∧ bA = true ∧ bB = false) ∨ (ok = true ∧ bA = true ∧ bB = true) by cases ok <;> cases bA <;> cases bB <;> simp) with rfl | ⟨rfl,rfl⟩ | ⟨rfl,rfl,rfl⟩ | ⟨rfl,rfl,rfl⟩
     all_goals
      go_wp2_with (first
       | (go_at_call 50; (with_reducible refine (KKA _ HB.out).out.mono ?_); rintro e w1 ⟨rfl,hb⟩; have HBA := hid (HB.out.trans (hb.mono HB.out.size)); have HXA := hid (HX.out.below hb HX.out.lt); have y0 := HXA.out.at (k := 0) (v := .slice (some ⟨tblk,toff,none⟩) tn tc) rfl; have x0 := (HBA.out.cell (p := ⟨tblk,toff + i * 2,none⟩) HGL.out).trans Z0.out; have x1 := (HBA.out.cell (p := ⟨tblk,toff + i * 2 + 1,none⟩) HGL.out).trans Z1.out; clear hb)
       | (go_at_call 50; (with_reducible refine (KKB _ HBA.out).out.mono ?_); rintro e w2 ⟨rfl,hb⟩; have HBB := hid (HBA.out.trans (hb.mono HBA.out.size)); have HXB := hid (HXA.out.below hb HXA.out.lt); have y0 := HXB.out.at (k := 0) (v := .slice (some ⟨tblk,toff,none⟩) tn tc) rfl; have x0 := (HBB.out.cell (p := ⟨tblk,toff + i * 2,none⟩) HGL.out).trans Z0.out; have x1 := (HBB.out.cell (p := ⟨tblk,toff + i * 2 + 1,none⟩) HGL.out).trans Z1.out; clear hb))
      go_roundw
      case rel => exact ⟨i + 1,_,hlt,by go_num,rfl,hid (by rw [HSN.out,← Bool.and_assoc,← HK.out]; rfl),HBB,HXB⟩
      case measure => simp [intOf]; omega
   ·have hie : tn = i := by omega
    subst hie
    have HB1 := HB
    have HX1 := HX
    obtain ⟨ok0,hok0⟩ : ∃ b,b = ok := ⟨_,rfl⟩
    have HK1 := hid (show ok0 = (b0 && (List.range tn).all Qt) by rw [hok0]; exact HK.out)
    subst hok0
    clear HB HX HK hlt hi
    have y1 := HX1.out.at (k := 1) (v := .slice imp imn imc) rfl
    go_wp2
    go_loopw [3,7] (fun vo vi wr => ∃ (i : Nat) (ok : Bool),i ≤ imn ∧ vi = .int .i64 i ∧ vo = .bool ok ∧ Hid (ok = (ok0 && (List.range i).all Qim)) ∧ Hid (Below w.heap.size w wr) ∧ Hid (CA w.heap.size #[.slice tp tn tc,.slice imp imn imc,.slice fp fn fc,.slice tbp tbn tbc,.slice mp mn mc,.slice gp gn gc,.slice xp xn xc,.int .i64 st,.slice ep en ec,.slice dp dn dc,.bool cnt] 32 wr)) (fun _ vi _ => imn - (intOf vi).toNat)
    case atStart => exact ⟨0,ok0,Nat.zero_le _,rfl,rfl,by simp [Hid],HB1,HX1⟩
    case round =>
     clear y1
     obtain ⟨i,ok,hi,rfl,rfl,HK,HB,HX⟩ := hrel
     have y1 := HX.out.at (k := 1) (v := .slice imp imn imc) rfl
     by_cases hlt : i < imn
     ·as_aux_lemma =>
       obtain ⟨z0,z1,z2,z3,z4,z5,z6,z7,z8,z9,z10,z11,z12⟩ := HimX.out i hlt
       obtain ⟨hpe,hg⟩ := HimG.out (by omega)
       subst hpe
       have x0 := (HB.out.cell (p := ⟨imblk,imoff + i * 13,none⟩) hg).trans z0
       have x1 := (HB.out.cell (p := ⟨imblk,imoff + i * 13 + 1,none⟩) hg).trans z1
       have x2 := (HB.out.cell (p := ⟨imblk,imoff + i * 13 + 2,none⟩) hg).trans z2
       have x3 := (HB.out.cell (p := ⟨imblk,imoff + i * 13 + 3,none⟩) hg).trans z3
       have x4 := (HB.out.cell (p := ⟨imblk,imoff + i * 13 + 4,none⟩) hg).trans z4
       have x5 := (HB.out.cell (p := ⟨imblk,imoff + i * 13 + 5,none⟩) hg).trans z5
       have x6 := (HB.out.cell (p := ⟨imblk,imoff + i * 13 + 6,none⟩) hg).trans z6
       have x7 := (HB.out.cell (p := ⟨imblk,imoff + i * 13 + 7,none⟩) hg).trans z7
       have x8 := (HB.out.cell (p := ⟨imblk,imoff + i * 13 + 8,none⟩) hg).trans z8
       have x9 := (HB.out.cell (p := ⟨imblk,imoff + i * 13 + 9,none⟩) hg).trans z9
       have x10 := (HB.out.cell (p := ⟨imblk,imoff + i * 13 + 10,none⟩) hg).trans z10
       have x11 := (HB.out.cell (p := ⟨imblk,imoff + i * 13 + 11,none⟩) hg).trans z11
       have x12 := (HB.out.cell (p := ⟨imblk,imoff + i * 13 + 12,none⟩) hg).trans z12
       have Z0 := hid z0
       have Z1 := hid z1
       have Z2 := hid z2
       have Z3 := hid z3
       have Z4 := hid z4
       have Z5 := hid z5
       have Z6 := hid z6
       have Z7 := hid z7
       have Z8 := hid z8
       have Z9 := hid z9
       have Z10 := hid z10
       have Z11 := hid z11
       have Z12 := hid z12
       have HGL := hid hg
       clear z0 z1 z2 z3 z4 z5 z6 z7 z8 z9 z10 z11 z12 hg
       have KKA := fun W h => hid (HimA.out i hlt W h)
       have HSN := hid (show (List.range (i + 1)).all Qim = ((List.range i).all Qim && (imA i)) by rw [range_all_snoc]; rw [HQim.out])
       generalize imA i = bA at *
       generalize imz0 i = y0 at *
       generalize imz1 i = y1 at *
       generalize imt2 i = s2 at *
       generalize imt3 i = s3 at *
       generalize imt4 i = s4 at *
       generalize imt5 i = s5 at *
       generalize imt6 i = s6 at *
       generalize imu7 i = e7 at *
       generalize imt8 i = s8 at *
       generalize imt9 i = s9 at *
       generalize imu10 i = e10 at *
       generalize imt11 i = s11 at *
       generalize imu12 i = e12 at *
       rcases (show (ok = false) ∨ (ok = true ∧ bA = false) ∨ (ok = true ∧ bA = true) by cases ok <;> cases bA <;> simp) with rfl | ⟨rfl,rfl⟩ | ⟨rfl,rfl⟩
       all_goals
        go_wp2_with (go_at_call 51; (with_reducible refine (KKA _ HB.out).out.mono ?_); rintro e w1 ⟨rfl,hb⟩; have HBA := hid (HB.out.trans (hb.mono HB.out.size)); have HXA := hid (HX.out.below hb HX.out.lt); have y1 := HXA.out.at (k := 1) (v := .slice (some ⟨imblk,imoff,none⟩) imn imc) rfl; have x0 := (HBA.out.cell (p := ⟨imblk,imoff + i * 13,none⟩) HGL.out).trans Z0.out; have x1 := (HBA.out.cell (p := ⟨imblk,imoff + i * 13 + 1,none⟩) HGL.out).trans Z1.out; have x2 := (HBA.out.cell (p := ⟨imblk,imoff + i * 13 + 2,none⟩) HGL.out).trans Z2.out; have x3 := (HBA.out.cell (p := ⟨imblk,imoff + i * 13 + 3,none⟩) HGL.out).trans Z3.out; have x4 := (HBA.out.cell (p := ⟨imblk,imoff + i * 13 + 4,none⟩) HGL.out).trans Z4.out; have x5 := (HBA.out.cell (p := ⟨imblk,imoff + i * 13 + 5,none⟩) HGL.out).trans Z5.out; have x6 := (HBA.out.cell (p := ⟨imblk,imoff + i * 13 + 6,none⟩) HGL.out).trans Z6.out; have x7 := (HBA.out.cell (p := ⟨imblk,imoff + i * 13 + 7,none⟩) HGL.out).trans Z7.out; have x8 := (HBA.out.cell (p := ⟨imblk,imoff + i * 13 + 8,none⟩) HGL.out).trans Z8.out; have x9 := (HBA.out.cell (p := ⟨imblk,imoff + i * 13 + 9,none⟩) HGL.out).trans Z9.out; have x10 := (HBA.out.cell (p := ⟨imblk,imoff + i * 13 + 10,none⟩) HGL.out).trans Z10.out; have x11 := (HBA.out.cell (p := ⟨imblk,imoff + i * 13 + 11,none⟩) HGL.out).trans Z11.out; have x12 := (HBA.out.cell (p := ⟨imblk,imoff + i * 13 + 12,none⟩) HGL.out).trans Z12.out; clear hb)
        go_roundw
        case rel => exact ⟨i + 1,_,hlt,by go_num,rfl,hid (by rw [HSN.out,← Bool.and_assoc,← HK.out]; rfl),HBA,HXA⟩
        case measure => simp [intOf]; omega
     ·have hie : imn = i := by omega
      subst hie
      have HB2 := HB
      have HX2 := HX
      obtain ⟨ok1,hok1⟩ : ∃ b,b = ok := ⟨_,rfl⟩
      have HK2 := hid (show ok1 = (ok0 && (List.range imn).all Qim) by rw [hok1]; exact HK.out)
      subst hok1
      clear HB HX HK hlt hi
      have y2 := HX2.out.at (k := 2) (v := .slice fp fn fc) rfl
      go_wp2
      go_loopw [3,9] (fun vo vi wr => ∃ (i : Nat) (ok : Bool),i ≤ fn ∧ vi = .int .i64 i ∧ vo = .bool ok ∧ Hid (ok = (ok1 && (List.range i).all Qf)) ∧ Hid (Below w.heap.size w wr) ∧ Hid (CA w.heap.size #[.slice tp tn tc,.slice imp imn imc,.slice fp fn fc,.slice tbp tbn tbc,.slice mp mn mc,.slice gp gn gc,.slice xp xn xc,.int .i64 st,.slice ep en ec,.slice dp dn dc,.bool cnt] 32 wr)) (fun _ vi _ => fn - (intOf vi).toNat)
      case atStart => exact ⟨0,ok1,Nat.zero_le _,rfl,rfl,by simp [Hid],HB2,HX2⟩
      case round =>
       clear y2
       obtain ⟨i,ok,hi,rfl,rfl,HK,HB,HX⟩ := hrel
       have y2 := HX.out.at (k := 2) (v := .slice fp fn fc) rfl
       have y10 := HX.out.at (k := 10) (v := .bool cnt) rfl
       by_cases hlt : i < fn
       ·as_aux_lemma =>
         obtain ⟨z0,z1,z2⟩ := HfX.out i hlt
         obtain ⟨hpe,hg⟩ := HfG.out (by omega)
         subst hpe
         have x0 := (HB.out.cell (p := ⟨fblk,foff + i * 3,none⟩) hg).trans z0
         have x1 := (HB.out.cell (p := ⟨fblk,foff + i * 3 + 1,none⟩) hg).trans z1
         have x2 := (HB.out.cell (p := ⟨fblk,foff + i * 3 + 2,none⟩) hg).trans z2
         have Z0 := hid z0
         have Z1 := hid z1
         have Z2 := hid z2
         have HGL := hid hg
         clear z0 z1 z2 hg
         have KKA := fun W h => hid (HfA.out i hlt W h)
         have KKB := fun W h => hid (HfB.out i hlt W h)
         have KKC := fun W h => hid (HfC.out i hlt W h)
         have KKD := fun W h => hid (HfD.out i hlt W h)
         have HSN := hid (show (List.range (i + 1)).all Qf = ((List.range i).all Qf && (fA i && fB i && fC i && decide ((fn1 i : Int) ≤ 50000) && (cnt || !fD i))) by rw [range_all_snoc]; rw [HQf.out])
         generalize fA i = bA at *
         generalize fB i = bB at *
         generalize fC i = bC at *
         generalize fD i = bD at *
         generalize ft0 i = s0 at *
         generalize fp1 i = q1 at *
         generalize fn1 i = m1 at *
         generalize fc1 i = d1 at *
         generalize fp2 i = q2 at *
         generalize fn2 i = m2 at *
         generalize fc2 i = d2 at *
         obtain ⟨bL,hbL⟩ : ∃ b,decide ((m1 : Int) ≤ 50000) = b := ⟨_,rfl⟩
         rw [hbL] at HSN
         have HE := hid (CA.new wr #[.int .i64 s0,.slice q1 m1 d1,.slice q2 m2 d2] 42)
         have HBE := hid (HB.out.alloc HB.out.size (.cells #[.int .i64 s0,.slice q1 m1 d1,.slice q2 m2 d2] 42))
         have HXE := hid (HX.out.alloc (.cells #[.int .i64 s0,.slice q1 m1 d1,.slice q2 m2 d2] 42))
         rcases (show (ok = false) ∨ (ok = true ∧ bA = false) ∨ (ok = true ∧ bA = true ∧ bB = false) ∨ (ok = true ∧ bA = true ∧ bB = true ∧ bC = false) ∨ (ok = true ∧ bA = true ∧ bB = true ∧ bC = true ∧ bL = false) ∨ (ok = true ∧ bA = true ∧ bB = true ∧ bC = true ∧ bL = true ∧ cnt = true) ∨ (ok = true ∧ bA = true ∧ bB = true ∧ bC = true ∧ bL = true ∧ cnt = false ∧ bD = true) ∨ (ok = true ∧ bA = true ∧ bB = true ∧ bC = true ∧ bL = true ∧ cnt = false ∧ bD = false) by cases ok <;> cases bA <;> cases bB <;> cases bC <;> cases bL <;> cases cnt <;> cases bD <;> simp) with rfl | ⟨rfl,rfl⟩ | ⟨rfl,rfl,rfl⟩ | ⟨rfl,rfl,rfl,rfl⟩ | ⟨rfl,rfl,rfl,rfl,rfl⟩ | ⟨rfl,rfl,rfl,rfl,rfl,rfl⟩ | ⟨rfl,rfl,rfl,rfl,rfl,rfl,rfl⟩ | ⟨rfl,rfl,rfl,rfl,rfl,rfl,rfl⟩
         all_goals
          go_wp2_with (first
           | (go_at_call 52; (with_reducible refine (KKA _ HBE.out).out.mono ?_); rintro e w1 ⟨rfl,hb⟩; have HBA := hid (HBE.out.trans (hb.mono HBE.out.size)); have HXA := hid (HXE.out.below hb HXE.out.lt); have y2 := HXA.out.at (k := 2) (v := .slice (some ⟨fblk,foff,none⟩) fn fc) rfl; (first | have y10 := HXA.out.at (k := 10) (v := .bool cnt) rfl | have y10 := HXA.out.at (k := 10) (v := .bool true) rfl | have y10 := HXA.out.at (k := 10) (v := .bool false) rfl); have HEA := hid (HE.out.below hb HE.out.lt); have v0 := HEA.out.at (k := 0) (v := .int .i64 s0) rfl; have v1 := HEA.out.at (k := 1) (v := .slice q1 m1 d1) rfl; have v2 := HEA.out.at (k := 2) (v := .slice q2 m2 d2) rfl; clear hb)
           | (go_at_call 50; (with_reducible refine (KKB _ HBA.out).out.mono ?_); rintro e w2 ⟨rfl,hb⟩; have HBB := hid (HBA.out.trans (hb.mono HBA.out.size)); have HXB := hid (HXA.out.below hb HXA.out.lt); have y2 := HXB.out.at (k := 2) (v := .slice (some ⟨fblk,foff,none⟩) fn fc) rfl; (first | have y10 := HXB.out.at (k := 10) (v := .bool cnt) rfl | have y10 := HXB.out.at (k := 10) (v := .bool true) rfl | have y10 := HXB.out.at (k := 10) (v := .bool false) rfl); have HEB := hid (HEA.out.below hb HEA.out.lt); have v0 := HEB.out.at (k := 0) (v := .int .i64 s0) rfl; have v1 := HEB.out.at (k := 1) (v := .slice q1 m1 d1) rfl; have v2 := HEB.out.at (k := 2) (v := .slice q2 m2 d2) rfl; clear hb)
           | (go_at_call 26; (with_reducible refine (KKC _ HBB.out).out.mono ?_); rintro e w3 ⟨rfl,hb⟩; have HBC := hid (HBB.out.trans (hb.mono HBB.out.size)); have HXC := hid (HXB.out.below hb HXB.out.lt); have y2 := HXC.out.at (k := 2) (v := .slice (some ⟨fblk,foff,none⟩) fn fc) rfl; (first | have y10 := HXC.out.at (k := 10) (v := .bool cnt) rfl | have y10 := HXC.out.at (k := 10) (v := .bool true) rfl | have y10 := HXC.out.at (k := 10) (v := .bool false) rfl); have HEC := hid (HEB.out.below hb HEB.out.lt); have v0 := HEC.out.at (k := 0) (v := .int .i64 s0) rfl; have v1 := HEC.out.at (k := 1) (v := .slice q1 m1 d1) rfl; have v2 := HEC.out.at (k := 2) (v := .slice q2 m2 d2) rfl; clear hb)
           | (go_at_call 53; (with_reducible refine (KKD _ HBC.out).out.mono ?_); rintro e w4 ⟨rfl,hb⟩; have HBD := hid (HBC.out.trans (hb.mono HBC.out.size)); have HXD := hid (HXC.out.below hb HXC.out.lt); have y2 := HXD.out.at (k := 2) (v := .slice (some ⟨fblk,foff,none⟩) fn fc) rfl; (first | have y10 := HXD.out.at (k := 10) (v := .bool cnt) rfl | have y10 := HXD.out.at (k := 10) (v := .bool true) rfl | have y10 := HXD.out.at (k := 10) (v := .bool false) rfl); have HED := hid (HEC.out.below hb HEC.out.lt); have v0 := HED.out.at (k := 0) (v := .int .i64 s0) rfl; have v1 := HED.out.at (k := 1) (v := .slice q1 m1 d1) rfl; have v2 := HED.out.at (k := 2) (v := .slice q2 m2 d2) rfl; clear hb))
          go_roundw
          case rel => exact ⟨i + 1,_,hlt,by go_num,rfl,hid (by rw [HSN.out,← Bool.and_assoc,← HK.out]; rfl),HBD,HXD⟩
          case measure => simp [intOf]; omega
       ·have hie : fn = i := by omega
        subst hie
        have HB3 := HB
        have HX3 := HX
        obtain ⟨ok2,hok2⟩ : ∃ b,b = ok := ⟨_,rfl⟩
        have HK3 := hid (show ok2 = (ok1 && (List.range fn).all Qf) by rw [hok2]; exact HK.out)
        subst hok2
        clear HB HX HK hlt hi
        clear y10
        have y3 := HX3.out.at (k := 3) (v := .slice tbp tbn tbc) rfl
        go_wp2
        go_loopw [3,15] (fun vo vi wr => ∃ (i : Nat) (ok : Bool),i ≤ tbn ∧ vi = .int .i64 i ∧ vo = .bool ok ∧ Hid (ok = (ok2 && (List.range i).all Qtb)) ∧ Hid (Below w.heap.size w wr) ∧ Hid (CA w.heap.size #[.slice tp tn tc,.slice imp imn imc,.slice fp fn fc,.slice tbp tbn tbc,.slice mp mn mc,.slice gp gn gc,.slice xp xn xc,.int .i64 st,.slice ep en ec,.slice dp dn dc,.bool cnt] 32 wr)) (fun _ vi _ => tbn - (intOf vi).toNat)
        case atStart => exact ⟨0,ok2,Nat.zero_le _,rfl,rfl,by simp [Hid],HB3,HX3⟩
        case round =>
         clear y3
         obtain ⟨i,ok,hi,rfl,rfl,HK,HB,HX⟩ := hrel
         have y3 := HX.out.at (k := 3) (v := .slice tbp tbn tbc) rfl
         by_cases hlt : i < tbn
         ·as_aux_lemma =>
           obtain ⟨z0,z1,z2,z3⟩ := HtbX.out i hlt
           obtain ⟨hpe,hg⟩ := HtbG.out (by omega)
           subst hpe
           have x0 := (HB.out.cell (p := ⟨tbblk,tboff + i * 4,none⟩) hg).trans z0
           have x1 := (HB.out.cell (p := ⟨tbblk,tboff + i * 4 + 1,none⟩) hg).trans z1
           have x2 := (HB.out.cell (p := ⟨tbblk,tboff + i * 4 + 2,none⟩) hg).trans z2
           have x3 := (HB.out.cell (p := ⟨tbblk,tboff + i * 4 + 3,none⟩) hg).trans z3
           have Z0 := hid z0
           have Z1 := hid z1
           have Z2 := hid z2
           have Z3 := hid z3
           have HGL := hid hg
           clear z0 z1 z2 z3 hg
           have KKA := fun W h => hid (HtbA.out i hlt W h)
           have HSN := hid (show (List.range (i + 1)).all Qtb = ((List.range i).all Qtb && (tbA i)) by rw [range_all_snoc]; rw [HQtb.out])
           generalize tbA i = bA at *
           generalize tbt0 i = s0 at *
           generalize tbt1 i = s1 at *
           generalize tbt2 i = s2 at *
           generalize tbu3 i = e3 at *
           rcases (show (ok = false) ∨ (ok = true ∧ bA = false) ∨ (ok = true ∧ bA = true) by cases ok <;> cases bA <;> simp) with rfl | ⟨rfl,rfl⟩ | ⟨rfl,rfl⟩
           all_goals
            go_wp2_with (go_at_call 54; (with_reducible refine (KKA _ HB.out).out.mono ?_); rintro e w1 ⟨rfl,hb⟩; have HBA := hid (HB.out.trans (hb.mono HB.out.size)); have HXA := hid (HX.out.below hb HX.out.lt); have y3 := HXA.out.at (k := 3) (v := .slice (some ⟨tbblk,tboff,none⟩) tbn tbc) rfl; have x0 := (HBA.out.cell (p := ⟨tbblk,tboff + i * 4,none⟩) HGL.out).trans Z0.out; have x1 := (HBA.out.cell (p := ⟨tbblk,tboff + i * 4 + 1,none⟩) HGL.out).trans Z1.out; have x2 := (HBA.out.cell (p := ⟨tbblk,tboff + i * 4 + 2,none⟩) HGL.out).trans Z2.out; have x3 := (HBA.out.cell (p := ⟨tbblk,tboff + i * 4 + 3,none⟩) HGL.out).trans Z3.out; clear hb)
            go_roundw
            case rel => exact ⟨i + 1,_,hlt,by go_num,rfl,hid (by rw [HSN.out,← Bool.and_assoc,← HK.out]; rfl),HBA,HXA⟩
            case measure => simp [intOf]; omega
         ·have hie : tbn = i := by omega
          subst hie
          have HB4 := HB
          have HX4 := HX
          obtain ⟨ok3,hok3⟩ : ∃ b,b = ok := ⟨_,rfl⟩
          have HK4 := hid (show ok3 = (ok2 && (List.range tbn).all Qtb) by rw [hok3]; exact HK.out)
          subst hok3
          clear HB HX HK hlt hi
          have y4 := HX4.out.at (k := 4) (v := .slice mp mn mc) rfl
          go_wp2
          go_loopw [3,17] (fun vo vi wr => ∃ (i : Nat) (ok : Bool),i ≤ mn ∧ vi = .int .i64 i ∧ vo = .bool ok ∧ Hid (ok = (ok3 && (List.range i).all Qm)) ∧ Hid (Below w.heap.size w wr) ∧ Hid (CA w.heap.size #[.slice tp tn tc,.slice imp imn imc,.slice fp fn fc,.slice tbp tbn tbc,.slice mp mn mc,.slice gp gn gc,.slice xp xn xc,.int .i64 st,.slice ep en ec,.slice dp dn dc,.bool cnt] 32 wr)) (fun _ vi _ => mn - (intOf vi).toNat)
          case atStart => exact ⟨0,ok3,Nat.zero_le _,rfl,rfl,by simp [Hid],HB4,HX4⟩
          case round =>
           clear y4
           obtain ⟨i,ok,hi,rfl,rfl,HK,HB,HX⟩ := hrel
           have y4 := HX.out.at (k := 4) (v := .slice mp mn mc) rfl
           by_cases hlt : i < mn
           ·as_aux_lemma =>
             obtain ⟨z0,z1,z2⟩ := HmX.out i hlt
             obtain ⟨hpe,hg⟩ := HmG.out (by omega)
             subst hpe
             have x0 := (HB.out.cell (p := ⟨mblk,moff + i * 3,none⟩) hg).trans z0
             have x1 := (HB.out.cell (p := ⟨mblk,moff + i * 3 + 1,none⟩) hg).trans z1
             have x2 := (HB.out.cell (p := ⟨mblk,moff + i * 3 + 2,none⟩) hg).trans z2
             have Z0 := hid z0
             have Z1 := hid z1
             have Z2 := hid z2
             have HGL := hid hg
             clear z0 z1 z2 hg
             have KKA := fun W h => hid (HmA.out i hlt W h)
             have HSN := hid (show (List.range (i + 1)).all Qm = ((List.range i).all Qm && (mA i)) by rw [range_all_snoc]; rw [HQm.out])
             generalize mA i = bA at *
             generalize mt0 i = s0 at *
             generalize mt1 i = s1 at *
             generalize mu2 i = e2 at *
             rcases (show (ok = false) ∨ (ok = true ∧ bA = false) ∨ (ok = true ∧ bA = true) by cases ok <;> cases bA <;> simp) with rfl | ⟨rfl,rfl⟩ | ⟨rfl,rfl⟩
             all_goals
              go_wp2_with (go_at_call 55; (with_reducible refine (KKA _ HB.out).out.mono ?_); rintro e w1 ⟨rfl,hb⟩; have HBA := hid (HB.out.trans (hb.mono HB.out.size)); have HXA := hid (HX.out.below hb HX.out.lt); have y4 := HXA.out.at (k := 4) (v := .slice (some ⟨mblk,moff,none⟩) mn mc) rfl; have x0 := (HBA.out.cell (p := ⟨mblk,moff + i * 3,none⟩) HGL.out).trans Z0.out; have x1 := (HBA.out.cell (p := ⟨mblk,moff + i * 3 + 1,none⟩) HGL.out).trans Z1.out; have x2 := (HBA.out.cell (p := ⟨mblk,moff + i * 3 + 2,none⟩) HGL.out).trans Z2.out; clear hb)
              go_roundw
              case rel => exact ⟨i + 1,_,hlt,by go_num,rfl,hid (by rw [HSN.out,← Bool.and_assoc,← HK.out]; rfl),HBA,HXA⟩
              case measure => simp [intOf]; omega
           ·have hie : mn = i := by omega
            subst hie
            have HB5 := HB
            have HX5 := HX
            obtain ⟨ok4,hok4⟩ : ∃ b,b = ok := ⟨_,rfl⟩
            have HK5 := hid (show ok4 = (ok3 && (List.range mn).all Qm) by rw [hok4]; exact HK.out)
            subst hok4
            clear HB HX HK hlt hi
            have y5 := HX5.out.at (k := 5) (v := .slice gp gn gc) rfl
            go_wp2
            go_loopw [3,19] (fun vo vi wr => ∃ (i : Nat) (ok : Bool),i ≤ gn ∧ vi = .int .i64 i ∧ vo = .bool ok ∧ Hid (ok = (ok4 && (List.range i).all Qg)) ∧ Hid (Below w.heap.size w wr) ∧ Hid (CA w.heap.size #[.slice tp tn tc,.slice imp imn imc,.slice fp fn fc,.slice tbp tbn tbc,.slice mp mn mc,.slice gp gn gc,.slice xp xn xc,.int .i64 st,.slice ep en ec,.slice dp dn dc,.bool cnt] 32 wr)) (fun _ vi _ => gn - (intOf vi).toNat)
            case atStart => exact ⟨0,ok4,Nat.zero_le _,rfl,rfl,by simp [Hid],HB5,HX5⟩
            case round =>
             clear y5
             obtain ⟨i,ok,hi,rfl,rfl,HK,HB,HX⟩ := hrel
             have y5 := HX.out.at (k := 5) (v := .slice gp gn gc) rfl
             by_cases hlt : i < gn
             ·as_aux_lemma =>
               obtain ⟨z0,z1,z2⟩ := HgX.out i hlt
               obtain ⟨hpe,hg⟩ := HgG.out (by omega)
               subst hpe
               have x0 := (HB.out.cell (p := ⟨gblk,goff + i * 3,none⟩) hg).trans z0
               have x1 := (HB.out.cell (p := ⟨gblk,goff + i * 3 + 1,none⟩) hg).trans z1
               have x2 := (HB.out.cell (p := ⟨gblk,goff + i * 3 + 2,none⟩) hg).trans z2
               have Z0 := hid z0
               have Z1 := hid z1
               have Z2 := hid z2
               have HGL := hid hg
               clear z0 z1 z2 hg
               have KKA := fun W h => hid (HgA.out i hlt W h)
               have KKB := fun W h => hid (HgB.out i hlt W h)
               have HSN := hid (show (List.range (i + 1)).all Qg = ((List.range i).all Qg && (gA i && gB i)) by rw [range_all_snoc]; rw [HQg.out])
               generalize gA i = bA at *
               generalize gB i = bB at *
               generalize gt0 i = s0 at *
               generalize gu1 i = e1 at *
               generalize gp2 i = q2 at *
               generalize gn2 i = m2 at *
               generalize gc2 i = d2 at *
               rcases (show (ok = false) ∨ (ok = true ∧ bA = false) ∨ (ok = true ∧ bA = true ∧ bB = false) ∨ (ok = true ∧ bA = true ∧ bB = true) by cases ok <;> cases bA <;> cases bB <;> simp) with rfl | ⟨rfl,rfl⟩ | ⟨rfl,rfl,rfl⟩ | ⟨rfl,rfl,rfl⟩
               all_goals
                go_wp2_with (first
                 | (go_at_call 56; (with_reducible refine (KKA _ HB.out).out.mono ?_); rintro e w1 ⟨rfl,hb⟩; have HBA := hid (HB.out.trans (hb.mono HB.out.size)); have HXA := hid (HX.out.below hb HX.out.lt); have y5 := HXA.out.at (k := 5) (v := .slice (some ⟨gblk,goff,none⟩) gn gc) rfl; have x0 := (HBA.out.cell (p := ⟨gblk,goff + i * 3,none⟩) HGL.out).trans Z0.out; have x1 := (HBA.out.cell (p := ⟨gblk,goff + i * 3 + 1,none⟩) HGL.out).trans Z1.out; have x2 := (HBA.out.cell (p := ⟨gblk,goff + i * 3 + 2,none⟩) HGL.out).trans Z2.out; clear hb)
                 | (go_at_call 26; (with_reducible refine (KKB _ HBA.out).out.mono ?_); rintro e w2 ⟨rfl,hb⟩; have HBB := hid (HBA.out.trans (hb.mono HBA.out.size)); have HXB := hid (HXA.out.below hb HXA.out.lt); have y5 := HXB.out.at (k := 5) (v := .slice (some ⟨gblk,goff,none⟩) gn gc) rfl; have x0 := (HBB.out.cell (p := ⟨gblk,goff + i * 3,none⟩) HGL.out).trans Z0.out; have x1 := (HBB.out.cell (p := ⟨gblk,goff + i * 3 + 1,none⟩) HGL.out).trans Z1.out; have x2 := (HBB.out.cell (p := ⟨gblk,goff + i * 3 + 2,none⟩) HGL.out).trans Z2.out; clear hb))
                go_roundw
                case rel => exact ⟨i + 1,_,hlt,by go_num,rfl,hid (by rw [HSN.out,← Bool.and_assoc,← HK.out]; rfl),HBB,HXB⟩
                case measure => simp [intOf]; omega
             ·have hie : gn = i := by omega
              subst hie
              have HB6 := HB
              have HX6 := HX
              obtain ⟨ok5,hok5⟩ : ∃ b,b = ok := ⟨_,rfl⟩
              have HK6 := hid (show ok5 = (ok4 && (List.range gn).all Qg) by rw [hok5]; exact HK.out)
              subst hok5
              clear HB HX HK hlt hi
              have y6 := HX6.out.at (k := 6) (v := .slice xp xn xc) rfl
              go_wp2
              go_loopw [3,22] (fun vo vi wr => ∃ (i : Nat) (ok : Bool),i ≤ xn ∧ vi = .int .i64 i ∧ vo = .bool ok ∧ Hid (ok = (ok5 && (List.range i).all Qx)) ∧ Hid (Below w.heap.size w wr) ∧ Hid (CA w.heap.size #[.slice tp tn tc,.slice imp imn imc,.slice fp fn fc,.slice tbp tbn tbc,.slice mp mn mc,.slice gp gn gc,.slice xp xn xc,.int .i64 st,.slice ep en ec,.slice dp dn dc,.bool cnt] 32 wr)) (fun _ vi _ => xn - (intOf vi).toNat)
              case atStart => exact ⟨0,ok5,Nat.zero_le _,rfl,rfl,by simp [Hid],HB6,HX6⟩
              case round =>
               clear y6
               obtain ⟨i,ok,hi,rfl,rfl,HK,HB,HX⟩ := hrel
               have y6 := HX.out.at (k := 6) (v := .slice xp xn xc) rfl
               by_cases hlt : i < xn
               ·as_aux_lemma =>
                 obtain ⟨z0,z1,z2⟩ := HxX.out i hlt
                 obtain ⟨hpe,hg⟩ := HxG.out (by omega)
                 subst hpe
                 have x0 := (HB.out.cell (p := ⟨xblk,xoff + i * 3,none⟩) hg).trans z0
                 have x1 := (HB.out.cell (p := ⟨xblk,xoff + i * 3 + 1,none⟩) hg).trans z1
                 have x2 := (HB.out.cell (p := ⟨xblk,xoff + i * 3 + 2,none⟩) hg).trans z2
                 have Z0 := hid z0
                 have Z1 := hid z1
                 have Z2 := hid z2
                 have HGL := hid hg
                 clear z0 z1 z2 hg
                 have KKA := fun W h => hid (HxA.out i hlt W h)
                 have KKB := fun W h => hid (HxB.out i hlt W h)
                 have HSN := hid (show (List.range (i + 1)).all Qx = ((List.range i).all Qx && (xA i && xB i && decide (0 ≤ xt1 i) && decide (xt1 i ≤ 3))) by rw [range_all_snoc]; rw [HQx.out])
                 generalize xA i = bA at *
                 generalize xB i = bB at *
                 generalize xz0 i = y0 at *
                 generalize xt1 i = s1 at *
                 generalize xt2 i = s2 at *
                 obtain ⟨bU,hbU⟩ : ∃ b,decide (0 ≤ s1) = b := ⟨_,rfl⟩
                 obtain ⟨bV,hbV⟩ : ∃ b,decide (s1 ≤ 3) = b := ⟨_,rfl⟩
                 rw [hbU,hbV] at HSN
                 have HE := hid (CA.new wr #[.string y0,.int .i64 s1,.int .i64 s2] 76)
                 have HBE := hid (HB.out.alloc HB.out.size (.cells #[.string y0,.int .i64 s1,.int .i64 s2] 76))
                 have HXE := hid (HX.out.alloc (.cells #[.string y0,.int .i64 s1,.int .i64 s2] 76))
                 rcases (show (ok = false) ∨ (ok = true ∧ bA = false) ∨ (ok = true ∧ bA = true ∧ bB = false) ∨ (ok = true ∧ bA = true ∧ bB = true ∧ bU = false) ∨ (ok = true ∧ bA = true ∧ bB = true ∧ bU = true ∧ bV = false) ∨ (ok = true ∧ bA = true ∧ bB = true ∧ bU = true ∧ bV = true) by cases ok <;> cases bA <;> cases bB <;> cases bU <;> cases bV <;> simp) with rfl | ⟨rfl,rfl⟩ | ⟨rfl,rfl,rfl⟩ | ⟨rfl,rfl,rfl,rfl⟩ | ⟨rfl,rfl,rfl,rfl,rfl⟩ | ⟨rfl,rfl,rfl,rfl,rfl⟩
                 all_goals
                  go_wp2_with (first
                   | (go_at_call 57; (with_reducible refine (KKA _ HBE.out).out.mono ?_); rintro e w1 ⟨rfl,hb⟩; have HBA := hid (HBE.out.trans (hb.mono HBE.out.size)); have HXA := hid (HXE.out.below hb HXE.out.lt); have y6 := HXA.out.at (k := 6) (v := .slice (some ⟨xblk,xoff,none⟩) xn xc) rfl; have HEA := hid (HE.out.below hb HE.out.lt); have v0 := HEA.out.at (k := 0) (v := .string y0) rfl; have v1 := HEA.out.at (k := 1) (v := .int .i64 s1) rfl; have v2 := HEA.out.at (k := 2) (v := .int .i64 s2) rfl; clear hb)
                   | (go_at_call 52; (with_reducible refine (KKB _ HBA.out).out.mono ?_); rintro e w2 ⟨rfl,hb⟩; have HBB := hid (HBA.out.trans (hb.mono HBA.out.size)); have HXB := hid (HXA.out.below hb HXA.out.lt); have y6 := HXB.out.at (k := 6) (v := .slice (some ⟨xblk,xoff,none⟩) xn xc) rfl; have HEB := hid (HEA.out.below hb HEA.out.lt); have v0 := HEB.out.at (k := 0) (v := .string y0) rfl; have v1 := HEB.out.at (k := 1) (v := .int .i64 s1) rfl; have v2 := HEB.out.at (k := 2) (v := .int .i64 s2) rfl; clear hb))
                  go_roundw
                  case rel => exact ⟨i + 1,_,hlt,by go_num,rfl,hid (by rw [HSN.out,← Bool.and_assoc,← HK.out]; rfl),HBB,HXB⟩
                  case measure => simp [intOf]; omega
               ·have hie : xn = i := by omega
                subst hie
                have HB7 := HB
                have HX7 := HX
                obtain ⟨ok6,hok6⟩ : ∃ b,b = ok := ⟨_,rfl⟩
                have HK7 := hid (show ok6 = (ok5 && (List.range xn).all Qx) by rw [hok6]; exact HK.out)
                subst hok6
                clear HB HX HK hlt hi
                cases ok6 with
                | false =>
                 go_wp2
                 go_ret
                 exact ⟨by rw [HR.out,← HK1.out,← HK2.out,← HK3.out,← HK4.out,← HK5.out,← HK6.out,← HK7.out]; rfl,HB7.out⟩
                | true =>
                 obtain ⟨y0,y1,y2,y3,y4,y5,y6,y7,y8,y9,y10⟩ := ca11 HX7.out
                 go_wp2_with (go_at_call 58; (with_reducible refine (HSG _ HB7.out).out.mono ?_); rintro e w9 ⟨rfl,hb⟩; have HB9 := hid (HB7.out.trans (hb.mono HB7.out.size)); clear hb)
                 go_ret
                 exact ⟨by rw [HR.out,← HK1.out,← HK2.out,← HK3.out,← HK4.out,← HK5.out,← HK6.out,← HK7.out,Bool.true_and]; rfl,HB9.out⟩
end Go.Proofs.YtjgeedgphcjhoaaGreat
