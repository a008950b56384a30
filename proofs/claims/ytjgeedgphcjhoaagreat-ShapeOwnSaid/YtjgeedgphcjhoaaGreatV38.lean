/-
  SOwnL: what a copy is in memory, and what becomes of it (the text says what it holds where it lies in wip). No condition.
-/
import Derived.Test.YtjgeedgphcjhoaaGreatT24
import Derived.Test.YtjgeedgphcjhoaaGreatT08
import Derived.Test.YtjgeedgphcjhoaaGreatT14
import Derived.Test.YtjgeedgphcjhoaaGreatV32
import Derived.Test.YtjgeedgphcjhoaaGreatV36
import Derived.Test.YtjgeedgphcjhoaaGreatV37
import Derived.Deep.RegionHeld3
import Derived.Deep.DeepCutAuto
set_option linter.unusedSimpArgs false
set_option linter.unusedVariables false
set_option maxRecDepth 100000
namespace Go.Proofs.YtjgeedgphcjhoaaGreat
open Go.RowKit
set_option maxHeartbeats 16000000 in
theorem law_Own (A : MD) (w : World) (hA : A.ok w.heap.size w) : Calls Tryz.prog 6 #[A.val] w fun e w' => e = .returned (.bool true) ∧ Below w.heap.size w w' := by
 have HA := fun W => hid (awake_says W)
 have HFA := fun (W : World) (hW : Below w.heap.size w W) => hid (Fits_M ((hA.below hW).mono hW.size))
 have HC := fun (hf : FitM A) (W : World) (hW : Below w.heap.size w W) => hid (Copy_M ((hA.below hW).mono hW.size) hf (Nat.le_refl _))
 have HD := fun (hf : FitM A) (W : World) (hW : Below w.heap.size w W) => hid (Copy_P ((hA.below hW).mono hW.size) hf (Nat.le_refl _))
 have HAB := hid hA
 unfold MD.val at HFA HC HD
 show Calls Tryz.prog 6 #[.agg #[.slice A.tp A.tn A.tc,.slice A.imp A.imn A.imc,.slice A.fp A.fn A.fc,.slice A.tbp A.tbn A.tbc,.slice A.mp A.mn A.mc,.slice A.gp A.gn A.gc,.slice A.xp A.xn A.xc,.int .i64 A.st,.slice A.ep A.en A.ec,.slice A.dp A.dn A.dc,.bool A.cnt]] w _
 have HX0 := hid (CA.new w #[.slice A.tp A.tn A.tc,.slice A.imp A.imn A.imc,.slice A.fp A.fn A.fc,.slice A.tbp A.tbn A.tbc,.slice A.mp A.mn A.mc,.slice A.gp A.gn A.gc,.slice A.xp A.xn A.xc,.int .i64 A.st,.slice A.ep A.en A.ec,.slice A.dp A.dn A.dc,.bool A.cnt] 32)
 have HB0 := hid ((Below.refl w.heap.size w).alloc (Nat.le_refl _) (.cells #[.slice A.tp A.tn A.tc,.slice A.imp A.imn A.imc,.slice A.fp A.fn A.fc,.slice A.tbp A.tbn A.tbc,.slice A.mp A.mn A.mc,.slice A.gp A.gn A.gc,.slice A.xp A.xn A.xc,.int .i64 A.st,.slice A.ep A.en A.ec,.slice A.dp A.dn A.dc,.bool A.cnt] 32))
 clear hA
 go_enter Tryz.func6,Tryz.ntmps6
 go_upto_region 4 with (go_at_call 13; (with_reducible refine (HA _).out.mono ?_); rintro e w1 ⟨rfl,hb⟩; have HB1 := hid (HB0.out.trans (hb.mono HB0.out.size)); have HX1 := hid (HX0.out.below hb HX0.out.lt); clear hb)
 have x0 := HX1.out.at (k := 0) (v := .slice A.tp A.tn A.tc) rfl; have x1 := HX1.out.at (k := 1) (v := .slice A.imp A.imn A.imc) rfl; have x2 := HX1.out.at (k := 2) (v := .slice A.fp A.fn A.fc) rfl; have x3 := HX1.out.at (k := 3) (v := .slice A.tbp A.tbn A.tbc) rfl; have x4 := HX1.out.at (k := 4) (v := .slice A.mp A.mn A.mc) rfl; have x5 := HX1.out.at (k := 5) (v := .slice A.gp A.gn A.gc) rfl; have x6 := HX1.out.at (k := 6) (v := .slice A.xp A.xn A.xc) rfl; have x7 := HX1.out.at (k := 7) (v := .int .i64 A.st) rfl; have x8 := HX1.out.at (k := 8) (v := .slice A.ep A.en A.ec) rfl; have x9 := HX1.out.at (k := 9) (v := .slice A.dp A.dn A.dc) rfl; have x10 := HX1.out.at (k := 10) (v := .bool A.cnt) rfl
 go_upto_region 5 with (go_at_call 14; (with_reducible refine (HFA _ HB1.out).out.mono ?_); rintro e w2 ⟨bf,rfl,hb,hr⟩; have HFM := hid hr; have HB2 := hid (HB1.out.trans (hb.mono HB1.out.size)); have HX2 := hid (HX1.out.below hb HX1.out.lt); clear hb hr)
 clear x0 x1 x2 x3 x4 x5 x6 x7 x8 x9 x10 HX0 HB0 HX1 HB1 HFA HA
 cases bf with
 | false =>
  go_wp2
  go_ret
  exact ⟨rfl,HB2.out⟩
 | true =>
  have HF := hid (HFM.out rfl)
  have HC2 := fun W h => hid (HC HF.out W h).out
  have HD2 := fun W h => hid (HD HF.out W h).out
  clear HFM HC HD
  have x0 := HX2.out.at (k := 0) (v := .slice A.tp A.tn A.tc) rfl; have x1 := HX2.out.at (k := 1) (v := .slice A.imp A.imn A.imc) rfl; have x2 := HX2.out.at (k := 2) (v := .slice A.fp A.fn A.fc) rfl; have x3 := HX2.out.at (k := 3) (v := .slice A.tbp A.tbn A.tbc) rfl; have x4 := HX2.out.at (k := 4) (v := .slice A.mp A.mn A.mc) rfl; have x5 := HX2.out.at (k := 5) (v := .slice A.gp A.gn A.gc) rfl; have x6 := HX2.out.at (k := 6) (v := .slice A.xp A.xn A.xc) rfl; have x7 := HX2.out.at (k := 7) (v := .int .i64 A.st) rfl; have x8 := HX2.out.at (k := 8) (v := .slice A.ep A.en A.ec) rfl; have x9 := HX2.out.at (k := 9) (v := .slice A.dp A.dn A.dc) rfl; have x10 := HX2.out.at (k := 10) (v := .bool A.cnt) rfl
  go_upto_region 8 with (go_at_call 18; (with_reducible refine (HC2 _ HB2.out).out.mono ?_); rintro e w5 ⟨C,rfl,⟨hc1,hc2⟩,hb⟩; have HBC := hid (HB2.out.trans (hb.mono HB2.out.size)); have HXC := hid (HX2.out.below hb HX2.out.lt); have HCC := hid hc1; have HCE := hid hc2; clear hb hc1 hc2)
  clear x0 x1 x2 x3 x4 x5 x6 x7 x8 x9 x10 HC2 HX2 HB2
  have HB4 := hid (HBC.out.alloc HBC.out.size (.cells #[.slice C.tp C.tn C.tc,.slice C.imp C.imn C.imc,.slice C.fp C.fn C.fc,.slice C.tbp C.tbn C.tbc,.slice C.mp C.mn C.mc,.slice C.gp C.gn C.gc,.slice C.xp C.xn C.xc,.int .i64 C.st,.slice C.ep C.en C.ec,.slice C.dp C.dn C.dc,.bool C.cnt] 32))
  have HX4 := hid (HXC.out.alloc (.cells #[.slice C.tp C.tn C.tc,.slice C.imp C.imn C.imc,.slice C.fp C.fn C.fc,.slice C.tbp C.tbn C.tbc,.slice C.mp C.mn C.mc,.slice C.gp C.gn C.gc,.slice C.xp C.xn C.xc,.int .i64 C.st,.slice C.ep C.en C.ec,.slice C.dp C.dn C.dc,.bool C.cnt] 32))
  have HZ4 := hid (CA.new w5 #[.slice C.tp C.tn C.tc,.slice C.imp C.imn C.imc,.slice C.fp C.fn C.fc,.slice C.tbp C.tbn C.tbc,.slice C.mp C.mn C.mc,.slice C.gp C.gn C.gc,.slice C.xp C.xn C.xc,.int .i64 C.st,.slice C.ep C.en C.ec,.slice C.dp C.dn C.dc,.bool C.cnt] 32)
  have HC4 := hid (show C.ok (w5.alloc (.cells #[.slice C.tp C.tn C.tc,.slice C.imp C.imn C.imc,.slice C.fp C.fn C.fc,.slice C.tbp C.tbn C.tbc,.slice C.mp C.mn C.mc,.slice C.gp C.gn C.gc,.slice C.xp C.xn C.xc,.int .i64 C.st,.slice C.ep C.en C.ec,.slice C.dp C.dn C.dc,.bool C.cnt] 32)).heap.size (w5.alloc (.cells #[.slice C.tp C.tn C.tc,.slice C.imp C.imn C.imc,.slice C.fp C.fn C.fc,.slice C.tbp C.tbn C.tbc,.slice C.mp C.mn C.mc,.slice C.gp C.gn C.gc,.slice C.xp C.xn C.xc,.int .i64 C.st,.slice C.ep C.en C.ec,.slice C.dp C.dn C.dc,.bool C.cnt] 32)) from (HCC.out.below ((Below.refl _ _).alloc (Nat.le_refl _) _)).mono (by rw [size_al]; omega))
  generalize w5.heap.size = gc at *
  generalize w5.alloc (.cells #[.slice C.tp C.tn C.tc,.slice C.imp C.imn C.imc,.slice C.fp C.fn C.fc,.slice C.tbp C.tbn C.tbc,.slice C.mp C.mn C.mc,.slice C.gp C.gn C.gc,.slice C.xp C.xn C.xc,.int .i64 C.st,.slice C.ep C.en C.ec,.slice C.dp C.dn C.dc,.bool C.cnt] 32) = w4 at *
  clear HBC HXC HCC
  have x0 := HX4.out.at (k := 0) (v := .slice A.tp A.tn A.tc) rfl; have x1 := HX4.out.at (k := 1) (v := .slice A.imp A.imn A.imc) rfl; have x2 := HX4.out.at (k := 2) (v := .slice A.fp A.fn A.fc) rfl; have x3 := HX4.out.at (k := 3) (v := .slice A.tbp A.tbn A.tbc) rfl; have x4 := HX4.out.at (k := 4) (v := .slice A.mp A.mn A.mc) rfl; have x5 := HX4.out.at (k := 5) (v := .slice A.gp A.gn A.gc) rfl; have x6 := HX4.out.at (k := 6) (v := .slice A.xp A.xn A.xc) rfl; have x7 := HX4.out.at (k := 7) (v := .int .i64 A.st) rfl; have x8 := HX4.out.at (k := 8) (v := .slice A.ep A.en A.ec) rfl; have x9 := HX4.out.at (k := 9) (v := .slice A.dp A.dn A.dc) rfl; have x10 := HX4.out.at (k := 10) (v := .bool A.cnt) rfl
  have LX := hid HX4.out.lt
  have HB4_ := HB4
  have LZ := hid HZ4.out.lt
  go_upto_region 9 with (go_at_call 18; (with_reducible refine (HD2 _ HB4.out).out.mono ?_); rintro e w6 ⟨v,rfl,hc,hb⟩; obtain ⟨D,rfl,hw⟩ := hc.wm HF.out; unfold WBox.arr; have HB6 := hid (HB4.out.trans (hb.mono HB4.out.size)); have HX6 := hid (HX4.out.below hb LX.out); have HZ6 := hid (HZ4.out.below hb LZ.out); have HC6 := hid (HC4.out.below hb); have HW6 := hid hw; have HS6 := hid hb.size; clear hb hc hw)
  clear x0 x1 x2 x3 x4 x5 x6 x7 x8 x9 x10 HD2 HX4 HZ4 HB4 HC4
  have HB7 := hid (HB6.out.alloc HB6.out.size (.cells D.arr 32))
  have HX7 := hid (HX6.out.alloc (.cells D.arr 32))
  have HZ7 := hid (HZ6.out.alloc (.cells D.arr 32))
  have HD7 := hid (CA.new w6 D.arr 32)
  have HC7 := hid (HC6.out.below ((Below.refl w6.heap.size w6).alloc (Nat.le_refl _) (.cells D.arr 32) |>.mono HS6.out))
  have LW := hid HB4_.out.size
  have HS7 := hid (show w4.heap.size ≤ (w6.alloc (.cells D.arr 32)).heap.size by rw [size_al]; have := HS6.out; omega)
  have HW7 := hid (HW6.out.al (w' := w6.alloc (.cells D.arr 32)) (fun b hb => Below.heap_alloc _ _ _ hb))
  unfold WBox.arr at HB7 HX7 HZ7 HC7 HW7 HS7
  have HB8 := HB7
  unfold WBox.arr at HD7
  have HDD : Hid (CA w6.heap.size D.arr 32 (w6.alloc (.cells #[.slice D.tp D.tn D.tc,.slice D.imp D.imn D.imc,.slice D.fp D.fn D.fc,.slice D.tbp D.tbn D.tbc,.slice D.mp D.mn D.mc,.slice D.gp D.gn D.gc,.slice D.xp D.xn D.xc,.int .i64 D.st,.slice D.ep D.en D.ec,.slice D.dp D.dn D.dc,.bool D.cnt] 32))) := HD7
  have KS := hid (spoil_says w4.heap.size w6.heap.size D _ HW7.out HDD.out)
  generalize hg7 : w6.heap.size = gd at *
  clear hg7
  generalize w6.alloc (.cells #[.slice D.tp D.tn D.tc,.slice D.imp D.imn D.imc,.slice D.fp D.fn D.fc,.slice D.tbp D.tbn D.tbc,.slice D.mp D.mn D.mc,.slice D.gp D.gn D.gc,.slice D.xp D.xn D.xc,.int .i64 D.st,.slice D.ep D.en D.ec,.slice D.dp D.dn D.dc,.bool D.cnt] 32) = w7 at *
  go_upto_region 10 with (go_at_call 21; (with_reducible refine KS.out.mono ?_); rintro e w8 ⟨rfl,hk⟩; have HK8 := hid hk.below; clear hk)
  have HB9 := hid (HB7.out.trans (HK8.out.mono LW.out))
  have HX9 := hid (HX7.out.below HK8.out LX.out)
  have HZ9 := hid (HZ7.out.below HK8.out LZ.out)
  have HC9 := hid (HC7.out.below HK8.out)
  have KR := hid (RSame_M (B := w8.heap.size) (HAB.out.below HB9.out |>.mono HB9.out.size) (HC9.out.mono (Nat.le_trans HS7.out HK8.out.size)) (Nat.le_refl _))
  rw [HCE.out] at KR
  unfold MD.val at KR
  have x0 := HX9.out.at (k := 0) (v := .slice A.tp A.tn A.tc) rfl; have x1 := HX9.out.at (k := 1) (v := .slice A.imp A.imn A.imc) rfl; have x2 := HX9.out.at (k := 2) (v := .slice A.fp A.fn A.fc) rfl; have x3 := HX9.out.at (k := 3) (v := .slice A.tbp A.tbn A.tbc) rfl; have x4 := HX9.out.at (k := 4) (v := .slice A.mp A.mn A.mc) rfl; have x5 := HX9.out.at (k := 5) (v := .slice A.gp A.gn A.gc) rfl; have x6 := HX9.out.at (k := 6) (v := .slice A.xp A.xn A.xc) rfl; have x7 := HX9.out.at (k := 7) (v := .int .i64 A.st) rfl; have x8 := HX9.out.at (k := 8) (v := .slice A.ep A.en A.ec) rfl; have x9 := HX9.out.at (k := 9) (v := .slice A.dp A.dn A.dc) rfl; have x10 := HX9.out.at (k := 10) (v := .bool A.cnt) rfl
  have z0 := HZ9.out.at (k := 0) (v := .slice C.tp C.tn C.tc) rfl; have z1 := HZ9.out.at (k := 1) (v := .slice C.imp C.imn C.imc) rfl; have z2 := HZ9.out.at (k := 2) (v := .slice C.fp C.fn C.fc) rfl; have z3 := HZ9.out.at (k := 3) (v := .slice C.tbp C.tbn C.tbc) rfl; have z4 := HZ9.out.at (k := 4) (v := .slice C.mp C.mn C.mc) rfl; have z5 := HZ9.out.at (k := 5) (v := .slice C.gp C.gn C.gc) rfl; have z6 := HZ9.out.at (k := 6) (v := .slice C.xp C.xn C.xc) rfl; have z7 := HZ9.out.at (k := 7) (v := .int .i64 C.st) rfl; have z8 := HZ9.out.at (k := 8) (v := .slice C.ep C.en C.ec) rfl; have z9 := HZ9.out.at (k := 9) (v := .slice C.dp C.dn C.dc) rfl; have z10 := HZ9.out.at (k := 10) (v := .bool C.cnt) rfl
  go_wp2_with (go_at_call 20; (with_reducible refine KR.out.mono ?_); rintro e w9 ⟨rfl,hb⟩; have HBE := hid (HB9.out.trans (hb.mono HB9.out.size)); clear hb)
  go_ret
  exact ⟨rfl,HBE.out⟩
end Go.Proofs.YtjgeedgphcjhoaaGreat
