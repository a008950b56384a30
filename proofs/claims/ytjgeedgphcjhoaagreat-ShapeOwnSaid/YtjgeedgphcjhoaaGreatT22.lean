/-
  SEqf: merged, what the law does not reach left out (each text says what it holds where it lies in wip). No condition.
-/
import Derived.Test.YtjgeedgphcjhoaaGreatT15
import Derived.Test.YtjgeedgphcjhoaaGreatT12
import Derived.Test.YtjgeedgphcjhoaaGreatT01
set_option linter.unusedSimpArgs false
set_option linter.unusedVariables false
set_option maxRecDepth 100000
namespace Go.Proofs.YtjgeedgphcjhoaaGreat
open Go.RowKit
set_option maxHeartbeats 4000000 in
theorem eqg_ft (k : Nat) (eg : ∀ args w,(callFunc k args).run Tryz.prog w = .ok (.enter k args) w) (P : Nat → Bool) (an ac ag ao bn bc bg bo : Nat) (ap bp : Option Addr) (ap0 : Nat → Option Addr) (an0 ac0 : Nat → Nat) (ap1 : Nat → Option Addr) (an1 ac1 : Nat → Nat) (bp0 : Nat → Option Addr) (bn0 bc0 : Nat → Nat) (bp1 : Nat → Option Addr) (bn1 bc1 : Nat → Nat) (w : World)
  (han : an < 9223372036854775807) (hbn : bn < 9223372036854775807) (hag : an ≠ 0 → ap = some ⟨ag,ao,none⟩ ∧ ag < w.heap.size) (hbg : bn ≠ 0 → bp = some ⟨bg,bo,none⟩ ∧ bg < w.heap.size)
  (hax : ∀ i,i < an → w.cell? ⟨ag,ao + i * 2,none⟩ = some (.slice (ap0 i) (an0 i) (ac0 i)) ∧ w.cell? ⟨ag,ao + i * 2 + 1,none⟩ = some (.slice (ap1 i) (an1 i) (ac1 i))) (hbx : ∀ i,i < bn → w.cell? ⟨bg,bo + i * 2,none⟩ = some (.slice (bp0 i) (bn0 i) (bc0 i)) ∧ w.cell? ⟨bg,bo + i * 2 + 1,none⟩ = some (.slice (bp1 i) (bn1 i) (bc1 i)))
  (hP : ∀ i,i < an → i < bn → ∀ W,Below w.heap.size w W → Calls Tryz.prog k #[.agg #[.slice (ap0 i) (an0 i) (ac0 i),.slice (ap1 i) (an1 i) (ac1 i)],.agg #[.slice (bp0 i) (bn0 i) (bc0 i),.slice (bp1 i) (bn1 i) (bc1 i)]] W fun e w' => e = .returned (.bool (P i)) ∧ Below W.heap.size W w') :
  Calls Tryz.prog 78 #[.slice ap an ac,.slice bp bn bc,.func (.func k) #[] #[]] w fun e w' => e = .returned (.bool (eqL an bn P)) ∧ Below w.heap.size w w' := by
 have HP := hid hP
 have HAX := hid hax
 have HBX := hid hbx
 have HAG := hid hag
 have HBG := hid hbg
 have hn1 : (an : Int) < 9223372036854775807 := by omega
 have hn2 : (bn : Int) < 9223372036854775807 := by omega
 obtain ⟨r,hr⟩ : ∃ r,r = eqL an bn P := ⟨_,rfl⟩
 rw [← hr]
 have HR := hid hr
 clear hP hax hbx hag hbg hr han hbn
 by_cases hl : an = bn
 ·subst hl
  have hd : ((an : Int) != (an : Int)) = false := by simp
  go_enter Tryz.func78,Tryz.ntmps78
  go_wp2
  go_loopw [17] (fun vi wr => ∃ i : Nat,i ≤ an ∧ vi = .int .i64 i ∧ Hid (∀ j,j < i → P j = true) ∧ Hid (Below w.heap.size w wr)) (fun vi _ => an - (intOf vi).toNat)
  case atStart => exact ⟨0,Nat.zero_le _,rfl,fun j hj => absurd hj (Nat.not_lt_zero _),Below.refl _ _⟩
  case round =>
   obtain ⟨i,hi,rfl,HI,HB⟩ := hrel
   by_cases hlt : i < an
   ·obtain ⟨z0,z1⟩ := HAX.out i hlt
    obtain ⟨v0,v1⟩ := HBX.out i hlt
    obtain ⟨hpa,hga⟩ := HAG.out (by omega)
    obtain ⟨hpb,hgb⟩ := HBG.out (by omega)
    subst hpa hpb
    have hPi := fun W h => hid (HP.out i hlt hlt W h)
    have x0 := (HB.out.cell (p := ⟨ag,ao + i * 2,none⟩) hga).trans z0
    have y0 := (HB.out.cell (p := ⟨bg,bo + i * 2,none⟩) hgb).trans v0
    have x1 := (HB.out.cell (p := ⟨ag,ao + i * 2 + 1,none⟩) hga).trans z1
    have y1 := (HB.out.cell (p := ⟨bg,bo + i * 2 + 1,none⟩) hgb).trans v1
    clear z0 v0 z1 v1
    obtain ⟨q,hq⟩ : ∃ q,q = P i := ⟨_,rfl⟩
    rw [← hq] at hPi
    have HQ := hid hq
    clear hq
    generalize ap0 i = aq0 at *
    generalize an0 i = am0 at *
    generalize ac0 i = ad0 at *
    generalize ap1 i = aq1 at *
    generalize an1 i = am1 at *
    generalize ac1 i = ad1 at *
    generalize bp0 i = bq0 at *
    generalize bn0 i = bm0 at *
    generalize bc0 i = bd0 at *
    generalize bp1 i = bq1 at *
    generalize bn1 i = bm1 at *
    generalize bc1 i = bd1 at *
    have hA1 := (Below.refl wr.heap.size wr).alloc (Nat.le_refl _) (.cells #[.slice aq0 am0 ad0,.slice aq1 am1 ad1] 67)
    have hgb2 := Nat.lt_of_lt_of_le hgb HB.out.size
    have hga2 := Nat.lt_of_lt_of_le hga HB.out.size
    have hq1 : wr.heap.size ≠ ag := by omega
    have hq2 : wr.heap.size ≠ bg := by omega
    have u0 := (hA1.cell (p := ⟨bg,bo + i * 2,none⟩) hgb2).trans y0
    have u1 := (hA1.cell (p := ⟨bg,bo + i * 2 + 1,none⟩) hgb2).trans y1
    have HB2 := hid ((HB.out.alloc HB.out.size (.cells #[.slice aq0 am0 ad0,.slice aq1 am1 ad1] 67)).alloc (Nat.le_trans HB.out.size (by rw [size_al]; omega)) (.cells #[.slice bq0 bm0 bd0,.slice bq1 bm1 bd1] 67))
    clear hA1 hga hgb hga2 hgb2
    cases q with
    | false =>
     have HE : Hid (r = false) := by
      rw [HR.out]
      refine Bool.eq_false_iff.2 fun h => ?_
      have := ((eqL_iff _ _ _).1 h).2 i hlt
      rw [← HQ.out] at this
      cases this
     go_wp2_with (go_at_fn k; (with_reducible refine (hPi _ HB2.out).out.mono ?_); rintro e w3 ⟨rfl,hb3⟩; have HB3 := hid (HB2.out.trans (hb3.mono HB2.out.size)); clear hb3)
     go_ret
     exact ⟨by rw [HE.out]; rfl,HB3.out⟩
    | true =>
     go_wp2_with (go_at_fn k; (with_reducible refine (hPi _ HB2.out).out.mono ?_); rintro e w3 ⟨rfl,hb3⟩; have HB3 := hid (HB2.out.trans (hb3.mono HB2.out.size)); clear hb3)
     go_roundw
     case rel =>
      refine ⟨i + 1,hlt,by go_num,fun j hj => ?_,HB3.out⟩
      by_cases hji : j = i
      ·rw [hji]; exact HQ.out.symm
      ·exact HI.out j (by omega)
     case measure => simp [intOf]; omega
   ·obtain rfl : i = an := by omega
    have HE : Hid (r = true) := by
     rw [HR.out]
     exact eqL_refl HI.out
    go_wp2
    go_ret
    exact ⟨by rw [HE.out]; rfl,HB.out⟩
 ·have hd : ((an : Int) != (bn : Int)) = true := by simp; omega
  have HE : Hid (r = false) := by
   rw [HR.out]
   exact Bool.eq_false_iff.2 fun h => hl ((eqL_iff _ _ _).1 h).1
  clear hl
  go_enter Tryz.func78,Tryz.ntmps78
  go_wp2
  go_ret
  exact ⟨by rw [HE.out]; rfl,Below.refl _ _⟩
set_option maxHeartbeats 4000000 in
theorem eqg_code (k : Nat) (eg : ∀ args w,(callFunc k args).run Tryz.prog w = .ok (.enter k args) w) (P : Nat → Bool) (an ac ag ao bn bc bg bo : Nat) (ap bp : Option Addr) (at0 : Nat → Int) (ap1 : Nat → Option Addr) (an1 ac1 : Nat → Nat) (ap2 : Nat → Option Addr) (an2 ac2 : Nat → Nat) (bt0 : Nat → Int) (bp1 : Nat → Option Addr) (bn1 bc1 : Nat → Nat) (bp2 : Nat → Option Addr) (bn2 bc2 : Nat → Nat) (w : World)
  (han : an < 9223372036854775807) (hbn : bn < 9223372036854775807) (hag : an ≠ 0 → ap = some ⟨ag,ao,none⟩ ∧ ag < w.heap.size) (hbg : bn ≠ 0 → bp = some ⟨bg,bo,none⟩ ∧ bg < w.heap.size)
  (hax : ∀ i,i < an → w.cell? ⟨ag,ao + i * 3,none⟩ = some (.int .i64 (at0 i)) ∧ w.cell? ⟨ag,ao + i * 3 + 1,none⟩ = some (.slice (ap1 i) (an1 i) (ac1 i)) ∧ w.cell? ⟨ag,ao + i * 3 + 2,none⟩ = some (.slice (ap2 i) (an2 i) (ac2 i))) (hbx : ∀ i,i < bn → w.cell? ⟨bg,bo + i * 3,none⟩ = some (.int .i64 (bt0 i)) ∧ w.cell? ⟨bg,bo + i * 3 + 1,none⟩ = some (.slice (bp1 i) (bn1 i) (bc1 i)) ∧ w.cell? ⟨bg,bo + i * 3 + 2,none⟩ = some (.slice (bp2 i) (bn2 i) (bc2 i)))
  (hP : ∀ i,i < an → i < bn → ∀ W,Below w.heap.size w W → Calls Tryz.prog k #[.agg #[.int .i64 (at0 i),.slice (ap1 i) (an1 i) (ac1 i),.slice (ap2 i) (an2 i) (ac2 i)],.agg #[.int .i64 (bt0 i),.slice (bp1 i) (bn1 i) (bc1 i),.slice (bp2 i) (bn2 i) (bc2 i)]] W fun e w' => e = .returned (.bool (P i)) ∧ Below W.heap.size W w') :
  Calls Tryz.prog 81 #[.slice ap an ac,.slice bp bn bc,.func (.func k) #[] #[]] w fun e w' => e = .returned (.bool (eqL an bn P)) ∧ Below w.heap.size w w' := by
 have HP := hid hP
 have HAX := hid hax
 have HBX := hid hbx
 have HAG := hid hag
 have HBG := hid hbg
 have hn1 : (an : Int) < 9223372036854775807 := by omega
 have hn2 : (bn : Int) < 9223372036854775807 := by omega
 obtain ⟨r,hr⟩ : ∃ r,r = eqL an bn P := ⟨_,rfl⟩
 rw [← hr]
 have HR := hid hr
 clear hP hax hbx hag hbg hr han hbn
 by_cases hl : an = bn
 ·subst hl
  have hd : ((an : Int) != (an : Int)) = false := by simp
  go_enter Tryz.func81,Tryz.ntmps81
  go_wp2
  go_loopw [17] (fun vi wr => ∃ i : Nat,i ≤ an ∧ vi = .int .i64 i ∧ Hid (∀ j,j < i → P j = true) ∧ Hid (Below w.heap.size w wr)) (fun vi _ => an - (intOf vi).toNat)
  case atStart => exact ⟨0,Nat.zero_le _,rfl,fun j hj => absurd hj (Nat.not_lt_zero _),Below.refl _ _⟩
  case round =>
   obtain ⟨i,hi,rfl,HI,HB⟩ := hrel
   by_cases hlt : i < an
   ·obtain ⟨z0,z1,z2⟩ := HAX.out i hlt
    obtain ⟨v0,v1,v2⟩ := HBX.out i hlt
    obtain ⟨hpa,hga⟩ := HAG.out (by omega)
    obtain ⟨hpb,hgb⟩ := HBG.out (by omega)
    subst hpa hpb
    have hPi := fun W h => hid (HP.out i hlt hlt W h)
    have x0 := (HB.out.cell (p := ⟨ag,ao + i * 3,none⟩) hga).trans z0
    have y0 := (HB.out.cell (p := ⟨bg,bo + i * 3,none⟩) hgb).trans v0
    have x1 := (HB.out.cell (p := ⟨ag,ao + i * 3 + 1,none⟩) hga).trans z1
    have y1 := (HB.out.cell (p := ⟨bg,bo + i * 3 + 1,none⟩) hgb).trans v1
    have x2 := (HB.out.cell (p := ⟨ag,ao + i * 3 + 2,none⟩) hga).trans z2
    have y2 := (HB.out.cell (p := ⟨bg,bo + i * 3 + 2,none⟩) hgb).trans v2
    clear z0 v0 z1 v1 z2 v2
    obtain ⟨q,hq⟩ : ∃ q,q = P i := ⟨_,rfl⟩
    rw [← hq] at hPi
    have HQ := hid hq
    clear hq
    generalize at0 i = as0 at *
    generalize ap1 i = aq1 at *
    generalize an1 i = am1 at *
    generalize ac1 i = ad1 at *
    generalize ap2 i = aq2 at *
    generalize an2 i = am2 at *
    generalize ac2 i = ad2 at *
    generalize bt0 i = bs0 at *
    generalize bp1 i = bq1 at *
    generalize bn1 i = bm1 at *
    generalize bc1 i = bd1 at *
    generalize bp2 i = bq2 at *
    generalize bn2 i = bm2 at *
    generalize bc2 i = bd2 at *
    have hA1 := (Below.refl wr.heap.size wr).alloc (Nat.le_refl _) (.cells #[.int .i64 as0,.slice aq1 am1 ad1,.slice aq2 am2 ad2] 42)
    have hgb2 := Nat.lt_of_lt_of_le hgb HB.out.size
    have hga2 := Nat.lt_of_lt_of_le hga HB.out.size
    have hq1 : wr.heap.size ≠ ag := by omega
    have hq2 : wr.heap.size ≠ bg := by omega
    have u0 := (hA1.cell (p := ⟨bg,bo + i * 3,none⟩) hgb2).trans y0
    have u1 := (hA1.cell (p := ⟨bg,bo + i * 3 + 1,none⟩) hgb2).trans y1
    have u2 := (hA1.cell (p := ⟨bg,bo + i * 3 + 2,none⟩) hgb2).trans y2
    have HB2 := hid ((HB.out.alloc HB.out.size (.cells #[.int .i64 as0,.slice aq1 am1 ad1,.slice aq2 am2 ad2] 42)).alloc (Nat.le_trans HB.out.size (by rw [size_al]; omega)) (.cells #[.int .i64 bs0,.slice bq1 bm1 bd1,.slice bq2 bm2 bd2] 42))
    clear hA1 hga hgb hga2 hgb2
    cases q with
    | false =>
     have HE : Hid (r = false) := by
      rw [HR.out]
      refine Bool.eq_false_iff.2 fun h => ?_
      have := ((eqL_iff _ _ _).1 h).2 i hlt
      rw [← HQ.out] at this
      cases this
     go_wp2_with (go_at_fn k; (with_reducible refine (hPi _ HB2.out).out.mono ?_); rintro e w3 ⟨rfl,hb3⟩; have HB3 := hid (HB2.out.trans (hb3.mono HB2.out.size)); clear hb3)
     go_ret
     exact ⟨by rw [HE.out]; rfl,HB3.out⟩
    | true =>
     go_wp2_with (go_at_fn k; (with_reducible refine (hPi _ HB2.out).out.mono ?_); rintro e w3 ⟨rfl,hb3⟩; have HB3 := hid (HB2.out.trans (hb3.mono HB2.out.size)); clear hb3)
     go_roundw
     case rel =>
      refine ⟨i + 1,hlt,by go_num,fun j hj => ?_,HB3.out⟩
      by_cases hji : j = i
      ·rw [hji]; exact HQ.out.symm
      ·exact HI.out j (by omega)
     case measure => simp [intOf]; omega
   ·obtain rfl : i = an := by omega
    have HE : Hid (r = true) := by
     rw [HR.out]
     exact eqL_refl HI.out
    go_wp2
    go_ret
    exact ⟨by rw [HE.out]; rfl,HB.out⟩
 ·have hd : ((an : Int) != (bn : Int)) = true := by simp; omega
  have HE : Hid (r = false) := by
   rw [HR.out]
   exact Bool.eq_false_iff.2 fun h => hl ((eqL_iff _ _ _).1 h).1
  clear hl
  go_enter Tryz.func81,Tryz.ntmps81
  go_wp2
  go_ret
  exact ⟨by rw [HE.out]; rfl,Below.refl _ _⟩
set_option maxHeartbeats 4000000 in
theorem eqg_var (k : Nat) (eg : ∀ args w,(callFunc k args).run Tryz.prog w = .ok (.enter k args) w) (P : Nat → Bool) (an ac ag ao bn bc bg bo : Nat) (ap bp : Option Addr) (at0 : Nat → Int) (au1 : Nat → Bool) (ap2 : Nat → Option Addr) (an2 ac2 : Nat → Nat) (bt0 : Nat → Int) (bu1 : Nat → Bool) (bp2 : Nat → Option Addr) (bn2 bc2 : Nat → Nat) (w : World)
  (han : an < 9223372036854775807) (hbn : bn < 9223372036854775807) (hag : an ≠ 0 → ap = some ⟨ag,ao,none⟩ ∧ ag < w.heap.size) (hbg : bn ≠ 0 → bp = some ⟨bg,bo,none⟩ ∧ bg < w.heap.size)
  (hax : ∀ i,i < an → w.cell? ⟨ag,ao + i * 3,none⟩ = some (.int .i64 (at0 i)) ∧ w.cell? ⟨ag,ao + i * 3 + 1,none⟩ = some (.bool (au1 i)) ∧ w.cell? ⟨ag,ao + i * 3 + 2,none⟩ = some (.slice (ap2 i) (an2 i) (ac2 i))) (hbx : ∀ i,i < bn → w.cell? ⟨bg,bo + i * 3,none⟩ = some (.int .i64 (bt0 i)) ∧ w.cell? ⟨bg,bo + i * 3 + 1,none⟩ = some (.bool (bu1 i)) ∧ w.cell? ⟨bg,bo + i * 3 + 2,none⟩ = some (.slice (bp2 i) (bn2 i) (bc2 i)))
  (hP : ∀ i,i < an → i < bn → ∀ W,Below w.heap.size w W → Calls Tryz.prog k #[.agg #[.int .i64 (at0 i),.bool (au1 i),.slice (ap2 i) (an2 i) (ac2 i)],.agg #[.int .i64 (bt0 i),.bool (bu1 i),.slice (bp2 i) (bn2 i) (bc2 i)]] W fun e w' => e = .returned (.bool (P i)) ∧ Below W.heap.size W w') :
  Calls Tryz.prog 85 #[.slice ap an ac,.slice bp bn bc,.func (.func k) #[] #[]] w fun e w' => e = .returned (.bool (eqL an bn P)) ∧ Below w.heap.size w w' := by
 have HP := hid hP
 have HAX := hid hax
 have HBX := hid hbx
 have HAG := hid hag
 have HBG := hid hbg
 have hn1 : (an : Int) < 9223372036854775807 := by omega
 have hn2 : (bn : Int) < 9223372036854775807 := by omega
 obtain ⟨r,hr⟩ : ∃ r,r = eqL an bn P := ⟨_,rfl⟩
 rw [← hr]
 have HR := hid hr
 clear hP hax hbx hag hbg hr han hbn
 by_cases hl : an = bn
 ·subst hl
  have hd : ((an : Int) != (an : Int)) = false := by simp
  go_enter Tryz.func85,Tryz.ntmps85
  go_wp2
  go_loopw [17] (fun vi wr => ∃ i : Nat,i ≤ an ∧ vi = .int .i64 i ∧ Hid (∀ j,j < i → P j = true) ∧ Hid (Below w.heap.size w wr)) (fun vi _ => an - (intOf vi).toNat)
  case atStart => exact ⟨0,Nat.zero_le _,rfl,fun j hj => absurd hj (Nat.not_lt_zero _),Below.refl _ _⟩
  case round =>
   obtain ⟨i,hi,rfl,HI,HB⟩ := hrel
   by_cases hlt : i < an
   ·obtain ⟨z0,z1,z2⟩ := HAX.out i hlt
    obtain ⟨v0,v1,v2⟩ := HBX.out i hlt
    obtain ⟨hpa,hga⟩ := HAG.out (by omega)
    obtain ⟨hpb,hgb⟩ := HBG.out (by omega)
    subst hpa hpb
    have hPi := fun W h => hid (HP.out i hlt hlt W h)
    have x0 := (HB.out.cell (p := ⟨ag,ao + i * 3,none⟩) hga).trans z0
    have y0 := (HB.out.cell (p := ⟨bg,bo + i * 3,none⟩) hgb).trans v0
    have x1 := (HB.out.cell (p := ⟨ag,ao + i * 3 + 1,none⟩) hga).trans z1
    have y1 := (HB.out.cell (p := ⟨bg,bo + i * 3 + 1,none⟩) hgb).trans v1
    have x2 := (HB.out.cell (p := ⟨ag,ao + i * 3 + 2,none⟩) hga).trans z2
    have y2 := (HB.out.cell (p := ⟨bg,bo + i * 3 + 2,none⟩) hgb).trans v2
    clear z0 v0 z1 v1 z2 v2
    obtain ⟨q,hq⟩ : ∃ q,q = P i := ⟨_,rfl⟩
    rw [← hq] at hPi
    have HQ := hid hq
    clear hq
    generalize at0 i = as0 at *
    generalize au1 i = ae1 at *
    generalize ap2 i = aq2 at *
    generalize an2 i = am2 at *
    generalize ac2 i = ad2 at *
    generalize bt0 i = bs0 at *
    generalize bu1 i = be1 at *
    generalize bp2 i = bq2 at *
    generalize bn2 i = bm2 at *
    generalize bc2 i = bd2 at *
    have hA1 := (Below.refl wr.heap.size wr).alloc (Nat.le_refl _) (.cells #[.int .i64 as0,.bool ae1,.slice aq2 am2 ad2] 46)
    have hgb2 := Nat.lt_of_lt_of_le hgb HB.out.size
    have hga2 := Nat.lt_of_lt_of_le hga HB.out.size
    have hq1 : wr.heap.size ≠ ag := by omega
    have hq2 : wr.heap.size ≠ bg := by omega
    have u0 := (hA1.cell (p := ⟨bg,bo + i * 3,none⟩) hgb2).trans y0
    have u1 := (hA1.cell (p := ⟨bg,bo + i * 3 + 1,none⟩) hgb2).trans y1
    have u2 := (hA1.cell (p := ⟨bg,bo + i * 3 + 2,none⟩) hgb2).trans y2
    have HB2 := hid ((HB.out.alloc HB.out.size (.cells #[.int .i64 as0,.bool ae1,.slice aq2 am2 ad2] 46)).alloc (Nat.le_trans HB.out.size (by rw [size_al]; omega)) (.cells #[.int .i64 bs0,.bool be1,.slice bq2 bm2 bd2] 46))
    clear hA1 hga hgb hga2 hgb2
    cases q with
    | false =>
     have HE : Hid (r = false) := by
      rw [HR.out]
      refine Bool.eq_false_iff.2 fun h => ?_
      have := ((eqL_iff _ _ _).1 h).2 i hlt
      rw [← HQ.out] at this
      cases this
     go_wp2_with (go_at_fn k; (with_reducible refine (hPi _ HB2.out).out.mono ?_); rintro e w3 ⟨rfl,hb3⟩; have HB3 := hid (HB2.out.trans (hb3.mono HB2.out.size)); clear hb3)
     go_ret
     exact ⟨by rw [HE.out]; rfl,HB3.out⟩
    | true =>
     go_wp2_with (go_at_fn k; (with_reducible refine (hPi _ HB2.out).out.mono ?_); rintro e w3 ⟨rfl,hb3⟩; have HB3 := hid (HB2.out.trans (hb3.mono HB2.out.size)); clear hb3)
     go_roundw
     case rel =>
      refine ⟨i + 1,hlt,by go_num,fun j hj => ?_,HB3.out⟩
      by_cases hji : j = i
      ·rw [hji]; exact HQ.out.symm
      ·exact HI.out j (by omega)
     case measure => simp [intOf]; omega
   ·obtain rfl : i = an := by omega
    have HE : Hid (r = true) := by
     rw [HR.out]
     exact eqL_refl HI.out
    go_wp2
    go_ret
    exact ⟨by rw [HE.out]; rfl,HB.out⟩
 ·have hd : ((an : Int) != (bn : Int)) = true := by simp; omega
  have HE : Hid (r = false) := by
   rw [HR.out]
   exact Bool.eq_false_iff.2 fun h => hl ((eqL_iff _ _ _).1 h).1
  clear hl
  go_enter Tryz.func85,Tryz.ntmps85
  go_wp2
  go_ret
  exact ⟨by rw [HE.out]; rfl,Below.refl _ _⟩
set_option maxHeartbeats 4000000 in
theorem eqg_elem (k : Nat) (eg : ∀ args w,(callFunc k args).run Tryz.prog w = .ok (.enter k args) w) (P : Nat → Bool) (an ac ag ao bn bc bg bo : Nat) (ap bp : Option Addr) (at0 : Nat → Int) (at1 : Nat → Int) (at2 : Nat → Int) (ap3 : Nat → Option Addr) (an3 ac3 : Nat → Nat) (ap4 : Nat → Option Addr) (an4 ac4 : Nat → Nat) (bt0 : Nat → Int) (bt1 : Nat → Int) (bt2 : Nat → Int) (bp3 : Nat → Option Addr) (bn3 bc3 : Nat → Nat) (bp4 : Nat → Option Addr) (bn4 bc4 : Nat → Nat) (w : World)
  (han : an < 9223372036854775807) (hbn : bn < 9223372036854775807) (hag : an ≠ 0 → ap = some ⟨ag,ao,none⟩ ∧ ag < w.heap.size) (hbg : bn ≠ 0 → bp = some ⟨bg,bo,none⟩ ∧ bg < w.heap.size)
  (hax : ∀ i,i < an → w.cell? ⟨ag,ao + i * 5,none⟩ = some (.int .i64 (at0 i)) ∧ w.cell? ⟨ag,ao + i * 5 + 1,none⟩ = some (.int .i64 (at1 i)) ∧ w.cell? ⟨ag,ao + i * 5 + 2,none⟩ = some (.int .i64 (at2 i)) ∧ w.cell? ⟨ag,ao + i * 5 + 3,none⟩ = some (.slice (ap3 i) (an3 i) (ac3 i)) ∧ w.cell? ⟨ag,ao + i * 5 + 4,none⟩ = some (.slice (ap4 i) (an4 i) (ac4 i))) (hbx : ∀ i,i < bn → w.cell? ⟨bg,bo + i * 5,none⟩ = some (.int .i64 (bt0 i)) ∧ w.cell? ⟨bg,bo + i * 5 + 1,none⟩ = some (.int .i64 (bt1 i)) ∧ w.cell? ⟨bg,bo + i * 5 + 2,none⟩ = some (.int .i64 (bt2 i)) ∧ w.cell? ⟨bg,bo + i * 5 + 3,none⟩ = some (.slice (bp3 i) (bn3 i) (bc3 i)) ∧ w.cell? ⟨bg,bo + i * 5 + 4,none⟩ = some (.slice (bp4 i) (bn4 i) (bc4 i)))
  (hP : ∀ i,i < an → i < bn → ∀ W,Below w.heap.size w W → Calls Tryz.prog k #[.agg #[.int .i64 (at0 i),.int .i64 (at1 i),.int .i64 (at2 i),.slice (ap3 i) (an3 i) (ac3 i),.slice (ap4 i) (an4 i) (ac4 i)],.agg #[.int .i64 (bt0 i),.int .i64 (bt1 i),.int .i64 (bt2 i),.slice (bp3 i) (bn3 i) (bc3 i),.slice (bp4 i) (bn4 i) (bc4 i)]] W fun e w' => e = .returned (.bool (P i)) ∧ Below W.heap.size W w') :
  Calls Tryz.prog 88 #[.slice ap an ac,.slice bp bn bc,.func (.func k) #[] #[]] w fun e w' => e = .returned (.bool (eqL an bn P)) ∧ Below w.heap.size w w' := by
 have HP := hid hP
 have HAX := hid hax
 have HBX := hid hbx
 have HAG := hid hag
 have HBG := hid hbg
 have hn1 : (an : Int) < 9223372036854775807 := by omega
 have hn2 : (bn : Int) < 9223372036854775807 := by omega
 obtain ⟨r,hr⟩ : ∃ r,r = eqL an bn P := ⟨_,rfl⟩
 rw [← hr]
 have HR := hid hr
 clear hP hax hbx hag hbg hr han hbn
 by_cases hl : an = bn
 ·subst hl
  have hd : ((an : Int) != (an : Int)) = false := by simp
  go_enter Tryz.func88,Tryz.ntmps88
  go_wp2
  go_loopw [17] (fun vi wr => ∃ i : Nat,i ≤ an ∧ vi = .int .i64 i ∧ Hid (∀ j,j < i → P j = true) ∧ Hid (Below w.heap.size w wr)) (fun vi _ => an - (intOf vi).toNat)
  case atStart => exact ⟨0,Nat.zero_le _,rfl,fun j hj => absurd hj (Nat.not_lt_zero _),Below.refl _ _⟩
  case round =>
   obtain ⟨i,hi,rfl,HI,HB⟩ := hrel
   by_cases hlt : i < an
   ·obtain ⟨z0,z1,z2,z3,z4⟩ := HAX.out i hlt
    obtain ⟨v0,v1,v2,v3,v4⟩ := HBX.out i hlt
    obtain ⟨hpa,hga⟩ := HAG.out (by omega)
    obtain ⟨hpb,hgb⟩ := HBG.out (by omega)
    subst hpa hpb
    have hPi := fun W h => hid (HP.out i hlt hlt W h)
    have x0 := (HB.out.cell (p := ⟨ag,ao + i * 5,none⟩) hga).trans z0
    have y0 := (HB.out.cell (p := ⟨bg,bo + i * 5,none⟩) hgb).trans v0
    have x1 := (HB.out.cell (p := ⟨ag,ao + i * 5 + 1,none⟩) hga).trans z1
    have y1 := (HB.out.cell (p := ⟨bg,bo + i * 5 + 1,none⟩) hgb).trans v1
    have x2 := (HB.out.cell (p := ⟨ag,ao + i * 5 + 2,none⟩) hga).trans z2
    have y2 := (HB.out.cell (p := ⟨bg,bo + i * 5 + 2,none⟩) hgb).trans v2
    have x3 := (HB.out.cell (p := ⟨ag,ao + i * 5 + 3,none⟩) hga).trans z3
    have y3 := (HB.out.cell (p := ⟨bg,bo + i * 5 + 3,none⟩) hgb).trans v3
    have x4 := (HB.out.cell (p := ⟨ag,ao + i * 5 + 4,none⟩) hga).trans z4
    have y4 := (HB.out.cell (p := ⟨bg,bo + i * 5 + 4,none⟩) hgb).trans v4
    clear z0 v0 z1 v1 z2 v2 z3 v3 z4 v4
    obtain ⟨q,hq⟩ : ∃ q,q = P i := ⟨_,rfl⟩
    rw [← hq] at hPi
    have HQ := hid hq
    clear hq
    generalize at0 i = as0 at *
    generalize at1 i = as1 at *
    generalize at2 i = as2 at *
    generalize ap3 i = aq3 at *
    generalize an3 i = am3 at *
    generalize ac3 i = ad3 at *
    generalize ap4 i = aq4 at *
    generalize an4 i = am4 at *
    generalize ac4 i = ad4 at *
    generalize bt0 i = bs0 at *
    generalize bt1 i = bs1 at *
    generalize bt2 i = bs2 at *
    generalize bp3 i = bq3 at *
    generalize bn3 i = bm3 at *
    generalize bc3 i = bd3 at *
    generalize bp4 i = bq4 at *
    generalize bn4 i = bm4 at *
    generalize bc4 i = bd4 at *
    have hA1 := (Below.refl wr.heap.size wr).alloc (Nat.le_refl _) (.cells #[.int .i64 as0,.int .i64 as1,.int .i64 as2,.slice aq3 am3 ad3,.slice aq4 am4 ad4] 62)
    have hgb2 := Nat.lt_of_lt_of_le hgb HB.out.size
    have hga2 := Nat.lt_of_lt_of_le hga HB.out.size
    have hq1 : wr.heap.size ≠ ag := by omega
    have hq2 : wr.heap.size ≠ bg := by omega
    have u0 := (hA1.cell (p := ⟨bg,bo + i * 5,none⟩) hgb2).trans y0
    have u1 := (hA1.cell (p := ⟨bg,bo + i * 5 + 1,none⟩) hgb2).trans y1
    have u2 := (hA1.cell (p := ⟨bg,bo + i * 5 + 2,none⟩) hgb2).trans y2
    have u3 := (hA1.cell (p := ⟨bg,bo + i * 5 + 3,none⟩) hgb2).trans y3
    have u4 := (hA1.cell (p := ⟨bg,bo + i * 5 + 4,none⟩) hgb2).trans y4
    have HB2 := hid ((HB.out.alloc HB.out.size (.cells #[.int .i64 as0,.int .i64 as1,.int .i64 as2,.slice aq3 am3 ad3,.slice aq4 am4 ad4] 62)).alloc (Nat.le_trans HB.out.size (by rw [size_al]; omega)) (.cells #[.int .i64 bs0,.int .i64 bs1,.int .i64 bs2,.slice bq3 bm3 bd3,.slice bq4 bm4 bd4] 62))
    clear hA1 hga hgb hga2 hgb2
    cases q with
    | false =>
     have HE : Hid (r = false) := by
      rw [HR.out]
      refine Bool.eq_false_iff.2 fun h => ?_
      have := ((eqL_iff _ _ _).1 h).2 i hlt
      rw [← HQ.out] at this
      cases this
     go_wp2_with (go_at_fn k; (with_reducible refine (hPi _ HB2.out).out.mono ?_); rintro e w3 ⟨rfl,hb3⟩; have HB3 := hid (HB2.out.trans (hb3.mono HB2.out.size)); clear hb3)
     go_ret
     exact ⟨by rw [HE.out]; rfl,HB3.out⟩
    | true =>
     go_wp2_with (go_at_fn k; (with_reducible refine (hPi _ HB2.out).out.mono ?_); rintro e w3 ⟨rfl,hb3⟩; have HB3 := hid (HB2.out.trans (hb3.mono HB2.out.size)); clear hb3)
     go_roundw
     case rel =>
      refine ⟨i + 1,hlt,by go_num,fun j hj => ?_,HB3.out⟩
      by_cases hji : j = i
      ·rw [hji]; exact HQ.out.symm
      ·exact HI.out j (by omega)
     case measure => simp [intOf]; omega
   ·obtain rfl : i = an := by omega
    have HE : Hid (r = true) := by
     rw [HR.out]
     exact eqL_refl HI.out
    go_wp2
    go_ret
    exact ⟨by rw [HE.out]; rfl,HB.out⟩
 ·have hd : ((an : Int) != (bn : Int)) = true := by simp; omega
  have HE : Hid (r = false) := by
   rw [HR.out]
   exact Bool.eq_false_iff.2 fun h => hl ((eqL_iff _ _ _).1 h).1
  clear hl
  go_enter Tryz.func88,Tryz.ntmps88
  go_wp2
  go_ret
  exact ⟨by rw [HE.out]; rfl,Below.refl _ _⟩
set_option maxHeartbeats 4000000 in
theorem eqg_data (k : Nat) (eg : ∀ args w,(callFunc k args).run Tryz.prog w = .ok (.enter k args) w) (P : Nat → Bool) (an ac ag ao bn bc bg bo : Nat) (ap bp : Option Addr) (at0 : Nat → Int) (at1 : Nat → Int) (ap2 : Nat → Option Addr) (an2 ac2 : Nat → Nat) (ap3 : Nat → Option Addr) (an3 ac3 : Nat → Nat) (bt0 : Nat → Int) (bt1 : Nat → Int) (bp2 : Nat → Option Addr) (bn2 bc2 : Nat → Nat) (bp3 : Nat → Option Addr) (bn3 bc3 : Nat → Nat) (w : World)
  (han : an < 9223372036854775807) (hbn : bn < 9223372036854775807) (hag : an ≠ 0 → ap = some ⟨ag,ao,none⟩ ∧ ag < w.heap.size) (hbg : bn ≠ 0 → bp = some ⟨bg,bo,none⟩ ∧ bg < w.heap.size)
  (hax : ∀ i,i < an → w.cell? ⟨ag,ao + i * 4,none⟩ = some (.int .i64 (at0 i)) ∧ w.cell? ⟨ag,ao + i * 4 + 1,none⟩ = some (.int .i64 (at1 i)) ∧ w.cell? ⟨ag,ao + i * 4 + 2,none⟩ = some (.slice (ap2 i) (an2 i) (ac2 i)) ∧ w.cell? ⟨ag,ao + i * 4 + 3,none⟩ = some (.slice (ap3 i) (an3 i) (ac3 i))) (hbx : ∀ i,i < bn → w.cell? ⟨bg,bo + i * 4,none⟩ = some (.int .i64 (bt0 i)) ∧ w.cell? ⟨bg,bo + i * 4 + 1,none⟩ = some (.int .i64 (bt1 i)) ∧ w.cell? ⟨bg,bo + i * 4 + 2,none⟩ = some (.slice (bp2 i) (bn2 i) (bc2 i)) ∧ w.cell? ⟨bg,bo + i * 4 + 3,none⟩ = some (.slice (bp3 i) (bn3 i) (bc3 i)))
  (hP : ∀ i,i < an → i < bn → ∀ W,Below w.heap.size w W → Calls Tryz.prog k #[.agg #[.int .i64 (at0 i),.int .i64 (at1 i),.slice (ap2 i) (an2 i) (ac2 i),.slice (ap3 i) (an3 i) (ac3 i)],.agg #[.int .i64 (bt0 i),.int .i64 (bt1 i),.slice (bp2 i) (bn2 i) (bc2 i),.slice (bp3 i) (bn3 i) (bc3 i)]] W fun e w' => e = .returned (.bool (P i)) ∧ Below W.heap.size W w') :
  Calls Tryz.prog 90 #[.slice ap an ac,.slice bp bn bc,.func (.func k) #[] #[]] w fun e w' => e = .returned (.bool (eqL an bn P)) ∧ Below w.heap.size w w' := by
 have HP := hid hP
 have HAX := hid hax
 have HBX := hid hbx
 have HAG := hid hag
 have HBG := hid hbg
 have hn1 : (an : Int) < 9223372036854775807 := by omega
 have hn2 : (bn : Int) < 9223372036854775807 := by omega
 obtain ⟨r,hr⟩ : ∃ r,r = eqL an bn P := ⟨_,rfl⟩
 rw [← hr]
 have HR := hid hr
 clear hP hax hbx hag hbg hr han hbn
 by_cases hl : an = bn
 ·subst hl
  have hd : ((an : Int) != (an : Int)) = false := by simp
  go_enter Tryz.func90,Tryz.ntmps90
  go_wp2
  go_loopw [17] (fun vi wr => ∃ i : Nat,i ≤ an ∧ vi = .int .i64 i ∧ Hid (∀ j,j < i → P j = true) ∧ Hid (Below w.heap.size w wr)) (fun vi _ => an - (intOf vi).toNat)
  case atStart => exact ⟨0,Nat.zero_le _,rfl,fun j hj => absurd hj (Nat.not_lt_zero _),Below.refl _ _⟩
  case round =>
   obtain ⟨i,hi,rfl,HI,HB⟩ := hrel
   by_cases hlt : i < an
   ·obtain ⟨z0,z1,z2,z3⟩ := HAX.out i hlt
    obtain ⟨v0,v1,v2,v3⟩ := HBX.out i hlt
    obtain ⟨hpa,hga⟩ := HAG.out (by omega)
    obtain ⟨hpb,hgb⟩ := HBG.out (by omega)
    subst hpa hpb
    have hPi := fun W h => hid (HP.out i hlt hlt W h)
    have x0 := (HB.out.cell (p := ⟨ag,ao + i * 4,none⟩) hga).trans z0
    have y0 := (HB.out.cell (p := ⟨bg,bo + i * 4,none⟩) hgb).trans v0
    have x1 := (HB.out.cell (p := ⟨ag,ao + i * 4 + 1,none⟩) hga).trans z1
    have y1 := (HB.out.cell (p := ⟨bg,bo + i * 4 + 1,none⟩) hgb).trans v1
    have x2 := (HB.out.cell (p := ⟨ag,ao + i * 4 + 2,none⟩) hga).trans z2
    have y2 := (HB.out.cell (p := ⟨bg,bo + i * 4 + 2,none⟩) hgb).trans v2
    have x3 := (HB.out.cell (p := ⟨ag,ao + i * 4 + 3,none⟩) hga).trans z3
    have y3 := (HB.out.cell (p := ⟨bg,bo + i * 4 + 3,none⟩) hgb).trans v3
    clear z0 v0 z1 v1 z2 v2 z3 v3
    obtain ⟨q,hq⟩ : ∃ q,q = P i := ⟨_,rfl⟩
    rw [← hq] at hPi
    have HQ := hid hq
    clear hq
    generalize at0 i = as0 at *
    generalize at1 i = as1 at *
    generalize ap2 i = aq2 at *
    generalize an2 i = am2 at *
    generalize ac2 i = ad2 at *
    generalize ap3 i = aq3 at *
    generalize an3 i = am3 at *
    generalize ac3 i = ad3 at *
    generalize bt0 i = bs0 at *
    generalize bt1 i = bs1 at *
    generalize bp2 i = bq2 at *
    generalize bn2 i = bm2 at *
    generalize bc2 i = bd2 at *
    generalize bp3 i = bq3 at *
    generalize bn3 i = bm3 at *
    generalize bc3 i = bd3 at *
    have hA1 := (Below.refl wr.heap.size wr).alloc (Nat.le_refl _) (.cells #[.int .i64 as0,.int .i64 as1,.slice aq2 am2 ad2,.slice aq3 am3 ad3] 64)
    have hgb2 := Nat.lt_of_lt_of_le hgb HB.out.size
    have hga2 := Nat.lt_of_lt_of_le hga HB.out.size
    have hq1 : wr.heap.size ≠ ag := by omega
    have hq2 : wr.heap.size ≠ bg := by omega
    have u0 := (hA1.cell (p := ⟨bg,bo + i * 4,none⟩) hgb2).trans y0
    have u1 := (hA1.cell (p := ⟨bg,bo + i * 4 + 1,none⟩) hgb2).trans y1
    have u2 := (hA1.cell (p := ⟨bg,bo + i * 4 + 2,none⟩) hgb2).trans y2
    have u3 := (hA1.cell (p := ⟨bg,bo + i * 4 + 3,none⟩) hgb2).trans y3
    have HB2 := hid ((HB.out.alloc HB.out.size (.cells #[.int .i64 as0,.int .i64 as1,.slice aq2 am2 ad2,.slice aq3 am3 ad3] 64)).alloc (Nat.le_trans HB.out.size (by rw [size_al]; omega)) (.cells #[.int .i64 bs0,.int .i64 bs1,.slice bq2 bm2 bd2,.slice bq3 bm3 bd3] 64))
    clear hA1 hga hgb hga2 hgb2
    cases q with
    | false =>
     have HE : Hid (r = false) := by
      rw [HR.out]
      refine Bool.eq_false_iff.2 fun h => ?_
      have := ((eqL_iff _ _ _).1 h).2 i hlt
      rw [← HQ.out] at this
      cases this
     go_wp2_with (go_at_fn k; (with_reducible refine (hPi _ HB2.out).out.mono ?_); rintro e w3 ⟨rfl,hb3⟩; have HB3 := hid (HB2.out.trans (hb3.mono HB2.out.size)); clear hb3)
     go_ret
     exact ⟨by rw [HE.out]; rfl,HB3.out⟩
    | true =>
     go_wp2_with (go_at_fn k; (with_reducible refine (hPi _ HB2.out).out.mono ?_); rintro e w3 ⟨rfl,hb3⟩; have HB3 := hid (HB2.out.trans (hb3.mono HB2.out.size)); clear hb3)
     go_roundw
     case rel =>
      refine ⟨i + 1,hlt,by go_num,fun j hj => ?_,HB3.out⟩
      by_cases hji : j = i
      ·rw [hji]; exact HQ.out.symm
      ·exact HI.out j (by omega)
     case measure => simp [intOf]; omega
   ·obtain rfl : i = an := by omega
    have HE : Hid (r = true) := by
     rw [HR.out]
     exact eqL_refl HI.out
    go_wp2
    go_ret
    exact ⟨by rw [HE.out]; rfl,HB.out⟩
 ·have hd : ((an : Int) != (bn : Int)) = true := by simp; omega
  have HE : Hid (r = false) := by
   rw [HR.out]
   exact Bool.eq_false_iff.2 fun h => hl ((eqL_iff _ _ _).1 h).1
  clear hl
  go_enter Tryz.func90,Tryz.ntmps90
  go_wp2
  go_ret
  exact ⟨by rw [HE.out]; rfl,Below.refl _ _⟩
set_option maxHeartbeats 4000000 in
theorem eqg_cs (k : Nat) (eg : ∀ args w,(callFunc k args).run Tryz.prog w = .ok (.enter k args) w) (P : Nat → Bool) (an ac ag ao bn bc bg bo : Nat) (ap bp : Option Addr) (ap0 : Nat → Option Addr) (an0 ac0 : Nat → Nat) (bp0 : Nat → Option Addr) (bn0 bc0 : Nat → Nat) (w : World)
  (han : an < 9223372036854775807) (hbn : bn < 9223372036854775807) (hag : an ≠ 0 → ap = some ⟨ag,ao,none⟩ ∧ ag < w.heap.size) (hbg : bn ≠ 0 → bp = some ⟨bg,bo,none⟩ ∧ bg < w.heap.size)
  (hax : ∀ i,i < an → w.cell? ⟨ag,ao + i,none⟩ = some (.slice (ap0 i) (an0 i) (ac0 i))) (hbx : ∀ i,i < bn → w.cell? ⟨bg,bo + i,none⟩ = some (.slice (bp0 i) (bn0 i) (bc0 i)))
  (hP : ∀ i,i < an → i < bn → ∀ W,Below w.heap.size w W → Calls Tryz.prog k #[.slice (ap0 i) (an0 i) (ac0 i),.slice (bp0 i) (bn0 i) (bc0 i)] W fun e w' => e = .returned (.bool (P i)) ∧ Below W.heap.size W w') :
  Calls Tryz.prog 165 #[.slice ap an ac,.slice bp bn bc,.func (.func k) #[] #[]] w fun e w' => e = .returned (.bool (eqL an bn P)) ∧ Below w.heap.size w w' := by
 have HP := hid hP
 have HAX := hid hax
 have HBX := hid hbx
 have HAG := hid hag
 have HBG := hid hbg
 have hn1 : (an : Int) < 9223372036854775807 := by omega
 have hn2 : (bn : Int) < 9223372036854775807 := by omega
 obtain ⟨r,hr⟩ : ∃ r,r = eqL an bn P := ⟨_,rfl⟩
 rw [← hr]
 have HR := hid hr
 clear hP hax hbx hag hbg hr han hbn
 by_cases hl : an = bn
 ·subst hl
  have hd : ((an : Int) != (an : Int)) = false := by simp
  go_enter Tryz.func165,Tryz.ntmps165
  go_wp2
  go_loopw [17] (fun vi wr => ∃ i : Nat,i ≤ an ∧ vi = .int .i64 i ∧ Hid (∀ j,j < i → P j = true) ∧ Hid (Below w.heap.size w wr)) (fun vi _ => an - (intOf vi).toNat)
  case atStart => exact ⟨0,Nat.zero_le _,rfl,fun j hj => absurd hj (Nat.not_lt_zero _),Below.refl _ _⟩
  case round =>
   obtain ⟨i,hi,rfl,HI,HB⟩ := hrel
   by_cases hlt : i < an
   ·have z0 := HAX.out i hlt
    have v0 := HBX.out i hlt
    obtain ⟨hpa,hga⟩ := HAG.out (by omega)
    obtain ⟨hpb,hgb⟩ := HBG.out (by omega)
    subst hpa hpb
    have hPi := fun W h => hid (HP.out i hlt hlt W h)
    have x0 := (HB.out.cell (p := ⟨ag,ao + i,none⟩) hga).trans z0
    have y0 := (HB.out.cell (p := ⟨bg,bo + i,none⟩) hgb).trans v0
    clear z0 v0
    obtain ⟨q,hq⟩ : ∃ q,q = P i := ⟨_,rfl⟩
    rw [← hq] at hPi
    have HQ := hid hq
    clear hq
    generalize ap0 i = aq0 at *
    generalize an0 i = am0 at *
    generalize ac0 i = ad0 at *
    generalize bp0 i = bq0 at *
    generalize bn0 i = bm0 at *
    generalize bc0 i = bd0 at *
    have HB2 := HB
    clear hga hgb
    cases q with
    | false =>
     have HE : Hid (r = false) := by
      rw [HR.out]
      refine Bool.eq_false_iff.2 fun h => ?_
      have := ((eqL_iff _ _ _).1 h).2 i hlt
      rw [← HQ.out] at this
      cases this
     go_wp2_with (go_at_fn k; (with_reducible refine (hPi _ HB2.out).out.mono ?_); rintro e w3 ⟨rfl,hb3⟩; have HB3 := hid (HB2.out.trans (hb3.mono HB2.out.size)); clear hb3)
     go_ret
     exact ⟨by rw [HE.out]; rfl,HB3.out⟩
    | true =>
     go_wp2_with (go_at_fn k; (with_reducible refine (hPi _ HB2.out).out.mono ?_); rintro e w3 ⟨rfl,hb3⟩; have HB3 := hid (HB2.out.trans (hb3.mono HB2.out.size)); clear hb3)
     go_roundw
     case rel =>
      refine ⟨i + 1,hlt,by go_num,fun j hj => ?_,HB3.out⟩
      by_cases hji : j = i
      ·rw [hji]; exact HQ.out.symm
      ·exact HI.out j (by omega)
     case measure => simp [intOf]; omega
   ·obtain rfl : i = an := by omega
    have HE : Hid (r = true) := by
     rw [HR.out]
     exact eqL_refl HI.out
    go_wp2
    go_ret
    exact ⟨by rw [HE.out]; rfl,HB.out⟩
 ·have hd : ((an : Int) != (bn : Int)) = true := by simp; omega
  have HE : Hid (r = false) := by
   rw [HR.out]
   exact Bool.eq_false_iff.2 fun h => hl ((eqL_iff _ _ _).1 h).1
  clear hl
  go_enter Tryz.func165,Tryz.ntmps165
  go_wp2
  go_ret
  exact ⟨by rw [HE.out]; rfl,Below.refl _ _⟩
end Go.Proofs.YtjgeedgphcjhoaaGreat
