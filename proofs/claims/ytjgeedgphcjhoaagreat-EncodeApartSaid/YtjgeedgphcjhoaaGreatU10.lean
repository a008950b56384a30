/-
  GAll2, PSm, PElem, RImp0: merged, what the law does not reach left out (each text says what it holds where it lies in wip). No condition.
-/
import Derived.Test.YtjgeedgphcjhoaaGreatU03
import Derived.Test.YtjgeedgphcjhoaaGreatU06
import Derived.Test.YtjgeedgphcjhoaaGreatU09
import Derived.Deep.DeepCutAuto
import Derived.Test.YtjgeedgphcjhoaaGreatU01
set_option linter.unusedSimpArgs false
set_option linter.unusedVariables false
set_option maxRecDepth 100000
namespace Go.Proofs.YtjgeedgphcjhoaaGreat
open Go.RowKit
set_option maxHeartbeats 4000000 in
theorem all_tab (k : Nat) (eg : ∀ args w,(callFunc k args).run Tryz.prog w = .ok (.enter k args) w) (P : Nat → Bool) (n g o c : Nat) (t0 : Nat → Int) (t1 : Nat → Int) (t2 : Nat → Int) (u3 : Nat → Bool) (w : World) (hg : n ≠ 0 → g < w.heap.size) (hn : n < 9223372036854775807) (ad : Option Addr) (had : n ≠ 0 → ad = some ⟨g,o,none⟩)
  (hx : ∀ i,i < n → w.cell? ⟨g,o + i * 4,none⟩ = some (.int .i64 (t0 i)) ∧ w.cell? ⟨g,o + i * 4 + 1,none⟩ = some (.int .i64 (t1 i)) ∧ w.cell? ⟨g,o + i * 4 + 2,none⟩ = some (.int .i64 (t2 i)) ∧ w.cell? ⟨g,o + i * 4 + 3,none⟩ = some (.bool (u3 i))) (hP : ∀ i,i < n → ∀ W,Below w.heap.size w W → Calls Tryz.prog k #[.agg #[.int .i64 (t0 i),.int .i64 (t1 i),.int .i64 (t2 i),.bool (u3 i)]] W fun e w' => e = .returned (.bool (P i)) ∧ Below W.heap.size W w') :
  Calls Tryz.prog 36 #[.slice ad n c,.func (.func k) #[] #[]] w fun e w' => e = .returned (.bool ((List.range n).all P)) ∧ Below w.heap.size w w' := by
 have HP := hid hP
 have HXX := hid hx
 have HG := hid hg
 have HAD := hid had
 have hn' : (n : Int) < 9223372036854775807 := by omega
 obtain ⟨r,hr⟩ : ∃ r,r = (List.range n).all P := ⟨_,rfl⟩
 rw [← hr]
 have HR := hid hr
 clear hP hx hr hn hg had
 go_enter Tryz.func36,Tryz.ntmps36
 go_wp2
 go_loopw [9] (fun vi wr => ∃ i : Nat,i ≤ n ∧ vi = .int .i64 i ∧ Hid (∀ j,j < i → P j = true) ∧ Hid (Below w.heap.size w wr)) (fun vi _ => n - (intOf vi).toNat)
 case atStart => exact ⟨0,Nat.zero_le _,rfl,fun j hj => absurd hj (Nat.not_lt_zero _),Below.refl _ _⟩
 obtain ⟨i,hi,rfl,HI,HB⟩ := hrel
 by_cases hlt : i < n
 ·obtain ⟨z0_0,z0_1,z0_2,z0_3⟩ := HXX.out i hlt
  have hg := HG.out (by omega)
  obtain rfl := HAD.out (by omega)
  have hPi := fun W h => hid (HP.out i hlt W h)
  have x0 := (HB.out.cell (p := ⟨g,o + i * 4,none⟩) hg).trans z0_0
  have x1 := (HB.out.cell (p := ⟨g,o + i * 4 + 1,none⟩) hg).trans z0_1
  have x2 := (HB.out.cell (p := ⟨g,o + i * 4 + 2,none⟩) hg).trans z0_2
  have x3 := (HB.out.cell (p := ⟨g,o + i * 4 + 3,none⟩) hg).trans z0_3
  clear z0_0 z0_1 z0_2 z0_3 hg
  obtain ⟨b,hb⟩ : ∃ b,b = P i := ⟨_,rfl⟩
  rw [← hb] at hPi
  have HBP := hid hb
  clear hb
  generalize t0 i = s0 at *
  generalize t1 i = s1 at *
  generalize t2 i = s2 at *
  generalize u3 i = e3 at *
  have HB1 := hid (HB.out.alloc HB.out.size (.cells #[.int .i64 s0,.int .i64 s1,.int .i64 s2,.bool e3] 72))
  cases b with
  | false =>
   have HE : Hid (r = false) := by
    rw [HR.out]
    exact List.all_eq_false.2 ⟨i,List.mem_range.2 hlt,by rw [← HBP.out]; decide⟩
   go_wp2_with (go_at_fn k; (with_reducible refine (hPi _ HB1.out).out.mono ?_); rintro e w2 ⟨rfl,hb2⟩; have HB2 := hid (HB1.out.trans (hb2.mono HB1.out.size)); clear hb2)
   go_ret
   exact ⟨by rw [HE.out]; rfl,HB2.out⟩
  | true =>
   go_wp2_with (go_at_fn k; (with_reducible refine (hPi _ HB1.out).out.mono ?_); rintro e w2 ⟨rfl,hb2⟩; have HB2 := hid (HB1.out.trans (hb2.mono HB1.out.size)); clear hb2)
   go_roundw
   case rel =>
    refine ⟨i + 1,hlt,by go_num,fun j hj => ?_,HB2.out⟩
    by_cases hji : j = i
    ·rw [hji]; exact HBP.out.symm
    exact HI.out j (by omega)
   case measure => simp [intOf]; omega
 obtain rfl : i = n := by omega
 have HE : Hid (r = true) := by
  rw [HR.out]
  exact List.all_eq_true.2 fun j hj => HI.out j (List.mem_range.1 hj)
 go_wp2
 go_ret
 exact ⟨by rw [HE.out]; rfl,HB.out⟩
set_option maxHeartbeats 4000000 in
theorem all_lim (k : Nat) (eg : ∀ args w,(callFunc k args).run Tryz.prog w = .ok (.enter k args) w) (P : Nat → Bool) (n g o c : Nat) (t0 : Nat → Int) (t1 : Nat → Int) (u2 : Nat → Bool) (w : World) (hg : n ≠ 0 → g < w.heap.size) (hn : n < 9223372036854775807) (ad : Option Addr) (had : n ≠ 0 → ad = some ⟨g,o,none⟩)
  (hx : ∀ i,i < n → w.cell? ⟨g,o + i * 3,none⟩ = some (.int .i64 (t0 i)) ∧ w.cell? ⟨g,o + i * 3 + 1,none⟩ = some (.int .i64 (t1 i)) ∧ w.cell? ⟨g,o + i * 3 + 2,none⟩ = some (.bool (u2 i))) (hP : ∀ i,i < n → ∀ W,Below w.heap.size w W → Calls Tryz.prog k #[.agg #[.int .i64 (t0 i),.int .i64 (t1 i),.bool (u2 i)]] W fun e w' => e = .returned (.bool (P i)) ∧ Below W.heap.size W w') :
  Calls Tryz.prog 38 #[.slice ad n c,.func (.func k) #[] #[]] w fun e w' => e = .returned (.bool ((List.range n).all P)) ∧ Below w.heap.size w w' := by
 have HP := hid hP
 have HXX := hid hx
 have HG := hid hg
 have HAD := hid had
 have hn' : (n : Int) < 9223372036854775807 := by omega
 obtain ⟨r,hr⟩ : ∃ r,r = (List.range n).all P := ⟨_,rfl⟩
 rw [← hr]
 have HR := hid hr
 clear hP hx hr hn hg had
 go_enter Tryz.func38,Tryz.ntmps38
 go_wp2
 go_loopw [9] (fun vi wr => ∃ i : Nat,i ≤ n ∧ vi = .int .i64 i ∧ Hid (∀ j,j < i → P j = true) ∧ Hid (Below w.heap.size w wr)) (fun vi _ => n - (intOf vi).toNat)
 case atStart => exact ⟨0,Nat.zero_le _,rfl,fun j hj => absurd hj (Nat.not_lt_zero _),Below.refl _ _⟩
 obtain ⟨i,hi,rfl,HI,HB⟩ := hrel
 by_cases hlt : i < n
 ·obtain ⟨z0_0,z0_1,z0_2⟩ := HXX.out i hlt
  have hg := HG.out (by omega)
  obtain rfl := HAD.out (by omega)
  have hPi := fun W h => hid (HP.out i hlt W h)
  have x0 := (HB.out.cell (p := ⟨g,o + i * 3,none⟩) hg).trans z0_0
  have x1 := (HB.out.cell (p := ⟨g,o + i * 3 + 1,none⟩) hg).trans z0_1
  have x2 := (HB.out.cell (p := ⟨g,o + i * 3 + 2,none⟩) hg).trans z0_2
  clear z0_0 z0_1 z0_2 hg
  obtain ⟨b,hb⟩ : ∃ b,b = P i := ⟨_,rfl⟩
  rw [← hb] at hPi
  have HBP := hid hb
  clear hb
  generalize t0 i = s0 at *
  generalize t1 i = s1 at *
  generalize u2 i = e2 at *
  have HB1 := hid (HB.out.alloc HB.out.size (.cells #[.int .i64 s0,.int .i64 s1,.bool e2] 70))
  cases b with
  | false =>
   have HE : Hid (r = false) := by
    rw [HR.out]
    exact List.all_eq_false.2 ⟨i,List.mem_range.2 hlt,by rw [← HBP.out]; decide⟩
   go_wp2_with (go_at_fn k; (with_reducible refine (hPi _ HB1.out).out.mono ?_); rintro e w2 ⟨rfl,hb2⟩; have HB2 := hid (HB1.out.trans (hb2.mono HB1.out.size)); clear hb2)
   go_ret
   exact ⟨by rw [HE.out]; rfl,HB2.out⟩
  | true =>
   go_wp2_with (go_at_fn k; (with_reducible refine (hPi _ HB1.out).out.mono ?_); rintro e w2 ⟨rfl,hb2⟩; have HB2 := hid (HB1.out.trans (hb2.mono HB1.out.size)); clear hb2)
   go_roundw
   case rel =>
    refine ⟨i + 1,hlt,by go_num,fun j hj => ?_,HB2.out⟩
    by_cases hji : j = i
    ·rw [hji]; exact HBP.out.symm
    exact HI.out j (by omega)
   case measure => simp [intOf]; omega
 obtain rfl : i = n := by omega
 have HE : Hid (r = true) := by
  rw [HR.out]
  exact List.all_eq_true.2 fun j hj => HI.out j (List.mem_range.1 hj)
 go_wp2
 go_ret
 exact ⟨by rw [HE.out]; rfl,HB.out⟩
set_option maxHeartbeats 4000000 in
theorem all_elem (k : Nat) (eg : ∀ args w,(callFunc k args).run Tryz.prog w = .ok (.enter k args) w) (P : Nat → Bool) (n g o c : Nat) (t0 : Nat → Int) (t1 : Nat → Int) (t2 : Nat → Int) (p3 : Nat → Option Addr) (n3 c3 : Nat → Nat) (p4 : Nat → Option Addr) (n4 c4 : Nat → Nat) (w : World) (hg : n ≠ 0 → g < w.heap.size) (hn : n < 9223372036854775807) (ad : Option Addr) (had : n ≠ 0 → ad = some ⟨g,o,none⟩)
  (hx : ∀ i,i < n → w.cell? ⟨g,o + i * 5,none⟩ = some (.int .i64 (t0 i)) ∧ w.cell? ⟨g,o + i * 5 + 1,none⟩ = some (.int .i64 (t1 i)) ∧ w.cell? ⟨g,o + i * 5 + 2,none⟩ = some (.int .i64 (t2 i)) ∧ w.cell? ⟨g,o + i * 5 + 3,none⟩ = some (.slice (p3 i) (n3 i) (c3 i)) ∧ w.cell? ⟨g,o + i * 5 + 4,none⟩ = some (.slice (p4 i) (n4 i) (c4 i))) (hP : ∀ i,i < n → ∀ W,Below w.heap.size w W → Calls Tryz.prog k #[.agg #[.int .i64 (t0 i),.int .i64 (t1 i),.int .i64 (t2 i),.slice (p3 i) (n3 i) (c3 i),.slice (p4 i) (n4 i) (c4 i)]] W fun e w' => e = .returned (.bool (P i)) ∧ Below W.heap.size W w') :
  Calls Tryz.prog 45 #[.slice ad n c,.func (.func k) #[] #[]] w fun e w' => e = .returned (.bool ((List.range n).all P)) ∧ Below w.heap.size w w' := by
 have HP := hid hP
 have HXX := hid hx
 have HG := hid hg
 have HAD := hid had
 have hn' : (n : Int) < 9223372036854775807 := by omega
 obtain ⟨r,hr⟩ : ∃ r,r = (List.range n).all P := ⟨_,rfl⟩
 rw [← hr]
 have HR := hid hr
 clear hP hx hr hn hg had
 go_enter Tryz.func45,Tryz.ntmps45
 go_wp2
 go_loopw [9] (fun vi wr => ∃ i : Nat,i ≤ n ∧ vi = .int .i64 i ∧ Hid (∀ j,j < i → P j = true) ∧ Hid (Below w.heap.size w wr)) (fun vi _ => n - (intOf vi).toNat)
 case atStart => exact ⟨0,Nat.zero_le _,rfl,fun j hj => absurd hj (Nat.not_lt_zero _),Below.refl _ _⟩
 obtain ⟨i,hi,rfl,HI,HB⟩ := hrel
 by_cases hlt : i < n
 ·obtain ⟨z0_0,z0_1,z0_2,z0_3,z0_4⟩ := HXX.out i hlt
  have hg := HG.out (by omega)
  obtain rfl := HAD.out (by omega)
  have hPi := fun W h => hid (HP.out i hlt W h)
  have x0 := (HB.out.cell (p := ⟨g,o + i * 5,none⟩) hg).trans z0_0
  have x1 := (HB.out.cell (p := ⟨g,o + i * 5 + 1,none⟩) hg).trans z0_1
  have x2 := (HB.out.cell (p := ⟨g,o + i * 5 + 2,none⟩) hg).trans z0_2
  have x3 := (HB.out.cell (p := ⟨g,o + i * 5 + 3,none⟩) hg).trans z0_3
  have x4 := (HB.out.cell (p := ⟨g,o + i * 5 + 4,none⟩) hg).trans z0_4
  clear z0_0 z0_1 z0_2 z0_3 z0_4 hg
  obtain ⟨b,hb⟩ : ∃ b,b = P i := ⟨_,rfl⟩
  rw [← hb] at hPi
  have HBP := hid hb
  clear hb
  generalize t0 i = s0 at *
  generalize t1 i = s1 at *
  generalize t2 i = s2 at *
  generalize p3 i = q3 at *
  generalize n3 i = m3 at *
  generalize c3 i = d3 at *
  generalize p4 i = q4 at *
  generalize n4 i = m4 at *
  generalize c4 i = d4 at *
  have HB1 := hid (HB.out.alloc HB.out.size (.cells #[.int .i64 s0,.int .i64 s1,.int .i64 s2,.slice q3 m3 d3,.slice q4 m4 d4] 62))
  cases b with
  | false =>
   have HE : Hid (r = false) := by
    rw [HR.out]
    exact List.all_eq_false.2 ⟨i,List.mem_range.2 hlt,by rw [← HBP.out]; decide⟩
   go_wp2_with (go_at_fn k; (with_reducible refine (hPi _ HB1.out).out.mono ?_); rintro e w2 ⟨rfl,hb2⟩; have HB2 := hid (HB1.out.trans (hb2.mono HB1.out.size)); clear hb2)
   go_ret
   exact ⟨by rw [HE.out]; rfl,HB2.out⟩
  | true =>
   go_wp2_with (go_at_fn k; (with_reducible refine (hPi _ HB1.out).out.mono ?_); rintro e w2 ⟨rfl,hb2⟩; have HB2 := hid (HB1.out.trans (hb2.mono HB1.out.size)); clear hb2)
   go_roundw
   case rel =>
    refine ⟨i + 1,hlt,by go_num,fun j hj => ?_,HB2.out⟩
    by_cases hji : j = i
    ·rw [hji]; exact HBP.out.symm
    exact HI.out j (by omega)
   case measure => simp [intOf]; omega
 obtain rfl : i = n := by omega
 have HE : Hid (r = true) := by
  rw [HR.out]
  exact List.all_eq_true.2 fun j hj => HI.out j (List.mem_range.1 hj)
 go_wp2
 go_ret
 exact ⟨by rw [HE.out]; rfl,HB.out⟩
set_option maxHeartbeats 4000000 in
theorem all_data (k : Nat) (eg : ∀ args w,(callFunc k args).run Tryz.prog w = .ok (.enter k args) w) (P : Nat → Bool) (n g o c : Nat) (t0 : Nat → Int) (t1 : Nat → Int) (p2 : Nat → Option Addr) (n2 c2 : Nat → Nat) (p3 : Nat → Option Addr) (n3 c3 : Nat → Nat) (w : World) (hg : n ≠ 0 → g < w.heap.size) (hn : n < 9223372036854775807) (ad : Option Addr) (had : n ≠ 0 → ad = some ⟨g,o,none⟩)
  (hx : ∀ i,i < n → w.cell? ⟨g,o + i * 4,none⟩ = some (.int .i64 (t0 i)) ∧ w.cell? ⟨g,o + i * 4 + 1,none⟩ = some (.int .i64 (t1 i)) ∧ w.cell? ⟨g,o + i * 4 + 2,none⟩ = some (.slice (p2 i) (n2 i) (c2 i)) ∧ w.cell? ⟨g,o + i * 4 + 3,none⟩ = some (.slice (p3 i) (n3 i) (c3 i))) (hP : ∀ i,i < n → ∀ W,Below w.heap.size w W → Calls Tryz.prog k #[.agg #[.int .i64 (t0 i),.int .i64 (t1 i),.slice (p2 i) (n2 i) (c2 i),.slice (p3 i) (n3 i) (c3 i)]] W fun e w' => e = .returned (.bool (P i)) ∧ Below W.heap.size W w') :
  Calls Tryz.prog 47 #[.slice ad n c,.func (.func k) #[] #[]] w fun e w' => e = .returned (.bool ((List.range n).all P)) ∧ Below w.heap.size w w' := by
 have HP := hid hP
 have HXX := hid hx
 have HG := hid hg
 have HAD := hid had
 have hn' : (n : Int) < 9223372036854775807 := by omega
 obtain ⟨r,hr⟩ : ∃ r,r = (List.range n).all P := ⟨_,rfl⟩
 rw [← hr]
 have HR := hid hr
 clear hP hx hr hn hg had
 go_enter Tryz.func47,Tryz.ntmps47
 go_wp2
 go_loopw [9] (fun vi wr => ∃ i : Nat,i ≤ n ∧ vi = .int .i64 i ∧ Hid (∀ j,j < i → P j = true) ∧ Hid (Below w.heap.size w wr)) (fun vi _ => n - (intOf vi).toNat)
 case atStart => exact ⟨0,Nat.zero_le _,rfl,fun j hj => absurd hj (Nat.not_lt_zero _),Below.refl _ _⟩
 obtain ⟨i,hi,rfl,HI,HB⟩ := hrel
 by_cases hlt : i < n
 ·obtain ⟨z0_0,z0_1,z0_2,z0_3⟩ := HXX.out i hlt
  have hg := HG.out (by omega)
  obtain rfl := HAD.out (by omega)
  have hPi := fun W h => hid (HP.out i hlt W h)
  have x0 := (HB.out.cell (p := ⟨g,o + i * 4,none⟩) hg).trans z0_0
  have x1 := (HB.out.cell (p := ⟨g,o + i * 4 + 1,none⟩) hg).trans z0_1
  have x2 := (HB.out.cell (p := ⟨g,o + i * 4 + 2,none⟩) hg).trans z0_2
  have x3 := (HB.out.cell (p := ⟨g,o + i * 4 + 3,none⟩) hg).trans z0_3
  clear z0_0 z0_1 z0_2 z0_3 hg
  obtain ⟨b,hb⟩ : ∃ b,b = P i := ⟨_,rfl⟩
  rw [← hb] at hPi
  have HBP := hid hb
  clear hb
  generalize t0 i = s0 at *
  generalize t1 i = s1 at *
  generalize p2 i = q2 at *
  generalize n2 i = m2 at *
  generalize c2 i = d2 at *
  generalize p3 i = q3 at *
  generalize n3 i = m3 at *
  generalize c3 i = d3 at *
  have HB1 := hid (HB.out.alloc HB.out.size (.cells #[.int .i64 s0,.int .i64 s1,.slice q2 m2 d2,.slice q3 m3 d3] 64))
  cases b with
  | false =>
   have HE : Hid (r = false) := by
    rw [HR.out]
    exact List.all_eq_false.2 ⟨i,List.mem_range.2 hlt,by rw [← HBP.out]; decide⟩
   go_wp2_with (go_at_fn k; (with_reducible refine (hPi _ HB1.out).out.mono ?_); rintro e w2 ⟨rfl,hb2⟩; have HB2 := hid (HB1.out.trans (hb2.mono HB1.out.size)); clear hb2)
   go_ret
   exact ⟨by rw [HE.out]; rfl,HB2.out⟩
  | true =>
   go_wp2_with (go_at_fn k; (with_reducible refine (hPi _ HB1.out).out.mono ?_); rintro e w2 ⟨rfl,hb2⟩; have HB2 := hid (HB1.out.trans (hb2.mono HB1.out.size)); clear hb2)
   go_roundw
   case rel =>
    refine ⟨i + 1,hlt,by go_num,fun j hj => ?_,HB2.out⟩
    by_cases hji : j = i
    ·rw [hji]; exact HBP.out.symm
    exact HI.out j (by omega)
   case measure => simp [intOf]; omega
 obtain rfl : i = n := by omega
 have HE : Hid (r = true) := by
  rw [HR.out]
  exact List.all_eq_true.2 fun j hj => HI.out j (List.mem_range.1 hj)
 go_wp2
 go_ret
 exact ⟨by rw [HE.out]; rfl,HB.out⟩
end Go.Proofs.YtjgeedgphcjhoaaGreat
namespace Go.Proofs.YtjgeedgphcjhoaaGreat
open Go.RowKit
def limB (mn mx : Int) (has : Bool) : Bool := idxB mn && (if has = true then idxB mx else (mx == 0))
set_option maxHeartbeats 2000000 in
theorem isLimits_says (mn mx : Int) (has : Bool) (w : World) : Calls Tryz.prog 39 #[.agg #[.int .i64 mn,.int .i64 mx,.bool has]] w fun e w' => e = .returned (.bool (limB mn mx has)) ∧ Below w.heap.size w w' := by
 have H1 := fun W => hid (isIndex_says mn W)
 have H2 := fun W => hid (isIndex_says mx W)
 have HB := hid ((Below.refl w.heap.size w).alloc (Nat.le_refl _) (.cells #[.int .i64 mn,.int .i64 mx,.bool has] 70))
 have HX := hid (CA.new w #[.int .i64 mn,.int .i64 mx,.bool has] 70)
 have x0 := HX.out.at (k := 0) (v := .int .i64 mn) rfl
 have x1 := HX.out.at (k := 1) (v := .int .i64 mx) rfl
 have x2 := HX.out.at (k := 2) (v := .bool has) rfl
 unfold limB
 generalize idxB mn = a at *
 generalize idxB mx = b at *
 obtain ⟨z,hz⟩ : ∃ z,(mx == 0) = z := ⟨_,rfl⟩
 rw [hz]
 cases has with
 | true =>
  rw [if_pos rfl]
  clear hz
  cases a
  all_goals
   go_enter Tryz.func39,Tryz.ntmps39
   go_wp2_with (first
    | (go_at_call 145; (with_reducible refine (H1 _).out.mono ?_); rintro e w1 ⟨rfl,rfl⟩)
    | (go_at_call 145; (with_reducible refine (H2 _).out.mono ?_); rintro e w1 ⟨rfl,rfl⟩))
   go_ret
   exact ⟨by simp,HB.out⟩
 | false =>
  rw [if_neg (by decide)]
  cases a
  all_goals
   go_enter Tryz.func39,Tryz.ntmps39
   go_wp2_with (go_at_call 145; (with_reducible refine (H1 _).out.mono ?_); rintro e w1 ⟨rfl,rfl⟩)
   go_ret
   exact ⟨by simp,HB.out⟩
set_option maxHeartbeats 2000000 in
theorem isTableType_says (r mn mx : Int) (has : Bool) (w : World) : Calls Tryz.prog 37 #[.agg #[.int .i64 r,.int .i64 mn,.int .i64 mx,.bool has]] w fun e w' => e = .returned (.bool (refB r && limB mn mx has)) ∧ Below w.heap.size w w' := by
 have H1 := fun W => hid (isRef_says r W)
 have H2 := fun W => hid (isLimits_says mn mx has W)
 have HB := hid ((Below.refl w.heap.size w).alloc (Nat.le_refl _) (.cells #[.int .i64 r,.int .i64 mn,.int .i64 mx,.bool has] 72))
 have HX := hid (CA.new w #[.int .i64 r,.int .i64 mn,.int .i64 mx,.bool has] 72)
 have x0 := HX.out.at (k := 0) (v := .int .i64 r) rfl
 have x1 := HX.out.at (k := 1) (v := .int .i64 mn) rfl
 have x2 := HX.out.at (k := 2) (v := .int .i64 mx) rfl
 have x3 := HX.out.at (k := 3) (v := .bool has) rfl
 generalize refB r = a at *
 generalize limB mn mx has = b at *
 cases a with
 | false =>
  go_enter Tryz.func37,Tryz.ntmps37
  go_wp2_with (go_at_call 149; (with_reducible refine (H1 _).out.mono ?_); rintro e w1 ⟨rfl,rfl⟩)
  go_ret
  exact ⟨rfl,HB.out⟩
 | true =>
  go_enter Tryz.func37,Tryz.ntmps37
  go_wp2_with (first
   | (go_at_call 149; (with_reducible refine (H1 _).out.mono ?_); rintro e w1 ⟨rfl,rfl⟩)
   | (go_at_call 39; (with_reducible refine (H2 _).out.mono ?_); rintro e w2 ⟨rfl,hb⟩; have HB2 := hid (HB.out.trans (hb.mono HB.out.size)); clear hb))
  go_ret
  exact ⟨by simp,HB2.out⟩
def kindB (k : Int) : Bool := (k == 0) || (k == 1) || (k == 2) || (k == 3)
set_option maxHeartbeats 4000000 in
theorem isExport_says (s : ByteArray) (k ix : Int) (v : Bool) (w : World) (hv : ∀ W,Calls Tryz.prog 147 #[.string s] W fun e w' => e = .returned (.bool v) ∧ Below W.heap.size W w') :
  Calls Tryz.prog 43 #[.agg #[.string s,.int .i64 k,.int .i64 ix]] w fun e w' => e = .returned (.bool (kindB k && (idxB ix && v))) ∧ Below w.heap.size w w' := by
 have H1 := fun W => hid (isIndex_says ix W)
 have H2 := fun W => hid (hv W)
 have HB := hid ((Below.refl w.heap.size w).alloc (Nat.le_refl _) (.cells #[.string s,.int .i64 k,.int .i64 ix] 76))
 have HX := hid (CA.new w #[.string s,.int .i64 k,.int .i64 ix] 76)
 have x0 := HX.out.at (k := 0) (v := .string s) rfl
 have x1 := HX.out.at (k := 1) (v := .int .i64 k) rfl
 have x2 := HX.out.at (k := 2) (v := .int .i64 ix) rfl
 generalize idxB ix = a at *
 clear hv
 by_cases hk : k = 0 ∨ k = 1 ∨ k = 2 ∨ k = 3
 ·rcases hk with rfl | rfl | rfl | rfl
  all_goals
   rw [show ∀ x,(kindB _ && x) = x from fun x => by simp [kindB]]
   cases a
   all_goals
    go_enter Tryz.func43,Tryz.ntmps43
    go_wp2_with (first
     | (go_at_call 145; (with_reducible refine (H1 _).out.mono ?_); rintro e w1 ⟨rfl,rfl⟩)
     | (go_at_call 147; (with_reducible refine (H2 _).out.mono ?_); rintro e w2 ⟨rfl,hb⟩; have HB2 := hid (HB.out.trans (hb.mono HB.out.size)); clear hb))
    go_ret
    first | exact ⟨by simp,HB2.out⟩ | exact ⟨by simp,HB.out⟩
 have k0 : (k == 0) = false := by simp; omega
 have k1 : (k == 1) = false := by simp; omega
 have k2 : (k == 2) = false := by simp; omega
 have k3 : (k == 3) = false := by simp; omega
 rw [show kindB k = false by simp [kindB,k0,k1,k2,k3],Bool.false_and]
 clear hk
 go_enter Tryz.func43,Tryz.ntmps43
 go_wp2
 go_ret
 exact ⟨rfl,HB.out⟩
def placeB (mode of : Int) (off : Bool) (no : Nat) (top : Int) : Bool := if mode = 0 then idxB of && off else decide (0 < mode) && decide (mode ≤ top) && ((of == 0) && ((no : Int) == 0))
set_option maxHeartbeats 4000000 in
theorem isData_says (mode mem : Int) (po pb : Option Addr) (no co nb cb : Nat) (f : Fo) (hn0 : no = f.len) (B : Nat) (w : World) (hn : f.cnt < 9223372036854775806) (hB : B ≤ w.heap.size) (hs : SA B w (.slice po no co) f) :
  Calls Tryz.prog 48 #[.agg #[.int .i64 mode,.int .i64 mem,.slice po no co,.slice pb nb cb]] w fun e w' => e = .returned (.bool (placeB mode mem (codeB f) no 1)) ∧ Below w.heap.size w w' := by
 have H1 := fun W => hid (isIndex_says mem W)
 have HC := fun W (hW : Below w.heap.size w W) => hid (isCode_says f (.slice po no co) B W hn (Nat.le_trans hB hW.size) (SA.below hs (hW.mono hB)))
 have HB := hid ((Below.refl w.heap.size w).alloc (Nat.le_refl _) (.cells #[.int .i64 mode,.int .i64 mem,.slice po no co,.slice pb nb cb] 64))
 have HX := hid (CA.new w #[.int .i64 mode,.int .i64 mem,.slice po no co,.slice pb nb cb] 64)
 have x0 := HX.out.at (k := 0) (v := .int .i64 mode) rfl
 have x1 := HX.out.at (k := 1) (v := .int .i64 mem) rfl
 have x2 := HX.out.at (k := 2) (v := .slice po no co) rfl
 unfold placeB
 generalize idxB mem = a at *
 generalize codeB f = b at *
 clear hn0 hn hB hs
 by_cases m0 : mode = 0
 ·subst m0
  rw [if_pos rfl]
  cases a
  all_goals
   go_enter Tryz.func48,Tryz.ntmps48
   go_wp2_with (first
    | (go_at_call 145; (with_reducible refine (H1 _).out.mono ?_); rintro e w1 ⟨rfl,rfl⟩)
    | (go_at_call 148; (with_reducible refine (HC _ HB.out).out.mono ?_); rintro e w2 ⟨rfl,hb⟩; have HB2 := hid (HB.out.trans (hb.mono HB.out.size)); clear hb))
   go_ret
   first | exact ⟨by simp,HB2.out⟩ | exact ⟨by simp,HB.out⟩
 rw [if_neg m0]
 by_cases m1 : mode = 1
 ·subst m1
  rw [show (decide ((0 : Int) < 1) && decide ((1 : Int) ≤ 1)) = true from rfl,Bool.true_and]
  obtain ⟨c1,h1⟩ : ∃ c,(mem == 0) = c := ⟨_,rfl⟩
  obtain ⟨c2,h2⟩ : ∃ c,((no : Int) == 0) = c := ⟨_,rfl⟩
  rw [h1,h2]
  cases c1
  all_goals
   go_enter Tryz.func48,Tryz.ntmps48
   go_wp2
   go_ret
   exact ⟨by simp,HB.out⟩
 have k0 : (mode == 0) = false := by simpa using m0
 have k1 : (mode == 1) = false := by simpa using m1
 rw [show (decide (0 < mode) && decide (mode ≤ 1)) = false by simp; omega,Bool.false_and]
 clear m0 m1
 go_enter Tryz.func48,Tryz.ntmps48
 go_wp2
 go_ret
 exact ⟨rfl,HB.out⟩
end Go.Proofs.YtjgeedgphcjhoaaGreat
namespace Go.Proofs.YtjgeedgphcjhoaaGreat
open Go.RowKit
set_option maxHeartbeats 4000000 in
theorem all_il (k : Nat) (eg : ∀ args w,(callFunc k args).run Tryz.prog w = .ok (.enter k args) w) (P : Nat → Bool) (n g o c : Nat) (p0 : Nat → Option Addr) (n0 c0 : Nat → Nat) (w : World) (hg : n ≠ 0 → g < w.heap.size) (hn : n < 9223372036854775807) (ad : Option Addr) (had : n ≠ 0 → ad = some ⟨g,o,none⟩)
  (hx : ∀ i,i < n → w.cell? ⟨g,o + i,none⟩ = some (.slice (p0 i) (n0 i) (c0 i))) (hP : ∀ i,i < n → ∀ W,Below w.heap.size w W → Calls Tryz.prog k #[.slice (p0 i) (n0 i) (c0 i)] W fun e w' => e = .returned (.bool (P i)) ∧ Below W.heap.size W w') :
  Calls Tryz.prog 150 #[.slice ad n c,.func (.func k) #[] #[]] w fun e w' => e = .returned (.bool ((List.range n).all P)) ∧ Below w.heap.size w w' := by
 have HP := hid hP
 have HXX := hid hx
 have HG := hid hg
 have HAD := hid had
 have hn' : (n : Int) < 9223372036854775807 := by omega
 obtain ⟨r,hr⟩ : ∃ r,r = (List.range n).all P := ⟨_,rfl⟩
 rw [← hr]
 have HR := hid hr
 clear hP hx hr hn hg had
 go_enter Tryz.func150,Tryz.ntmps150
 go_wp2
 go_loopw [9] (fun vi wr => ∃ i : Nat,i ≤ n ∧ vi = .int .i64 i ∧ Hid (∀ j,j < i → P j = true) ∧ Hid (Below w.heap.size w wr)) (fun vi _ => n - (intOf vi).toNat)
 case atStart => exact ⟨0,Nat.zero_le _,rfl,fun j hj => absurd hj (Nat.not_lt_zero _),Below.refl _ _⟩
 obtain ⟨i,hi,rfl,HI,HB⟩ := hrel
 by_cases hlt : i < n
 ·have z0_0 := HXX.out i hlt
  have hg := HG.out (by omega)
  obtain rfl := HAD.out (by omega)
  have hPi := fun W h => hid (HP.out i hlt W h)
  have x0 := (HB.out.cell (p := ⟨g,o + i,none⟩) hg).trans z0_0
  clear z0_0 hg
  obtain ⟨b,hb⟩ : ∃ b,b = P i := ⟨_,rfl⟩
  rw [← hb] at hPi
  have HBP := hid hb
  clear hb
  generalize p0 i = q0 at *
  generalize n0 i = m0 at *
  generalize c0 i = d0 at *
  have HB1 := HB
  cases b with
  | false =>
   have HE : Hid (r = false) := by
    rw [HR.out]
    exact List.all_eq_false.2 ⟨i,List.mem_range.2 hlt,by rw [← HBP.out]; decide⟩
   go_wp2_with (go_at_fn k; (with_reducible refine (hPi _ HB1.out).out.mono ?_); rintro e w2 ⟨rfl,hb2⟩; have HB2 := hid (HB1.out.trans (hb2.mono HB1.out.size)); clear hb2)
   go_ret
   exact ⟨by rw [HE.out]; rfl,HB2.out⟩
  | true =>
   go_wp2_with (go_at_fn k; (with_reducible refine (hPi _ HB1.out).out.mono ?_); rintro e w2 ⟨rfl,hb2⟩; have HB2 := hid (HB1.out.trans (hb2.mono HB1.out.size)); clear hb2)
   go_roundw
   case rel =>
    refine ⟨i + 1,hlt,by go_num,fun j hj => ?_,HB2.out⟩
    by_cases hji : j = i
    ·rw [hji]; exact HBP.out.symm
    exact HI.out j (by omega)
   case measure => simp [intOf]; omega
 obtain rfl : i = n := by omega
 have HE : Hid (r = true) := by
  rw [HR.out]
  exact List.all_eq_true.2 fun j hj => HI.out j (List.mem_range.1 hj)
 go_wp2
 go_ret
 exact ⟨by rw [HE.out]; rfl,HB.out⟩
set_option maxHeartbeats 4000000 in
theorem isElem_says (r mode tab : Int) (po pi : Option Addr) (no co ni ci : Nat) (off ini : Bool) (w : World)
  (ho : ∀ W,Below w.heap.size w W → Calls Tryz.prog 148 #[.slice po no co] W fun e w' => e = .returned (.bool off) ∧ Below W.heap.size W w')
  (hi : ∀ W,Below w.heap.size w W → Calls Tryz.prog 150 #[.slice pi ni ci,.func (.func 148) #[] #[]] W fun e w' => e = .returned (.bool ini) ∧ Below W.heap.size W w') :
  Calls Tryz.prog 46 #[.agg #[.int .i64 r,.int .i64 mode,.int .i64 tab,.slice po no co,.slice pi ni ci]] w fun e w' => e = .returned (.bool (refB r && ini && placeB mode tab off no 2)) ∧ Below w.heap.size w w' := by
 have H1 := fun W => hid (isIndex_says tab W)
 have H2 := fun W => hid (isRef_says r W)
 have HO := fun W h => hid (ho W h)
 have HI := fun W h => hid (hi W h)
 have HB := hid ((Below.refl w.heap.size w).alloc (Nat.le_refl _) (.cells #[.int .i64 r,.int .i64 mode,.int .i64 tab,.slice po no co,.slice pi ni ci] 62))
 have HX := hid (CA.new w #[.int .i64 r,.int .i64 mode,.int .i64 tab,.slice po no co,.slice pi ni ci] 62)
 have x0 := HX.out.at (k := 0) (v := .int .i64 r) rfl
 have x4 := HX.out.at (k := 4) (v := .slice pi ni ci) rfl
 generalize refB r = q at *
 clear ho hi
 rcases (show q = false ∨ (q = true ∧ ini = false) ∨ (q = true ∧ ini = true) by cases q <;> cases ini <;> simp) with rfl | ⟨rfl,rfl⟩ | ⟨rfl,rfl⟩
 ·generalize placeB mode tab off no 2 = Z at *
  go_enter Tryz.func46,Tryz.ntmps46
  go_wp2_with (go_at_call 149; (with_reducible refine (H2 _).out.mono ?_); rintro e w1 ⟨rfl,rfl⟩)
  go_ret
  exact ⟨by simp,HB.out⟩
 ·generalize placeB mode tab off no 2 = Z at *
  go_enter Tryz.func46,Tryz.ntmps46
  go_wp2_with (first
   | (go_at_call 149; (with_reducible refine (H2 _).out.mono ?_); rintro e w1 ⟨rfl,rfl⟩)
   | (go_at_call 150; (with_reducible refine (HI _ HB.out).out.mono ?_); rintro e w2 ⟨rfl,hb⟩; have HB2 := hid (HB.out.trans (hb.mono HB.out.size)); clear hb))
  go_ret
  exact ⟨by simp,HB2.out⟩
 unfold placeB
 generalize idxB tab = a at *
 by_cases m0 : mode = 0
 ·subst m0
  rw [if_pos rfl]
  cases a
  all_goals
   go_enter Tryz.func46,Tryz.ntmps46
   go_wp2_with (first
    | (go_at_call 149; (with_reducible refine (H2 _).out.mono ?_); rintro e w1 ⟨rfl,rfl⟩)
    | (go_at_call 150; (with_reducible refine (HI _ HB.out).out.mono ?_); rintro e w2 ⟨rfl,hb⟩; have HB2 := hid (HB.out.trans (hb.mono HB.out.size)); have HX2 := hid (HX.out.below hb HX.out.lt); have y1 := HX2.out.at (k := 1) (v := .int .i64 0) rfl; have y2 := HX2.out.at (k := 2) (v := .int .i64 tab) rfl; have y3 := HX2.out.at (k := 3) (v := .slice po no co) rfl; clear hb)
    | (go_at_call 145; (with_reducible refine (H1 _).out.mono ?_); rintro e w1 ⟨rfl,rfl⟩)
    | (go_at_call 148; (with_reducible refine (HO _ HB2.out).out.mono ?_); rintro e w3 ⟨rfl,hb⟩; have HB3 := hid (HB2.out.trans (hb.mono HB2.out.size)); clear hb))
   go_ret
   first | exact ⟨by simp,HB3.out⟩ | exact ⟨by simp,HB2.out⟩
 rw [if_neg m0]
 by_cases m1 : mode = 1 ∨ mode = 2
 ·obtain ⟨c1,h1⟩ : ∃ c,(tab == 0) = c := ⟨_,rfl⟩
  obtain ⟨c2,h2⟩ : ∃ c,((no : Int) == 0) = c := ⟨_,rfl⟩
  rw [h1,h2]
  rcases m1 with rfl | rfl
  all_goals
   rw [show ∀ x,((decide ((0 : Int) < _) && decide (_ ≤ (2 : Int))) && x) = x from fun x => by simp]
   clear m0
   cases c1
   all_goals
    go_enter Tryz.func46,Tryz.ntmps46
    go_wp2_with (first
     | (go_at_call 149; (with_reducible refine (H2 _).out.mono ?_); rintro e w1 ⟨rfl,rfl⟩)
     | (go_at_call 150; (with_reducible refine (HI _ HB.out).out.mono ?_); rintro e w2 ⟨rfl,hb⟩; have HB2 := hid (HB.out.trans (hb.mono HB.out.size)); have HX2 := hid (HX.out.below hb HX.out.lt); have y1 := HX2.out.at (k := 1) rfl; have y2 := HX2.out.at (k := 2) (v := .int .i64 tab) rfl; have y3 := HX2.out.at (k := 3) (v := .slice po no co) rfl; clear hb))
    go_ret
    exact ⟨by simp,HB2.out⟩
 have k0 : (mode == 0) = false := by simpa using m0
 have k1 : (mode == 1) = false := by simp; omega
 have k2 : (mode == 2) = false := by simp; omega
 rw [show (decide (0 < mode) && decide (mode ≤ 2)) = false by simp; omega,Bool.false_and]
 clear m0 m1
 go_enter Tryz.func46,Tryz.ntmps46
 go_wp2_with (first
  | (go_at_call 149; (with_reducible refine (H2 _).out.mono ?_); rintro e w1 ⟨rfl,rfl⟩)
  | (go_at_call 150; (with_reducible refine (HI _ HB.out).out.mono ?_); rintro e w2 ⟨rfl,hb⟩; have HB2 := hid (HB.out.trans (hb.mono HB.out.size)); have HX2 := hid (HX.out.below hb HX.out.lt); have y1 := HX2.out.at (k := 1) (v := .int .i64 mode) rfl; clear hb))
 go_ret
 exact ⟨by simp,HB2.out⟩
end Go.Proofs.YtjgeedgphcjhoaaGreat
namespace Go.Proofs.YtjgeedgphcjhoaaGreat
open Go.RowKit
def zTB (r mn mx : Int) (h : Bool) : Bool := (r == 0) && (mn == 0) && (mx == 0) && !h
def zLB (mn mx : Int) (h : Bool) : Bool := (mn == 0) && (mx == 0) && !h
def zGB (t : Int) (m : Bool) : Bool := (t == 0) && !m
end Go.Proofs.YtjgeedgphcjhoaaGreat
