/-
  SClo, SIns: merged, what the law does not reach left out (each text says what it holds where it lies in wip). No condition.
-/
import Derived.Test.YtjgeedgphcjhoaaGreatT15
import Derived.Test.YtjgeedgphcjhoaaGreatT12
import Derived.Test.YtjgeedgphcjhoaaGreatT06
import Derived.Test.YtjgeedgphcjhoaaGreatT01
set_option linter.unusedSimpArgs false
set_option linter.unusedVariables false
set_option maxRecDepth 100000
namespace Go.Proofs.YtjgeedgphcjhoaaGreat
open Go.RowKit
set_option maxHeartbeats 8000000 in
theorem sameFuncType_says (ap0 : Option Addr) (an0 ac0 : Nat) (ap1 : Option Addr) (an1 ac1 : Nat) (bp0 : Option Addr) (bn0 bc0 : Nat) (bp1 : Option Addr) (bn1 bc1 : Nat) (r0 r1 : Bool) (w : World)
  (hc0 : ∀ W,Below w.heap.size w W → Calls Tryz.prog 163 #[.slice ap0 an0 ac0,.slice bp0 bn0 bc0] W fun e w' => e = .returned (.bool r0) ∧ Below W.heap.size W w')
  (hc1 : ∀ W,Below w.heap.size w W → Calls Tryz.prog 163 #[.slice ap1 an1 ac1,.slice bp1 bn1 bc1] W fun e w' => e = .returned (.bool r1) ∧ Below W.heap.size W w') :
  Calls Tryz.prog 79 #[.agg #[.slice ap0 an0 ac0,.slice ap1 an1 ac1],.agg #[.slice bp0 bn0 bc0,.slice bp1 bn1 bc1]] w fun e w' => e = .returned (.bool (r0 && r1)) ∧ Below w.heap.size w w' := by
 obtain ⟨R,hR⟩ : ∃ R,R = (r0 && r1) := ⟨_,rfl⟩
 rw [← hR]
 have HC0 := fun W h => hid (hc0 W h)
 have HC1 := fun W h => hid (hc1 W h)
 have HR := hid hR
 clear hR hc0 hc1
 have HB := hid (((Below.refl w.heap.size w).alloc (Nat.le_refl _) (.cells #[.slice ap0 an0 ac0,.slice ap1 an1 ac1] 67)).alloc (by rw [size_al]; omega) (.cells #[.slice bp0 bn0 bc0,.slice bp1 bn1 bc1] 67))
 have HX := hid (CA.alloc (CA.new w #[.slice ap0 an0 ac0,.slice ap1 an1 ac1] 67) (.cells #[.slice bp0 bn0 bc0,.slice bp1 bn1 bc1] 67))
 have HY := hid (CA.new (w.alloc (.cells #[.slice ap0 an0 ac0,.slice ap1 an1 ac1] 67)) #[.slice bp0 bn0 bc0,.slice bp1 bn1 bc1] 67)
 rw [size_al] at HY
 cases r0 with
 | false =>
  go_enter Tryz.func79,Tryz.ntmps79
  go_wp2_with (first
   | (go_at_call 163; (with_reducible refine (HC0 _ HB.out).out.mono ?_); rintro e w1 ⟨rfl,hb⟩; have HB0 := hid (HB.out.trans (hb.mono HB.out.size)); have HX0 := hid (HX.out.below hb HX.out.lt); have HY0 := hid (HY.out.below hb HY.out.lt); clear hb))
  go_ret
  exact ⟨by rw [HR.out]; rfl,HB0.out⟩
 | true =>
  cases r1 with
  | false =>
   go_enter Tryz.func79,Tryz.ntmps79
   go_wp2_with (first
    | (go_at_call 163; (with_reducible refine (HC0 _ HB.out).out.mono ?_); rintro e w1 ⟨rfl,hb⟩; have HB0 := hid (HB.out.trans (hb.mono HB.out.size)); have HX0 := hid (HX.out.below hb HX.out.lt); have HY0 := hid (HY.out.below hb HY.out.lt); have x0_1 := HX0.out.at (k := 1) (v := .slice ap1 an1 ac1) rfl; have y0_1 := HY0.out.at (k := 1) (v := .slice bp1 bn1 bc1) rfl; clear hb)
    | (go_at_call 163; (with_reducible refine (HC1 _ HB0.out).out.mono ?_); rintro e w2 ⟨rfl,hb⟩; have HB1 := hid (HB0.out.trans (hb.mono HB0.out.size)); have HX1 := hid (HX0.out.below hb HX0.out.lt); have HY1 := hid (HY0.out.below hb HY0.out.lt); clear hb))
   go_ret
   exact ⟨by rw [HR.out]; rfl,HB1.out⟩
  | true =>
   go_enter Tryz.func79,Tryz.ntmps79
   go_wp2_with (first
    | (go_at_call 163; (with_reducible refine (HC0 _ HB.out).out.mono ?_); rintro e w1 ⟨rfl,hb⟩; have HB0 := hid (HB.out.trans (hb.mono HB.out.size)); have HX0 := hid (HX.out.below hb HX.out.lt); have HY0 := hid (HY.out.below hb HY.out.lt); have x0_1 := HX0.out.at (k := 1) (v := .slice ap1 an1 ac1) rfl; have y0_1 := HY0.out.at (k := 1) (v := .slice bp1 bn1 bc1) rfl; clear hb)
    | (go_at_call 163; (with_reducible refine (HC1 _ HB0.out).out.mono ?_); rintro e w2 ⟨rfl,hb⟩; have HB1 := hid (HB0.out.trans (hb.mono HB0.out.size)); have HX1 := hid (HX0.out.below hb HX0.out.lt); have HY1 := hid (HY0.out.below hb HY0.out.lt); clear hb))
   go_ret
   exact ⟨by rw [HR.out]; rfl,HB1.out⟩
set_option maxHeartbeats 8000000 in
theorem sameFunc_says (at0 : Int) (ap1 : Option Addr) (an1 ac1 : Nat) (ap2 : Option Addr) (an2 ac2 : Nat) (bt0 : Int) (bp1 : Option Addr) (bn1 bc1 : Nat) (bp2 : Option Addr) (bn2 bc2 : Nat) (r1 r2 : Bool) (w : World)
  (hc1 : ∀ W,Below w.heap.size w W → Calls Tryz.prog 163 #[.slice ap1 an1 ac1,.slice bp1 bn1 bc1] W fun e w' => e = .returned (.bool r1) ∧ Below W.heap.size W w')
  (hc2 : ∀ W,Below w.heap.size w W → Calls Tryz.prog 164 #[.slice ap2 an2 ac2,.slice bp2 bn2 bc2] W fun e w' => e = .returned (.bool r2) ∧ Below W.heap.size W w') :
  Calls Tryz.prog 82 #[.agg #[.int .i64 at0,.slice ap1 an1 ac1,.slice ap2 an2 ac2],.agg #[.int .i64 bt0,.slice bp1 bn1 bc1,.slice bp2 bn2 bc2]] w fun e w' => e = .returned (.bool ((at0 == bt0) && (r1 && r2))) ∧ Below w.heap.size w w' := by
 obtain ⟨R,hR⟩ : ∃ R,R = ((at0 == bt0) && (r1 && r2)) := ⟨_,rfl⟩
 rw [← hR]
 obtain ⟨e0,d0⟩ : ∃ e,(at0 == bt0) = e := ⟨_,rfl⟩
 rw [d0] at hR
 have HC1 := fun W h => hid (hc1 W h)
 have HC2 := fun W h => hid (hc2 W h)
 have HR := hid hR
 clear hR hc1 hc2
 have HB := hid (((Below.refl w.heap.size w).alloc (Nat.le_refl _) (.cells #[.int .i64 at0,.slice ap1 an1 ac1,.slice ap2 an2 ac2] 42)).alloc (by rw [size_al]; omega) (.cells #[.int .i64 bt0,.slice bp1 bn1 bc1,.slice bp2 bn2 bc2] 42))
 have HX := hid (CA.alloc (CA.new w #[.int .i64 at0,.slice ap1 an1 ac1,.slice ap2 an2 ac2] 42) (.cells #[.int .i64 bt0,.slice bp1 bn1 bc1,.slice bp2 bn2 bc2] 42))
 have HY := hid (CA.new (w.alloc (.cells #[.int .i64 at0,.slice ap1 an1 ac1,.slice ap2 an2 ac2] 42)) #[.int .i64 bt0,.slice bp1 bn1 bc1,.slice bp2 bn2 bc2] 42)
 rw [size_al] at HY
 cases e0 with
 | false =>
  go_enter Tryz.func82,Tryz.ntmps82
  go_wp2
  go_ret
  exact ⟨by rw [HR.out]; rfl,HB.out⟩
 | true =>
  cases r1 with
  | false =>
   go_enter Tryz.func82,Tryz.ntmps82
   go_wp2_with (first
    | (go_at_call 163; (with_reducible refine (HC1 _ HB.out).out.mono ?_); rintro e w1 ⟨rfl,hb⟩; have HB0 := hid (HB.out.trans (hb.mono HB.out.size)); have HX0 := hid (HX.out.below hb HX.out.lt); have HY0 := hid (HY.out.below hb HY.out.lt); clear hb))
   go_ret
   exact ⟨by rw [HR.out]; rfl,HB0.out⟩
  | true =>
   cases r2 with
   | false =>
    go_enter Tryz.func82,Tryz.ntmps82
    go_wp2_with (first
     | (go_at_call 163; (with_reducible refine (HC1 _ HB.out).out.mono ?_); rintro e w1 ⟨rfl,hb⟩; have HB0 := hid (HB.out.trans (hb.mono HB.out.size)); have HX0 := hid (HX.out.below hb HX.out.lt); have HY0 := hid (HY.out.below hb HY.out.lt); have x0_2 := HX0.out.at (k := 2) (v := .slice ap2 an2 ac2) rfl; have y0_2 := HY0.out.at (k := 2) (v := .slice bp2 bn2 bc2) rfl; clear hb)
     | (go_at_call 164; (with_reducible refine (HC2 _ HB0.out).out.mono ?_); rintro e w2 ⟨rfl,hb⟩; have HB1 := hid (HB0.out.trans (hb.mono HB0.out.size)); have HX1 := hid (HX0.out.below hb HX0.out.lt); have HY1 := hid (HY0.out.below hb HY0.out.lt); clear hb))
    go_ret
    exact ⟨by rw [HR.out]; rfl,HB1.out⟩
   | true =>
    go_enter Tryz.func82,Tryz.ntmps82
    go_wp2_with (first
     | (go_at_call 163; (with_reducible refine (HC1 _ HB.out).out.mono ?_); rintro e w1 ⟨rfl,hb⟩; have HB0 := hid (HB.out.trans (hb.mono HB.out.size)); have HX0 := hid (HX.out.below hb HX.out.lt); have HY0 := hid (HY.out.below hb HY.out.lt); have x0_2 := HX0.out.at (k := 2) (v := .slice ap2 an2 ac2) rfl; have y0_2 := HY0.out.at (k := 2) (v := .slice bp2 bn2 bc2) rfl; clear hb)
     | (go_at_call 164; (with_reducible refine (HC2 _ HB0.out).out.mono ?_); rintro e w2 ⟨rfl,hb⟩; have HB1 := hid (HB0.out.trans (hb.mono HB0.out.size)); have HX1 := hid (HX0.out.below hb HX0.out.lt); have HY1 := hid (HY0.out.below hb HY0.out.lt); clear hb))
    go_ret
    exact ⟨by rw [HR.out]; rfl,HB1.out⟩
set_option maxHeartbeats 8000000 in
theorem sameGlobal_says (at0 : Int) (au1 : Bool) (ap2 : Option Addr) (an2 ac2 : Nat) (bt0 : Int) (bu1 : Bool) (bp2 : Option Addr) (bn2 bc2 : Nat) (r1 : Bool) (w : World)
  (hc1 : ∀ W,Below w.heap.size w W → Calls Tryz.prog 164 #[.slice ap2 an2 ac2,.slice bp2 bn2 bc2] W fun e w' => e = .returned (.bool r1) ∧ Below W.heap.size W w') :
  Calls Tryz.prog 86 #[.agg #[.int .i64 at0,.bool au1,.slice ap2 an2 ac2],.agg #[.int .i64 bt0,.bool bu1,.slice bp2 bn2 bc2]] w fun e w' => e = .returned (.bool (((at0 == bt0) && (au1 == bu1)) && r1)) ∧ Below w.heap.size w w' := by
 obtain ⟨R,hR⟩ : ∃ R,R = (((at0 == bt0) && (au1 == bu1)) && r1) := ⟨_,rfl⟩
 rw [← hR]
 obtain ⟨e0_0,d0_0⟩ : ∃ e,(at0 == bt0) = e := ⟨_,rfl⟩
 rw [d0_0] at hR
 obtain ⟨e0_1,d0_1⟩ : ∃ e,(au1 == bu1) = e := ⟨_,rfl⟩
 rw [d0_1] at hR
 have HC1 := fun W h => hid (hc1 W h)
 have HR := hid hR
 clear hR hc1
 have HB := hid (((Below.refl w.heap.size w).alloc (Nat.le_refl _) (.cells #[.int .i64 at0,.bool au1,.slice ap2 an2 ac2] 46)).alloc (by rw [size_al]; omega) (.cells #[.int .i64 bt0,.bool bu1,.slice bp2 bn2 bc2] 46))
 have HX := hid (CA.alloc (CA.new w #[.int .i64 at0,.bool au1,.slice ap2 an2 ac2] 46) (.cells #[.int .i64 bt0,.bool bu1,.slice bp2 bn2 bc2] 46))
 have HY := hid (CA.new (w.alloc (.cells #[.int .i64 at0,.bool au1,.slice ap2 an2 ac2] 46)) #[.int .i64 bt0,.bool bu1,.slice bp2 bn2 bc2] 46)
 rw [size_al] at HY
 cases e0_0 with
 | false =>
  go_enter Tryz.func86,Tryz.ntmps86
  go_wp2
  go_ret
  exact ⟨by rw [HR.out]; rfl,HB.out⟩
 | true =>
  cases e0_1 with
  | false =>
   go_enter Tryz.func86,Tryz.ntmps86
   go_wp2
   go_ret
   exact ⟨by rw [HR.out]; rfl,HB.out⟩
  | true =>
   cases r1 with
   | false =>
    go_enter Tryz.func86,Tryz.ntmps86
    go_wp2_with (first
     | (go_at_call 164; (with_reducible refine (HC1 _ HB.out).out.mono ?_); rintro e w1 ⟨rfl,hb⟩; have HB0 := hid (HB.out.trans (hb.mono HB.out.size)); have HX0 := hid (HX.out.below hb HX.out.lt); have HY0 := hid (HY.out.below hb HY.out.lt); clear hb))
    go_ret
    exact ⟨by rw [HR.out]; rfl,HB0.out⟩
   | true =>
    go_enter Tryz.func86,Tryz.ntmps86
    go_wp2_with (first
     | (go_at_call 164; (with_reducible refine (HC1 _ HB.out).out.mono ?_); rintro e w1 ⟨rfl,hb⟩; have HB0 := hid (HB.out.trans (hb.mono HB.out.size)); have HX0 := hid (HX.out.below hb HX.out.lt); have HY0 := hid (HY.out.below hb HY.out.lt); clear hb))
    go_ret
    exact ⟨by rw [HR.out]; rfl,HB0.out⟩
set_option maxHeartbeats 8000000 in
theorem sameElem_says (at0 : Int) (at1 : Int) (at2 : Int) (ap3 : Option Addr) (an3 ac3 : Nat) (ap4 : Option Addr) (an4 ac4 : Nat) (bt0 : Int) (bt1 : Int) (bt2 : Int) (bp3 : Option Addr) (bn3 bc3 : Nat) (bp4 : Option Addr) (bn4 bc4 : Nat) (r3 r4 : Bool) (w : World)
  (hc3 : ∀ W,Below w.heap.size w W → Calls Tryz.prog 164 #[.slice ap3 an3 ac3,.slice bp3 bn3 bc3] W fun e w' => e = .returned (.bool r3) ∧ Below W.heap.size W w')
  (hc4 : ∀ W,Below w.heap.size w W → Calls Tryz.prog 165 #[.slice ap4 an4 ac4,.slice bp4 bn4 bc4,.func (.func 164) #[] #[]] W fun e w' => e = .returned (.bool r4) ∧ Below W.heap.size W w') :
  Calls Tryz.prog 89 #[.agg #[.int .i64 at0,.int .i64 at1,.int .i64 at2,.slice ap3 an3 ac3,.slice ap4 an4 ac4],.agg #[.int .i64 bt0,.int .i64 bt1,.int .i64 bt2,.slice bp3 bn3 bc3,.slice bp4 bn4 bc4]] w fun e w' => e = .returned (.bool ((at0 == bt0) && ((at1 == bt1) && ((at2 == bt2) && (r3 && r4))))) ∧ Below w.heap.size w w' := by
 obtain ⟨R,hR⟩ : ∃ R,R = ((at0 == bt0) && ((at1 == bt1) && ((at2 == bt2) && (r3 && r4)))) := ⟨_,rfl⟩
 rw [← hR]
 obtain ⟨e0,d0⟩ : ∃ e,(at0 == bt0) = e := ⟨_,rfl⟩
 rw [d0] at hR
 obtain ⟨e1,d1⟩ : ∃ e,(at1 == bt1) = e := ⟨_,rfl⟩
 rw [d1] at hR
 obtain ⟨e2,d2⟩ : ∃ e,(at2 == bt2) = e := ⟨_,rfl⟩
 rw [d2] at hR
 have HC3 := fun W h => hid (hc3 W h)
 have HC4 := fun W h => hid (hc4 W h)
 have HR := hid hR
 clear hR hc3 hc4
 have HB := hid (((Below.refl w.heap.size w).alloc (Nat.le_refl _) (.cells #[.int .i64 at0,.int .i64 at1,.int .i64 at2,.slice ap3 an3 ac3,.slice ap4 an4 ac4] 62)).alloc (by rw [size_al]; omega) (.cells #[.int .i64 bt0,.int .i64 bt1,.int .i64 bt2,.slice bp3 bn3 bc3,.slice bp4 bn4 bc4] 62))
 have HX := hid (CA.alloc (CA.new w #[.int .i64 at0,.int .i64 at1,.int .i64 at2,.slice ap3 an3 ac3,.slice ap4 an4 ac4] 62) (.cells #[.int .i64 bt0,.int .i64 bt1,.int .i64 bt2,.slice bp3 bn3 bc3,.slice bp4 bn4 bc4] 62))
 have HY := hid (CA.new (w.alloc (.cells #[.int .i64 at0,.int .i64 at1,.int .i64 at2,.slice ap3 an3 ac3,.slice ap4 an4 ac4] 62)) #[.int .i64 bt0,.int .i64 bt1,.int .i64 bt2,.slice bp3 bn3 bc3,.slice bp4 bn4 bc4] 62)
 rw [size_al] at HY
 cases e0 with
 | false =>
  go_enter Tryz.func89,Tryz.ntmps89
  go_wp2
  go_ret
  exact ⟨by rw [HR.out]; rfl,HB.out⟩
 | true =>
  cases e1 with
  | false =>
   go_enter Tryz.func89,Tryz.ntmps89
   go_wp2
   go_ret
   exact ⟨by rw [HR.out]; rfl,HB.out⟩
  | true =>
   cases e2 with
   | false =>
    go_enter Tryz.func89,Tryz.ntmps89
    go_wp2
    go_ret
    exact ⟨by rw [HR.out]; rfl,HB.out⟩
   | true =>
    cases r3 with
    | false =>
     go_enter Tryz.func89,Tryz.ntmps89
     go_wp2_with (first
      | (go_at_call 164; (with_reducible refine (HC3 _ HB.out).out.mono ?_); rintro e w1 ⟨rfl,hb⟩; have HB0 := hid (HB.out.trans (hb.mono HB.out.size)); have HX0 := hid (HX.out.below hb HX.out.lt); have HY0 := hid (HY.out.below hb HY.out.lt); clear hb))
     go_ret
     exact ⟨by rw [HR.out]; rfl,HB0.out⟩
    | true =>
     cases r4 with
     | false =>
      go_enter Tryz.func89,Tryz.ntmps89
      go_wp2_with (first
       | (go_at_call 164; (with_reducible refine (HC3 _ HB.out).out.mono ?_); rintro e w1 ⟨rfl,hb⟩; have HB0 := hid (HB.out.trans (hb.mono HB.out.size)); have HX0 := hid (HX.out.below hb HX.out.lt); have HY0 := hid (HY.out.below hb HY.out.lt); have x0_4 := HX0.out.at (k := 4) (v := .slice ap4 an4 ac4) rfl; have y0_4 := HY0.out.at (k := 4) (v := .slice bp4 bn4 bc4) rfl; clear hb)
       | (go_at_call 165; (with_reducible refine (HC4 _ HB0.out).out.mono ?_); rintro e w2 ⟨rfl,hb⟩; have HB1 := hid (HB0.out.trans (hb.mono HB0.out.size)); have HX1 := hid (HX0.out.below hb HX0.out.lt); have HY1 := hid (HY0.out.below hb HY0.out.lt); clear hb))
      go_ret
      exact ⟨by rw [HR.out]; rfl,HB1.out⟩
     | true =>
      go_enter Tryz.func89,Tryz.ntmps89
      go_wp2_with (first
       | (go_at_call 164; (with_reducible refine (HC3 _ HB.out).out.mono ?_); rintro e w1 ⟨rfl,hb⟩; have HB0 := hid (HB.out.trans (hb.mono HB.out.size)); have HX0 := hid (HX.out.below hb HX.out.lt); have HY0 := hid (HY.out.below hb HY.out.lt); have x0_4 := HX0.out.at (k := 4) (v := .slice ap4 an4 ac4) rfl; have y0_4 := HY0.out.at (k := 4) (v := .slice bp4 bn4 bc4) rfl; clear hb)
       | (go_at_call 165; (with_reducible refine (HC4 _ HB0.out).out.mono ?_); rintro e w2 ⟨rfl,hb⟩; have HB1 := hid (HB0.out.trans (hb.mono HB0.out.size)); have HX1 := hid (HX0.out.below hb HX0.out.lt); have HY1 := hid (HY0.out.below hb HY0.out.lt); clear hb))
      go_ret
      exact ⟨by rw [HR.out]; rfl,HB1.out⟩
set_option maxHeartbeats 8000000 in
theorem sameData_says (at0 : Int) (at1 : Int) (ap2 : Option Addr) (an2 ac2 : Nat) (ap3 : Option Addr) (an3 ac3 : Nat) (bt0 : Int) (bt1 : Int) (bp2 : Option Addr) (bn2 bc2 : Nat) (bp3 : Option Addr) (bn3 bc3 : Nat) (r2 r3 : Bool) (w : World)
  (hc2 : ∀ W,Below w.heap.size w W → Calls Tryz.prog 164 #[.slice ap2 an2 ac2,.slice bp2 bn2 bc2] W fun e w' => e = .returned (.bool r2) ∧ Below W.heap.size W w')
  (hc3 : ∀ W,Below w.heap.size w W → Calls Tryz.prog 166 #[.slice ap3 an3 ac3,.slice bp3 bn3 bc3] W fun e w' => e = .returned (.bool r3) ∧ Below W.heap.size W w') :
  Calls Tryz.prog 91 #[.agg #[.int .i64 at0,.int .i64 at1,.slice ap2 an2 ac2,.slice ap3 an3 ac3],.agg #[.int .i64 bt0,.int .i64 bt1,.slice bp2 bn2 bc2,.slice bp3 bn3 bc3]] w fun e w' => e = .returned (.bool ((at0 == bt0) && ((at1 == bt1) && (r2 && r3)))) ∧ Below w.heap.size w w' := by
 obtain ⟨R,hR⟩ : ∃ R,R = ((at0 == bt0) && ((at1 == bt1) && (r2 && r3))) := ⟨_,rfl⟩
 rw [← hR]
 obtain ⟨e0,d0⟩ : ∃ e,(at0 == bt0) = e := ⟨_,rfl⟩
 rw [d0] at hR
 obtain ⟨e1,d1⟩ : ∃ e,(at1 == bt1) = e := ⟨_,rfl⟩
 rw [d1] at hR
 have HC2 := fun W h => hid (hc2 W h)
 have HC3 := fun W h => hid (hc3 W h)
 have HR := hid hR
 clear hR hc2 hc3
 have HB := hid (((Below.refl w.heap.size w).alloc (Nat.le_refl _) (.cells #[.int .i64 at0,.int .i64 at1,.slice ap2 an2 ac2,.slice ap3 an3 ac3] 64)).alloc (by rw [size_al]; omega) (.cells #[.int .i64 bt0,.int .i64 bt1,.slice bp2 bn2 bc2,.slice bp3 bn3 bc3] 64))
 have HX := hid (CA.alloc (CA.new w #[.int .i64 at0,.int .i64 at1,.slice ap2 an2 ac2,.slice ap3 an3 ac3] 64) (.cells #[.int .i64 bt0,.int .i64 bt1,.slice bp2 bn2 bc2,.slice bp3 bn3 bc3] 64))
 have HY := hid (CA.new (w.alloc (.cells #[.int .i64 at0,.int .i64 at1,.slice ap2 an2 ac2,.slice ap3 an3 ac3] 64)) #[.int .i64 bt0,.int .i64 bt1,.slice bp2 bn2 bc2,.slice bp3 bn3 bc3] 64)
 rw [size_al] at HY
 cases e0 with
 | false =>
  go_enter Tryz.func91,Tryz.ntmps91
  go_wp2
  go_ret
  exact ⟨by rw [HR.out]; rfl,HB.out⟩
 | true =>
  cases e1 with
  | false =>
   go_enter Tryz.func91,Tryz.ntmps91
   go_wp2
   go_ret
   exact ⟨by rw [HR.out]; rfl,HB.out⟩
  | true =>
   cases r2 with
   | false =>
    go_enter Tryz.func91,Tryz.ntmps91
    go_wp2_with (first
     | (go_at_call 164; (with_reducible refine (HC2 _ HB.out).out.mono ?_); rintro e w1 ⟨rfl,hb⟩; have HB0 := hid (HB.out.trans (hb.mono HB.out.size)); have HX0 := hid (HX.out.below hb HX.out.lt); have HY0 := hid (HY.out.below hb HY.out.lt); clear hb))
    go_ret
    exact ⟨by rw [HR.out]; rfl,HB0.out⟩
   | true =>
    cases r3 with
    | false =>
     go_enter Tryz.func91,Tryz.ntmps91
     go_wp2_with (first
      | (go_at_call 164; (with_reducible refine (HC2 _ HB.out).out.mono ?_); rintro e w1 ⟨rfl,hb⟩; have HB0 := hid (HB.out.trans (hb.mono HB.out.size)); have HX0 := hid (HX.out.below hb HX.out.lt); have HY0 := hid (HY.out.below hb HY.out.lt); have x0_3 := HX0.out.at (k := 3) (v := .slice ap3 an3 ac3) rfl; have y0_3 := HY0.out.at (k := 3) (v := .slice bp3 bn3 bc3) rfl; clear hb)
      | (go_at_call 166; (with_reducible refine (HC3 _ HB0.out).out.mono ?_); rintro e w2 ⟨rfl,hb⟩; have HB1 := hid (HB0.out.trans (hb.mono HB0.out.size)); have HX1 := hid (HX0.out.below hb HX0.out.lt); have HY1 := hid (HY0.out.below hb HY0.out.lt); clear hb))
     go_ret
     exact ⟨by rw [HR.out]; rfl,HB1.out⟩
    | true =>
     go_enter Tryz.func91,Tryz.ntmps91
     go_wp2_with (first
      | (go_at_call 164; (with_reducible refine (HC2 _ HB.out).out.mono ?_); rintro e w1 ⟨rfl,hb⟩; have HB0 := hid (HB.out.trans (hb.mono HB.out.size)); have HX0 := hid (HX.out.below hb HX.out.lt); have HY0 := hid (HY.out.below hb HY.out.lt); have x0_3 := HX0.out.at (k := 3) (v := .slice ap3 an3 ac3) rfl; have y0_3 := HY0.out.at (k := 3) (v := .slice bp3 bn3 bc3) rfl; clear hb)
      | (go_at_call 166; (with_reducible refine (HC3 _ HB0.out).out.mono ?_); rintro e w2 ⟨rfl,hb⟩; have HB1 := hid (HB0.out.trans (hb.mono HB0.out.size)); have HX1 := hid (HX0.out.below hb HX0.out.lt); have HY1 := hid (HY0.out.below hb HY0.out.lt); clear hb))
     go_ret
     exact ⟨by rw [HR.out]; rfl,HB1.out⟩
set_option maxHeartbeats 8000000 in
theorem sameInstr_says (at0 : Int) (at1 : Int) (at2 : Int) (ah3 : Nat) (ah4 : Nat) (ap5 : Option Addr) (an5 ac5 : Nat) (ap6 : Option Addr) (an6 ac6 : Nat) (ap7 : Option Addr) (an7 ac7 : Nat) (au8 : Bool) (bt0 : Int) (bt1 : Int) (bt2 : Int) (bh3 : Nat) (bh4 : Nat) (bp5 : Option Addr) (bn5 bc5 : Nat) (bp6 : Option Addr) (bn6 bc6 : Nat) (bp7 : Option Addr) (bn7 bc7 : Nat) (bu8 : Bool) (r6 r7 r8 : Bool) (w : World)
  (hc6 : ∀ W,Below w.heap.size w W → Calls Tryz.prog 163 #[.slice ap5 an5 ac5,.slice bp5 bn5 bc5] W fun e w' => e = .returned (.bool r6) ∧ Below W.heap.size W w')
  (hc7 : ∀ W,Below w.heap.size w W → Calls Tryz.prog 164 #[.slice ap6 an6 ac6,.slice bp6 bn6 bc6] W fun e w' => e = .returned (.bool r7) ∧ Below W.heap.size W w')
  (hc8 : ∀ W,Below w.heap.size w W → Calls Tryz.prog 164 #[.slice ap7 an7 ac7,.slice bp7 bn7 bc7] W fun e w' => e = .returned (.bool r8) ∧ Below W.heap.size W w') :
  Calls Tryz.prog 225 #[.agg #[.int .i64 at0,.int .i64 at1,.int .i64 at2,.int .u64 (ah3 : Nat),.int .u64 (ah4 : Nat),.slice ap5 an5 ac5,.slice ap6 an6 ac6,.slice ap7 an7 ac7,.bool au8],.agg #[.int .i64 bt0,.int .i64 bt1,.int .i64 bt2,.int .u64 (bh3 : Nat),.int .u64 (bh4 : Nat),.slice bp5 bn5 bc5,.slice bp6 bn6 bc6,.slice bp7 bn7 bc7,.bool bu8]] w fun e w' => e = .returned (.bool ((at0 == bt0) && ((at1 == bt1) && ((at2 == bt2) && (((ah3 : Int) == (bh3 : Int)) && (((ah4 : Int) == (bh4 : Int)) && ((au8 == bu8) && (r6 && (r7 && r8))))))))) ∧ Below w.heap.size w w' := by
 obtain ⟨R,hR⟩ : ∃ R,R = ((at0 == bt0) && ((at1 == bt1) && ((at2 == bt2) && (((ah3 : Int) == (bh3 : Int)) && (((ah4 : Int) == (bh4 : Int)) && ((au8 == bu8) && (r6 && (r7 && r8)))))))) := ⟨_,rfl⟩
 rw [← hR]
 obtain ⟨e0,d0⟩ : ∃ e,(at0 == bt0) = e := ⟨_,rfl⟩
 rw [d0] at hR
 obtain ⟨e1,d1⟩ : ∃ e,(at1 == bt1) = e := ⟨_,rfl⟩
 rw [d1] at hR
 obtain ⟨e2,d2⟩ : ∃ e,(at2 == bt2) = e := ⟨_,rfl⟩
 rw [d2] at hR
 obtain ⟨e3,d3⟩ : ∃ e,((ah3 : Int) == (bh3 : Int)) = e := ⟨_,rfl⟩
 rw [d3] at hR
 obtain ⟨e4,d4⟩ : ∃ e,((ah4 : Int) == (bh4 : Int)) = e := ⟨_,rfl⟩
 rw [d4] at hR
 obtain ⟨e5,d5⟩ : ∃ e,(au8 == bu8) = e := ⟨_,rfl⟩
 rw [d5] at hR
 have HC6 := fun W h => hid (hc6 W h)
 have HC7 := fun W h => hid (hc7 W h)
 have HC8 := fun W h => hid (hc8 W h)
 have HR := hid hR
 clear hR hc6 hc7 hc8
 have HB := hid (((Below.refl w.heap.size w).alloc (Nat.le_refl _) (.cells #[.int .i64 at0,.int .i64 at1,.int .i64 at2,.int .u64 (ah3 : Nat),.int .u64 (ah4 : Nat),.slice ap5 an5 ac5,.slice ap6 an6 ac6,.slice ap7 an7 ac7,.bool au8] 39)).alloc (by rw [size_al]; omega) (.cells #[.int .i64 bt0,.int .i64 bt1,.int .i64 bt2,.int .u64 (bh3 : Nat),.int .u64 (bh4 : Nat),.slice bp5 bn5 bc5,.slice bp6 bn6 bc6,.slice bp7 bn7 bc7,.bool bu8] 39))
 have HX := hid (CA.alloc (CA.new w #[.int .i64 at0,.int .i64 at1,.int .i64 at2,.int .u64 (ah3 : Nat),.int .u64 (ah4 : Nat),.slice ap5 an5 ac5,.slice ap6 an6 ac6,.slice ap7 an7 ac7,.bool au8] 39) (.cells #[.int .i64 bt0,.int .i64 bt1,.int .i64 bt2,.int .u64 (bh3 : Nat),.int .u64 (bh4 : Nat),.slice bp5 bn5 bc5,.slice bp6 bn6 bc6,.slice bp7 bn7 bc7,.bool bu8] 39))
 have HY := hid (CA.new (w.alloc (.cells #[.int .i64 at0,.int .i64 at1,.int .i64 at2,.int .u64 (ah3 : Nat),.int .u64 (ah4 : Nat),.slice ap5 an5 ac5,.slice ap6 an6 ac6,.slice ap7 an7 ac7,.bool au8] 39)) #[.int .i64 bt0,.int .i64 bt1,.int .i64 bt2,.int .u64 (bh3 : Nat),.int .u64 (bh4 : Nat),.slice bp5 bn5 bc5,.slice bp6 bn6 bc6,.slice bp7 bn7 bc7,.bool bu8] 39)
 rw [size_al] at HY
 cases e0 with
 | false =>
  go_enter Tryz.func225,Tryz.ntmps225
  go_wp2
  go_ret
  exact ⟨by rw [HR.out]; rfl,HB.out⟩
 | true =>
  cases e1 with
  | false =>
   go_enter Tryz.func225,Tryz.ntmps225
   go_wp2
   go_ret
   exact ⟨by rw [HR.out]; rfl,HB.out⟩
  | true =>
   cases e2 with
   | false =>
    go_enter Tryz.func225,Tryz.ntmps225
    go_wp2
    go_ret
    exact ⟨by rw [HR.out]; rfl,HB.out⟩
   | true =>
    cases e3 with
    | false =>
     go_enter Tryz.func225,Tryz.ntmps225
     go_wp2
     go_ret
     exact ⟨by rw [HR.out]; rfl,HB.out⟩
    | true =>
     cases e4 with
     | false =>
      go_enter Tryz.func225,Tryz.ntmps225
      go_wp2
      go_ret
      exact ⟨by rw [HR.out]; rfl,HB.out⟩
     | true =>
      cases e5 with
      | false =>
       go_enter Tryz.func225,Tryz.ntmps225
       go_wp2
       go_ret
       exact ⟨by rw [HR.out]; rfl,HB.out⟩
      | true =>
       cases r6 with
       | false =>
        go_enter Tryz.func225,Tryz.ntmps225
        go_wp2_with (first
         | (go_at_call 163; (with_reducible refine (HC6 _ HB.out).out.mono ?_); rintro e w1 ⟨rfl,hb⟩; have HB0 := hid (HB.out.trans (hb.mono HB.out.size)); have HX0 := hid (HX.out.below hb HX.out.lt); have HY0 := hid (HY.out.below hb HY.out.lt); clear hb))
        go_ret
        exact ⟨by rw [HR.out]; rfl,HB0.out⟩
       | true =>
        cases r7 with
        | false =>
         go_enter Tryz.func225,Tryz.ntmps225
         go_wp2_with (first
          | (go_at_call 163; (with_reducible refine (HC6 _ HB.out).out.mono ?_); rintro e w1 ⟨rfl,hb⟩; have HB0 := hid (HB.out.trans (hb.mono HB.out.size)); have HX0 := hid (HX.out.below hb HX.out.lt); have HY0 := hid (HY.out.below hb HY.out.lt); have x0_6 := HX0.out.at (k := 6) (v := .slice ap6 an6 ac6) rfl; have y0_6 := HY0.out.at (k := 6) (v := .slice bp6 bn6 bc6) rfl; clear hb)
          | (go_at_call 164; (with_reducible refine (HC7 _ HB0.out).out.mono ?_); rintro e w2 ⟨rfl,hb⟩; have HB1 := hid (HB0.out.trans (hb.mono HB0.out.size)); have HX1 := hid (HX0.out.below hb HX0.out.lt); have HY1 := hid (HY0.out.below hb HY0.out.lt); clear hb))
         go_ret
         exact ⟨by rw [HR.out]; rfl,HB1.out⟩
        | true =>
         cases r8 with
         | false =>
          go_enter Tryz.func225,Tryz.ntmps225
          go_wp2_with (first
           | (go_at_call 163; (with_reducible refine (HC6 _ HB.out).out.mono ?_); rintro e w1 ⟨rfl,hb⟩; have HB0 := hid (HB.out.trans (hb.mono HB.out.size)); have HX0 := hid (HX.out.below hb HX.out.lt); have HY0 := hid (HY.out.below hb HY.out.lt); have x0_6 := HX0.out.at (k := 6) (v := .slice ap6 an6 ac6) rfl; have y0_6 := HY0.out.at (k := 6) (v := .slice bp6 bn6 bc6) rfl; have x0_7 := HX0.out.at (k := 7) (v := .slice ap7 an7 ac7) rfl; have y0_7 := HY0.out.at (k := 7) (v := .slice bp7 bn7 bc7) rfl; clear hb)
           | (go_at_call 164; (with_reducible refine (HC7 _ HB0.out).out.mono ?_); rintro e w2 ⟨rfl,hb⟩; have HB1 := hid (HB0.out.trans (hb.mono HB0.out.size)); have HX1 := hid (HX0.out.below hb HX0.out.lt); have HY1 := hid (HY0.out.below hb HY0.out.lt); have x1_7 := HX1.out.at (k := 7) (v := .slice ap7 an7 ac7) rfl; have y1_7 := HY1.out.at (k := 7) (v := .slice bp7 bn7 bc7) rfl; clear hb)
           | (go_at_call 164; (with_reducible refine (HC8 _ HB1.out).out.mono ?_); rintro e w3 ⟨rfl,hb⟩; have HB2 := hid (HB1.out.trans (hb.mono HB1.out.size)); have HX2 := hid (HX1.out.below hb HX1.out.lt); have HY2 := hid (HY1.out.below hb HY1.out.lt); clear hb))
          go_ret
          exact ⟨by rw [HR.out]; rfl,HB2.out⟩
         | true =>
          go_enter Tryz.func225,Tryz.ntmps225
          go_wp2_with (first
           | (go_at_call 163; (with_reducible refine (HC6 _ HB.out).out.mono ?_); rintro e w1 ⟨rfl,hb⟩; have HB0 := hid (HB.out.trans (hb.mono HB.out.size)); have HX0 := hid (HX.out.below hb HX.out.lt); have HY0 := hid (HY.out.below hb HY.out.lt); have x0_6 := HX0.out.at (k := 6) (v := .slice ap6 an6 ac6) rfl; have y0_6 := HY0.out.at (k := 6) (v := .slice bp6 bn6 bc6) rfl; have x0_7 := HX0.out.at (k := 7) (v := .slice ap7 an7 ac7) rfl; have y0_7 := HY0.out.at (k := 7) (v := .slice bp7 bn7 bc7) rfl; clear hb)
           | (go_at_call 164; (with_reducible refine (HC7 _ HB0.out).out.mono ?_); rintro e w2 ⟨rfl,hb⟩; have HB1 := hid (HB0.out.trans (hb.mono HB0.out.size)); have HX1 := hid (HX0.out.below hb HX0.out.lt); have HY1 := hid (HY0.out.below hb HY0.out.lt); have x1_7 := HX1.out.at (k := 7) (v := .slice ap7 an7 ac7) rfl; have y1_7 := HY1.out.at (k := 7) (v := .slice bp7 bn7 bc7) rfl; clear hb)
           | (go_at_call 164; (with_reducible refine (HC8 _ HB1.out).out.mono ?_); rintro e w3 ⟨rfl,hb⟩; have HB2 := hid (HB1.out.trans (hb.mono HB1.out.size)); have HX2 := hid (HX1.out.below hb HX1.out.lt); have HY2 := hid (HY1.out.below hb HY1.out.lt); clear hb))
          go_ret
          exact ⟨by rw [HR.out]; rfl,HB2.out⟩
end Go.Proofs.YtjgeedgphcjhoaaGreat
namespace Go.Proofs.YtjgeedgphcjhoaaGreat
open Go.RowKit
theorem natb (n m : Nat) : ((n : Int) == (m : Int)) = (n == m) := by
 rw [Bool.eq_iff_iff,beq_iff_eq,beq_iff_eq]
 omega
theorem beq_cons (op a b : Int) (n h : Nat) (l : List Int) (ot : Bool) (body els rest : Fo) (op2 a2 b2 : Int) (n2 h2 : Nat) (l2 : List Int) (ot2 : Bool) (body2 els2 rest2 : Fo) :
  (Fo.cons op a b n h l ot body els rest).beq (.cons op2 a2 b2 n2 h2 l2 ot2 body2 els2 rest2) = (((op == op2) && ((a == a2) && ((b == b2) && (((n : Int) == (n2 : Int)) && (((h : Int) == (h2 : Int)) && ((ot == ot2) && ((l == l2) && ((body.beq body2) && (els.beq els2))))))))) && rest.beq rest2) := by
 simp only [Fo.beq,natb,Bool.and_assoc]
set_option maxHeartbeats 8000000 in
theorem eqIns_says (B : Nat) : ∀ (N : Nat) (f g : Fo),f.cnt < N → Lens f → f.len < 9223372036854775807 → Lens g → g.len < 9223372036854775807 → ∀ (v1 v2 : Value) (w : World),B ≤ w.heap.size → SA B w v1 f → SA B w v2 g →
  Calls Tryz.prog 224 #[v1,v2,.func (.func 225) #[] #[]] w fun e w' => e = .returned (.bool (f.beq g)) ∧ Below w.heap.size w w' := by
 intro N
 induction N with
 | zero => intro f g h; omega
 | succ N ih =>
  intro f g hf hLf hlf hLg hlg v1 v2 w hB hs1 hs2
  obtain ⟨p1,c1,ga,oa,rfl,hp1,hfa1⟩ := hs1
  obtain ⟨p2,c2,gb,ob,rfl,hp2,hfa2⟩ := hs2
  obtain ⟨R,hR⟩ : ∃ R,R = f.beq g := ⟨_,rfl⟩
  rw [← hR]
  obtain ⟨m,hm⟩ : ∃ m,m = f.len := ⟨_,rfl⟩
  obtain ⟨m2,hm2⟩ : ∃ m,m = g.len := ⟨_,rfl⟩
  rw [← hm] at hp1 hlf ⊢
  rw [← hm2] at hp2 hlg ⊢
  have eg : ∀ args w,(callFunc 225 args).run Tryz.prog w = .ok (.enter 225 args) w := fun _ _ => rfl
  by_cases hl : m = m2
  ·subst hl
   have hd : ((m : Int) != (m : Int)) = false := by simp
   have hn1 : (m : Int) < 9223372036854775807 := by omega
   have HIH := hid ih
   have HP1 := hid hp1
   have HP2 := hid hp2
   have HBW := hid hB
   have HS : Hid (0 + f.len = m ∧ 0 + g.len = m ∧ f.cnt < N + 1 ∧ FA B w f ga (oa + 0 * 9) ∧ FA B w g gb (ob + 0 * 9) ∧ R = f.beq g ∧ Lens f ∧ Lens g) := ⟨by omega,by omega,hf,by simpa using hfa1,by simpa using hfa2,hR,hLf,hLg⟩
   clear ih hp1 hp2 hR hm hm2 hfa1 hfa2 hf hLf hLg hlf hlg hB
   go_enter Tryz.func224,Tryz.ntmps224
   go_wp2
   go_loopw [17] (fun vi wr => ∃ (i : Nat) (fi gi : Fo),i ≤ m ∧ vi = .int .i64 i ∧ Hid (i + fi.len = m ∧ i + gi.len = m ∧ fi.cnt < N + 1 ∧ FA B wr fi ga (oa + i * 9) ∧ FA B wr gi gb (ob + i * 9) ∧ R = fi.beq gi ∧ Lens fi ∧ Lens gi) ∧ Hid (Below w.heap.size w wr)) (fun vi _ => m - (intOf vi).toNat)
   case atStart => exact ⟨0,f,g,Nat.zero_le _,rfl,HS,Below.refl _ _⟩
   case round =>
    obtain ⟨i,fi,gi,him,rfl,HI,HB⟩ := hrel
    cases fi with
    | nil =>
     have hi : i = m := HI.out.1
     subst hi
     have HE : Hid (R = true) := by
      have h1 := HI.out.2.1
      have h2 := HI.out.2.2.2.2.2.1
      cases gi with
      | nil => exact h2
      | cons _ _ _ _ _ _ _ _ _ _ => simp only [Fo.len] at h1; omega
     go_wp2
     go_ret
     exact ⟨by rw [HE.out]; rfl,HB.out⟩
    | cons op a b n h l ot body els rest =>
     cases gi with
     | nil => exact absurd (show False by have h1 := HI.out.1; have h2 := HI.out.2.1; simp only [Fo.len] at h1 h2; omega) id
     | cons op2 a2 b2 n2 h2 l2 ot2 body2 els2 rest2 =>
      obtain ⟨hga,⟨vl,vb,ve,x0,x1,x2,x3,x4,x5,x6,x7,x8,hl,hbo,hel⟩,hrest⟩ := HI.out.2.2.2.1
      obtain ⟨hgb,⟨ul,ub,ue,y0,y1,y2,y3,y4,y5,y6,y7,y8,kl,kbo,kel⟩,krest⟩ := HI.out.2.2.2.2.1
      have hlt : i < m := by have := HI.out.1; simp only [Fo.len] at this; omega
      obtain rfl := HP1.out (by omega)
      obtain rfl := HP2.out (by omega)
      obtain ⟨q1,q2,q3,q4,q5⟩ := HI.out.2.2.2.2.2.2.1
      obtain ⟨t1,t2,t3,t4,t5⟩ := HI.out.2.2.2.2.2.2.2
      have hcn := HI.out.2.2.1
      simp only [Fo.cnt] at hcn
      have hev := HI.out.2.2.2.2.2.1
      rw [beq_cons] at hev
      have hbo : SA B wr vb body := hbo
      have hel : SA B wr ve els := hel
      have kbo : SA B wr ub body2 := kbo
      have kel : SA B wr ue els2 := kel
      have hBr := Nat.le_trans HBW.out HB.out.size
      have KL := fun W (hW : Below wr.heap.size wr W) => eq_int l l2 vl ul B W (hl.below (hW.mono hBr)) (kl.below (hW.mono hBr)) (Nat.le_trans hBr hW.size)
      have KB := fun W (hW : Below wr.heap.size wr W) => sameCode_of vb ub (body.beq body2) W (HIH.out body body2 (by omega) q3 q1 t3 t1 vb ub W (Nat.le_trans hBr hW.size) (hbo.below (hW.mono hBr)) (kbo.below (hW.mono hBr)))
      have KE := fun W (hW : Below wr.heap.size wr W) => sameCode_of ve ue (els.beq els2) W (HIH.out els els2 (by omega) q4 q2 t4 t2 ve ue W (Nat.le_trans hBr hW.size) (hel.below (hW.mono hBr)) (kel.below (hW.mono hBr)))
      obtain ⟨pl,cl,rfl,_⟩ := id hl
      obtain ⟨pk,ck,rfl,_⟩ := id kl
      obtain ⟨pb,cb,_,_,rfl,_⟩ := id hbo
      obtain ⟨pc,cc,_,_,rfl,_⟩ := id kbo
      obtain ⟨pe,ce,_,_,rfl,_⟩ := id hel
      obtain ⟨pf,cf,_,_,rfl,_⟩ := id kel
      have hA1 := (Below.refl wr.heap.size wr).alloc (Nat.le_refl _) (.cells #[.int .i64 op,.int .i64 a,.int .i64 b,.int .u64 (n : Nat),.int .u64 (h : Nat),.slice pl l.length cl,.slice pb body.len cb,.slice pe els.len ce,.bool ot] 39)
      have hA2 := hA1.alloc (by rw [size_al]; omega) (.cells #[.int .i64 op2,.int .i64 a2,.int .i64 b2,.int .u64 (n2 : Nat),.int .u64 (h2 : Nat),.slice pk l2.length ck,.slice pc body2.len cc,.slice pf els2.len cf,.bool ot2] 39)
      have KI := hid (fun W (hW : Below wr.heap.size wr W) => sameInstr_says op a b n h pl l.length cl pb body.len cb pe els.len ce ot op2 a2 b2 n2 h2 pk l2.length ck pc body2.len cc pf els2.len cf ot2 _ _ _ W (fun W2 h2 => KL W2 (hW.trans (h2.mono hW.size))) (fun W2 h2 => KB W2 (hW.trans (h2.mono hW.size))) (fun W2 h2 => KE W2 (hW.trans (h2.mono hW.size))))
      have HLE := hid (show i + 1 + rest.len = m ∧ i + 1 + rest2.len = m ∧ rest.cnt < N + 1 by have h1 := HI.out.1; have h2 := HI.out.2.1; simp only [Fo.len] at h1 h2; omega)
      have HRS := hid (show FA B wr rest ga (oa + (i + 1) * 9) ∧ FA B wr rest2 gb (ob + (i + 1) * 9) by (have h9 : oa + (i + 1) * 9 = oa + i * 9 + 9 := by omega); (have h8 : ob + (i + 1) * 9 = ob + i * 9 + 9 := by omega); rw [h9,h8]; exact ⟨hrest,krest⟩)
      have HLR := hid (And.intro q5 t5)
      have hgb2 := Nat.lt_of_lt_of_le hgb hBr
      have hga2 := Nat.lt_of_lt_of_le hga hBr
      have hq1 : wr.heap.size ≠ ga := by omega
      have hq2 : wr.heap.size ≠ gb := by omega
      have HGG := hid (And.intro hga hgb)
      have HBR := hid hBr
      have HA2 := hid hA2
      obtain ⟨q,hq⟩ : ∃ q,q = ((op == op2) && ((a == a2) && ((b == b2) && (((n : Int) == (n2 : Int)) && (((h : Int) == (h2 : Int)) && ((ot == ot2) && ((l == l2) && ((body.beq body2) && (els.beq els2))))))))) := ⟨_,rfl⟩
      rw [← hq] at hev KI
      have HEV := hid hev
      have u0 := (hA1.cell (p := ⟨gb,ob + i * 9,none⟩) hgb2).trans y0
      have u1 := (hA1.cell (p := ⟨gb,ob + i * 9 + 1,none⟩) hgb2).trans y1
      have u2 := (hA1.cell (p := ⟨gb,ob + i * 9 + 2,none⟩) hgb2).trans y2
      have u3 := (hA1.cell (p := ⟨gb,ob + i * 9 + 3,none⟩) hgb2).trans y3
      have u4 := (hA1.cell (p := ⟨gb,ob + i * 9 + 4,none⟩) hgb2).trans y4
      have u5 := (hA1.cell (p := ⟨gb,ob + i * 9 + 5,none⟩) hgb2).trans y5
      have u6 := (hA1.cell (p := ⟨gb,ob + i * 9 + 6,none⟩) hgb2).trans y6
      have u7 := (hA1.cell (p := ⟨gb,ob + i * 9 + 7,none⟩) hgb2).trans y7
      have u8 := (hA1.cell (p := ⟨gb,ob + i * 9 + 8,none⟩) hgb2).trans y8
      clear hl hbo hel hrest kl kbo kel krest HI hga hgb hcn hev hq q1 q2 q3 q4 q5 t1 t2 t3 t4 t5 KL KB KE hBr hA1 hA2 hga2 hgb2 y0 y1 y2 y3 y4 y5 y6 y7 y8
      generalize l.length = ll at *
      generalize l2.length = ll2 at *
      generalize body.len = lb at *
      generalize body2.len = lb2 at *
      generalize els.len = le at *
      generalize els2.len = le2 at *
      cases q with
      | false =>
       have HE : Hid (R = false) := HEV.out
       go_wp2_with (go_at_fn 225; (with_reducible refine (KI.out _ HA2.out).mono ?_); rintro e w3 ⟨rfl,hb3⟩; have HB3 := hid (HB.out.trans ((HA2.out.trans (hb3.mono HA2.out.size)).mono HB.out.size)); clear hb3)
       go_ret
       exact ⟨by rw [HE.out]; rfl,HB3.out⟩
      | true =>
       go_wp2_with (go_at_fn 225; (with_reducible refine (KI.out _ HA2.out).mono ?_); rintro e w3 ⟨rfl,hb3⟩; have HB4 := hid (HA2.out.trans (hb3.mono HA2.out.size)); have HB3 := hid (HB.out.trans ((HA2.out.trans (hb3.mono HA2.out.size)).mono HB.out.size)); clear hb3)
       go_roundw
       case rel => exact ⟨i + 1,rest,rest2,hlt,by go_num,⟨HLE.out.1,HLE.out.2.1,HLE.out.2.2,FA.below (HB4.out.mono HBR.out) _ _ _ HRS.out.1,FA.below (HB4.out.mono HBR.out) _ _ _ HRS.out.2,by rw [HEV.out]; rfl,HLR.out.1,HLR.out.2⟩,HB3.out⟩
       case measure => simp [intOf]; omega
  ·have hd : ((m : Int) != (m2 : Int)) = true := by simp; omega
   have HE : Hid (R = false) := by
    rw [hR]
    refine Bool.eq_false_iff.2 fun h => hl ?_
    rw [hm,hm2]
    exact Fo.beq_len h
   clear hl hR ih hm hm2 hfa1 hfa2 hf hLf hLg hp1 hp2 hB
   go_enter Tryz.func224,Tryz.ntmps224
   go_wp2
   go_ret
   exact ⟨by rw [HE.out]; rfl,Below.refl _ _⟩
theorem sameCode_says (f g : Fo) (v1 v2 : Value) (B : Nat) (w : World) (hLf : Lens f) (hlf : f.len < 9223372036854775807) (hLg : Lens g) (hlg : g.len < 9223372036854775807) (hB : B ≤ w.heap.size) (h1 : SA B w v1 f) (h2 : SA B w v2 g) :
  Calls Tryz.prog 164 #[v1,v2] w fun e w' => e = .returned (.bool (f.beq g)) ∧ Below w.heap.size w w' :=
 sameCode_of v1 v2 (f.beq g) w (eqIns_says B (f.cnt + 1) f g (Nat.lt_succ_self _) hLf hlf hLg hlg v1 v2 w hB h1 h2)
end Go.Proofs.YtjgeedgphcjhoaaGreat
