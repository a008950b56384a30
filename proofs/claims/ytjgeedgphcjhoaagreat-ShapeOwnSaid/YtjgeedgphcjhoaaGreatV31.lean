/-
  CPm: what a copy is in memory, and what becomes of it (the text says what it holds where it lies in wip). No condition.
-/
import Derived.Test.YtjgeedgphcjhoaaGreatT24
import Derived.Test.YtjgeedgphcjhoaaGreatT08
import Derived.Test.YtjgeedgphcjhoaaGreatT14
import Derived.Test.YtjgeedgphcjhoaaGreatV25
set_option linter.unusedSimpArgs false
set_option linter.unusedVariables false
set_option maxRecDepth 100000
namespace Go.Proofs.YtjgeedgphcjhoaaGreat
open Go.RowKit
set_option maxHeartbeats 8000000 in
theorem cpModule (X0 : Nat → (Option Addr × Nat × Nat) → World → Prop) (hm0 : ∀ s s' q W,s' ≤ s → X0 s q W → X0 s' q W) (hu0 : ∀ s q W W',UP s W W' → X0 s q W → X0 s q W') (X1 : Nat → (Option Addr × Nat × Nat) → World → Prop) (hm1 : ∀ s s' q W,s' ≤ s → X1 s q W → X1 s' q W) (hu1 : ∀ s q W W',UP s W W' → X1 s q W → X1 s q W') (X2 : Nat → (Option Addr × Nat × Nat) → World → Prop) (hm2 : ∀ s s' q W,s' ≤ s → X2 s q W → X2 s' q W) (hu2 : ∀ s q W W',UP s W W' → X2 s q W → X2 s q W') (X3 : Nat → (Option Addr × Nat × Nat) → World → Prop) (hm3 : ∀ s s' q W,s' ≤ s → X3 s q W → X3 s' q W) (hu3 : ∀ s q W W',UP s W W' → X3 s q W → X3 s q W') (X4 : Nat → (Option Addr × Nat × Nat) → World → Prop) (hm4 : ∀ s s' q W,s' ≤ s → X4 s q W → X4 s' q W) (hu4 : ∀ s q W W',UP s W W' → X4 s q W → X4 s q W') (X5 : Nat → (Option Addr × Nat × Nat) → World → Prop) (hm5 : ∀ s s' q W,s' ≤ s → X5 s q W → X5 s' q W) (hu5 : ∀ s q W W',UP s W W' → X5 s q W → X5 s q W') (X6 : Nat → (Option Addr × Nat × Nat) → World → Prop) (hm6 : ∀ s s' q W,s' ≤ s → X6 s q W → X6 s' q W) (hu6 : ∀ s q W W',UP s W W' → X6 s q W → X6 s q W') (X8 : Nat → (Option Addr × Nat × Nat) → World → Prop) (hm8 : ∀ s s' q W,s' ≤ s → X8 s q W → X8 s' q W) (hu8 : ∀ s q W W',UP s W W' → X8 s q W → X8 s q W') (X9 : Nat → (Option Addr × Nat × Nat) → World → Prop) (hm9 : ∀ s s' q W,s' ≤ s → X9 s q W → X9 s' q W) (hu9 : ∀ s q W W',UP s W W' → X9 s q W → X9 s q W') (p0 : Option Addr) (n0 c0 : Nat) (p1 : Option Addr) (n1 c1 : Nat) (p2 : Option Addr) (n2 c2 : Nat) (p3 : Option Addr) (n3 c3 : Nat) (p4 : Option Addr) (n4 c4 : Nat) (p5 : Option Addr) (n5 c5 : Nat) (p6 : Option Addr) (n6 c6 : Nat) (t7 : Int) (p8 : Option Addr) (n8 c8 : Nat) (p9 : Option Addr) (n9 c9 : Nat) (o10 : Bool) (w : World)
  (hc0 : ∀ W,Below w.heap.size w W → Calls Tryz.prog 60 #[.slice p0 n0 c0,.func (.func 61) #[] #[]] W fun e w' => ∃ q,e = .returned (.slice q.1 q.2.1 q.2.2) ∧ X0 W.heap.size q w' ∧ Below W.heap.size W w')
  (hc1 : ∀ W,Below w.heap.size w W → Calls Tryz.prog 62 #[.slice p1 n1 c1,.func (.func 63) #[] #[]] W fun e w' => ∃ q,e = .returned (.slice q.1 q.2.1 q.2.2) ∧ X1 W.heap.size q w' ∧ Below W.heap.size W w')
  (hc2 : ∀ W,Below w.heap.size w W → Calls Tryz.prog 64 #[.slice p2 n2 c2,.func (.func 65) #[] #[]] W fun e w' => ∃ q,e = .returned (.slice q.1 q.2.1 q.2.2) ∧ X2 W.heap.size q w' ∧ Below W.heap.size W w')
  (hc3 : ∀ W,Below w.heap.size w W → Calls Tryz.prog 66 #[.slice p3 n3 c3,.func (.func 67) #[] #[]] W fun e w' => ∃ q,e = .returned (.slice q.1 q.2.1 q.2.2) ∧ X3 W.heap.size q w' ∧ Below W.heap.size W w')
  (hc4 : ∀ W,Below w.heap.size w W → Calls Tryz.prog 68 #[.slice p4 n4 c4,.func (.func 69) #[] #[]] W fun e w' => ∃ q,e = .returned (.slice q.1 q.2.1 q.2.2) ∧ X4 W.heap.size q w' ∧ Below W.heap.size W w')
  (hc5 : ∀ W,Below w.heap.size w W → Calls Tryz.prog 70 #[.slice p5 n5 c5,.func (.func 71) #[] #[]] W fun e w' => ∃ q,e = .returned (.slice q.1 q.2.1 q.2.2) ∧ X5 W.heap.size q w' ∧ Below W.heap.size W w')
  (hc6 : ∀ W,Below w.heap.size w W → Calls Tryz.prog 72 #[.slice p6 n6 c6,.func (.func 73) #[] #[]] W fun e w' => ∃ q,e = .returned (.slice q.1 q.2.1 q.2.2) ∧ X6 W.heap.size q w' ∧ Below W.heap.size W w')
  (hc8 : ∀ W,Below w.heap.size w W → Calls Tryz.prog 74 #[.slice p8 n8 c8,.func (.func 75) #[] #[]] W fun e w' => ∃ q,e = .returned (.slice q.1 q.2.1 q.2.2) ∧ X8 W.heap.size q w' ∧ Below W.heap.size W w')
  (hc9 : ∀ W,Below w.heap.size w W → Calls Tryz.prog 76 #[.slice p9 n9 c9,.func (.func 77) #[] #[]] W fun e w' => ∃ q,e = .returned (.slice q.1 q.2.1 q.2.2) ∧ X9 W.heap.size q w' ∧ Below W.heap.size W w') :
  Calls Tryz.prog 18 #[.agg #[.slice p0 n0 c0,.slice p1 n1 c1,.slice p2 n2 c2,.slice p3 n3 c3,.slice p4 n4 c4,.slice p5 n5 c5,.slice p6 n6 c6,.int .i64 t7,.slice p8 n8 c8,.slice p9 n9 c9,.bool o10]] w fun e w' => ∃ q0 q1 q2 q3 q4 q5 q6 q8 q9 : Option Addr × Nat × Nat,e = .returned (.agg #[.slice q0.1 q0.2.1 q0.2.2,.slice q1.1 q1.2.1 q1.2.2,.slice q2.1 q2.2.1 q2.2.2,.slice q3.1 q3.2.1 q3.2.2,.slice q4.1 q4.2.1 q4.2.2,.slice q5.1 q5.2.1 q5.2.2,.slice q6.1 q6.2.1 q6.2.2,.int .i64 t7,.slice q8.1 q8.2.1 q8.2.2,.slice q9.1 q9.2.1 q9.2.2,.bool o10]) ∧ X0 w.heap.size q0 w' ∧ X1 w.heap.size q1 w' ∧ X2 w.heap.size q2 w' ∧ X3 w.heap.size q3 w' ∧ X4 w.heap.size q4 w' ∧ X5 w.heap.size q5 w' ∧ X6 w.heap.size q6 w' ∧ X8 w.heap.size q8 w' ∧ X9 w.heap.size q9 w' ∧ Below w.heap.size w w' := by
 have HC0 := fun W h => hid (hc0 W h)
 have HM0 := hid hm0
 have HU0 := hid hu0
 have HC1 := fun W h => hid (hc1 W h)
 have HM1 := hid hm1
 have HU1 := hid hu1
 have HC2 := fun W h => hid (hc2 W h)
 have HM2 := hid hm2
 have HU2 := hid hu2
 have HC3 := fun W h => hid (hc3 W h)
 have HM3 := hid hm3
 have HU3 := hid hu3
 have HC4 := fun W h => hid (hc4 W h)
 have HM4 := hid hm4
 have HU4 := hid hu4
 have HC5 := fun W h => hid (hc5 W h)
 have HM5 := hid hm5
 have HU5 := hid hu5
 have HC6 := fun W h => hid (hc6 W h)
 have HM6 := hid hm6
 have HU6 := hid hu6
 have HC8 := fun W h => hid (hc8 W h)
 have HM8 := hid hm8
 have HU8 := hid hu8
 have HC9 := fun W h => hid (hc9 W h)
 have HM9 := hid hm9
 have HU9 := hid hu9
 clear hc0 hm0 hu0 hc1 hm1 hu1 hc2 hm2 hu2 hc3 hm3 hu3 hc4 hm4 hu4 hc5 hm5 hu5 hc6 hm6 hu6 hc8 hm8 hu8 hc9 hm9 hu9
 have HX := hid ((CA.new w #[.slice p0 n0 c0,.slice p1 n1 c1,.slice p2 n2 c2,.slice p3 n3 c3,.slice p4 n4 c4,.slice p5 n5 c5,.slice p6 n6 c6,.int .i64 t7,.slice p8 n8 c8,.slice p9 n9 c9,.bool o10] 32).alloc (.cells #[.slice none 0 0,.slice none 0 0,.slice none 0 0,.slice none 0 0,.slice none 0 0,.slice none 0 0,.slice none 0 0,.int .i64 0,.slice none 0 0,.slice none 0 0,.bool false] 32))
 have HZ := hid (CA.new (w.alloc (.cells #[.slice p0 n0 c0,.slice p1 n1 c1,.slice p2 n2 c2,.slice p3 n3 c3,.slice p4 n4 c4,.slice p5 n5 c5,.slice p6 n6 c6,.int .i64 t7,.slice p8 n8 c8,.slice p9 n9 c9,.bool o10] 32)) #[.slice none 0 0,.slice none 0 0,.slice none 0 0,.slice none 0 0,.slice none 0 0,.slice none 0 0,.slice none 0 0,.int .i64 0,.slice none 0 0,.slice none 0 0,.bool false] 32)
 rw [size_al] at HZ
 have HB := hid (((Below.refl w.heap.size w).alloc (Nat.le_refl _) (.cells #[.slice p0 n0 c0,.slice p1 n1 c1,.slice p2 n2 c2,.slice p3 n3 c3,.slice p4 n4 c4,.slice p5 n5 c5,.slice p6 n6 c6,.int .i64 t7,.slice p8 n8 c8,.slice p9 n9 c9,.bool o10] 32)).alloc (by rw [size_al]; omega) (.cells #[.slice none 0 0,.slice none 0 0,.slice none 0 0,.slice none 0 0,.slice none 0 0,.slice none 0 0,.slice none 0 0,.int .i64 0,.slice none 0 0,.slice none 0 0,.bool false] 32))
 have HS := hid (show w.heap.size + 2 ≤ ((w.alloc (.cells #[.slice p0 n0 c0,.slice p1 n1 c1,.slice p2 n2 c2,.slice p3 n3 c3,.slice p4 n4 c4,.slice p5 n5 c5,.slice p6 n6 c6,.int .i64 t7,.slice p8 n8 c8,.slice p9 n9 c9,.bool o10] 32)).alloc (.cells #[.slice none 0 0,.slice none 0 0,.slice none 0 0,.slice none 0 0,.slice none 0 0,.slice none 0 0,.slice none 0 0,.int .i64 0,.slice none 0 0,.slice none 0 0,.bool false] 32)).heap.size by rw [size_al,size_al]; omega)
 go_enter Tryz.func18,Tryz.ntmps18
 go_upto_region 1 with fail
 generalize ((w.alloc (.cells #[.slice p0 n0 c0,.slice p1 n1 c1,.slice p2 n2 c2,.slice p3 n3 c3,.slice p4 n4 c4,.slice p5 n5 c5,.slice p6 n6 c6,.int .i64 t7,.slice p8 n8 c8,.slice p9 n9 c9,.bool o10] 32)).alloc (.cells #[.slice none 0 0,.slice none 0 0,.slice none 0 0,.slice none 0 0,.slice none 0 0,.slice none 0 0,.slice none 0 0,.int .i64 0,.slice none 0 0,.slice none 0 0,.bool false] 32)) = W0 at *
 have x := HX.out.at (k := 0) (v := .slice p0 n0 c0) rfl
 go_upto_region 2 with (go_at_call 60; (with_reducible refine (HC0 _ HB.out).out.mono ?_); rintro e w1 ⟨q0,rfl,hx,hb⟩; obtain ⟨q0a,q0b,q0c⟩ := q0; have HXa := hid (HX.out.below hb HX.out.lt); have HZa := hid (HZ.out.below hb HZ.out.lt); have y := HXa.out.at (k := 0) (v := .slice p0 n0 c0) rfl; have f := HXa.out.free 0; have HBa := hid (HB.out.trans (hb.mono HB.out.size)); have HSa := hid (Nat.le_trans HS.out hb.size); have HQ0 := hid (HM0.out _ (w.heap.size + 2) _ _ HS.out hx); have HBB := hid hb; clear hx hb)
 clear x y f HX HZ HB HS
 have HX : Hid (CA w.heap.size #[.slice q0a q0b q0c,.slice p1 n1 c1,.slice p2 n2 c2,.slice p3 n3 c3,.slice p4 n4 c4,.slice p5 n5 c5,.slice p6 n6 c6,.int .i64 t7,.slice p8 n8 c8,.slice p9 n9 c9,.bool o10] 32 (w1.setCell ⟨w.heap.size,0,none⟩ (.slice q0a q0b q0c))) := HXa.out.set (k := 0) (.slice q0a q0b q0c)
 have HZ : Hid (CA (w.heap.size + 1) #[.slice none 0 0,.slice none 0 0,.slice none 0 0,.slice none 0 0,.slice none 0 0,.slice none 0 0,.slice none 0 0,.int .i64 0,.slice none 0 0,.slice none 0 0,.bool false] 32 (w1.setCell ⟨w.heap.size,0,none⟩ (.slice q0a q0b q0c))) := by
  have := HZa.out
  unfold CA at this ⊢
  rw [set_other _ _ _ _ _ (by omega)]
  exact this
 have HB := hid (HBa.out.setCell (p := ⟨w.heap.size,0,none⟩) (Nat.le_refl _) (.slice q0a q0b q0c))
 have HS : Hid (w.heap.size + 2 ≤ (w1.setCell ⟨w.heap.size,0,none⟩ (.slice q0a q0b q0c)).heap.size) := hid (by rw [World.setCell]; simpa using HSa.out)
 have hup : UP (w.heap.size + 2) w1 (w1.setCell ⟨w.heap.size,0,none⟩ (.slice q0a q0b q0c)) := fun b hb _ => set_other _ _ _ _ _ (by omega)
 replace HQ0 := hid (HU0.out _ _ _ _ hup HQ0.out)
 clear hup HXa HZa HBa HSa HBB
 generalize (w1.setCell ⟨w.heap.size,0,none⟩ (.slice q0a q0b q0c)) = W1 at *
 have x := HX.out.at (k := 1) (v := .slice p1 n1 c1) rfl
 go_upto_region 3 with (go_at_call 62; (with_reducible refine (HC1 _ HB.out).out.mono ?_); rintro e w2 ⟨q1,rfl,hx,hb⟩; obtain ⟨q1a,q1b,q1c⟩ := q1; have HXa := hid (HX.out.below hb HX.out.lt); have HZa := hid (HZ.out.below hb HZ.out.lt); have y := HXa.out.at (k := 1) (v := .slice p1 n1 c1) rfl; have f := HXa.out.free 1; have HBa := hid (HB.out.trans (hb.mono HB.out.size)); have HSa := hid (Nat.le_trans HS.out hb.size); have HQ1 := hid (HM1.out _ (w.heap.size + 2) _ _ HS.out hx); have HBB := hid hb; clear hx hb)
 clear x y f HX HZ HB HS
 have HX : Hid (CA w.heap.size #[.slice q0a q0b q0c,.slice q1a q1b q1c,.slice p2 n2 c2,.slice p3 n3 c3,.slice p4 n4 c4,.slice p5 n5 c5,.slice p6 n6 c6,.int .i64 t7,.slice p8 n8 c8,.slice p9 n9 c9,.bool o10] 32 (w2.setCell ⟨w.heap.size,1,none⟩ (.slice q1a q1b q1c))) := HXa.out.set (k := 1) (.slice q1a q1b q1c)
 have HZ : Hid (CA (w.heap.size + 1) #[.slice none 0 0,.slice none 0 0,.slice none 0 0,.slice none 0 0,.slice none 0 0,.slice none 0 0,.slice none 0 0,.int .i64 0,.slice none 0 0,.slice none 0 0,.bool false] 32 (w2.setCell ⟨w.heap.size,1,none⟩ (.slice q1a q1b q1c))) := by
  have := HZa.out
  unfold CA at this ⊢
  rw [set_other _ _ _ _ _ (by omega)]
  exact this
 have HB := hid (HBa.out.setCell (p := ⟨w.heap.size,1,none⟩) (Nat.le_refl _) (.slice q1a q1b q1c))
 have HS : Hid (w.heap.size + 2 ≤ (w2.setCell ⟨w.heap.size,1,none⟩ (.slice q1a q1b q1c)).heap.size) := hid (by rw [World.setCell]; simpa using HSa.out)
 have hup : UP (w.heap.size + 2) w2 (w2.setCell ⟨w.heap.size,1,none⟩ (.slice q1a q1b q1c)) := fun b hb _ => set_other _ _ _ _ _ (by omega)
 replace HQ0 := hid (HU0.out _ _ _ _ hup (HU0.out _ _ _ _ (UP.of HBB.out) HQ0.out))
 replace HQ1 := hid (HU1.out _ _ _ _ hup HQ1.out)
 clear hup HXa HZa HBa HSa HBB
 generalize (w2.setCell ⟨w.heap.size,1,none⟩ (.slice q1a q1b q1c)) = W2 at *
 have x := HX.out.at (k := 2) (v := .slice p2 n2 c2) rfl
 go_upto_region 4 with (go_at_call 64; (with_reducible refine (HC2 _ HB.out).out.mono ?_); rintro e w3 ⟨q2,rfl,hx,hb⟩; obtain ⟨q2a,q2b,q2c⟩ := q2; have HXa := hid (HX.out.below hb HX.out.lt); have HZa := hid (HZ.out.below hb HZ.out.lt); have y := HXa.out.at (k := 2) (v := .slice p2 n2 c2) rfl; have f := HXa.out.free 2; have HBa := hid (HB.out.trans (hb.mono HB.out.size)); have HSa := hid (Nat.le_trans HS.out hb.size); have HQ2 := hid (HM2.out _ (w.heap.size + 2) _ _ HS.out hx); have HBB := hid hb; clear hx hb)
 clear x y f HX HZ HB HS
 have HX : Hid (CA w.heap.size #[.slice q0a q0b q0c,.slice q1a q1b q1c,.slice q2a q2b q2c,.slice p3 n3 c3,.slice p4 n4 c4,.slice p5 n5 c5,.slice p6 n6 c6,.int .i64 t7,.slice p8 n8 c8,.slice p9 n9 c9,.bool o10] 32 (w3.setCell ⟨w.heap.size,2,none⟩ (.slice q2a q2b q2c))) := HXa.out.set (k := 2) (.slice q2a q2b q2c)
 have HZ : Hid (CA (w.heap.size + 1) #[.slice none 0 0,.slice none 0 0,.slice none 0 0,.slice none 0 0,.slice none 0 0,.slice none 0 0,.slice none 0 0,.int .i64 0,.slice none 0 0,.slice none 0 0,.bool false] 32 (w3.setCell ⟨w.heap.size,2,none⟩ (.slice q2a q2b q2c))) := by
  have := HZa.out
  unfold CA at this ⊢
  rw [set_other _ _ _ _ _ (by omega)]
  exact this
 have HB := hid (HBa.out.setCell (p := ⟨w.heap.size,2,none⟩) (Nat.le_refl _) (.slice q2a q2b q2c))
 have HS : Hid (w.heap.size + 2 ≤ (w3.setCell ⟨w.heap.size,2,none⟩ (.slice q2a q2b q2c)).heap.size) := hid (by rw [World.setCell]; simpa using HSa.out)
 have hup : UP (w.heap.size + 2) w3 (w3.setCell ⟨w.heap.size,2,none⟩ (.slice q2a q2b q2c)) := fun b hb _ => set_other _ _ _ _ _ (by omega)
 replace HQ0 := hid (HU0.out _ _ _ _ hup (HU0.out _ _ _ _ (UP.of HBB.out) HQ0.out))
 replace HQ1 := hid (HU1.out _ _ _ _ hup (HU1.out _ _ _ _ (UP.of HBB.out) HQ1.out))
 replace HQ2 := hid (HU2.out _ _ _ _ hup HQ2.out)
 clear hup HXa HZa HBa HSa HBB
 generalize (w3.setCell ⟨w.heap.size,2,none⟩ (.slice q2a q2b q2c)) = W3 at *
 have x := HX.out.at (k := 3) (v := .slice p3 n3 c3) rfl
 go_upto_region 5 with (go_at_call 66; (with_reducible refine (HC3 _ HB.out).out.mono ?_); rintro e w4 ⟨q3,rfl,hx,hb⟩; obtain ⟨q3a,q3b,q3c⟩ := q3; have HXa := hid (HX.out.below hb HX.out.lt); have HZa := hid (HZ.out.below hb HZ.out.lt); have y := HXa.out.at (k := 3) (v := .slice p3 n3 c3) rfl; have f := HXa.out.free 3; have HBa := hid (HB.out.trans (hb.mono HB.out.size)); have HSa := hid (Nat.le_trans HS.out hb.size); have HQ3 := hid (HM3.out _ (w.heap.size + 2) _ _ HS.out hx); have HBB := hid hb; clear hx hb)
 clear x y f HX HZ HB HS
 have HX : Hid (CA w.heap.size #[.slice q0a q0b q0c,.slice q1a q1b q1c,.slice q2a q2b q2c,.slice q3a q3b q3c,.slice p4 n4 c4,.slice p5 n5 c5,.slice p6 n6 c6,.int .i64 t7,.slice p8 n8 c8,.slice p9 n9 c9,.bool o10] 32 (w4.setCell ⟨w.heap.size,3,none⟩ (.slice q3a q3b q3c))) := HXa.out.set (k := 3) (.slice q3a q3b q3c)
 have HZ : Hid (CA (w.heap.size + 1) #[.slice none 0 0,.slice none 0 0,.slice none 0 0,.slice none 0 0,.slice none 0 0,.slice none 0 0,.slice none 0 0,.int .i64 0,.slice none 0 0,.slice none 0 0,.bool false] 32 (w4.setCell ⟨w.heap.size,3,none⟩ (.slice q3a q3b q3c))) := by
  have := HZa.out
  unfold CA at this ⊢
  rw [set_other _ _ _ _ _ (by omega)]
  exact this
 have HB := hid (HBa.out.setCell (p := ⟨w.heap.size,3,none⟩) (Nat.le_refl _) (.slice q3a q3b q3c))
 have HS : Hid (w.heap.size + 2 ≤ (w4.setCell ⟨w.heap.size,3,none⟩ (.slice q3a q3b q3c)).heap.size) := hid (by rw [World.setCell]; simpa using HSa.out)
 have hup : UP (w.heap.size + 2) w4 (w4.setCell ⟨w.heap.size,3,none⟩ (.slice q3a q3b q3c)) := fun b hb _ => set_other _ _ _ _ _ (by omega)
 replace HQ0 := hid (HU0.out _ _ _ _ hup (HU0.out _ _ _ _ (UP.of HBB.out) HQ0.out))
 replace HQ1 := hid (HU1.out _ _ _ _ hup (HU1.out _ _ _ _ (UP.of HBB.out) HQ1.out))
 replace HQ2 := hid (HU2.out _ _ _ _ hup (HU2.out _ _ _ _ (UP.of HBB.out) HQ2.out))
 replace HQ3 := hid (HU3.out _ _ _ _ hup HQ3.out)
 clear hup HXa HZa HBa HSa HBB
 generalize (w4.setCell ⟨w.heap.size,3,none⟩ (.slice q3a q3b q3c)) = W4 at *
 have x := HX.out.at (k := 4) (v := .slice p4 n4 c4) rfl
 go_upto_region 6 with (go_at_call 68; (with_reducible refine (HC4 _ HB.out).out.mono ?_); rintro e w5 ⟨q4,rfl,hx,hb⟩; obtain ⟨q4a,q4b,q4c⟩ := q4; have HXa := hid (HX.out.below hb HX.out.lt); have HZa := hid (HZ.out.below hb HZ.out.lt); have y := HXa.out.at (k := 4) (v := .slice p4 n4 c4) rfl; have f := HXa.out.free 4; have HBa := hid (HB.out.trans (hb.mono HB.out.size)); have HSa := hid (Nat.le_trans HS.out hb.size); have HQ4 := hid (HM4.out _ (w.heap.size + 2) _ _ HS.out hx); have HBB := hid hb; clear hx hb)
 clear x y f HX HZ HB HS
 have HX : Hid (CA w.heap.size #[.slice q0a q0b q0c,.slice q1a q1b q1c,.slice q2a q2b q2c,.slice q3a q3b q3c,.slice q4a q4b q4c,.slice p5 n5 c5,.slice p6 n6 c6,.int .i64 t7,.slice p8 n8 c8,.slice p9 n9 c9,.bool o10] 32 (w5.setCell ⟨w.heap.size,4,none⟩ (.slice q4a q4b q4c))) := HXa.out.set (k := 4) (.slice q4a q4b q4c)
 have HZ : Hid (CA (w.heap.size + 1) #[.slice none 0 0,.slice none 0 0,.slice none 0 0,.slice none 0 0,.slice none 0 0,.slice none 0 0,.slice none 0 0,.int .i64 0,.slice none 0 0,.slice none 0 0,.bool false] 32 (w5.setCell ⟨w.heap.size,4,none⟩ (.slice q4a q4b q4c))) := by
  have := HZa.out
  unfold CA at this ⊢
  rw [set_other _ _ _ _ _ (by omega)]
  exact this
 have HB := hid (HBa.out.setCell (p := ⟨w.heap.size,4,none⟩) (Nat.le_refl _) (.slice q4a q4b q4c))
 have HS : Hid (w.heap.size + 2 ≤ (w5.setCell ⟨w.heap.size,4,none⟩ (.slice q4a q4b q4c)).heap.size) := hid (by rw [World.setCell]; simpa using HSa.out)
 have hup : UP (w.heap.size + 2) w5 (w5.setCell ⟨w.heap.size,4,none⟩ (.slice q4a q4b q4c)) := fun b hb _ => set_other _ _ _ _ _ (by omega)
 replace HQ0 := hid (HU0.out _ _ _ _ hup (HU0.out _ _ _ _ (UP.of HBB.out) HQ0.out))
 replace HQ1 := hid (HU1.out _ _ _ _ hup (HU1.out _ _ _ _ (UP.of HBB.out) HQ1.out))
 replace HQ2 := hid (HU2.out _ _ _ _ hup (HU2.out _ _ _ _ (UP.of HBB.out) HQ2.out))
 replace HQ3 := hid (HU3.out _ _ _ _ hup (HU3.out _ _ _ _ (UP.of HBB.out) HQ3.out))
 replace HQ4 := hid (HU4.out _ _ _ _ hup HQ4.out)
 clear hup HXa HZa HBa HSa HBB
 generalize (w5.setCell ⟨w.heap.size,4,none⟩ (.slice q4a q4b q4c)) = W5 at *
 have x := HX.out.at (k := 5) (v := .slice p5 n5 c5) rfl
 go_upto_region 7 with (go_at_call 70; (with_reducible refine (HC5 _ HB.out).out.mono ?_); rintro e w6 ⟨q5,rfl,hx,hb⟩; obtain ⟨q5a,q5b,q5c⟩ := q5; have HXa := hid (HX.out.below hb HX.out.lt); have HZa := hid (HZ.out.below hb HZ.out.lt); have y := HXa.out.at (k := 5) (v := .slice p5 n5 c5) rfl; have f := HXa.out.free 5; have HBa := hid (HB.out.trans (hb.mono HB.out.size)); have HSa := hid (Nat.le_trans HS.out hb.size); have HQ5 := hid (HM5.out _ (w.heap.size + 2) _ _ HS.out hx); have HBB := hid hb; clear hx hb)
 clear x y f HX HZ HB HS
 have HX : Hid (CA w.heap.size #[.slice q0a q0b q0c,.slice q1a q1b q1c,.slice q2a q2b q2c,.slice q3a q3b q3c,.slice q4a q4b q4c,.slice q5a q5b q5c,.slice p6 n6 c6,.int .i64 t7,.slice p8 n8 c8,.slice p9 n9 c9,.bool o10] 32 (w6.setCell ⟨w.heap.size,5,none⟩ (.slice q5a q5b q5c))) := HXa.out.set (k := 5) (.slice q5a q5b q5c)
 have HZ : Hid (CA (w.heap.size + 1) #[.slice none 0 0,.slice none 0 0,.slice none 0 0,.slice none 0 0,.slice none 0 0,.slice none 0 0,.slice none 0 0,.int .i64 0,.slice none 0 0,.slice none 0 0,.bool false] 32 (w6.setCell ⟨w.heap.size,5,none⟩ (.slice q5a q5b q5c))) := by
  have := HZa.out
  unfold CA at this ⊢
  rw [set_other _ _ _ _ _ (by omega)]
  exact this
 have HB := hid (HBa.out.setCell (p := ⟨w.heap.size,5,none⟩) (Nat.le_refl _) (.slice q5a q5b q5c))
 have HS : Hid (w.heap.size + 2 ≤ (w6.setCell ⟨w.heap.size,5,none⟩ (.slice q5a q5b q5c)).heap.size) := hid (by rw [World.setCell]; simpa using HSa.out)
 have hup : UP (w.heap.size + 2) w6 (w6.setCell ⟨w.heap.size,5,none⟩ (.slice q5a q5b q5c)) := fun b hb _ => set_other _ _ _ _ _ (by omega)
 replace HQ0 := hid (HU0.out _ _ _ _ hup (HU0.out _ _ _ _ (UP.of HBB.out) HQ0.out))
 replace HQ1 := hid (HU1.out _ _ _ _ hup (HU1.out _ _ _ _ (UP.of HBB.out) HQ1.out))
 replace HQ2 := hid (HU2.out _ _ _ _ hup (HU2.out _ _ _ _ (UP.of HBB.out) HQ2.out))
 replace HQ3 := hid (HU3.out _ _ _ _ hup (HU3.out _ _ _ _ (UP.of HBB.out) HQ3.out))
 replace HQ4 := hid (HU4.out _ _ _ _ hup (HU4.out _ _ _ _ (UP.of HBB.out) HQ4.out))
 replace HQ5 := hid (HU5.out _ _ _ _ hup HQ5.out)
 clear hup HXa HZa HBa HSa HBB
 generalize (w6.setCell ⟨w.heap.size,5,none⟩ (.slice q5a q5b q5c)) = W6 at *
 have x := HX.out.at (k := 6) (v := .slice p6 n6 c6) rfl
 go_upto_region 8 with (go_at_call 72; (with_reducible refine (HC6 _ HB.out).out.mono ?_); rintro e w7 ⟨q6,rfl,hx,hb⟩; obtain ⟨q6a,q6b,q6c⟩ := q6; have HXa := hid (HX.out.below hb HX.out.lt); have HZa := hid (HZ.out.below hb HZ.out.lt); have y := HXa.out.at (k := 6) (v := .slice p6 n6 c6) rfl; have f := HXa.out.free 6; have HBa := hid (HB.out.trans (hb.mono HB.out.size)); have HSa := hid (Nat.le_trans HS.out hb.size); have HQ6 := hid (HM6.out _ (w.heap.size + 2) _ _ HS.out hx); have HBB := hid hb; clear hx hb)
 clear x y f HX HZ HB HS
 have HX : Hid (CA w.heap.size #[.slice q0a q0b q0c,.slice q1a q1b q1c,.slice q2a q2b q2c,.slice q3a q3b q3c,.slice q4a q4b q4c,.slice q5a q5b q5c,.slice q6a q6b q6c,.int .i64 t7,.slice p8 n8 c8,.slice p9 n9 c9,.bool o10] 32 (w7.setCell ⟨w.heap.size,6,none⟩ (.slice q6a q6b q6c))) := HXa.out.set (k := 6) (.slice q6a q6b q6c)
 have HZ : Hid (CA (w.heap.size + 1) #[.slice none 0 0,.slice none 0 0,.slice none 0 0,.slice none 0 0,.slice none 0 0,.slice none 0 0,.slice none 0 0,.int .i64 0,.slice none 0 0,.slice none 0 0,.bool false] 32 (w7.setCell ⟨w.heap.size,6,none⟩ (.slice q6a q6b q6c))) := by
  have := HZa.out
  unfold CA at this ⊢
  rw [set_other _ _ _ _ _ (by omega)]
  exact this
 have HB := hid (HBa.out.setCell (p := ⟨w.heap.size,6,none⟩) (Nat.le_refl _) (.slice q6a q6b q6c))
 have HS : Hid (w.heap.size + 2 ≤ (w7.setCell ⟨w.heap.size,6,none⟩ (.slice q6a q6b q6c)).heap.size) := hid (by rw [World.setCell]; simpa using HSa.out)
 have hup : UP (w.heap.size + 2) w7 (w7.setCell ⟨w.heap.size,6,none⟩ (.slice q6a q6b q6c)) := fun b hb _ => set_other _ _ _ _ _ (by omega)
 replace HQ0 := hid (HU0.out _ _ _ _ hup (HU0.out _ _ _ _ (UP.of HBB.out) HQ0.out))
 replace HQ1 := hid (HU1.out _ _ _ _ hup (HU1.out _ _ _ _ (UP.of HBB.out) HQ1.out))
 replace HQ2 := hid (HU2.out _ _ _ _ hup (HU2.out _ _ _ _ (UP.of HBB.out) HQ2.out))
 replace HQ3 := hid (HU3.out _ _ _ _ hup (HU3.out _ _ _ _ (UP.of HBB.out) HQ3.out))
 replace HQ4 := hid (HU4.out _ _ _ _ hup (HU4.out _ _ _ _ (UP.of HBB.out) HQ4.out))
 replace HQ5 := hid (HU5.out _ _ _ _ hup (HU5.out _ _ _ _ (UP.of HBB.out) HQ5.out))
 replace HQ6 := hid (HU6.out _ _ _ _ hup HQ6.out)
 clear hup HXa HZa HBa HSa HBB
 generalize (w7.setCell ⟨w.heap.size,6,none⟩ (.slice q6a q6b q6c)) = W7 at *
 have x := HX.out.at (k := 8) (v := .slice p8 n8 c8) rfl
 go_upto_region 9 with (go_at_call 74; (with_reducible refine (HC8 _ HB.out).out.mono ?_); rintro e w8 ⟨q8,rfl,hx,hb⟩; obtain ⟨q8a,q8b,q8c⟩ := q8; have HXa := hid (HX.out.below hb HX.out.lt); have HZa := hid (HZ.out.below hb HZ.out.lt); have y := HXa.out.at (k := 8) (v := .slice p8 n8 c8) rfl; have f := HXa.out.free 8; have HBa := hid (HB.out.trans (hb.mono HB.out.size)); have HSa := hid (Nat.le_trans HS.out hb.size); have HQ8 := hid (HM8.out _ (w.heap.size + 2) _ _ HS.out hx); have HBB := hid hb; clear hx hb)
 clear x y f HX HZ HB HS
 have HX : Hid (CA w.heap.size #[.slice q0a q0b q0c,.slice q1a q1b q1c,.slice q2a q2b q2c,.slice q3a q3b q3c,.slice q4a q4b q4c,.slice q5a q5b q5c,.slice q6a q6b q6c,.int .i64 t7,.slice q8a q8b q8c,.slice p9 n9 c9,.bool o10] 32 (w8.setCell ⟨w.heap.size,8,none⟩ (.slice q8a q8b q8c))) := HXa.out.set (k := 8) (.slice q8a q8b q8c)
 have HZ : Hid (CA (w.heap.size + 1) #[.slice none 0 0,.slice none 0 0,.slice none 0 0,.slice none 0 0,.slice none 0 0,.slice none 0 0,.slice none 0 0,.int .i64 0,.slice none 0 0,.slice none 0 0,.bool false] 32 (w8.setCell ⟨w.heap.size,8,none⟩ (.slice q8a q8b q8c))) := by
  have := HZa.out
  unfold CA at this ⊢
  rw [set_other _ _ _ _ _ (by omega)]
  exact this
 have HB := hid (HBa.out.setCell (p := ⟨w.heap.size,8,none⟩) (Nat.le_refl _) (.slice q8a q8b q8c))
 have HS : Hid (w.heap.size + 2 ≤ (w8.setCell ⟨w.heap.size,8,none⟩ (.slice q8a q8b q8c)).heap.size) := hid (by rw [World.setCell]; simpa using HSa.out)
 have hup : UP (w.heap.size + 2) w8 (w8.setCell ⟨w.heap.size,8,none⟩ (.slice q8a q8b q8c)) := fun b hb _ => set_other _ _ _ _ _ (by omega)
 replace HQ0 := hid (HU0.out _ _ _ _ hup (HU0.out _ _ _ _ (UP.of HBB.out) HQ0.out))
 replace HQ1 := hid (HU1.out _ _ _ _ hup (HU1.out _ _ _ _ (UP.of HBB.out) HQ1.out))
 replace HQ2 := hid (HU2.out _ _ _ _ hup (HU2.out _ _ _ _ (UP.of HBB.out) HQ2.out))
 replace HQ3 := hid (HU3.out _ _ _ _ hup (HU3.out _ _ _ _ (UP.of HBB.out) HQ3.out))
 replace HQ4 := hid (HU4.out _ _ _ _ hup (HU4.out _ _ _ _ (UP.of HBB.out) HQ4.out))
 replace HQ5 := hid (HU5.out _ _ _ _ hup (HU5.out _ _ _ _ (UP.of HBB.out) HQ5.out))
 replace HQ6 := hid (HU6.out _ _ _ _ hup (HU6.out _ _ _ _ (UP.of HBB.out) HQ6.out))
 replace HQ8 := hid (HU8.out _ _ _ _ hup HQ8.out)
 clear hup HXa HZa HBa HSa HBB
 generalize (w8.setCell ⟨w.heap.size,8,none⟩ (.slice q8a q8b q8c)) = W8 at *
 have x := HX.out.at (k := 9) (v := .slice p9 n9 c9) rfl
 go_upto_region 10 with (go_at_call 76; (with_reducible refine (HC9 _ HB.out).out.mono ?_); rintro e w9 ⟨q9,rfl,hx,hb⟩; obtain ⟨q9a,q9b,q9c⟩ := q9; have HXa := hid (HX.out.below hb HX.out.lt); have HZa := hid (HZ.out.below hb HZ.out.lt); have y := HXa.out.at (k := 9) (v := .slice p9 n9 c9) rfl; have f := HXa.out.free 9; have HBa := hid (HB.out.trans (hb.mono HB.out.size)); have HSa := hid (Nat.le_trans HS.out hb.size); have HQ9 := hid (HM9.out _ (w.heap.size + 2) _ _ HS.out hx); have HBB := hid hb; clear hx hb)
 clear x y f HX HZ HB HS
 have HX : Hid (CA w.heap.size #[.slice q0a q0b q0c,.slice q1a q1b q1c,.slice q2a q2b q2c,.slice q3a q3b q3c,.slice q4a q4b q4c,.slice q5a q5b q5c,.slice q6a q6b q6c,.int .i64 t7,.slice q8a q8b q8c,.slice q9a q9b q9c,.bool o10] 32 (w9.setCell ⟨w.heap.size,9,none⟩ (.slice q9a q9b q9c))) := HXa.out.set (k := 9) (.slice q9a q9b q9c)
 have HZ : Hid (CA (w.heap.size + 1) #[.slice none 0 0,.slice none 0 0,.slice none 0 0,.slice none 0 0,.slice none 0 0,.slice none 0 0,.slice none 0 0,.int .i64 0,.slice none 0 0,.slice none 0 0,.bool false] 32 (w9.setCell ⟨w.heap.size,9,none⟩ (.slice q9a q9b q9c))) := by
  have := HZa.out
  unfold CA at this ⊢
  rw [set_other _ _ _ _ _ (by omega)]
  exact this
 have HB := hid (HBa.out.setCell (p := ⟨w.heap.size,9,none⟩) (Nat.le_refl _) (.slice q9a q9b q9c))
 have HS : Hid (w.heap.size + 2 ≤ (w9.setCell ⟨w.heap.size,9,none⟩ (.slice q9a q9b q9c)).heap.size) := hid (by rw [World.setCell]; simpa using HSa.out)
 have hup : UP (w.heap.size + 2) w9 (w9.setCell ⟨w.heap.size,9,none⟩ (.slice q9a q9b q9c)) := fun b hb _ => set_other _ _ _ _ _ (by omega)
 replace HQ0 := hid (HU0.out _ _ _ _ hup (HU0.out _ _ _ _ (UP.of HBB.out) HQ0.out))
 replace HQ1 := hid (HU1.out _ _ _ _ hup (HU1.out _ _ _ _ (UP.of HBB.out) HQ1.out))
 replace HQ2 := hid (HU2.out _ _ _ _ hup (HU2.out _ _ _ _ (UP.of HBB.out) HQ2.out))
 replace HQ3 := hid (HU3.out _ _ _ _ hup (HU3.out _ _ _ _ (UP.of HBB.out) HQ3.out))
 replace HQ4 := hid (HU4.out _ _ _ _ hup (HU4.out _ _ _ _ (UP.of HBB.out) HQ4.out))
 replace HQ5 := hid (HU5.out _ _ _ _ hup (HU5.out _ _ _ _ (UP.of HBB.out) HQ5.out))
 replace HQ6 := hid (HU6.out _ _ _ _ hup (HU6.out _ _ _ _ (UP.of HBB.out) HQ6.out))
 replace HQ8 := hid (HU8.out _ _ _ _ hup (HU8.out _ _ _ _ (UP.of HBB.out) HQ8.out))
 replace HQ9 := hid (HU9.out _ _ _ _ hup HQ9.out)
 clear hup HXa HZa HBa HSa HBB
 generalize (w9.setCell ⟨w.heap.size,9,none⟩ (.slice q9a q9b q9c)) = W9 at *
 have x0 := HX.out.at (k := 0) (v := .slice q0a q0b q0c) rfl
 have z0 := HZ.out.at (k := 0) (v := .slice none 0 0) rfl
 have f0 := HZ.out.free 0
 have x1 := HX.out.at (k := 1) (v := .slice q1a q1b q1c) rfl
 have z1 := HZ.out.at (k := 1) (v := .slice none 0 0) rfl
 have f1 := HZ.out.free 1
 have x2 := HX.out.at (k := 2) (v := .slice q2a q2b q2c) rfl
 have z2 := HZ.out.at (k := 2) (v := .slice none 0 0) rfl
 have f2 := HZ.out.free 2
 have x3 := HX.out.at (k := 3) (v := .slice q3a q3b q3c) rfl
 have z3 := HZ.out.at (k := 3) (v := .slice none 0 0) rfl
 have f3 := HZ.out.free 3
 have x4 := HX.out.at (k := 4) (v := .slice q4a q4b q4c) rfl
 have z4 := HZ.out.at (k := 4) (v := .slice none 0 0) rfl
 have f4 := HZ.out.free 4
 have x5 := HX.out.at (k := 5) (v := .slice q5a q5b q5c) rfl
 have z5 := HZ.out.at (k := 5) (v := .slice none 0 0) rfl
 have f5 := HZ.out.free 5
 have x6 := HX.out.at (k := 6) (v := .slice q6a q6b q6c) rfl
 have z6 := HZ.out.at (k := 6) (v := .slice none 0 0) rfl
 have f6 := HZ.out.free 6
 have x7 := HX.out.at (k := 7) (v := .int .i64 t7) rfl
 have z7 := HZ.out.at (k := 7) (v := .int .i64 0) rfl
 have f7 := HZ.out.free 7
 have x8 := HX.out.at (k := 8) (v := .slice q8a q8b q8c) rfl
 have z8 := HZ.out.at (k := 8) (v := .slice none 0 0) rfl
 have f8 := HZ.out.free 8
 have x9 := HX.out.at (k := 9) (v := .slice q9a q9b q9c) rfl
 have z9 := HZ.out.at (k := 9) (v := .slice none 0 0) rfl
 have f9 := HZ.out.free 9
 have x10 := HX.out.at (k := 10) (v := .bool o10) rfl
 have z10 := HZ.out.at (k := 10) (v := .bool false) rfl
 have f10 := HZ.out.free 10
 go_wp2
 have hS := setL_ok 32 (w.heap.size + 1) 11 [.slice q0a q0b q0c,.slice q1a q1b q1c,.slice q2a q2b q2c,.slice q3a q3b q3c,.slice q4a q4b q4c,.slice q5a q5b q5c,.slice q6a q6b q6c,.int .i64 t7,.slice q8a q8b q8c,.slice q9a q9b q9c,.bool o10] 0 W9 #[.slice none 0 0,.slice none 0 0,.slice none 0 0,.slice none 0 0,.slice none 0 0,.slice none 0 0,.slice none 0 0,.int .i64 0,.slice none 0 0,.slice none 0 0,.bool false] HZ.out rfl (by simp)
 have hu : UP (w.heap.size + 2) W9 (setL W9 (w.heap.size + 1) 0 [.slice q0a q0b q0c,.slice q1a q1b q1c,.slice q2a q2b q2c,.slice q3a q3b q3c,.slice q4a q4b q4c,.slice q5a q5b q5c,.slice q6a q6b q6c,.int .i64 t7,.slice q8a q8b q8c,.slice q9a q9b q9c,.bool o10]) := fun b hb _ => hS.other b (by omega)
 have r0 := hS.here 0 _ rfl
 have r1 := hS.here 1 _ rfl
 have r2 := hS.here 2 _ rfl
 have r3 := hS.here 3 _ rfl
 have r4 := hS.here 4 _ rfl
 have r5 := hS.here 5 _ rfl
 have r6 := hS.here 6 _ rfl
 have r7 := hS.here 7 _ rfl
 have r8 := hS.here 8 _ rfl
 have r9 := hS.here 9 _ rfl
 have r10 := hS.here 10 _ rfl
 simp only [setL,Nat.zero_add] at r0 r1 r2 r3 r4 r5 r6 r7 r8 r9 r10
 have hb : Below w.heap.size w (setL W9 (w.heap.size + 1) 0 [.slice q0a q0b q0c,.slice q1a q1b q1c,.slice q2a q2b q2c,.slice q3a q3b q3c,.slice q4a q4b q4c,.slice q5a q5b q5c,.slice q6a q6b q6c,.int .i64 t7,.slice q8a q8b q8c,.slice q9a q9b q9c,.bool o10]) := (((((((((((HB.out.setCell (p := ⟨w.heap.size + 1,0,none⟩) (Nat.le_succ _) (.slice q0a q0b q0c)).setCell (p := ⟨w.heap.size + 1,1,none⟩) (Nat.le_succ _) (.slice q1a q1b q1c)).setCell (p := ⟨w.heap.size + 1,2,none⟩) (Nat.le_succ _) (.slice q2a q2b q2c)).setCell (p := ⟨w.heap.size + 1,3,none⟩) (Nat.le_succ _) (.slice q3a q3b q3c)).setCell (p := ⟨w.heap.size + 1,4,none⟩) (Nat.le_succ _) (.slice q4a q4b q4c)).setCell (p := ⟨w.heap.size + 1,5,none⟩) (Nat.le_succ _) (.slice q5a q5b q5c)).setCell (p := ⟨w.heap.size + 1,6,none⟩) (Nat.le_succ _) (.slice q6a q6b q6c)).setCell (p := ⟨w.heap.size + 1,7,none⟩) (Nat.le_succ _) (.int .i64 t7)).setCell (p := ⟨w.heap.size + 1,8,none⟩) (Nat.le_succ _) (.slice q8a q8b q8c)).setCell (p := ⟨w.heap.size + 1,9,none⟩) (Nat.le_succ _) (.slice q9a q9b q9c)).setCell (p := ⟨w.heap.size + 1,10,none⟩) (Nat.le_succ _) (.bool o10))
 exact bodyPost_ret (v := .agg #[.slice q0a q0b q0c,.slice q1a q1b q1c,.slice q2a q2b q2c,.slice q3a q3b q3c,.slice q4a q4b q4c,.slice q5a q5b q5c,.slice q6a q6b q6c,.int .i64 t7,.slice q8a q8b q8c,.slice q9a q9b q9c,.bool o10]) (by simp [results,Tryz.results18,go_sem,r0,r1,r2,r3,r4,r5,r6,r7,r8,r9,r10]) rfl ⟨(q0a,q0b,q0c),(q1a,q1b,q1c),(q2a,q2b,q2c),(q3a,q3b,q3c),(q4a,q4b,q4c),(q5a,q5b,q5c),(q6a,q6b,q6c),(q8a,q8b,q8c),(q9a,q9b,q9c),rfl,HM0.out _ _ _ _ (by omega) (HU0.out _ _ _ _ hu HQ0.out),HM1.out _ _ _ _ (by omega) (HU1.out _ _ _ _ hu HQ1.out),HM2.out _ _ _ _ (by omega) (HU2.out _ _ _ _ hu HQ2.out),HM3.out _ _ _ _ (by omega) (HU3.out _ _ _ _ hu HQ3.out),HM4.out _ _ _ _ (by omega) (HU4.out _ _ _ _ hu HQ4.out),HM5.out _ _ _ _ (by omega) (HU5.out _ _ _ _ hu HQ5.out),HM6.out _ _ _ _ (by omega) (HU6.out _ _ _ _ hu HQ6.out),HM8.out _ _ _ _ (by omega) (HU8.out _ _ _ _ hu HQ8.out),HM9.out _ _ _ _ (by omega) (HU9.out _ _ _ _ hu HQ9.out),hb⟩
end Go.Proofs.YtjgeedgphcjhoaaGreat
