/-
  CPf: merged, what the law does not reach left out (each text says what it holds where it lies in wip). No condition.
-/
import Derived.Test.YtjgeedgphcjhoaaGreatT25
import Derived.Test.YtjgeedgphcjhoaaGreatT09
import Derived.Test.YtjgeedgphcjhoaaGreatT01
set_option linter.unusedSimpArgs false
set_option linter.unusedVariables false
set_option maxRecDepth 100000
namespace Go.Proofs.YtjgeedgphcjhoaaGreat
open Go.RowKit
set_option maxHeartbeats 8000000 in
theorem cpInstr (X5 : Nat → (Option Addr × Nat × Nat) → World → Prop) (hm5 : ∀ s s' q W,s' ≤ s → X5 s q W → X5 s' q W) (hu5 : ∀ s q W W',UP s W W' → X5 s q W → X5 s q W') (X6 : Nat → (Option Addr × Nat × Nat) → World → Prop) (hm6 : ∀ s s' q W,s' ≤ s → X6 s q W → X6 s' q W) (hu6 : ∀ s q W W',UP s W W' → X6 s q W → X6 s q W') (X7 : Nat → (Option Addr × Nat × Nat) → World → Prop) (hm7 : ∀ s s' q W,s' ≤ s → X7 s q W → X7 s' q W) (hu7 : ∀ s q W W',UP s W W' → X7 s q W → X7 s q W') (t0 : Int) (t1 : Int) (t2 : Int) (h3 : Nat) (h4 : Nat) (p5 : Option Addr) (n5 c5 : Nat) (p6 : Option Addr) (n6 c6 : Nat) (p7 : Option Addr) (n7 c7 : Nat) (o8 : Bool) (w : World)
  (hc5 : ∀ W,Below w.heap.size w W → Calls Tryz.prog 157 #[.slice p5 n5 c5,.func (.func 158) #[] #[]] W fun e w' => ∃ q,e = .returned (.slice q.1 q.2.1 q.2.2) ∧ X5 W.heap.size q w' ∧ Below W.heap.size W w')
  (hc6 : ∀ W,Below w.heap.size w W → Calls Tryz.prog 159 #[.slice p6 n6 c6] W fun e w' => ∃ q,e = .returned (.slice q.1 q.2.1 q.2.2) ∧ X6 W.heap.size q w' ∧ Below W.heap.size W w')
  (hc7 : ∀ W,Below w.heap.size w W → Calls Tryz.prog 159 #[.slice p7 n7 c7] W fun e w' => ∃ q,e = .returned (.slice q.1 q.2.1 q.2.2) ∧ X7 W.heap.size q w' ∧ Below W.heap.size W w') :
  Calls Tryz.prog 223 #[.agg #[.int .i64 t0,.int .i64 t1,.int .i64 t2,.int .u64 (h3 : Nat),.int .u64 (h4 : Nat),.slice p5 n5 c5,.slice p6 n6 c6,.slice p7 n7 c7,.bool o8]] w fun e w' => ∃ q5 q6 q7,e = .returned (.agg #[.int .i64 t0,.int .i64 t1,.int .i64 t2,.int .u64 (h3 : Nat),.int .u64 (h4 : Nat),.slice q5.1 q5.2.1 q5.2.2,.slice q6.1 q6.2.1 q6.2.2,.slice q7.1 q7.2.1 q7.2.2,.bool o8]) ∧ X5 w.heap.size q5 w' ∧ X6 w.heap.size q6 w' ∧ X7 w.heap.size q7 w' ∧ Below w.heap.size w w' := by
 have HC5 := fun W h => hid (hc5 W h)
 have HM5 := hid hm5
 have HU5 := hid hu5
 have HC6 := fun W h => hid (hc6 W h)
 have HM6 := hid hm6
 have HU6 := hid hu6
 have HC7 := fun W h => hid (hc7 W h)
 have HM7 := hid hm7
 have HU7 := hid hu7
 clear hc5 hm5 hu5 hc6 hm6 hu6 hc7 hm7 hu7
 have HX := hid ((CA.new w #[.int .i64 t0,.int .i64 t1,.int .i64 t2,.int .u64 (h3 : Nat),.int .u64 (h4 : Nat),.slice p5 n5 c5,.slice p6 n6 c6,.slice p7 n7 c7,.bool o8] 39).alloc (.cells #[.int .i64 0,.int .i64 0,.int .i64 0,.int .u64 0,.int .u64 0,.slice none 0 0,.slice none 0 0,.slice none 0 0,.bool false] 39))
 have HZ := hid (CA.new (w.alloc (.cells #[.int .i64 t0,.int .i64 t1,.int .i64 t2,.int .u64 (h3 : Nat),.int .u64 (h4 : Nat),.slice p5 n5 c5,.slice p6 n6 c6,.slice p7 n7 c7,.bool o8] 39)) #[.int .i64 0,.int .i64 0,.int .i64 0,.int .u64 0,.int .u64 0,.slice none 0 0,.slice none 0 0,.slice none 0 0,.bool false] 39)
 rw [size_al] at HZ
 have HB := hid (((Below.refl w.heap.size w).alloc (Nat.le_refl _) (.cells #[.int .i64 t0,.int .i64 t1,.int .i64 t2,.int .u64 (h3 : Nat),.int .u64 (h4 : Nat),.slice p5 n5 c5,.slice p6 n6 c6,.slice p7 n7 c7,.bool o8] 39)).alloc (by rw [size_al]; omega) (.cells #[.int .i64 0,.int .i64 0,.int .i64 0,.int .u64 0,.int .u64 0,.slice none 0 0,.slice none 0 0,.slice none 0 0,.bool false] 39))
 have HS := hid (show w.heap.size + 2 ≤ ((w.alloc (.cells #[.int .i64 t0,.int .i64 t1,.int .i64 t2,.int .u64 (h3 : Nat),.int .u64 (h4 : Nat),.slice p5 n5 c5,.slice p6 n6 c6,.slice p7 n7 c7,.bool o8] 39)).alloc (.cells #[.int .i64 0,.int .i64 0,.int .i64 0,.int .u64 0,.int .u64 0,.slice none 0 0,.slice none 0 0,.slice none 0 0,.bool false] 39)).heap.size by rw [size_al,size_al]; omega)
 go_enter Tryz.func223,Tryz.ntmps223
 go_upto_region 1 with fail
 generalize ((w.alloc (.cells #[.int .i64 t0,.int .i64 t1,.int .i64 t2,.int .u64 (h3 : Nat),.int .u64 (h4 : Nat),.slice p5 n5 c5,.slice p6 n6 c6,.slice p7 n7 c7,.bool o8] 39)).alloc (.cells #[.int .i64 0,.int .i64 0,.int .i64 0,.int .u64 0,.int .u64 0,.slice none 0 0,.slice none 0 0,.slice none 0 0,.bool false] 39)) = W0 at *
 have x := HX.out.at (k := 5) (v := .slice p5 n5 c5) rfl
 go_upto_region 2 with (go_at_call 157; (with_reducible refine (HC5 _ HB.out).out.mono ?_); rintro e w1 ⟨q5,rfl,hx,hb⟩; obtain ⟨q5a,q5b,q5c⟩ := q5; have HXa := hid (HX.out.below hb HX.out.lt); have HZa := hid (HZ.out.below hb HZ.out.lt); have y := HXa.out.at (k := 5) (v := .slice p5 n5 c5) rfl; have f := HXa.out.free 5; have HBa := hid (HB.out.trans (hb.mono HB.out.size)); have HSa := hid (Nat.le_trans HS.out hb.size); have HQ5 := hid (HM5.out _ (w.heap.size + 2) _ _ HS.out hx); have HBB := hid hb; clear hx hb)
 clear x y f HX HZ HB HS
 have HX : Hid (CA w.heap.size #[.int .i64 t0,.int .i64 t1,.int .i64 t2,.int .u64 (h3 : Nat),.int .u64 (h4 : Nat),.slice q5a q5b q5c,.slice p6 n6 c6,.slice p7 n7 c7,.bool o8] 39 (w1.setCell ⟨w.heap.size,5,none⟩ (.slice q5a q5b q5c))) := HXa.out.set (k := 5) (.slice q5a q5b q5c)
 have HZ : Hid (CA (w.heap.size + 1) #[.int .i64 0,.int .i64 0,.int .i64 0,.int .u64 0,.int .u64 0,.slice none 0 0,.slice none 0 0,.slice none 0 0,.bool false] 39 (w1.setCell ⟨w.heap.size,5,none⟩ (.slice q5a q5b q5c))) := by
  have := HZa.out
  unfold CA at this ⊢
  rw [set_other _ _ _ _ _ (by omega)]
  exact this
 have HB := hid (HBa.out.setCell (p := ⟨w.heap.size,5,none⟩) (Nat.le_refl _) (.slice q5a q5b q5c))
 have HS : Hid (w.heap.size + 2 ≤ (w1.setCell ⟨w.heap.size,5,none⟩ (.slice q5a q5b q5c)).heap.size) := hid (by rw [World.setCell]; simpa using HSa.out)
 have hup : UP (w.heap.size + 2) w1 (w1.setCell ⟨w.heap.size,5,none⟩ (.slice q5a q5b q5c)) := fun b hb _ => set_other _ _ _ _ _ (by omega)
 replace HQ5 := hid (HU5.out _ _ _ _ hup HQ5.out)
 clear hup HXa HZa HBa HSa HBB
 generalize (w1.setCell ⟨w.heap.size,5,none⟩ (.slice q5a q5b q5c)) = W1 at *
 have x := HX.out.at (k := 6) (v := .slice p6 n6 c6) rfl
 go_upto_region 3 with (go_at_call 159; (with_reducible refine (HC6 _ HB.out).out.mono ?_); rintro e w2 ⟨q6,rfl,hx,hb⟩; obtain ⟨q6a,q6b,q6c⟩ := q6; have HXa := hid (HX.out.below hb HX.out.lt); have HZa := hid (HZ.out.below hb HZ.out.lt); have y := HXa.out.at (k := 6) (v := .slice p6 n6 c6) rfl; have f := HXa.out.free 6; have HBa := hid (HB.out.trans (hb.mono HB.out.size)); have HSa := hid (Nat.le_trans HS.out hb.size); have HQ6 := hid (HM6.out _ (w.heap.size + 2) _ _ HS.out hx); have HBB := hid hb; clear hx hb)
 clear x y f HX HZ HB HS
 have HX : Hid (CA w.heap.size #[.int .i64 t0,.int .i64 t1,.int .i64 t2,.int .u64 (h3 : Nat),.int .u64 (h4 : Nat),.slice q5a q5b q5c,.slice q6a q6b q6c,.slice p7 n7 c7,.bool o8] 39 (w2.setCell ⟨w.heap.size,6,none⟩ (.slice q6a q6b q6c))) := HXa.out.set (k := 6) (.slice q6a q6b q6c)
 have HZ : Hid (CA (w.heap.size + 1) #[.int .i64 0,.int .i64 0,.int .i64 0,.int .u64 0,.int .u64 0,.slice none 0 0,.slice none 0 0,.slice none 0 0,.bool false] 39 (w2.setCell ⟨w.heap.size,6,none⟩ (.slice q6a q6b q6c))) := by
  have := HZa.out
  unfold CA at this ⊢
  rw [set_other _ _ _ _ _ (by omega)]
  exact this
 have HB := hid (HBa.out.setCell (p := ⟨w.heap.size,6,none⟩) (Nat.le_refl _) (.slice q6a q6b q6c))
 have HS : Hid (w.heap.size + 2 ≤ (w2.setCell ⟨w.heap.size,6,none⟩ (.slice q6a q6b q6c)).heap.size) := hid (by rw [World.setCell]; simpa using HSa.out)
 have hup : UP (w.heap.size + 2) w2 (w2.setCell ⟨w.heap.size,6,none⟩ (.slice q6a q6b q6c)) := fun b hb _ => set_other _ _ _ _ _ (by omega)
 replace HQ5 := hid (HU5.out _ _ _ _ hup (HU5.out _ _ _ _ (UP.of HBB.out) HQ5.out))
 replace HQ6 := hid (HU6.out _ _ _ _ hup HQ6.out)
 clear hup HXa HZa HBa HSa HBB
 generalize (w2.setCell ⟨w.heap.size,6,none⟩ (.slice q6a q6b q6c)) = W2 at *
 have x := HX.out.at (k := 7) (v := .slice p7 n7 c7) rfl
 go_upto_region 4 with (go_at_call 159; (with_reducible refine (HC7 _ HB.out).out.mono ?_); rintro e w3 ⟨q7,rfl,hx,hb⟩; obtain ⟨q7a,q7b,q7c⟩ := q7; have HXa := hid (HX.out.below hb HX.out.lt); have HZa := hid (HZ.out.below hb HZ.out.lt); have y := HXa.out.at (k := 7) (v := .slice p7 n7 c7) rfl; have f := HXa.out.free 7; have HBa := hid (HB.out.trans (hb.mono HB.out.size)); have HSa := hid (Nat.le_trans HS.out hb.size); have HQ7 := hid (HM7.out _ (w.heap.size + 2) _ _ HS.out hx); have HBB := hid hb; clear hx hb)
 clear x y f HX HZ HB HS
 have HX : Hid (CA w.heap.size #[.int .i64 t0,.int .i64 t1,.int .i64 t2,.int .u64 (h3 : Nat),.int .u64 (h4 : Nat),.slice q5a q5b q5c,.slice q6a q6b q6c,.slice q7a q7b q7c,.bool o8] 39 (w3.setCell ⟨w.heap.size,7,none⟩ (.slice q7a q7b q7c))) := HXa.out.set (k := 7) (.slice q7a q7b q7c)
 have HZ : Hid (CA (w.heap.size + 1) #[.int .i64 0,.int .i64 0,.int .i64 0,.int .u64 0,.int .u64 0,.slice none 0 0,.slice none 0 0,.slice none 0 0,.bool false] 39 (w3.setCell ⟨w.heap.size,7,none⟩ (.slice q7a q7b q7c))) := by
  have := HZa.out
  unfold CA at this ⊢
  rw [set_other _ _ _ _ _ (by omega)]
  exact this
 have HB := hid (HBa.out.setCell (p := ⟨w.heap.size,7,none⟩) (Nat.le_refl _) (.slice q7a q7b q7c))
 have HS : Hid (w.heap.size + 2 ≤ (w3.setCell ⟨w.heap.size,7,none⟩ (.slice q7a q7b q7c)).heap.size) := hid (by rw [World.setCell]; simpa using HSa.out)
 have hup : UP (w.heap.size + 2) w3 (w3.setCell ⟨w.heap.size,7,none⟩ (.slice q7a q7b q7c)) := fun b hb _ => set_other _ _ _ _ _ (by omega)
 replace HQ5 := hid (HU5.out _ _ _ _ hup (HU5.out _ _ _ _ (UP.of HBB.out) HQ5.out))
 replace HQ6 := hid (HU6.out _ _ _ _ hup (HU6.out _ _ _ _ (UP.of HBB.out) HQ6.out))
 replace HQ7 := hid (HU7.out _ _ _ _ hup HQ7.out)
 clear hup HXa HZa HBa HSa HBB
 generalize (w3.setCell ⟨w.heap.size,7,none⟩ (.slice q7a q7b q7c)) = W3 at *
 have x0 := HX.out.at (k := 0) (v := .int .i64 t0) rfl
 have z0 := HZ.out.at (k := 0) (v := .int .i64 0) rfl
 have f0 := HZ.out.free 0
 have x1 := HX.out.at (k := 1) (v := .int .i64 t1) rfl
 have z1 := HZ.out.at (k := 1) (v := .int .i64 0) rfl
 have f1 := HZ.out.free 1
 have x2 := HX.out.at (k := 2) (v := .int .i64 t2) rfl
 have z2 := HZ.out.at (k := 2) (v := .int .i64 0) rfl
 have f2 := HZ.out.free 2
 have x3 := HX.out.at (k := 3) (v := .int .u64 (h3 : Nat)) rfl
 have z3 := HZ.out.at (k := 3) (v := .int .u64 0) rfl
 have f3 := HZ.out.free 3
 have x4 := HX.out.at (k := 4) (v := .int .u64 (h4 : Nat)) rfl
 have z4 := HZ.out.at (k := 4) (v := .int .u64 0) rfl
 have f4 := HZ.out.free 4
 have x5 := HX.out.at (k := 5) (v := .slice q5a q5b q5c) rfl
 have z5 := HZ.out.at (k := 5) (v := .slice none 0 0) rfl
 have f5 := HZ.out.free 5
 have x6 := HX.out.at (k := 6) (v := .slice q6a q6b q6c) rfl
 have z6 := HZ.out.at (k := 6) (v := .slice none 0 0) rfl
 have f6 := HZ.out.free 6
 have x7 := HX.out.at (k := 7) (v := .slice q7a q7b q7c) rfl
 have z7 := HZ.out.at (k := 7) (v := .slice none 0 0) rfl
 have f7 := HZ.out.free 7
 have x8 := HX.out.at (k := 8) (v := .bool o8) rfl
 have z8 := HZ.out.at (k := 8) (v := .bool false) rfl
 have f8 := HZ.out.free 8
 go_wp2
 have hS := setL_ok 39 (w.heap.size + 1) 9 [.int .i64 t0,.int .i64 t1,.int .i64 t2,.int .u64 (h3 : Nat),.int .u64 (h4 : Nat),.slice q5a q5b q5c,.slice q6a q6b q6c,.slice q7a q7b q7c,.bool o8] 0 W3 #[.int .i64 0,.int .i64 0,.int .i64 0,.int .u64 0,.int .u64 0,.slice none 0 0,.slice none 0 0,.slice none 0 0,.bool false] HZ.out rfl (by simp)
 have hu : UP (w.heap.size + 2) W3 (setL W3 (w.heap.size + 1) 0 [.int .i64 t0,.int .i64 t1,.int .i64 t2,.int .u64 (h3 : Nat),.int .u64 (h4 : Nat),.slice q5a q5b q5c,.slice q6a q6b q6c,.slice q7a q7b q7c,.bool o8]) := fun b hb _ => hS.other b (by omega)
 have r0 := hS.here 0 _ rfl
 have r1 := hS.here 1 _ rfl
 have r2 := hS.here 2 _ rfl
 have r3 := hS.here 3 _ rfl
 have r4 := hS.here 4 _ rfl
 have r5 := hS.here 5 _ rfl
 have r6 := hS.here 6 _ rfl
 have r7 := hS.here 7 _ rfl
 have r8 := hS.here 8 _ rfl
 simp only [setL,Nat.zero_add] at r0 r1 r2 r3 r4 r5 r6 r7 r8
 have hb : Below w.heap.size w (setL W3 (w.heap.size + 1) 0 [.int .i64 t0,.int .i64 t1,.int .i64 t2,.int .u64 (h3 : Nat),.int .u64 (h4 : Nat),.slice q5a q5b q5c,.slice q6a q6b q6c,.slice q7a q7b q7c,.bool o8]) := (((((((((HB.out.setCell (p := ⟨w.heap.size + 1,0,none⟩) (Nat.le_succ _) (.int .i64 t0)).setCell (p := ⟨w.heap.size + 1,1,none⟩) (Nat.le_succ _) (.int .i64 t1)).setCell (p := ⟨w.heap.size + 1,2,none⟩) (Nat.le_succ _) (.int .i64 t2)).setCell (p := ⟨w.heap.size + 1,3,none⟩) (Nat.le_succ _) (.int .u64 (h3 : Nat))).setCell (p := ⟨w.heap.size + 1,4,none⟩) (Nat.le_succ _) (.int .u64 (h4 : Nat))).setCell (p := ⟨w.heap.size + 1,5,none⟩) (Nat.le_succ _) (.slice q5a q5b q5c)).setCell (p := ⟨w.heap.size + 1,6,none⟩) (Nat.le_succ _) (.slice q6a q6b q6c)).setCell (p := ⟨w.heap.size + 1,7,none⟩) (Nat.le_succ _) (.slice q7a q7b q7c)).setCell (p := ⟨w.heap.size + 1,8,none⟩) (Nat.le_succ _) (.bool o8))
 exact bodyPost_ret (v := .agg #[.int .i64 t0,.int .i64 t1,.int .i64 t2,.int .u64 (h3 : Nat),.int .u64 (h4 : Nat),.slice q5a q5b q5c,.slice q6a q6b q6c,.slice q7a q7b q7c,.bool o8]) (by simp [results,Tryz.results223,go_sem,r0,r1,r2,r3,r4,r5,r6,r7,r8]) rfl ⟨(q5a,q5b,q5c),(q6a,q6b,q6c),(q7a,q7b,q7c),rfl,HM5.out _ _ _ _ (by omega) (HU5.out _ _ _ _ hu HQ5.out),HM6.out _ _ _ _ (by omega) (HU6.out _ _ _ _ hu HQ6.out),HM7.out _ _ _ _ (by omega) (HU7.out _ _ _ _ hu HQ7.out),hb⟩
set_option maxHeartbeats 8000000 in
theorem cpFuncType (X0 : Nat → (Option Addr × Nat × Nat) → World → Prop) (hm0 : ∀ s s' q W,s' ≤ s → X0 s q W → X0 s' q W) (hu0 : ∀ s q W W',UP s W W' → X0 s q W → X0 s q W') (X1 : Nat → (Option Addr × Nat × Nat) → World → Prop) (hm1 : ∀ s s' q W,s' ≤ s → X1 s q W → X1 s' q W) (hu1 : ∀ s q W W',UP s W W' → X1 s q W → X1 s q W') (p0 : Option Addr) (n0 c0 : Nat) (p1 : Option Addr) (n1 c1 : Nat) (w : World)
  (hc0 : ∀ W,Below w.heap.size w W → Calls Tryz.prog 157 #[.slice p0 n0 c0,.func (.func 158) #[] #[]] W fun e w' => ∃ q,e = .returned (.slice q.1 q.2.1 q.2.2) ∧ X0 W.heap.size q w' ∧ Below W.heap.size W w')
  (hc1 : ∀ W,Below w.heap.size w W → Calls Tryz.prog 157 #[.slice p1 n1 c1,.func (.func 158) #[] #[]] W fun e w' => ∃ q,e = .returned (.slice q.1 q.2.1 q.2.2) ∧ X1 W.heap.size q w' ∧ Below W.heap.size W w') :
  Calls Tryz.prog 61 #[.agg #[.slice p0 n0 c0,.slice p1 n1 c1]] w fun e w' => ∃ q0 q1,e = .returned (.agg #[.slice q0.1 q0.2.1 q0.2.2,.slice q1.1 q1.2.1 q1.2.2]) ∧ X0 w.heap.size q0 w' ∧ X1 w.heap.size q1 w' ∧ Below w.heap.size w w' := by
 have HC0 := fun W h => hid (hc0 W h)
 have HM0 := hid hm0
 have HU0 := hid hu0
 have HC1 := fun W h => hid (hc1 W h)
 have HM1 := hid hm1
 have HU1 := hid hu1
 clear hc0 hm0 hu0 hc1 hm1 hu1
 have HX := hid ((CA.new w #[.slice p0 n0 c0,.slice p1 n1 c1] 67).alloc (.cells #[.slice none 0 0,.slice none 0 0] 67))
 have HZ := hid (CA.new (w.alloc (.cells #[.slice p0 n0 c0,.slice p1 n1 c1] 67)) #[.slice none 0 0,.slice none 0 0] 67)
 rw [size_al] at HZ
 have HB := hid (((Below.refl w.heap.size w).alloc (Nat.le_refl _) (.cells #[.slice p0 n0 c0,.slice p1 n1 c1] 67)).alloc (by rw [size_al]; omega) (.cells #[.slice none 0 0,.slice none 0 0] 67))
 have HS := hid (show w.heap.size + 2 ≤ ((w.alloc (.cells #[.slice p0 n0 c0,.slice p1 n1 c1] 67)).alloc (.cells #[.slice none 0 0,.slice none 0 0] 67)).heap.size by rw [size_al,size_al]; omega)
 go_enter Tryz.func61,Tryz.ntmps61
 go_upto_region 1 with fail
 generalize ((w.alloc (.cells #[.slice p0 n0 c0,.slice p1 n1 c1] 67)).alloc (.cells #[.slice none 0 0,.slice none 0 0] 67)) = W0 at *
 have x := HX.out.at (k := 0) (v := .slice p0 n0 c0) rfl
 go_upto_region 2 with (go_at_call 157; (with_reducible refine (HC0 _ HB.out).out.mono ?_); rintro e w1 ⟨q0,rfl,hx,hb⟩; obtain ⟨q0a,q0b,q0c⟩ := q0; have HXa := hid (HX.out.below hb HX.out.lt); have HZa := hid (HZ.out.below hb HZ.out.lt); have y := HXa.out.at (k := 0) (v := .slice p0 n0 c0) rfl; have f := HXa.out.free 0; have HBa := hid (HB.out.trans (hb.mono HB.out.size)); have HSa := hid (Nat.le_trans HS.out hb.size); have HQ0 := hid (HM0.out _ (w.heap.size + 2) _ _ HS.out hx); have HBB := hid hb; clear hx hb)
 clear x y f HX HZ HB HS
 have HX : Hid (CA w.heap.size #[.slice q0a q0b q0c,.slice p1 n1 c1] 67 (w1.setCell ⟨w.heap.size,0,none⟩ (.slice q0a q0b q0c))) := HXa.out.set (k := 0) (.slice q0a q0b q0c)
 have HZ : Hid (CA (w.heap.size + 1) #[.slice none 0 0,.slice none 0 0] 67 (w1.setCell ⟨w.heap.size,0,none⟩ (.slice q0a q0b q0c))) := by
  have := HZa.out
  unfold CA at this ⊢
  rw [set_other _ _ _ _ _ (by omega)]
  exact this
 have HB := hid (HBa.out.setCell (p := ⟨w.heap.size,0,none⟩) (Nat.le_refl _) (.slice q0a q0b q0c))
 have HS : Hid (w.heap.size + 2 ≤ (w1.setCell ⟨w.heap.size,0,none⟩ (.slice q0a q0b q0c)).heap.size) := hid (by rw [World.setCell]; simpa using HSa.out)
 have hup : UP (w.heap.size + 2) w1 (w1.setCell ⟨w.heap.size,0,none⟩ (.slice q0a q0b q0c)) := fun b hb _ => set_other _ _ _ _ _ (by omega)
 replace HQ0 := hid (HU0.out _ _ _ _ hup HQ0.out)
 clear hup HXa HZa HBa HSa HBB
 generalize (w1.setCell ⟨w.heap.size,0,none⟩ (.slice q0a q0b q0c)) = W1 at *
 have x := HX.out.at (k := 1) (v := .slice p1 n1 c1) rfl
 go_upto_region 3 with (go_at_call 157; (with_reducible refine (HC1 _ HB.out).out.mono ?_); rintro e w2 ⟨q1,rfl,hx,hb⟩; obtain ⟨q1a,q1b,q1c⟩ := q1; have HXa := hid (HX.out.below hb HX.out.lt); have HZa := hid (HZ.out.below hb HZ.out.lt); have y := HXa.out.at (k := 1) (v := .slice p1 n1 c1) rfl; have f := HXa.out.free 1; have HBa := hid (HB.out.trans (hb.mono HB.out.size)); have HSa := hid (Nat.le_trans HS.out hb.size); have HQ1 := hid (HM1.out _ (w.heap.size + 2) _ _ HS.out hx); have HBB := hid hb; clear hx hb)
 clear x y f HX HZ HB HS
 have HX : Hid (CA w.heap.size #[.slice q0a q0b q0c,.slice q1a q1b q1c] 67 (w2.setCell ⟨w.heap.size,1,none⟩ (.slice q1a q1b q1c))) := HXa.out.set (k := 1) (.slice q1a q1b q1c)
 have HZ : Hid (CA (w.heap.size + 1) #[.slice none 0 0,.slice none 0 0] 67 (w2.setCell ⟨w.heap.size,1,none⟩ (.slice q1a q1b q1c))) := by
  have := HZa.out
  unfold CA at this ⊢
  rw [set_other _ _ _ _ _ (by omega)]
  exact this
 have HB := hid (HBa.out.setCell (p := ⟨w.heap.size,1,none⟩) (Nat.le_refl _) (.slice q1a q1b q1c))
 have HS : Hid (w.heap.size + 2 ≤ (w2.setCell ⟨w.heap.size,1,none⟩ (.slice q1a q1b q1c)).heap.size) := hid (by rw [World.setCell]; simpa using HSa.out)
 have hup : UP (w.heap.size + 2) w2 (w2.setCell ⟨w.heap.size,1,none⟩ (.slice q1a q1b q1c)) := fun b hb _ => set_other _ _ _ _ _ (by omega)
 replace HQ0 := hid (HU0.out _ _ _ _ hup (HU0.out _ _ _ _ (UP.of HBB.out) HQ0.out))
 replace HQ1 := hid (HU1.out _ _ _ _ hup HQ1.out)
 clear hup HXa HZa HBa HSa HBB
 generalize (w2.setCell ⟨w.heap.size,1,none⟩ (.slice q1a q1b q1c)) = W2 at *
 have x0 := HX.out.at (k := 0) (v := .slice q0a q0b q0c) rfl
 have z0 := HZ.out.at (k := 0) (v := .slice none 0 0) rfl
 have f0 := HZ.out.free 0
 have x1 := HX.out.at (k := 1) (v := .slice q1a q1b q1c) rfl
 have z1 := HZ.out.at (k := 1) (v := .slice none 0 0) rfl
 have f1 := HZ.out.free 1
 go_wp2
 have hS := setL_ok 67 (w.heap.size + 1) 2 [.slice q0a q0b q0c,.slice q1a q1b q1c] 0 W2 #[.slice none 0 0,.slice none 0 0] HZ.out rfl (by simp)
 have hu : UP (w.heap.size + 2) W2 (setL W2 (w.heap.size + 1) 0 [.slice q0a q0b q0c,.slice q1a q1b q1c]) := fun b hb _ => hS.other b (by omega)
 have r0 := hS.here 0 _ rfl
 have r1 := hS.here 1 _ rfl
 simp only [setL,Nat.zero_add] at r0 r1
 have hb : Below w.heap.size w (setL W2 (w.heap.size + 1) 0 [.slice q0a q0b q0c,.slice q1a q1b q1c]) := ((HB.out.setCell (p := ⟨w.heap.size + 1,0,none⟩) (Nat.le_succ _) (.slice q0a q0b q0c)).setCell (p := ⟨w.heap.size + 1,1,none⟩) (Nat.le_succ _) (.slice q1a q1b q1c))
 exact bodyPost_ret (v := .agg #[.slice q0a q0b q0c,.slice q1a q1b q1c]) (by simp [results,Tryz.results61,go_sem,r0,r1]) rfl ⟨(q0a,q0b,q0c),(q1a,q1b,q1c),rfl,HM0.out _ _ _ _ (by omega) (HU0.out _ _ _ _ hu HQ0.out),HM1.out _ _ _ _ (by omega) (HU1.out _ _ _ _ hu HQ1.out),hb⟩
set_option maxHeartbeats 8000000 in
theorem cpFunc (X1 : Nat → (Option Addr × Nat × Nat) → World → Prop) (hm1 : ∀ s s' q W,s' ≤ s → X1 s q W → X1 s' q W) (hu1 : ∀ s q W W',UP s W W' → X1 s q W → X1 s q W') (X2 : Nat → (Option Addr × Nat × Nat) → World → Prop) (hm2 : ∀ s s' q W,s' ≤ s → X2 s q W → X2 s' q W) (hu2 : ∀ s q W W',UP s W W' → X2 s q W → X2 s q W') (t0 : Int) (p1 : Option Addr) (n1 c1 : Nat) (p2 : Option Addr) (n2 c2 : Nat) (w : World)
  (hc1 : ∀ W,Below w.heap.size w W → Calls Tryz.prog 157 #[.slice p1 n1 c1,.func (.func 158) #[] #[]] W fun e w' => ∃ q,e = .returned (.slice q.1 q.2.1 q.2.2) ∧ X1 W.heap.size q w' ∧ Below W.heap.size W w')
  (hc2 : ∀ W,Below w.heap.size w W → Calls Tryz.prog 159 #[.slice p2 n2 c2] W fun e w' => ∃ q,e = .returned (.slice q.1 q.2.1 q.2.2) ∧ X2 W.heap.size q w' ∧ Below W.heap.size W w') :
  Calls Tryz.prog 65 #[.agg #[.int .i64 t0,.slice p1 n1 c1,.slice p2 n2 c2]] w fun e w' => ∃ q1 q2,e = .returned (.agg #[.int .i64 t0,.slice q1.1 q1.2.1 q1.2.2,.slice q2.1 q2.2.1 q2.2.2]) ∧ X1 w.heap.size q1 w' ∧ X2 w.heap.size q2 w' ∧ Below w.heap.size w w' := by
 have HC1 := fun W h => hid (hc1 W h)
 have HM1 := hid hm1
 have HU1 := hid hu1
 have HC2 := fun W h => hid (hc2 W h)
 have HM2 := hid hm2
 have HU2 := hid hu2
 clear hc1 hm1 hu1 hc2 hm2 hu2
 have HX := hid ((CA.new w #[.int .i64 t0,.slice p1 n1 c1,.slice p2 n2 c2] 42).alloc (.cells #[.int .i64 0,.slice none 0 0,.slice none 0 0] 42))
 have HZ := hid (CA.new (w.alloc (.cells #[.int .i64 t0,.slice p1 n1 c1,.slice p2 n2 c2] 42)) #[.int .i64 0,.slice none 0 0,.slice none 0 0] 42)
 rw [size_al] at HZ
 have HB := hid (((Below.refl w.heap.size w).alloc (Nat.le_refl _) (.cells #[.int .i64 t0,.slice p1 n1 c1,.slice p2 n2 c2] 42)).alloc (by rw [size_al]; omega) (.cells #[.int .i64 0,.slice none 0 0,.slice none 0 0] 42))
 have HS := hid (show w.heap.size + 2 ≤ ((w.alloc (.cells #[.int .i64 t0,.slice p1 n1 c1,.slice p2 n2 c2] 42)).alloc (.cells #[.int .i64 0,.slice none 0 0,.slice none 0 0] 42)).heap.size by rw [size_al,size_al]; omega)
 go_enter Tryz.func65,Tryz.ntmps65
 go_upto_region 1 with fail
 generalize ((w.alloc (.cells #[.int .i64 t0,.slice p1 n1 c1,.slice p2 n2 c2] 42)).alloc (.cells #[.int .i64 0,.slice none 0 0,.slice none 0 0] 42)) = W0 at *
 have x := HX.out.at (k := 1) (v := .slice p1 n1 c1) rfl
 go_upto_region 2 with (go_at_call 157; (with_reducible refine (HC1 _ HB.out).out.mono ?_); rintro e w1 ⟨q1,rfl,hx,hb⟩; obtain ⟨q1a,q1b,q1c⟩ := q1; have HXa := hid (HX.out.below hb HX.out.lt); have HZa := hid (HZ.out.below hb HZ.out.lt); have y := HXa.out.at (k := 1) (v := .slice p1 n1 c1) rfl; have f := HXa.out.free 1; have HBa := hid (HB.out.trans (hb.mono HB.out.size)); have HSa := hid (Nat.le_trans HS.out hb.size); have HQ1 := hid (HM1.out _ (w.heap.size + 2) _ _ HS.out hx); have HBB := hid hb; clear hx hb)
 clear x y f HX HZ HB HS
 have HX : Hid (CA w.heap.size #[.int .i64 t0,.slice q1a q1b q1c,.slice p2 n2 c2] 42 (w1.setCell ⟨w.heap.size,1,none⟩ (.slice q1a q1b q1c))) := HXa.out.set (k := 1) (.slice q1a q1b q1c)
 have HZ : Hid (CA (w.heap.size + 1) #[.int .i64 0,.slice none 0 0,.slice none 0 0] 42 (w1.setCell ⟨w.heap.size,1,none⟩ (.slice q1a q1b q1c))) := by
  have := HZa.out
  unfold CA at this ⊢
  rw [set_other _ _ _ _ _ (by omega)]
  exact this
 have HB := hid (HBa.out.setCell (p := ⟨w.heap.size,1,none⟩) (Nat.le_refl _) (.slice q1a q1b q1c))
 have HS : Hid (w.heap.size + 2 ≤ (w1.setCell ⟨w.heap.size,1,none⟩ (.slice q1a q1b q1c)).heap.size) := hid (by rw [World.setCell]; simpa using HSa.out)
 have hup : UP (w.heap.size + 2) w1 (w1.setCell ⟨w.heap.size,1,none⟩ (.slice q1a q1b q1c)) := fun b hb _ => set_other _ _ _ _ _ (by omega)
 replace HQ1 := hid (HU1.out _ _ _ _ hup HQ1.out)
 clear hup HXa HZa HBa HSa HBB
 generalize (w1.setCell ⟨w.heap.size,1,none⟩ (.slice q1a q1b q1c)) = W1 at *
 have x := HX.out.at (k := 2) (v := .slice p2 n2 c2) rfl
 go_upto_region 3 with (go_at_call 159; (with_reducible refine (HC2 _ HB.out).out.mono ?_); rintro e w2 ⟨q2,rfl,hx,hb⟩; obtain ⟨q2a,q2b,q2c⟩ := q2; have HXa := hid (HX.out.below hb HX.out.lt); have HZa := hid (HZ.out.below hb HZ.out.lt); have y := HXa.out.at (k := 2) (v := .slice p2 n2 c2) rfl; have f := HXa.out.free 2; have HBa := hid (HB.out.trans (hb.mono HB.out.size)); have HSa := hid (Nat.le_trans HS.out hb.size); have HQ2 := hid (HM2.out _ (w.heap.size + 2) _ _ HS.out hx); have HBB := hid hb; clear hx hb)
 clear x y f HX HZ HB HS
 have HX : Hid (CA w.heap.size #[.int .i64 t0,.slice q1a q1b q1c,.slice q2a q2b q2c] 42 (w2.setCell ⟨w.heap.size,2,none⟩ (.slice q2a q2b q2c))) := HXa.out.set (k := 2) (.slice q2a q2b q2c)
 have HZ : Hid (CA (w.heap.size + 1) #[.int .i64 0,.slice none 0 0,.slice none 0 0] 42 (w2.setCell ⟨w.heap.size,2,none⟩ (.slice q2a q2b q2c))) := by
  have := HZa.out
  unfold CA at this ⊢
  rw [set_other _ _ _ _ _ (by omega)]
  exact this
 have HB := hid (HBa.out.setCell (p := ⟨w.heap.size,2,none⟩) (Nat.le_refl _) (.slice q2a q2b q2c))
 have HS : Hid (w.heap.size + 2 ≤ (w2.setCell ⟨w.heap.size,2,none⟩ (.slice q2a q2b q2c)).heap.size) := hid (by rw [World.setCell]; simpa using HSa.out)
 have hup : UP (w.heap.size + 2) w2 (w2.setCell ⟨w.heap.size,2,none⟩ (.slice q2a q2b q2c)) := fun b hb _ => set_other _ _ _ _ _ (by omega)
 replace HQ1 := hid (HU1.out _ _ _ _ hup (HU1.out _ _ _ _ (UP.of HBB.out) HQ1.out))
 replace HQ2 := hid (HU2.out _ _ _ _ hup HQ2.out)
 clear hup HXa HZa HBa HSa HBB
 generalize (w2.setCell ⟨w.heap.size,2,none⟩ (.slice q2a q2b q2c)) = W2 at *
 have x0 := HX.out.at (k := 0) (v := .int .i64 t0) rfl
 have z0 := HZ.out.at (k := 0) (v := .int .i64 0) rfl
 have f0 := HZ.out.free 0
 have x1 := HX.out.at (k := 1) (v := .slice q1a q1b q1c) rfl
 have z1 := HZ.out.at (k := 1) (v := .slice none 0 0) rfl
 have f1 := HZ.out.free 1
 have x2 := HX.out.at (k := 2) (v := .slice q2a q2b q2c) rfl
 have z2 := HZ.out.at (k := 2) (v := .slice none 0 0) rfl
 have f2 := HZ.out.free 2
 go_wp2
 have hS := setL_ok 42 (w.heap.size + 1) 3 [.int .i64 t0,.slice q1a q1b q1c,.slice q2a q2b q2c] 0 W2 #[.int .i64 0,.slice none 0 0,.slice none 0 0] HZ.out rfl (by simp)
 have hu : UP (w.heap.size + 2) W2 (setL W2 (w.heap.size + 1) 0 [.int .i64 t0,.slice q1a q1b q1c,.slice q2a q2b q2c]) := fun b hb _ => hS.other b (by omega)
 have r0 := hS.here 0 _ rfl
 have r1 := hS.here 1 _ rfl
 have r2 := hS.here 2 _ rfl
 simp only [setL,Nat.zero_add] at r0 r1 r2
 have hb : Below w.heap.size w (setL W2 (w.heap.size + 1) 0 [.int .i64 t0,.slice q1a q1b q1c,.slice q2a q2b q2c]) := (((HB.out.setCell (p := ⟨w.heap.size + 1,0,none⟩) (Nat.le_succ _) (.int .i64 t0)).setCell (p := ⟨w.heap.size + 1,1,none⟩) (Nat.le_succ _) (.slice q1a q1b q1c)).setCell (p := ⟨w.heap.size + 1,2,none⟩) (Nat.le_succ _) (.slice q2a q2b q2c))
 exact bodyPost_ret (v := .agg #[.int .i64 t0,.slice q1a q1b q1c,.slice q2a q2b q2c]) (by simp [results,Tryz.results65,go_sem,r0,r1,r2]) rfl ⟨(q1a,q1b,q1c),(q2a,q2b,q2c),rfl,HM1.out _ _ _ _ (by omega) (HU1.out _ _ _ _ hu HQ1.out),HM2.out _ _ _ _ (by omega) (HU2.out _ _ _ _ hu HQ2.out),hb⟩
set_option maxHeartbeats 8000000 in
theorem cpGlobal (X2 : Nat → (Option Addr × Nat × Nat) → World → Prop) (hm2 : ∀ s s' q W,s' ≤ s → X2 s q W → X2 s' q W) (hu2 : ∀ s q W W',UP s W W' → X2 s q W → X2 s q W') (t0 : Int) (o1 : Bool) (p2 : Option Addr) (n2 c2 : Nat) (w : World)
  (hc2 : ∀ W,Below w.heap.size w W → Calls Tryz.prog 159 #[.slice p2 n2 c2] W fun e w' => ∃ q,e = .returned (.slice q.1 q.2.1 q.2.2) ∧ X2 W.heap.size q w' ∧ Below W.heap.size W w') :
  Calls Tryz.prog 71 #[.agg #[.int .i64 t0,.bool o1,.slice p2 n2 c2]] w fun e w' => ∃ q2,e = .returned (.agg #[.int .i64 t0,.bool o1,.slice q2.1 q2.2.1 q2.2.2]) ∧ X2 w.heap.size q2 w' ∧ Below w.heap.size w w' := by
 have HC2 := fun W h => hid (hc2 W h)
 have HM2 := hid hm2
 have HU2 := hid hu2
 clear hc2 hm2 hu2
 have HX := hid ((CA.new w #[.int .i64 t0,.bool o1,.slice p2 n2 c2] 46).alloc (.cells #[.int .i64 0,.bool false,.slice none 0 0] 46))
 have HZ := hid (CA.new (w.alloc (.cells #[.int .i64 t0,.bool o1,.slice p2 n2 c2] 46)) #[.int .i64 0,.bool false,.slice none 0 0] 46)
 rw [size_al] at HZ
 have HB := hid (((Below.refl w.heap.size w).alloc (Nat.le_refl _) (.cells #[.int .i64 t0,.bool o1,.slice p2 n2 c2] 46)).alloc (by rw [size_al]; omega) (.cells #[.int .i64 0,.bool false,.slice none 0 0] 46))
 have HS := hid (show w.heap.size + 2 ≤ ((w.alloc (.cells #[.int .i64 t0,.bool o1,.slice p2 n2 c2] 46)).alloc (.cells #[.int .i64 0,.bool false,.slice none 0 0] 46)).heap.size by rw [size_al,size_al]; omega)
 go_enter Tryz.func71,Tryz.ntmps71
 go_upto_region 1 with fail
 generalize ((w.alloc (.cells #[.int .i64 t0,.bool o1,.slice p2 n2 c2] 46)).alloc (.cells #[.int .i64 0,.bool false,.slice none 0 0] 46)) = W0 at *
 have x := HX.out.at (k := 2) (v := .slice p2 n2 c2) rfl
 go_upto_region 2 with (go_at_call 159; (with_reducible refine (HC2 _ HB.out).out.mono ?_); rintro e w1 ⟨q2,rfl,hx,hb⟩; obtain ⟨q2a,q2b,q2c⟩ := q2; have HXa := hid (HX.out.below hb HX.out.lt); have HZa := hid (HZ.out.below hb HZ.out.lt); have y := HXa.out.at (k := 2) (v := .slice p2 n2 c2) rfl; have f := HXa.out.free 2; have HBa := hid (HB.out.trans (hb.mono HB.out.size)); have HSa := hid (Nat.le_trans HS.out hb.size); have HQ2 := hid (HM2.out _ (w.heap.size + 2) _ _ HS.out hx); have HBB := hid hb; clear hx hb)
 clear x y f HX HZ HB HS
 have HX : Hid (CA w.heap.size #[.int .i64 t0,.bool o1,.slice q2a q2b q2c] 46 (w1.setCell ⟨w.heap.size,2,none⟩ (.slice q2a q2b q2c))) := HXa.out.set (k := 2) (.slice q2a q2b q2c)
 have HZ : Hid (CA (w.heap.size + 1) #[.int .i64 0,.bool false,.slice none 0 0] 46 (w1.setCell ⟨w.heap.size,2,none⟩ (.slice q2a q2b q2c))) := by
  have := HZa.out
  unfold CA at this ⊢
  rw [set_other _ _ _ _ _ (by omega)]
  exact this
 have HB := hid (HBa.out.setCell (p := ⟨w.heap.size,2,none⟩) (Nat.le_refl _) (.slice q2a q2b q2c))
 have HS : Hid (w.heap.size + 2 ≤ (w1.setCell ⟨w.heap.size,2,none⟩ (.slice q2a q2b q2c)).heap.size) := hid (by rw [World.setCell]; simpa using HSa.out)
 have hup : UP (w.heap.size + 2) w1 (w1.setCell ⟨w.heap.size,2,none⟩ (.slice q2a q2b q2c)) := fun b hb _ => set_other _ _ _ _ _ (by omega)
 replace HQ2 := hid (HU2.out _ _ _ _ hup HQ2.out)
 clear hup HXa HZa HBa HSa HBB
 generalize (w1.setCell ⟨w.heap.size,2,none⟩ (.slice q2a q2b q2c)) = W1 at *
 have x0 := HX.out.at (k := 0) (v := .int .i64 t0) rfl
 have z0 := HZ.out.at (k := 0) (v := .int .i64 0) rfl
 have f0 := HZ.out.free 0
 have x1 := HX.out.at (k := 1) (v := .bool o1) rfl
 have z1 := HZ.out.at (k := 1) (v := .bool false) rfl
 have f1 := HZ.out.free 1
 have x2 := HX.out.at (k := 2) (v := .slice q2a q2b q2c) rfl
 have z2 := HZ.out.at (k := 2) (v := .slice none 0 0) rfl
 have f2 := HZ.out.free 2
 go_wp2
 have hS := setL_ok 46 (w.heap.size + 1) 3 [.int .i64 t0,.bool o1,.slice q2a q2b q2c] 0 W1 #[.int .i64 0,.bool false,.slice none 0 0] HZ.out rfl (by simp)
 have hu : UP (w.heap.size + 2) W1 (setL W1 (w.heap.size + 1) 0 [.int .i64 t0,.bool o1,.slice q2a q2b q2c]) := fun b hb _ => hS.other b (by omega)
 have r0 := hS.here 0 _ rfl
 have r1 := hS.here 1 _ rfl
 have r2 := hS.here 2 _ rfl
 simp only [setL,Nat.zero_add] at r0 r1 r2
 have hb : Below w.heap.size w (setL W1 (w.heap.size + 1) 0 [.int .i64 t0,.bool o1,.slice q2a q2b q2c]) := (((HB.out.setCell (p := ⟨w.heap.size + 1,0,none⟩) (Nat.le_succ _) (.int .i64 t0)).setCell (p := ⟨w.heap.size + 1,1,none⟩) (Nat.le_succ _) (.bool o1)).setCell (p := ⟨w.heap.size + 1,2,none⟩) (Nat.le_succ _) (.slice q2a q2b q2c))
 exact bodyPost_ret (v := .agg #[.int .i64 t0,.bool o1,.slice q2a q2b q2c]) (by simp [results,Tryz.results71,go_sem,r0,r1,r2]) rfl ⟨(q2a,q2b,q2c),rfl,HM2.out _ _ _ _ (by omega) (HU2.out _ _ _ _ hu HQ2.out),hb⟩
set_option maxHeartbeats 8000000 in
theorem cpElem (X3 : Nat → (Option Addr × Nat × Nat) → World → Prop) (hm3 : ∀ s s' q W,s' ≤ s → X3 s q W → X3 s' q W) (hu3 : ∀ s q W W',UP s W W' → X3 s q W → X3 s q W') (X4 : Nat → (Option Addr × Nat × Nat) → World → Prop) (hm4 : ∀ s s' q W,s' ≤ s → X4 s q W → X4 s' q W) (hu4 : ∀ s q W W',UP s W W' → X4 s q W → X4 s q W') (t0 : Int) (t1 : Int) (t2 : Int) (p3 : Option Addr) (n3 c3 : Nat) (p4 : Option Addr) (n4 c4 : Nat) (w : World)
  (hc3 : ∀ W,Below w.heap.size w W → Calls Tryz.prog 159 #[.slice p3 n3 c3] W fun e w' => ∃ q,e = .returned (.slice q.1 q.2.1 q.2.2) ∧ X3 W.heap.size q w' ∧ Below W.heap.size W w')
  (hc4 : ∀ W,Below w.heap.size w W → Calls Tryz.prog 160 #[.slice p4 n4 c4,.func (.func 159) #[] #[]] W fun e w' => ∃ q,e = .returned (.slice q.1 q.2.1 q.2.2) ∧ X4 W.heap.size q w' ∧ Below W.heap.size W w') :
  Calls Tryz.prog 75 #[.agg #[.int .i64 t0,.int .i64 t1,.int .i64 t2,.slice p3 n3 c3,.slice p4 n4 c4]] w fun e w' => ∃ q3 q4,e = .returned (.agg #[.int .i64 t0,.int .i64 t1,.int .i64 t2,.slice q3.1 q3.2.1 q3.2.2,.slice q4.1 q4.2.1 q4.2.2]) ∧ X3 w.heap.size q3 w' ∧ X4 w.heap.size q4 w' ∧ Below w.heap.size w w' := by
 have HC3 := fun W h => hid (hc3 W h)
 have HM3 := hid hm3
 have HU3 := hid hu3
 have HC4 := fun W h => hid (hc4 W h)
 have HM4 := hid hm4
 have HU4 := hid hu4
 clear hc3 hm3 hu3 hc4 hm4 hu4
 have HX := hid ((CA.new w #[.int .i64 t0,.int .i64 t1,.int .i64 t2,.slice p3 n3 c3,.slice p4 n4 c4] 62).alloc (.cells #[.int .i64 0,.int .i64 0,.int .i64 0,.slice none 0 0,.slice none 0 0] 62))
 have HZ := hid (CA.new (w.alloc (.cells #[.int .i64 t0,.int .i64 t1,.int .i64 t2,.slice p3 n3 c3,.slice p4 n4 c4] 62)) #[.int .i64 0,.int .i64 0,.int .i64 0,.slice none 0 0,.slice none 0 0] 62)
 rw [size_al] at HZ
 have HB := hid (((Below.refl w.heap.size w).alloc (Nat.le_refl _) (.cells #[.int .i64 t0,.int .i64 t1,.int .i64 t2,.slice p3 n3 c3,.slice p4 n4 c4] 62)).alloc (by rw [size_al]; omega) (.cells #[.int .i64 0,.int .i64 0,.int .i64 0,.slice none 0 0,.slice none 0 0] 62))
 have HS := hid (show w.heap.size + 2 ≤ ((w.alloc (.cells #[.int .i64 t0,.int .i64 t1,.int .i64 t2,.slice p3 n3 c3,.slice p4 n4 c4] 62)).alloc (.cells #[.int .i64 0,.int .i64 0,.int .i64 0,.slice none 0 0,.slice none 0 0] 62)).heap.size by rw [size_al,size_al]; omega)
 go_enter Tryz.func75,Tryz.ntmps75
 go_upto_region 1 with fail
 generalize ((w.alloc (.cells #[.int .i64 t0,.int .i64 t1,.int .i64 t2,.slice p3 n3 c3,.slice p4 n4 c4] 62)).alloc (.cells #[.int .i64 0,.int .i64 0,.int .i64 0,.slice none 0 0,.slice none 0 0] 62)) = W0 at *
 have x := HX.out.at (k := 3) (v := .slice p3 n3 c3) rfl
 go_upto_region 2 with (go_at_call 159; (with_reducible refine (HC3 _ HB.out).out.mono ?_); rintro e w1 ⟨q3,rfl,hx,hb⟩; obtain ⟨q3a,q3b,q3c⟩ := q3; have HXa := hid (HX.out.below hb HX.out.lt); have HZa := hid (HZ.out.below hb HZ.out.lt); have y := HXa.out.at (k := 3) (v := .slice p3 n3 c3) rfl; have f := HXa.out.free 3; have HBa := hid (HB.out.trans (hb.mono HB.out.size)); have HSa := hid (Nat.le_trans HS.out hb.size); have HQ3 := hid (HM3.out _ (w.heap.size + 2) _ _ HS.out hx); have HBB := hid hb; clear hx hb)
 clear x y f HX HZ HB HS
 have HX : Hid (CA w.heap.size #[.int .i64 t0,.int .i64 t1,.int .i64 t2,.slice q3a q3b q3c,.slice p4 n4 c4] 62 (w1.setCell ⟨w.heap.size,3,none⟩ (.slice q3a q3b q3c))) := HXa.out.set (k := 3) (.slice q3a q3b q3c)
 have HZ : Hid (CA (w.heap.size + 1) #[.int .i64 0,.int .i64 0,.int .i64 0,.slice none 0 0,.slice none 0 0] 62 (w1.setCell ⟨w.heap.size,3,none⟩ (.slice q3a q3b q3c))) := by
  have := HZa.out
  unfold CA at this ⊢
  rw [set_other _ _ _ _ _ (by omega)]
  exact this
 have HB := hid (HBa.out.setCell (p := ⟨w.heap.size,3,none⟩) (Nat.le_refl _) (.slice q3a q3b q3c))
 have HS : Hid (w.heap.size + 2 ≤ (w1.setCell ⟨w.heap.size,3,none⟩ (.slice q3a q3b q3c)).heap.size) := hid (by rw [World.setCell]; simpa using HSa.out)
 have hup : UP (w.heap.size + 2) w1 (w1.setCell ⟨w.heap.size,3,none⟩ (.slice q3a q3b q3c)) := fun b hb _ => set_other _ _ _ _ _ (by omega)
 replace HQ3 := hid (HU3.out _ _ _ _ hup HQ3.out)
 clear hup HXa HZa HBa HSa HBB
 generalize (w1.setCell ⟨w.heap.size,3,none⟩ (.slice q3a q3b q3c)) = W1 at *
 have x := HX.out.at (k := 4) (v := .slice p4 n4 c4) rfl
 go_upto_region 3 with (go_at_call 160; (with_reducible refine (HC4 _ HB.out).out.mono ?_); rintro e w2 ⟨q4,rfl,hx,hb⟩; obtain ⟨q4a,q4b,q4c⟩ := q4; have HXa := hid (HX.out.below hb HX.out.lt); have HZa := hid (HZ.out.below hb HZ.out.lt); have y := HXa.out.at (k := 4) (v := .slice p4 n4 c4) rfl; have f := HXa.out.free 4; have HBa := hid (HB.out.trans (hb.mono HB.out.size)); have HSa := hid (Nat.le_trans HS.out hb.size); have HQ4 := hid (HM4.out _ (w.heap.size + 2) _ _ HS.out hx); have HBB := hid hb; clear hx hb)
 clear x y f HX HZ HB HS
 have HX : Hid (CA w.heap.size #[.int .i64 t0,.int .i64 t1,.int .i64 t2,.slice q3a q3b q3c,.slice q4a q4b q4c] 62 (w2.setCell ⟨w.heap.size,4,none⟩ (.slice q4a q4b q4c))) := HXa.out.set (k := 4) (.slice q4a q4b q4c)
 have HZ : Hid (CA (w.heap.size + 1) #[.int .i64 0,.int .i64 0,.int .i64 0,.slice none 0 0,.slice none 0 0] 62 (w2.setCell ⟨w.heap.size,4,none⟩ (.slice q4a q4b q4c))) := by
  have := HZa.out
  unfold CA at this ⊢
  rw [set_other _ _ _ _ _ (by omega)]
  exact this
 have HB := hid (HBa.out.setCell (p := ⟨w.heap.size,4,none⟩) (Nat.le_refl _) (.slice q4a q4b q4c))
 have HS : Hid (w.heap.size + 2 ≤ (w2.setCell ⟨w.heap.size,4,none⟩ (.slice q4a q4b q4c)).heap.size) := hid (by rw [World.setCell]; simpa using HSa.out)
 have hup : UP (w.heap.size + 2) w2 (w2.setCell ⟨w.heap.size,4,none⟩ (.slice q4a q4b q4c)) := fun b hb _ => set_other _ _ _ _ _ (by omega)
 replace HQ3 := hid (HU3.out _ _ _ _ hup (HU3.out _ _ _ _ (UP.of HBB.out) HQ3.out))
 replace HQ4 := hid (HU4.out _ _ _ _ hup HQ4.out)
 clear hup HXa HZa HBa HSa HBB
 generalize (w2.setCell ⟨w.heap.size,4,none⟩ (.slice q4a q4b q4c)) = W2 at *
 have x0 := HX.out.at (k := 0) (v := .int .i64 t0) rfl
 have z0 := HZ.out.at (k := 0) (v := .int .i64 0) rfl
 have f0 := HZ.out.free 0
 have x1 := HX.out.at (k := 1) (v := .int .i64 t1) rfl
 have z1 := HZ.out.at (k := 1) (v := .int .i64 0) rfl
 have f1 := HZ.out.free 1
 have x2 := HX.out.at (k := 2) (v := .int .i64 t2) rfl
 have z2 := HZ.out.at (k := 2) (v := .int .i64 0) rfl
 have f2 := HZ.out.free 2
 have x3 := HX.out.at (k := 3) (v := .slice q3a q3b q3c) rfl
 have z3 := HZ.out.at (k := 3) (v := .slice none 0 0) rfl
 have f3 := HZ.out.free 3
 have x4 := HX.out.at (k := 4) (v := .slice q4a q4b q4c) rfl
 have z4 := HZ.out.at (k := 4) (v := .slice none 0 0) rfl
 have f4 := HZ.out.free 4
 go_wp2
 have hS := setL_ok 62 (w.heap.size + 1) 5 [.int .i64 t0,.int .i64 t1,.int .i64 t2,.slice q3a q3b q3c,.slice q4a q4b q4c] 0 W2 #[.int .i64 0,.int .i64 0,.int .i64 0,.slice none 0 0,.slice none 0 0] HZ.out rfl (by simp)
 have hu : UP (w.heap.size + 2) W2 (setL W2 (w.heap.size + 1) 0 [.int .i64 t0,.int .i64 t1,.int .i64 t2,.slice q3a q3b q3c,.slice q4a q4b q4c]) := fun b hb _ => hS.other b (by omega)
 have r0 := hS.here 0 _ rfl
 have r1 := hS.here 1 _ rfl
 have r2 := hS.here 2 _ rfl
 have r3 := hS.here 3 _ rfl
 have r4 := hS.here 4 _ rfl
 simp only [setL,Nat.zero_add] at r0 r1 r2 r3 r4
 have hb : Below w.heap.size w (setL W2 (w.heap.size + 1) 0 [.int .i64 t0,.int .i64 t1,.int .i64 t2,.slice q3a q3b q3c,.slice q4a q4b q4c]) := (((((HB.out.setCell (p := ⟨w.heap.size + 1,0,none⟩) (Nat.le_succ _) (.int .i64 t0)).setCell (p := ⟨w.heap.size + 1,1,none⟩) (Nat.le_succ _) (.int .i64 t1)).setCell (p := ⟨w.heap.size + 1,2,none⟩) (Nat.le_succ _) (.int .i64 t2)).setCell (p := ⟨w.heap.size + 1,3,none⟩) (Nat.le_succ _) (.slice q3a q3b q3c)).setCell (p := ⟨w.heap.size + 1,4,none⟩) (Nat.le_succ _) (.slice q4a q4b q4c))
 exact bodyPost_ret (v := .agg #[.int .i64 t0,.int .i64 t1,.int .i64 t2,.slice q3a q3b q3c,.slice q4a q4b q4c]) (by simp [results,Tryz.results75,go_sem,r0,r1,r2,r3,r4]) rfl ⟨(q3a,q3b,q3c),(q4a,q4b,q4c),rfl,HM3.out _ _ _ _ (by omega) (HU3.out _ _ _ _ hu HQ3.out),HM4.out _ _ _ _ (by omega) (HU4.out _ _ _ _ hu HQ4.out),hb⟩
set_option maxHeartbeats 8000000 in
theorem cpData (X2 : Nat → (Option Addr × Nat × Nat) → World → Prop) (hm2 : ∀ s s' q W,s' ≤ s → X2 s q W → X2 s' q W) (hu2 : ∀ s q W W',UP s W W' → X2 s q W → X2 s q W') (X3 : Nat → (Option Addr × Nat × Nat) → World → Prop) (hm3 : ∀ s s' q W,s' ≤ s → X3 s q W → X3 s' q W) (hu3 : ∀ s q W W',UP s W W' → X3 s q W → X3 s q W') (t0 : Int) (t1 : Int) (p2 : Option Addr) (n2 c2 : Nat) (p3 : Option Addr) (n3 c3 : Nat) (w : World)
  (hc2 : ∀ W,Below w.heap.size w W → Calls Tryz.prog 159 #[.slice p2 n2 c2] W fun e w' => ∃ q,e = .returned (.slice q.1 q.2.1 q.2.2) ∧ X2 W.heap.size q w' ∧ Below W.heap.size W w')
  (hc3 : ∀ W,Below w.heap.size w W → Calls Tryz.prog 161 #[.slice p3 n3 c3,.func (.func 162) #[] #[]] W fun e w' => ∃ q,e = .returned (.slice q.1 q.2.1 q.2.2) ∧ X3 W.heap.size q w' ∧ Below W.heap.size W w') :
  Calls Tryz.prog 77 #[.agg #[.int .i64 t0,.int .i64 t1,.slice p2 n2 c2,.slice p3 n3 c3]] w fun e w' => ∃ q2 q3,e = .returned (.agg #[.int .i64 t0,.int .i64 t1,.slice q2.1 q2.2.1 q2.2.2,.slice q3.1 q3.2.1 q3.2.2]) ∧ X2 w.heap.size q2 w' ∧ X3 w.heap.size q3 w' ∧ Below w.heap.size w w' := by
 have HC2 := fun W h => hid (hc2 W h)
 have HM2 := hid hm2
 have HU2 := hid hu2
 have HC3 := fun W h => hid (hc3 W h)
 have HM3 := hid hm3
 have HU3 := hid hu3
 clear hc2 hm2 hu2 hc3 hm3 hu3
 have HX := hid ((CA.new w #[.int .i64 t0,.int .i64 t1,.slice p2 n2 c2,.slice p3 n3 c3] 64).alloc (.cells #[.int .i64 0,.int .i64 0,.slice none 0 0,.slice none 0 0] 64))
 have HZ := hid (CA.new (w.alloc (.cells #[.int .i64 t0,.int .i64 t1,.slice p2 n2 c2,.slice p3 n3 c3] 64)) #[.int .i64 0,.int .i64 0,.slice none 0 0,.slice none 0 0] 64)
 rw [size_al] at HZ
 have HB := hid (((Below.refl w.heap.size w).alloc (Nat.le_refl _) (.cells #[.int .i64 t0,.int .i64 t1,.slice p2 n2 c2,.slice p3 n3 c3] 64)).alloc (by rw [size_al]; omega) (.cells #[.int .i64 0,.int .i64 0,.slice none 0 0,.slice none 0 0] 64))
 have HS := hid (show w.heap.size + 2 ≤ ((w.alloc (.cells #[.int .i64 t0,.int .i64 t1,.slice p2 n2 c2,.slice p3 n3 c3] 64)).alloc (.cells #[.int .i64 0,.int .i64 0,.slice none 0 0,.slice none 0 0] 64)).heap.size by rw [size_al,size_al]; omega)
 go_enter Tryz.func77,Tryz.ntmps77
 go_upto_region 1 with fail
 generalize ((w.alloc (.cells #[.int .i64 t0,.int .i64 t1,.slice p2 n2 c2,.slice p3 n3 c3] 64)).alloc (.cells #[.int .i64 0,.int .i64 0,.slice none 0 0,.slice none 0 0] 64)) = W0 at *
 have x := HX.out.at (k := 2) (v := .slice p2 n2 c2) rfl
 go_upto_region 2 with (go_at_call 159; (with_reducible refine (HC2 _ HB.out).out.mono ?_); rintro e w1 ⟨q2,rfl,hx,hb⟩; obtain ⟨q2a,q2b,q2c⟩ := q2; have HXa := hid (HX.out.below hb HX.out.lt); have HZa := hid (HZ.out.below hb HZ.out.lt); have y := HXa.out.at (k := 2) (v := .slice p2 n2 c2) rfl; have f := HXa.out.free 2; have HBa := hid (HB.out.trans (hb.mono HB.out.size)); have HSa := hid (Nat.le_trans HS.out hb.size); have HQ2 := hid (HM2.out _ (w.heap.size + 2) _ _ HS.out hx); have HBB := hid hb; clear hx hb)
 clear x y f HX HZ HB HS
 have HX : Hid (CA w.heap.size #[.int .i64 t0,.int .i64 t1,.slice q2a q2b q2c,.slice p3 n3 c3] 64 (w1.setCell ⟨w.heap.size,2,none⟩ (.slice q2a q2b q2c))) := HXa.out.set (k := 2) (.slice q2a q2b q2c)
 have HZ : Hid (CA (w.heap.size + 1) #[.int .i64 0,.int .i64 0,.slice none 0 0,.slice none 0 0] 64 (w1.setCell ⟨w.heap.size,2,none⟩ (.slice q2a q2b q2c))) := by
  have := HZa.out
  unfold CA at this ⊢
  rw [set_other _ _ _ _ _ (by omega)]
  exact this
 have HB := hid (HBa.out.setCell (p := ⟨w.heap.size,2,none⟩) (Nat.le_refl _) (.slice q2a q2b q2c))
 have HS : Hid (w.heap.size + 2 ≤ (w1.setCell ⟨w.heap.size,2,none⟩ (.slice q2a q2b q2c)).heap.size) := hid (by rw [World.setCell]; simpa using HSa.out)
 have hup : UP (w.heap.size + 2) w1 (w1.setCell ⟨w.heap.size,2,none⟩ (.slice q2a q2b q2c)) := fun b hb _ => set_other _ _ _ _ _ (by omega)
 replace HQ2 := hid (HU2.out _ _ _ _ hup HQ2.out)
 clear hup HXa HZa HBa HSa HBB
 generalize (w1.setCell ⟨w.heap.size,2,none⟩ (.slice q2a q2b q2c)) = W1 at *
 have x := HX.out.at (k := 3) (v := .slice p3 n3 c3) rfl
 go_upto_region 3 with (go_at_call 161; (with_reducible refine (HC3 _ HB.out).out.mono ?_); rintro e w2 ⟨q3,rfl,hx,hb⟩; obtain ⟨q3a,q3b,q3c⟩ := q3; have HXa := hid (HX.out.below hb HX.out.lt); have HZa := hid (HZ.out.below hb HZ.out.lt); have y := HXa.out.at (k := 3) (v := .slice p3 n3 c3) rfl; have f := HXa.out.free 3; have HBa := hid (HB.out.trans (hb.mono HB.out.size)); have HSa := hid (Nat.le_trans HS.out hb.size); have HQ3 := hid (HM3.out _ (w.heap.size + 2) _ _ HS.out hx); have HBB := hid hb; clear hx hb)
 clear x y f HX HZ HB HS
 have HX : Hid (CA w.heap.size #[.int .i64 t0,.int .i64 t1,.slice q2a q2b q2c,.slice q3a q3b q3c] 64 (w2.setCell ⟨w.heap.size,3,none⟩ (.slice q3a q3b q3c))) := HXa.out.set (k := 3) (.slice q3a q3b q3c)
 have HZ : Hid (CA (w.heap.size + 1) #[.int .i64 0,.int .i64 0,.slice none 0 0,.slice none 0 0] 64 (w2.setCell ⟨w.heap.size,3,none⟩ (.slice q3a q3b q3c))) := by
  have := HZa.out
  unfold CA at this ⊢
  rw [set_other _ _ _ _ _ (by omega)]
  exact this
 have HB := hid (HBa.out.setCell (p := ⟨w.heap.size,3,none⟩) (Nat.le_refl _) (.slice q3a q3b q3c))
 have HS : Hid (w.heap.size + 2 ≤ (w2.setCell ⟨w.heap.size,3,none⟩ (.slice q3a q3b q3c)).heap.size) := hid (by rw [World.setCell]; simpa using HSa.out)
 have hup : UP (w.heap.size + 2) w2 (w2.setCell ⟨w.heap.size,3,none⟩ (.slice q3a q3b q3c)) := fun b hb _ => set_other _ _ _ _ _ (by omega)
 replace HQ2 := hid (HU2.out _ _ _ _ hup (HU2.out _ _ _ _ (UP.of HBB.out) HQ2.out))
 replace HQ3 := hid (HU3.out _ _ _ _ hup HQ3.out)
 clear hup HXa HZa HBa HSa HBB
 generalize (w2.setCell ⟨w.heap.size,3,none⟩ (.slice q3a q3b q3c)) = W2 at *
 have x0 := HX.out.at (k := 0) (v := .int .i64 t0) rfl
 have z0 := HZ.out.at (k := 0) (v := .int .i64 0) rfl
 have f0 := HZ.out.free 0
 have x1 := HX.out.at (k := 1) (v := .int .i64 t1) rfl
 have z1 := HZ.out.at (k := 1) (v := .int .i64 0) rfl
 have f1 := HZ.out.free 1
 have x2 := HX.out.at (k := 2) (v := .slice q2a q2b q2c) rfl
 have z2 := HZ.out.at (k := 2) (v := .slice none 0 0) rfl
 have f2 := HZ.out.free 2
 have x3 := HX.out.at (k := 3) (v := .slice q3a q3b q3c) rfl
 have z3 := HZ.out.at (k := 3) (v := .slice none 0 0) rfl
 have f3 := HZ.out.free 3
 go_wp2
 have hS := setL_ok 64 (w.heap.size + 1) 4 [.int .i64 t0,.int .i64 t1,.slice q2a q2b q2c,.slice q3a q3b q3c] 0 W2 #[.int .i64 0,.int .i64 0,.slice none 0 0,.slice none 0 0] HZ.out rfl (by simp)
 have hu : UP (w.heap.size + 2) W2 (setL W2 (w.heap.size + 1) 0 [.int .i64 t0,.int .i64 t1,.slice q2a q2b q2c,.slice q3a q3b q3c]) := fun b hb _ => hS.other b (by omega)
 have r0 := hS.here 0 _ rfl
 have r1 := hS.here 1 _ rfl
 have r2 := hS.here 2 _ rfl
 have r3 := hS.here 3 _ rfl
 simp only [setL,Nat.zero_add] at r0 r1 r2 r3
 have hb : Below w.heap.size w (setL W2 (w.heap.size + 1) 0 [.int .i64 t0,.int .i64 t1,.slice q2a q2b q2c,.slice q3a q3b q3c]) := ((((HB.out.setCell (p := ⟨w.heap.size + 1,0,none⟩) (Nat.le_succ _) (.int .i64 t0)).setCell (p := ⟨w.heap.size + 1,1,none⟩) (Nat.le_succ _) (.int .i64 t1)).setCell (p := ⟨w.heap.size + 1,2,none⟩) (Nat.le_succ _) (.slice q2a q2b q2c)).setCell (p := ⟨w.heap.size + 1,3,none⟩) (Nat.le_succ _) (.slice q3a q3b q3c))
 exact bodyPost_ret (v := .agg #[.int .i64 t0,.int .i64 t1,.slice q2a q2b q2c,.slice q3a q3b q3c]) (by simp [results,Tryz.results77,go_sem,r0,r1,r2,r3]) rfl ⟨(q2a,q2b,q2c),(q3a,q3b,q3c),rfl,HM2.out _ _ _ _ (by omega) (HU2.out _ _ _ _ hu HQ2.out),HM3.out _ _ _ _ (by omega) (HU3.out _ _ _ _ hu HQ3.out),hb⟩
end Go.Proofs.YtjgeedgphcjhoaaGreat
