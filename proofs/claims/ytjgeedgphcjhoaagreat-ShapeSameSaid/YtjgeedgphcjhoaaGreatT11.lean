/-
  Cop5, Cop6: merged, what the law does not reach left out (each text says what it holds where it lies in wip). No condition.
-/
import Derived.Test.YtjgeedgphcjhoaaGreatT10
import Derived.Test.YtjgeedgphcjhoaaGreatT01
set_option linter.unusedSimpArgs false
set_option linter.unusedVariables false
set_option maxRecDepth 100000
namespace Go.Proofs.YtjgeedgphcjhoaaGreat
open Go.RowKit
theorem cells_11 (w : World) (g : Nat) (cur : Array Value) (T : TypeId) (v0 v1 v2 v3 v4 v5 v6 v7 v8 v9 v10 : Value) (h : w.heap[g]? = some (.cells cur T (0,0))) (hs : cur.size = 11) : (((((((((((w.setCell ⟨g,0,none⟩ v0).setCell ⟨g,1,none⟩ v1).setCell ⟨g,2,none⟩ v2).setCell ⟨g,3,none⟩ v3).setCell ⟨g,4,none⟩ v4).setCell ⟨g,5,none⟩ v5).setCell ⟨g,6,none⟩ v6).setCell ⟨g,7,none⟩ v7).setCell ⟨g,8,none⟩ v8).setCell ⟨g,9,none⟩ v9).setCell ⟨g,10,none⟩ v10).cell? ⟨g,0,none⟩ = some v0 ∧ (((((((((((w.setCell ⟨g,0,none⟩ v0).setCell ⟨g,1,none⟩ v1).setCell ⟨g,2,none⟩ v2).setCell ⟨g,3,none⟩ v3).setCell ⟨g,4,none⟩ v4).setCell ⟨g,5,none⟩ v5).setCell ⟨g,6,none⟩ v6).setCell ⟨g,7,none⟩ v7).setCell ⟨g,8,none⟩ v8).setCell ⟨g,9,none⟩ v9).setCell ⟨g,10,none⟩ v10).cell? ⟨g,1,none⟩ = some v1 ∧ (((((((((((w.setCell ⟨g,0,none⟩ v0).setCell ⟨g,1,none⟩ v1).setCell ⟨g,2,none⟩ v2).setCell ⟨g,3,none⟩ v3).setCell ⟨g,4,none⟩ v4).setCell ⟨g,5,none⟩ v5).setCell ⟨g,6,none⟩ v6).setCell ⟨g,7,none⟩ v7).setCell ⟨g,8,none⟩ v8).setCell ⟨g,9,none⟩ v9).setCell ⟨g,10,none⟩ v10).cell? ⟨g,2,none⟩ = some v2 ∧ (((((((((((w.setCell ⟨g,0,none⟩ v0).setCell ⟨g,1,none⟩ v1).setCell ⟨g,2,none⟩ v2).setCell ⟨g,3,none⟩ v3).setCell ⟨g,4,none⟩ v4).setCell ⟨g,5,none⟩ v5).setCell ⟨g,6,none⟩ v6).setCell ⟨g,7,none⟩ v7).setCell ⟨g,8,none⟩ v8).setCell ⟨g,9,none⟩ v9).setCell ⟨g,10,none⟩ v10).cell? ⟨g,3,none⟩ = some v3 ∧ (((((((((((w.setCell ⟨g,0,none⟩ v0).setCell ⟨g,1,none⟩ v1).setCell ⟨g,2,none⟩ v2).setCell ⟨g,3,none⟩ v3).setCell ⟨g,4,none⟩ v4).setCell ⟨g,5,none⟩ v5).setCell ⟨g,6,none⟩ v6).setCell ⟨g,7,none⟩ v7).setCell ⟨g,8,none⟩ v8).setCell ⟨g,9,none⟩ v9).setCell ⟨g,10,none⟩ v10).cell? ⟨g,4,none⟩ = some v4 ∧ (((((((((((w.setCell ⟨g,0,none⟩ v0).setCell ⟨g,1,none⟩ v1).setCell ⟨g,2,none⟩ v2).setCell ⟨g,3,none⟩ v3).setCell ⟨g,4,none⟩ v4).setCell ⟨g,5,none⟩ v5).setCell ⟨g,6,none⟩ v6).setCell ⟨g,7,none⟩ v7).setCell ⟨g,8,none⟩ v8).setCell ⟨g,9,none⟩ v9).setCell ⟨g,10,none⟩ v10).cell? ⟨g,5,none⟩ = some v5 ∧ (((((((((((w.setCell ⟨g,0,none⟩ v0).setCell ⟨g,1,none⟩ v1).setCell ⟨g,2,none⟩ v2).setCell ⟨g,3,none⟩ v3).setCell ⟨g,4,none⟩ v4).setCell ⟨g,5,none⟩ v5).setCell ⟨g,6,none⟩ v6).setCell ⟨g,7,none⟩ v7).setCell ⟨g,8,none⟩ v8).setCell ⟨g,9,none⟩ v9).setCell ⟨g,10,none⟩ v10).cell? ⟨g,6,none⟩ = some v6 ∧ (((((((((((w.setCell ⟨g,0,none⟩ v0).setCell ⟨g,1,none⟩ v1).setCell ⟨g,2,none⟩ v2).setCell ⟨g,3,none⟩ v3).setCell ⟨g,4,none⟩ v4).setCell ⟨g,5,none⟩ v5).setCell ⟨g,6,none⟩ v6).setCell ⟨g,7,none⟩ v7).setCell ⟨g,8,none⟩ v8).setCell ⟨g,9,none⟩ v9).setCell ⟨g,10,none⟩ v10).cell? ⟨g,7,none⟩ = some v7 ∧ (((((((((((w.setCell ⟨g,0,none⟩ v0).setCell ⟨g,1,none⟩ v1).setCell ⟨g,2,none⟩ v2).setCell ⟨g,3,none⟩ v3).setCell ⟨g,4,none⟩ v4).setCell ⟨g,5,none⟩ v5).setCell ⟨g,6,none⟩ v6).setCell ⟨g,7,none⟩ v7).setCell ⟨g,8,none⟩ v8).setCell ⟨g,9,none⟩ v9).setCell ⟨g,10,none⟩ v10).cell? ⟨g,8,none⟩ = some v8 ∧ (((((((((((w.setCell ⟨g,0,none⟩ v0).setCell ⟨g,1,none⟩ v1).setCell ⟨g,2,none⟩ v2).setCell ⟨g,3,none⟩ v3).setCell ⟨g,4,none⟩ v4).setCell ⟨g,5,none⟩ v5).setCell ⟨g,6,none⟩ v6).setCell ⟨g,7,none⟩ v7).setCell ⟨g,8,none⟩ v8).setCell ⟨g,9,none⟩ v9).setCell ⟨g,10,none⟩ v10).cell? ⟨g,9,none⟩ = some v9 ∧ (((((((((((w.setCell ⟨g,0,none⟩ v0).setCell ⟨g,1,none⟩ v1).setCell ⟨g,2,none⟩ v2).setCell ⟨g,3,none⟩ v3).setCell ⟨g,4,none⟩ v4).setCell ⟨g,5,none⟩ v5).setCell ⟨g,6,none⟩ v6).setCell ⟨g,7,none⟩ v7).setCell ⟨g,8,none⟩ v8).setCell ⟨g,9,none⟩ v9).setCell ⟨g,10,none⟩ v10).cell? ⟨g,10,none⟩ = some v10 := by
 have h0 : CA g cur T w := h
 have h1 := CA.set (k := 0) h0 v0
 have h2 := CA.set (k := 1) h1 v1
 have h3 := CA.set (k := 2) h2 v2
 have h4 := CA.set (k := 3) h3 v3
 have h5 := CA.set (k := 4) h4 v4
 have h6 := CA.set (k := 5) h5 v5
 have h7 := CA.set (k := 6) h6 v6
 have h8 := CA.set (k := 7) h7 v7
 have h9 := CA.set (k := 8) h8 v8
 have h10 := CA.set (k := 9) h9 v9
 have h11 := CA.set (k := 10) h10 v10
 refine ⟨?_,?_,?_,?_,?_,?_,?_,?_,?_,?_,?_⟩
 all_goals exact h11.at (by simp [Array.getElem?_setIfInBounds,hs])
theorem cell_far {W : World} {c o g k : Nat} {v : Value} (h : c ≠ g) : (W.setCell ⟨c,o,none⟩ v).cell? ⟨g,k,none⟩ = W.cell? ⟨g,k,none⟩ := by
 unfold World.cell? World.setCell
 simp [Array.getElem?_modify,h]
structure Stay (X : Nat → Nat → World → Prop) : Prop where
 mono : ∀ s s' r W,s' ≤ s → X s r W → X s' r W
 store : ∀ s r W g j v,g < s → X s r W → X s r (W.setCell ⟨g,j,none⟩ v)
 below : ∀ s r W W',Below W.heap.size W W' → X s r W → X s r W'
set_option maxHeartbeats 16000000 in
theorem Copy_says (XT XF : Nat → Nat → World → Prop) (sT : Stay XT) (sF : Stay XF) (tg fg : Nat) (w : World)
  (hT : ∀ W,Below w.heap.size w W → Calls Tryz.prog 60 #[.slice (some ⟨tg,0,none⟩) 1 1,.func (.func 61) #[] #[]] W fun e w' => ∃ r,e = .returned (.slice (some ⟨r,0,none⟩) 1 1) ∧ XT W.heap.size r w' ∧ Below W.heap.size W w')
  (hF : ∀ W,Below w.heap.size w W → Calls Tryz.prog 64 #[.slice (some ⟨fg,0,none⟩) 1 1,.func (.func 65) #[] #[]] W fun e w' => ∃ r,e = .returned (.slice (some ⟨r,0,none⟩) 1 1) ∧ XF W.heap.size r w' ∧ Below W.heap.size W w') :
  Calls Tryz.prog 18 #[.agg #[.slice (some ⟨tg,0,none⟩) 1 1,.slice none 0 0,.slice (some ⟨fg,0,none⟩) 1 1,.slice none 0 0,.slice none 0 0,.slice none 0 0,.slice none 0 0,.int .i64 0,.slice none 0 0,.slice none 0 0,.bool false]] w fun e w' => ∃ tr fr,e = .returned (.agg #[.slice (some ⟨tr,0,none⟩) 1 1,.slice none 0 0,.slice (some ⟨fr,0,none⟩) 1 1,.slice none 0 0,.slice none 0 0,.slice none 0 0,.slice none 0 0,.int .i64 0,.slice none 0 0,.slice none 0 0,.bool false]) ∧ XT w.heap.size tr w' ∧ XF w.heap.size fr w' ∧ Below w.heap.size w w' := by
 have HN58 := fun W => hid (cop_nil_58 63 W)
 have HN62 := fun W => hid (cop_nil_62 67 W)
 have HN64 := fun W => hid (cop_nil_64 69 W)
 have HN66 := fun W => hid (cop_nil_66 71 W)
 have HN68 := fun W => hid (cop_nil_68 73 W)
 have HN70 := fun W => hid (cop_nil_70 75 W)
 have HN72 := fun W => hid (cop_nil_72 77 W)
 have HB0 := hid (((Below.refl w.heap.size w).alloc (Nat.le_refl _) (.cells #[.slice (some ⟨tg,0,none⟩) 1 1,.slice none 0 0,.slice (some ⟨fg,0,none⟩) 1 1,.slice none 0 0,.slice none 0 0,.slice none 0 0,.slice none 0 0,.int .i64 0,.slice none 0 0,.slice none 0 0,.bool false] 32)).alloc (by rw [size_al]; omega) (.cells #[.slice none 0 0,.slice none 0 0,.slice none 0 0,.slice none 0 0,.slice none 0 0,.slice none 0 0,.slice none 0 0,.int .i64 0,.slice none 0 0,.slice none 0 0,.bool false] 32))
 have HX0 := hid (CA.alloc (CA.new w #[.slice (some ⟨tg,0,none⟩) 1 1,.slice none 0 0,.slice (some ⟨fg,0,none⟩) 1 1,.slice none 0 0,.slice none 0 0,.slice none 0 0,.slice none 0 0,.int .i64 0,.slice none 0 0,.slice none 0 0,.bool false] 32) (.cells #[.slice none 0 0,.slice none 0 0,.slice none 0 0,.slice none 0 0,.slice none 0 0,.slice none 0 0,.slice none 0 0,.int .i64 0,.slice none 0 0,.slice none 0 0,.bool false] 32))
 have HZ0 := hid (CA.new (w.alloc (.cells #[.slice (some ⟨tg,0,none⟩) 1 1,.slice none 0 0,.slice (some ⟨fg,0,none⟩) 1 1,.slice none 0 0,.slice none 0 0,.slice none 0 0,.slice none 0 0,.int .i64 0,.slice none 0 0,.slice none 0 0,.bool false] 32)) #[.slice none 0 0,.slice none 0 0,.slice none 0 0,.slice none 0 0,.slice none 0 0,.slice none 0 0,.slice none 0 0,.int .i64 0,.slice none 0 0,.slice none 0 0,.bool false] 32)
 rw [size_al] at HZ0
 have hPW := hT ((w.alloc (.cells #[.slice (some ⟨tg,0,none⟩) 1 1,.slice none 0 0,.slice (some ⟨fg,0,none⟩) 1 1,.slice none 0 0,.slice none 0 0,.slice none 0 0,.slice none 0 0,.int .i64 0,.slice none 0 0,.slice none 0 0,.bool false] 32)).alloc (.cells #[.slice none 0 0,.slice none 0 0,.slice none 0 0,.slice none 0 0,.slice none 0 0,.slice none 0 0,.slice none 0 0,.int .i64 0,.slice none 0 0,.slice none 0 0,.bool false] 32)) HB0.out
 have hsz : ((w.alloc (.cells #[.slice (some ⟨tg,0,none⟩) 1 1,.slice none 0 0,.slice (some ⟨fg,0,none⟩) 1 1,.slice none 0 0,.slice none 0 0,.slice none 0 0,.slice none 0 0,.int .i64 0,.slice none 0 0,.slice none 0 0,.bool false] 32)).alloc (.cells #[.slice none 0 0,.slice none 0 0,.slice none 0 0,.slice none 0 0,.slice none 0 0,.slice none 0 0,.slice none 0 0,.int .i64 0,.slice none 0 0,.slice none 0 0,.bool false] 32)).heap.size = w.heap.size + 2 := by rw [size_al,size_al]
 rw [hsz] at hPW
 have HPX := hid hPW
 have HSZ := hid hsz
 have HFF := fun W h => hid (hF W h)
 have ST := hid sT
 have SF := hid sF
 clear hT hPW hF hsz sT sF
 go_enter Tryz.func18,Tryz.ntmps18
 go_upto_region 2 with (go_at_call 60; (with_reducible refine HPX.out.mono ?_); rintro e w1 ⟨tr,rfl,hx1,hb1⟩; have HX1 := hid (HX0.out.below hb1 (by rw [← HSZ.out]; exact HX0.out.lt)); have HZ1 := hid (HZ0.out.below hb1 (by omega)); have HB1 := hid (HB0.out.trans (hb1.mono (by omega))); have HT1 := hid hx1; have y0 := HX1.out.at (k := 0) (v := .slice (some ⟨tg,0,none⟩) 1 1) rfl; have f0 := HX1.out.free 0; clear hx1 hb1)
 have HX2 : Hid (CA w.heap.size #[.slice (some ⟨tr,0,none⟩) 1 1,.slice none 0 0,.slice (some ⟨fg,0,none⟩) 1 1,.slice none 0 0,.slice none 0 0,.slice none 0 0,.slice none 0 0,.int .i64 0,.slice none 0 0,.slice none 0 0,.bool false] 32 (w1.setCell ⟨w.heap.size,0,none⟩ (.slice (some ⟨tr,0,none⟩) 1 1))) := HX1.out.set (k := 0) (.slice (some ⟨tr,0,none⟩) 1 1)
 have HZ2 : Hid (CA (w.heap.size + 1) #[.slice none 0 0,.slice none 0 0,.slice none 0 0,.slice none 0 0,.slice none 0 0,.slice none 0 0,.slice none 0 0,.int .i64 0,.slice none 0 0,.slice none 0 0,.bool false] 32 (w1.setCell ⟨w.heap.size,0,none⟩ (.slice (some ⟨tr,0,none⟩) 1 1))) := by
  have := HZ1.out
  unfold CA at this ⊢
  rw [World.setCell,Array.getElem?_modify,if_neg (by show ¬ w.heap.size = w.heap.size + 1; omega)]
  exact this
 have HB2 := hid (HB1.out.setCell (p := ⟨w.heap.size,0,none⟩) (Nat.le_refl _) (.slice (some ⟨tr,0,none⟩) 1 1))
 have HT2 := hid (ST.out.store (w.heap.size + 2) tr _ w.heap.size 0 (.slice (some ⟨tr,0,none⟩) 1 1) (by omega) HT1.out)
 clear y0 f0
 generalize w1.setCell ⟨w.heap.size,0,none⟩ (.slice (some ⟨tr,0,none⟩) 1 1) = W2 at *
 have y1 := HX2.out.at (k := 1) (v := .slice none 0 0) rfl
 have f1 := HX2.out.free 1
 go_upto_region 3 with (go_at_call 62; (with_reducible refine (HN58 _).out.mono ?_); rintro e w9 ⟨rfl,rfl⟩)
 have HX3 : Hid (CA w.heap.size #[.slice (some ⟨tr,0,none⟩) 1 1,.slice none 0 0,.slice (some ⟨fg,0,none⟩) 1 1,.slice none 0 0,.slice none 0 0,.slice none 0 0,.slice none 0 0,.int .i64 0,.slice none 0 0,.slice none 0 0,.bool false] 32 (W2.setCell ⟨w.heap.size,1,none⟩ (.slice none 0 0))) := HX2.out.set (k := 1) (.slice none 0 0)
 have HZ3 : Hid (CA (w.heap.size + 1) #[.slice none 0 0,.slice none 0 0,.slice none 0 0,.slice none 0 0,.slice none 0 0,.slice none 0 0,.slice none 0 0,.int .i64 0,.slice none 0 0,.slice none 0 0,.bool false] 32 (W2.setCell ⟨w.heap.size,1,none⟩ (.slice none 0 0))) := by
  have := HZ2.out
  unfold CA at this ⊢
  rw [World.setCell,Array.getElem?_modify,if_neg (by show ¬ w.heap.size = w.heap.size + 1; omega)]
  exact this
 have HB3 := hid (HB2.out.setCell (p := ⟨w.heap.size,1,none⟩) (Nat.le_refl _) (.slice none 0 0))
 have HT3 := hid (ST.out.store (w.heap.size + 2) tr _ w.heap.size 1 (.slice none 0 0) (by omega) HT2.out)
 clear y1 f1
 generalize W2.setCell ⟨w.heap.size,1,none⟩ (.slice none 0 0) = W3 at *
 have y2 := HX3.out.at (k := 2) (v := .slice (some ⟨fg,0,none⟩) 1 1) rfl
 have HFW := HFF W3 HB3.out
 have HW3 := hid (show w.heap.size + 1 < W3.heap.size from HZ3.out.lt)
 go_upto_region 4 with (go_at_call 64; (with_reducible refine HFW.out.mono ?_); rintro e w4 ⟨fr,rfl,hx4,hb4⟩; have HX4 := hid (HX3.out.below hb4 HX3.out.lt); have HZ4 := hid (HZ3.out.below hb4 HZ3.out.lt); have HB4 := hid (HB3.out.trans (hb4.mono HB3.out.size)); have HT4 := hid (ST.out.below _ _ _ _ hb4 HT3.out); have HF4 := hid (SF.out.mono _ (w.heap.size + 2) _ _ (by have := HW3.out; omega) hx4); have z2 := HX4.out.at (k := 2) (v := .slice (some ⟨fg,0,none⟩) 1 1) rfl; have f2 := HX4.out.free 2; clear hx4 hb4)
 have HX5 : Hid (CA w.heap.size #[.slice (some ⟨tr,0,none⟩) 1 1,.slice none 0 0,.slice (some ⟨fr,0,none⟩) 1 1,.slice none 0 0,.slice none 0 0,.slice none 0 0,.slice none 0 0,.int .i64 0,.slice none 0 0,.slice none 0 0,.bool false] 32 (w4.setCell ⟨w.heap.size,2,none⟩ (.slice (some ⟨fr,0,none⟩) 1 1))) := HX4.out.set (k := 2) (.slice (some ⟨fr,0,none⟩) 1 1)
 have HZ5 : Hid (CA (w.heap.size + 1) #[.slice none 0 0,.slice none 0 0,.slice none 0 0,.slice none 0 0,.slice none 0 0,.slice none 0 0,.slice none 0 0,.int .i64 0,.slice none 0 0,.slice none 0 0,.bool false] 32 (w4.setCell ⟨w.heap.size,2,none⟩ (.slice (some ⟨fr,0,none⟩) 1 1))) := by
  have := HZ4.out
  unfold CA at this ⊢
  rw [World.setCell,Array.getElem?_modify,if_neg (by show ¬ w.heap.size = w.heap.size + 1; omega)]
  exact this
 have HB5 := hid (HB4.out.setCell (p := ⟨w.heap.size,2,none⟩) (Nat.le_refl _) (.slice (some ⟨fr,0,none⟩) 1 1))
 have HT5 := hid (ST.out.store (w.heap.size + 2) tr _ w.heap.size 2 (.slice (some ⟨fr,0,none⟩) 1 1) (by omega) HT4.out)
 have HF5 := hid (SF.out.store (w.heap.size + 2) fr _ w.heap.size 2 (.slice (some ⟨fr,0,none⟩) 1 1) (by omega) HF4.out)
 clear y2 z2 f2 HFW
 generalize w4.setCell ⟨w.heap.size,2,none⟩ (.slice (some ⟨fr,0,none⟩) 1 1) = V0 at *
 have HXv0 := HX5
 have HZv0 := HZ5
 have HBv0 := HB5
 have HTv0 := HT5
 have HFv0 := HF5
 have y3 := HXv0.out.at (k := 3) (v := .slice none 0 0) rfl
 have f3 := HXv0.out.free 3
 go_upto_region 5 with (go_at_call 66; (with_reducible refine (HN62 _).out.mono ?_); rintro e w9 ⟨rfl,rfl⟩)
 have HXv1 : Hid (CA w.heap.size #[.slice (some ⟨tr,0,none⟩) 1 1,.slice none 0 0,.slice (some ⟨fr,0,none⟩) 1 1,.slice none 0 0,.slice none 0 0,.slice none 0 0,.slice none 0 0,.int .i64 0,.slice none 0 0,.slice none 0 0,.bool false] 32 (V0.setCell ⟨w.heap.size,3,none⟩ (.slice none 0 0))) := HXv0.out.set (k := 3) (.slice none 0 0)
 have HZv1 : Hid (CA (w.heap.size + 1) #[.slice none 0 0,.slice none 0 0,.slice none 0 0,.slice none 0 0,.slice none 0 0,.slice none 0 0,.slice none 0 0,.int .i64 0,.slice none 0 0,.slice none 0 0,.bool false] 32 (V0.setCell ⟨w.heap.size,3,none⟩ (.slice none 0 0))) := by
  have := HZv0.out
  unfold CA at this ⊢
  rw [World.setCell,Array.getElem?_modify,if_neg (by show ¬ w.heap.size = w.heap.size + 1; omega)]
  exact this
 have HBv1 := hid (HBv0.out.setCell (p := ⟨w.heap.size,3,none⟩) (Nat.le_refl _) (.slice none 0 0))
 have HTv1 := hid (ST.out.store (w.heap.size + 2) tr _ w.heap.size 3 (.slice none 0 0) (by omega) HTv0.out)
 have HFv1 := hid (SF.out.store (w.heap.size + 2) fr _ w.heap.size 3 (.slice none 0 0) (by omega) HFv0.out)
 clear y3 f3
 generalize V0.setCell ⟨w.heap.size,3,none⟩ (.slice none 0 0) = V1 at *
 have y4 := HXv1.out.at (k := 4) (v := .slice none 0 0) rfl
 have f4 := HXv1.out.free 4
 go_upto_region 6 with (go_at_call 68; (with_reducible refine (HN64 _).out.mono ?_); rintro e w9 ⟨rfl,rfl⟩)
 have HXv2 : Hid (CA w.heap.size #[.slice (some ⟨tr,0,none⟩) 1 1,.slice none 0 0,.slice (some ⟨fr,0,none⟩) 1 1,.slice none 0 0,.slice none 0 0,.slice none 0 0,.slice none 0 0,.int .i64 0,.slice none 0 0,.slice none 0 0,.bool false] 32 (V1.setCell ⟨w.heap.size,4,none⟩ (.slice none 0 0))) := HXv1.out.set (k := 4) (.slice none 0 0)
 have HZv2 : Hid (CA (w.heap.size + 1) #[.slice none 0 0,.slice none 0 0,.slice none 0 0,.slice none 0 0,.slice none 0 0,.slice none 0 0,.slice none 0 0,.int .i64 0,.slice none 0 0,.slice none 0 0,.bool false] 32 (V1.setCell ⟨w.heap.size,4,none⟩ (.slice none 0 0))) := by
  have := HZv1.out
  unfold CA at this ⊢
  rw [World.setCell,Array.getElem?_modify,if_neg (by show ¬ w.heap.size = w.heap.size + 1; omega)]
  exact this
 have HBv2 := hid (HBv1.out.setCell (p := ⟨w.heap.size,4,none⟩) (Nat.le_refl _) (.slice none 0 0))
 have HTv2 := hid (ST.out.store (w.heap.size + 2) tr _ w.heap.size 4 (.slice none 0 0) (by omega) HTv1.out)
 have HFv2 := hid (SF.out.store (w.heap.size + 2) fr _ w.heap.size 4 (.slice none 0 0) (by omega) HFv1.out)
 clear y4 f4
 generalize V1.setCell ⟨w.heap.size,4,none⟩ (.slice none 0 0) = V2 at *
 have y5 := HXv2.out.at (k := 5) (v := .slice none 0 0) rfl
 have f5 := HXv2.out.free 5
 go_upto_region 7 with (go_at_call 70; (with_reducible refine (HN66 _).out.mono ?_); rintro e w9 ⟨rfl,rfl⟩)
 have HXv3 : Hid (CA w.heap.size #[.slice (some ⟨tr,0,none⟩) 1 1,.slice none 0 0,.slice (some ⟨fr,0,none⟩) 1 1,.slice none 0 0,.slice none 0 0,.slice none 0 0,.slice none 0 0,.int .i64 0,.slice none 0 0,.slice none 0 0,.bool false] 32 (V2.setCell ⟨w.heap.size,5,none⟩ (.slice none 0 0))) := HXv2.out.set (k := 5) (.slice none 0 0)
 have HZv3 : Hid (CA (w.heap.size + 1) #[.slice none 0 0,.slice none 0 0,.slice none 0 0,.slice none 0 0,.slice none 0 0,.slice none 0 0,.slice none 0 0,.int .i64 0,.slice none 0 0,.slice none 0 0,.bool false] 32 (V2.setCell ⟨w.heap.size,5,none⟩ (.slice none 0 0))) := by
  have := HZv2.out
  unfold CA at this ⊢
  rw [World.setCell,Array.getElem?_modify,if_neg (by show ¬ w.heap.size = w.heap.size + 1; omega)]
  exact this
 have HBv3 := hid (HBv2.out.setCell (p := ⟨w.heap.size,5,none⟩) (Nat.le_refl _) (.slice none 0 0))
 have HTv3 := hid (ST.out.store (w.heap.size + 2) tr _ w.heap.size 5 (.slice none 0 0) (by omega) HTv2.out)
 have HFv3 := hid (SF.out.store (w.heap.size + 2) fr _ w.heap.size 5 (.slice none 0 0) (by omega) HFv2.out)
 clear y5 f5
 generalize V2.setCell ⟨w.heap.size,5,none⟩ (.slice none 0 0) = V3 at *
 have y6 := HXv3.out.at (k := 6) (v := .slice none 0 0) rfl
 have f6 := HXv3.out.free 6
 go_upto_region 8 with (go_at_call 72; (with_reducible refine (HN68 _).out.mono ?_); rintro e w9 ⟨rfl,rfl⟩)
 have HXv4 : Hid (CA w.heap.size #[.slice (some ⟨tr,0,none⟩) 1 1,.slice none 0 0,.slice (some ⟨fr,0,none⟩) 1 1,.slice none 0 0,.slice none 0 0,.slice none 0 0,.slice none 0 0,.int .i64 0,.slice none 0 0,.slice none 0 0,.bool false] 32 (V3.setCell ⟨w.heap.size,6,none⟩ (.slice none 0 0))) := HXv3.out.set (k := 6) (.slice none 0 0)
 have HZv4 : Hid (CA (w.heap.size + 1) #[.slice none 0 0,.slice none 0 0,.slice none 0 0,.slice none 0 0,.slice none 0 0,.slice none 0 0,.slice none 0 0,.int .i64 0,.slice none 0 0,.slice none 0 0,.bool false] 32 (V3.setCell ⟨w.heap.size,6,none⟩ (.slice none 0 0))) := by
  have := HZv3.out
  unfold CA at this ⊢
  rw [World.setCell,Array.getElem?_modify,if_neg (by show ¬ w.heap.size = w.heap.size + 1; omega)]
  exact this
 have HBv4 := hid (HBv3.out.setCell (p := ⟨w.heap.size,6,none⟩) (Nat.le_refl _) (.slice none 0 0))
 have HTv4 := hid (ST.out.store (w.heap.size + 2) tr _ w.heap.size 6 (.slice none 0 0) (by omega) HTv3.out)
 have HFv4 := hid (SF.out.store (w.heap.size + 2) fr _ w.heap.size 6 (.slice none 0 0) (by omega) HFv3.out)
 clear y6 f6
 generalize V3.setCell ⟨w.heap.size,6,none⟩ (.slice none 0 0) = V4 at *
 have y8 := HXv4.out.at (k := 8) (v := .slice none 0 0) rfl
 have f8 := HXv4.out.free 8
 go_upto_region 9 with (go_at_call 74; (with_reducible refine (HN70 _).out.mono ?_); rintro e w9 ⟨rfl,rfl⟩)
 have HXv5 : Hid (CA w.heap.size #[.slice (some ⟨tr,0,none⟩) 1 1,.slice none 0 0,.slice (some ⟨fr,0,none⟩) 1 1,.slice none 0 0,.slice none 0 0,.slice none 0 0,.slice none 0 0,.int .i64 0,.slice none 0 0,.slice none 0 0,.bool false] 32 (V4.setCell ⟨w.heap.size,8,none⟩ (.slice none 0 0))) := HXv4.out.set (k := 8) (.slice none 0 0)
 have HZv5 : Hid (CA (w.heap.size + 1) #[.slice none 0 0,.slice none 0 0,.slice none 0 0,.slice none 0 0,.slice none 0 0,.slice none 0 0,.slice none 0 0,.int .i64 0,.slice none 0 0,.slice none 0 0,.bool false] 32 (V4.setCell ⟨w.heap.size,8,none⟩ (.slice none 0 0))) := by
  have := HZv4.out
  unfold CA at this ⊢
  rw [World.setCell,Array.getElem?_modify,if_neg (by show ¬ w.heap.size = w.heap.size + 1; omega)]
  exact this
 have HBv5 := hid (HBv4.out.setCell (p := ⟨w.heap.size,8,none⟩) (Nat.le_refl _) (.slice none 0 0))
 have HTv5 := hid (ST.out.store (w.heap.size + 2) tr _ w.heap.size 8 (.slice none 0 0) (by omega) HTv4.out)
 have HFv5 := hid (SF.out.store (w.heap.size + 2) fr _ w.heap.size 8 (.slice none 0 0) (by omega) HFv4.out)
 clear y8 f8
 generalize V4.setCell ⟨w.heap.size,8,none⟩ (.slice none 0 0) = V5 at *
 have y9 := HXv5.out.at (k := 9) (v := .slice none 0 0) rfl
 have f9 := HXv5.out.free 9
 go_upto_region 10 with (go_at_call 76; (with_reducible refine (HN72 _).out.mono ?_); rintro e w9 ⟨rfl,rfl⟩)
 have HXv6 : Hid (CA w.heap.size #[.slice (some ⟨tr,0,none⟩) 1 1,.slice none 0 0,.slice (some ⟨fr,0,none⟩) 1 1,.slice none 0 0,.slice none 0 0,.slice none 0 0,.slice none 0 0,.int .i64 0,.slice none 0 0,.slice none 0 0,.bool false] 32 (V5.setCell ⟨w.heap.size,9,none⟩ (.slice none 0 0))) := HXv5.out.set (k := 9) (.slice none 0 0)
 have HZv6 : Hid (CA (w.heap.size + 1) #[.slice none 0 0,.slice none 0 0,.slice none 0 0,.slice none 0 0,.slice none 0 0,.slice none 0 0,.slice none 0 0,.int .i64 0,.slice none 0 0,.slice none 0 0,.bool false] 32 (V5.setCell ⟨w.heap.size,9,none⟩ (.slice none 0 0))) := by
  have := HZv5.out
  unfold CA at this ⊢
  rw [World.setCell,Array.getElem?_modify,if_neg (by show ¬ w.heap.size = w.heap.size + 1; omega)]
  exact this
 have HBv6 := hid (HBv5.out.setCell (p := ⟨w.heap.size,9,none⟩) (Nat.le_refl _) (.slice none 0 0))
 have HTv6 := hid (ST.out.store (w.heap.size + 2) tr _ w.heap.size 9 (.slice none 0 0) (by omega) HTv5.out)
 have HFv6 := hid (SF.out.store (w.heap.size + 2) fr _ w.heap.size 9 (.slice none 0 0) (by omega) HFv5.out)
 clear y9 f9
 generalize V5.setCell ⟨w.heap.size,9,none⟩ (.slice none 0 0) = V6 at *
 have x0 := HXv6.out.at (k := 0) (v := .slice (some ⟨tr,0,none⟩) 1 1) rfl
 have z0 := HZv6.out.at (k := 0) (v := .slice none 0 0) rfl
 have f0 := HZv6.out.free 0
 have x1 := HXv6.out.at (k := 1) (v := .slice none 0 0) rfl
 have z1 := HZv6.out.at (k := 1) (v := .slice none 0 0) rfl
 have f1 := HZv6.out.free 1
 have x2 := HXv6.out.at (k := 2) (v := .slice (some ⟨fr,0,none⟩) 1 1) rfl
 have z2 := HZv6.out.at (k := 2) (v := .slice none 0 0) rfl
 have f2 := HZv6.out.free 2
 have x3 := HXv6.out.at (k := 3) (v := .slice none 0 0) rfl
 have z3 := HZv6.out.at (k := 3) (v := .slice none 0 0) rfl
 have f3 := HZv6.out.free 3
 have x4 := HXv6.out.at (k := 4) (v := .slice none 0 0) rfl
 have z4 := HZv6.out.at (k := 4) (v := .slice none 0 0) rfl
 have f4 := HZv6.out.free 4
 have x5 := HXv6.out.at (k := 5) (v := .slice none 0 0) rfl
 have z5 := HZv6.out.at (k := 5) (v := .slice none 0 0) rfl
 have f5 := HZv6.out.free 5
 have x6 := HXv6.out.at (k := 6) (v := .slice none 0 0) rfl
 have z6 := HZv6.out.at (k := 6) (v := .slice none 0 0) rfl
 have f6 := HZv6.out.free 6
 have x7 := HXv6.out.at (k := 7) (v := .int .i64 0) rfl
 have z7 := HZv6.out.at (k := 7) (v := .int .i64 0) rfl
 have f7 := HZv6.out.free 7
 have x8 := HXv6.out.at (k := 8) (v := .slice none 0 0) rfl
 have z8 := HZv6.out.at (k := 8) (v := .slice none 0 0) rfl
 have f8 := HZv6.out.free 8
 have x9 := HXv6.out.at (k := 9) (v := .slice none 0 0) rfl
 have z9 := HZv6.out.at (k := 9) (v := .slice none 0 0) rfl
 have f9 := HZv6.out.free 9
 have x10 := HXv6.out.at (k := 10) (v := .bool false) rfl
 have z10 := HZv6.out.at (k := 10) (v := .bool false) rfl
 have f10 := HZv6.out.free 10
 go_wp2
 obtain ⟨r0,r1,r2,r3,r4,r5,r6,r7,r8,r9,r10⟩ := cells_11 V6 (w.heap.size + 1) #[.slice none 0 0,.slice none 0 0,.slice none 0 0,.slice none 0 0,.slice none 0 0,.slice none 0 0,.slice none 0 0,.int .i64 0,.slice none 0 0,.slice none 0 0,.bool false] 32 (.slice (some ⟨tr,0,none⟩) 1 1) (.slice none 0 0) (.slice (some ⟨fr,0,none⟩) 1 1) (.slice none 0 0) (.slice none 0 0) (.slice none 0 0) (.slice none 0 0) (.int .i64 0) (.slice none 0 0) (.slice none 0 0) (.bool false) HZv6.out rfl
 exact bodyPost_ret (v := .agg #[.slice (some ⟨tr,0,none⟩) 1 1,.slice none 0 0,.slice (some ⟨fr,0,none⟩) 1 1,.slice none 0 0,.slice none 0 0,.slice none 0 0,.slice none 0 0,.int .i64 0,.slice none 0 0,.slice none 0 0,.bool false]) (by simp [results,Tryz.results18,go_sem,r0,r1,r2,r3,r4,r5,r6,r7,r8,r9,r10]) rfl ⟨tr,fr,rfl,ST.out.mono _ _ _ _ (by omega) (ST.out.store (w.heap.size + 2) tr _ (w.heap.size + 1) 10 (.bool false) (by omega) (ST.out.store (w.heap.size + 2) tr _ (w.heap.size + 1) 9 (.slice none 0 0) (by omega) (ST.out.store (w.heap.size + 2) tr _ (w.heap.size + 1) 8 (.slice none 0 0) (by omega) (ST.out.store (w.heap.size + 2) tr _ (w.heap.size + 1) 7 (.int .i64 0) (by omega) (ST.out.store (w.heap.size + 2) tr _ (w.heap.size + 1) 6 (.slice none 0 0) (by omega) (ST.out.store (w.heap.size + 2) tr _ (w.heap.size + 1) 5 (.slice none 0 0) (by omega) (ST.out.store (w.heap.size + 2) tr _ (w.heap.size + 1) 4 (.slice none 0 0) (by omega) (ST.out.store (w.heap.size + 2) tr _ (w.heap.size + 1) 3 (.slice none 0 0) (by omega) (ST.out.store (w.heap.size + 2) tr _ (w.heap.size + 1) 2 (.slice (some ⟨fr,0,none⟩) 1 1) (by omega) (ST.out.store (w.heap.size + 2) tr _ (w.heap.size + 1) 1 (.slice none 0 0) (by omega) (ST.out.store (w.heap.size + 2) tr _ (w.heap.size + 1) 0 (.slice (some ⟨tr,0,none⟩) 1 1) (by omega) HTv6.out))))))))))),SF.out.mono _ _ _ _ (by omega) (SF.out.store (w.heap.size + 2) fr _ (w.heap.size + 1) 10 (.bool false) (by omega) (SF.out.store (w.heap.size + 2) fr _ (w.heap.size + 1) 9 (.slice none 0 0) (by omega) (SF.out.store (w.heap.size + 2) fr _ (w.heap.size + 1) 8 (.slice none 0 0) (by omega) (SF.out.store (w.heap.size + 2) fr _ (w.heap.size + 1) 7 (.int .i64 0) (by omega) (SF.out.store (w.heap.size + 2) fr _ (w.heap.size + 1) 6 (.slice none 0 0) (by omega) (SF.out.store (w.heap.size + 2) fr _ (w.heap.size + 1) 5 (.slice none 0 0) (by omega) (SF.out.store (w.heap.size + 2) fr _ (w.heap.size + 1) 4 (.slice none 0 0) (by omega) (SF.out.store (w.heap.size + 2) fr _ (w.heap.size + 1) 3 (.slice none 0 0) (by omega) (SF.out.store (w.heap.size + 2) fr _ (w.heap.size + 1) 2 (.slice (some ⟨fr,0,none⟩) 1 1) (by omega) (SF.out.store (w.heap.size + 2) fr _ (w.heap.size + 1) 1 (.slice none 0 0) (by omega) (SF.out.store (w.heap.size + 2) fr _ (w.heap.size + 1) 0 (.slice (some ⟨tr,0,none⟩) 1 1) (by omega) HFv6.out))))))))))),(((((((((((HBv6.out.setCell (p := ⟨w.heap.size + 1,0,none⟩) (by simp) (.slice (some ⟨tr,0,none⟩) 1 1)).setCell (p := ⟨w.heap.size + 1,1,none⟩) (by simp) (.slice none 0 0)).setCell (p := ⟨w.heap.size + 1,2,none⟩) (by simp) (.slice (some ⟨fr,0,none⟩) 1 1)).setCell (p := ⟨w.heap.size + 1,3,none⟩) (by simp) (.slice none 0 0)).setCell (p := ⟨w.heap.size + 1,4,none⟩) (by simp) (.slice none 0 0)).setCell (p := ⟨w.heap.size + 1,5,none⟩) (by simp) (.slice none 0 0)).setCell (p := ⟨w.heap.size + 1,6,none⟩) (by simp) (.slice none 0 0)).setCell (p := ⟨w.heap.size + 1,7,none⟩) (by simp) (.int .i64 0)).setCell (p := ⟨w.heap.size + 1,8,none⟩) (by simp) (.slice none 0 0)).setCell (p := ⟨w.heap.size + 1,9,none⟩) (by simp) (.slice none 0 0)).setCell (p := ⟨w.heap.size + 1,10,none⟩) (by simp) (.bool false))⟩
end Go.Proofs.YtjgeedgphcjhoaaGreat
namespace Go.Proofs.YtjgeedgphcjhoaaGreat
open Go.RowKit
abbrev T3 := Option Addr × Nat × Nat
def n3 : T3 := (none,0,0)
def InsAt (W : World) (r : Nat) (op : Int) (vb : Value) : Prop :=
 W.cell? ⟨r,0,none⟩ = some (.int .i64 op) ∧ W.cell? ⟨r,1,none⟩ = some (.int .i64 0) ∧ W.cell? ⟨r,2,none⟩ = some (.int .i64 0) ∧ W.cell? ⟨r,3,none⟩ = some (.int .u64 0) ∧ W.cell? ⟨r,4,none⟩ = some (.int .u64 0) ∧
 W.cell? ⟨r,5,none⟩ = some (.slice none 0 0) ∧ W.cell? ⟨r,6,none⟩ = some vb ∧ W.cell? ⟨r,7,none⟩ = some (.slice none 0 0) ∧ W.cell? ⟨r,8,none⟩ = some (.bool false)
theorem InsAt.far {W : World} {r g j : Nat} {op : Int} {vb v : Value} (h : InsAt W r op vb) (hne : g ≠ r) : InsAt (W.setCell ⟨g,j,none⟩ v) r op vb := by
 unfold InsAt at h ⊢
 simp only [cell_far hne]
 exact h
theorem InsAt.below {W W' : World} {r B : Nat} {op : Int} {vb : Value} (h : InsAt W r op vb) (hb : Below B W W') (hr : r < B) : InsAt W' r op vb := by
 have hc : ∀ k,W'.cell? ⟨r,k,none⟩ = W.cell? ⟨r,k,none⟩ := fun k => hb.cell (p := ⟨r,k,none⟩) hr
 unfold InsAt at h ⊢
 simp only [hc]
 exact h
def XB (s r : Nat) (W : World) : Prop := ∃ r',s ≤ r ∧ s ≤ r' ∧ r < W.heap.size ∧ r' < W.heap.size ∧ InsAt W r 2 (.slice (some ⟨r',0,none⟩) 1 1) ∧ InsAt W r' 1 (.slice none 0 0)
def XN (s r : Nat) (W : World) : Prop := s ≤ r ∧ r < W.heap.size ∧ InsAt W r 1 (.slice none 0 0)
def XFn (s r : Nat) (W : World) : Prop := ∃ r',s ≤ r ∧ r < W.heap.size ∧ W.cell? ⟨r,0,none⟩ = some (.int .i64 0) ∧ W.cell? ⟨r,1,none⟩ = some (.slice none 0 0) ∧ W.cell? ⟨r,2,none⟩ = some (.slice (some ⟨r',0,none⟩) 1 1) ∧ XB s r' W
def XI (s r : Nat) (W : World) : Prop := s ≤ r ∧ r < W.heap.size ∧ W.cell? ⟨r,0,none⟩ = some (.int .i64 127)
def XTy (s r : Nat) (W : World) : Prop := ∃ r',s ≤ r ∧ r < W.heap.size ∧ W.cell? ⟨r,0,none⟩ = some (.slice (some ⟨r',0,none⟩) 1 1) ∧ W.cell? ⟨r,1,none⟩ = some (.slice none 0 0) ∧ XI s r' W
theorem sXN : Stay XN where
 mono s s' r W h := fun ⟨a,b,c⟩ => ⟨Nat.le_trans h a,b,c⟩
 store s r W g j v h := fun ⟨a,b,c⟩ => ⟨a,by rw [setCell_size]; exact b,c.far (by omega)⟩
 below s r W W' hb := fun ⟨a,b,c⟩ => ⟨a,Nat.lt_of_lt_of_le b hb.size,c.below hb b⟩
theorem sXB : Stay XB where
 mono s s' r W h := fun ⟨r',a,a',b,b',c,c'⟩ => ⟨r',Nat.le_trans h a,Nat.le_trans h a',b,b',c,c'⟩
 store s r W g j v h := fun ⟨r',a,a',b,b',c,c'⟩ => ⟨r',a,a',by rw [setCell_size]; exact b,by rw [setCell_size]; exact b',c.far (by omega),c'.far (by omega)⟩
 below s r W W' hb := fun ⟨r',a,a',b,b',c,c'⟩ => ⟨r',a,a',Nat.lt_of_lt_of_le b hb.size,Nat.lt_of_lt_of_le b' hb.size,c.below hb b,c'.below hb b'⟩
theorem sXFn : Stay XFn where
 mono s s' r W h := fun ⟨r',a,b,c0,c1,c2,d⟩ => ⟨r',Nat.le_trans h a,b,c0,c1,c2,sXB.mono _ _ _ _ h d⟩
 store s r W g j v h := fun ⟨r',a,b,c0,c1,c2,d⟩ => ⟨r',a,by rw [setCell_size]; exact b,by rw [cell_far (by omega)]; exact c0,by rw [cell_far (by omega)]; exact c1,by rw [cell_far (by omega)]; exact c2,sXB.store _ _ _ _ _ _ h d⟩
 below s r W W' hb := fun ⟨r',a,b,c0,c1,c2,d⟩ => ⟨r',a,Nat.lt_of_lt_of_le b hb.size,(hb.cell (p := ⟨r,0,none⟩) b).trans c0,(hb.cell (p := ⟨r,1,none⟩) b).trans c1,(hb.cell (p := ⟨r,2,none⟩) b).trans c2,sXB.below _ _ _ _ hb d⟩
theorem sXI : Stay XI where
 mono s s' r W h := fun ⟨a,b,c⟩ => ⟨Nat.le_trans h a,b,c⟩
 store s r W g j v h := fun ⟨a,b,c⟩ => ⟨a,by rw [setCell_size]; exact b,by rw [cell_far (by omega)]; exact c⟩
 below s r W W' hb := fun ⟨a,b,c⟩ => ⟨a,Nat.lt_of_lt_of_le b hb.size,(hb.cell (p := ⟨r,0,none⟩) b).trans c⟩
theorem sXTy : Stay XTy where
 mono s s' r W h := fun ⟨r',a,b,c0,c1,d⟩ => ⟨r',Nat.le_trans h a,b,c0,c1,sXI.mono _ _ _ _ h d⟩
 store s r W g j v h := fun ⟨r',a,b,c0,c1,d⟩ => ⟨r',a,by rw [setCell_size]; exact b,by rw [cell_far (by omega)]; exact c0,by rw [cell_far (by omega)]; exact c1,sXI.store _ _ _ _ _ _ h d⟩
 below s r W W' hb := fun ⟨r',a,b,c0,c1,d⟩ => ⟨r',a,Nat.lt_of_lt_of_le b hb.size,(hb.cell (p := ⟨r,0,none⟩) b).trans c0,(hb.cell (p := ⟨r,1,none⟩) b).trans c1,sXI.below _ _ _ _ hb d⟩
theorem code_of (X : Nat → Nat → World → Prop) (v : Value) (s : Nat) (w : World)
  (h : Calls Tryz.prog 222 #[v,.func (.func 223) #[] #[]] w fun e w' => ∃ r,e = .returned (.slice (some ⟨r,0,none⟩) 1 1) ∧ X s r w' ∧ Below w.heap.size w w') :
  Calls Tryz.prog 159 #[v] w fun e w' => ∃ r,e = .returned (.slice (some ⟨r,0,none⟩) 1 1) ∧ X s r w' ∧ Below w.heap.size w w' := by
 have H := hid h
 clear h
 go_enter Tryz.func159,Tryz.ntmps159
 go_wp2_with (go_at_call 222; (with_reducible refine H.out.mono ?_); rintro e w1 ⟨r,rfl,hx,hb⟩)
 go_ret
 exact ⟨r,rfl,hx,hb⟩
def T3of (X : Nat → Nat → World → Prop) (s : Nat) (q : T3) (W : World) : Prop := ∃ r,q = (some ⟨r,0,none⟩,1,1) ∧ X s r W
theorem copy_nop (g c : Nat) (w : World) (hg : g < w.heap.size) (h : InsAt w g 1 (.slice none 0 0)) :
  Calls Tryz.prog 159 #[.slice (some ⟨g,0,none⟩) 1 c] w fun e w' => ∃ r,e = .returned (.slice (some ⟨r,0,none⟩) 1 1) ∧ XN w.heap.size r w' ∧ Below w.heap.size w w' := by
 refine code_of XN _ _ _ ?_
 refine (cop_ins 223 (fun _ _ => rfl) (fun _ q5 q6 q7 _ => q5 = n3 ∧ q6 = n3 ∧ q7 = n3) (fun _ _ _ _ _ _ _ h => h) (fun _ _ _ _ _ _ _ _ _ h => h) g 0 c 1 0 0 0 0 none 0 0 none 0 0 none 0 0 false w hg h (fun W hW => ?_)).mono ?_
 ·refine (copI (fun _ q _ => q = n3) (fun _ _ _ _ _ h => h) (fun _ _ _ _ _ _ _ h => h) 1 0 0 0 0 none 0 0 false W (fun W' hW' => ?_)).mono ?_
  ·refine (code_nil W').mono ?_
   rintro e w' ⟨rfl,rfl⟩
   exact ⟨n3,rfl,rfl,Below.refl _ _⟩
  ·rintro e w' ⟨q,rfl,rfl,hb⟩
   exact ⟨n3,n3,n3,rfl,⟨rfl,rfl,rfl⟩,hb⟩
 ·rintro e w' ⟨r,q5,q6,q7,rfl,h1,h2,h3,⟨rfl,rfl,rfl⟩,hb⟩
  exact ⟨r,rfl,⟨h1,h2,h3⟩,hb⟩
theorem copy_blk (g g' c : Nat) (w : World) (hg : g < w.heap.size) (hg' : g' < w.heap.size) (h : InsAt w g 2 (.slice (some ⟨g',0,none⟩) 1 1)) (h' : InsAt w g' 1 (.slice none 0 0)) :
  Calls Tryz.prog 159 #[.slice (some ⟨g,0,none⟩) 1 c] w fun e w' => ∃ r,e = .returned (.slice (some ⟨r,0,none⟩) 1 1) ∧ XB w.heap.size r w' ∧ Below w.heap.size w w' := by
 refine code_of XB _ _ _ ?_
 refine (cop_ins 223 (fun _ _ => rfl) (fun s q5 q6 q7 W => q5 = n3 ∧ q7 = n3 ∧ T3of XN s q6 W) (fun _ _ _ _ _ _ hs h => ⟨h.1,h.2.1,h.2.2.imp fun r hr => ⟨hr.1,sXN.mono _ _ _ _ hs hr.2⟩⟩) (fun _ _ _ _ _ _ _ _ hs h => ⟨h.1,h.2.1,h.2.2.imp fun r hr => ⟨hr.1,sXN.store _ _ _ _ _ _ hs hr.2⟩⟩)
  g 0 c 2 0 0 0 0 none 0 0 (some ⟨g',0,none⟩) 1 1 none 0 0 false w hg h (fun W hW => ?_)).mono ?_
 ·refine (copI (T3of XN) (fun _ _ _ _ hs h => h.imp fun r hr => ⟨hr.1,sXN.mono _ _ _ _ hs hr.2⟩) (fun _ _ _ _ _ _ hs h => h.imp fun r hr => ⟨hr.1,sXN.store _ _ _ _ _ _ hs hr.2⟩) 2 0 0 0 0 (some ⟨g',0,none⟩) 1 1 false W (fun W' hW' => ?_)).mono ?_
  ·have hb := hW.trans (hW'.mono hW.size)
   refine (copy_nop g' 1 W' (Nat.lt_of_lt_of_le hg' hb.size) (h'.below hb hg')).mono ?_
   rintro e w' ⟨r,rfl,hx,hb⟩
   exact ⟨(some ⟨r,0,none⟩,1,1),rfl,⟨r,rfl,hx⟩,hb⟩
  ·rintro e w' ⟨q,rfl,hx,hb⟩
   exact ⟨n3,q,n3,rfl,⟨rfl,rfl,hx⟩,hb⟩
 ·rintro e w' ⟨r,q5,q6,q7,rfl,h1,h2,h3,⟨rfl,rfl,r',rfl,hr'⟩,hb⟩
  exact ⟨r,rfl,⟨r',h1,hr'.1,h2,hr'.2.1,h3,hr'.2.2⟩,hb⟩
theorem copy_fn (g b g' : Nat) (w : World) (hg : g < w.heap.size) (hb : b < w.heap.size) (hg' : g' < w.heap.size) (h0 : w.cell? ⟨g,0,none⟩ = some (.int .i64 0)) (h1 : w.cell? ⟨g,1,none⟩ = some (.slice none 0 0)) (h2 : w.cell? ⟨g,2,none⟩ = some (.slice (some ⟨b,0,none⟩) 1 1))
  (hi : InsAt w b 2 (.slice (some ⟨g',0,none⟩) 1 1)) (hi' : InsAt w g' 1 (.slice none 0 0)) :
  Calls Tryz.prog 64 #[.slice (some ⟨g,0,none⟩) 1 1,.func (.func 65) #[] #[]] w fun e w' => ∃ r,e = .returned (.slice (some ⟨r,0,none⟩) 1 1) ∧ XFn w.heap.size r w' ∧ Below w.heap.size w w' := by
 refine (cop_code 65 (fun _ _ => rfl) (fun s q1 q2 W => q1 = n3 ∧ T3of XB s q2 W) (fun _ _ _ _ _ hs h => ⟨h.1,h.2.imp fun r hr => ⟨hr.1,sXB.mono _ _ _ _ hs hr.2⟩⟩) (fun _ _ _ _ _ _ _ hs h => ⟨h.1,h.2.imp fun r hr => ⟨hr.1,sXB.store _ _ _ _ _ _ hs hr.2⟩⟩)
  g 0 1 0 none 0 0 (some ⟨b,0,none⟩) 1 1 w hg ⟨h0,h1,h2⟩ (fun W hW => ?_)).mono ?_
 ·refine (copF (T3of XB) (fun _ _ _ _ hs h => h.imp fun r hr => ⟨hr.1,sXB.mono _ _ _ _ hs hr.2⟩) (fun _ _ _ _ _ _ hs h => h.imp fun r hr => ⟨hr.1,sXB.store _ _ _ _ _ _ hs hr.2⟩) 0 (some ⟨b,0,none⟩) 1 1 W (fun W' hW' => ?_)).mono ?_
  ·have hw := hW.trans (hW'.mono hW.size)
   refine (copy_blk b g' 1 W' (Nat.lt_of_lt_of_le hb hw.size) (Nat.lt_of_lt_of_le hg' hw.size) (hi.below hw hb) (hi'.below hw hg')).mono ?_
   rintro e w' ⟨r,rfl,hx,hb⟩
   exact ⟨(some ⟨r,0,none⟩,1,1),rfl,⟨r,rfl,hx⟩,hb⟩
  ·rintro e w' ⟨q,rfl,hx,hb⟩
   exact ⟨n3,q,rfl,⟨rfl,hx⟩,hb⟩
 ·rintro e w' ⟨r,q1,q2,rfl,k1,k2,⟨k3,k4,k5⟩,⟨rfl,r',rfl,hr'⟩,hb⟩
  exact ⟨r,rfl,⟨r',k1,k2,k3,k4,k5,hr'⟩,hb⟩
theorem copy_ty (g b : Nat) (w : World) (hg : g < w.heap.size) (hb : b < w.heap.size) (h0 : w.cell? ⟨g,0,none⟩ = some (.slice (some ⟨b,0,none⟩) 1 1)) (h1 : w.cell? ⟨g,1,none⟩ = some (.slice none 0 0)) (h2 : w.cell? ⟨b,0,none⟩ = some (.int .i64 127)) :
  Calls Tryz.prog 60 #[.slice (some ⟨g,0,none⟩) 1 1,.func (.func 61) #[] #[]] w fun e w' => ∃ r,e = .returned (.slice (some ⟨r,0,none⟩) 1 1) ∧ XTy w.heap.size r w' ∧ Below w.heap.size w w' := by
 refine (cop_ft 61 (fun _ _ => rfl) (fun s q0 q1 W => q1 = n3 ∧ T3of XI s q0 W) (fun _ _ _ _ _ hs h => ⟨h.1,h.2.imp fun r hr => ⟨hr.1,sXI.mono _ _ _ _ hs hr.2⟩⟩) (fun _ _ _ _ _ _ _ hs h => ⟨h.1,h.2.imp fun r hr => ⟨hr.1,sXI.store _ _ _ _ _ _ hs hr.2⟩⟩)
  g 0 1 (some ⟨b,0,none⟩) 1 1 none 0 0 w hg ⟨h0,h1⟩ (fun W hW => ?_)).mono ?_
 ·refine (copT (T3of XI) (fun _ _ _ _ hs h => h.imp fun r hr => ⟨hr.1,sXI.mono _ _ _ _ hs hr.2⟩) (fun _ _ _ _ _ _ hs h => h.imp fun r hr => ⟨hr.1,sXI.store _ _ _ _ _ _ hs hr.2⟩) (some ⟨b,0,none⟩) 1 1 W (fun W' hW' => ?_)).mono ?_
  ·have hw := hW.trans (hW'.mono hW.size)
   refine (cop_int 158 (fun _ _ => rfl) (fun _ _ => True) (fun _ _ _ _ h => h) (fun _ _ _ _ _ _ h => h) b 0 1 127 W' (Nat.lt_of_lt_of_le hb hw.size) ((hw.cell (p := ⟨b,0,none⟩) hb).trans h2) (fun W2 _ => (itself_int 127 W2).mono ?_)).mono ?_
   ·rintro e w' ⟨rfl,rfl⟩
    exact ⟨rfl,trivial,Below.refl _ _⟩
   ·rintro e w' ⟨r,rfl,k1,k2,k3,_,hb⟩
    exact ⟨(some ⟨r,0,none⟩,1,1),rfl,⟨r,rfl,k1,k2,k3⟩,hb⟩
  ·rintro e w' ⟨q,rfl,hx,hb⟩
   exact ⟨q,n3,rfl,⟨rfl,hx⟩,hb⟩
 ·rintro e w' ⟨r,q0,q1,rfl,k1,k2,⟨k3,k4⟩,⟨rfl,r',rfl,hr'⟩,hb⟩
  exact ⟨r,rfl,⟨r',k1,k2,k3,k4,hr'⟩,hb⟩
end Go.Proofs.YtjgeedgphcjhoaaGreat
