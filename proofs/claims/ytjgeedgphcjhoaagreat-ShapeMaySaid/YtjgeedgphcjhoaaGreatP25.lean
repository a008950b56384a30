/-
  RImp2, RImp3, ImpA, LBase, LPlain8, LUtf, LPlain9: merged, what the law does not reach left out (each text says what it holds where it lies in wip). No condition.
-/
import Derived.Test.YtjgeedgphcjhoaaGreatP23
import Derived.Deep.DeepCutAuto
import Derived.Test.YtjgeedgphcjhoaaGreatP24
import Derived.Test.YtjgeedgphcjhoaaGreatProg
import Derived.Test.YtjgeedgphcjhoaaGreatP02
import Derived.WalkKit
import Derived.WalkSpells
import Derived.WalkLawsBesides
import Derived.Lib.UnsafeStr
import Derived.Laws.AppendOwnNone
import Derived.Lib.DecodeN
import Derived.Laws.RangeAny
import Derived.Lib.OthersKept
import Derived.Lib.Strings
set_option linter.unusedSimpArgs false
set_option linter.unusedVariables false
set_option maxRecDepth 100000
namespace Go.Proofs.YtjgeedgphcjhoaaGreat
open Go.RowKit
set_option maxHeartbeats 4000000 in
theorem imported_2 (s1 s2 : ByteArray) (ty tr tmn tmx : Int) (th : Bool) (mmn mmx : Int) (mh : Bool) (gt : Int) (gm : Bool) (nb : Bool) (w : World)
  (hn : ∀ W,Calls Tryz.prog 57 #[.string s1,.string s2] W fun e w' => e = .returned (.bool nb) ∧ Below W.heap.size W w') :
  Calls Tryz.prog 51 #[.agg #[.string s1,.string s2,.int .i64 2,.int .i64 ty,.int .i64 tr,.int .i64 tmn,.int .i64 tmx,.bool th,.int .i64 mmn,.int .i64 mmx,.bool mh,.int .i64 gt,.bool gm]] w fun e w' => e = .returned (.bool (nb && (limR mmn mmx mh && (ty == 0) && zTB tr tmn tmx th && zGB gt gm))) ∧ Below w.heap.size w w' := by
 have HN := fun W => hid (hn W)
 have HI := fun W => hid (Rlimits_says mmn mmx mh W)
 generalize limR mmn mmx mh = a at *
 have HB := hid ((Below.refl w.heap.size w).alloc (Nat.le_refl _) (.cells #[.string s1,.string s2,.int .i64 2,.int .i64 ty,.int .i64 tr,.int .i64 tmn,.int .i64 tmx,.bool th,.int .i64 mmn,.int .i64 mmx,.bool mh,.int .i64 gt,.bool gm] 74))
 have HX := hid (CA.new w #[.string s1,.string s2,.int .i64 2,.int .i64 ty,.int .i64 tr,.int .i64 tmn,.int .i64 tmx,.bool th,.int .i64 mmn,.int .i64 mmx,.bool mh,.int .i64 gt,.bool gm] 74)
 have x0 := HX.out.at (k := 0) (v := .string s1) rfl
 have x1 := HX.out.at (k := 1) (v := .string s2) rfl
 clear hn
 go_enter Tryz.func51,Tryz.ntmps51
 go_upto_region 5 with (go_at_call 57; (with_reducible refine (HN _).out.mono ?_); rintro e w1 ⟨rfl,hb⟩; have HB1 := hid (HB.out.trans (hb.mono HB.out.size)); have HX1 := hid (HX.out.below hb HX.out.lt); clear hb)
 clear x0 x1
 have HX2 := hid (((HX1.out.alloc (.cells #[.int .i64 0,.int .i64 0,.int .i64 0,.bool false] 72)).alloc (.cells #[.int .i64 0,.int .i64 0,.bool false] 70)).alloc (.cells #[.int .i64 0,.bool false] 44))
 have HB2 := hid (((HB1.out.alloc HB1.out.size (.cells #[.int .i64 0,.int .i64 0,.int .i64 0,.bool false] 72)).alloc (by rw [size_al]; have := HB1.out.size; omega) (.cells #[.int .i64 0,.int .i64 0,.bool false] 70)).alloc (by rw [size_al,size_al]; have := HB1.out.size; omega) (.cells #[.int .i64 0,.bool false] 44))
 have HT := hid (((CA.new w1 #[.int .i64 0,.int .i64 0,.int .i64 0,.bool false] 72).alloc (.cells #[.int .i64 0,.int .i64 0,.bool false] 70)).alloc (.cells #[.int .i64 0,.bool false] 44))
 have hl := CA.new (w1.alloc (.cells #[.int .i64 0,.int .i64 0,.int .i64 0,.bool false] 72)) #[.int .i64 0,.int .i64 0,.bool false] 70
 rw [size_al] at hl
 have HL := hid (hl.alloc (.cells #[.int .i64 0,.bool false] 44))
 have hg := CA.new ((w1.alloc (.cells #[.int .i64 0,.int .i64 0,.int .i64 0,.bool false] 72)).alloc (.cells #[.int .i64 0,.int .i64 0,.bool false] 70)) #[.int .i64 0,.bool false] 44
 rw [size_al,size_al] at hg
 have HG := hid hg
 clear hl hg HX1 HB1 HX HB
 generalize ((w1.alloc (.cells #[.int .i64 0,.int .i64 0,.int .i64 0,.bool false] 72)).alloc (.cells #[.int .i64 0,.int .i64 0,.bool false] 70)).alloc (.cells #[.int .i64 0,.bool false] 44) = w2 at *
 generalize w1.heap.size = k at *
 have y0 := HX2.out.at (k := 0) (v := .string s1) rfl
 have y1 := HX2.out.at (k := 1) (v := .string s2) rfl
 have y2 := HX2.out.at (k := 2) (v := .int .i64 2) rfl
 have y3 := HX2.out.at (k := 3) (v := .int .i64 ty) rfl
 have y4 := HX2.out.at (k := 4) (v := .int .i64 tr) rfl
 have y5 := HX2.out.at (k := 5) (v := .int .i64 tmn) rfl
 have y6 := HX2.out.at (k := 6) (v := .int .i64 tmx) rfl
 have y7 := HX2.out.at (k := 7) (v := .bool th) rfl
 have y8 := HX2.out.at (k := 8) (v := .int .i64 mmn) rfl
 have y9 := HX2.out.at (k := 9) (v := .int .i64 mmx) rfl
 have y10 := HX2.out.at (k := 10) (v := .bool mh) rfl
 have y11 := HX2.out.at (k := 11) (v := .int .i64 gt) rfl
 have y12 := HX2.out.at (k := 12) (v := .bool gm) rfl
 have t0 := HT.out.at (k := 0) (v := .int .i64 0) rfl
 have t1 := HT.out.at (k := 1) (v := .int .i64 0) rfl
 have t2 := HT.out.at (k := 2) (v := .int .i64 0) rfl
 have t3 := HT.out.at (k := 3) (v := .bool false) rfl
 have l0 := HL.out.at (k := 0) (v := .int .i64 0) rfl
 have l1 := HL.out.at (k := 1) (v := .int .i64 0) rfl
 have l2 := HL.out.at (k := 2) (v := .bool false) rfl
 have g0 := HG.out.at (k := 0) (v := .int .i64 0) rfl
 have g1 := HG.out.at (k := 1) (v := .bool false) rfl
 go_wp2_with (go_at_call 55; (with_reducible refine (HI _).out.mono ?_); rintro e w3 ⟨rfl,hb⟩; have HB3 := hid (HB2.out.trans (hb.mono HB2.out.size)); have HX3 := hid (HX2.out.below hb HX2.out.lt); have HT3 := hid (HT.out.below hb HT.out.lt); have HL3 := hid (HL.out.below hb HL.out.lt); have HG3 := hid (HG.out.below hb HG.out.lt); have y0 := HX3.out.at (k := 0) (v := .string s1) rfl; have y1 := HX3.out.at (k := 1) (v := .string s2) rfl; have y2 := HX3.out.at (k := 2) (v := .int .i64 2) rfl; have y3 := HX3.out.at (k := 3) (v := .int .i64 ty) rfl; have y4 := HX3.out.at (k := 4) (v := .int .i64 tr) rfl; have y5 := HX3.out.at (k := 5) (v := .int .i64 tmn) rfl; have y6 := HX3.out.at (k := 6) (v := .int .i64 tmx) rfl; have y7 := HX3.out.at (k := 7) (v := .bool th) rfl; have y8 := HX3.out.at (k := 8) (v := .int .i64 mmn) rfl; have y9 := HX3.out.at (k := 9) (v := .int .i64 mmx) rfl; have y10 := HX3.out.at (k := 10) (v := .bool mh) rfl; have y11 := HX3.out.at (k := 11) (v := .int .i64 gt) rfl; have y12 := HX3.out.at (k := 12) (v := .bool gm) rfl; have t0 := HT3.out.at (k := 0) (v := .int .i64 0) rfl; have t1 := HT3.out.at (k := 1) (v := .int .i64 0) rfl; have t2 := HT3.out.at (k := 2) (v := .int .i64 0) rfl; have t3 := HT3.out.at (k := 3) (v := .bool false) rfl; have l0 := HL3.out.at (k := 0) (v := .int .i64 0) rfl; have l1 := HL3.out.at (k := 1) (v := .int .i64 0) rfl; have l2 := HL3.out.at (k := 2) (v := .bool false) rfl; have g0 := HG3.out.at (k := 0) (v := .int .i64 0) rfl; have g1 := HG3.out.at (k := 1) (v := .bool false) rfl; clear hb)
 all_goals
  go_ret
  first
   | exact ⟨by simp_all [zTB,zLB,zGB],HB3.out⟩
   | exact ⟨by simp_all [zTB,zLB,zGB],HB2.out⟩
set_option maxHeartbeats 4000000 in
theorem imported_3 (s1 s2 : ByteArray) (ty tr tmn tmx : Int) (th : Bool) (mmn mmx : Int) (mh : Bool) (gt : Int) (gm : Bool) (nb : Bool) (w : World)
  (hn : ∀ W,Calls Tryz.prog 57 #[.string s1,.string s2] W fun e w' => e = .returned (.bool nb) ∧ Below W.heap.size W w') :
  Calls Tryz.prog 51 #[.agg #[.string s1,.string s2,.int .i64 3,.int .i64 ty,.int .i64 tr,.int .i64 tmn,.int .i64 tmx,.bool th,.int .i64 mmn,.int .i64 mmx,.bool mh,.int .i64 gt,.bool gm]] w fun e w' => e = .returned (.bool (nb && (valB gt && (ty == 0) && zTB tr tmn tmx th && zLB mmn mmx mh))) ∧ Below w.heap.size w w' := by
 have HN := fun W => hid (hn W)
 have HI := fun W => hid (RVal_says gt W)
 generalize valB gt = a at *
 have HB := hid ((Below.refl w.heap.size w).alloc (Nat.le_refl _) (.cells #[.string s1,.string s2,.int .i64 3,.int .i64 ty,.int .i64 tr,.int .i64 tmn,.int .i64 tmx,.bool th,.int .i64 mmn,.int .i64 mmx,.bool mh,.int .i64 gt,.bool gm] 74))
 have HX := hid (CA.new w #[.string s1,.string s2,.int .i64 3,.int .i64 ty,.int .i64 tr,.int .i64 tmn,.int .i64 tmx,.bool th,.int .i64 mmn,.int .i64 mmx,.bool mh,.int .i64 gt,.bool gm] 74)
 have x0 := HX.out.at (k := 0) (v := .string s1) rfl
 have x1 := HX.out.at (k := 1) (v := .string s2) rfl
 clear hn
 go_enter Tryz.func51,Tryz.ntmps51
 go_upto_region 5 with (go_at_call 57; (with_reducible refine (HN _).out.mono ?_); rintro e w1 ⟨rfl,hb⟩; have HB1 := hid (HB.out.trans (hb.mono HB.out.size)); have HX1 := hid (HX.out.below hb HX.out.lt); clear hb)
 clear x0 x1
 have HX2 := hid (((HX1.out.alloc (.cells #[.int .i64 0,.int .i64 0,.int .i64 0,.bool false] 72)).alloc (.cells #[.int .i64 0,.int .i64 0,.bool false] 70)).alloc (.cells #[.int .i64 0,.bool false] 44))
 have HB2 := hid (((HB1.out.alloc HB1.out.size (.cells #[.int .i64 0,.int .i64 0,.int .i64 0,.bool false] 72)).alloc (by rw [size_al]; have := HB1.out.size; omega) (.cells #[.int .i64 0,.int .i64 0,.bool false] 70)).alloc (by rw [size_al,size_al]; have := HB1.out.size; omega) (.cells #[.int .i64 0,.bool false] 44))
 have HT := hid (((CA.new w1 #[.int .i64 0,.int .i64 0,.int .i64 0,.bool false] 72).alloc (.cells #[.int .i64 0,.int .i64 0,.bool false] 70)).alloc (.cells #[.int .i64 0,.bool false] 44))
 have hl := CA.new (w1.alloc (.cells #[.int .i64 0,.int .i64 0,.int .i64 0,.bool false] 72)) #[.int .i64 0,.int .i64 0,.bool false] 70
 rw [size_al] at hl
 have HL := hid (hl.alloc (.cells #[.int .i64 0,.bool false] 44))
 have hg := CA.new ((w1.alloc (.cells #[.int .i64 0,.int .i64 0,.int .i64 0,.bool false] 72)).alloc (.cells #[.int .i64 0,.int .i64 0,.bool false] 70)) #[.int .i64 0,.bool false] 44
 rw [size_al,size_al] at hg
 have HG := hid hg
 clear hl hg HX1 HB1 HX HB
 generalize ((w1.alloc (.cells #[.int .i64 0,.int .i64 0,.int .i64 0,.bool false] 72)).alloc (.cells #[.int .i64 0,.int .i64 0,.bool false] 70)).alloc (.cells #[.int .i64 0,.bool false] 44) = w2 at *
 generalize w1.heap.size = k at *
 have y0 := HX2.out.at (k := 0) (v := .string s1) rfl
 have y1 := HX2.out.at (k := 1) (v := .string s2) rfl
 have y2 := HX2.out.at (k := 2) (v := .int .i64 3) rfl
 have y3 := HX2.out.at (k := 3) (v := .int .i64 ty) rfl
 have y4 := HX2.out.at (k := 4) (v := .int .i64 tr) rfl
 have y5 := HX2.out.at (k := 5) (v := .int .i64 tmn) rfl
 have y6 := HX2.out.at (k := 6) (v := .int .i64 tmx) rfl
 have y7 := HX2.out.at (k := 7) (v := .bool th) rfl
 have y8 := HX2.out.at (k := 8) (v := .int .i64 mmn) rfl
 have y9 := HX2.out.at (k := 9) (v := .int .i64 mmx) rfl
 have y10 := HX2.out.at (k := 10) (v := .bool mh) rfl
 have y11 := HX2.out.at (k := 11) (v := .int .i64 gt) rfl
 have y12 := HX2.out.at (k := 12) (v := .bool gm) rfl
 have t0 := HT.out.at (k := 0) (v := .int .i64 0) rfl
 have t1 := HT.out.at (k := 1) (v := .int .i64 0) rfl
 have t2 := HT.out.at (k := 2) (v := .int .i64 0) rfl
 have t3 := HT.out.at (k := 3) (v := .bool false) rfl
 have l0 := HL.out.at (k := 0) (v := .int .i64 0) rfl
 have l1 := HL.out.at (k := 1) (v := .int .i64 0) rfl
 have l2 := HL.out.at (k := 2) (v := .bool false) rfl
 have g0 := HG.out.at (k := 0) (v := .int .i64 0) rfl
 have g1 := HG.out.at (k := 1) (v := .bool false) rfl
 go_wp2_with (go_at_call 56; (with_reducible refine (HI _).out.mono ?_); rintro e w3 ⟨rfl,rfl⟩)
 all_goals
  go_ret
  first
   | exact ⟨by simp_all [zTB,zLB,zGB],HB3.out⟩
   | exact ⟨by simp_all [zTB,zLB,zGB],HB2.out⟩
end Go.Proofs.YtjgeedgphcjhoaaGreat
namespace Go.Proofs.YtjgeedgphcjhoaaGreat
open Go.RowKit
set_option maxHeartbeats 4000000 in
theorem imported_x (kd : Int) (hk : ¬ (kd = 0 ∨ kd = 1 ∨ kd = 2 ∨ kd = 3)) (s1 s2 : ByteArray) (ty tr tmn tmx : Int) (th : Bool) (mmn mmx : Int) (mh : Bool) (gt : Int) (gm : Bool) (nb : Bool) (w : World)
  (hn : ∀ W,Calls Tryz.prog 57 #[.string s1,.string s2] W fun e w' => e = .returned (.bool nb) ∧ Below W.heap.size W w') :
  Calls Tryz.prog 51 #[.agg #[.string s1,.string s2,.int .i64 kd,.int .i64 ty,.int .i64 tr,.int .i64 tmn,.int .i64 tmx,.bool th,.int .i64 mmn,.int .i64 mmx,.bool mh,.int .i64 gt,.bool gm]] w fun e w' => e = .returned (.bool (nb && (false))) ∧ Below w.heap.size w w' := by
 have HN := fun W => hid (hn W)
 have HB := hid ((Below.refl w.heap.size w).alloc (Nat.le_refl _) (.cells #[.string s1,.string s2,.int .i64 kd,.int .i64 ty,.int .i64 tr,.int .i64 tmn,.int .i64 tmx,.bool th,.int .i64 mmn,.int .i64 mmx,.bool mh,.int .i64 gt,.bool gm] 74))
 have HX := hid (CA.new w #[.string s1,.string s2,.int .i64 kd,.int .i64 ty,.int .i64 tr,.int .i64 tmn,.int .i64 tmx,.bool th,.int .i64 mmn,.int .i64 mmx,.bool mh,.int .i64 gt,.bool gm] 74)
 have x0 := HX.out.at (k := 0) (v := .string s1) rfl
 have x1 := HX.out.at (k := 1) (v := .string s2) rfl
 clear hn
 go_enter Tryz.func51,Tryz.ntmps51
 go_upto_region 5 with (go_at_call 57; (with_reducible refine (HN _).out.mono ?_); rintro e w1 ⟨rfl,hb⟩; have HB1 := hid (HB.out.trans (hb.mono HB.out.size)); have HX1 := hid (HX.out.below hb HX.out.lt); clear hb)
 clear x0 x1
 have HX2 := hid (((HX1.out.alloc (.cells #[.int .i64 0,.int .i64 0,.int .i64 0,.bool false] 72)).alloc (.cells #[.int .i64 0,.int .i64 0,.bool false] 70)).alloc (.cells #[.int .i64 0,.bool false] 44))
 have HB2 := hid (((HB1.out.alloc HB1.out.size (.cells #[.int .i64 0,.int .i64 0,.int .i64 0,.bool false] 72)).alloc (by rw [size_al]; have := HB1.out.size; omega) (.cells #[.int .i64 0,.int .i64 0,.bool false] 70)).alloc (by rw [size_al,size_al]; have := HB1.out.size; omega) (.cells #[.int .i64 0,.bool false] 44))
 have HT := hid (((CA.new w1 #[.int .i64 0,.int .i64 0,.int .i64 0,.bool false] 72).alloc (.cells #[.int .i64 0,.int .i64 0,.bool false] 70)).alloc (.cells #[.int .i64 0,.bool false] 44))
 have hl := CA.new (w1.alloc (.cells #[.int .i64 0,.int .i64 0,.int .i64 0,.bool false] 72)) #[.int .i64 0,.int .i64 0,.bool false] 70
 rw [size_al] at hl
 have HL := hid (hl.alloc (.cells #[.int .i64 0,.bool false] 44))
 have hg := CA.new ((w1.alloc (.cells #[.int .i64 0,.int .i64 0,.int .i64 0,.bool false] 72)).alloc (.cells #[.int .i64 0,.int .i64 0,.bool false] 70)) #[.int .i64 0,.bool false] 44
 rw [size_al,size_al] at hg
 have HG := hid hg
 clear hl hg HX1 HB1 HX HB
 generalize ((w1.alloc (.cells #[.int .i64 0,.int .i64 0,.int .i64 0,.bool false] 72)).alloc (.cells #[.int .i64 0,.int .i64 0,.bool false] 70)).alloc (.cells #[.int .i64 0,.bool false] 44) = w2 at *
 generalize w1.heap.size = k at *
 have y0 := HX2.out.at (k := 0) (v := .string s1) rfl
 have y1 := HX2.out.at (k := 1) (v := .string s2) rfl
 have y2 := HX2.out.at (k := 2) (v := .int .i64 kd) rfl
 have y3 := HX2.out.at (k := 3) (v := .int .i64 ty) rfl
 have y4 := HX2.out.at (k := 4) (v := .int .i64 tr) rfl
 have y5 := HX2.out.at (k := 5) (v := .int .i64 tmn) rfl
 have y6 := HX2.out.at (k := 6) (v := .int .i64 tmx) rfl
 have y7 := HX2.out.at (k := 7) (v := .bool th) rfl
 have y8 := HX2.out.at (k := 8) (v := .int .i64 mmn) rfl
 have y9 := HX2.out.at (k := 9) (v := .int .i64 mmx) rfl
 have y10 := HX2.out.at (k := 10) (v := .bool mh) rfl
 have y11 := HX2.out.at (k := 11) (v := .int .i64 gt) rfl
 have y12 := HX2.out.at (k := 12) (v := .bool gm) rfl
 have t0 := HT.out.at (k := 0) (v := .int .i64 0) rfl
 have t1 := HT.out.at (k := 1) (v := .int .i64 0) rfl
 have t2 := HT.out.at (k := 2) (v := .int .i64 0) rfl
 have t3 := HT.out.at (k := 3) (v := .bool false) rfl
 have l0 := HL.out.at (k := 0) (v := .int .i64 0) rfl
 have l1 := HL.out.at (k := 1) (v := .int .i64 0) rfl
 have l2 := HL.out.at (k := 2) (v := .bool false) rfl
 have g0 := HG.out.at (k := 0) (v := .int .i64 0) rfl
 have g1 := HG.out.at (k := 1) (v := .bool false) rfl
 have k0 : kd ≠ 0 := fun h => hk (.inl h)
 have k1 : kd ≠ 1 := fun h => hk (.inr (.inl h))
 have k2 : kd ≠ 2 := fun h => hk (.inr (.inr (.inl h)))
 have k3 : kd ≠ 3 := fun h => hk (.inr (.inr (.inr h)))
 clear hk
 go_wp2
 all_goals
  go_ret
  first
   | exact ⟨by simp_all [zTB,zLB,zGB],HB3.out⟩
   | exact ⟨by simp_all [zTB,zLB,zGB],HB2.out⟩
end Go.Proofs.YtjgeedgphcjhoaaGreat
namespace Go.Proofs.YtjgeedgphcjhoaaGreat
open Go.RowKit
def impP (kd ty tr tmn tmx : Int) (th : Bool) (mmn mmx : Int) (mh : Bool) (gt : Int) (gm : Bool) (v : Bool) : Bool :=
 if kd = 0 then idxB ty && (zTB tr tmn tmx th && zLB mmn mmx mh && zGB gt gm) && v
 else if kd = 1 then (refB tr && limB tmn tmx th) && ((ty == 0) && zLB mmn mmx mh && zGB gt gm) && v
 else if kd = 2 then limB mmn mmx mh && ((ty == 0) && zTB tr tmn tmx th && zGB gt gm) && v
 else if kd = 3 then valB gt && ((ty == 0) && zTB tr tmn tmx th && zLB mmn mmx mh) && v
 else false
def impR (kd ty tr tmn tmx : Int) (th : Bool) (mmn mmx : Int) (mh : Bool) (gt : Int) (gm : Bool) (v : Bool) : Bool :=
 v && (if kd = 0 then idxR ty && zTB tr tmn tmx th && zLB mmn mmx mh && zGB gt gm
 else if kd = 1 then refB tr && limR tmn tmx th && (ty == 0) && zLB mmn mmx mh && zGB gt gm
 else if kd = 2 then limR mmn mmx mh && (ty == 0) && zTB tr tmn tmx th && zGB gt gm
 else if kd = 3 then valB gt && (ty == 0) && zTB tr tmn tmx th && zLB mmn mmx mh
 else false)
theorem imp_eq (kd ty tr tmn tmx : Int) (th : Bool) (mmn mmx : Int) (mh : Bool) (gt : Int) (gm v : Bool)
  (h1 : -9223372036854775808 ≤ ty) (h2 : ty < 9223372036854775808) (h3 : -9223372036854775808 ≤ tmn) (h4 : tmn < 9223372036854775808)
  (h5 : -9223372036854775808 ≤ tmx) (h6 : tmx < 9223372036854775808) (h7 : -9223372036854775808 ≤ mmn) (h8 : mmn < 9223372036854775808)
  (h9 : -9223372036854775808 ≤ mmx) (h10 : mmx < 9223372036854775808) :
  impP kd ty tr tmn tmx th mmn mmx mh gt gm v = impR kd ty tr tmn tmx th mmn mmx mh gt gm v := by
 unfold impP impR
 rw [idx_eq ty h1 h2,lim_eq tmn tmx th h3 h4 h5 h6,lim_eq mmn mmx mh h7 h8 h9 h10]
 generalize idxR ty = a
 generalize zTB tr tmn tmx th = b
 generalize zLB mmn mmx mh = c
 generalize zGB gt gm = d
 generalize refB tr = e
 generalize limR tmn tmx th = f
 generalize limR mmn mmx mh = g
 generalize valB gt = i
 generalize (ty == 0) = j
 split
 ·cases v <;> cases a <;> cases b <;> cases c <;> cases d <;> rfl
 ·split
  ·cases v <;> cases e <;> cases f <;> cases j <;> cases c <;> cases d <;> rfl
  ·split
   ·cases v <;> cases g <;> cases j <;> cases b <;> cases d <;> rfl
   ·split
    ·cases v <;> cases i <;> cases j <;> cases b <;> cases c <;> rfl
    ·cases v <;> rfl
theorem isImport_says (s1 s2 : ByteArray) (kd ty tr tmn tmx : Int) (th : Bool) (mmn mmx : Int) (mh : Bool) (gt : Int) (gm : Bool) (v1 v2 : Bool) (w : World)
  (h1 : ∀ W,Calls Tryz.prog 147 #[.string s1] W fun e w' => e = .returned (.bool v1) ∧ Below W.heap.size W w') (h2 : ∀ W,Calls Tryz.prog 147 #[.string s2] W fun e w' => e = .returned (.bool v2) ∧ Below W.heap.size W w') :
  Calls Tryz.prog 33 #[.agg #[.string s1,.string s2,.int .i64 kd,.int .i64 ty,.int .i64 tr,.int .i64 tmn,.int .i64 tmx,.bool th,.int .i64 mmn,.int .i64 mmx,.bool mh,.int .i64 gt,.bool gm]] w fun e w' => e = .returned (.bool (impP kd ty tr tmn tmx th mmn mmx mh gt gm (v1 && v2))) ∧ Below w.heap.size w w' := by
 by_cases k0 : kd = 0
 ·subst k0
  refine (isImport_0 s1 s2 ty tr tmn tmx th mmn mmx mh gt gm v1 v2 w h1 h2).mono ?_
  rintro e w' ⟨rfl,hb⟩
  exact ⟨by rw [impP,if_pos rfl,Bool.and_assoc _ v1 v2],hb⟩
 by_cases k1 : kd = 1
 ·subst k1
  refine (isImport_1 s1 s2 ty tr tmn tmx th mmn mmx mh gt gm v1 v2 w h1 h2).mono ?_
  rintro e w' ⟨rfl,hb⟩
  exact ⟨by rw [impP,if_neg (by decide),if_pos rfl,Bool.and_assoc _ v1 v2],hb⟩
 by_cases k2 : kd = 2
 ·subst k2
  refine (isImport_2 s1 s2 ty tr tmn tmx th mmn mmx mh gt gm v1 v2 w h1 h2).mono ?_
  rintro e w' ⟨rfl,hb⟩
  exact ⟨by rw [impP,if_neg (by decide),if_neg (by decide),if_pos rfl,Bool.and_assoc _ v1 v2],hb⟩
 by_cases k3 : kd = 3
 ·subst k3
  refine (isImport_3 s1 s2 ty tr tmn tmx th mmn mmx mh gt gm v1 v2 w h1 h2).mono ?_
  rintro e w' ⟨rfl,hb⟩
  exact ⟨by rw [impP,if_neg (by decide),if_neg (by decide),if_neg (by decide),if_pos rfl,Bool.and_assoc _ v1 v2],hb⟩
 refine (isImport_else s1 s2 kd ty tr tmn tmx th mmn mmx mh gt gm w k0 k1 k2 k3).mono ?_
 rintro e w' ⟨rfl,hb⟩
 exact ⟨by rw [impP,if_neg k0,if_neg k1,if_neg k2,if_neg k3],hb⟩
theorem imported_says (s1 s2 : ByteArray) (kd ty tr tmn tmx : Int) (th : Bool) (mmn mmx : Int) (mh : Bool) (gt : Int) (gm : Bool) (nb : Bool) (w : World)
  (hn : ∀ W,Calls Tryz.prog 57 #[.string s1,.string s2] W fun e w' => e = .returned (.bool nb) ∧ Below W.heap.size W w') :
  Calls Tryz.prog 51 #[.agg #[.string s1,.string s2,.int .i64 kd,.int .i64 ty,.int .i64 tr,.int .i64 tmn,.int .i64 tmx,.bool th,.int .i64 mmn,.int .i64 mmx,.bool mh,.int .i64 gt,.bool gm]] w fun e w' => e = .returned (.bool (impR kd ty tr tmn tmx th mmn mmx mh gt gm nb)) ∧ Below w.heap.size w w' := by
 by_cases k0 : kd = 0
 ·subst k0
  refine (imported_0 s1 s2 ty tr tmn tmx th mmn mmx mh gt gm nb w hn).mono ?_
  rintro e w' ⟨rfl,hb⟩
  exact ⟨by rw [impR,if_pos rfl],hb⟩
 by_cases k1 : kd = 1
 ·subst k1
  refine (imported_1 s1 s2 ty tr tmn tmx th mmn mmx mh gt gm nb w hn).mono ?_
  rintro e w' ⟨rfl,hb⟩
  exact ⟨by rw [impR,if_neg (by decide),if_pos rfl],hb⟩
 by_cases k2 : kd = 2
 ·subst k2
  refine (imported_2 s1 s2 ty tr tmn tmx th mmn mmx mh gt gm nb w hn).mono ?_
  rintro e w' ⟨rfl,hb⟩
  exact ⟨by rw [impR,if_neg (by decide),if_neg (by decide),if_pos rfl],hb⟩
 by_cases k3 : kd = 3
 ·subst k3
  refine (imported_3 s1 s2 ty tr tmn tmx th mmn mmx mh gt gm nb w hn).mono ?_
  rintro e w' ⟨rfl,hb⟩
  exact ⟨by rw [impR,if_neg (by decide),if_neg (by decide),if_neg (by decide),if_pos rfl],hb⟩
 refine (imported_x kd (by omega) s1 s2 ty tr tmn tmx th mmn mmx mh gt gm nb w hn).mono ?_
 rintro e w' ⟨rfl,hb⟩
 exact ⟨by rw [impR,if_neg k0,if_neg k1,if_neg k2,if_neg k3],hb⟩
end Go.Proofs.YtjgeedgphcjhoaaGreat
namespace Go.Proofs.YtjgeedgphcjhoaaGreat
open Go.RowKit
/-- The value v reads as the bytes l, all of whose cells lie below block B. -/
def BytesAt (B : Nat) (w : World) (v : Value) (l : List UInt8) : Prop :=
 (v = .slice none 0 0 ∧ l = []) ∨
 ∃ g off cap,v = .slice (some ⟨g,off,none⟩) l.length cap ∧ g < B ∧ l.length ≤ cap ∧ (cap ≤ 9223372036854775807 ∧ l.length ≤ 140737488351232) ∧
  ∀ j u,l[j]? = some u → w.cell? ⟨g,off + j,none⟩ = some (.int .u8 u.toNat)
theorem BytesAt.mono {B B' : Nat} {w : World} {v : Value} {l : List UInt8} (h : BytesAt B w v l) (hB : B ≤ B') : BytesAt B' w v l := by
 rcases h with h | ⟨g,off,cap,h1,h2,h3⟩
 ·exact .inl h
 ·exact .inr ⟨g,off,cap,h1,by omega,h3⟩
theorem BytesAt.below {B : Nat} {w w' : World} {v : Value} {l : List UInt8} (h : BytesAt B w v l) (hb : Below B w w') : BytesAt B w' v l := by
 rcases h with h | ⟨g,off,cap,h1,h2,h3,h4,h5⟩
 ·exact .inl h
 ·exact .inr ⟨g,off,cap,h1,h2,h3,h4,fun j u hj => by rw [hb.cell (p := ⟨g,off + j,none⟩) h2]; exact h5 j u hj⟩
theorem BytesAt.len {B : Nat} {w : World} {v : Value} {l : List UInt8} (h : BytesAt B w v l) : l.length ≤ 140737488351232 := by
 rcases h with ⟨_,rfl⟩ | ⟨_,_,_,_,_,_,h,_⟩
 ·simp
 ·exact h.2
/-- As BytesAt; or no byte at whatever address. -/
def BytesIn (B : Nat) (w : World) (v : Value) (l : List UInt8) : Prop := BytesAt B w v l ∨ ∃ x c,v = .slice (some x) 0 c ∧ l = []
theorem BytesIn.below {B : Nat} {w w' : World} {v : Value} {l : List UInt8} (h : BytesIn B w v l) (hb : Below B w w') : BytesIn B w' v l := h.imp (fun h => h.below hb) (fun h => h)
theorem BytesIn.mono {B B' : Nat} {w : World} {v : Value} {l : List UInt8} (h : BytesIn B w v l) (hB : B ≤ B') : BytesIn B' w v l := h.imp (fun h => h.mono hB) (fun h => h)
theorem BytesIn.len {B : Nat} {w : World} {v : Value} {l : List UInt8} (h : BytesIn B w v l) : l.length ≤ 140737488351232 := by
 rcases h with h | ⟨_,_,_,rfl⟩
 ·exact h.len
 ·simp
end Go.Proofs.YtjgeedgphcjhoaaGreat
namespace Go.Proofs.YtjgeedgphcjhoaaGreat
open Go
/-- UTF-8 from a place on: no step of the decoder is an error of width 1. -/
def vfrom (s : ByteArray) : Nat → Nat → Bool
 | 0,_ => true
 | f + 1,i => if i < s.size then (if (Utf8.decode s i).1 = 65533 ∧ (Utf8.decode s i).2 = 1 then false else vfrom s f (i + (Utf8.decode s i).2)) else true
theorem vfrom_end (s : ByteArray) (f i : Nat) (h : ¬ i < s.size) : vfrom s f i = true := by
 cases f with
 | zero => rfl
 | succ f => rw [vfrom,if_neg h]
theorem width_pos (s : ByteArray) (pos : Nat) (h : pos < s.size) : 1 ≤ (Utf8.decode s pos).2 := by
 by_cases ha : (s[pos]'h).toNat < 128
 ·rw [decode_ascii s pos h ha]
  exact Nat.le_refl _
 ·exact (decode_high s pos h (by omega)).2
theorem get_byte (s : ByteArray) (i : Nat) : (s.get! i).toNat = ((s.data.toList[i]?).map UInt8.toNat).getD 0 := by
 by_cases h : i < s.size
 ·have h2 : i < s.data.size := h
  have e : s.get! i = s.data[i] := by
   show s.data[i]! = _
   exact getElem!_pos s.data i h2
  rw [e,List.getElem?_eq_getElem (by simpa using h2)]
  simp
 ·have h2 : ¬ i < s.data.size := h
  have e : s.get! i = 0 := by
   show s.data[i]! = _
   exact getElem!_neg s.data i h2
  rw [e,List.getElem?_eq_none (by simpa using h2)]
  rfl
theorem decodeN_fffd (n b0 b1 b2 b3 : Nat) (h0 : b0 < 256) (hc : (Lib.decodeN n b0 b1 b2 b3).1 = 65533) :
  (Lib.decodeN n b0 b1 b2 b3).2 ≠ 1 ↔ (2 < n ∧ b0 = 239 ∧ b1 = 191 ∧ b2 = 189) := by
 revert hc
 unfold Lib.decodeN
 by_cases c0 : b0 < 128
 ·rw [if_pos c0]; intro hc; simp only at hc; omega
 rw [if_neg c0]
 by_cases c1 : b0 / 32 = 6 ∧ (1 < n ∧ b1 / 64 = 2)
 ·rw [if_pos c1]
  split
  ·intro hc; simp only at hc; omega
  ·intro _; simp; omega
 rw [if_neg c1]
 by_cases c2 : b0 / 16 = 14 ∧ (1 < n ∧ b1 / 64 = 2) ∧ (2 < n ∧ b2 / 64 = 2)
 ·rw [if_pos c2]
  split
  ·intro hc; simp only at hc; simp; omega
  ·intro _; simp; omega
 rw [if_neg c2]
 by_cases c3 : b0 / 8 = 30 ∧ (1 < n ∧ b1 / 64 = 2) ∧ (2 < n ∧ b2 / 64 = 2) ∧ (3 < n ∧ b3 / 64 = 2)
 ·rw [if_pos c3]
  split
  ·intro hc; simp only at hc; omega
  ·intro _; simp; omega
 rw [if_neg c3]
 intro _; simp; omega
theorem take3_iff (l : List UInt8) (pos : Nat) : (l.drop pos).take 3 = [239,191,189] ↔
  (pos + 2 < l.length ∧ ((l[pos]?).map UInt8.toNat).getD 0 = 239 ∧ ((l[pos + 1]?).map UInt8.toNat).getD 0 = 191 ∧ ((l[pos + 2]?).map UInt8.toNat).getD 0 = 189) := by
 constructor
 ·intro h
  have hlen := congrArg List.length h
  simp only [List.length_take,List.length_drop,List.length_cons,List.length_nil] at hlen
  have e : ∀ j,j < 3 → l[pos + j]? = ([239,191,189] : List UInt8)[j]? := by
   intro j hj
   rw [← h,List.getElem?_take,if_pos hj,List.getElem?_drop]
  have e0 := e 0 (by omega)
  have e1 := e 1 (by omega)
  have e2 := e 2 (by omega)
  simp only [Nat.add_zero] at e0
  rw [e0,e1,e2]
  exact ⟨by omega,rfl,rfl,rfl⟩
 ·rintro ⟨hl,h0,h1,h2⟩
  rw [List.getElem?_eq_getElem (by omega)] at h0 h1 h2
  simp only [Option.map_some,Option.getD_some] at h0 h1 h2
  rw [List.drop_eq_getElem_cons (by omega),List.drop_eq_getElem_cons (by omega),List.drop_eq_getElem_cons (by omega)]
  simp only [List.take_succ_cons,List.take_zero]
  have f0 : l[pos] = 239 := UInt8.toNat_inj.1 h0
  have f1 : l[pos + 1] = 191 := UInt8.toNat_inj.1 h1
  have f2 : l[pos + 1 + 1] = 189 := UInt8.toNat_inj.1 h2
  rw [f0,f1,f2]
/-- Where the decoder gives U+FFFD, it stands there, or it is an error of width 1. -/
theorem fffd_iff (s : ByteArray) (pos : Nat) (hc : (Utf8.decode s pos).1 = 65533) : (s.data.toList.drop pos).take 3 = [239,191,189] ↔ ¬ (Utf8.decode s pos).2 = 1 := by
 have hb : ∀ i,(s.get! i).toNat < 256 := fun i => (s.get! i).toNat_lt
 rw [Lib.decode_at] at hc ⊢
 rw [show (¬ (Lib.decodeN (s.size - pos) (s.get! pos).toNat (s.get! (pos + 1)).toNat (s.get! (pos + 2)).toNat (s.get! (pos + 3)).toNat).2 = 1) ↔ _ from decodeN_fffd _ _ _ _ _ (hb _) hc,take3_iff,← get_byte,← get_byte,← get_byte]
 have : s.data.toList.length = s.size := rfl
 rw [this]
 constructor
 ·rintro ⟨a,b⟩; exact ⟨by omega,b⟩
 ·rintro ⟨a,b⟩; exact ⟨by omega,b⟩
end Go.Proofs.YtjgeedgphcjhoaaGreat
namespace Go.Proofs.YtjgeedgphcjhoaaGreat
open Go.RowKit
set_option maxHeartbeats 400000 in
theorem begins_any (x : ByteArray) (w : World) (hx : x.size ≤ 9223372036854775807) :
  Calls Tryz.prog 212 #[.string x,.string ⟨#[239,191,189]⟩] w fun e w' => e = .returned (.bool (decide (x.data.toList.take 3 = [239,191,189]))) ∧ w = w' := by
 by_cases h3 : 3 ≤ x.size
 ·have hd : decide ((3 : Int) ≤ (x.size : Int)) = true := by simp; omega
  go_enter Tryz.func212,Tryz.ntmps212
  go_wp2
  go_ret
  refine ⟨?_,rfl⟩
  show Ending.returned (.bool ((x.extract 0 3).toList == [239,191,189])) = _
  rw [Lib.extract_toList]
  simp only [List.drop_zero,Nat.sub_zero]
  congr 2
  rw [Bool.eq_iff_iff]
  simp
 ·have hd : decide ((3 : Int) ≤ (x.size : Int)) = false := by simp; omega
  go_enter Tryz.func212,Tryz.ntmps212
  go_wp2
  go_ret
  refine ⟨?_,rfl⟩
  have : ¬ (x.data.toList.take 3 = [239,191,189]) := by
   intro h
   have hl := congrArg List.length h
   have e : x.data.toList.length = x.size := rfl
   rw [List.length_take,e] at hl
   simp at hl
   omega
  show Ending.returned (.bool false) = _
  simp [this]
set_option maxHeartbeats 1600000 in
theorem Valid_any (s : ByteArray) (w : World) (hs : s.size ≤ 9223372036854775807) :
  Calls Tryz.prog 147 #[.string s] w fun e w' => e = .returned (.bool (vfrom s s.size 0)) ∧ Below w.heap.size w w' := by
 go_enter Tryz.func147,Tryz.ntmps147
 go_wp2
 go_loopw [3,4] (fun _ _ wr => ∃ (pos fuel : Nat),wr.heap[w.heap.size]? = some (.stringIter s pos) ∧ Below w.heap.size w wr ∧ s.size ≤ pos + fuel ∧ vfrom s s.size 0 = vfrom s fuel pos) (fun _ _ wr => s.size - wr.iterPos w.heap.size)
 case atStart => exact ⟨0,s.size,World.iter_heap w s 0,(Below.refl _ w).alloc (Nat.le_refl _) _,by omega,rfl⟩
 case round =>
  obtain ⟨pos,fuel,hit,hbw,hfu,hv⟩ := hrel
  have hsz : w.heap.size < wr.heap.size := (Array.getElem?_eq_some_iff.1 hit).1
  have HV := hid hv
  clear hv
  by_cases hp : pos < s.size
  ·have hnx : ∀ ty,(Instr.next (.pointer (some ⟨w.heap.size,0,none⟩)) true ty).run Tryz.prog wr = _ := fun ty => Lib.run_next_any_at wr w.heap.size s pos ty hit hp
   have hwd := width_pos s pos hp
   have hd1 := decode_le s pos
   have hit2 := Lib.iterAt_heap wr w.heap.size s pos (pos + (Utf8.decode s pos).2) hit
   have hbw2 := Lib.below_iterAt hbw (k := w.heap.size) (Nat.le_refl _) s (pos + (Utf8.decode s pos).2)
   obtain ⟨f,rfl⟩ : ∃ f,fuel = f + 1 := ⟨fuel - 1,by omega⟩
   by_cases hc : (Utf8.decode s pos).1 = 65533
   ·have hf := fffd_iff s pos hc
    have hx : (s.extract pos s.size).data.toList = s.data.toList.drop pos := by
     have e : s.data.toList.length = s.size := rfl
     rw [Lib.extract_data,List.take_of_length_le (by rw [List.length_drop,e]; omega)]
    have hxs : (s.extract pos s.size).size ≤ 9223372036854775807 := by
     have e : (s.extract pos s.size).size = (s.extract pos s.size).data.toList.length := rfl
     have e2 : s.data.toList.length = s.size := rfl
     rw [e,hx,List.length_drop,e2]; omega
    by_cases hw1 : (Utf8.decode s pos).2 = 1
    ·have hB : ∀ W,Calls Tryz.prog 212 #[.string (s.extract pos s.size),.string ⟨#[239,191,189]⟩] W fun e w' => e = .returned (.bool false) ∧ W = w' := fun W =>
      (begins_any _ W hxs).mono fun e w' ⟨h1,h2⟩ => ⟨by rw [h1,hx]; simp only [hf,hw1]; rfl,h2⟩
     have hstep : Hid (vfrom s (f + 1) pos = false) := hid (by rw [vfrom,if_pos hp,if_pos ⟨hc,hw1⟩])
     have HB := hid hB
     have hcb : (((Utf8.decode s pos).1 : Int) == 65533) = true := by simp; omega
     clear hB hf hx hxs hc hw1
     go_wp2_with (go_at_call 212; refine (HB.out _).mono ?_; rintro en w1 ⟨rfl,rfl⟩)
     go_ret
     exact ⟨by rw [HV.out,hstep.out]; rfl,hbw2⟩
    ·have hB : ∀ W,Calls Tryz.prog 212 #[.string (s.extract pos s.size),.string ⟨#[239,191,189]⟩] W fun e w' => e = .returned (.bool true) ∧ W = w' := fun W =>
      (begins_any _ W hxs).mono fun e w' ⟨h1,h2⟩ => ⟨by rw [h1,hx]; simp only [hf,hw1]; rfl,h2⟩
     have hstep : Hid (vfrom s (f + 1) pos = vfrom s f (pos + (Utf8.decode s pos).2)) := hid (by rw [vfrom,if_pos hp,if_neg (by rintro ⟨_,h⟩; exact hw1 h)])
     have HB := hid hB
     have hcb : (((Utf8.decode s pos).1 : Int) == 65533) = true := by simp; omega
     clear hB hf hx hxs hc hw1
     go_wp2_with (go_at_call 212; refine (HB.out _).mono ?_; rintro en w1 ⟨rfl,rfl⟩)
     refine ⟨⟨pos + (Utf8.decode s pos).2,f,hit2,hbw2,by omega,by rw [HV.out,hstep.out]⟩,?_⟩
     simp only [World.iterPos,hit,hit2]
     omega
   ·have hstep : Hid (vfrom s (f + 1) pos = vfrom s f (pos + (Utf8.decode s pos).2)) := hid (by rw [vfrom,if_pos hp,if_neg (by rintro ⟨h,_⟩; exact hc h)])
    have hcb : (((Utf8.decode s pos).1 : Int) == 65533) = false := by simp; omega
    have HC := hid hc
    clear hc
    go_wp2
    refine ⟨⟨pos + (Utf8.decode s pos).2,f,hit2,hbw2,by omega,by rw [HV.out,hstep.out]⟩,?_⟩
    simp only [World.iterPos,hit,hit2]
    omega
  ·have hnx : ∀ ty,(Instr.next (.pointer (some ⟨w.heap.size,0,none⟩)) true ty).run Tryz.prog wr = _ := fun ty => Lib.run_next_end_at wr w.heap.size s pos ty hit hp
   have HE := hid (vfrom_end s fuel pos hp)
   go_wp2
   go_ret
   exact ⟨by rw [HV.out,HE.out]; rfl,hbw⟩
end Go.Proofs.YtjgeedgphcjhoaaGreat
namespace Go.Proofs.YtjgeedgphcjhoaaGreat
open Go
def byt (s : ByteArray) (i : Nat) : Nat := (s.get! i).toNat
theorem byt_lt (s : ByteArray) (i : Nat) : byt s i < 256 := (s.get! i).toNat_lt
theorem byt_eq (s : ByteArray) (i : Nat) (h : i < s.size) : (s[i]'h).toNat = byt s i := by
 have h2 : i < s.data.size := h
 have e : s.get! i = s.data[i] := by
  show s.data[i]! = _
  exact getElem!_pos s.data i h2
 unfold byt
 rw [e]
 rfl
/-- The number behind j following bytes. -/
def cvv (s : ByteArray) (pos c0 : Nat) : Nat → Nat
 | 0 => c0
 | j + 1 => cvv s pos c0 j * 64 + (byt s (pos + (j + 1)) - 128)
theorem cvv_le (s : ByteArray) (pos c0 : Nat) (h : c0 ≤ 31) : ∀ j,cvv s pos c0 j + 3 ≤ 34 * 64 ^ j
 | 0 => by
  show c0 + 3 ≤ 34 * 1
  omega
 | j + 1 => by
  have h1 := cvv_le s pos c0 h j
  have hb := byt_lt s (pos + (j + 1))
  show cvv s pos c0 j * 64 + (byt s (pos + (j + 1)) - 128) + 3 ≤ _
  rw [Nat.pow_succ]
  omega
theorem cvv_small (s : ByteArray) (pos c0 j : Nat) (h : c0 ≤ 31) (hj : j ≤ 3) : cvv s pos c0 j ≤ 10000000 := by
 have h1 := cvv_le s pos c0 h j
 have h2 : 64 ^ j ≤ 64 ^ 3 := Nat.pow_le_pow_right (by decide) hj
 have h3 : (64 : Nat) ^ 3 = 262144 := by decide
 omega
def leastOf (n : Nat) : Nat := if n = 2 then 128 else if n = 3 then 2048 else 65536
/-- n bytes that are a code point. -/
def Good (s : ByteArray) (pos n c0 : Nat) : Prop :=
 pos + n ≤ s.size ∧ (∀ j,1 ≤ j → j < n → 128 ≤ byt s (pos + j) ∧ byt s (pos + j) ≤ 191) ∧ leastOf n ≤ cvv s pos c0 (n - 1) ∧ cvv s pos c0 (n - 1) ≤ 1114111 ∧ ¬ (55295 < cvv s pos c0 (n - 1) ∧ cvv s pos c0 (n - 1) < 57344)
def Kind (b n c0 : Nat) : Prop := (n = 2 ∧ b = c0 + 192 ∧ c0 < 32) ∨ (n = 3 ∧ b = c0 + 224 ∧ c0 < 16) ∨ (n = 4 ∧ b = c0 + 240 ∧ c0 < 8)
theorem cvv_1 (s : ByteArray) (pos c0 : Nat) : cvv s pos c0 (2 - 1) = c0 * 64 + (byt s (pos + 1) - 128) := rfl
theorem cvv_2 (s : ByteArray) (pos c0 : Nat) : cvv s pos c0 (3 - 1) = (c0 * 64 + (byt s (pos + 1) - 128)) * 64 + (byt s (pos + 2) - 128) := rfl
theorem cvv_3 (s : ByteArray) (pos c0 : Nat) : cvv s pos c0 (4 - 1) = ((c0 * 64 + (byt s (pos + 1) - 128)) * 64 + (byt s (pos + 2) - 128)) * 64 + (byt s (pos + 3) - 128) := rfl
theorem least_2 : leastOf 2 = 128 := rfl
theorem least_3 : leastOf 3 = 2048 := rfl
theorem least_4 : leastOf 4 = 65536 := rfl
theorem decode_byt (s : ByteArray) (i : Nat) : Utf8.decode s i = Lib.decodeN (s.size - i) (byt s i) (byt s (i + 1)) (byt s (i + 2)) (byt s (i + 3)) := Lib.decode_at s i
theorem dec_good {s : ByteArray} {pos n c0 : Nat} (hk : Kind (byt s pos) n c0) (hg : Good s pos n c0) : (Utf8.decode s pos).2 = n := by
 obtain ⟨g1,g2,g3,g4,g5⟩ := hg
 have b1 := byt_lt s (pos + 1)
 have b2 := byt_lt s (pos + 2)
 have b3 := byt_lt s (pos + 3)
 rw [decode_byt]
 rcases hk with ⟨rfl,h0,hc⟩ | ⟨rfl,h0,hc⟩ | ⟨rfl,h0,hc⟩
 ·obtain ⟨k1,k2⟩ := g2 1 (by decide) (by decide)
  rw [cvv_1] at g3 g4 g5
  rw [least_2] at g3
  unfold Lib.decodeN
  rw [if_neg (by omega),if_pos (by omega),if_pos (by omega)]
 ·obtain ⟨k1,k2⟩ := g2 1 (by decide) (by decide)
  obtain ⟨k3,k4⟩ := g2 2 (by decide) (by decide)
  rw [cvv_2] at g3 g4 g5
  rw [least_3] at g3
  unfold Lib.decodeN
  rw [if_neg (by omega),if_neg (by omega),if_pos (by omega),if_pos (by omega)]
 ·obtain ⟨k1,k2⟩ := g2 1 (by decide) (by decide)
  obtain ⟨k3,k4⟩ := g2 2 (by decide) (by decide)
  obtain ⟨k5,k6⟩ := g2 3 (by decide) (by decide)
  rw [cvv_3] at g3 g4 g5
  rw [least_4] at g3
  unfold Lib.decodeN
  rw [if_neg (by omega),if_neg (by omega),if_neg (by omega),if_pos (by omega),if_pos (by omega)]
theorem dec_bad {s : ByteArray} {pos n c0 : Nat} (hk : Kind (byt s pos) n c0) (hg : ¬ Good s pos n c0) : Utf8.decode s pos = (65533,1) := by
 have b1 := byt_lt s (pos + 1)
 have b2 := byt_lt s (pos + 2)
 have b3 := byt_lt s (pos + 3)
 rw [decode_byt]
 rcases hk with ⟨rfl,h0,hc⟩ | ⟨rfl,h0,hc⟩ | ⟨rfl,h0,hc⟩
 ·have hbad : ¬ (pos + 2 ≤ s.size ∧ 128 ≤ byt s (pos + 1) ∧ byt s (pos + 1) ≤ 191 ∧ 128 ≤ c0 * 64 + (byt s (pos + 1) - 128)) := by
   rintro ⟨a,b,c,d⟩
   refine hg ⟨a,fun j h1 h2 => (by obtain rfl : j = 1 := (by omega); exact ⟨b,c⟩),?_⟩
   rw [cvv_1,least_2]
   omega
  unfold Lib.decodeN
  rw [if_neg (by omega)]
  by_cases h1 : byt s pos / 32 = 6 ∧ 1 < s.size - pos ∧ byt s (pos + 1) / 64 = 2
  ·rw [if_pos h1,if_neg (by omega)]
  ·rw [if_neg h1,if_neg (by omega),if_neg (by omega)]
 ·have hbad : ¬ (pos + 3 ≤ s.size ∧ (128 ≤ byt s (pos + 1) ∧ byt s (pos + 1) ≤ 191) ∧ (128 ≤ byt s (pos + 2) ∧ byt s (pos + 2) ≤ 191) ∧
    2048 ≤ (c0 * 64 + (byt s (pos + 1) - 128)) * 64 + (byt s (pos + 2) - 128) ∧ ¬ (55295 < (c0 * 64 + (byt s (pos + 1) - 128)) * 64 + (byt s (pos + 2) - 128) ∧ (c0 * 64 + (byt s (pos + 1) - 128)) * 64 + (byt s (pos + 2) - 128) < 57344)) := by
   rintro ⟨a,b,c,d,e⟩
   refine hg ⟨a,fun j h1 h2 => by
    rcases (show j = 1 ∨ j = 2 by omega) with rfl | rfl
    ·exact b
    ·exact c,?_⟩
   rw [cvv_2,least_3]
   omega
  unfold Lib.decodeN
  rw [if_neg (by omega),if_neg (by omega)]
  by_cases h1 : byt s pos / 16 = 14 ∧ (1 < s.size - pos ∧ byt s (pos + 1) / 64 = 2) ∧ (2 < s.size - pos ∧ byt s (pos + 2) / 64 = 2)
  ·rw [if_pos h1,if_neg (by omega)]
  ·rw [if_neg h1,if_neg (by omega)]
 ·have hbad : ¬ (pos + 4 ≤ s.size ∧ (128 ≤ byt s (pos + 1) ∧ byt s (pos + 1) ≤ 191) ∧ (128 ≤ byt s (pos + 2) ∧ byt s (pos + 2) ≤ 191) ∧ (128 ≤ byt s (pos + 3) ∧ byt s (pos + 3) ≤ 191) ∧
    65536 ≤ ((c0 * 64 + (byt s (pos + 1) - 128)) * 64 + (byt s (pos + 2) - 128)) * 64 + (byt s (pos + 3) - 128) ∧ ((c0 * 64 + (byt s (pos + 1) - 128)) * 64 + (byt s (pos + 2) - 128)) * 64 + (byt s (pos + 3) - 128) ≤ 1114111) := by
   rintro ⟨a,b,c,d,e,f⟩
   refine hg ⟨a,fun j h1 h2 => by
    rcases (show j = 1 ∨ j = 2 ∨ j = 3 by omega) with rfl | rfl | rfl
    ·exact b
    ·exact c
    ·exact d,?_⟩
   rw [cvv_3,least_4]
   omega
  unfold Lib.decodeN
  rw [if_neg (by omega),if_neg (by omega),if_neg (by omega)]
  by_cases h1 : byt s pos / 8 = 30 ∧ (1 < s.size - pos ∧ byt s (pos + 1) / 64 = 2) ∧ (2 < s.size - pos ∧ byt s (pos + 2) / 64 = 2) ∧ (3 < s.size - pos ∧ byt s (pos + 3) / 64 = 2)
  ·rw [if_pos h1,if_neg (by omega)]
  ·rw [if_neg h1]
theorem dec_none {s : ByteArray} {pos : Nat} (h : (128 ≤ byt s pos ∧ byt s pos < 192) ∨ 248 ≤ byt s pos) : Utf8.decode s pos = (65533,1) := by
 have b0 := byt_lt s pos
 rw [decode_byt]
 unfold Lib.decodeN
 rw [if_neg (by omega),if_neg (by omega),if_neg (by omega),if_neg (by omega)]
theorem vfrom_bad {s : ByteArray} {f pos : Nat} (hp : pos < s.size) (h : Utf8.decode s pos = (65533,1)) : vfrom s (f + 1) pos = false := by
 rw [vfrom,if_pos hp,h,if_pos ⟨rfl,rfl⟩]
theorem vfrom_good {s : ByteArray} {f pos n : Nat} (hp : pos < s.size) (h : (Utf8.decode s pos).2 = n) (hn : n ≠ 1) : vfrom s (f + 1) pos = vfrom s f (pos + n) := by
 rw [vfrom,if_pos hp,h,if_neg (by rintro ⟨_,h⟩; exact hn h)]
theorem vfrom_one {s : ByteArray} {f pos : Nat} (hp : pos < s.size) (h : byt s pos < 128) : vfrom s (f + 1) pos = vfrom s f (pos + 1) := by
 have e : Utf8.decode s pos = (byt s pos,1) := by
  rw [decode_byt]; unfold Lib.decodeN; rw [if_pos h]
 rw [vfrom,if_pos hp,e,if_neg (by rintro ⟨h,_⟩; simp only at h; omega)]
end Go.Proofs.YtjgeedgphcjhoaaGreat
