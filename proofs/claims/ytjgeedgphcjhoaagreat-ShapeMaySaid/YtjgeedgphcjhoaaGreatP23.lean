/-
  RImp0, PImp0: merged, what the law does not reach left out (each text says what it holds where it lies in wip). No condition.
-/
import Derived.Test.YtjgeedgphcjhoaaGreatP22
import Derived.Deep.DeepCutAuto
import Derived.Test.YtjgeedgphcjhoaaGreatP21
import Derived.Deep.RegionHeld3
set_option linter.unusedSimpArgs false
set_option linter.unusedVariables false
set_option maxRecDepth 100000
namespace Go.Proofs.YtjgeedgphcjhoaaGreat
open Go.RowKit
def zTB (r mn mx : Int) (h : Bool) : Bool := (r == 0) && (mn == 0) && (mx == 0) && !h
def zLB (mn mx : Int) (h : Bool) : Bool := (mn == 0) && (mx == 0) && !h
def zGB (t : Int) (m : Bool) : Bool := (t == 0) && !m
set_option maxHeartbeats 4000000 in
theorem imported_0 (s1 s2 : ByteArray) (ty tr tmn tmx : Int) (th : Bool) (mmn mmx : Int) (mh : Bool) (gt : Int) (gm : Bool) (nb : Bool) (w : World)
  (hn : ∀ W,Calls Tryz.prog 57 #[.string s1,.string s2] W fun e w' => e = .returned (.bool nb) ∧ Below W.heap.size W w') :
  Calls Tryz.prog 51 #[.agg #[.string s1,.string s2,.int .i64 0,.int .i64 ty,.int .i64 tr,.int .i64 tmn,.int .i64 tmx,.bool th,.int .i64 mmn,.int .i64 mmx,.bool mh,.int .i64 gt,.bool gm]] w fun e w' => e = .returned (.bool (nb && (idxR ty && zTB tr tmn tmx th && zLB mmn mmx mh && zGB gt gm))) ∧ Below w.heap.size w w' := by
 have HN := fun W => hid (hn W)
 have HI := fun W => hid (RIndex_says ty W)
 generalize idxR ty = a at *
 have HB := hid ((Below.refl w.heap.size w).alloc (Nat.le_refl _) (.cells #[.string s1,.string s2,.int .i64 0,.int .i64 ty,.int .i64 tr,.int .i64 tmn,.int .i64 tmx,.bool th,.int .i64 mmn,.int .i64 mmx,.bool mh,.int .i64 gt,.bool gm] 74))
 have HX := hid (CA.new w #[.string s1,.string s2,.int .i64 0,.int .i64 ty,.int .i64 tr,.int .i64 tmn,.int .i64 tmx,.bool th,.int .i64 mmn,.int .i64 mmx,.bool mh,.int .i64 gt,.bool gm] 74)
 have x0 := HX.out.at (k := 0) (v := .string s1) rfl
 have x1 := HX.out.at (k := 1) (v := .string s2) rfl
 clear hn
 go_enter Tryz.func51,Tryz.ntmps51
 go_upto_region 5 with (go_at_call 57; (with_reducible refine (HN _).out.mono ?_); rintro e w1 ⟨rfl,hb⟩; have HB1 := hid (HB.out.trans (hb.mono HB.out.size)); have HX1 := hid (HX.out.below hb HX.out.lt); clear hb)
 clear x0 x1
 have HX2 := hid (((HX1.out.alloc (.cells #[.int .i64 0,.int .i64 0,.int .i64 0,.bool false] 72)).alloc (.cells #[.int .i64 0,.int .i64 0,.bool false] 70)).alloc (.cells #[.int .i64 0,.bool false] 44))
 have HB2 := hid (((HB1.out.alloc HB1.out.size (.cells #[.int .i64 0,.int .i64 0,.int .i64 0,.bool false] 72)).alloc (by rw [size_al]; have := HB1.out.size; omega) (.cells #[.int .i64 0,.int .i64 0,.bool false] 70)).alloc (by rw [size_al,size_al]; have := HB1.out.size; omega) (.cells #[.int .i64 0,.bool false] 44))
 have HT := hid (((CA.new w1 #[.int .i64 0,.int .i64 0,.int .i64 0,.bool false] 72).alloc (.cells #[.int .i64 0,.int .i64 0,.bool false] 70)).alloc (.cells #[.int .i64 0,.bool false] 44))
 have hl := CA.new (w1.alloc (.cells #[.int .i64 0,.int .i64 0,.int .i64 0,.bool false] 72)) #[.int .i64 0,.int .i64 0,.bool false] 70
 rw [size_al] at hl
 have HL := hid (hl.alloc (.cells #[.int .i64 0,.bool false] 44))
 have hg := CA.new ((w1.alloc (.cells #[.int .i64 0,.int .i64 0,.int .i64 0,.bool false] 72)).alloc (.cells #[.int .i64 0,.int .i64 0,.bool false] 70)) #[.int .i64 0,.bool false] 44
 rw [size_al,size_al] at hg
 have HG := hid hg
 clear hl hg HX1 HB1 HX HB
 generalize ((w1.alloc (.cells #[.int .i64 0,.int .i64 0,.int .i64 0,.bool false] 72)).alloc (.cells #[.int .i64 0,.int .i64 0,.bool false] 70)).alloc (.cells #[.int .i64 0,.bool false] 44) = w2 at *
 generalize w1.heap.size = k at *
 have y0 := HX2.out.at (k := 0) (v := .string s1) rfl
 have y1 := HX2.out.at (k := 1) (v := .string s2) rfl
 have y2 := HX2.out.at (k := 2) (v := .int .i64 0) rfl
 have y3 := HX2.out.at (k := 3) (v := .int .i64 ty) rfl
 have y4 := HX2.out.at (k := 4) (v := .int .i64 tr) rfl
 have y5 := HX2.out.at (k := 5) (v := .int .i64 tmn) rfl
 have y6 := HX2.out.at (k := 6) (v := .int .i64 tmx) rfl
 have y7 := HX2.out.at (k := 7) (v := .bool th) rfl
 have y8 := HX2.out.at (k := 8) (v := .int .i64 mmn) rfl
 have y9 := HX2.out.at (k := 9) (v := .int .i64 mmx) rfl
 have y10 := HX2.out.at (k := 10) (v := .bool mh) rfl
 have y11 := HX2.out.at (k := 11) (v := .int .i64 gt) rfl
 have y12 := HX2.out.at (k := 12) (v := .bool gm) rfl
 have t0 := HT.out.at (k := 0) (v := .int .i64 0) rfl
 have t1 := HT.out.at (k := 1) (v := .int .i64 0) rfl
 have t2 := HT.out.at (k := 2) (v := .int .i64 0) rfl
 have t3 := HT.out.at (k := 3) (v := .bool false) rfl
 have l0 := HL.out.at (k := 0) (v := .int .i64 0) rfl
 have l1 := HL.out.at (k := 1) (v := .int .i64 0) rfl
 have l2 := HL.out.at (k := 2) (v := .bool false) rfl
 have g0 := HG.out.at (k := 0) (v := .int .i64 0) rfl
 have g1 := HG.out.at (k := 1) (v := .bool false) rfl
 go_wp2_with (go_at_call 52; (with_reducible refine (HI _).out.mono ?_); rintro e w3 ⟨rfl,rfl⟩)
 all_goals
  go_ret
  first
   | exact ⟨by simp_all [zTB,zLB,zGB],HB3.out⟩
   | exact ⟨by simp_all [zTB,zLB,zGB],HB2.out⟩
end Go.Proofs.YtjgeedgphcjhoaaGreat
namespace Go.Proofs.YtjgeedgphcjhoaaGreat
open Go.RowKit
theorem CA.far {g c o : Nat} {cs : Array Value} {T : TypeId} {W : World} (h : CA g cs T W) (hne : c ≠ g) (v : Value) : CA g cs T (W.setCell ⟨c,o,none⟩ v) := by
 unfold CA at h ⊢
 rw [World.setCell,Array.getElem?_modify,if_neg hne,h]
set_option maxHeartbeats 4000000 in
theorem isImport_0 (s1 s2 : ByteArray) (ty tr tmn tmx : Int) (th : Bool) (mmn mmx : Int) (mh : Bool) (gt : Int) (gm : Bool) (v1 v2 : Bool) (w : World)
  (h1 : ∀ W,Calls Tryz.prog 147 #[.string s1] W fun e w' => e = .returned (.bool v1) ∧ Below W.heap.size W w') (h2 : ∀ W,Calls Tryz.prog 147 #[.string s2] W fun e w' => e = .returned (.bool v2) ∧ Below W.heap.size W w') :
  Calls Tryz.prog 33 #[.agg #[.string s1,.string s2,.int .i64 0,.int .i64 ty,.int .i64 tr,.int .i64 tmn,.int .i64 tmx,.bool th,.int .i64 mmn,.int .i64 mmx,.bool mh,.int .i64 gt,.bool gm]] w fun e w' => e = .returned (.bool (idxB ty && (zTB tr tmn tmx th && zLB mmn mmx mh && zGB gt gm) && v1 && v2)) ∧ Below w.heap.size w w' := by
 have HV1 := fun W => hid (h1 W)
 have HV2 := fun W => hid (h2 W)
 have HI := fun W => hid (isIndex_says ty W)
 generalize idxB ty = a at *
 have hb0 := (Below.refl w.heap.size w).alloc (Nat.le_refl _) (.cells #[.string s1,.string s2,.int .i64 0,.int .i64 ty,.int .i64 tr,.int .i64 tmn,.int .i64 tmx,.bool th,.int .i64 mmn,.int .i64 mmx,.bool mh,.int .i64 gt,.bool gm] 74)
 have hx0 := CA.new w #[.string s1,.string s2,.int .i64 0,.int .i64 ty,.int .i64 tr,.int .i64 tmn,.int .i64 tmx,.bool th,.int .i64 mmn,.int .i64 mmx,.bool mh,.int .i64 gt,.bool gm] 74
 have x0 := hx0.at (k := 0) (v := .string s1) rfl
 have x1 := hx0.at (k := 1) (v := .string s2) rfl
 have x2 := hx0.at (k := 2) (v := .int .i64 0) rfl
 have x3 := hx0.at (k := 3) (v := .int .i64 ty) rfl
 have x4 := hx0.at (k := 4) (v := .int .i64 tr) rfl
 have x5 := hx0.at (k := 5) (v := .int .i64 tmn) rfl
 have x6 := hx0.at (k := 6) (v := .int .i64 tmx) rfl
 have x7 := hx0.at (k := 7) (v := .bool th) rfl
 have x8 := hx0.at (k := 8) (v := .int .i64 mmn) rfl
 have x9 := hx0.at (k := 9) (v := .int .i64 mmx) rfl
 have x10 := hx0.at (k := 10) (v := .bool mh) rfl
 have x11 := hx0.at (k := 11) (v := .int .i64 gt) rfl
 have x12 := hx0.at (k := 12) (v := .bool gm) rfl
 have HB := hid (hb0.alloc (by rw [size_al]; omega) (.cells #[.string s1,.string s2,.int .i64 0,.int .i64 0,.int .i64 0,.int .i64 0,.int .i64 0,.bool false,.int .i64 0,.int .i64 0,.bool false,.int .i64 0,.bool false] 74))
 have HX := hid (hx0.alloc (.cells #[.string s1,.string s2,.int .i64 0,.int .i64 0,.int .i64 0,.int .i64 0,.int .i64 0,.bool false,.int .i64 0,.int .i64 0,.bool false,.int .i64 0,.bool false] 74))
 have ho := CA.new (w.alloc (.cells #[.string s1,.string s2,.int .i64 0,.int .i64 ty,.int .i64 tr,.int .i64 tmn,.int .i64 tmx,.bool th,.int .i64 mmn,.int .i64 mmx,.bool mh,.int .i64 gt,.bool gm] 74)) #[.string s1,.string s2,.int .i64 0,.int .i64 0,.int .i64 0,.int .i64 0,.int .i64 0,.bool false,.int .i64 0,.int .i64 0,.bool false,.int .i64 0,.bool false] 74
 rw [size_al] at ho
 have HO0 := hid ho
 clear h1 h2 ho hb0 hx0
 go_enter Tryz.func33,Tryz.ntmps33
 go_upto_region 5 with fail
 clear x0 x1 x2 x3 x4 x5 x6 x7 x8 x9 x10 x11 x12
 have hS : Below w.heap.size w (((w.alloc (.cells #[.string s1,.string s2,.int .i64 0,.int .i64 ty,.int .i64 tr,.int .i64 tmn,.int .i64 tmx,.bool th,.int .i64 mmn,.int .i64 mmx,.bool mh,.int .i64 gt,.bool gm] 74)).alloc (.cells #[.string s1,.string s2,.int .i64 0,.int .i64 0,.int .i64 0,.int .i64 0,.int .i64 0,.bool false,.int .i64 0,.int .i64 0,.bool false,.int .i64 0,.bool false] 74)).drew) ∧ CA w.heap.size #[.string s1,.string s2,.int .i64 0,.int .i64 ty,.int .i64 tr,.int .i64 tmn,.int .i64 tmx,.bool th,.int .i64 mmn,.int .i64 mmx,.bool mh,.int .i64 gt,.bool gm] 74 (((w.alloc (.cells #[.string s1,.string s2,.int .i64 0,.int .i64 ty,.int .i64 tr,.int .i64 tmn,.int .i64 tmx,.bool th,.int .i64 mmn,.int .i64 mmx,.bool mh,.int .i64 gt,.bool gm] 74)).alloc (.cells #[.string s1,.string s2,.int .i64 0,.int .i64 0,.int .i64 0,.int .i64 0,.int .i64 0,.bool false,.int .i64 0,.int .i64 0,.bool false,.int .i64 0,.bool false] 74)).drew) := ⟨HB.out.drew,HX.out⟩
 have HO : Hid (CA (w.heap.size + 1) #[.string s1,.string s2,.int .i64 0,.int .i64 0,.int .i64 0,.int .i64 0,.int .i64 0,.bool false,.int .i64 0,.int .i64 0,.bool false,.int .i64 0,.bool false] 74 (((w.alloc (.cells #[.string s1,.string s2,.int .i64 0,.int .i64 ty,.int .i64 tr,.int .i64 tmn,.int .i64 tmx,.bool th,.int .i64 mmn,.int .i64 mmx,.bool mh,.int .i64 gt,.bool gm] 74)).alloc (.cells #[.string s1,.string s2,.int .i64 0,.int .i64 0,.int .i64 0,.int .i64 0,.int .i64 0,.bool false,.int .i64 0,.int .i64 0,.bool false,.int .i64 0,.bool false] 74)).drew)) := HO0
 clear HO0 HB HX
 refine wp_region_held_drew (S := fun W => Below w.heap.size w W ∧ CA w.heap.size #[.string s1,.string s2,.int .i64 0,.int .i64 ty,.int .i64 tr,.int .i64 tmn,.int .i64 tmx,.bool th,.int .i64 mmn,.int .i64 mmx,.bool mh,.int .i64 gt,.bool gm] 74 W) (by kernel_rfl) hS (fun _ => ?_)
 generalize ((w.alloc (.cells #[.string s1,.string s2,.int .i64 0,.int .i64 ty,.int .i64 tr,.int .i64 tmn,.int .i64 tmx,.bool th,.int .i64 mmn,.int .i64 mmx,.bool mh,.int .i64 gt,.bool gm] 74)).alloc (.cells #[.string s1,.string s2,.int .i64 0,.int .i64 0,.int .i64 0,.int .i64 0,.int .i64 0,.bool false,.int .i64 0,.int .i64 0,.bool false,.int .i64 0,.bool false] 74)).drew = W at *
 refine wpAnyH_take (oi := ⟨_,_,_,_,_,_⟩) (i := 0) (v := .pointer (some ⟨w.heap.size,3,none⟩)) rfl (by kernel_rfl) (by kernel_rfl) (by kernel_rfl) (fun _ _ _ h => h) (Or.inl ⟨by rfl,?_⟩) (by assumption) ?_
 ·(intro W hSw; have x0 := hSw.2.at (k := 0) (v := .string s1) rfl; have x1 := hSw.2.at (k := 1) (v := .string s2) rfl; have x2 := hSw.2.at (k := 2) (v := .int .i64 0) rfl; have x3 := hSw.2.at (k := 3) (v := .int .i64 ty) rfl; have x4 := hSw.2.at (k := 4) (v := .int .i64 tr) rfl; have x5 := hSw.2.at (k := 5) (v := .int .i64 tmn) rfl; have x6 := hSw.2.at (k := 6) (v := .int .i64 tmx) rfl; have x7 := hSw.2.at (k := 7) (v := .bool th) rfl; have x8 := hSw.2.at (k := 8) (v := .int .i64 mmn) rfl; have x9 := hSw.2.at (k := 9) (v := .int .i64 mmx) rfl; have x10 := hSw.2.at (k := 10) (v := .bool mh) rfl; have x11 := hSw.2.at (k := 11) (v := .int .i64 gt) rfl; have x12 := hSw.2.at (k := 12) (v := .bool gm) rfl; go_simp; try (with_reducible rfl))
 try simp only [Act.put,List.setIfInBounds_toArray,List.set_cons_zero,List.set_cons_succ]
 refine wpAnyH_take (oi := ⟨_,_,_,_,_,_⟩) (i := 1) (v := .int .i64 ty) rfl (by kernel_rfl) (by kernel_rfl) (by kernel_rfl) (fun _ _ _ h => h) (Or.inl ⟨by rfl,?_⟩) (by assumption) ?_
 ·(intro W hSw; have x0 := hSw.2.at (k := 0) (v := .string s1) rfl; have x1 := hSw.2.at (k := 1) (v := .string s2) rfl; have x2 := hSw.2.at (k := 2) (v := .int .i64 0) rfl; have x3 := hSw.2.at (k := 3) (v := .int .i64 ty) rfl; have x4 := hSw.2.at (k := 4) (v := .int .i64 tr) rfl; have x5 := hSw.2.at (k := 5) (v := .int .i64 tmn) rfl; have x6 := hSw.2.at (k := 6) (v := .int .i64 tmx) rfl; have x7 := hSw.2.at (k := 7) (v := .bool th) rfl; have x8 := hSw.2.at (k := 8) (v := .int .i64 mmn) rfl; have x9 := hSw.2.at (k := 9) (v := .int .i64 mmx) rfl; have x10 := hSw.2.at (k := 10) (v := .bool mh) rfl; have x11 := hSw.2.at (k := 11) (v := .int .i64 gt) rfl; have x12 := hSw.2.at (k := 12) (v := .bool gm) rfl; go_simp; try (with_reducible rfl))
 try simp only [Act.put,List.setIfInBounds_toArray,List.set_cons_zero,List.set_cons_succ]
 refine wpAnyH_take (oi := ⟨_,_,_,_,_,_⟩) (i := 2) (v := .pointer (some ⟨w.heap.size,3,none⟩)) rfl (by kernel_rfl) (by kernel_rfl) (by kernel_rfl) (fun _ _ _ h => h) (Or.inl ⟨by rfl,?_⟩) (by assumption) ?_
 ·(intro W hSw; have x0 := hSw.2.at (k := 0) (v := .string s1) rfl; have x1 := hSw.2.at (k := 1) (v := .string s2) rfl; have x2 := hSw.2.at (k := 2) (v := .int .i64 0) rfl; have x3 := hSw.2.at (k := 3) (v := .int .i64 ty) rfl; have x4 := hSw.2.at (k := 4) (v := .int .i64 tr) rfl; have x5 := hSw.2.at (k := 5) (v := .int .i64 tmn) rfl; have x6 := hSw.2.at (k := 6) (v := .int .i64 tmx) rfl; have x7 := hSw.2.at (k := 7) (v := .bool th) rfl; have x8 := hSw.2.at (k := 8) (v := .int .i64 mmn) rfl; have x9 := hSw.2.at (k := 9) (v := .int .i64 mmx) rfl; have x10 := hSw.2.at (k := 10) (v := .bool mh) rfl; have x11 := hSw.2.at (k := 11) (v := .int .i64 gt) rfl; have x12 := hSw.2.at (k := 12) (v := .bool gm) rfl; go_simp; try (with_reducible rfl))
 try simp only [Act.put,List.setIfInBounds_toArray,List.set_cons_zero,List.set_cons_succ]
 refine wpAnyH_take (oi := ⟨_,_,_,_,_,_⟩) (i := 3) (v := .int .i64 ty) rfl (by kernel_rfl) (by kernel_rfl) (by kernel_rfl) (fun _ _ _ h => h) (Or.inl ⟨by rfl,?_⟩) (by assumption) ?_
 ·(intro W hSw; have x0 := hSw.2.at (k := 0) (v := .string s1) rfl; have x1 := hSw.2.at (k := 1) (v := .string s2) rfl; have x2 := hSw.2.at (k := 2) (v := .int .i64 0) rfl; have x3 := hSw.2.at (k := 3) (v := .int .i64 ty) rfl; have x4 := hSw.2.at (k := 4) (v := .int .i64 tr) rfl; have x5 := hSw.2.at (k := 5) (v := .int .i64 tmn) rfl; have x6 := hSw.2.at (k := 6) (v := .int .i64 tmx) rfl; have x7 := hSw.2.at (k := 7) (v := .bool th) rfl; have x8 := hSw.2.at (k := 8) (v := .int .i64 mmn) rfl; have x9 := hSw.2.at (k := 9) (v := .int .i64 mmx) rfl; have x10 := hSw.2.at (k := 10) (v := .bool mh) rfl; have x11 := hSw.2.at (k := 11) (v := .int .i64 gt) rfl; have x12 := hSw.2.at (k := 12) (v := .bool gm) rfl; go_simp; try (with_reducible rfl))
 try simp only [Act.put,List.setIfInBounds_toArray,List.set_cons_zero,List.set_cons_succ]
 refine wpAnyH_take (oi := ⟨_,_,_,_,_,_⟩) (i := 5) (v := .pointer (some ⟨w.heap.size + 1,3,none⟩)) rfl (by kernel_rfl) (by kernel_rfl) (by kernel_rfl) (fun _ _ _ h => h) (Or.inl ⟨by rfl,?_⟩) (by assumption) ?_
 ·(intro W hSw; have x0 := hSw.2.at (k := 0) (v := .string s1) rfl; have x1 := hSw.2.at (k := 1) (v := .string s2) rfl; have x2 := hSw.2.at (k := 2) (v := .int .i64 0) rfl; have x3 := hSw.2.at (k := 3) (v := .int .i64 ty) rfl; have x4 := hSw.2.at (k := 4) (v := .int .i64 tr) rfl; have x5 := hSw.2.at (k := 5) (v := .int .i64 tmn) rfl; have x6 := hSw.2.at (k := 6) (v := .int .i64 tmx) rfl; have x7 := hSw.2.at (k := 7) (v := .bool th) rfl; have x8 := hSw.2.at (k := 8) (v := .int .i64 mmn) rfl; have x9 := hSw.2.at (k := 9) (v := .int .i64 mmx) rfl; have x10 := hSw.2.at (k := 10) (v := .bool mh) rfl; have x11 := hSw.2.at (k := 11) (v := .int .i64 gt) rfl; have x12 := hSw.2.at (k := 12) (v := .bool gm) rfl; go_simp; try (with_reducible rfl))
 try simp only [Act.put,List.setIfInBounds_toArray,List.set_cons_zero,List.set_cons_succ]
 refine wpAnyH_ready (rs := [4]) (by kernel_rfl) (by simp) ?_
 refine AllReadyH.cons (o := ⟨_,_,_,_,_,_⟩) rfl (fun K hK => ?_) ?_
 ·go_simp
  go_at_call 145
  (with_reducible refine (HI W).out.mono ?_)
  rintro e _ ⟨rfl,rfl⟩
  refine hK.out _ _ hS (fun _ => ?_)
  clear hK K
  try simp only [Act.put,List.setIfInBounds_toArray,List.set_cons_zero,List.set_cons_succ]
  refine wpAnyH_ready (rs := [6]) (by kernel_rfl) (by simp) ?_
  refine AllReadyH.cons (o := ⟨_,_,_,_,_,_⟩) rfl (fun K hK => ?_) ?_
  ·have z0 := HO.out.at (k := 3) (v := .int .i64 0) rfl
   have q0 := HO.out.free 3
   go_simp
   have ho2 : CA (w.heap.size + 1) #[.string s1,.string s2,.int .i64 0,.int .i64 ty,.int .i64 0,.int .i64 0,.int .i64 0,.bool false,.int .i64 0,.int .i64 0,.bool false,.int .i64 0,.bool false] 74 (W.setCell ⟨w.heap.size + 1,3,none⟩ (.int .i64 ty)) := (HO.out.set (k := 3) (.int .i64 ty))
   replace hS := And.intro (hS.1.setCell (p := ⟨w.heap.size + 1,3,none⟩) (Nat.le_succ _) (.int .i64 ty)) (hS.2.far (o := 3) (Nat.ne_of_gt (Nat.lt_succ_self _)) (.int .i64 ty))
   have HO2 := hid ho2
   clear ho2 HO z0 q0
   generalize (W.setCell ⟨w.heap.size + 1,3,none⟩ (.int .i64 ty)) = W9 at *
   refine hK.out _ _ hS (fun _ => ?_)
   clear hK K
   try simp only [Act.put,List.setIfInBounds_toArray,List.set_cons_zero,List.set_cons_succ]
   refine wpAnyH_take (oi := ⟨_,_,_,_,_,_⟩) (i := 7) (v := .bool a) rfl (by kernel_rfl) (by kernel_rfl) (by kernel_rfl) (fun _ _ _ h => h) (Or.inl ⟨by rfl,?_⟩) (by assumption) ?_
   ·(intro W hSw; have x0 := hSw.2.at (k := 0) (v := .string s1) rfl; have x1 := hSw.2.at (k := 1) (v := .string s2) rfl; have x2 := hSw.2.at (k := 2) (v := .int .i64 0) rfl; have x3 := hSw.2.at (k := 3) (v := .int .i64 ty) rfl; have x4 := hSw.2.at (k := 4) (v := .int .i64 tr) rfl; have x5 := hSw.2.at (k := 5) (v := .int .i64 tmn) rfl; have x6 := hSw.2.at (k := 6) (v := .int .i64 tmx) rfl; have x7 := hSw.2.at (k := 7) (v := .bool th) rfl; have x8 := hSw.2.at (k := 8) (v := .int .i64 mmn) rfl; have x9 := hSw.2.at (k := 9) (v := .int .i64 mmx) rfl; have x10 := hSw.2.at (k := 10) (v := .bool mh) rfl; have x11 := hSw.2.at (k := 11) (v := .int .i64 gt) rfl; have x12 := hSw.2.at (k := 12) (v := .bool gm) rfl; go_simp; try (with_reducible rfl))
   try simp only [Act.put,List.setIfInBounds_toArray,List.set_cons_zero,List.set_cons_succ]
   refine wpAnyH_done (by kernel_rfl) ?_ _
   have HF := hid hS.1
   have HFX := hid hS.2
   have y0 := hS.2.at (k := 0) (v := .string s1) rfl
   have y1 := hS.2.at (k := 1) (v := .string s2) rfl
   have y2 := hS.2.at (k := 2) (v := .int .i64 0) rfl
   have y3 := hS.2.at (k := 3) (v := .int .i64 ty) rfl
   have y4 := hS.2.at (k := 4) (v := .int .i64 tr) rfl
   have y5 := hS.2.at (k := 5) (v := .int .i64 tmn) rfl
   have y6 := hS.2.at (k := 6) (v := .int .i64 tmx) rfl
   have y7 := hS.2.at (k := 7) (v := .bool th) rfl
   have y8 := hS.2.at (k := 8) (v := .int .i64 mmn) rfl
   have y9 := hS.2.at (k := 9) (v := .int .i64 mmx) rfl
   have y10 := hS.2.at (k := 10) (v := .bool mh) rfl
   have y11 := hS.2.at (k := 11) (v := .int .i64 gt) rfl
   have y12 := hS.2.at (k := 12) (v := .bool gm) rfl
   have o0 := HO2.out.at (k := 0) (v := .string s1) rfl
   have o1 := HO2.out.at (k := 1) (v := .string s2) rfl
   have o2 := HO2.out.at (k := 2) (v := .int .i64 0) rfl
   have o3 := HO2.out.at (k := 3) (v := .int .i64 ty) rfl
   have o4 := HO2.out.at (k := 4) (v := .int .i64 0) rfl
   have o5 := HO2.out.at (k := 5) (v := .int .i64 0) rfl
   have o6 := HO2.out.at (k := 6) (v := .int .i64 0) rfl
   have o7 := HO2.out.at (k := 7) (v := .bool false) rfl
   have o8 := HO2.out.at (k := 8) (v := .int .i64 0) rfl
   have o9 := HO2.out.at (k := 9) (v := .int .i64 0) rfl
   have o10 := HO2.out.at (k := 10) (v := .bool false) rfl
   have o11 := HO2.out.at (k := 11) (v := .int .i64 0) rfl
   have o12 := HO2.out.at (k := 12) (v := .bool false) rfl
   clear hS
   go_wp2_with (first
    | (go_at_call 147; (with_reducible refine (HV1 _).out.mono ?_); rintro e w8 ⟨rfl,hb⟩; have HG := hid (HF.out.trans (hb.mono HF.out.size)); have HGX := hid (HFX.out.below hb HFX.out.lt); have y1 := HGX.out.at (k := 1) (v := .string s2) rfl; clear hb)
    | (go_at_call 147; (with_reducible refine (HV2 _).out.mono ?_); rintro e w9 ⟨rfl,hb⟩; have HH := hid (HG.out.trans (hb.mono HG.out.size)); clear hb))
   all_goals
    go_ret
    first
     | exact ⟨by simp_all [zTB,zLB,zGB],HH.out⟩
     | exact ⟨by simp_all [zTB,zLB,zGB],HG.out⟩
     | exact ⟨by simp_all [zTB,zLB,zGB],HF.out⟩
  exact AllReadyH.nil
 exact AllReadyH.nil
set_option maxHeartbeats 4000000 in
theorem isImport_3 (s1 s2 : ByteArray) (ty tr tmn tmx : Int) (th : Bool) (mmn mmx : Int) (mh : Bool) (gt : Int) (gm : Bool) (v1 v2 : Bool) (w : World)
  (h1 : ∀ W,Calls Tryz.prog 147 #[.string s1] W fun e w' => e = .returned (.bool v1) ∧ Below W.heap.size W w') (h2 : ∀ W,Calls Tryz.prog 147 #[.string s2] W fun e w' => e = .returned (.bool v2) ∧ Below W.heap.size W w') :
  Calls Tryz.prog 33 #[.agg #[.string s1,.string s2,.int .i64 3,.int .i64 ty,.int .i64 tr,.int .i64 tmn,.int .i64 tmx,.bool th,.int .i64 mmn,.int .i64 mmx,.bool mh,.int .i64 gt,.bool gm]] w fun e w' => e = .returned (.bool (valB gt && ((ty == 0) && zTB tr tmn tmx th && zLB mmn mmx mh) && v1 && v2)) ∧ Below w.heap.size w w' := by
 have HV1 := fun W => hid (h1 W)
 have HV2 := fun W => hid (h2 W)
 have HI := fun W => hid (isGlobalType_says gt gm W)
 generalize valB gt = a at *
 have hb0 := (Below.refl w.heap.size w).alloc (Nat.le_refl _) (.cells #[.string s1,.string s2,.int .i64 3,.int .i64 ty,.int .i64 tr,.int .i64 tmn,.int .i64 tmx,.bool th,.int .i64 mmn,.int .i64 mmx,.bool mh,.int .i64 gt,.bool gm] 74)
 have hx0 := CA.new w #[.string s1,.string s2,.int .i64 3,.int .i64 ty,.int .i64 tr,.int .i64 tmn,.int .i64 tmx,.bool th,.int .i64 mmn,.int .i64 mmx,.bool mh,.int .i64 gt,.bool gm] 74
 have x0 := hx0.at (k := 0) (v := .string s1) rfl
 have x1 := hx0.at (k := 1) (v := .string s2) rfl
 have x2 := hx0.at (k := 2) (v := .int .i64 3) rfl
 have x3 := hx0.at (k := 3) (v := .int .i64 ty) rfl
 have x4 := hx0.at (k := 4) (v := .int .i64 tr) rfl
 have x5 := hx0.at (k := 5) (v := .int .i64 tmn) rfl
 have x6 := hx0.at (k := 6) (v := .int .i64 tmx) rfl
 have x7 := hx0.at (k := 7) (v := .bool th) rfl
 have x8 := hx0.at (k := 8) (v := .int .i64 mmn) rfl
 have x9 := hx0.at (k := 9) (v := .int .i64 mmx) rfl
 have x10 := hx0.at (k := 10) (v := .bool mh) rfl
 have x11 := hx0.at (k := 11) (v := .int .i64 gt) rfl
 have x12 := hx0.at (k := 12) (v := .bool gm) rfl
 have HB := hid (hb0.alloc (by rw [size_al]; omega) (.cells #[.string s1,.string s2,.int .i64 3,.int .i64 0,.int .i64 0,.int .i64 0,.int .i64 0,.bool false,.int .i64 0,.int .i64 0,.bool false,.int .i64 0,.bool false] 74))
 have HX := hid (hx0.alloc (.cells #[.string s1,.string s2,.int .i64 3,.int .i64 0,.int .i64 0,.int .i64 0,.int .i64 0,.bool false,.int .i64 0,.int .i64 0,.bool false,.int .i64 0,.bool false] 74))
 have ho := CA.new (w.alloc (.cells #[.string s1,.string s2,.int .i64 3,.int .i64 ty,.int .i64 tr,.int .i64 tmn,.int .i64 tmx,.bool th,.int .i64 mmn,.int .i64 mmx,.bool mh,.int .i64 gt,.bool gm] 74)) #[.string s1,.string s2,.int .i64 3,.int .i64 0,.int .i64 0,.int .i64 0,.int .i64 0,.bool false,.int .i64 0,.int .i64 0,.bool false,.int .i64 0,.bool false] 74
 rw [size_al] at ho
 have HO0 := hid ho
 clear h1 h2 ho hb0 hx0
 go_enter Tryz.func33,Tryz.ntmps33
 go_upto_region 11 with fail
 clear x0 x1 x2 x3 x4 x5 x6 x7 x8 x9 x10 x11 x12
 have hS : Below w.heap.size w (((w.alloc (.cells #[.string s1,.string s2,.int .i64 3,.int .i64 ty,.int .i64 tr,.int .i64 tmn,.int .i64 tmx,.bool th,.int .i64 mmn,.int .i64 mmx,.bool mh,.int .i64 gt,.bool gm] 74)).alloc (.cells #[.string s1,.string s2,.int .i64 3,.int .i64 0,.int .i64 0,.int .i64 0,.int .i64 0,.bool false,.int .i64 0,.int .i64 0,.bool false,.int .i64 0,.bool false] 74)).drew) ∧ CA w.heap.size #[.string s1,.string s2,.int .i64 3,.int .i64 ty,.int .i64 tr,.int .i64 tmn,.int .i64 tmx,.bool th,.int .i64 mmn,.int .i64 mmx,.bool mh,.int .i64 gt,.bool gm] 74 (((w.alloc (.cells #[.string s1,.string s2,.int .i64 3,.int .i64 ty,.int .i64 tr,.int .i64 tmn,.int .i64 tmx,.bool th,.int .i64 mmn,.int .i64 mmx,.bool mh,.int .i64 gt,.bool gm] 74)).alloc (.cells #[.string s1,.string s2,.int .i64 3,.int .i64 0,.int .i64 0,.int .i64 0,.int .i64 0,.bool false,.int .i64 0,.int .i64 0,.bool false,.int .i64 0,.bool false] 74)).drew) := ⟨HB.out.drew,HX.out⟩
 have HO : Hid (CA (w.heap.size + 1) #[.string s1,.string s2,.int .i64 3,.int .i64 0,.int .i64 0,.int .i64 0,.int .i64 0,.bool false,.int .i64 0,.int .i64 0,.bool false,.int .i64 0,.bool false] 74 (((w.alloc (.cells #[.string s1,.string s2,.int .i64 3,.int .i64 ty,.int .i64 tr,.int .i64 tmn,.int .i64 tmx,.bool th,.int .i64 mmn,.int .i64 mmx,.bool mh,.int .i64 gt,.bool gm] 74)).alloc (.cells #[.string s1,.string s2,.int .i64 3,.int .i64 0,.int .i64 0,.int .i64 0,.int .i64 0,.bool false,.int .i64 0,.int .i64 0,.bool false,.int .i64 0,.bool false] 74)).drew)) := HO0
 clear HO0 HB HX
 refine wp_region_held_drew (S := fun W => Below w.heap.size w W ∧ CA w.heap.size #[.string s1,.string s2,.int .i64 3,.int .i64 ty,.int .i64 tr,.int .i64 tmn,.int .i64 tmx,.bool th,.int .i64 mmn,.int .i64 mmx,.bool mh,.int .i64 gt,.bool gm] 74 W) (by kernel_rfl) hS (fun _ => ?_)
 generalize ((w.alloc (.cells #[.string s1,.string s2,.int .i64 3,.int .i64 ty,.int .i64 tr,.int .i64 tmn,.int .i64 tmx,.bool th,.int .i64 mmn,.int .i64 mmx,.bool mh,.int .i64 gt,.bool gm] 74)).alloc (.cells #[.string s1,.string s2,.int .i64 3,.int .i64 0,.int .i64 0,.int .i64 0,.int .i64 0,.bool false,.int .i64 0,.int .i64 0,.bool false,.int .i64 0,.bool false] 74)).drew = W at *
 refine wpAnyH_take (oi := ⟨_,_,_,_,_,_⟩) (i := 0) (v := .pointer (some ⟨w.heap.size,11,none⟩)) rfl (by kernel_rfl) (by kernel_rfl) (by kernel_rfl) (fun _ _ _ h => h) (Or.inl ⟨by rfl,?_⟩) (by assumption) ?_
 ·(intro W hSw; have x0 := hSw.2.at (k := 0) (v := .string s1) rfl; have x1 := hSw.2.at (k := 1) (v := .string s2) rfl; have x2 := hSw.2.at (k := 2) (v := .int .i64 3) rfl; have x3 := hSw.2.at (k := 3) (v := .int .i64 ty) rfl; have x4 := hSw.2.at (k := 4) (v := .int .i64 tr) rfl; have x5 := hSw.2.at (k := 5) (v := .int .i64 tmn) rfl; have x6 := hSw.2.at (k := 6) (v := .int .i64 tmx) rfl; have x7 := hSw.2.at (k := 7) (v := .bool th) rfl; have x8 := hSw.2.at (k := 8) (v := .int .i64 mmn) rfl; have x9 := hSw.2.at (k := 9) (v := .int .i64 mmx) rfl; have x10 := hSw.2.at (k := 10) (v := .bool mh) rfl; have x11 := hSw.2.at (k := 11) (v := .int .i64 gt) rfl; have x12 := hSw.2.at (k := 12) (v := .bool gm) rfl; go_simp; try (with_reducible rfl))
 try simp only [Act.put,List.setIfInBounds_toArray,List.set_cons_zero,List.set_cons_succ]
 refine wpAnyH_take (oi := ⟨_,_,_,_,_,_⟩) (i := 1) (v := .agg #[.int .i64 gt,.bool gm]) rfl (by kernel_rfl) (by kernel_rfl) (by kernel_rfl) (fun _ _ _ h => h) (Or.inl ⟨by rfl,?_⟩) (by assumption) ?_
 ·(intro W hSw; have x0 := hSw.2.at (k := 0) (v := .string s1) rfl; have x1 := hSw.2.at (k := 1) (v := .string s2) rfl; have x2 := hSw.2.at (k := 2) (v := .int .i64 3) rfl; have x3 := hSw.2.at (k := 3) (v := .int .i64 ty) rfl; have x4 := hSw.2.at (k := 4) (v := .int .i64 tr) rfl; have x5 := hSw.2.at (k := 5) (v := .int .i64 tmn) rfl; have x6 := hSw.2.at (k := 6) (v := .int .i64 tmx) rfl; have x7 := hSw.2.at (k := 7) (v := .bool th) rfl; have x8 := hSw.2.at (k := 8) (v := .int .i64 mmn) rfl; have x9 := hSw.2.at (k := 9) (v := .int .i64 mmx) rfl; have x10 := hSw.2.at (k := 10) (v := .bool mh) rfl; have x11 := hSw.2.at (k := 11) (v := .int .i64 gt) rfl; have x12 := hSw.2.at (k := 12) (v := .bool gm) rfl; go_simp; try (with_reducible rfl))
 try simp only [Act.put,List.setIfInBounds_toArray,List.set_cons_zero,List.set_cons_succ]
 refine wpAnyH_take (oi := ⟨_,_,_,_,_,_⟩) (i := 2) (v := .pointer (some ⟨w.heap.size,11,none⟩)) rfl (by kernel_rfl) (by kernel_rfl) (by kernel_rfl) (fun _ _ _ h => h) (Or.inl ⟨by rfl,?_⟩) (by assumption) ?_
 ·(intro W hSw; have x0 := hSw.2.at (k := 0) (v := .string s1) rfl; have x1 := hSw.2.at (k := 1) (v := .string s2) rfl; have x2 := hSw.2.at (k := 2) (v := .int .i64 3) rfl; have x3 := hSw.2.at (k := 3) (v := .int .i64 ty) rfl; have x4 := hSw.2.at (k := 4) (v := .int .i64 tr) rfl; have x5 := hSw.2.at (k := 5) (v := .int .i64 tmn) rfl; have x6 := hSw.2.at (k := 6) (v := .int .i64 tmx) rfl; have x7 := hSw.2.at (k := 7) (v := .bool th) rfl; have x8 := hSw.2.at (k := 8) (v := .int .i64 mmn) rfl; have x9 := hSw.2.at (k := 9) (v := .int .i64 mmx) rfl; have x10 := hSw.2.at (k := 10) (v := .bool mh) rfl; have x11 := hSw.2.at (k := 11) (v := .int .i64 gt) rfl; have x12 := hSw.2.at (k := 12) (v := .bool gm) rfl; go_simp; try (with_reducible rfl))
 try simp only [Act.put,List.setIfInBounds_toArray,List.set_cons_zero,List.set_cons_succ]
 refine wpAnyH_take (oi := ⟨_,_,_,_,_,_⟩) (i := 3) (v := .agg #[.int .i64 gt,.bool gm]) rfl (by kernel_rfl) (by kernel_rfl) (by kernel_rfl) (fun _ _ _ h => h) (Or.inl ⟨by rfl,?_⟩) (by assumption) ?_
 ·(intro W hSw; have x0 := hSw.2.at (k := 0) (v := .string s1) rfl; have x1 := hSw.2.at (k := 1) (v := .string s2) rfl; have x2 := hSw.2.at (k := 2) (v := .int .i64 3) rfl; have x3 := hSw.2.at (k := 3) (v := .int .i64 ty) rfl; have x4 := hSw.2.at (k := 4) (v := .int .i64 tr) rfl; have x5 := hSw.2.at (k := 5) (v := .int .i64 tmn) rfl; have x6 := hSw.2.at (k := 6) (v := .int .i64 tmx) rfl; have x7 := hSw.2.at (k := 7) (v := .bool th) rfl; have x8 := hSw.2.at (k := 8) (v := .int .i64 mmn) rfl; have x9 := hSw.2.at (k := 9) (v := .int .i64 mmx) rfl; have x10 := hSw.2.at (k := 10) (v := .bool mh) rfl; have x11 := hSw.2.at (k := 11) (v := .int .i64 gt) rfl; have x12 := hSw.2.at (k := 12) (v := .bool gm) rfl; go_simp; try (with_reducible rfl))
 try simp only [Act.put,List.setIfInBounds_toArray,List.set_cons_zero,List.set_cons_succ]
 refine wpAnyH_take (oi := ⟨_,_,_,_,_,_⟩) (i := 5) (v := .pointer (some ⟨w.heap.size + 1,11,none⟩)) rfl (by kernel_rfl) (by kernel_rfl) (by kernel_rfl) (fun _ _ _ h => h) (Or.inl ⟨by rfl,?_⟩) (by assumption) ?_
 ·(intro W hSw; have x0 := hSw.2.at (k := 0) (v := .string s1) rfl; have x1 := hSw.2.at (k := 1) (v := .string s2) rfl; have x2 := hSw.2.at (k := 2) (v := .int .i64 3) rfl; have x3 := hSw.2.at (k := 3) (v := .int .i64 ty) rfl; have x4 := hSw.2.at (k := 4) (v := .int .i64 tr) rfl; have x5 := hSw.2.at (k := 5) (v := .int .i64 tmn) rfl; have x6 := hSw.2.at (k := 6) (v := .int .i64 tmx) rfl; have x7 := hSw.2.at (k := 7) (v := .bool th) rfl; have x8 := hSw.2.at (k := 8) (v := .int .i64 mmn) rfl; have x9 := hSw.2.at (k := 9) (v := .int .i64 mmx) rfl; have x10 := hSw.2.at (k := 10) (v := .bool mh) rfl; have x11 := hSw.2.at (k := 11) (v := .int .i64 gt) rfl; have x12 := hSw.2.at (k := 12) (v := .bool gm) rfl; go_simp; try (with_reducible rfl))
 try simp only [Act.put,List.setIfInBounds_toArray,List.set_cons_zero,List.set_cons_succ]
 refine wpAnyH_ready (rs := [4]) (by kernel_rfl) (by simp) ?_
 refine AllReadyH.cons (o := ⟨_,_,_,_,_,_⟩) rfl (fun K hK => ?_) ?_
 ·go_simp
  go_at_call 146
  (with_reducible refine (HI W).out.mono ?_)
  rintro e W1 ⟨rfl,hb⟩
  replace HO := hid (HO.out.below hb HO.out.lt)
  replace hS := And.intro (hS.1.trans (hb.mono hS.1.size)) (hS.2.below hb hS.2.lt)
  clear hb
  refine hK.out _ _ hS (fun _ => ?_)
  clear hK K
  try simp only [Act.put,List.setIfInBounds_toArray,List.set_cons_zero,List.set_cons_succ]
  refine wpAnyH_ready (rs := [6]) (by kernel_rfl) (by simp) ?_
  refine AllReadyH.cons (o := ⟨_,_,_,_,_,_⟩) rfl (fun K hK => ?_) ?_
  ·have z0 := HO.out.at (k := 11) (v := .int .i64 0) rfl
   have q0 := HO.out.free 11
   have z1 := HO.out.at (k := 12) (v := .bool false) rfl
   have q1 := HO.out.free 12
   go_simp
   have ho2 : CA (w.heap.size + 1) #[.string s1,.string s2,.int .i64 3,.int .i64 0,.int .i64 0,.int .i64 0,.int .i64 0,.bool false,.int .i64 0,.int .i64 0,.bool false,.int .i64 gt,.bool gm] 74 ((W1.setCell ⟨w.heap.size + 1,11,none⟩ (.int .i64 gt)).setCell ⟨w.heap.size + 1,12,none⟩ (.bool gm)) := ((HO.out.set (k := 11) (.int .i64 gt)).set (k := 12) (.bool gm))
   replace hS := And.intro ((hS.1.setCell (p := ⟨w.heap.size + 1,11,none⟩) (Nat.le_succ _) (.int .i64 gt)).setCell (p := ⟨w.heap.size + 1,12,none⟩) (Nat.le_succ _) (.bool gm)) ((hS.2.far (o := 11) (Nat.ne_of_gt (Nat.lt_succ_self _)) (.int .i64 gt)).far (o := 12) (Nat.ne_of_gt (Nat.lt_succ_self _)) (.bool gm))
   have HO2 := hid ho2
   clear ho2 HO z0 q0 z1 q1
   generalize ((W1.setCell ⟨w.heap.size + 1,11,none⟩ (.int .i64 gt)).setCell ⟨w.heap.size + 1,12,none⟩ (.bool gm)) = W9 at *
   refine hK.out _ _ hS (fun _ => ?_)
   clear hK K
   try simp only [Act.put,List.setIfInBounds_toArray,List.set_cons_zero,List.set_cons_succ]
   refine wpAnyH_take (oi := ⟨_,_,_,_,_,_⟩) (i := 7) (v := .bool a) rfl (by kernel_rfl) (by kernel_rfl) (by kernel_rfl) (fun _ _ _ h => h) (Or.inl ⟨by rfl,?_⟩) (by assumption) ?_
   ·(intro W hSw; have x0 := hSw.2.at (k := 0) (v := .string s1) rfl; have x1 := hSw.2.at (k := 1) (v := .string s2) rfl; have x2 := hSw.2.at (k := 2) (v := .int .i64 3) rfl; have x3 := hSw.2.at (k := 3) (v := .int .i64 ty) rfl; have x4 := hSw.2.at (k := 4) (v := .int .i64 tr) rfl; have x5 := hSw.2.at (k := 5) (v := .int .i64 tmn) rfl; have x6 := hSw.2.at (k := 6) (v := .int .i64 tmx) rfl; have x7 := hSw.2.at (k := 7) (v := .bool th) rfl; have x8 := hSw.2.at (k := 8) (v := .int .i64 mmn) rfl; have x9 := hSw.2.at (k := 9) (v := .int .i64 mmx) rfl; have x10 := hSw.2.at (k := 10) (v := .bool mh) rfl; have x11 := hSw.2.at (k := 11) (v := .int .i64 gt) rfl; have x12 := hSw.2.at (k := 12) (v := .bool gm) rfl; go_simp; try (with_reducible rfl))
   try simp only [Act.put,List.setIfInBounds_toArray,List.set_cons_zero,List.set_cons_succ]
   refine wpAnyH_done (by kernel_rfl) ?_ _
   have HF := hid hS.1
   have HFX := hid hS.2
   have y0 := hS.2.at (k := 0) (v := .string s1) rfl
   have y1 := hS.2.at (k := 1) (v := .string s2) rfl
   have y2 := hS.2.at (k := 2) (v := .int .i64 3) rfl
   have y3 := hS.2.at (k := 3) (v := .int .i64 ty) rfl
   have y4 := hS.2.at (k := 4) (v := .int .i64 tr) rfl
   have y5 := hS.2.at (k := 5) (v := .int .i64 tmn) rfl
   have y6 := hS.2.at (k := 6) (v := .int .i64 tmx) rfl
   have y7 := hS.2.at (k := 7) (v := .bool th) rfl
   have y8 := hS.2.at (k := 8) (v := .int .i64 mmn) rfl
   have y9 := hS.2.at (k := 9) (v := .int .i64 mmx) rfl
   have y10 := hS.2.at (k := 10) (v := .bool mh) rfl
   have y11 := hS.2.at (k := 11) (v := .int .i64 gt) rfl
   have y12 := hS.2.at (k := 12) (v := .bool gm) rfl
   have o0 := HO2.out.at (k := 0) (v := .string s1) rfl
   have o1 := HO2.out.at (k := 1) (v := .string s2) rfl
   have o2 := HO2.out.at (k := 2) (v := .int .i64 3) rfl
   have o3 := HO2.out.at (k := 3) (v := .int .i64 0) rfl
   have o4 := HO2.out.at (k := 4) (v := .int .i64 0) rfl
   have o5 := HO2.out.at (k := 5) (v := .int .i64 0) rfl
   have o6 := HO2.out.at (k := 6) (v := .int .i64 0) rfl
   have o7 := HO2.out.at (k := 7) (v := .bool false) rfl
   have o8 := HO2.out.at (k := 8) (v := .int .i64 0) rfl
   have o9 := HO2.out.at (k := 9) (v := .int .i64 0) rfl
   have o10 := HO2.out.at (k := 10) (v := .bool false) rfl
   have o11 := HO2.out.at (k := 11) (v := .int .i64 gt) rfl
   have o12 := HO2.out.at (k := 12) (v := .bool gm) rfl
   clear hS
   go_wp2_with (first
    | (go_at_call 147; (with_reducible refine (HV1 _).out.mono ?_); rintro e w8 ⟨rfl,hb⟩; have HG := hid (HF.out.trans (hb.mono HF.out.size)); have HGX := hid (HFX.out.below hb HFX.out.lt); have y1 := HGX.out.at (k := 1) (v := .string s2) rfl; clear hb)
    | (go_at_call 147; (with_reducible refine (HV2 _).out.mono ?_); rintro e w9 ⟨rfl,hb⟩; have HH := hid (HG.out.trans (hb.mono HG.out.size)); clear hb))
   all_goals
    go_ret
    first
     | exact ⟨by simp_all [zTB,zLB,zGB],HH.out⟩
     | exact ⟨by simp_all [zTB,zLB,zGB],HG.out⟩
     | exact ⟨by simp_all [zTB,zLB,zGB],HF.out⟩
  exact AllReadyH.nil
 exact AllReadyH.nil
end Go.Proofs.YtjgeedgphcjhoaaGreat
