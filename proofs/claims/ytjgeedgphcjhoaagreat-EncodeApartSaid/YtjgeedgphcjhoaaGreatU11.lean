/-
  PImp0, PImp1, PImp2, ImpA: merged, what the law does not reach left out (each text says what it holds where it lies in wip). No condition.
-/
import Derived.Test.YtjgeedgphcjhoaaGreatU10
import Derived.Test.YtjgeedgphcjhoaaGreatU09
import Derived.Deep.RegionHeld3
import Derived.Deep.DeepCutAuto
import Derived.Test.YtjgeedgphcjhoaaGreatU01
set_option linter.unusedSimpArgs false
set_option linter.unusedVariables false
set_option maxRecDepth 100000
namespace Go.Proofs.YtjgeedgphcjhoaaGreat
open Go.RowKit
theorem CA.far {g c o : Nat} {cs : Array Value} {T : TypeId} {W : World} (h : CA g cs T W) (hne : c ≠ g) (v : Value) : CA g cs T (W.setCell ⟨c,o,none⟩ v) := by
 unfold CA at h ⊢
 rw [World.setCell,Array.getElem?_modify,if_neg hne,h]
set_option maxHeartbeats 4000000 in
theorem isImport_0 (s1 s2 : ByteArray) (ty tr tmn tmx : Int) (th : Bool) (mmn mmx : Int) (mh : Bool) (gt : Int) (gm : Bool) (v1 v2 : Bool) (w : World)
  (h1 : ∀ W,Calls Tryz.prog 147 #[.string s1] W fun e w' => e = .returned (.bool v1) ∧ Below W.heap.size W w') (h2 : ∀ W,Calls Tryz.prog 147 #[.string s2] W fun e w' => e = .returned (.bool v2) ∧ Below W.heap.size W w') :
  Calls Tryz.prog 33 #[.agg #[.string s1,.string s2,.int .i64 0,.int .i64 ty,.int .i64 tr,.int .i64 tmn,.int .i64 tmx,.bool th,.int .i64 mmn,.int .i64 mmx,.bool mh,.int .i64 gt,.bool gm]] w fun e w' => e = .returned (.bool (idxB ty && (zTB tr tmn tmx th && zLB mmn mmx mh && zGB gt gm) && v1 && v2)) ∧ Below w.heap.size w w' := by
 have HV1 := fun W => hid (h1 W)
 have HV2 := fun W => hid (h2 W)
 have HI := fun W => hid (isIndex_says ty W)
 generalize idxB ty = a at *
 have hb0 := (Below.refl w.heap.size w).alloc (Nat.le_refl _) (.cells #[.string s1,.string s2,.int .i64 0,.int .i64 ty,.int .i64 tr,.int .i64 tmn,.int .i64 tmx,.bool th,.int .i64 mmn,.int .i64 mmx,.bool mh,.int .i64 gt,.bool gm] 74)
 have hx0 := CA.new w #[.string s1,.string s2,.int .i64 0,.int .i64 ty,.int .i64 tr,.int .i64 tmn,.int .i64 tmx,.bool th,.int .i64 mmn,.int .i64 mmx,.bool mh,.int .i64 gt,.bool gm] 74
 obtain ⟨x0,x1,x2,x3,x4,x5,x6,x7,x8,x9,x10,x11,x12⟩ := ca13 hx0
 have HB := hid (hb0.alloc (by rw [size_al]; omega) (.cells #[.string s1,.string s2,.int .i64 0,.int .i64 0,.int .i64 0,.int .i64 0,.int .i64 0,.bool false,.int .i64 0,.int .i64 0,.bool false,.int .i64 0,.bool false] 74))
 have HX := hid (hx0.alloc (.cells #[.string s1,.string s2,.int .i64 0,.int .i64 0,.int .i64 0,.int .i64 0,.int .i64 0,.bool false,.int .i64 0,.int .i64 0,.bool false,.int .i64 0,.bool false] 74))
 have ho := CA.new (w.alloc (.cells #[.string s1,.string s2,.int .i64 0,.int .i64 ty,.int .i64 tr,.int .i64 tmn,.int .i64 tmx,.bool th,.int .i64 mmn,.int .i64 mmx,.bool mh,.int .i64 gt,.bool gm] 74)) #[.string s1,.string s2,.int .i64 0,.int .i64 0,.int .i64 0,.int .i64 0,.int .i64 0,.bool false,.int .i64 0,.int .i64 0,.bool false,.int .i64 0,.bool false] 74
 rw [size_al] at ho
 have HO0 := hid ho
 clear h1 h2 ho hb0 hx0
 go_enter Tryz.func33,Tryz.ntmps33
 go_upto_region 5 with fail
 clear x0 x1 x2 x3 x4 x5 x6 x7 x8 x9 x10 x11 x12
 have hS : Below w.heap.size w (((w.alloc (.cells #[.string s1,.string s2,.int .i64 0,.int .i64 ty,.int .i64 tr,.int .i64 tmn,.int .i64 tmx,.bool th,.int .i64 mmn,.int .i64 mmx,.bool mh,.int .i64 gt,.bool gm] 74)).alloc (.cells #[.string s1,.string s2,.int .i64 0,.int .i64 0,.int .i64 0,.int .i64 0,.int .i64 0,.bool false,.int .i64 0,.int .i64 0,.bool false,.int .i64 0,.bool false] 74)).drew) ∧ CA w.heap.size #[.string s1,.string s2,.int .i64 0,.int .i64 ty,.int .i64 tr,.int .i64 tmn,.int .i64 tmx,.bool th,.int .i64 mmn,.int .i64 mmx,.bool mh,.int .i64 gt,.bool gm] 74 (((w.alloc (.cells #[.string s1,.string s2,.int .i64 0,.int .i64 ty,.int .i64 tr,.int .i64 tmn,.int .i64 tmx,.bool th,.int .i64 mmn,.int .i64 mmx,.bool mh,.int .i64 gt,.bool gm] 74)).alloc (.cells #[.string s1,.string s2,.int .i64 0,.int .i64 0,.int .i64 0,.int .i64 0,.int .i64 0,.bool false,.int .i64 0,.int .i64 0,.bool false,.int .i64 0,.bool false] 74)).drew) := ⟨HB.out.drew,HX.out⟩
 have HO : Hid (CA (w.heap.size + 1) #[.string s1,.string s2,.int .i64 0,.int .i64 0,.int .i64 0,.int .i64 0,.int .i64 0,.bool false,.int .i64 0,.int .i64 0,.bool false,.int .i64 0,.bool false] 74 (((w.alloc (.cells #[.string s1,.string s2,.int .i64 0,.int .i64 ty,.int .i64 tr,.int .i64 tmn,.int .i64 tmx,.bool th,.int .i64 mmn,.int .i64 mmx,.bool mh,.int .i64 gt,.bool gm] 74)).alloc (.cells #[.string s1,.string s2,.int .i64 0,.int .i64 0,.int .i64 0,.int .i64 0,.int .i64 0,.bool false,.int .i64 0,.int .i64 0,.bool false,.int .i64 0,.bool false] 74)).drew)) := HO0
 clear HO0 HB HX
 refine wp_region_held_drew (S := fun W => Below w.heap.size w W ∧ CA w.heap.size #[.string s1,.string s2,.int .i64 0,.int .i64 ty,.int .i64 tr,.int .i64 tmn,.int .i64 tmx,.bool th,.int .i64 mmn,.int .i64 mmx,.bool mh,.int .i64 gt,.bool gm] 74 W) (by kernel_rfl) hS (fun _ => ?_)
 generalize ((w.alloc (.cells #[.string s1,.string s2,.int .i64 0,.int .i64 ty,.int .i64 tr,.int .i64 tmn,.int .i64 tmx,.bool th,.int .i64 mmn,.int .i64 mmx,.bool mh,.int .i64 gt,.bool gm] 74)).alloc (.cells #[.string s1,.string s2,.int .i64 0,.int .i64 0,.int .i64 0,.int .i64 0,.int .i64 0,.bool false,.int .i64 0,.int .i64 0,.bool false,.int .i64 0,.bool false] 74)).drew = W at *
 refine zt 0 (.pointer (some ⟨w.heap.size,3,none⟩)) rfl ?_ ?_
 ·(intro W hSw; obtain ⟨x0,x1,x2,x3,x4,x5,x6,x7,x8,x9,x10,x11,x12⟩ := ca13 hSw.2; go_simp; try (with_reducible rfl))
 try simp only [Act.put,sl2,sl0,sl1]
 refine zt 1 (.int .i64 ty) rfl ?_ ?_
 ·(intro W hSw; obtain ⟨x0,x1,x2,x3,x4,x5,x6,x7,x8,x9,x10,x11,x12⟩ := ca13 hSw.2; go_simp; try (with_reducible rfl))
 try simp only [Act.put,sl2,sl0,sl1]
 refine zt 2 (.pointer (some ⟨w.heap.size,3,none⟩)) rfl ?_ ?_
 ·(intro W hSw; obtain ⟨x0,x1,x2,x3,x4,x5,x6,x7,x8,x9,x10,x11,x12⟩ := ca13 hSw.2; go_simp; try (with_reducible rfl))
 try simp only [Act.put,sl2,sl0,sl1]
 refine zt 3 (.int .i64 ty) rfl ?_ ?_
 ·(intro W hSw; obtain ⟨x0,x1,x2,x3,x4,x5,x6,x7,x8,x9,x10,x11,x12⟩ := ca13 hSw.2; go_simp; try (with_reducible rfl))
 try simp only [Act.put,sl2,sl0,sl1]
 refine zt 5 (.pointer (some ⟨w.heap.size + 1,3,none⟩)) rfl ?_ ?_
 ·(intro W hSw; obtain ⟨x0,x1,x2,x3,x4,x5,x6,x7,x8,x9,x10,x11,x12⟩ := ca13 hSw.2; go_simp; try (with_reducible rfl))
 try simp only [Act.put,sl2,sl0,sl1]
 refine zr 4 rfl (fun K hK => ?_)
 go_simp
 go_at_call 145
 (with_reducible refine (HI W).out.mono ?_)
 rintro e _ ⟨rfl,rfl⟩
 refine hK.out _ _ hS (fun _ => ?_)
 clear hK K
 try simp only [Act.put,sl2,sl0,sl1]
 refine zr 6 rfl (fun K hK => ?_)
 have z0 := HO.out.at (k := 3) (v := .int .i64 0) rfl
 have q0 := HO.out.free 3
 go_simp
 have ho2 : CA (w.heap.size + 1) #[.string s1,.string s2,.int .i64 0,.int .i64 ty,.int .i64 0,.int .i64 0,.int .i64 0,.bool false,.int .i64 0,.int .i64 0,.bool false,.int .i64 0,.bool false] 74 (W.setCell ⟨w.heap.size + 1,3,none⟩ (.int .i64 ty)) := (HO.out.set (k := 3) (.int .i64 ty))
 replace hS := And.intro (hS.1.setCell (p := ⟨w.heap.size + 1,3,none⟩) (Nat.le_succ _) (.int .i64 ty)) (hS.2.far (o := 3) (Nat.ne_of_gt (Nat.lt_succ_self _)) (.int .i64 ty))
 have HO2 := hid ho2
 clear ho2 HO z0 q0
 generalize (W.setCell ⟨w.heap.size + 1,3,none⟩ (.int .i64 ty)) = W9 at *
 refine hK.out _ _ hS (fun _ => ?_)
 clear hK K
 try simp only [Act.put,sl2,sl0,sl1]
 refine zt 7 (.bool a) rfl ?_ ?_
 ·(intro W hSw; obtain ⟨x0,x1,x2,x3,x4,x5,x6,x7,x8,x9,x10,x11,x12⟩ := ca13 hSw.2; go_simp; try (with_reducible rfl))
 try simp only [Act.put,sl2,sl0,sl1]
 refine wpAnyH_done (by kernel_rfl) ?_ _
 have HF := hid hS.1
 have HFX := hid hS.2
 obtain ⟨y0,y1,y2,y3,y4,y5,y6,y7,y8,y9,y10,y11,y12⟩ := ca13 hS.2
 obtain ⟨o0,o1,o2,o3,o4,o5,o6,o7,o8,o9,o10,o11,o12⟩ := ca13 HO2.out
 clear hS
 go_wp2_with (first
  | (go_at_call 147; (with_reducible refine (HV1 _).out.mono ?_); rintro e w8 ⟨rfl,hb⟩; have HG := hid (HF.out.trans (hb.mono HF.out.size)); have HGX := hid (HFX.out.below hb HFX.out.lt); have y1 := HGX.out.at (k := 1) (v := .string s2) rfl; clear hb)
  | (go_at_call 147; (with_reducible refine (HV2 _).out.mono ?_); rintro e w9 ⟨rfl,hb⟩; have HH := hid (HG.out.trans (hb.mono HG.out.size)); clear hb))
 all_goals
  go_ret
  first
   | exact ⟨by simp_all [zTB,zLB,zGB],HH.out⟩
   | exact ⟨by simp_all [zTB,zLB,zGB],HG.out⟩
   | exact ⟨by simp_all [zTB,zLB,zGB],HF.out⟩
set_option maxHeartbeats 4000000 in
theorem isImport_3 (s1 s2 : ByteArray) (ty tr tmn tmx : Int) (th : Bool) (mmn mmx : Int) (mh : Bool) (gt : Int) (gm : Bool) (v1 v2 : Bool) (w : World)
  (h1 : ∀ W,Calls Tryz.prog 147 #[.string s1] W fun e w' => e = .returned (.bool v1) ∧ Below W.heap.size W w') (h2 : ∀ W,Calls Tryz.prog 147 #[.string s2] W fun e w' => e = .returned (.bool v2) ∧ Below W.heap.size W w') :
  Calls Tryz.prog 33 #[.agg #[.string s1,.string s2,.int .i64 3,.int .i64 ty,.int .i64 tr,.int .i64 tmn,.int .i64 tmx,.bool th,.int .i64 mmn,.int .i64 mmx,.bool mh,.int .i64 gt,.bool gm]] w fun e w' => e = .returned (.bool (valB gt && ((ty == 0) && zTB tr tmn tmx th && zLB mmn mmx mh) && v1 && v2)) ∧ Below w.heap.size w w' := by
 have HV1 := fun W => hid (h1 W)
 have HV2 := fun W => hid (h2 W)
 have HI := fun W => hid (isGlobalType_says gt gm W)
 generalize valB gt = a at *
 have hb0 := (Below.refl w.heap.size w).alloc (Nat.le_refl _) (.cells #[.string s1,.string s2,.int .i64 3,.int .i64 ty,.int .i64 tr,.int .i64 tmn,.int .i64 tmx,.bool th,.int .i64 mmn,.int .i64 mmx,.bool mh,.int .i64 gt,.bool gm] 74)
 have hx0 := CA.new w #[.string s1,.string s2,.int .i64 3,.int .i64 ty,.int .i64 tr,.int .i64 tmn,.int .i64 tmx,.bool th,.int .i64 mmn,.int .i64 mmx,.bool mh,.int .i64 gt,.bool gm] 74
 obtain ⟨x0,x1,x2,x3,x4,x5,x6,x7,x8,x9,x10,x11,x12⟩ := ca13 hx0
 have HB := hid (hb0.alloc (by rw [size_al]; omega) (.cells #[.string s1,.string s2,.int .i64 3,.int .i64 0,.int .i64 0,.int .i64 0,.int .i64 0,.bool false,.int .i64 0,.int .i64 0,.bool false,.int .i64 0,.bool false] 74))
 have HX := hid (hx0.alloc (.cells #[.string s1,.string s2,.int .i64 3,.int .i64 0,.int .i64 0,.int .i64 0,.int .i64 0,.bool false,.int .i64 0,.int .i64 0,.bool false,.int .i64 0,.bool false] 74))
 have ho := CA.new (w.alloc (.cells #[.string s1,.string s2,.int .i64 3,.int .i64 ty,.int .i64 tr,.int .i64 tmn,.int .i64 tmx,.bool th,.int .i64 mmn,.int .i64 mmx,.bool mh,.int .i64 gt,.bool gm] 74)) #[.string s1,.string s2,.int .i64 3,.int .i64 0,.int .i64 0,.int .i64 0,.int .i64 0,.bool false,.int .i64 0,.int .i64 0,.bool false,.int .i64 0,.bool false] 74
 rw [size_al] at ho
 have HO0 := hid ho
 clear h1 h2 ho hb0 hx0
 go_enter Tryz.func33,Tryz.ntmps33
 go_upto_region 11 with fail
 clear x0 x1 x2 x3 x4 x5 x6 x7 x8 x9 x10 x11 x12
 have hS : Below w.heap.size w (((w.alloc (.cells #[.string s1,.string s2,.int .i64 3,.int .i64 ty,.int .i64 tr,.int .i64 tmn,.int .i64 tmx,.bool th,.int .i64 mmn,.int .i64 mmx,.bool mh,.int .i64 gt,.bool gm] 74)).alloc (.cells #[.string s1,.string s2,.int .i64 3,.int .i64 0,.int .i64 0,.int .i64 0,.int .i64 0,.bool false,.int .i64 0,.int .i64 0,.bool false,.int .i64 0,.bool false] 74)).drew) ∧ CA w.heap.size #[.string s1,.string s2,.int .i64 3,.int .i64 ty,.int .i64 tr,.int .i64 tmn,.int .i64 tmx,.bool th,.int .i64 mmn,.int .i64 mmx,.bool mh,.int .i64 gt,.bool gm] 74 (((w.alloc (.cells #[.string s1,.string s2,.int .i64 3,.int .i64 ty,.int .i64 tr,.int .i64 tmn,.int .i64 tmx,.bool th,.int .i64 mmn,.int .i64 mmx,.bool mh,.int .i64 gt,.bool gm] 74)).alloc (.cells #[.string s1,.string s2,.int .i64 3,.int .i64 0,.int .i64 0,.int .i64 0,.int .i64 0,.bool false,.int .i64 0,.int .i64 0,.bool false,.int .i64 0,.bool false] 74)).drew) := ⟨HB.out.drew,HX.out⟩
 have HO : Hid (CA (w.heap.size + 1) #[.string s1,.string s2,.int .i64 3,.int .i64 0,.int .i64 0,.int .i64 0,.int .i64 0,.bool false,.int .i64 0,.int .i64 0,.bool false,.int .i64 0,.bool false] 74 (((w.alloc (.cells #[.string s1,.string s2,.int .i64 3,.int .i64 ty,.int .i64 tr,.int .i64 tmn,.int .i64 tmx,.bool th,.int .i64 mmn,.int .i64 mmx,.bool mh,.int .i64 gt,.bool gm] 74)).alloc (.cells #[.string s1,.string s2,.int .i64 3,.int .i64 0,.int .i64 0,.int .i64 0,.int .i64 0,.bool false,.int .i64 0,.int .i64 0,.bool false,.int .i64 0,.bool false] 74)).drew)) := HO0
 clear HO0 HB HX
 refine wp_region_held_drew (S := fun W => Below w.heap.size w W ∧ CA w.heap.size #[.string s1,.string s2,.int .i64 3,.int .i64 ty,.int .i64 tr,.int .i64 tmn,.int .i64 tmx,.bool th,.int .i64 mmn,.int .i64 mmx,.bool mh,.int .i64 gt,.bool gm] 74 W) (by kernel_rfl) hS (fun _ => ?_)
 generalize ((w.alloc (.cells #[.string s1,.string s2,.int .i64 3,.int .i64 ty,.int .i64 tr,.int .i64 tmn,.int .i64 tmx,.bool th,.int .i64 mmn,.int .i64 mmx,.bool mh,.int .i64 gt,.bool gm] 74)).alloc (.cells #[.string s1,.string s2,.int .i64 3,.int .i64 0,.int .i64 0,.int .i64 0,.int .i64 0,.bool false,.int .i64 0,.int .i64 0,.bool false,.int .i64 0,.bool false] 74)).drew = W at *
 refine zt 0 (.pointer (some ⟨w.heap.size,11,none⟩)) rfl ?_ ?_
 ·(intro W hSw; obtain ⟨x0,x1,x2,x3,x4,x5,x6,x7,x8,x9,x10,x11,x12⟩ := ca13 hSw.2; go_simp; try (with_reducible rfl))
 try simp only [Act.put,sl2,sl0,sl1]
 refine zt 1 (.agg #[.int .i64 gt,.bool gm]) rfl ?_ ?_
 ·(intro W hSw; obtain ⟨x0,x1,x2,x3,x4,x5,x6,x7,x8,x9,x10,x11,x12⟩ := ca13 hSw.2; go_simp; try (with_reducible rfl))
 try simp only [Act.put,sl2,sl0,sl1]
 refine zt 2 (.pointer (some ⟨w.heap.size,11,none⟩)) rfl ?_ ?_
 ·(intro W hSw; obtain ⟨x0,x1,x2,x3,x4,x5,x6,x7,x8,x9,x10,x11,x12⟩ := ca13 hSw.2; go_simp; try (with_reducible rfl))
 try simp only [Act.put,sl2,sl0,sl1]
 refine zt 3 (.agg #[.int .i64 gt,.bool gm]) rfl ?_ ?_
 ·(intro W hSw; obtain ⟨x0,x1,x2,x3,x4,x5,x6,x7,x8,x9,x10,x11,x12⟩ := ca13 hSw.2; go_simp; try (with_reducible rfl))
 try simp only [Act.put,sl2,sl0,sl1]
 refine zt 5 (.pointer (some ⟨w.heap.size + 1,11,none⟩)) rfl ?_ ?_
 ·(intro W hSw; obtain ⟨x0,x1,x2,x3,x4,x5,x6,x7,x8,x9,x10,x11,x12⟩ := ca13 hSw.2; go_simp; try (with_reducible rfl))
 try simp only [Act.put,sl2,sl0,sl1]
 refine zr 4 rfl (fun K hK => ?_)
 go_simp
 go_at_call 146
 (with_reducible refine (HI W).out.mono ?_)
 rintro e W1 ⟨rfl,hb⟩
 replace HO := hid (HO.out.below hb HO.out.lt)
 replace hS := And.intro (hS.1.trans (hb.mono hS.1.size)) (hS.2.below hb hS.2.lt)
 clear hb
 refine hK.out _ _ hS (fun _ => ?_)
 clear hK K
 try simp only [Act.put,sl2,sl0,sl1]
 refine zr 6 rfl (fun K hK => ?_)
 have z0 := HO.out.at (k := 11) (v := .int .i64 0) rfl
 have q0 := HO.out.free 11
 have z1 := HO.out.at (k := 12) (v := .bool false) rfl
 have q1 := HO.out.free 12
 go_simp
 have ho2 : CA (w.heap.size + 1) #[.string s1,.string s2,.int .i64 3,.int .i64 0,.int .i64 0,.int .i64 0,.int .i64 0,.bool false,.int .i64 0,.int .i64 0,.bool false,.int .i64 gt,.bool gm] 74 ((W1.setCell ⟨w.heap.size + 1,11,none⟩ (.int .i64 gt)).setCell ⟨w.heap.size + 1,12,none⟩ (.bool gm)) := ((HO.out.set (k := 11) (.int .i64 gt)).set (k := 12) (.bool gm))
 replace hS := And.intro ((hS.1.setCell (p := ⟨w.heap.size + 1,11,none⟩) (Nat.le_succ _) (.int .i64 gt)).setCell (p := ⟨w.heap.size + 1,12,none⟩) (Nat.le_succ _) (.bool gm)) ((hS.2.far (o := 11) (Nat.ne_of_gt (Nat.lt_succ_self _)) (.int .i64 gt)).far (o := 12) (Nat.ne_of_gt (Nat.lt_succ_self _)) (.bool gm))
 have HO2 := hid ho2
 clear ho2 HO z0 q0 z1 q1
 generalize ((W1.setCell ⟨w.heap.size + 1,11,none⟩ (.int .i64 gt)).setCell ⟨w.heap.size + 1,12,none⟩ (.bool gm)) = W9 at *
 refine hK.out _ _ hS (fun _ => ?_)
 clear hK K
 try simp only [Act.put,sl2,sl0,sl1]
 refine zt 7 (.bool a) rfl ?_ ?_
 ·(intro W hSw; obtain ⟨x0,x1,x2,x3,x4,x5,x6,x7,x8,x9,x10,x11,x12⟩ := ca13 hSw.2; go_simp; try (with_reducible rfl))
 try simp only [Act.put,sl2,sl0,sl1]
 refine wpAnyH_done (by kernel_rfl) ?_ _
 have HF := hid hS.1
 have HFX := hid hS.2
 obtain ⟨y0,y1,y2,y3,y4,y5,y6,y7,y8,y9,y10,y11,y12⟩ := ca13 hS.2
 obtain ⟨o0,o1,o2,o3,o4,o5,o6,o7,o8,o9,o10,o11,o12⟩ := ca13 HO2.out
 clear hS
 go_wp2_with (first
  | (go_at_call 147; (with_reducible refine (HV1 _).out.mono ?_); rintro e w8 ⟨rfl,hb⟩; have HG := hid (HF.out.trans (hb.mono HF.out.size)); have HGX := hid (HFX.out.below hb HFX.out.lt); have y1 := HGX.out.at (k := 1) (v := .string s2) rfl; clear hb)
  | (go_at_call 147; (with_reducible refine (HV2 _).out.mono ?_); rintro e w9 ⟨rfl,hb⟩; have HH := hid (HG.out.trans (hb.mono HG.out.size)); clear hb))
 all_goals
  go_ret
  first
   | exact ⟨by simp_all [zTB,zLB,zGB],HH.out⟩
   | exact ⟨by simp_all [zTB,zLB,zGB],HG.out⟩
   | exact ⟨by simp_all [zTB,zLB,zGB],HF.out⟩
end Go.Proofs.YtjgeedgphcjhoaaGreat
namespace Go.Proofs.YtjgeedgphcjhoaaGreat
open Go.RowKit
set_option maxHeartbeats 4000000 in
theorem isImport_1 (s1 s2 : ByteArray) (ty tr tmn tmx : Int) (th : Bool) (mmn mmx : Int) (mh : Bool) (gt : Int) (gm : Bool) (v1 v2 : Bool) (w : World)
  (h1 : ∀ W,Calls Tryz.prog 147 #[.string s1] W fun e w' => e = .returned (.bool v1) ∧ Below W.heap.size W w') (h2 : ∀ W,Calls Tryz.prog 147 #[.string s2] W fun e w' => e = .returned (.bool v2) ∧ Below W.heap.size W w') :
  Calls Tryz.prog 33 #[.agg #[.string s1,.string s2,.int .i64 1,.int .i64 ty,.int .i64 tr,.int .i64 tmn,.int .i64 tmx,.bool th,.int .i64 mmn,.int .i64 mmx,.bool mh,.int .i64 gt,.bool gm]] w fun e w' => e = .returned (.bool ((refB tr && limB tmn tmx th) && ((ty == 0) && zLB mmn mmx mh && zGB gt gm) && v1 && v2)) ∧ Below w.heap.size w w' := by
 have HV1 := fun W => hid (h1 W)
 have HV2 := fun W => hid (h2 W)
 have HI := fun W => hid (isTableType_says tr tmn tmx th W)
 generalize (refB tr && limB tmn tmx th) = a at *
 have hb0 := (Below.refl w.heap.size w).alloc (Nat.le_refl _) (.cells #[.string s1,.string s2,.int .i64 1,.int .i64 ty,.int .i64 tr,.int .i64 tmn,.int .i64 tmx,.bool th,.int .i64 mmn,.int .i64 mmx,.bool mh,.int .i64 gt,.bool gm] 74)
 have hx0 := CA.new w #[.string s1,.string s2,.int .i64 1,.int .i64 ty,.int .i64 tr,.int .i64 tmn,.int .i64 tmx,.bool th,.int .i64 mmn,.int .i64 mmx,.bool mh,.int .i64 gt,.bool gm] 74
 obtain ⟨x0,x1,x2,x3,x4,x5,x6,x7,x8,x9,x10,x11,x12⟩ := ca13 hx0
 have HB := hid (hb0.alloc (by rw [size_al]; omega) (.cells #[.string s1,.string s2,.int .i64 1,.int .i64 0,.int .i64 0,.int .i64 0,.int .i64 0,.bool false,.int .i64 0,.int .i64 0,.bool false,.int .i64 0,.bool false] 74))
 have HX := hid (hx0.alloc (.cells #[.string s1,.string s2,.int .i64 1,.int .i64 0,.int .i64 0,.int .i64 0,.int .i64 0,.bool false,.int .i64 0,.int .i64 0,.bool false,.int .i64 0,.bool false] 74))
 have ho := CA.new (w.alloc (.cells #[.string s1,.string s2,.int .i64 1,.int .i64 ty,.int .i64 tr,.int .i64 tmn,.int .i64 tmx,.bool th,.int .i64 mmn,.int .i64 mmx,.bool mh,.int .i64 gt,.bool gm] 74)) #[.string s1,.string s2,.int .i64 1,.int .i64 0,.int .i64 0,.int .i64 0,.int .i64 0,.bool false,.int .i64 0,.int .i64 0,.bool false,.int .i64 0,.bool false] 74
 rw [size_al] at ho
 have HO0 := hid ho
 clear h1 h2 ho hb0 hx0
 go_enter Tryz.func33,Tryz.ntmps33
 go_upto_region 7 with fail
 clear x0 x1 x2 x3 x4 x5 x6 x7 x8 x9 x10 x11 x12
 have hS : Below w.heap.size w (((w.alloc (.cells #[.string s1,.string s2,.int .i64 1,.int .i64 ty,.int .i64 tr,.int .i64 tmn,.int .i64 tmx,.bool th,.int .i64 mmn,.int .i64 mmx,.bool mh,.int .i64 gt,.bool gm] 74)).alloc (.cells #[.string s1,.string s2,.int .i64 1,.int .i64 0,.int .i64 0,.int .i64 0,.int .i64 0,.bool false,.int .i64 0,.int .i64 0,.bool false,.int .i64 0,.bool false] 74)).drew) ∧ CA w.heap.size #[.string s1,.string s2,.int .i64 1,.int .i64 ty,.int .i64 tr,.int .i64 tmn,.int .i64 tmx,.bool th,.int .i64 mmn,.int .i64 mmx,.bool mh,.int .i64 gt,.bool gm] 74 (((w.alloc (.cells #[.string s1,.string s2,.int .i64 1,.int .i64 ty,.int .i64 tr,.int .i64 tmn,.int .i64 tmx,.bool th,.int .i64 mmn,.int .i64 mmx,.bool mh,.int .i64 gt,.bool gm] 74)).alloc (.cells #[.string s1,.string s2,.int .i64 1,.int .i64 0,.int .i64 0,.int .i64 0,.int .i64 0,.bool false,.int .i64 0,.int .i64 0,.bool false,.int .i64 0,.bool false] 74)).drew) := ⟨HB.out.drew,HX.out⟩
 have HO : Hid (CA (w.heap.size + 1) #[.string s1,.string s2,.int .i64 1,.int .i64 0,.int .i64 0,.int .i64 0,.int .i64 0,.bool false,.int .i64 0,.int .i64 0,.bool false,.int .i64 0,.bool false] 74 (((w.alloc (.cells #[.string s1,.string s2,.int .i64 1,.int .i64 ty,.int .i64 tr,.int .i64 tmn,.int .i64 tmx,.bool th,.int .i64 mmn,.int .i64 mmx,.bool mh,.int .i64 gt,.bool gm] 74)).alloc (.cells #[.string s1,.string s2,.int .i64 1,.int .i64 0,.int .i64 0,.int .i64 0,.int .i64 0,.bool false,.int .i64 0,.int .i64 0,.bool false,.int .i64 0,.bool false] 74)).drew)) := HO0
 clear HO0 HB HX
 refine wp_region_held_drew (S := fun W => Below w.heap.size w W ∧ CA w.heap.size #[.string s1,.string s2,.int .i64 1,.int .i64 ty,.int .i64 tr,.int .i64 tmn,.int .i64 tmx,.bool th,.int .i64 mmn,.int .i64 mmx,.bool mh,.int .i64 gt,.bool gm] 74 W) (by kernel_rfl) hS (fun _ => ?_)
 generalize ((w.alloc (.cells #[.string s1,.string s2,.int .i64 1,.int .i64 ty,.int .i64 tr,.int .i64 tmn,.int .i64 tmx,.bool th,.int .i64 mmn,.int .i64 mmx,.bool mh,.int .i64 gt,.bool gm] 74)).alloc (.cells #[.string s1,.string s2,.int .i64 1,.int .i64 0,.int .i64 0,.int .i64 0,.int .i64 0,.bool false,.int .i64 0,.int .i64 0,.bool false,.int .i64 0,.bool false] 74)).drew = W at *
 refine zt 0 (.pointer (some ⟨w.heap.size,4,none⟩)) rfl ?_ ?_
 ·(intro W hSw; obtain ⟨x0,x1,x2,x3,x4,x5,x6,x7,x8,x9,x10,x11,x12⟩ := ca13 hSw.2; go_simp; try (with_reducible rfl))
 try simp only [Act.put,sl2,sl0,sl1]
 refine zt 1 (.agg #[.int .i64 tr,.int .i64 tmn,.int .i64 tmx,.bool th]) rfl ?_ ?_
 ·(intro W hSw; obtain ⟨x0,x1,x2,x3,x4,x5,x6,x7,x8,x9,x10,x11,x12⟩ := ca13 hSw.2; go_simp; try (with_reducible rfl))
 try simp only [Act.put,sl2,sl0,sl1]
 refine zt 2 (.pointer (some ⟨w.heap.size,4,none⟩)) rfl ?_ ?_
 ·(intro W hSw; obtain ⟨x0,x1,x2,x3,x4,x5,x6,x7,x8,x9,x10,x11,x12⟩ := ca13 hSw.2; go_simp; try (with_reducible rfl))
 try simp only [Act.put,sl2,sl0,sl1]
 refine zt 3 (.agg #[.int .i64 tr,.int .i64 tmn,.int .i64 tmx,.bool th]) rfl ?_ ?_
 ·(intro W hSw; obtain ⟨x0,x1,x2,x3,x4,x5,x6,x7,x8,x9,x10,x11,x12⟩ := ca13 hSw.2; go_simp; try (with_reducible rfl))
 try simp only [Act.put,sl2,sl0,sl1]
 refine zt 5 (.pointer (some ⟨w.heap.size + 1,4,none⟩)) rfl ?_ ?_
 ·(intro W hSw; obtain ⟨x0,x1,x2,x3,x4,x5,x6,x7,x8,x9,x10,x11,x12⟩ := ca13 hSw.2; go_simp; try (with_reducible rfl))
 try simp only [Act.put,sl2,sl0,sl1]
 refine zr 4 rfl (fun K hK => ?_)
 go_simp
 go_at_call 37
 (with_reducible refine (HI W).out.mono ?_)
 rintro e W1 ⟨rfl,hb⟩
 replace HO := hid (HO.out.below hb HO.out.lt)
 replace hS := And.intro (hS.1.trans (hb.mono hS.1.size)) (hS.2.below hb hS.2.lt)
 clear hb
 refine hK.out _ _ hS (fun _ => ?_)
 clear hK K
 try simp only [Act.put,sl2,sl0,sl1]
 refine zr 6 rfl (fun K hK => ?_)
 have z0 := HO.out.at (k := 4) (v := .int .i64 0) rfl
 have q0 := HO.out.free 4
 have z1 := HO.out.at (k := 5) (v := .int .i64 0) rfl
 have q1 := HO.out.free 5
 have z2 := HO.out.at (k := 6) (v := .int .i64 0) rfl
 have q2 := HO.out.free 6
 have z3 := HO.out.at (k := 7) (v := .bool false) rfl
 have q3 := HO.out.free 7
 go_simp
 have ho2 : CA (w.heap.size + 1) #[.string s1,.string s2,.int .i64 1,.int .i64 0,.int .i64 tr,.int .i64 tmn,.int .i64 tmx,.bool th,.int .i64 0,.int .i64 0,.bool false,.int .i64 0,.bool false] 74 ((((W1.setCell ⟨w.heap.size + 1,4,none⟩ (.int .i64 tr)).setCell ⟨w.heap.size + 1,5,none⟩ (.int .i64 tmn)).setCell ⟨w.heap.size + 1,6,none⟩ (.int .i64 tmx)).setCell ⟨w.heap.size + 1,7,none⟩ (.bool th)) := ((((HO.out.set (k := 4) (.int .i64 tr)).set (k := 5) (.int .i64 tmn)).set (k := 6) (.int .i64 tmx)).set (k := 7) (.bool th))
 replace hS := And.intro ((((hS.1.setCell (p := ⟨w.heap.size + 1,4,none⟩) (Nat.le_succ _) (.int .i64 tr)).setCell (p := ⟨w.heap.size + 1,5,none⟩) (Nat.le_succ _) (.int .i64 tmn)).setCell (p := ⟨w.heap.size + 1,6,none⟩) (Nat.le_succ _) (.int .i64 tmx)).setCell (p := ⟨w.heap.size + 1,7,none⟩) (Nat.le_succ _) (.bool th)) ((((hS.2.far (o := 4) (Nat.ne_of_gt (Nat.lt_succ_self _)) (.int .i64 tr)).far (o := 5) (Nat.ne_of_gt (Nat.lt_succ_self _)) (.int .i64 tmn)).far (o := 6) (Nat.ne_of_gt (Nat.lt_succ_self _)) (.int .i64 tmx)).far (o := 7) (Nat.ne_of_gt (Nat.lt_succ_self _)) (.bool th))
 have HO2 := hid ho2
 clear ho2 HO z0 q0 z1 q1 z2 q2 z3 q3
 generalize ((((W1.setCell ⟨w.heap.size + 1,4,none⟩ (.int .i64 tr)).setCell ⟨w.heap.size + 1,5,none⟩ (.int .i64 tmn)).setCell ⟨w.heap.size + 1,6,none⟩ (.int .i64 tmx)).setCell ⟨w.heap.size + 1,7,none⟩ (.bool th)) = W9 at *
 refine hK.out _ _ hS (fun _ => ?_)
 clear hK K
 try simp only [Act.put,sl2,sl0,sl1]
 refine zt 7 (.bool a) rfl ?_ ?_
 ·(intro W hSw; obtain ⟨x0,x1,x2,x3,x4,x5,x6,x7,x8,x9,x10,x11,x12⟩ := ca13 hSw.2; go_simp; try (with_reducible rfl))
 try simp only [Act.put,sl2,sl0,sl1]
 refine wpAnyH_done (by kernel_rfl) ?_ _
 have HF := hid hS.1
 have HFX := hid hS.2
 obtain ⟨y0,y1,y2,y3,y4,y5,y6,y7,y8,y9,y10,y11,y12⟩ := ca13 hS.2
 obtain ⟨o0,o1,o2,o3,o4,o5,o6,o7,o8,o9,o10,o11,o12⟩ := ca13 HO2.out
 clear hS
 go_wp2_with (first
  | (go_at_call 147; (with_reducible refine (HV1 _).out.mono ?_); rintro e w8 ⟨rfl,hb⟩; have HG := hid (HF.out.trans (hb.mono HF.out.size)); have HGX := hid (HFX.out.below hb HFX.out.lt); have y1 := HGX.out.at (k := 1) (v := .string s2) rfl; clear hb)
  | (go_at_call 147; (with_reducible refine (HV2 _).out.mono ?_); rintro e w9 ⟨rfl,hb⟩; have HH := hid (HG.out.trans (hb.mono HG.out.size)); clear hb))
 all_goals
  go_ret
  first
   | exact ⟨by simp_all [zTB,zLB,zGB],HH.out⟩
   | exact ⟨by simp_all [zTB,zLB,zGB],HG.out⟩
   | exact ⟨by simp_all [zTB,zLB,zGB],HF.out⟩
set_option maxHeartbeats 4000000 in
theorem isImport_2 (s1 s2 : ByteArray) (ty tr tmn tmx : Int) (th : Bool) (mmn mmx : Int) (mh : Bool) (gt : Int) (gm : Bool) (v1 v2 : Bool) (w : World)
  (h1 : ∀ W,Calls Tryz.prog 147 #[.string s1] W fun e w' => e = .returned (.bool v1) ∧ Below W.heap.size W w') (h2 : ∀ W,Calls Tryz.prog 147 #[.string s2] W fun e w' => e = .returned (.bool v2) ∧ Below W.heap.size W w') :
  Calls Tryz.prog 33 #[.agg #[.string s1,.string s2,.int .i64 2,.int .i64 ty,.int .i64 tr,.int .i64 tmn,.int .i64 tmx,.bool th,.int .i64 mmn,.int .i64 mmx,.bool mh,.int .i64 gt,.bool gm]] w fun e w' => e = .returned (.bool (limB mmn mmx mh && ((ty == 0) && zTB tr tmn tmx th && zGB gt gm) && v1 && v2)) ∧ Below w.heap.size w w' := by
 have HV1 := fun W => hid (h1 W)
 have HV2 := fun W => hid (h2 W)
 have HI := fun W => hid (isLimits_says mmn mmx mh W)
 generalize limB mmn mmx mh = a at *
 have hb0 := (Below.refl w.heap.size w).alloc (Nat.le_refl _) (.cells #[.string s1,.string s2,.int .i64 2,.int .i64 ty,.int .i64 tr,.int .i64 tmn,.int .i64 tmx,.bool th,.int .i64 mmn,.int .i64 mmx,.bool mh,.int .i64 gt,.bool gm] 74)
 have hx0 := CA.new w #[.string s1,.string s2,.int .i64 2,.int .i64 ty,.int .i64 tr,.int .i64 tmn,.int .i64 tmx,.bool th,.int .i64 mmn,.int .i64 mmx,.bool mh,.int .i64 gt,.bool gm] 74
 obtain ⟨x0,x1,x2,x3,x4,x5,x6,x7,x8,x9,x10,x11,x12⟩ := ca13 hx0
 have HB := hid (hb0.alloc (by rw [size_al]; omega) (.cells #[.string s1,.string s2,.int .i64 2,.int .i64 0,.int .i64 0,.int .i64 0,.int .i64 0,.bool false,.int .i64 0,.int .i64 0,.bool false,.int .i64 0,.bool false] 74))
 have HX := hid (hx0.alloc (.cells #[.string s1,.string s2,.int .i64 2,.int .i64 0,.int .i64 0,.int .i64 0,.int .i64 0,.bool false,.int .i64 0,.int .i64 0,.bool false,.int .i64 0,.bool false] 74))
 have ho := CA.new (w.alloc (.cells #[.string s1,.string s2,.int .i64 2,.int .i64 ty,.int .i64 tr,.int .i64 tmn,.int .i64 tmx,.bool th,.int .i64 mmn,.int .i64 mmx,.bool mh,.int .i64 gt,.bool gm] 74)) #[.string s1,.string s2,.int .i64 2,.int .i64 0,.int .i64 0,.int .i64 0,.int .i64 0,.bool false,.int .i64 0,.int .i64 0,.bool false,.int .i64 0,.bool false] 74
 rw [size_al] at ho
 have HO0 := hid ho
 clear h1 h2 ho hb0 hx0
 go_enter Tryz.func33,Tryz.ntmps33
 go_upto_region 9 with fail
 clear x0 x1 x2 x3 x4 x5 x6 x7 x8 x9 x10 x11 x12
 have hS : Below w.heap.size w (((w.alloc (.cells #[.string s1,.string s2,.int .i64 2,.int .i64 ty,.int .i64 tr,.int .i64 tmn,.int .i64 tmx,.bool th,.int .i64 mmn,.int .i64 mmx,.bool mh,.int .i64 gt,.bool gm] 74)).alloc (.cells #[.string s1,.string s2,.int .i64 2,.int .i64 0,.int .i64 0,.int .i64 0,.int .i64 0,.bool false,.int .i64 0,.int .i64 0,.bool false,.int .i64 0,.bool false] 74)).drew) ∧ CA w.heap.size #[.string s1,.string s2,.int .i64 2,.int .i64 ty,.int .i64 tr,.int .i64 tmn,.int .i64 tmx,.bool th,.int .i64 mmn,.int .i64 mmx,.bool mh,.int .i64 gt,.bool gm] 74 (((w.alloc (.cells #[.string s1,.string s2,.int .i64 2,.int .i64 ty,.int .i64 tr,.int .i64 tmn,.int .i64 tmx,.bool th,.int .i64 mmn,.int .i64 mmx,.bool mh,.int .i64 gt,.bool gm] 74)).alloc (.cells #[.string s1,.string s2,.int .i64 2,.int .i64 0,.int .i64 0,.int .i64 0,.int .i64 0,.bool false,.int .i64 0,.int .i64 0,.bool false,.int .i64 0,.bool false] 74)).drew) := ⟨HB.out.drew,HX.out⟩
 have HO : Hid (CA (w.heap.size + 1) #[.string s1,.string s2,.int .i64 2,.int .i64 0,.int .i64 0,.int .i64 0,.int .i64 0,.bool false,.int .i64 0,.int .i64 0,.bool false,.int .i64 0,.bool false] 74 (((w.alloc (.cells #[.string s1,.string s2,.int .i64 2,.int .i64 ty,.int .i64 tr,.int .i64 tmn,.int .i64 tmx,.bool th,.int .i64 mmn,.int .i64 mmx,.bool mh,.int .i64 gt,.bool gm] 74)).alloc (.cells #[.string s1,.string s2,.int .i64 2,.int .i64 0,.int .i64 0,.int .i64 0,.int .i64 0,.bool false,.int .i64 0,.int .i64 0,.bool false,.int .i64 0,.bool false] 74)).drew)) := HO0
 clear HO0 HB HX
 refine wp_region_held_drew (S := fun W => Below w.heap.size w W ∧ CA w.heap.size #[.string s1,.string s2,.int .i64 2,.int .i64 ty,.int .i64 tr,.int .i64 tmn,.int .i64 tmx,.bool th,.int .i64 mmn,.int .i64 mmx,.bool mh,.int .i64 gt,.bool gm] 74 W) (by kernel_rfl) hS (fun _ => ?_)
 generalize ((w.alloc (.cells #[.string s1,.string s2,.int .i64 2,.int .i64 ty,.int .i64 tr,.int .i64 tmn,.int .i64 tmx,.bool th,.int .i64 mmn,.int .i64 mmx,.bool mh,.int .i64 gt,.bool gm] 74)).alloc (.cells #[.string s1,.string s2,.int .i64 2,.int .i64 0,.int .i64 0,.int .i64 0,.int .i64 0,.bool false,.int .i64 0,.int .i64 0,.bool false,.int .i64 0,.bool false] 74)).drew = W at *
 refine zt 0 (.pointer (some ⟨w.heap.size,8,none⟩)) rfl ?_ ?_
 ·(intro W hSw; obtain ⟨x0,x1,x2,x3,x4,x5,x6,x7,x8,x9,x10,x11,x12⟩ := ca13 hSw.2; go_simp; try (with_reducible rfl))
 try simp only [Act.put,sl2,sl0,sl1]
 refine zt 1 (.agg #[.int .i64 mmn,.int .i64 mmx,.bool mh]) rfl ?_ ?_
 ·(intro W hSw; obtain ⟨x0,x1,x2,x3,x4,x5,x6,x7,x8,x9,x10,x11,x12⟩ := ca13 hSw.2; go_simp; try (with_reducible rfl))
 try simp only [Act.put,sl2,sl0,sl1]
 refine zt 2 (.pointer (some ⟨w.heap.size,8,none⟩)) rfl ?_ ?_
 ·(intro W hSw; obtain ⟨x0,x1,x2,x3,x4,x5,x6,x7,x8,x9,x10,x11,x12⟩ := ca13 hSw.2; go_simp; try (with_reducible rfl))
 try simp only [Act.put,sl2,sl0,sl1]
 refine zt 3 (.agg #[.int .i64 mmn,.int .i64 mmx,.bool mh]) rfl ?_ ?_
 ·(intro W hSw; obtain ⟨x0,x1,x2,x3,x4,x5,x6,x7,x8,x9,x10,x11,x12⟩ := ca13 hSw.2; go_simp; try (with_reducible rfl))
 try simp only [Act.put,sl2,sl0,sl1]
 refine zt 5 (.pointer (some ⟨w.heap.size + 1,8,none⟩)) rfl ?_ ?_
 ·(intro W hSw; obtain ⟨x0,x1,x2,x3,x4,x5,x6,x7,x8,x9,x10,x11,x12⟩ := ca13 hSw.2; go_simp; try (with_reducible rfl))
 try simp only [Act.put,sl2,sl0,sl1]
 refine zr 4 rfl (fun K hK => ?_)
 go_simp
 go_at_call 39
 (with_reducible refine (HI W).out.mono ?_)
 rintro e W1 ⟨rfl,hb⟩
 replace HO := hid (HO.out.below hb HO.out.lt)
 replace hS := And.intro (hS.1.trans (hb.mono hS.1.size)) (hS.2.below hb hS.2.lt)
 clear hb
 refine hK.out _ _ hS (fun _ => ?_)
 clear hK K
 try simp only [Act.put,sl2,sl0,sl1]
 refine zr 6 rfl (fun K hK => ?_)
 have z0 := HO.out.at (k := 8) (v := .int .i64 0) rfl
 have q0 := HO.out.free 8
 have z1 := HO.out.at (k := 9) (v := .int .i64 0) rfl
 have q1 := HO.out.free 9
 have z2 := HO.out.at (k := 10) (v := .bool false) rfl
 have q2 := HO.out.free 10
 go_simp
 have ho2 : CA (w.heap.size + 1) #[.string s1,.string s2,.int .i64 2,.int .i64 0,.int .i64 0,.int .i64 0,.int .i64 0,.bool false,.int .i64 mmn,.int .i64 mmx,.bool mh,.int .i64 0,.bool false] 74 (((W1.setCell ⟨w.heap.size + 1,8,none⟩ (.int .i64 mmn)).setCell ⟨w.heap.size + 1,9,none⟩ (.int .i64 mmx)).setCell ⟨w.heap.size + 1,10,none⟩ (.bool mh)) := (((HO.out.set (k := 8) (.int .i64 mmn)).set (k := 9) (.int .i64 mmx)).set (k := 10) (.bool mh))
 replace hS := And.intro (((hS.1.setCell (p := ⟨w.heap.size + 1,8,none⟩) (Nat.le_succ _) (.int .i64 mmn)).setCell (p := ⟨w.heap.size + 1,9,none⟩) (Nat.le_succ _) (.int .i64 mmx)).setCell (p := ⟨w.heap.size + 1,10,none⟩) (Nat.le_succ _) (.bool mh)) (((hS.2.far (o := 8) (Nat.ne_of_gt (Nat.lt_succ_self _)) (.int .i64 mmn)).far (o := 9) (Nat.ne_of_gt (Nat.lt_succ_self _)) (.int .i64 mmx)).far (o := 10) (Nat.ne_of_gt (Nat.lt_succ_self _)) (.bool mh))
 have HO2 := hid ho2
 clear ho2 HO z0 q0 z1 q1 z2 q2
 generalize (((W1.setCell ⟨w.heap.size + 1,8,none⟩ (.int .i64 mmn)).setCell ⟨w.heap.size + 1,9,none⟩ (.int .i64 mmx)).setCell ⟨w.heap.size + 1,10,none⟩ (.bool mh)) = W9 at *
 refine hK.out _ _ hS (fun _ => ?_)
 clear hK K
 try simp only [Act.put,sl2,sl0,sl1]
 refine zt 7 (.bool a) rfl ?_ ?_
 ·(intro W hSw; obtain ⟨x0,x1,x2,x3,x4,x5,x6,x7,x8,x9,x10,x11,x12⟩ := ca13 hSw.2; go_simp; try (with_reducible rfl))
 try simp only [Act.put,sl2,sl0,sl1]
 refine wpAnyH_done (by kernel_rfl) ?_ _
 have HF := hid hS.1
 have HFX := hid hS.2
 obtain ⟨y0,y1,y2,y3,y4,y5,y6,y7,y8,y9,y10,y11,y12⟩ := ca13 hS.2
 obtain ⟨o0,o1,o2,o3,o4,o5,o6,o7,o8,o9,o10,o11,o12⟩ := ca13 HO2.out
 clear hS
 go_wp2_with (first
  | (go_at_call 147; (with_reducible refine (HV1 _).out.mono ?_); rintro e w8 ⟨rfl,hb⟩; have HG := hid (HF.out.trans (hb.mono HF.out.size)); have HGX := hid (HFX.out.below hb HFX.out.lt); have y1 := HGX.out.at (k := 1) (v := .string s2) rfl; clear hb)
  | (go_at_call 147; (with_reducible refine (HV2 _).out.mono ?_); rintro e w9 ⟨rfl,hb⟩; have HH := hid (HG.out.trans (hb.mono HG.out.size)); clear hb))
 all_goals
  go_ret
  first
   | exact ⟨by simp_all [zTB,zLB,zGB],HH.out⟩
   | exact ⟨by simp_all [zTB,zLB,zGB],HG.out⟩
   | exact ⟨by simp_all [zTB,zLB,zGB],HF.out⟩
end Go.Proofs.YtjgeedgphcjhoaaGreat
namespace Go.Proofs.YtjgeedgphcjhoaaGreat
open Go.RowKit
set_option maxHeartbeats 4000000 in
theorem isImport_else (s1 s2 : ByteArray) (kd ty tr tmn tmx : Int) (th : Bool) (mmn mmx : Int) (mh : Bool) (gt : Int) (gm : Bool) (w : World)
  (k0 : kd ≠ 0) (k1 : kd ≠ 1) (k2 : kd ≠ 2) (k3 : kd ≠ 3) :
  Calls Tryz.prog 33 #[.agg #[.string s1,.string s2,.int .i64 kd,.int .i64 ty,.int .i64 tr,.int .i64 tmn,.int .i64 tmx,.bool th,.int .i64 mmn,.int .i64 mmx,.bool mh,.int .i64 gt,.bool gm]] w fun e w' => e = .returned (.bool false) ∧ Below w.heap.size w w' := by
 have hb0 := (Below.refl w.heap.size w).alloc (Nat.le_refl _) (.cells #[.string s1,.string s2,.int .i64 kd,.int .i64 ty,.int .i64 tr,.int .i64 tmn,.int .i64 tmx,.bool th,.int .i64 mmn,.int .i64 mmx,.bool mh,.int .i64 gt,.bool gm] 74)
 have hx0 := CA.new w #[.string s1,.string s2,.int .i64 kd,.int .i64 ty,.int .i64 tr,.int .i64 tmn,.int .i64 tmx,.bool th,.int .i64 mmn,.int .i64 mmx,.bool mh,.int .i64 gt,.bool gm] 74
 obtain ⟨x0,x1,x2,x3,x4,x5,x6,x7,x8,x9,x10,x11,x12⟩ := ca13 hx0
 have HB := hid (hb0.alloc (by rw [size_al]; omega) (.cells #[.string s1,.string s2,.int .i64 kd,.int .i64 0,.int .i64 0,.int .i64 0,.int .i64 0,.bool false,.int .i64 0,.int .i64 0,.bool false,.int .i64 0,.bool false] 74))
 clear hb0 hx0
 go_enter Tryz.func33,Tryz.ntmps33
 go_wp2
 go_ret
 exact ⟨rfl,HB.out⟩
end Go.Proofs.YtjgeedgphcjhoaaGreat
namespace Go.Proofs.YtjgeedgphcjhoaaGreat
open Go.RowKit
def impP (kd ty tr tmn tmx : Int) (th : Bool) (mmn mmx : Int) (mh : Bool) (gt : Int) (gm : Bool) (v : Bool) : Bool :=
 if kd = 0 then idxB ty && (zTB tr tmn tmx th && zLB mmn mmx mh && zGB gt gm) && v
 else if kd = 1 then (refB tr && limB tmn tmx th) && ((ty == 0) && zLB mmn mmx mh && zGB gt gm) && v
 else if kd = 2 then limB mmn mmx mh && ((ty == 0) && zTB tr tmn tmx th && zGB gt gm) && v
 else if kd = 3 then valB gt && ((ty == 0) && zTB tr tmn tmx th && zLB mmn mmx mh) && v
 else false
theorem isImport_says (s1 s2 : ByteArray) (kd ty tr tmn tmx : Int) (th : Bool) (mmn mmx : Int) (mh : Bool) (gt : Int) (gm : Bool) (v1 v2 : Bool) (w : World)
  (h1 : ∀ W,Calls Tryz.prog 147 #[.string s1] W fun e w' => e = .returned (.bool v1) ∧ Below W.heap.size W w') (h2 : ∀ W,Calls Tryz.prog 147 #[.string s2] W fun e w' => e = .returned (.bool v2) ∧ Below W.heap.size W w') :
  Calls Tryz.prog 33 #[.agg #[.string s1,.string s2,.int .i64 kd,.int .i64 ty,.int .i64 tr,.int .i64 tmn,.int .i64 tmx,.bool th,.int .i64 mmn,.int .i64 mmx,.bool mh,.int .i64 gt,.bool gm]] w fun e w' => e = .returned (.bool (impP kd ty tr tmn tmx th mmn mmx mh gt gm (v1 && v2))) ∧ Below w.heap.size w w' := by
 by_cases k0 : kd = 0
 ·subst k0
  refine (isImport_0 s1 s2 ty tr tmn tmx th mmn mmx mh gt gm v1 v2 w h1 h2).mono ?_
  rintro e w' ⟨rfl,hb⟩
  exact ⟨by rw [impP,if_pos rfl,Bool.and_assoc _ v1 v2],hb⟩
 by_cases k1 : kd = 1
 ·subst k1
  refine (isImport_1 s1 s2 ty tr tmn tmx th mmn mmx mh gt gm v1 v2 w h1 h2).mono ?_
  rintro e w' ⟨rfl,hb⟩
  exact ⟨by rw [impP,if_neg (by decide),if_pos rfl,Bool.and_assoc _ v1 v2],hb⟩
 by_cases k2 : kd = 2
 ·subst k2
  refine (isImport_2 s1 s2 ty tr tmn tmx th mmn mmx mh gt gm v1 v2 w h1 h2).mono ?_
  rintro e w' ⟨rfl,hb⟩
  exact ⟨by rw [impP,if_neg (by decide),if_neg (by decide),if_pos rfl,Bool.and_assoc _ v1 v2],hb⟩
 by_cases k3 : kd = 3
 ·subst k3
  refine (isImport_3 s1 s2 ty tr tmn tmx th mmn mmx mh gt gm v1 v2 w h1 h2).mono ?_
  rintro e w' ⟨rfl,hb⟩
  exact ⟨by rw [impP,if_neg (by decide),if_neg (by decide),if_neg (by decide),if_pos rfl,Bool.and_assoc _ v1 v2],hb⟩
 refine (isImport_else s1 s2 kd ty tr tmn tmx th mmn mmx mh gt gm w k0 k1 k2 k3).mono ?_
 rintro e w' ⟨rfl,hb⟩
 exact ⟨by rw [impP,if_neg k0,if_neg k1,if_neg k2,if_neg k3],hb⟩
end Go.Proofs.YtjgeedgphcjhoaaGreat
