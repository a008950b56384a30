/-
  The contracts of the copies of one instruction, one function and one type of functions. Condition: what comes of what is in it.
-/
import Derived.Test.YteianbgampljeaaGreatCop2
import Derived.Test.YteianbgampljeaaGreatCop3
set_option linter.unusedSimpArgs false
set_option linter.unusedVariables false
set_option maxRecDepth 100000
namespace Go.Proofs.YteianbgampljeaaGreat
open Go.RowKit

theorem itself_int (x : Int) (w : World) : Calls Tryz.prog 110 #[.int .i64 x] w fun e w' => e = .returned (.int .i64 x) ∧ w = w' := by
  go_enter Tryz.func110, Tryz.ntmps110
  go_wp2
  go_ret
  exact ⟨rfl, rfl⟩
theorem code_nil (w : World) : Calls Tryz.prog 111 #[.slice none 0 0] w fun e w' => e = .returned (.slice none 0 0) ∧ w = w' := by
  have H := fun W => hid (cop_nil_130 131 W)
  go_enter Tryz.func111, Tryz.ntmps111
  go_wp2_with (go_at_call 130; (with_reducible refine (H _).out.mono ?_); rintro e w1 ⟨rfl, rfl⟩)
  go_ret
  exact ⟨rfl, rfl⟩
theorem setCell_size (w : World) (a : Addr) (v : Value) : (w.setCell a v).heap.size = w.heap.size := by simp [World.setCell]
set_option maxHeartbeats 8000000 in
theorem copI (X : Nat → (Option Addr × Nat × Nat) → World → Prop) (hXm : ∀ s s' q W, s' ≤ s → X s q W → X s' q W) (hXs : ∀ s q W r j v, r < s → X s q W → X s q (W.setCell ⟨r, j, none⟩ v)) (op : Int) (a : Int) (b : Int) (nn : Nat) (hh : Nat) (p : Option Addr) (n c : Nat) (ot : Bool) (w : World)
    (hP : ∀ W, Below w.heap.size w W → Calls Tryz.prog 111 #[.slice p n c] W fun e w' => ∃ q, e = .returned (.slice q.1 q.2.1 q.2.2) ∧ X W.heap.size q w' ∧ Below W.heap.size W w') :
    Calls Tryz.prog 131 #[.agg #[.int .i64 op, .int .i64 a, .int .i64 b, .int .u64 (nn : Nat), .int .u64 (hh : Nat), .slice none 0 0, .slice p n c, .slice none 0 0, .bool ot]] w fun e w' => ∃ q, e = .returned (.agg #[.int .i64 op, .int .i64 a, .int .i64 b, .int .u64 (nn : Nat), .int .u64 (hh : Nat), .slice none 0 0, .slice q.1 q.2.1 q.2.2, .slice none 0 0, .bool ot]) ∧ X w.heap.size q w' ∧ Below w.heap.size w w' := by
  have HM := hid hXm
  have HSS := hid hXs
  have HNI := fun W => hid (cop_nil_109 110 W)
  have HNC := fun W => hid (code_nil W)
  have HB0 := hid (((Below.refl w.heap.size w).alloc (Nat.le_refl _) (.cells #[.int .i64 op, .int .i64 a, .int .i64 b, .int .u64 (nn : Nat), .int .u64 (hh : Nat), .slice none 0 0, .slice p n c, .slice none 0 0, .bool ot] 39)).alloc (by rw [size_al]; omega) (.cells #[.int .i64 0, .int .i64 0, .int .i64 0, .int .u64 0, .int .u64 0, .slice none 0 0, .slice none 0 0, .slice none 0 0, .bool false] 39))
  have HX0 := hid (CA.alloc (CA.new w #[.int .i64 op, .int .i64 a, .int .i64 b, .int .u64 (nn : Nat), .int .u64 (hh : Nat), .slice none 0 0, .slice p n c, .slice none 0 0, .bool ot] 39) (.cells #[.int .i64 0, .int .i64 0, .int .i64 0, .int .u64 0, .int .u64 0, .slice none 0 0, .slice none 0 0, .slice none 0 0, .bool false] 39))
  have HZ0 := hid (CA.new (w.alloc (.cells #[.int .i64 op, .int .i64 a, .int .i64 b, .int .u64 (nn : Nat), .int .u64 (hh : Nat), .slice none 0 0, .slice p n c, .slice none 0 0, .bool ot] 39)) #[.int .i64 0, .int .i64 0, .int .i64 0, .int .u64 0, .int .u64 0, .slice none 0 0, .slice none 0 0, .slice none 0 0, .bool false] 39)
  rw [size_al] at HZ0
  have HPW := hP ((w.alloc (.cells #[.int .i64 op, .int .i64 a, .int .i64 b, .int .u64 (nn : Nat), .int .u64 (hh : Nat), .slice none 0 0, .slice p n c, .slice none 0 0, .bool ot] 39)).alloc (.cells #[.int .i64 0, .int .i64 0, .int .i64 0, .int .u64 0, .int .u64 0, .slice none 0 0, .slice none 0 0, .slice none 0 0, .bool false] 39)) HB0.out
  have hsz : ((w.alloc (.cells #[.int .i64 op, .int .i64 a, .int .i64 b, .int .u64 (nn : Nat), .int .u64 (hh : Nat), .slice none 0 0, .slice p n c, .slice none 0 0, .bool ot] 39)).alloc (.cells #[.int .i64 0, .int .i64 0, .int .i64 0, .int .u64 0, .int .u64 0, .slice none 0 0, .slice none 0 0, .slice none 0 0, .bool false] 39)).heap.size = w.heap.size + 2 := by rw [size_al, size_al]
  rw [hsz] at HPW
  have HPX := hid HPW
  have HSZ := hid hsz
  clear hP HPW hXm hXs hsz
  go_enter Tryz.func131, Tryz.ntmps131
  go_upto_region 3 with (first
    | (go_at_call 111; (with_reducible refine HPX.out.mono ?_); rintro e w2 ⟨⟨qa, qb, qc⟩, rfl, hx2, hb2⟩; have HX2 := hid (HX0.out.below hb2 (by rw [← HSZ.out]; exact HX0.out.lt)); have HZ2 := hid (HZ0.out.below hb2 (by omega)); have HB2 := hid (HB0.out.trans (hb2.mono (by omega))); have HXX := hid hx2; have y0 := HX2.out.at (k := 0) (v := .int .i64 op) rfl; have y1 := HX2.out.at (k := 1) (v := .int .i64 a) rfl; have y2 := HX2.out.at (k := 2) (v := .int .i64 b) rfl; have y3 := HX2.out.at (k := 3) (v := .int .u64 (nn : Nat)) rfl; have y4 := HX2.out.at (k := 4) (v := .int .u64 (hh : Nat)) rfl; have y5 := HX2.out.at (k := 5) (v := .slice none 0 0) rfl; have y6 := HX2.out.at (k := 6) (v := .slice p n c) rfl; have y7 := HX2.out.at (k := 7) (v := .slice none 0 0) rfl; have y8 := HX2.out.at (k := 8) (v := .bool ot) rfl; have f6 := HX2.out.free 6; clear hx2 hb2)
    | (go_at_call 109; (with_reducible refine (HNI _).out.mono ?_); rintro e w9 ⟨rfl, rfl⟩)
    | (go_at_call 111; (with_reducible refine (HNC _).out.mono ?_); rintro e w9 ⟨rfl, rfl⟩))
  have HX3 := hid (HX2.out.set (k := 6) (.slice qa qb qc))
  have HZ3 : Hid (CA (w.heap.size + 1) #[.int .i64 0, .int .i64 0, .int .i64 0, .int .u64 0, .int .u64 0, .slice none 0 0, .slice none 0 0, .slice none 0 0, .bool false] 39 (w2.setCell ⟨w.heap.size, 6, none⟩ (.slice qa qb qc))) := by
    have := HZ2.out
    unfold CA at this ⊢
    rw [World.setCell, Array.getElem?_modify, if_neg (by show ¬ w.heap.size = w.heap.size + 1; omega)]
    exact this
  have HB3 := hid (HB2.out.setCell (p := ⟨w.heap.size, 6, none⟩) (Nat.le_refl _) (.slice qa qb qc))
  have HXY := hid (HSS.out (w.heap.size + 2) (qa, qb, qc) _ w.heap.size 6 (.slice qa qb qc) (by omega) HXX.out)
  clear y0 y1 y2 y3 y4 y5 y6 y7 y8 f6
  generalize w2.setCell ⟨w.heap.size, 6, none⟩ (.slice qa qb qc) = W3 at *
  have x0 := HX3.out.at (k := 0) (v := .int .i64 op) rfl
  have x1 := HX3.out.at (k := 1) (v := .int .i64 a) rfl
  have x2 := HX3.out.at (k := 2) (v := .int .i64 b) rfl
  have x3 := HX3.out.at (k := 3) (v := .int .u64 (nn : Nat)) rfl
  have x4 := HX3.out.at (k := 4) (v := .int .u64 (hh : Nat)) rfl
  have x5 := HX3.out.at (k := 5) (v := .slice none 0 0) rfl
  have x6 := HX3.out.at (k := 6) (v := .slice qa qb qc) rfl
  have x7 := HX3.out.at (k := 7) (v := .slice none 0 0) rfl
  have x8 := HX3.out.at (k := 8) (v := .bool ot) rfl
  have fx := HX3.out.free 7
  go_upto_region 4 with (first
    | (go_at_call 109; (with_reducible refine (HNI _).out.mono ?_); rintro e w9 ⟨rfl, rfl⟩)
    | (go_at_call 111; (with_reducible refine (HNC _).out.mono ?_); rintro e w9 ⟨rfl, rfl⟩))
  have HX4 := hid (HX3.out.set (k := 7) (.slice none 0 0))
  have HZ4 : Hid (CA (w.heap.size + 1) #[.int .i64 0, .int .i64 0, .int .i64 0, .int .u64 0, .int .u64 0, .slice none 0 0, .slice none 0 0, .slice none 0 0, .bool false] 39 (W3.setCell ⟨w.heap.size, 7, none⟩ (.slice none 0 0))) := by
    have := HZ3.out
    unfold CA at this ⊢
    rw [World.setCell, Array.getElem?_modify, if_neg (by show ¬ w.heap.size = w.heap.size + 1; omega)]
    exact this
  have HB4 := hid (HB3.out.setCell (p := ⟨w.heap.size, 7, none⟩) (Nat.le_refl _) (.slice none 0 0))
  have HXZ := hid (HSS.out (w.heap.size + 2) (qa, qb, qc) _ w.heap.size 7 (.slice none 0 0) (by omega) HXY.out)
  clear x0 x1 x2 x3 x4 x5 x6 x7 x8 fx
  generalize W3.setCell ⟨w.heap.size, 7, none⟩ (.slice none 0 0) = W4 at *
  have x0 := HX4.out.at (k := 0) (v := .int .i64 op) rfl
  have x1 := HX4.out.at (k := 1) (v := .int .i64 a) rfl
  have x2 := HX4.out.at (k := 2) (v := .int .i64 b) rfl
  have x3 := HX4.out.at (k := 3) (v := .int .u64 (nn : Nat)) rfl
  have x4 := HX4.out.at (k := 4) (v := .int .u64 (hh : Nat)) rfl
  have x5 := HX4.out.at (k := 5) (v := .slice none 0 0) rfl
  have x6 := HX4.out.at (k := 6) (v := .slice qa qb qc) rfl
  have x7 := HX4.out.at (k := 7) (v := .slice none 0 0) rfl
  have x8 := HX4.out.at (k := 8) (v := .bool ot) rfl
  have z0 := HZ4.out.at (k := 0) (v := .int .i64 0) rfl
  have f0 := HZ4.out.free 0
  have z1 := HZ4.out.at (k := 1) (v := .int .i64 0) rfl
  have f1 := HZ4.out.free 1
  have z2 := HZ4.out.at (k := 2) (v := .int .i64 0) rfl
  have f2 := HZ4.out.free 2
  have z3 := HZ4.out.at (k := 3) (v := .int .u64 0) rfl
  have f3 := HZ4.out.free 3
  have z4 := HZ4.out.at (k := 4) (v := .int .u64 0) rfl
  have f4 := HZ4.out.free 4
  have z5 := HZ4.out.at (k := 5) (v := .slice none 0 0) rfl
  have f5 := HZ4.out.free 5
  have z6 := HZ4.out.at (k := 6) (v := .slice none 0 0) rfl
  have f6 := HZ4.out.free 6
  have z7 := HZ4.out.at (k := 7) (v := .slice none 0 0) rfl
  have f7 := HZ4.out.free 7
  have z8 := HZ4.out.at (k := 8) (v := .bool false) rfl
  have f8 := HZ4.out.free 8
  go_wp2
  obtain ⟨r0, r1, r2, r3, r4, r5, r6, r7, r8⟩ := cells_9 W4 (w.heap.size + 1) #[.int .i64 0, .int .i64 0, .int .i64 0, .int .u64 0, .int .u64 0, .slice none 0 0, .slice none 0 0, .slice none 0 0, .bool false] 39 (.int .i64 op) (.int .i64 a) (.int .i64 b) (.int .u64 (nn : Nat)) (.int .u64 (hh : Nat)) (.slice none 0 0) (.slice qa qb qc) (.slice none 0 0) (.bool ot) HZ4.out rfl
  exact bodyPost_ret (v := .agg #[.int .i64 op, .int .i64 a, .int .i64 b, .int .u64 (nn : Nat), .int .u64 (hh : Nat), .slice none 0 0, .slice qa qb qc, .slice none 0 0, .bool ot]) (by simp [results, Tryz.results131, go_sem, r0, r1, r2, r3, r4, r5, r6, r7, r8]) rfl ⟨(qa, qb, qc), rfl, HM.out _ _ _ _ (by omega) (HSS.out (w.heap.size + 2) (qa, qb, qc) _ (w.heap.size + 1) 8 (.bool ot) (by omega) (HSS.out (w.heap.size + 2) (qa, qb, qc) _ (w.heap.size + 1) 7 (.slice none 0 0) (by omega) (HSS.out (w.heap.size + 2) (qa, qb, qc) _ (w.heap.size + 1) 6 (.slice qa qb qc) (by omega) (HSS.out (w.heap.size + 2) (qa, qb, qc) _ (w.heap.size + 1) 5 (.slice none 0 0) (by omega) (HSS.out (w.heap.size + 2) (qa, qb, qc) _ (w.heap.size + 1) 4 (.int .u64 (hh : Nat)) (by omega) (HSS.out (w.heap.size + 2) (qa, qb, qc) _ (w.heap.size + 1) 3 (.int .u64 (nn : Nat)) (by omega) (HSS.out (w.heap.size + 2) (qa, qb, qc) _ (w.heap.size + 1) 2 (.int .i64 b) (by omega) (HSS.out (w.heap.size + 2) (qa, qb, qc) _ (w.heap.size + 1) 1 (.int .i64 a) (by omega) (HSS.out (w.heap.size + 2) (qa, qb, qc) _ (w.heap.size + 1) 0 (.int .i64 op) (by omega) HXZ.out))))))))), (((((((((HB4.out.setCell (p := ⟨w.heap.size + 1, 0, none⟩) (by simp) (.int .i64 op)).setCell (p := ⟨w.heap.size + 1, 1, none⟩) (by simp) (.int .i64 a)).setCell (p := ⟨w.heap.size + 1, 2, none⟩) (by simp) (.int .i64 b)).setCell (p := ⟨w.heap.size + 1, 3, none⟩) (by simp) (.int .u64 (nn : Nat))).setCell (p := ⟨w.heap.size + 1, 4, none⟩) (by simp) (.int .u64 (hh : Nat))).setCell (p := ⟨w.heap.size + 1, 5, none⟩) (by simp) (.slice none 0 0)).setCell (p := ⟨w.heap.size + 1, 6, none⟩) (by simp) (.slice qa qb qc)).setCell (p := ⟨w.heap.size + 1, 7, none⟩) (by simp) (.slice none 0 0)).setCell (p := ⟨w.heap.size + 1, 8, none⟩) (by simp) (.bool ot))⟩
set_option maxHeartbeats 8000000 in
theorem copF (X : Nat → (Option Addr × Nat × Nat) → World → Prop) (hXm : ∀ s s' q W, s' ≤ s → X s q W → X s' q W) (hXs : ∀ s q W r j v, r < s → X s q W → X s q (W.setCell ⟨r, j, none⟩ v)) (t : Int) (p : Option Addr) (n c : Nat) (w : World)
    (hP : ∀ W, Below w.heap.size w W → Calls Tryz.prog 111 #[.slice p n c] W fun e w' => ∃ q, e = .returned (.slice q.1 q.2.1 q.2.2) ∧ X W.heap.size q w' ∧ Below W.heap.size W w') :
    Calls Tryz.prog 61 #[.agg #[.int .i64 t, .slice none 0 0, .slice p n c]] w fun e w' => ∃ q, e = .returned (.agg #[.int .i64 t, .slice none 0 0, .slice q.1 q.2.1 q.2.2]) ∧ X w.heap.size q w' ∧ Below w.heap.size w w' := by
  have HM := hid hXm
  have HSS := hid hXs
  have HNI := fun W => hid (cop_nil_109 110 W)
  have HNC := fun W => hid (code_nil W)
  have HB0 := hid (((Below.refl w.heap.size w).alloc (Nat.le_refl _) (.cells #[.int .i64 t, .slice none 0 0, .slice p n c] 42)).alloc (by rw [size_al]; omega) (.cells #[.int .i64 0, .slice none 0 0, .slice none 0 0] 42))
  have HX0 := hid (CA.alloc (CA.new w #[.int .i64 t, .slice none 0 0, .slice p n c] 42) (.cells #[.int .i64 0, .slice none 0 0, .slice none 0 0] 42))
  have HZ0 := hid (CA.new (w.alloc (.cells #[.int .i64 t, .slice none 0 0, .slice p n c] 42)) #[.int .i64 0, .slice none 0 0, .slice none 0 0] 42)
  rw [size_al] at HZ0
  have HPW := hP ((w.alloc (.cells #[.int .i64 t, .slice none 0 0, .slice p n c] 42)).alloc (.cells #[.int .i64 0, .slice none 0 0, .slice none 0 0] 42)) HB0.out
  have hsz : ((w.alloc (.cells #[.int .i64 t, .slice none 0 0, .slice p n c] 42)).alloc (.cells #[.int .i64 0, .slice none 0 0, .slice none 0 0] 42)).heap.size = w.heap.size + 2 := by rw [size_al, size_al]
  rw [hsz] at HPW
  have HPX := hid HPW
  have HSZ := hid hsz
  clear hP HPW hXm hXs hsz
  go_enter Tryz.func61, Tryz.ntmps61
  go_upto_region 3 with (first
    | (go_at_call 111; (with_reducible refine HPX.out.mono ?_); rintro e w2 ⟨⟨qa, qb, qc⟩, rfl, hx2, hb2⟩; have HX2 := hid (HX0.out.below hb2 (by rw [← HSZ.out]; exact HX0.out.lt)); have HZ2 := hid (HZ0.out.below hb2 (by omega)); have HB2 := hid (HB0.out.trans (hb2.mono (by omega))); have HXX := hid hx2; have y0 := HX2.out.at (k := 0) (v := .int .i64 t) rfl; have y1 := HX2.out.at (k := 1) (v := .slice none 0 0) rfl; have y2 := HX2.out.at (k := 2) (v := .slice p n c) rfl; have f2 := HX2.out.free 2; clear hx2 hb2)
    | (go_at_call 109; (with_reducible refine (HNI _).out.mono ?_); rintro e w9 ⟨rfl, rfl⟩))
  have HX3 := hid (HX2.out.set (k := 2) (.slice qa qb qc))
  have HZ3 : Hid (CA (w.heap.size + 1) #[.int .i64 0, .slice none 0 0, .slice none 0 0] 42 (w2.setCell ⟨w.heap.size, 2, none⟩ (.slice qa qb qc))) := by
    have := HZ2.out
    unfold CA at this ⊢
    rw [World.setCell, Array.getElem?_modify, if_neg (by show ¬ w.heap.size = w.heap.size + 1; omega)]
    exact this
  have HB3 := hid (HB2.out.setCell (p := ⟨w.heap.size, 2, none⟩) (Nat.le_refl _) (.slice qa qb qc))
  have HXY := hid (HSS.out (w.heap.size + 2) (qa, qb, qc) _ w.heap.size 2 (.slice qa qb qc) (by omega) HXX.out)
  clear y0 y1 y2 f2
  generalize w2.setCell ⟨w.heap.size, 2, none⟩ (.slice qa qb qc) = W3 at *
  have x0 := HX3.out.at (k := 0) (v := .int .i64 t) rfl
  have x1 := HX3.out.at (k := 1) (v := .slice none 0 0) rfl
  have x2 := HX3.out.at (k := 2) (v := .slice qa qb qc) rfl
  have z0 := HZ3.out.at (k := 0) (v := .int .i64 0) rfl
  have f0 := HZ3.out.free 0
  have z1 := HZ3.out.at (k := 1) (v := .slice none 0 0) rfl
  have f1 := HZ3.out.free 1
  have z2 := HZ3.out.at (k := 2) (v := .slice none 0 0) rfl
  have f2 := HZ3.out.free 2
  go_wp2
  obtain ⟨r0, r1, r2⟩ := cells_3 W3 (w.heap.size + 1) #[.int .i64 0, .slice none 0 0, .slice none 0 0] 42 (.int .i64 t) (.slice none 0 0) (.slice qa qb qc) HZ3.out rfl
  exact bodyPost_ret (v := .agg #[.int .i64 t, .slice none 0 0, .slice qa qb qc]) (by simp [results, Tryz.results61, go_sem, r0, r1, r2]) rfl ⟨(qa, qb, qc), rfl, HM.out _ _ _ _ (by omega) (HSS.out (w.heap.size + 2) (qa, qb, qc) _ (w.heap.size + 1) 2 (.slice qa qb qc) (by omega) (HSS.out (w.heap.size + 2) (qa, qb, qc) _ (w.heap.size + 1) 1 (.slice none 0 0) (by omega) (HSS.out (w.heap.size + 2) (qa, qb, qc) _ (w.heap.size + 1) 0 (.int .i64 t) (by omega) HXY.out))), (((HB3.out.setCell (p := ⟨w.heap.size + 1, 0, none⟩) (by simp) (.int .i64 t)).setCell (p := ⟨w.heap.size + 1, 1, none⟩) (by simp) (.slice none 0 0)).setCell (p := ⟨w.heap.size + 1, 2, none⟩) (by simp) (.slice qa qb qc))⟩
set_option maxHeartbeats 8000000 in
theorem copT (X : Nat → (Option Addr × Nat × Nat) → World → Prop) (hXm : ∀ s s' q W, s' ≤ s → X s q W → X s' q W) (hXs : ∀ s q W r j v, r < s → X s q W → X s q (W.setCell ⟨r, j, none⟩ v)) (p : Option Addr) (n c : Nat) (w : World)
    (hP : ∀ W, Below w.heap.size w W → Calls Tryz.prog 109 #[.slice p n c, .func (.func 110) #[] #[]] W fun e w' => ∃ q, e = .returned (.slice q.1 q.2.1 q.2.2) ∧ X W.heap.size q w' ∧ Below W.heap.size W w') :
    Calls Tryz.prog 57 #[.agg #[.slice p n c, .slice none 0 0]] w fun e w' => ∃ q, e = .returned (.agg #[.slice q.1 q.2.1 q.2.2, .slice none 0 0]) ∧ X w.heap.size q w' ∧ Below w.heap.size w w' := by
  have HM := hid hXm
  have HSS := hid hXs
  have HNI := fun W => hid (cop_nil_109 110 W)
  have HNC := fun W => hid (code_nil W)
  have HB0 := hid (((Below.refl w.heap.size w).alloc (Nat.le_refl _) (.cells #[.slice p n c, .slice none 0 0] 56)).alloc (by rw [size_al]; omega) (.cells #[.slice none 0 0, .slice none 0 0] 56))
  have HX0 := hid (CA.alloc (CA.new w #[.slice p n c, .slice none 0 0] 56) (.cells #[.slice none 0 0, .slice none 0 0] 56))
  have HZ0 := hid (CA.new (w.alloc (.cells #[.slice p n c, .slice none 0 0] 56)) #[.slice none 0 0, .slice none 0 0] 56)
  rw [size_al] at HZ0
  have HPW := hP ((w.alloc (.cells #[.slice p n c, .slice none 0 0] 56)).alloc (.cells #[.slice none 0 0, .slice none 0 0] 56)) HB0.out
  have hsz : ((w.alloc (.cells #[.slice p n c, .slice none 0 0] 56)).alloc (.cells #[.slice none 0 0, .slice none 0 0] 56)).heap.size = w.heap.size + 2 := by rw [size_al, size_al]
  rw [hsz] at HPW
  have HPX := hid HPW
  have HSZ := hid hsz
  clear hP HPW hXm hXs hsz
  go_enter Tryz.func57, Tryz.ntmps57
  go_upto_region 2 with (first
    | (go_at_call 109; (with_reducible refine HPX.out.mono ?_); rintro e w2 ⟨⟨qa, qb, qc⟩, rfl, hx2, hb2⟩; have HX2 := hid (HX0.out.below hb2 (by rw [← HSZ.out]; exact HX0.out.lt)); have HZ2 := hid (HZ0.out.below hb2 (by omega)); have HB2 := hid (HB0.out.trans (hb2.mono (by omega))); have HXX := hid hx2; have y0 := HX2.out.at (k := 0) (v := .slice p n c) rfl; have y1 := HX2.out.at (k := 1) (v := .slice none 0 0) rfl; have f0 := HX2.out.free 0; clear hx2 hb2)
    | (go_at_call 109; (with_reducible refine (HNI _).out.mono ?_); rintro e w9 ⟨rfl, rfl⟩))
  have HX3 := hid (HX2.out.set (k := 0) (.slice qa qb qc))
  have HZ3 : Hid (CA (w.heap.size + 1) #[.slice none 0 0, .slice none 0 0] 56 (w2.setCell ⟨w.heap.size, 0, none⟩ (.slice qa qb qc))) := by
    have := HZ2.out
    unfold CA at this ⊢
    rw [World.setCell, Array.getElem?_modify, if_neg (by show ¬ w.heap.size = w.heap.size + 1; omega)]
    exact this
  have HB3 := hid (HB2.out.setCell (p := ⟨w.heap.size, 0, none⟩) (Nat.le_refl _) (.slice qa qb qc))
  have HXY := hid (HSS.out (w.heap.size + 2) (qa, qb, qc) _ w.heap.size 0 (.slice qa qb qc) (by omega) HXX.out)
  clear y0 y1 f0
  generalize w2.setCell ⟨w.heap.size, 0, none⟩ (.slice qa qb qc) = W3 at *
  have x0 := HX3.out.at (k := 0) (v := .slice qa qb qc) rfl
  have x1 := HX3.out.at (k := 1) (v := .slice none 0 0) rfl
  have fx := HX3.out.free 1
  go_upto_region 3 with (first
    | (go_at_call 109; (with_reducible refine (HNI _).out.mono ?_); rintro e w9 ⟨rfl, rfl⟩))
  have HX4 := hid (HX3.out.set (k := 1) (.slice none 0 0))
  have HZ4 : Hid (CA (w.heap.size + 1) #[.slice none 0 0, .slice none 0 0] 56 (W3.setCell ⟨w.heap.size, 1, none⟩ (.slice none 0 0))) := by
    have := HZ3.out
    unfold CA at this ⊢
    rw [World.setCell, Array.getElem?_modify, if_neg (by show ¬ w.heap.size = w.heap.size + 1; omega)]
    exact this
  have HB4 := hid (HB3.out.setCell (p := ⟨w.heap.size, 1, none⟩) (Nat.le_refl _) (.slice none 0 0))
  have HXZ := hid (HSS.out (w.heap.size + 2) (qa, qb, qc) _ w.heap.size 1 (.slice none 0 0) (by omega) HXY.out)
  clear x0 x1 fx
  generalize W3.setCell ⟨w.heap.size, 1, none⟩ (.slice none 0 0) = W4 at *
  have x0 := HX4.out.at (k := 0) (v := .slice qa qb qc) rfl
  have x1 := HX4.out.at (k := 1) (v := .slice none 0 0) rfl
  have z0 := HZ4.out.at (k := 0) (v := .slice none 0 0) rfl
  have f0 := HZ4.out.free 0
  have z1 := HZ4.out.at (k := 1) (v := .slice none 0 0) rfl
  have f1 := HZ4.out.free 1
  go_wp2
  obtain ⟨r0, r1⟩ := cells_2 W4 (w.heap.size + 1) #[.slice none 0 0, .slice none 0 0] 56 (.slice qa qb qc) (.slice none 0 0) HZ4.out rfl
  exact bodyPost_ret (v := .agg #[.slice qa qb qc, .slice none 0 0]) (by simp [results, Tryz.results57, go_sem, r0, r1]) rfl ⟨(qa, qb, qc), rfl, HM.out _ _ _ _ (by omega) (HSS.out (w.heap.size + 2) (qa, qb, qc) _ (w.heap.size + 1) 1 (.slice none 0 0) (by omega) (HSS.out (w.heap.size + 2) (qa, qb, qc) _ (w.heap.size + 1) 0 (.slice qa qb qc) (by omega) HXZ.out)), ((HB4.out.setCell (p := ⟨w.heap.size + 1, 0, none⟩) (by simp) (.slice qa qb qc)).setCell (p := ⟨w.heap.size + 1, 1, none⟩) (by simp) (.slice none 0 0))⟩
end Go.Proofs.YteianbgampljeaaGreat
