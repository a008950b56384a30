/-
  The contracts of sameFuncType, sameFunc, sameInstr, sameCode and of Same, of modules with nothing but types and functions. Condition: what comes of their lists.
-/
import Derived.Test.YteianbgampljeaaGreatSame1
import Derived.Test.YteianbgampljeaaGreatSame2
set_option linter.unusedSimpArgs false
set_option linter.unusedVariables false
set_option maxRecDepth 100000
namespace Go.Proofs.YteianbgampljeaaGreat
open Go.RowKit

theorem eq_nil_115 (w : World) : Calls Tryz.prog 115 #[.slice none 0 0, .slice none 0 0] w fun e w' => e = .returned (.bool true) ∧ w = w' := by
  go_enter Tryz.func115, Tryz.ntmps115
  go_wp2
  go_loop [13] (fun vi => vi = .int .i64 0) (fun _ => 0)
  case atStart => rfl
  case round =>
    subst hrel
    go_wp2
    go_ret
    exact ⟨rfl, rfl⟩
theorem sameCode_nil (w : World) : Calls Tryz.prog 116 #[.slice none 0 0, .slice none 0 0] w fun e w' => e = .returned (.bool true) ∧ w = w' := by
  have H := fun W => hid (eqf_nil_132 133 W)
  go_enter Tryz.func116, Tryz.ntmps116
  go_wp2_with (go_at_call 132; (with_reducible refine (H _).out.mono ?_); rintro e w1 ⟨rfl, rfl⟩)
  go_ret
  exact ⟨rfl, rfl⟩
theorem sameCode_of (v1 v2 : Value) (r : Bool) (w : World) (h : Calls Tryz.prog 132 #[v1, v2, .func (.func 133) #[] #[]] w fun e w' => e = .returned (.bool r) ∧ Below w.heap.size w w') :
    Calls Tryz.prog 116 #[v1, v2] w fun e w' => e = .returned (.bool r) ∧ Below w.heap.size w w' := by
  have H := hid h
  clear h
  go_enter Tryz.func116, Tryz.ntmps116
  go_wp2_with (go_at_call 132; (with_reducible refine H.out.mono ?_); rintro e w1 ⟨rfl, hb⟩)
  go_ret
  exact ⟨rfl, hb⟩
set_option maxHeartbeats 4000000 in
theorem sameI (op : Int) (p1 p2 : Option Addr) (n1 c1 n2 c2 : Nat) (r : Bool) (w : World) (hP : ∀ W, Below w.heap.size w W → Calls Tryz.prog 116 #[.slice p1 n1 c1, .slice p2 n2 c2] W fun e w' => e = .returned (.bool r) ∧ Below W.heap.size W w') :
    Calls Tryz.prog 133 #[.agg #[.int .i64 op, .int .i64 0, .int .i64 0, .int .u64 0, .int .u64 0, .slice none 0 0, .slice p1 n1 c1, .slice none 0 0, .bool false], .agg #[.int .i64 op, .int .i64 0, .int .i64 0, .int .u64 0, .int .u64 0, .slice none 0 0, .slice p2 n2 c2, .slice none 0 0, .bool false]] w fun e w' => e = .returned (.bool r) ∧ Below w.heap.size w w' := by
  have HP := fun W h => hid (hP W h)
  have HE := fun W => hid (eq_nil_115 W)
  have HN := fun W => hid (sameCode_nil W)
  have d0 : (op == op) = true := by simp
  have HB0 := hid (((Below.refl w.heap.size w).alloc (Nat.le_refl _) (.cells #[.int .i64 op, .int .i64 0, .int .i64 0, .int .u64 0, .int .u64 0, .slice none 0 0, .slice p1 n1 c1, .slice none 0 0, .bool false] 39)).alloc (by rw [size_al]; omega) (.cells #[.int .i64 op, .int .i64 0, .int .i64 0, .int .u64 0, .int .u64 0, .slice none 0 0, .slice p2 n2 c2, .slice none 0 0, .bool false] 39))
  have HX0 := hid (CA.alloc (CA.new w #[.int .i64 op, .int .i64 0, .int .i64 0, .int .u64 0, .int .u64 0, .slice none 0 0, .slice p1 n1 c1, .slice none 0 0, .bool false] 39) (.cells #[.int .i64 op, .int .i64 0, .int .i64 0, .int .u64 0, .int .u64 0, .slice none 0 0, .slice p2 n2 c2, .slice none 0 0, .bool false] 39))
  have HY0 := hid (CA.new (w.alloc (.cells #[.int .i64 op, .int .i64 0, .int .i64 0, .int .u64 0, .int .u64 0, .slice none 0 0, .slice p1 n1 c1, .slice none 0 0, .bool false] 39)) #[.int .i64 op, .int .i64 0, .int .i64 0, .int .u64 0, .int .u64 0, .slice none 0 0, .slice p2 n2 c2, .slice none 0 0, .bool false] 39)
  rw [size_al] at HY0
  clear hP
  cases r
  all_goals
    go_enter Tryz.func133, Tryz.ntmps133
    go_wp2_with (first
      | (go_at_call 115; (with_reducible refine (HE _).out.mono ?_); rintro e w1 ⟨rfl, rfl⟩)
      | (go_at_call 116; (with_reducible refine (HP _ HB0.out).out.mono ?_); rintro e w2 ⟨rfl, hb2⟩; have HB2 := hid (HB0.out.trans (hb2.mono HB0.out.size)); have HX2 := hid (HX0.out.below hb2 HX0.out.lt); have HY2 := hid (HY0.out.below hb2 (by simp only [size_al]; omega)); have x2_7 := HX2.out.at (k := 7) (v := .slice none 0 0) rfl; have y2_7 := HY2.out.at (k := 7) (v := .slice none 0 0) rfl; clear hb2)
      | (go_at_call 116; (with_reducible refine (HN _).out.mono ?_); rintro e w3 ⟨rfl, rfl⟩))
    go_ret
    exact ⟨rfl, HB2.out⟩
theorem sameF (p1 p2 : Option Addr) (n1 c1 n2 c2 : Nat) (r : Bool) (w : World) (hP : ∀ W, Below w.heap.size w W → Calls Tryz.prog 116 #[.slice p1 n1 c1, .slice p2 n2 c2] W fun e w' => e = .returned (.bool r) ∧ Below W.heap.size W w') :
    Calls Tryz.prog 78 #[.agg #[.int .i64 0, .slice none 0 0, .slice p1 n1 c1], .agg #[.int .i64 0, .slice none 0 0, .slice p2 n2 c2]] w fun e w' => e = .returned (.bool r) ∧ Below w.heap.size w w' := by
  have HP := fun W h => hid (hP W h)
  have HE := fun W => hid (eq_nil_115 W)
  have HB0 := hid (((Below.refl w.heap.size w).alloc (Nat.le_refl _) (.cells #[.int .i64 0, .slice none 0 0, .slice p1 n1 c1] 42)).alloc (by rw [size_al]; omega) (.cells #[.int .i64 0, .slice none 0 0, .slice p2 n2 c2] 42))
  have HX0 := hid (CA.alloc (CA.new w #[.int .i64 0, .slice none 0 0, .slice p1 n1 c1] 42) (.cells #[.int .i64 0, .slice none 0 0, .slice p2 n2 c2] 42))
  have HY0 := hid (CA.new (w.alloc (.cells #[.int .i64 0, .slice none 0 0, .slice p1 n1 c1] 42)) #[.int .i64 0, .slice none 0 0, .slice p2 n2 c2] 42)
  rw [size_al] at HY0
  clear hP
  go_enter Tryz.func78, Tryz.ntmps78
  go_wp2_with (first
    | (go_at_call 115; (with_reducible refine (HE _).out.mono ?_); rintro e w1 ⟨rfl, rfl⟩)
    | (go_at_call 116; (with_reducible refine (HP _ HB0.out).out.mono ?_); rintro e w2 ⟨rfl, hb2⟩; have HB2 := hid (HB0.out.trans (hb2.mono HB0.out.size)); clear hb2))
  go_ret
  exact ⟨by simp, HB2.out⟩
theorem sameT (p1 p2 : Option Addr) (n1 c1 n2 c2 : Nat) (r : Bool) (w : World) (hP : ∀ W, Below w.heap.size w W → Calls Tryz.prog 115 #[.slice p1 n1 c1, .slice p2 n2 c2] W fun e w' => e = .returned (.bool r) ∧ Below W.heap.size W w') :
    Calls Tryz.prog 75 #[.agg #[.slice p1 n1 c1, .slice none 0 0], .agg #[.slice p2 n2 c2, .slice none 0 0]] w fun e w' => e = .returned (.bool r) ∧ Below w.heap.size w w' := by
  have HP := fun W h => hid (hP W h)
  have HE := fun W => hid (eq_nil_115 W)
  have HB0 := hid (((Below.refl w.heap.size w).alloc (Nat.le_refl _) (.cells #[.slice p1 n1 c1, .slice none 0 0] 56)).alloc (by rw [size_al]; omega) (.cells #[.slice p2 n2 c2, .slice none 0 0] 56))
  have HX0 := hid (CA.alloc (CA.new w #[.slice p1 n1 c1, .slice none 0 0] 56) (.cells #[.slice p2 n2 c2, .slice none 0 0] 56))
  have HY0 := hid (CA.new (w.alloc (.cells #[.slice p1 n1 c1, .slice none 0 0] 56)) #[.slice p2 n2 c2, .slice none 0 0] 56)
  rw [size_al] at HY0
  clear hP
  cases r
  all_goals
    go_enter Tryz.func75, Tryz.ntmps75
    go_wp2_with (first
      | (go_at_call 115; (with_reducible refine (HP _ HB0.out).out.mono ?_); rintro e w2 ⟨rfl, hb2⟩; have HB2 := hid (HB0.out.trans (hb2.mono HB0.out.size)); have HX2 := hid (HX0.out.below hb2 HX0.out.lt); have HY2 := hid (HY0.out.below hb2 (by simp only [size_al]; omega)); have x2_1 := HX2.out.at (k := 1) (v := .slice none 0 0) rfl; have y2_1 := HY2.out.at (k := 1) (v := .slice none 0 0) rfl; clear hb2)
      | (go_at_call 115; (with_reducible refine (HE _).out.mono ?_); rintro e w1 ⟨rfl, rfl⟩))
    go_ret
    exact ⟨rfl, HB2.out⟩
set_option maxHeartbeats 16000000 in
theorem Same_says (p1 p2 q1 q2 : Option Addr) (n1 c1 n2 c2 m1 e1 m2 e2 : Nat) (r1 r2 : Bool) (w : World)
    (hP : ∀ W, Below w.heap.size w W → Calls Tryz.prog 74 #[.slice p1 n1 c1, .slice p2 n2 c2, .func (.func 75) #[] #[]] W fun e w' => e = .returned (.bool r1) ∧ Below W.heap.size W w')
    (hQ : r1 = true → ∀ W, Below w.heap.size w W → Calls Tryz.prog 77 #[.slice q1 m1 e1, .slice q2 m2 e2, .func (.func 78) #[] #[]] W fun e w' => e = .returned (.bool r2) ∧ Below W.heap.size W w') :
    Calls Tryz.prog 19 #[.agg #[.slice p1 n1 c1, .slice none 0 0, .slice q1 m1 e1, .slice none 0 0, .slice none 0 0, .slice none 0 0, .slice none 0 0, .int .i64 0, .slice none 0 0, .slice none 0 0, .bool false], .agg #[.slice p2 n2 c2, .slice none 0 0, .slice q2 m2 e2, .slice none 0 0, .slice none 0 0, .slice none 0 0, .slice none 0 0, .int .i64 0, .slice none 0 0, .slice none 0 0, .bool false]] w fun e w' => e = .returned (.bool (r1 && r2)) ∧ Below w.heap.size w w' := by
  have HP := fun W h => hid (hP W h)
  have HN76 := fun W => hid (eq_nil_76 W)
  have HN79 := fun W => hid (eq_nil_79 W)
  have HN80 := fun W => hid (eq_nil_80 W)
  have HN83 := fun W => hid (eq_nil_83 W)
  have HN81 := fun W => hid (eqf_nil_81 82 W)
  have HN84 := fun W => hid (eqf_nil_84 85 W)
  have HN86 := fun W => hid (eqf_nil_86 87 W)
  have HB0 := hid (((Below.refl w.heap.size w).alloc (Nat.le_refl _) (.cells #[.slice p1 n1 c1, .slice none 0 0, .slice q1 m1 e1, .slice none 0 0, .slice none 0 0, .slice none 0 0, .slice none 0 0, .int .i64 0, .slice none 0 0, .slice none 0 0, .bool false] 32)).alloc (by rw [size_al]; omega) (.cells #[.slice p2 n2 c2, .slice none 0 0, .slice q2 m2 e2, .slice none 0 0, .slice none 0 0, .slice none 0 0, .slice none 0 0, .int .i64 0, .slice none 0 0, .slice none 0 0, .bool false] 32))
  have HX0 := hid (CA.alloc (CA.new w #[.slice p1 n1 c1, .slice none 0 0, .slice q1 m1 e1, .slice none 0 0, .slice none 0 0, .slice none 0 0, .slice none 0 0, .int .i64 0, .slice none 0 0, .slice none 0 0, .bool false] 32) (.cells #[.slice p2 n2 c2, .slice none 0 0, .slice q2 m2 e2, .slice none 0 0, .slice none 0 0, .slice none 0 0, .slice none 0 0, .int .i64 0, .slice none 0 0, .slice none 0 0, .bool false] 32))
  have HY0 := hid (CA.new (w.alloc (.cells #[.slice p1 n1 c1, .slice none 0 0, .slice q1 m1 e1, .slice none 0 0, .slice none 0 0, .slice none 0 0, .slice none 0 0, .int .i64 0, .slice none 0 0, .slice none 0 0, .bool false] 32)) #[.slice p2 n2 c2, .slice none 0 0, .slice q2 m2 e2, .slice none 0 0, .slice none 0 0, .slice none 0 0, .slice none 0 0, .int .i64 0, .slice none 0 0, .slice none 0 0, .bool false] 32)
  rw [size_al] at HY0
  clear hP
  cases r1 with
  | false =>
    clear hQ
    go_enter Tryz.func19, Tryz.ntmps19
    go_wp2_with (go_at_call 74; (with_reducible refine (HP _ HB0.out).out.mono ?_); rintro e w1 ⟨rfl, hb1⟩; have HB1 := hid (HB0.out.trans (hb1.mono HB0.out.size)); have HX1 := hid (HX0.out.below hb1 HX0.out.lt); have HY1 := hid (HY0.out.below hb1 (by simp only [size_al]; omega)); have x1_0 := HX1.out.at (k := 0) (v := .slice p1 n1 c1) rfl; have y1_0 := HY1.out.at (k := 0) (v := .slice p2 n2 c2) rfl; have x1_1 := HX1.out.at (k := 1) (v := .slice none 0 0) rfl; have y1_1 := HY1.out.at (k := 1) (v := .slice none 0 0) rfl; have x1_2 := HX1.out.at (k := 2) (v := .slice q1 m1 e1) rfl; have y1_2 := HY1.out.at (k := 2) (v := .slice q2 m2 e2) rfl; have x1_3 := HX1.out.at (k := 3) (v := .slice none 0 0) rfl; have y1_3 := HY1.out.at (k := 3) (v := .slice none 0 0) rfl; have x1_4 := HX1.out.at (k := 4) (v := .slice none 0 0) rfl; have y1_4 := HY1.out.at (k := 4) (v := .slice none 0 0) rfl; have x1_5 := HX1.out.at (k := 5) (v := .slice none 0 0) rfl; have y1_5 := HY1.out.at (k := 5) (v := .slice none 0 0) rfl; have x1_6 := HX1.out.at (k := 6) (v := .slice none 0 0) rfl; have y1_6 := HY1.out.at (k := 6) (v := .slice none 0 0) rfl; have x1_7 := HX1.out.at (k := 7) (v := .int .i64 0) rfl; have y1_7 := HY1.out.at (k := 7) (v := .int .i64 0) rfl; have x1_8 := HX1.out.at (k := 8) (v := .slice none 0 0) rfl; have y1_8 := HY1.out.at (k := 8) (v := .slice none 0 0) rfl; have x1_9 := HX1.out.at (k := 9) (v := .slice none 0 0) rfl; have y1_9 := HY1.out.at (k := 9) (v := .slice none 0 0) rfl; have x1_10 := HX1.out.at (k := 10) (v := .bool false) rfl; have y1_10 := HY1.out.at (k := 10) (v := .bool false) rfl; clear hb1)
    go_ret
    exact ⟨rfl, HB1.out⟩
  | true =>
    have HQ := fun W h => hid (hQ rfl W h)
    clear hQ
    cases r2
    all_goals
      go_enter Tryz.func19, Tryz.ntmps19
      go_wp2_with (first
        | (go_at_call 74; (with_reducible refine (HP _ HB0.out).out.mono ?_); rintro e w1 ⟨rfl, hb1⟩; have HB1 := hid (HB0.out.trans (hb1.mono HB0.out.size)); have HX1 := hid (HX0.out.below hb1 HX0.out.lt); have HY1 := hid (HY0.out.below hb1 (by simp only [size_al]; omega)); have x1_0 := HX1.out.at (k := 0) (v := .slice p1 n1 c1) rfl; have y1_0 := HY1.out.at (k := 0) (v := .slice p2 n2 c2) rfl; have x1_1 := HX1.out.at (k := 1) (v := .slice none 0 0) rfl; have y1_1 := HY1.out.at (k := 1) (v := .slice none 0 0) rfl; have x1_2 := HX1.out.at (k := 2) (v := .slice q1 m1 e1) rfl; have y1_2 := HY1.out.at (k := 2) (v := .slice q2 m2 e2) rfl; have x1_3 := HX1.out.at (k := 3) (v := .slice none 0 0) rfl; have y1_3 := HY1.out.at (k := 3) (v := .slice none 0 0) rfl; have x1_4 := HX1.out.at (k := 4) (v := .slice none 0 0) rfl; have y1_4 := HY1.out.at (k := 4) (v := .slice none 0 0) rfl; have x1_5 := HX1.out.at (k := 5) (v := .slice none 0 0) rfl; have y1_5 := HY1.out.at (k := 5) (v := .slice none 0 0) rfl; have x1_6 := HX1.out.at (k := 6) (v := .slice none 0 0) rfl; have y1_6 := HY1.out.at (k := 6) (v := .slice none 0 0) rfl; have x1_7 := HX1.out.at (k := 7) (v := .int .i64 0) rfl; have y1_7 := HY1.out.at (k := 7) (v := .int .i64 0) rfl; have x1_8 := HX1.out.at (k := 8) (v := .slice none 0 0) rfl; have y1_8 := HY1.out.at (k := 8) (v := .slice none 0 0) rfl; have x1_9 := HX1.out.at (k := 9) (v := .slice none 0 0) rfl; have y1_9 := HY1.out.at (k := 9) (v := .slice none 0 0) rfl; have x1_10 := HX1.out.at (k := 10) (v := .bool false) rfl; have y1_10 := HY1.out.at (k := 10) (v := .bool false) rfl; clear hb1)
        | (go_at_call 77; (with_reducible refine (HQ _ HB1.out).out.mono ?_); rintro e w2 ⟨rfl, hb2⟩; have HB2 := hid (HB1.out.trans (hb2.mono HB1.out.size)); have HX2 := hid (HX1.out.below hb2 HX1.out.lt); have HY2 := hid (HY1.out.below hb2 HY1.out.lt); have x2_0 := HX2.out.at (k := 0) (v := .slice p1 n1 c1) rfl; have y2_0 := HY2.out.at (k := 0) (v := .slice p2 n2 c2) rfl; have x2_1 := HX2.out.at (k := 1) (v := .slice none 0 0) rfl; have y2_1 := HY2.out.at (k := 1) (v := .slice none 0 0) rfl; have x2_2 := HX2.out.at (k := 2) (v := .slice q1 m1 e1) rfl; have y2_2 := HY2.out.at (k := 2) (v := .slice q2 m2 e2) rfl; have x2_3 := HX2.out.at (k := 3) (v := .slice none 0 0) rfl; have y2_3 := HY2.out.at (k := 3) (v := .slice none 0 0) rfl; have x2_4 := HX2.out.at (k := 4) (v := .slice none 0 0) rfl; have y2_4 := HY2.out.at (k := 4) (v := .slice none 0 0) rfl; have x2_5 := HX2.out.at (k := 5) (v := .slice none 0 0) rfl; have y2_5 := HY2.out.at (k := 5) (v := .slice none 0 0) rfl; have x2_6 := HX2.out.at (k := 6) (v := .slice none 0 0) rfl; have y2_6 := HY2.out.at (k := 6) (v := .slice none 0 0) rfl; have x2_7 := HX2.out.at (k := 7) (v := .int .i64 0) rfl; have y2_7 := HY2.out.at (k := 7) (v := .int .i64 0) rfl; have x2_8 := HX2.out.at (k := 8) (v := .slice none 0 0) rfl; have y2_8 := HY2.out.at (k := 8) (v := .slice none 0 0) rfl; have x2_9 := HX2.out.at (k := 9) (v := .slice none 0 0) rfl; have y2_9 := HY2.out.at (k := 9) (v := .slice none 0 0) rfl; have x2_10 := HX2.out.at (k := 10) (v := .bool false) rfl; have y2_10 := HY2.out.at (k := 10) (v := .bool false) rfl; clear hb2)
        | (go_at_call 76; (with_reducible refine (HN76 _).out.mono ?_); rintro e w9 ⟨rfl, rfl⟩)
        | (go_at_call 79; (with_reducible refine (HN79 _).out.mono ?_); rintro e w9 ⟨rfl, rfl⟩)
        | (go_at_call 80; (with_reducible refine (HN80 _).out.mono ?_); rintro e w9 ⟨rfl, rfl⟩)
        | (go_at_call 83; (with_reducible refine (HN83 _).out.mono ?_); rintro e w9 ⟨rfl, rfl⟩)
        | (go_at_call 81; (with_reducible refine (HN81 _).out.mono ?_); rintro e w9 ⟨rfl, rfl⟩)
        | (go_at_call 84; (with_reducible refine (HN84 _).out.mono ?_); rintro e w9 ⟨rfl, rfl⟩)
        | (go_at_call 86; (with_reducible refine (HN86 _).out.mono ?_); rintro e w9 ⟨rfl, rfl⟩))
      go_ret
      exact ⟨rfl, HB2.out⟩
end Go.Proofs.YteianbgampljeaaGreat
