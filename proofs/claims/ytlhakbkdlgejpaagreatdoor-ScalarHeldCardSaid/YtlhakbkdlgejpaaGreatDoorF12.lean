/-
  FRT: merged (each text says what it holds where it lies in wip). No condition.
-/
import Derived.Test.YtlhakbkdlgejpaaGreatDoorF11
import Derived.Test.YtlhakbkdlgejpaaGreatDoorF08
set_option linter.unusedSimpArgs false
set_option linter.unusedVariables false
set_option maxRecDepth 100000
namespace Go.Proofs.YtlhakbkdlgejpaaGreatDoor.Fl
open Go.RowKit

theorem value27_32 (a : Nat) (w : World) : Calls Tryz.prog 251 #[.int .i64 32, .int .u64 a] w (VPost 2147483648 2139095040 (a % 4294967296) w) := by
  have HF := fun w => hid (F32_any a w)
  have hlt : a % 4294967296 < 2 * 2147483648 := by omega
  generalize a % 4294967296 = c at *
  by_cases h : 2139095040 < c % 2147483648
  · obtain ⟨v, hx, hv⟩ := conv_nan c h w
    have HV := hid (And.intro h hv)
    clear h hv hlt
    go_enter Tryz.func251, Tryz.ntmps251
    go_wp2_with (go_at_call 227; ((with_reducible refine (HF _).out.mono ?_); rintro e w1 ⟨rfl, rfl⟩))
    go_ret
    exact ⟨v, rfl, .inl HV.out, (Below.refl _ _).drew⟩
  · have hx : ∀ W : World, (convert 164 159 (.float .f32 c)).run Tryz.prog W = .ok (.float .f64 (vS c)) W := fun W => conv_ok c hlt (by omega) W
    have hr := vS_read hlt (by omega)
    have HV : Hid (ValOf 2147483648 2139095040 c (vS c)) := hid (.inr ⟨by omega, hr.2.2, .inl ⟨rfl, rfl, rfl⟩⟩)
    generalize vS c = v at *
    clear h hr hlt
    go_enter Tryz.func251, Tryz.ntmps251
    go_wp2_with (go_at_call 227; ((with_reducible refine (HF _).out.mono ?_); rintro e w1 ⟨rfl, rfl⟩))
    go_ret
    exact ⟨v, rfl, HV.out, Below.refl _ _⟩

theorem value27_64 (a : Nat) (ha : a < 18446744073709551616) (w : World) : Calls Tryz.prog 251 #[.int .i64 64, .int .u64 a] w (VPost 9223372036854775808 9218868437227405312 a w) := by
  have HV : Hid (ValOf 9223372036854775808 9218868437227405312 a a) := hid (by
    by_cases h : 9218868437227405312 < a % 9223372036854775808
    · exact .inl ⟨h, h⟩
    · exact .inr ⟨by omega, by omega, .inr ⟨rfl, rfl, rfl⟩⟩)
  go_enter Tryz.func251, Tryz.ntmps251
  go_wp2_with (go_at_call 252; ((with_reducible refine (F64_any _ _).mono ?_); rintro e w1 ⟨rfl, rfl⟩))
  go_ret
  exact ⟨a, rfl, HV.out, Below.refl _ _⟩

theorem trunc28_num (v : Nat) (hv : v % 9223372036854775808 ≤ 9218868437227405312) (w : World) : Calls Tryz.prog 221 #[.float .f64 v] w fun e w' => e = .returned (.float .f64 (Ieee.double.write ((Ieee.double.read v).integral .zero))) ∧ w = w' := by
  have hx : ∀ W : World, (callFunc 258 #[.float .f64 v]).run Tryz.prog W = .ok (.value (.float .f64 (Ieee.double.write ((Ieee.double.read v).integral .zero)))) W := fun W => by
    have := run_callFunc_extern (P := Tryz.prog) (e := Extern.MathFloor.toIntegral "math.archTrunc" .zero) Tryz.func258 (by kernel_rfl) (by kernel_rfl) (by kernel_rfl) (by kernel_rfl) #[.float .f64 v] W
    rw [this, integral_num "math.archTrunc" .zero v hv W]; rfl
  generalize Ieee.double.write ((Ieee.double.read v).integral .zero) = y at *
  clear hv
  go_enter Tryz.func221, Tryz.ntmps221
  go_wp2
  go_ret
  exact ⟨rfl, rfl⟩

theorem mul_31 (W : World) : (binOp .mul 159 (.float .f64 4611686018427387904) (.float .f64 4746794007248502784)).run Tryz.prog W = .ok (.float .f64 4751297606875873280) W := run_float_arith W .mul 45 .f64 _ _ _ (by decide +kernel)
theorem mul_63 (W : World) : (binOp .mul 159 (.float .f64 4611686018427387904) (.float .f64 4890909195324358656)).run Tryz.prog W = .ok (.float .f64 4895412794951729152) W := run_float_arith W .mul 45 .f64 _ _ _ (by decide +kernel)
theorem neg_31 (W : World) : (Op.unary .neg (.float .f64 4746794007248502784)).run Tryz.prog W = .ok (.float .f64 13970166044103278592) W := by
  exact congrArg (fun x => Result.ok (Value.float .f64 x) W) (show Op.negFloat .f64 4746794007248502784 = 13970166044103278592 by decide +kernel)
theorem neg_63 (W : World) : (Op.unary .neg (.float .f64 4890909195324358656)).run Tryz.prog W = .ok (.float .f64 14114281232179134464) W := by
  exact congrArg (fun x => Result.ok (Value.float .f64 x) W) (show Op.negFloat .f64 4890909195324358656 = 14114281232179134464 by decide +kernel)

theorem RTrunc_bad (b F : Int) (h : (b ≠ 32 ∧ b ≠ 64) ∨ (F ≠ 32 ∧ F ≠ 64)) (s sat : Bool) (a : Nat) (w : World) : Say 211 #[.int .i64 b, .int .i64 F, .bool s, .bool sat, .int .u64 (a : Int)] w (.tuple #[.int .u64 0, .int .i64 1]) := by
  obtain ⟨e1, h1⟩ : ∃ x : Bool, (b == 32) = x := ⟨_, rfl⟩
  obtain ⟨e2, h2⟩ : ∃ x : Bool, (b == 64) = x := ⟨_, rfl⟩
  obtain ⟨e3, h3⟩ : ∃ x : Bool, (F == 32) = x := ⟨_, rfl⟩
  obtain ⟨e4, h4⟩ : ∃ x : Bool, (F == 64) = x := ⟨_, rfl⟩
  have g1 : (b != 32) = !e1 := by rw [← h1]; rfl
  have g2 : (b != 64) = !e2 := by rw [← h2]; rfl
  have g3 : (F != 32) = !e3 := by rw [← h3]; rfl
  have g4 : (F != 64) = !e4 := by rw [← h4]; rfl
  have hh : (e1 = false ∧ e2 = false) ∨ (e3 = false ∧ e4 = false) := by
    rcases h with ⟨x, y⟩ | ⟨x, y⟩
    · exact .inl ⟨by rw [← h1]; simpa using x, by rw [← h2]; simpa using y⟩
    · exact .inr ⟨by rw [← h3]; simpa using x, by rw [← h4]; simpa using y⟩
  clear h h1 h2 h3 h4
  rcases hh with ⟨rfl, rfl⟩ | ⟨rfl, rfl⟩
  · go_enter Tryz.func211, Tryz.ntmps211
    go_wp2
    go_ret2
    exact ⟨rfl, Below.refl _ _⟩
  · cases e1 <;> cases e2 <;>
    · go_enter Tryz.func211, Tryz.ntmps211
      go_wp2
      go_ret2
      exact ⟨rfl, Below.refl _ _⟩

theorem RT_32_nan (a : Nat) (b : Int) (hb : b = 32 ∨ b = 64) (s sat : Bool) (V : Nat → Prop)
    (HVA : ∀ W, Hid (Calls Tryz.prog 251 #[.int .i64 32, .int .u64 (a : Int)] W fun e w' => ∃ v : Nat, e = .returned (.float .f64 v) ∧ V v ∧ Below W.heap.size W w'))
    (HN : Hid (∀ v, V v → (FloatKind.f64.format.order v v != some .eq) = true)) (w : World) :
    Say 211 #[.int .i64 32, .int .i64 b, .bool s, .bool sat, .int .u64 (a : Int)] w (.tuple #[.int .u64 0, .int .i64 (if sat then 0 else 43)]) := by
  rcases hb with rfl | rfl <;> cases sat
  all_goals
    go_enter Tryz.func211, Tryz.ntmps211
    go_wp2_with (first
      | (go_at_call 251; ((with_reducible refine (HVA _).out.mono ?_); rintro e w1 ⟨v, rfl, hv, hb⟩; have t0 := HN.out v hv)))
    go_ret2
    exact ⟨rfl, hb⟩

theorem RT_64_nan (a : Nat) (b : Int) (hb : b = 32 ∨ b = 64) (s sat : Bool) (V : Nat → Prop)
    (HVA : ∀ W, Hid (Calls Tryz.prog 251 #[.int .i64 64, .int .u64 (a : Int)] W fun e w' => ∃ v : Nat, e = .returned (.float .f64 v) ∧ V v ∧ Below W.heap.size W w'))
    (HN : Hid (∀ v, V v → (FloatKind.f64.format.order v v != some .eq) = true)) (w : World) :
    Say 211 #[.int .i64 64, .int .i64 b, .bool s, .bool sat, .int .u64 (a : Int)] w (.tuple #[.int .u64 0, .int .i64 (if sat then 0 else 43)]) := by
  rcases hb with rfl | rfl <;> cases sat
  all_goals
    go_enter Tryz.func211, Tryz.ntmps211
    go_wp2_with (first
      | (go_at_call 251; ((with_reducible refine (HVA _).out.mono ?_); rintro e w1 ⟨v, rfl, hv, hb⟩; have t0 := HN.out v hv)))
    go_ret2
    exact ⟨rfl, hb⟩

theorem RT_32_32_true_A0 (a v tv : Nat)
    (HVA : ∀ W, Hid (Calls Tryz.prog 251 #[.int .i64 32, .int .u64 (a : Int)] W fun e w' => e = .returned (.float .f64 v) ∧ Below W.heap.size W w'))
    (HT : ∀ W, Hid (Calls Tryz.prog 221 #[.float .f64 v] W fun e w' => e = .returned (.float .f64 tv) ∧ W = w'))
    (t0 : (FloatKind.f64.format.order v v != some .eq) = false)
    (t1 : FloatKind.f64.format.order tv 13970166044103278592 = some .lt) (w : World) :
    Say 211 #[.int .i64 32, .int .i64 32, .bool true, .bool false, .int .u64 (a : Int)] w (.tuple #[.int .u64 0, .int .i64 42]) := by
  have hm := mul_31
  have hng := neg_31
  go_enter Tryz.func211, Tryz.ntmps211
  go_wp2_with (first
    | (go_at_call 251; ((with_reducible refine (HVA _).out.mono ?_); rintro e w1 ⟨rfl, hb⟩))
    | (go_at_call 221; ((with_reducible refine (HT _).out.mono ?_); rintro e w2 ⟨rfl, rfl⟩)))
  go_ret2
  exact ⟨rfl, hb⟩

theorem RT_32_32_true_A1 (a v tv : Nat)
    (HVA : ∀ W, Hid (Calls Tryz.prog 251 #[.int .i64 32, .int .u64 (a : Int)] W fun e w' => e = .returned (.float .f64 v) ∧ Below W.heap.size W w'))
    (HT : ∀ W, Hid (Calls Tryz.prog 221 #[.float .f64 v] W fun e w' => e = .returned (.float .f64 tv) ∧ W = w'))
    (t0 : (FloatKind.f64.format.order v v != some .eq) = false)
    (t1 : FloatKind.f64.format.order tv 13970166044103278592 = some .lt) (w : World) :
    Say 211 #[.int .i64 32, .int .i64 32, .bool true, .bool true, .int .u64 (a : Int)] w (.tuple #[.int .u64 2147483648, .int .i64 0]) := by
  have hm := mul_31
  have hng := neg_31
  have HC : ∀ W, Hid (Calls Tryz.prog 81 #[.int .i64 32, .int .u64 18446744073709551615] W fun e w' => e = .returned (.int .u64 4294967295) ∧ W = w') := fun W => hid (Cut_any 32 (.inl rfl) 18446744073709551615 (by decide) W)
  go_enter Tryz.func211, Tryz.ntmps211
  go_wp2_with (first
    | (go_at_call 251; ((with_reducible refine (HVA _).out.mono ?_); rintro e w1 ⟨rfl, hb⟩))
    | (go_at_call 221; ((with_reducible refine (HT _).out.mono ?_); rintro e w2 ⟨rfl, rfl⟩))
    | (go_at_call 81; ((with_reducible refine (HC _).out.mono ?_); rintro e w3 ⟨rfl, rfl⟩)))
  go_ret2
  exact ⟨rfl, hb⟩

theorem RT_32_32_true_B0 (a v tv : Nat) (o : Ordering) (ho : o = .gt ∨ o = .eq)
    (HVA : ∀ W, Hid (Calls Tryz.prog 251 #[.int .i64 32, .int .u64 (a : Int)] W fun e w' => e = .returned (.float .f64 v) ∧ Below W.heap.size W w'))
    (HT : ∀ W, Hid (Calls Tryz.prog 221 #[.float .f64 v] W fun e w' => e = .returned (.float .f64 tv) ∧ W = w'))
    (t0 : (FloatKind.f64.format.order v v != some .eq) = false)
    (t1 : (FloatKind.f64.format.order tv 13970166044103278592 == some .lt) = false) (t2 : FloatKind.f64.format.order tv 4746794007248502784 = some o) (w : World) :
    Say 211 #[.int .i64 32, .int .i64 32, .bool true, .bool false, .int .u64 (a : Int)] w (.tuple #[.int .u64 0, .int .i64 42]) := by
  have hm := mul_31
  have hng := neg_31
  rcases ho with rfl | rfl
  all_goals
    go_enter Tryz.func211, Tryz.ntmps211
    go_wp2_with (first
      | (go_at_call 251; ((with_reducible refine (HVA _).out.mono ?_); rintro e w1 ⟨rfl, hb⟩))
      | (go_at_call 221; ((with_reducible refine (HT _).out.mono ?_); rintro e w2 ⟨rfl, rfl⟩)))
    go_ret2
    exact ⟨rfl, hb⟩

theorem RT_32_32_true_B1 (a v tv : Nat) (o : Ordering) (ho : o = .gt ∨ o = .eq)
    (HVA : ∀ W, Hid (Calls Tryz.prog 251 #[.int .i64 32, .int .u64 (a : Int)] W fun e w' => e = .returned (.float .f64 v) ∧ Below W.heap.size W w'))
    (HT : ∀ W, Hid (Calls Tryz.prog 221 #[.float .f64 v] W fun e w' => e = .returned (.float .f64 tv) ∧ W = w'))
    (t0 : (FloatKind.f64.format.order v v != some .eq) = false)
    (t1 : (FloatKind.f64.format.order tv 13970166044103278592 == some .lt) = false) (t2 : FloatKind.f64.format.order tv 4746794007248502784 = some o) (w : World) :
    Say 211 #[.int .i64 32, .int .i64 32, .bool true, .bool true, .int .u64 (a : Int)] w (.tuple #[.int .u64 2147483647, .int .i64 0]) := by
  have hm := mul_31
  have hng := neg_31
  have HC : ∀ W, Hid (Calls Tryz.prog 81 #[.int .i64 32, .int .u64 18446744073709551615] W fun e w' => e = .returned (.int .u64 4294967295) ∧ W = w') := fun W => hid (Cut_any 32 (.inl rfl) 18446744073709551615 (by decide) W)
  rcases ho with rfl | rfl
  all_goals
    go_enter Tryz.func211, Tryz.ntmps211
    go_wp2_with (first
      | (go_at_call 251; ((with_reducible refine (HVA _).out.mono ?_); rintro e w1 ⟨rfl, hb⟩))
      | (go_at_call 221; ((with_reducible refine (HT _).out.mono ?_); rintro e w2 ⟨rfl, rfl⟩))
      | (go_at_call 81; ((with_reducible refine (HC _).out.mono ?_); rintro e w3 ⟨rfl, rfl⟩)))
    go_ret2
    exact ⟨rfl, hb⟩

theorem RT_32_32_true_C1 (a v tv : Nat) (sat : Bool) (Z : Int) (z r : Nat) (hz : IntKind.u64.wrap Z = (z : Int)) (hcv : floatToIntVal .f64 tv .i64 = some Z)
    (HVA : ∀ W, Hid (Calls Tryz.prog 251 #[.int .i64 32, .int .u64 (a : Int)] W fun e w' => e = .returned (.float .f64 v) ∧ Below W.heap.size W w'))
    (HT : ∀ W, Hid (Calls Tryz.prog 221 #[.float .f64 v] W fun e w' => e = .returned (.float .f64 tv) ∧ W = w'))
    (t0 : (FloatKind.f64.format.order v v != some .eq) = false)
    (t1 : (FloatKind.f64.format.order tv 13970166044103278592 == some .lt) = false) (t2 : FloatKind.f64.format.order tv 4746794007248502784 = some .lt) (t3 : FloatKind.f64.format.order tv 0 = some .lt)
    (HC : ∀ W, Hid (Calls Tryz.prog 81 #[.int .i64 32, .int .u64 (z : Int)] W fun e w' => e = .returned (.int .u64 (r : Int)) ∧ W = w')) (w : World) :
    Say 211 #[.int .i64 32, .int .i64 32, .bool true, .bool sat, .int .u64 (a : Int)] w (.tuple #[.int .u64 (r : Int), .int .i64 0]) := by
  have hm := mul_31
  have hng := neg_31
  have hcc : ∀ W : World, (convert 159 2 (.float .f64 tv)).run Tryz.prog W = .ok (.int .i64 Z) W := fun W => run_convert_float_int W 159 2 .f64 .i64 tv Z (by kernel_rfl) (by kernel_rfl) hcv
  clear hcv
  go_enter Tryz.func211, Tryz.ntmps211
  go_wp2_with (first
    | (go_at_call 251; ((with_reducible refine (HVA _).out.mono ?_); rintro e w1 ⟨rfl, hb⟩))
    | (go_at_call 221; ((with_reducible refine (HT _).out.mono ?_); rintro e w2 ⟨rfl, rfl⟩))
    | (go_at_call 81; ((with_reducible refine (HC _).out.mono ?_); rintro e w3 ⟨rfl, rfl⟩)))
  go_ret2
  exact ⟨rfl, hb⟩

theorem RT_32_32_true_C2 (a v tv : Nat) (sat : Bool) (M : Nat) (hM : M < 18446744073709551616) (hcv : floatToIntVal .f64 tv .i64 = some (M : Int))
    (HVA : ∀ W, Hid (Calls Tryz.prog 251 #[.int .i64 32, .int .u64 (a : Int)] W fun e w' => e = .returned (.float .f64 v) ∧ Below W.heap.size W w'))
    (HT : ∀ W, Hid (Calls Tryz.prog 221 #[.float .f64 v] W fun e w' => e = .returned (.float .f64 tv) ∧ W = w'))
    (t0 : (FloatKind.f64.format.order v v != some .eq) = false)
    (t1 : (FloatKind.f64.format.order tv 13970166044103278592 == some .lt) = false) (t2 : FloatKind.f64.format.order tv 4746794007248502784 = some .lt) (t3 : (FloatKind.f64.format.order tv 0 == some .lt) = false) (t4 : FloatKind.f64.format.order tv 4890909195324358656 = some .lt) (w : World) :
    Say 211 #[.int .i64 32, .int .i64 32, .bool true, .bool sat, .int .u64 (a : Int)] w (.tuple #[.int .u64 (M : Int), .int .i64 0]) := by
  have hm := mul_31
  have hng := neg_31
  have hcc : ∀ W : World, (convert 159 2 (.float .f64 tv)).run Tryz.prog W = .ok (.int .i64 (M : Int)) W := fun W => run_convert_float_int W 159 2 .f64 .i64 tv M (by kernel_rfl) (by kernel_rfl) hcv
  have hw : IntKind.u64.wrap (M : Int) = (M : Int) := wrap_nat hM
  clear hcv hM
  go_enter Tryz.func211, Tryz.ntmps211
  go_wp2_with (first
    | (go_at_call 251; ((with_reducible refine (HVA _).out.mono ?_); rintro e w1 ⟨rfl, hb⟩))
    | (go_at_call 221; ((with_reducible refine (HT _).out.mono ?_); rintro e w2 ⟨rfl, rfl⟩)))
  go_ret2
  exact ⟨rfl, hb⟩

theorem RT_32_32_false_A0 (a v tv : Nat)
    (HVA : ∀ W, Hid (Calls Tryz.prog 251 #[.int .i64 32, .int .u64 (a : Int)] W fun e w' => e = .returned (.float .f64 v) ∧ Below W.heap.size W w'))
    (HT : ∀ W, Hid (Calls Tryz.prog 221 #[.float .f64 v] W fun e w' => e = .returned (.float .f64 tv) ∧ W = w'))
    (t0 : (FloatKind.f64.format.order v v != some .eq) = false)
    (t1 : FloatKind.f64.format.order tv 0 = some .lt) (w : World) :
    Say 211 #[.int .i64 32, .int .i64 32, .bool false, .bool false, .int .u64 (a : Int)] w (.tuple #[.int .u64 0, .int .i64 42]) := by
  have hm := mul_31
  have hng := neg_31
  go_enter Tryz.func211, Tryz.ntmps211
  go_wp2_with (first
    | (go_at_call 251; ((with_reducible refine (HVA _).out.mono ?_); rintro e w1 ⟨rfl, hb⟩))
    | (go_at_call 221; ((with_reducible refine (HT _).out.mono ?_); rintro e w2 ⟨rfl, rfl⟩)))
  go_ret2
  exact ⟨rfl, hb⟩

theorem RT_32_32_false_A1 (a v tv : Nat)
    (HVA : ∀ W, Hid (Calls Tryz.prog 251 #[.int .i64 32, .int .u64 (a : Int)] W fun e w' => e = .returned (.float .f64 v) ∧ Below W.heap.size W w'))
    (HT : ∀ W, Hid (Calls Tryz.prog 221 #[.float .f64 v] W fun e w' => e = .returned (.float .f64 tv) ∧ W = w'))
    (t0 : (FloatKind.f64.format.order v v != some .eq) = false)
    (t1 : FloatKind.f64.format.order tv 0 = some .lt) (w : World) :
    Say 211 #[.int .i64 32, .int .i64 32, .bool false, .bool true, .int .u64 (a : Int)] w (.tuple #[.int .u64 0, .int .i64 0]) := by
  have hm := mul_31
  have hng := neg_31
  have HC : ∀ W, Hid (Calls Tryz.prog 81 #[.int .i64 32, .int .u64 18446744073709551615] W fun e w' => e = .returned (.int .u64 4294967295) ∧ W = w') := fun W => hid (Cut_any 32 (.inl rfl) 18446744073709551615 (by decide) W)
  go_enter Tryz.func211, Tryz.ntmps211
  go_wp2_with (first
    | (go_at_call 251; ((with_reducible refine (HVA _).out.mono ?_); rintro e w1 ⟨rfl, hb⟩))
    | (go_at_call 221; ((with_reducible refine (HT _).out.mono ?_); rintro e w2 ⟨rfl, rfl⟩))
    | (go_at_call 81; ((with_reducible refine (HC _).out.mono ?_); rintro e w3 ⟨rfl, rfl⟩)))
  go_ret2
  exact ⟨rfl, hb⟩

theorem RT_32_32_false_B0 (a v tv : Nat) (o : Ordering) (ho : o = .gt ∨ o = .eq)
    (HVA : ∀ W, Hid (Calls Tryz.prog 251 #[.int .i64 32, .int .u64 (a : Int)] W fun e w' => e = .returned (.float .f64 v) ∧ Below W.heap.size W w'))
    (HT : ∀ W, Hid (Calls Tryz.prog 221 #[.float .f64 v] W fun e w' => e = .returned (.float .f64 tv) ∧ W = w'))
    (t0 : (FloatKind.f64.format.order v v != some .eq) = false)
    (t1 : (FloatKind.f64.format.order tv 0 == some .lt) = false) (t2 : FloatKind.f64.format.order tv 4751297606875873280 = some o) (w : World) :
    Say 211 #[.int .i64 32, .int .i64 32, .bool false, .bool false, .int .u64 (a : Int)] w (.tuple #[.int .u64 0, .int .i64 42]) := by
  have hm := mul_31
  have hng := neg_31
  rcases ho with rfl | rfl
  all_goals
    go_enter Tryz.func211, Tryz.ntmps211
    go_wp2_with (first
      | (go_at_call 251; ((with_reducible refine (HVA _).out.mono ?_); rintro e w1 ⟨rfl, hb⟩))
      | (go_at_call 221; ((with_reducible refine (HT _).out.mono ?_); rintro e w2 ⟨rfl, rfl⟩)))
    go_ret2
    exact ⟨rfl, hb⟩

theorem RT_32_32_false_B1 (a v tv : Nat) (o : Ordering) (ho : o = .gt ∨ o = .eq)
    (HVA : ∀ W, Hid (Calls Tryz.prog 251 #[.int .i64 32, .int .u64 (a : Int)] W fun e w' => e = .returned (.float .f64 v) ∧ Below W.heap.size W w'))
    (HT : ∀ W, Hid (Calls Tryz.prog 221 #[.float .f64 v] W fun e w' => e = .returned (.float .f64 tv) ∧ W = w'))
    (t0 : (FloatKind.f64.format.order v v != some .eq) = false)
    (t1 : (FloatKind.f64.format.order tv 0 == some .lt) = false) (t2 : FloatKind.f64.format.order tv 4751297606875873280 = some o) (w : World) :
    Say 211 #[.int .i64 32, .int .i64 32, .bool false, .bool true, .int .u64 (a : Int)] w (.tuple #[.int .u64 4294967295, .int .i64 0]) := by
  have hm := mul_31
  have hng := neg_31
  have HC : ∀ W, Hid (Calls Tryz.prog 81 #[.int .i64 32, .int .u64 18446744073709551615] W fun e w' => e = .returned (.int .u64 4294967295) ∧ W = w') := fun W => hid (Cut_any 32 (.inl rfl) 18446744073709551615 (by decide) W)
  rcases ho with rfl | rfl
  all_goals
    go_enter Tryz.func211, Tryz.ntmps211
    go_wp2_with (first
      | (go_at_call 251; ((with_reducible refine (HVA _).out.mono ?_); rintro e w1 ⟨rfl, hb⟩))
      | (go_at_call 221; ((with_reducible refine (HT _).out.mono ?_); rintro e w2 ⟨rfl, rfl⟩))
      | (go_at_call 81; ((with_reducible refine (HC _).out.mono ?_); rintro e w3 ⟨rfl, rfl⟩)))
    go_ret2
    exact ⟨rfl, hb⟩

theorem RT_32_32_false_C2 (a v tv : Nat) (sat : Bool) (M : Nat) (hM : M < 18446744073709551616) (hcv : floatToIntVal .f64 tv .i64 = some (M : Int))
    (HVA : ∀ W, Hid (Calls Tryz.prog 251 #[.int .i64 32, .int .u64 (a : Int)] W fun e w' => e = .returned (.float .f64 v) ∧ Below W.heap.size W w'))
    (HT : ∀ W, Hid (Calls Tryz.prog 221 #[.float .f64 v] W fun e w' => e = .returned (.float .f64 tv) ∧ W = w'))
    (t0 : (FloatKind.f64.format.order v v != some .eq) = false)
    (t1 : (FloatKind.f64.format.order tv 0 == some .lt) = false) (t2 : FloatKind.f64.format.order tv 4751297606875873280 = some .lt) (t4 : FloatKind.f64.format.order tv 4890909195324358656 = some .lt) (w : World) :
    Say 211 #[.int .i64 32, .int .i64 32, .bool false, .bool sat, .int .u64 (a : Int)] w (.tuple #[.int .u64 (M : Int), .int .i64 0]) := by
  have hm := mul_31
  have hng := neg_31
  have hcc : ∀ W : World, (convert 159 2 (.float .f64 tv)).run Tryz.prog W = .ok (.int .i64 (M : Int)) W := fun W => run_convert_float_int W 159 2 .f64 .i64 tv M (by kernel_rfl) (by kernel_rfl) hcv
  have hw : IntKind.u64.wrap (M : Int) = (M : Int) := wrap_nat hM
  clear hcv hM
  go_enter Tryz.func211, Tryz.ntmps211
  go_wp2_with (first
    | (go_at_call 251; ((with_reducible refine (HVA _).out.mono ?_); rintro e w1 ⟨rfl, hb⟩))
    | (go_at_call 221; ((with_reducible refine (HT _).out.mono ?_); rintro e w2 ⟨rfl, rfl⟩)))
  go_ret2
  exact ⟨rfl, hb⟩

theorem RT_32_64_true_A0 (a v tv : Nat)
    (HVA : ∀ W, Hid (Calls Tryz.prog 251 #[.int .i64 32, .int .u64 (a : Int)] W fun e w' => e = .returned (.float .f64 v) ∧ Below W.heap.size W w'))
    (HT : ∀ W, Hid (Calls Tryz.prog 221 #[.float .f64 v] W fun e w' => e = .returned (.float .f64 tv) ∧ W = w'))
    (t0 : (FloatKind.f64.format.order v v != some .eq) = false)
    (t1 : FloatKind.f64.format.order tv 14114281232179134464 = some .lt) (w : World) :
    Say 211 #[.int .i64 32, .int .i64 64, .bool true, .bool false, .int .u64 (a : Int)] w (.tuple #[.int .u64 0, .int .i64 42]) := by
  have hm := mul_63
  have hng := neg_63
  go_enter Tryz.func211, Tryz.ntmps211
  go_wp2_with (first
    | (go_at_call 251; ((with_reducible refine (HVA _).out.mono ?_); rintro e w1 ⟨rfl, hb⟩))
    | (go_at_call 221; ((with_reducible refine (HT _).out.mono ?_); rintro e w2 ⟨rfl, rfl⟩)))
  go_ret2
  exact ⟨rfl, hb⟩

theorem RT_32_64_true_A1 (a v tv : Nat)
    (HVA : ∀ W, Hid (Calls Tryz.prog 251 #[.int .i64 32, .int .u64 (a : Int)] W fun e w' => e = .returned (.float .f64 v) ∧ Below W.heap.size W w'))
    (HT : ∀ W, Hid (Calls Tryz.prog 221 #[.float .f64 v] W fun e w' => e = .returned (.float .f64 tv) ∧ W = w'))
    (t0 : (FloatKind.f64.format.order v v != some .eq) = false)
    (t1 : FloatKind.f64.format.order tv 14114281232179134464 = some .lt) (w : World) :
    Say 211 #[.int .i64 32, .int .i64 64, .bool true, .bool true, .int .u64 (a : Int)] w (.tuple #[.int .u64 9223372036854775808, .int .i64 0]) := by
  have hm := mul_63
  have hng := neg_63
  have HC : ∀ W, Hid (Calls Tryz.prog 81 #[.int .i64 64, .int .u64 18446744073709551615] W fun e w' => e = .returned (.int .u64 18446744073709551615) ∧ W = w') := fun W => hid (Cut_any 64 (.inr rfl) 18446744073709551615 (by decide) W)
  go_enter Tryz.func211, Tryz.ntmps211
  go_wp2_with (first
    | (go_at_call 251; ((with_reducible refine (HVA _).out.mono ?_); rintro e w1 ⟨rfl, hb⟩))
    | (go_at_call 221; ((with_reducible refine (HT _).out.mono ?_); rintro e w2 ⟨rfl, rfl⟩))
    | (go_at_call 81; ((with_reducible refine (HC _).out.mono ?_); rintro e w3 ⟨rfl, rfl⟩)))
  go_ret2
  exact ⟨rfl, hb⟩

theorem RT_32_64_true_B0 (a v tv : Nat) (o : Ordering) (ho : o = .gt ∨ o = .eq)
    (HVA : ∀ W, Hid (Calls Tryz.prog 251 #[.int .i64 32, .int .u64 (a : Int)] W fun e w' => e = .returned (.float .f64 v) ∧ Below W.heap.size W w'))
    (HT : ∀ W, Hid (Calls Tryz.prog 221 #[.float .f64 v] W fun e w' => e = .returned (.float .f64 tv) ∧ W = w'))
    (t0 : (FloatKind.f64.format.order v v != some .eq) = false)
    (t1 : (FloatKind.f64.format.order tv 14114281232179134464 == some .lt) = false) (t2 : FloatKind.f64.format.order tv 4890909195324358656 = some o) (w : World) :
    Say 211 #[.int .i64 32, .int .i64 64, .bool true, .bool false, .int .u64 (a : Int)] w (.tuple #[.int .u64 0, .int .i64 42]) := by
  have hm := mul_63
  have hng := neg_63
  rcases ho with rfl | rfl
  all_goals
    go_enter Tryz.func211, Tryz.ntmps211
    go_wp2_with (first
      | (go_at_call 251; ((with_reducible refine (HVA _).out.mono ?_); rintro e w1 ⟨rfl, hb⟩))
      | (go_at_call 221; ((with_reducible refine (HT _).out.mono ?_); rintro e w2 ⟨rfl, rfl⟩)))
    go_ret2
    exact ⟨rfl, hb⟩

theorem RT_32_64_true_B1 (a v tv : Nat) (o : Ordering) (ho : o = .gt ∨ o = .eq)
    (HVA : ∀ W, Hid (Calls Tryz.prog 251 #[.int .i64 32, .int .u64 (a : Int)] W fun e w' => e = .returned (.float .f64 v) ∧ Below W.heap.size W w'))
    (HT : ∀ W, Hid (Calls Tryz.prog 221 #[.float .f64 v] W fun e w' => e = .returned (.float .f64 tv) ∧ W = w'))
    (t0 : (FloatKind.f64.format.order v v != some .eq) = false)
    (t1 : (FloatKind.f64.format.order tv 14114281232179134464 == some .lt) = false) (t2 : FloatKind.f64.format.order tv 4890909195324358656 = some o) (w : World) :
    Say 211 #[.int .i64 32, .int .i64 64, .bool true, .bool true, .int .u64 (a : Int)] w (.tuple #[.int .u64 9223372036854775807, .int .i64 0]) := by
  have hm := mul_63
  have hng := neg_63
  have HC : ∀ W, Hid (Calls Tryz.prog 81 #[.int .i64 64, .int .u64 18446744073709551615] W fun e w' => e = .returned (.int .u64 18446744073709551615) ∧ W = w') := fun W => hid (Cut_any 64 (.inr rfl) 18446744073709551615 (by decide) W)
  rcases ho with rfl | rfl
  all_goals
    go_enter Tryz.func211, Tryz.ntmps211
    go_wp2_with (first
      | (go_at_call 251; ((with_reducible refine (HVA _).out.mono ?_); rintro e w1 ⟨rfl, hb⟩))
      | (go_at_call 221; ((with_reducible refine (HT _).out.mono ?_); rintro e w2 ⟨rfl, rfl⟩))
      | (go_at_call 81; ((with_reducible refine (HC _).out.mono ?_); rintro e w3 ⟨rfl, rfl⟩)))
    go_ret2
    exact ⟨rfl, hb⟩

theorem RT_32_64_true_C1 (a v tv : Nat) (sat : Bool) (Z : Int) (z r : Nat) (hz : IntKind.u64.wrap Z = (z : Int)) (hcv : floatToIntVal .f64 tv .i64 = some Z)
    (HVA : ∀ W, Hid (Calls Tryz.prog 251 #[.int .i64 32, .int .u64 (a : Int)] W fun e w' => e = .returned (.float .f64 v) ∧ Below W.heap.size W w'))
    (HT : ∀ W, Hid (Calls Tryz.prog 221 #[.float .f64 v] W fun e w' => e = .returned (.float .f64 tv) ∧ W = w'))
    (t0 : (FloatKind.f64.format.order v v != some .eq) = false)
    (t1 : (FloatKind.f64.format.order tv 14114281232179134464 == some .lt) = false) (t2 : FloatKind.f64.format.order tv 4890909195324358656 = some .lt) (t3 : FloatKind.f64.format.order tv 0 = some .lt)
    (HC : ∀ W, Hid (Calls Tryz.prog 81 #[.int .i64 64, .int .u64 (z : Int)] W fun e w' => e = .returned (.int .u64 (r : Int)) ∧ W = w')) (w : World) :
    Say 211 #[.int .i64 32, .int .i64 64, .bool true, .bool sat, .int .u64 (a : Int)] w (.tuple #[.int .u64 (r : Int), .int .i64 0]) := by
  have hm := mul_63
  have hng := neg_63
  have hcc : ∀ W : World, (convert 159 2 (.float .f64 tv)).run Tryz.prog W = .ok (.int .i64 Z) W := fun W => run_convert_float_int W 159 2 .f64 .i64 tv Z (by kernel_rfl) (by kernel_rfl) hcv
  clear hcv
  go_enter Tryz.func211, Tryz.ntmps211
  go_wp2_with (first
    | (go_at_call 251; ((with_reducible refine (HVA _).out.mono ?_); rintro e w1 ⟨rfl, hb⟩))
    | (go_at_call 221; ((with_reducible refine (HT _).out.mono ?_); rintro e w2 ⟨rfl, rfl⟩))
    | (go_at_call 81; ((with_reducible refine (HC _).out.mono ?_); rintro e w3 ⟨rfl, rfl⟩)))
  go_ret2
  exact ⟨rfl, hb⟩

theorem RT_32_64_true_C2 (a v tv : Nat) (sat : Bool) (M : Nat) (hM : M < 18446744073709551616) (hcv : floatToIntVal .f64 tv .i64 = some (M : Int))
    (HVA : ∀ W, Hid (Calls Tryz.prog 251 #[.int .i64 32, .int .u64 (a : Int)] W fun e w' => e = .returned (.float .f64 v) ∧ Below W.heap.size W w'))
    (HT : ∀ W, Hid (Calls Tryz.prog 221 #[.float .f64 v] W fun e w' => e = .returned (.float .f64 tv) ∧ W = w'))
    (t0 : (FloatKind.f64.format.order v v != some .eq) = false)
    (t1 : (FloatKind.f64.format.order tv 14114281232179134464 == some .lt) = false) (t2 : FloatKind.f64.format.order tv 4890909195324358656 = some .lt) (t3 : (FloatKind.f64.format.order tv 0 == some .lt) = false) (w : World) :
    Say 211 #[.int .i64 32, .int .i64 64, .bool true, .bool sat, .int .u64 (a : Int)] w (.tuple #[.int .u64 (M : Int), .int .i64 0]) := by
  have hm := mul_63
  have hng := neg_63
  have hcc : ∀ W : World, (convert 159 2 (.float .f64 tv)).run Tryz.prog W = .ok (.int .i64 (M : Int)) W := fun W => run_convert_float_int W 159 2 .f64 .i64 tv M (by kernel_rfl) (by kernel_rfl) hcv
  have hw : IntKind.u64.wrap (M : Int) = (M : Int) := wrap_nat hM
  clear hcv hM
  go_enter Tryz.func211, Tryz.ntmps211
  go_wp2_with (first
    | (go_at_call 251; ((with_reducible refine (HVA _).out.mono ?_); rintro e w1 ⟨rfl, hb⟩))
    | (go_at_call 221; ((with_reducible refine (HT _).out.mono ?_); rintro e w2 ⟨rfl, rfl⟩)))
  go_ret2
  exact ⟨rfl, hb⟩

theorem RT_32_64_false_A0 (a v tv : Nat)
    (HVA : ∀ W, Hid (Calls Tryz.prog 251 #[.int .i64 32, .int .u64 (a : Int)] W fun e w' => e = .returned (.float .f64 v) ∧ Below W.heap.size W w'))
    (HT : ∀ W, Hid (Calls Tryz.prog 221 #[.float .f64 v] W fun e w' => e = .returned (.float .f64 tv) ∧ W = w'))
    (t0 : (FloatKind.f64.format.order v v != some .eq) = false)
    (t1 : FloatKind.f64.format.order tv 0 = some .lt) (w : World) :
    Say 211 #[.int .i64 32, .int .i64 64, .bool false, .bool false, .int .u64 (a : Int)] w (.tuple #[.int .u64 0, .int .i64 42]) := by
  have hm := mul_63
  have hng := neg_63
  go_enter Tryz.func211, Tryz.ntmps211
  go_wp2_with (first
    | (go_at_call 251; ((with_reducible refine (HVA _).out.mono ?_); rintro e w1 ⟨rfl, hb⟩))
    | (go_at_call 221; ((with_reducible refine (HT _).out.mono ?_); rintro e w2 ⟨rfl, rfl⟩)))
  go_ret2
  exact ⟨rfl, hb⟩

theorem RT_32_64_false_A1 (a v tv : Nat)
    (HVA : ∀ W, Hid (Calls Tryz.prog 251 #[.int .i64 32, .int .u64 (a : Int)] W fun e w' => e = .returned (.float .f64 v) ∧ Below W.heap.size W w'))
    (HT : ∀ W, Hid (Calls Tryz.prog 221 #[.float .f64 v] W fun e w' => e = .returned (.float .f64 tv) ∧ W = w'))
    (t0 : (FloatKind.f64.format.order v v != some .eq) = false)
    (t1 : FloatKind.f64.format.order tv 0 = some .lt) (w : World) :
    Say 211 #[.int .i64 32, .int .i64 64, .bool false, .bool true, .int .u64 (a : Int)] w (.tuple #[.int .u64 0, .int .i64 0]) := by
  have hm := mul_63
  have hng := neg_63
  have HC : ∀ W, Hid (Calls Tryz.prog 81 #[.int .i64 64, .int .u64 18446744073709551615] W fun e w' => e = .returned (.int .u64 18446744073709551615) ∧ W = w') := fun W => hid (Cut_any 64 (.inr rfl) 18446744073709551615 (by decide) W)
  go_enter Tryz.func211, Tryz.ntmps211
  go_wp2_with (first
    | (go_at_call 251; ((with_reducible refine (HVA _).out.mono ?_); rintro e w1 ⟨rfl, hb⟩))
    | (go_at_call 221; ((with_reducible refine (HT _).out.mono ?_); rintro e w2 ⟨rfl, rfl⟩))
    | (go_at_call 81; ((with_reducible refine (HC _).out.mono ?_); rintro e w3 ⟨rfl, rfl⟩)))
  go_ret2
  exact ⟨rfl, hb⟩

theorem RT_32_64_false_B0 (a v tv : Nat) (o : Ordering) (ho : o = .gt ∨ o = .eq)
    (HVA : ∀ W, Hid (Calls Tryz.prog 251 #[.int .i64 32, .int .u64 (a : Int)] W fun e w' => e = .returned (.float .f64 v) ∧ Below W.heap.size W w'))
    (HT : ∀ W, Hid (Calls Tryz.prog 221 #[.float .f64 v] W fun e w' => e = .returned (.float .f64 tv) ∧ W = w'))
    (t0 : (FloatKind.f64.format.order v v != some .eq) = false)
    (t1 : (FloatKind.f64.format.order tv 0 == some .lt) = false) (t2 : FloatKind.f64.format.order tv 4895412794951729152 = some o) (w : World) :
    Say 211 #[.int .i64 32, .int .i64 64, .bool false, .bool false, .int .u64 (a : Int)] w (.tuple #[.int .u64 0, .int .i64 42]) := by
  have hm := mul_63
  have hng := neg_63
  rcases ho with rfl | rfl
  all_goals
    go_enter Tryz.func211, Tryz.ntmps211
    go_wp2_with (first
      | (go_at_call 251; ((with_reducible refine (HVA _).out.mono ?_); rintro e w1 ⟨rfl, hb⟩))
      | (go_at_call 221; ((with_reducible refine (HT _).out.mono ?_); rintro e w2 ⟨rfl, rfl⟩)))
    go_ret2
    exact ⟨rfl, hb⟩

theorem RT_32_64_false_B1 (a v tv : Nat) (o : Ordering) (ho : o = .gt ∨ o = .eq)
    (HVA : ∀ W, Hid (Calls Tryz.prog 251 #[.int .i64 32, .int .u64 (a : Int)] W fun e w' => e = .returned (.float .f64 v) ∧ Below W.heap.size W w'))
    (HT : ∀ W, Hid (Calls Tryz.prog 221 #[.float .f64 v] W fun e w' => e = .returned (.float .f64 tv) ∧ W = w'))
    (t0 : (FloatKind.f64.format.order v v != some .eq) = false)
    (t1 : (FloatKind.f64.format.order tv 0 == some .lt) = false) (t2 : FloatKind.f64.format.order tv 4895412794951729152 = some o) (w : World) :
    Say 211 #[.int .i64 32, .int .i64 64, .bool false, .bool true, .int .u64 (a : Int)] w (.tuple #[.int .u64 18446744073709551615, .int .i64 0]) := by
  have hm := mul_63
  have hng := neg_63
  have HC : ∀ W, Hid (Calls Tryz.prog 81 #[.int .i64 64, .int .u64 18446744073709551615] W fun e w' => e = .returned (.int .u64 18446744073709551615) ∧ W = w') := fun W => hid (Cut_any 64 (.inr rfl) 18446744073709551615 (by decide) W)
  rcases ho with rfl | rfl
  all_goals
    go_enter Tryz.func211, Tryz.ntmps211
    go_wp2_with (first
      | (go_at_call 251; ((with_reducible refine (HVA _).out.mono ?_); rintro e w1 ⟨rfl, hb⟩))
      | (go_at_call 221; ((with_reducible refine (HT _).out.mono ?_); rintro e w2 ⟨rfl, rfl⟩))
      | (go_at_call 81; ((with_reducible refine (HC _).out.mono ?_); rintro e w3 ⟨rfl, rfl⟩)))
    go_ret2
    exact ⟨rfl, hb⟩

theorem RT_32_64_false_C2 (a v tv : Nat) (sat : Bool) (M : Nat) (hM : M < 18446744073709551616) (hcv : floatToIntVal .f64 tv .i64 = some (M : Int))
    (HVA : ∀ W, Hid (Calls Tryz.prog 251 #[.int .i64 32, .int .u64 (a : Int)] W fun e w' => e = .returned (.float .f64 v) ∧ Below W.heap.size W w'))
    (HT : ∀ W, Hid (Calls Tryz.prog 221 #[.float .f64 v] W fun e w' => e = .returned (.float .f64 tv) ∧ W = w'))
    (t0 : (FloatKind.f64.format.order v v != some .eq) = false)
    (t1 : (FloatKind.f64.format.order tv 0 == some .lt) = false) (t2 : FloatKind.f64.format.order tv 4895412794951729152 = some .lt) (t4 : FloatKind.f64.format.order tv 4890909195324358656 = some .lt) (w : World) :
    Say 211 #[.int .i64 32, .int .i64 64, .bool false, .bool sat, .int .u64 (a : Int)] w (.tuple #[.int .u64 (M : Int), .int .i64 0]) := by
  have hm := mul_63
  have hng := neg_63
  have hcc : ∀ W : World, (convert 159 2 (.float .f64 tv)).run Tryz.prog W = .ok (.int .i64 (M : Int)) W := fun W => run_convert_float_int W 159 2 .f64 .i64 tv M (by kernel_rfl) (by kernel_rfl) hcv
  have hw : IntKind.u64.wrap (M : Int) = (M : Int) := wrap_nat hM
  clear hcv hM
  go_enter Tryz.func211, Tryz.ntmps211
  go_wp2_with (first
    | (go_at_call 251; ((with_reducible refine (HVA _).out.mono ?_); rintro e w1 ⟨rfl, hb⟩))
    | (go_at_call 221; ((with_reducible refine (HT _).out.mono ?_); rintro e w2 ⟨rfl, rfl⟩)))
  go_ret2
  exact ⟨rfl, hb⟩

theorem RT_32_64_false_C3 (a v tv : Nat) (sat : Bool) (o : Ordering) (ho : o = .gt ∨ o = .eq) (M r : Nat) (d : Int) (h1 : Ieee.double.sub tv 4890909195324358656 = some r) (h2 : floatToIntVal .f64 r .i64 = some d) (h3 : IntKind.u64.wrap (IntKind.u64.wrap d + 9223372036854775808) = (M : Int))
    (HVA : ∀ W, Hid (Calls Tryz.prog 251 #[.int .i64 32, .int .u64 (a : Int)] W fun e w' => e = .returned (.float .f64 v) ∧ Below W.heap.size W w'))
    (HT : ∀ W, Hid (Calls Tryz.prog 221 #[.float .f64 v] W fun e w' => e = .returned (.float .f64 tv) ∧ W = w'))
    (t0 : (FloatKind.f64.format.order v v != some .eq) = false)
    (t1 : (FloatKind.f64.format.order tv 0 == some .lt) = false) (t2 : FloatKind.f64.format.order tv 4895412794951729152 = some .lt) (t4 : FloatKind.f64.format.order tv 4890909195324358656 = some o) (w : World) :
    Say 211 #[.int .i64 32, .int .i64 64, .bool false, .bool sat, .int .u64 (a : Int)] w (.tuple #[.int .u64 (M : Int), .int .i64 0]) := by
  have hm := mul_63
  have hng := neg_63
  have hcc : ∀ W : World, (convert 159 2 (.float .f64 r)).run Tryz.prog W = .ok (.int .i64 d) W := fun W => run_convert_float_int W 159 2 .f64 .i64 r d (by kernel_rfl) (by kernel_rfl) h2
  have hsb : ∀ W : World, (binOp .sub 159 (.float .f64 tv) (.float .f64 4890909195324358656)).run Tryz.prog W = .ok (.float .f64 r) W := fun W => run_float_arith W .sub 45 .f64 _ _ _ h1
  clear h1 h2
  rcases ho with rfl | rfl
  all_goals
    go_enter Tryz.func211, Tryz.ntmps211
    go_wp2_with (first
      | (go_at_call 251; ((with_reducible refine (HVA _).out.mono ?_); rintro e w1 ⟨rfl, hb⟩))
      | (go_at_call 221; ((with_reducible refine (HT _).out.mono ?_); rintro e w2 ⟨rfl, rfl⟩)))
    go_ret2
    exact ⟨rfl, hb⟩

theorem RT_64_32_true_A0 (a v tv : Nat)
    (HVA : ∀ W, Hid (Calls Tryz.prog 251 #[.int .i64 64, .int .u64 (a : Int)] W fun e w' => e = .returned (.float .f64 v) ∧ Below W.heap.size W w'))
    (HT : ∀ W, Hid (Calls Tryz.prog 221 #[.float .f64 v] W fun e w' => e = .returned (.float .f64 tv) ∧ W = w'))
    (t0 : (FloatKind.f64.format.order v v != some .eq) = false)
    (t1 : FloatKind.f64.format.order tv 13970166044103278592 = some .lt) (w : World) :
    Say 211 #[.int .i64 64, .int .i64 32, .bool true, .bool false, .int .u64 (a : Int)] w (.tuple #[.int .u64 0, .int .i64 42]) := by
  have hm := mul_31
  have hng := neg_31
  go_enter Tryz.func211, Tryz.ntmps211
  go_wp2_with (first
    | (go_at_call 251; ((with_reducible refine (HVA _).out.mono ?_); rintro e w1 ⟨rfl, hb⟩))
    | (go_at_call 221; ((with_reducible refine (HT _).out.mono ?_); rintro e w2 ⟨rfl, rfl⟩)))
  go_ret2
  exact ⟨rfl, hb⟩

theorem RT_64_32_true_A1 (a v tv : Nat)
    (HVA : ∀ W, Hid (Calls Tryz.prog 251 #[.int .i64 64, .int .u64 (a : Int)] W fun e w' => e = .returned (.float .f64 v) ∧ Below W.heap.size W w'))
    (HT : ∀ W, Hid (Calls Tryz.prog 221 #[.float .f64 v] W fun e w' => e = .returned (.float .f64 tv) ∧ W = w'))
    (t0 : (FloatKind.f64.format.order v v != some .eq) = false)
    (t1 : FloatKind.f64.format.order tv 13970166044103278592 = some .lt) (w : World) :
    Say 211 #[.int .i64 64, .int .i64 32, .bool true, .bool true, .int .u64 (a : Int)] w (.tuple #[.int .u64 2147483648, .int .i64 0]) := by
  have hm := mul_31
  have hng := neg_31
  have HC : ∀ W, Hid (Calls Tryz.prog 81 #[.int .i64 32, .int .u64 18446744073709551615] W fun e w' => e = .returned (.int .u64 4294967295) ∧ W = w') := fun W => hid (Cut_any 32 (.inl rfl) 18446744073709551615 (by decide) W)
  go_enter Tryz.func211, Tryz.ntmps211
  go_wp2_with (first
    | (go_at_call 251; ((with_reducible refine (HVA _).out.mono ?_); rintro e w1 ⟨rfl, hb⟩))
    | (go_at_call 221; ((with_reducible refine (HT _).out.mono ?_); rintro e w2 ⟨rfl, rfl⟩))
    | (go_at_call 81; ((with_reducible refine (HC _).out.mono ?_); rintro e w3 ⟨rfl, rfl⟩)))
  go_ret2
  exact ⟨rfl, hb⟩

theorem RT_64_32_true_B0 (a v tv : Nat) (o : Ordering) (ho : o = .gt ∨ o = .eq)
    (HVA : ∀ W, Hid (Calls Tryz.prog 251 #[.int .i64 64, .int .u64 (a : Int)] W fun e w' => e = .returned (.float .f64 v) ∧ Below W.heap.size W w'))
    (HT : ∀ W, Hid (Calls Tryz.prog 221 #[.float .f64 v] W fun e w' => e = .returned (.float .f64 tv) ∧ W = w'))
    (t0 : (FloatKind.f64.format.order v v != some .eq) = false)
    (t1 : (FloatKind.f64.format.order tv 13970166044103278592 == some .lt) = false) (t2 : FloatKind.f64.format.order tv 4746794007248502784 = some o) (w : World) :
    Say 211 #[.int .i64 64, .int .i64 32, .bool true, .bool false, .int .u64 (a : Int)] w (.tuple #[.int .u64 0, .int .i64 42]) := by
  have hm := mul_31
  have hng := neg_31
  rcases ho with rfl | rfl
  all_goals
    go_enter Tryz.func211, Tryz.ntmps211
    go_wp2_with (first
      | (go_at_call 251; ((with_reducible refine (HVA _).out.mono ?_); rintro e w1 ⟨rfl, hb⟩))
      | (go_at_call 221; ((with_reducible refine (HT _).out.mono ?_); rintro e w2 ⟨rfl, rfl⟩)))
    go_ret2
    exact ⟨rfl, hb⟩

theorem RT_64_32_true_B1 (a v tv : Nat) (o : Ordering) (ho : o = .gt ∨ o = .eq)
    (HVA : ∀ W, Hid (Calls Tryz.prog 251 #[.int .i64 64, .int .u64 (a : Int)] W fun e w' => e = .returned (.float .f64 v) ∧ Below W.heap.size W w'))
    (HT : ∀ W, Hid (Calls Tryz.prog 221 #[.float .f64 v] W fun e w' => e = .returned (.float .f64 tv) ∧ W = w'))
    (t0 : (FloatKind.f64.format.order v v != some .eq) = false)
    (t1 : (FloatKind.f64.format.order tv 13970166044103278592 == some .lt) = false) (t2 : FloatKind.f64.format.order tv 4746794007248502784 = some o) (w : World) :
    Say 211 #[.int .i64 64, .int .i64 32, .bool true, .bool true, .int .u64 (a : Int)] w (.tuple #[.int .u64 2147483647, .int .i64 0]) := by
  have hm := mul_31
  have hng := neg_31
  have HC : ∀ W, Hid (Calls Tryz.prog 81 #[.int .i64 32, .int .u64 18446744073709551615] W fun e w' => e = .returned (.int .u64 4294967295) ∧ W = w') := fun W => hid (Cut_any 32 (.inl rfl) 18446744073709551615 (by decide) W)
  rcases ho with rfl | rfl
  all_goals
    go_enter Tryz.func211, Tryz.ntmps211
    go_wp2_with (first
      | (go_at_call 251; ((with_reducible refine (HVA _).out.mono ?_); rintro e w1 ⟨rfl, hb⟩))
      | (go_at_call 221; ((with_reducible refine (HT _).out.mono ?_); rintro e w2 ⟨rfl, rfl⟩))
      | (go_at_call 81; ((with_reducible refine (HC _).out.mono ?_); rintro e w3 ⟨rfl, rfl⟩)))
    go_ret2
    exact ⟨rfl, hb⟩

theorem RT_64_32_true_C1 (a v tv : Nat) (sat : Bool) (Z : Int) (z r : Nat) (hz : IntKind.u64.wrap Z = (z : Int)) (hcv : floatToIntVal .f64 tv .i64 = some Z)
    (HVA : ∀ W, Hid (Calls Tryz.prog 251 #[.int .i64 64, .int .u64 (a : Int)] W fun e w' => e = .returned (.float .f64 v) ∧ Below W.heap.size W w'))
    (HT : ∀ W, Hid (Calls Tryz.prog 221 #[.float .f64 v] W fun e w' => e = .returned (.float .f64 tv) ∧ W = w'))
    (t0 : (FloatKind.f64.format.order v v != some .eq) = false)
    (t1 : (FloatKind.f64.format.order tv 13970166044103278592 == some .lt) = false) (t2 : FloatKind.f64.format.order tv 4746794007248502784 = some .lt) (t3 : FloatKind.f64.format.order tv 0 = some .lt)
    (HC : ∀ W, Hid (Calls Tryz.prog 81 #[.int .i64 32, .int .u64 (z : Int)] W fun e w' => e = .returned (.int .u64 (r : Int)) ∧ W = w')) (w : World) :
    Say 211 #[.int .i64 64, .int .i64 32, .bool true, .bool sat, .int .u64 (a : Int)] w (.tuple #[.int .u64 (r : Int), .int .i64 0]) := by
  have hm := mul_31
  have hng := neg_31
  have hcc : ∀ W : World, (convert 159 2 (.float .f64 tv)).run Tryz.prog W = .ok (.int .i64 Z) W := fun W => run_convert_float_int W 159 2 .f64 .i64 tv Z (by kernel_rfl) (by kernel_rfl) hcv
  clear hcv
  go_enter Tryz.func211, Tryz.ntmps211
  go_wp2_with (first
    | (go_at_call 251; ((with_reducible refine (HVA _).out.mono ?_); rintro e w1 ⟨rfl, hb⟩))
    | (go_at_call 221; ((with_reducible refine (HT _).out.mono ?_); rintro e w2 ⟨rfl, rfl⟩))
    | (go_at_call 81; ((with_reducible refine (HC _).out.mono ?_); rintro e w3 ⟨rfl, rfl⟩)))
  go_ret2
  exact ⟨rfl, hb⟩

theorem RT_64_32_true_C2 (a v tv : Nat) (sat : Bool) (M : Nat) (hM : M < 18446744073709551616) (hcv : floatToIntVal .f64 tv .i64 = some (M : Int))
    (HVA : ∀ W, Hid (Calls Tryz.prog 251 #[.int .i64 64, .int .u64 (a : Int)] W fun e w' => e = .returned (.float .f64 v) ∧ Below W.heap.size W w'))
    (HT : ∀ W, Hid (Calls Tryz.prog 221 #[.float .f64 v] W fun e w' => e = .returned (.float .f64 tv) ∧ W = w'))
    (t0 : (FloatKind.f64.format.order v v != some .eq) = false)
    (t1 : (FloatKind.f64.format.order tv 13970166044103278592 == some .lt) = false) (t2 : FloatKind.f64.format.order tv 4746794007248502784 = some .lt) (t3 : (FloatKind.f64.format.order tv 0 == some .lt) = false) (t4 : FloatKind.f64.format.order tv 4890909195324358656 = some .lt) (w : World) :
    Say 211 #[.int .i64 64, .int .i64 32, .bool true, .bool sat, .int .u64 (a : Int)] w (.tuple #[.int .u64 (M : Int), .int .i64 0]) := by
  have hm := mul_31
  have hng := neg_31
  have hcc : ∀ W : World, (convert 159 2 (.float .f64 tv)).run Tryz.prog W = .ok (.int .i64 (M : Int)) W := fun W => run_convert_float_int W 159 2 .f64 .i64 tv M (by kernel_rfl) (by kernel_rfl) hcv
  have hw : IntKind.u64.wrap (M : Int) = (M : Int) := wrap_nat hM
  clear hcv hM
  go_enter Tryz.func211, Tryz.ntmps211
  go_wp2_with (first
    | (go_at_call 251; ((with_reducible refine (HVA _).out.mono ?_); rintro e w1 ⟨rfl, hb⟩))
    | (go_at_call 221; ((with_reducible refine (HT _).out.mono ?_); rintro e w2 ⟨rfl, rfl⟩)))
  go_ret2
  exact ⟨rfl, hb⟩

theorem RT_64_32_false_A0 (a v tv : Nat)
    (HVA : ∀ W, Hid (Calls Tryz.prog 251 #[.int .i64 64, .int .u64 (a : Int)] W fun e w' => e = .returned (.float .f64 v) ∧ Below W.heap.size W w'))
    (HT : ∀ W, Hid (Calls Tryz.prog 221 #[.float .f64 v] W fun e w' => e = .returned (.float .f64 tv) ∧ W = w'))
    (t0 : (FloatKind.f64.format.order v v != some .eq) = false)
    (t1 : FloatKind.f64.format.order tv 0 = some .lt) (w : World) :
    Say 211 #[.int .i64 64, .int .i64 32, .bool false, .bool false, .int .u64 (a : Int)] w (.tuple #[.int .u64 0, .int .i64 42]) := by
  have hm := mul_31
  have hng := neg_31
  go_enter Tryz.func211, Tryz.ntmps211
  go_wp2_with (first
    | (go_at_call 251; ((with_reducible refine (HVA _).out.mono ?_); rintro e w1 ⟨rfl, hb⟩))
    | (go_at_call 221; ((with_reducible refine (HT _).out.mono ?_); rintro e w2 ⟨rfl, rfl⟩)))
  go_ret2
  exact ⟨rfl, hb⟩

theorem RT_64_32_false_A1 (a v tv : Nat)
    (HVA : ∀ W, Hid (Calls Tryz.prog 251 #[.int .i64 64, .int .u64 (a : Int)] W fun e w' => e = .returned (.float .f64 v) ∧ Below W.heap.size W w'))
    (HT : ∀ W, Hid (Calls Tryz.prog 221 #[.float .f64 v] W fun e w' => e = .returned (.float .f64 tv) ∧ W = w'))
    (t0 : (FloatKind.f64.format.order v v != some .eq) = false)
    (t1 : FloatKind.f64.format.order tv 0 = some .lt) (w : World) :
    Say 211 #[.int .i64 64, .int .i64 32, .bool false, .bool true, .int .u64 (a : Int)] w (.tuple #[.int .u64 0, .int .i64 0]) := by
  have hm := mul_31
  have hng := neg_31
  have HC : ∀ W, Hid (Calls Tryz.prog 81 #[.int .i64 32, .int .u64 18446744073709551615] W fun e w' => e = .returned (.int .u64 4294967295) ∧ W = w') := fun W => hid (Cut_any 32 (.inl rfl) 18446744073709551615 (by decide) W)
  go_enter Tryz.func211, Tryz.ntmps211
  go_wp2_with (first
    | (go_at_call 251; ((with_reducible refine (HVA _).out.mono ?_); rintro e w1 ⟨rfl, hb⟩))
    | (go_at_call 221; ((with_reducible refine (HT _).out.mono ?_); rintro e w2 ⟨rfl, rfl⟩))
    | (go_at_call 81; ((with_reducible refine (HC _).out.mono ?_); rintro e w3 ⟨rfl, rfl⟩)))
  go_ret2
  exact ⟨rfl, hb⟩

theorem RT_64_32_false_B0 (a v tv : Nat) (o : Ordering) (ho : o = .gt ∨ o = .eq)
    (HVA : ∀ W, Hid (Calls Tryz.prog 251 #[.int .i64 64, .int .u64 (a : Int)] W fun e w' => e = .returned (.float .f64 v) ∧ Below W.heap.size W w'))
    (HT : ∀ W, Hid (Calls Tryz.prog 221 #[.float .f64 v] W fun e w' => e = .returned (.float .f64 tv) ∧ W = w'))
    (t0 : (FloatKind.f64.format.order v v != some .eq) = false)
    (t1 : (FloatKind.f64.format.order tv 0 == some .lt) = false) (t2 : FloatKind.f64.format.order tv 4751297606875873280 = some o) (w : World) :
    Say 211 #[.int .i64 64, .int .i64 32, .bool false, .bool false, .int .u64 (a : Int)] w (.tuple #[.int .u64 0, .int .i64 42]) := by
  have hm := mul_31
  have hng := neg_31
  rcases ho with rfl | rfl
  all_goals
    go_enter Tryz.func211, Tryz.ntmps211
    go_wp2_with (first
      | (go_at_call 251; ((with_reducible refine (HVA _).out.mono ?_); rintro e w1 ⟨rfl, hb⟩))
      | (go_at_call 221; ((with_reducible refine (HT _).out.mono ?_); rintro e w2 ⟨rfl, rfl⟩)))
    go_ret2
    exact ⟨rfl, hb⟩

theorem RT_64_32_false_B1 (a v tv : Nat) (o : Ordering) (ho : o = .gt ∨ o = .eq)
    (HVA : ∀ W, Hid (Calls Tryz.prog 251 #[.int .i64 64, .int .u64 (a : Int)] W fun e w' => e = .returned (.float .f64 v) ∧ Below W.heap.size W w'))
    (HT : ∀ W, Hid (Calls Tryz.prog 221 #[.float .f64 v] W fun e w' => e = .returned (.float .f64 tv) ∧ W = w'))
    (t0 : (FloatKind.f64.format.order v v != some .eq) = false)
    (t1 : (FloatKind.f64.format.order tv 0 == some .lt) = false) (t2 : FloatKind.f64.format.order tv 4751297606875873280 = some o) (w : World) :
    Say 211 #[.int .i64 64, .int .i64 32, .bool false, .bool true, .int .u64 (a : Int)] w (.tuple #[.int .u64 4294967295, .int .i64 0]) := by
  have hm := mul_31
  have hng := neg_31
  have HC : ∀ W, Hid (Calls Tryz.prog 81 #[.int .i64 32, .int .u64 18446744073709551615] W fun e w' => e = .returned (.int .u64 4294967295) ∧ W = w') := fun W => hid (Cut_any 32 (.inl rfl) 18446744073709551615 (by decide) W)
  rcases ho with rfl | rfl
  all_goals
    go_enter Tryz.func211, Tryz.ntmps211
    go_wp2_with (first
      | (go_at_call 251; ((with_reducible refine (HVA _).out.mono ?_); rintro e w1 ⟨rfl, hb⟩))
      | (go_at_call 221; ((with_reducible refine (HT _).out.mono ?_); rintro e w2 ⟨rfl, rfl⟩))
      | (go_at_call 81; ((with_reducible refine (HC _).out.mono ?_); rintro e w3 ⟨rfl, rfl⟩)))
    go_ret2
    exact ⟨rfl, hb⟩

theorem RT_64_32_false_C2 (a v tv : Nat) (sat : Bool) (M : Nat) (hM : M < 18446744073709551616) (hcv : floatToIntVal .f64 tv .i64 = some (M : Int))
    (HVA : ∀ W, Hid (Calls Tryz.prog 251 #[.int .i64 64, .int .u64 (a : Int)] W fun e w' => e = .returned (.float .f64 v) ∧ Below W.heap.size W w'))
    (HT : ∀ W, Hid (Calls Tryz.prog 221 #[.float .f64 v] W fun e w' => e = .returned (.float .f64 tv) ∧ W = w'))
    (t0 : (FloatKind.f64.format.order v v != some .eq) = false)
    (t1 : (FloatKind.f64.format.order tv 0 == some .lt) = false) (t2 : FloatKind.f64.format.order tv 4751297606875873280 = some .lt) (t4 : FloatKind.f64.format.order tv 4890909195324358656 = some .lt) (w : World) :
    Say 211 #[.int .i64 64, .int .i64 32, .bool false, .bool sat, .int .u64 (a : Int)] w (.tuple #[.int .u64 (M : Int), .int .i64 0]) := by
  have hm := mul_31
  have hng := neg_31
  have hcc : ∀ W : World, (convert 159 2 (.float .f64 tv)).run Tryz.prog W = .ok (.int .i64 (M : Int)) W := fun W => run_convert_float_int W 159 2 .f64 .i64 tv M (by kernel_rfl) (by kernel_rfl) hcv
  have hw : IntKind.u64.wrap (M : Int) = (M : Int) := wrap_nat hM
  clear hcv hM
  go_enter Tryz.func211, Tryz.ntmps211
  go_wp2_with (first
    | (go_at_call 251; ((with_reducible refine (HVA _).out.mono ?_); rintro e w1 ⟨rfl, hb⟩))
    | (go_at_call 221; ((with_reducible refine (HT _).out.mono ?_); rintro e w2 ⟨rfl, rfl⟩)))
  go_ret2
  exact ⟨rfl, hb⟩

theorem RT_64_64_true_A0 (a v tv : Nat)
    (HVA : ∀ W, Hid (Calls Tryz.prog 251 #[.int .i64 64, .int .u64 (a : Int)] W fun e w' => e = .returned (.float .f64 v) ∧ Below W.heap.size W w'))
    (HT : ∀ W, Hid (Calls Tryz.prog 221 #[.float .f64 v] W fun e w' => e = .returned (.float .f64 tv) ∧ W = w'))
    (t0 : (FloatKind.f64.format.order v v != some .eq) = false)
    (t1 : FloatKind.f64.format.order tv 14114281232179134464 = some .lt) (w : World) :
    Say 211 #[.int .i64 64, .int .i64 64, .bool true, .bool false, .int .u64 (a : Int)] w (.tuple #[.int .u64 0, .int .i64 42]) := by
  have hm := mul_63
  have hng := neg_63
  go_enter Tryz.func211, Tryz.ntmps211
  go_wp2_with (first
    | (go_at_call 251; ((with_reducible refine (HVA _).out.mono ?_); rintro e w1 ⟨rfl, hb⟩))
    | (go_at_call 221; ((with_reducible refine (HT _).out.mono ?_); rintro e w2 ⟨rfl, rfl⟩)))
  go_ret2
  exact ⟨rfl, hb⟩

theorem RT_64_64_true_A1 (a v tv : Nat)
    (HVA : ∀ W, Hid (Calls Tryz.prog 251 #[.int .i64 64, .int .u64 (a : Int)] W fun e w' => e = .returned (.float .f64 v) ∧ Below W.heap.size W w'))
    (HT : ∀ W, Hid (Calls Tryz.prog 221 #[.float .f64 v] W fun e w' => e = .returned (.float .f64 tv) ∧ W = w'))
    (t0 : (FloatKind.f64.format.order v v != some .eq) = false)
    (t1 : FloatKind.f64.format.order tv 14114281232179134464 = some .lt) (w : World) :
    Say 211 #[.int .i64 64, .int .i64 64, .bool true, .bool true, .int .u64 (a : Int)] w (.tuple #[.int .u64 9223372036854775808, .int .i64 0]) := by
  have hm := mul_63
  have hng := neg_63
  have HC : ∀ W, Hid (Calls Tryz.prog 81 #[.int .i64 64, .int .u64 18446744073709551615] W fun e w' => e = .returned (.int .u64 18446744073709551615) ∧ W = w') := fun W => hid (Cut_any 64 (.inr rfl) 18446744073709551615 (by decide) W)
  go_enter Tryz.func211, Tryz.ntmps211
  go_wp2_with (first
    | (go_at_call 251; ((with_reducible refine (HVA _).out.mono ?_); rintro e w1 ⟨rfl, hb⟩))
    | (go_at_call 221; ((with_reducible refine (HT _).out.mono ?_); rintro e w2 ⟨rfl, rfl⟩))
    | (go_at_call 81; ((with_reducible refine (HC _).out.mono ?_); rintro e w3 ⟨rfl, rfl⟩)))
  go_ret2
  exact ⟨rfl, hb⟩

theorem RT_64_64_true_B0 (a v tv : Nat) (o : Ordering) (ho : o = .gt ∨ o = .eq)
    (HVA : ∀ W, Hid (Calls Tryz.prog 251 #[.int .i64 64, .int .u64 (a : Int)] W fun e w' => e = .returned (.float .f64 v) ∧ Below W.heap.size W w'))
    (HT : ∀ W, Hid (Calls Tryz.prog 221 #[.float .f64 v] W fun e w' => e = .returned (.float .f64 tv) ∧ W = w'))
    (t0 : (FloatKind.f64.format.order v v != some .eq) = false)
    (t1 : (FloatKind.f64.format.order tv 14114281232179134464 == some .lt) = false) (t2 : FloatKind.f64.format.order tv 4890909195324358656 = some o) (w : World) :
    Say 211 #[.int .i64 64, .int .i64 64, .bool true, .bool false, .int .u64 (a : Int)] w (.tuple #[.int .u64 0, .int .i64 42]) := by
  have hm := mul_63
  have hng := neg_63
  rcases ho with rfl | rfl
  all_goals
    go_enter Tryz.func211, Tryz.ntmps211
    go_wp2_with (first
      | (go_at_call 251; ((with_reducible refine (HVA _).out.mono ?_); rintro e w1 ⟨rfl, hb⟩))
      | (go_at_call 221; ((with_reducible refine (HT _).out.mono ?_); rintro e w2 ⟨rfl, rfl⟩)))
    go_ret2
    exact ⟨rfl, hb⟩

theorem RT_64_64_true_B1 (a v tv : Nat) (o : Ordering) (ho : o = .gt ∨ o = .eq)
    (HVA : ∀ W, Hid (Calls Tryz.prog 251 #[.int .i64 64, .int .u64 (a : Int)] W fun e w' => e = .returned (.float .f64 v) ∧ Below W.heap.size W w'))
    (HT : ∀ W, Hid (Calls Tryz.prog 221 #[.float .f64 v] W fun e w' => e = .returned (.float .f64 tv) ∧ W = w'))
    (t0 : (FloatKind.f64.format.order v v != some .eq) = false)
    (t1 : (FloatKind.f64.format.order tv 14114281232179134464 == some .lt) = false) (t2 : FloatKind.f64.format.order tv 4890909195324358656 = some o) (w : World) :
    Say 211 #[.int .i64 64, .int .i64 64, .bool true, .bool true, .int .u64 (a : Int)] w (.tuple #[.int .u64 9223372036854775807, .int .i64 0]) := by
  have hm := mul_63
  have hng := neg_63
  have HC : ∀ W, Hid (Calls Tryz.prog 81 #[.int .i64 64, .int .u64 18446744073709551615] W fun e w' => e = .returned (.int .u64 18446744073709551615) ∧ W = w') := fun W => hid (Cut_any 64 (.inr rfl) 18446744073709551615 (by decide) W)
  rcases ho with rfl | rfl
  all_goals
    go_enter Tryz.func211, Tryz.ntmps211
    go_wp2_with (first
      | (go_at_call 251; ((with_reducible refine (HVA _).out.mono ?_); rintro e w1 ⟨rfl, hb⟩))
      | (go_at_call 221; ((with_reducible refine (HT _).out.mono ?_); rintro e w2 ⟨rfl, rfl⟩))
      | (go_at_call 81; ((with_reducible refine (HC _).out.mono ?_); rintro e w3 ⟨rfl, rfl⟩)))
    go_ret2
    exact ⟨rfl, hb⟩

theorem RT_64_64_true_C1 (a v tv : Nat) (sat : Bool) (Z : Int) (z r : Nat) (hz : IntKind.u64.wrap Z = (z : Int)) (hcv : floatToIntVal .f64 tv .i64 = some Z)
    (HVA : ∀ W, Hid (Calls Tryz.prog 251 #[.int .i64 64, .int .u64 (a : Int)] W fun e w' => e = .returned (.float .f64 v) ∧ Below W.heap.size W w'))
    (HT : ∀ W, Hid (Calls Tryz.prog 221 #[.float .f64 v] W fun e w' => e = .returned (.float .f64 tv) ∧ W = w'))
    (t0 : (FloatKind.f64.format.order v v != some .eq) = false)
    (t1 : (FloatKind.f64.format.order tv 14114281232179134464 == some .lt) = false) (t2 : FloatKind.f64.format.order tv 4890909195324358656 = some .lt) (t3 : FloatKind.f64.format.order tv 0 = some .lt)
    (HC : ∀ W, Hid (Calls Tryz.prog 81 #[.int .i64 64, .int .u64 (z : Int)] W fun e w' => e = .returned (.int .u64 (r : Int)) ∧ W = w')) (w : World) :
    Say 211 #[.int .i64 64, .int .i64 64, .bool true, .bool sat, .int .u64 (a : Int)] w (.tuple #[.int .u64 (r : Int), .int .i64 0]) := by
  have hm := mul_63
  have hng := neg_63
  have hcc : ∀ W : World, (convert 159 2 (.float .f64 tv)).run Tryz.prog W = .ok (.int .i64 Z) W := fun W => run_convert_float_int W 159 2 .f64 .i64 tv Z (by kernel_rfl) (by kernel_rfl) hcv
  clear hcv
  go_enter Tryz.func211, Tryz.ntmps211
  go_wp2_with (first
    | (go_at_call 251; ((with_reducible refine (HVA _).out.mono ?_); rintro e w1 ⟨rfl, hb⟩))
    | (go_at_call 221; ((with_reducible refine (HT _).out.mono ?_); rintro e w2 ⟨rfl, rfl⟩))
    | (go_at_call 81; ((with_reducible refine (HC _).out.mono ?_); rintro e w3 ⟨rfl, rfl⟩)))
  go_ret2
  exact ⟨rfl, hb⟩

theorem RT_64_64_true_C2 (a v tv : Nat) (sat : Bool) (M : Nat) (hM : M < 18446744073709551616) (hcv : floatToIntVal .f64 tv .i64 = some (M : Int))
    (HVA : ∀ W, Hid (Calls Tryz.prog 251 #[.int .i64 64, .int .u64 (a : Int)] W fun e w' => e = .returned (.float .f64 v) ∧ Below W.heap.size W w'))
    (HT : ∀ W, Hid (Calls Tryz.prog 221 #[.float .f64 v] W fun e w' => e = .returned (.float .f64 tv) ∧ W = w'))
    (t0 : (FloatKind.f64.format.order v v != some .eq) = false)
    (t1 : (FloatKind.f64.format.order tv 14114281232179134464 == some .lt) = false) (t2 : FloatKind.f64.format.order tv 4890909195324358656 = some .lt) (t3 : (FloatKind.f64.format.order tv 0 == some .lt) = false) (w : World) :
    Say 211 #[.int .i64 64, .int .i64 64, .bool true, .bool sat, .int .u64 (a : Int)] w (.tuple #[.int .u64 (M : Int), .int .i64 0]) := by
  have hm := mul_63
  have hng := neg_63
  have hcc : ∀ W : World, (convert 159 2 (.float .f64 tv)).run Tryz.prog W = .ok (.int .i64 (M : Int)) W := fun W => run_convert_float_int W 159 2 .f64 .i64 tv M (by kernel_rfl) (by kernel_rfl) hcv
  have hw : IntKind.u64.wrap (M : Int) = (M : Int) := wrap_nat hM
  clear hcv hM
  go_enter Tryz.func211, Tryz.ntmps211
  go_wp2_with (first
    | (go_at_call 251; ((with_reducible refine (HVA _).out.mono ?_); rintro e w1 ⟨rfl, hb⟩))
    | (go_at_call 221; ((with_reducible refine (HT _).out.mono ?_); rintro e w2 ⟨rfl, rfl⟩)))
  go_ret2
  exact ⟨rfl, hb⟩

theorem RT_64_64_false_A0 (a v tv : Nat)
    (HVA : ∀ W, Hid (Calls Tryz.prog 251 #[.int .i64 64, .int .u64 (a : Int)] W fun e w' => e = .returned (.float .f64 v) ∧ Below W.heap.size W w'))
    (HT : ∀ W, Hid (Calls Tryz.prog 221 #[.float .f64 v] W fun e w' => e = .returned (.float .f64 tv) ∧ W = w'))
    (t0 : (FloatKind.f64.format.order v v != some .eq) = false)
    (t1 : FloatKind.f64.format.order tv 0 = some .lt) (w : World) :
    Say 211 #[.int .i64 64, .int .i64 64, .bool false, .bool false, .int .u64 (a : Int)] w (.tuple #[.int .u64 0, .int .i64 42]) := by
  have hm := mul_63
  have hng := neg_63
  go_enter Tryz.func211, Tryz.ntmps211
  go_wp2_with (first
    | (go_at_call 251; ((with_reducible refine (HVA _).out.mono ?_); rintro e w1 ⟨rfl, hb⟩))
    | (go_at_call 221; ((with_reducible refine (HT _).out.mono ?_); rintro e w2 ⟨rfl, rfl⟩)))
  go_ret2
  exact ⟨rfl, hb⟩

theorem RT_64_64_false_A1 (a v tv : Nat)
    (HVA : ∀ W, Hid (Calls Tryz.prog 251 #[.int .i64 64, .int .u64 (a : Int)] W fun e w' => e = .returned (.float .f64 v) ∧ Below W.heap.size W w'))
    (HT : ∀ W, Hid (Calls Tryz.prog 221 #[.float .f64 v] W fun e w' => e = .returned (.float .f64 tv) ∧ W = w'))
    (t0 : (FloatKind.f64.format.order v v != some .eq) = false)
    (t1 : FloatKind.f64.format.order tv 0 = some .lt) (w : World) :
    Say 211 #[.int .i64 64, .int .i64 64, .bool false, .bool true, .int .u64 (a : Int)] w (.tuple #[.int .u64 0, .int .i64 0]) := by
  have hm := mul_63
  have hng := neg_63
  have HC : ∀ W, Hid (Calls Tryz.prog 81 #[.int .i64 64, .int .u64 18446744073709551615] W fun e w' => e = .returned (.int .u64 18446744073709551615) ∧ W = w') := fun W => hid (Cut_any 64 (.inr rfl) 18446744073709551615 (by decide) W)
  go_enter Tryz.func211, Tryz.ntmps211
  go_wp2_with (first
    | (go_at_call 251; ((with_reducible refine (HVA _).out.mono ?_); rintro e w1 ⟨rfl, hb⟩))
    | (go_at_call 221; ((with_reducible refine (HT _).out.mono ?_); rintro e w2 ⟨rfl, rfl⟩))
    | (go_at_call 81; ((with_reducible refine (HC _).out.mono ?_); rintro e w3 ⟨rfl, rfl⟩)))
  go_ret2
  exact ⟨rfl, hb⟩

theorem RT_64_64_false_B0 (a v tv : Nat) (o : Ordering) (ho : o = .gt ∨ o = .eq)
    (HVA : ∀ W, Hid (Calls Tryz.prog 251 #[.int .i64 64, .int .u64 (a : Int)] W fun e w' => e = .returned (.float .f64 v) ∧ Below W.heap.size W w'))
    (HT : ∀ W, Hid (Calls Tryz.prog 221 #[.float .f64 v] W fun e w' => e = .returned (.float .f64 tv) ∧ W = w'))
    (t0 : (FloatKind.f64.format.order v v != some .eq) = false)
    (t1 : (FloatKind.f64.format.order tv 0 == some .lt) = false) (t2 : FloatKind.f64.format.order tv 4895412794951729152 = some o) (w : World) :
    Say 211 #[.int .i64 64, .int .i64 64, .bool false, .bool false, .int .u64 (a : Int)] w (.tuple #[.int .u64 0, .int .i64 42]) := by
  have hm := mul_63
  have hng := neg_63
  rcases ho with rfl | rfl
  all_goals
    go_enter Tryz.func211, Tryz.ntmps211
    go_wp2_with (first
      | (go_at_call 251; ((with_reducible refine (HVA _).out.mono ?_); rintro e w1 ⟨rfl, hb⟩))
      | (go_at_call 221; ((with_reducible refine (HT _).out.mono ?_); rintro e w2 ⟨rfl, rfl⟩)))
    go_ret2
    exact ⟨rfl, hb⟩

theorem RT_64_64_false_B1 (a v tv : Nat) (o : Ordering) (ho : o = .gt ∨ o = .eq)
    (HVA : ∀ W, Hid (Calls Tryz.prog 251 #[.int .i64 64, .int .u64 (a : Int)] W fun e w' => e = .returned (.float .f64 v) ∧ Below W.heap.size W w'))
    (HT : ∀ W, Hid (Calls Tryz.prog 221 #[.float .f64 v] W fun e w' => e = .returned (.float .f64 tv) ∧ W = w'))
    (t0 : (FloatKind.f64.format.order v v != some .eq) = false)
    (t1 : (FloatKind.f64.format.order tv 0 == some .lt) = false) (t2 : FloatKind.f64.format.order tv 4895412794951729152 = some o) (w : World) :
    Say 211 #[.int .i64 64, .int .i64 64, .bool false, .bool true, .int .u64 (a : Int)] w (.tuple #[.int .u64 18446744073709551615, .int .i64 0]) := by
  have hm := mul_63
  have hng := neg_63
  have HC : ∀ W, Hid (Calls Tryz.prog 81 #[.int .i64 64, .int .u64 18446744073709551615] W fun e w' => e = .returned (.int .u64 18446744073709551615) ∧ W = w') := fun W => hid (Cut_any 64 (.inr rfl) 18446744073709551615 (by decide) W)
  rcases ho with rfl | rfl
  all_goals
    go_enter Tryz.func211, Tryz.ntmps211
    go_wp2_with (first
      | (go_at_call 251; ((with_reducible refine (HVA _).out.mono ?_); rintro e w1 ⟨rfl, hb⟩))
      | (go_at_call 221; ((with_reducible refine (HT _).out.mono ?_); rintro e w2 ⟨rfl, rfl⟩))
      | (go_at_call 81; ((with_reducible refine (HC _).out.mono ?_); rintro e w3 ⟨rfl, rfl⟩)))
    go_ret2
    exact ⟨rfl, hb⟩

theorem RT_64_64_false_C2 (a v tv : Nat) (sat : Bool) (M : Nat) (hM : M < 18446744073709551616) (hcv : floatToIntVal .f64 tv .i64 = some (M : Int))
    (HVA : ∀ W, Hid (Calls Tryz.prog 251 #[.int .i64 64, .int .u64 (a : Int)] W fun e w' => e = .returned (.float .f64 v) ∧ Below W.heap.size W w'))
    (HT : ∀ W, Hid (Calls Tryz.prog 221 #[.float .f64 v] W fun e w' => e = .returned (.float .f64 tv) ∧ W = w'))
    (t0 : (FloatKind.f64.format.order v v != some .eq) = false)
    (t1 : (FloatKind.f64.format.order tv 0 == some .lt) = false) (t2 : FloatKind.f64.format.order tv 4895412794951729152 = some .lt) (t4 : FloatKind.f64.format.order tv 4890909195324358656 = some .lt) (w : World) :
    Say 211 #[.int .i64 64, .int .i64 64, .bool false, .bool sat, .int .u64 (a : Int)] w (.tuple #[.int .u64 (M : Int), .int .i64 0]) := by
  have hm := mul_63
  have hng := neg_63
  have hcc : ∀ W : World, (convert 159 2 (.float .f64 tv)).run Tryz.prog W = .ok (.int .i64 (M : Int)) W := fun W => run_convert_float_int W 159 2 .f64 .i64 tv M (by kernel_rfl) (by kernel_rfl) hcv
  have hw : IntKind.u64.wrap (M : Int) = (M : Int) := wrap_nat hM
  clear hcv hM
  go_enter Tryz.func211, Tryz.ntmps211
  go_wp2_with (first
    | (go_at_call 251; ((with_reducible refine (HVA _).out.mono ?_); rintro e w1 ⟨rfl, hb⟩))
    | (go_at_call 221; ((with_reducible refine (HT _).out.mono ?_); rintro e w2 ⟨rfl, rfl⟩)))
  go_ret2
  exact ⟨rfl, hb⟩

theorem RT_64_64_false_C3 (a v tv : Nat) (sat : Bool) (o : Ordering) (ho : o = .gt ∨ o = .eq) (M r : Nat) (d : Int) (h1 : Ieee.double.sub tv 4890909195324358656 = some r) (h2 : floatToIntVal .f64 r .i64 = some d) (h3 : IntKind.u64.wrap (IntKind.u64.wrap d + 9223372036854775808) = (M : Int))
    (HVA : ∀ W, Hid (Calls Tryz.prog 251 #[.int .i64 64, .int .u64 (a : Int)] W fun e w' => e = .returned (.float .f64 v) ∧ Below W.heap.size W w'))
    (HT : ∀ W, Hid (Calls Tryz.prog 221 #[.float .f64 v] W fun e w' => e = .returned (.float .f64 tv) ∧ W = w'))
    (t0 : (FloatKind.f64.format.order v v != some .eq) = false)
    (t1 : (FloatKind.f64.format.order tv 0 == some .lt) = false) (t2 : FloatKind.f64.format.order tv 4895412794951729152 = some .lt) (t4 : FloatKind.f64.format.order tv 4890909195324358656 = some o) (w : World) :
    Say 211 #[.int .i64 64, .int .i64 64, .bool false, .bool sat, .int .u64 (a : Int)] w (.tuple #[.int .u64 (M : Int), .int .i64 0]) := by
  have hm := mul_63
  have hng := neg_63
  have hcc : ∀ W : World, (convert 159 2 (.float .f64 r)).run Tryz.prog W = .ok (.int .i64 d) W := fun W => run_convert_float_int W 159 2 .f64 .i64 r d (by kernel_rfl) (by kernel_rfl) h2
  have hsb : ∀ W : World, (binOp .sub 159 (.float .f64 tv) (.float .f64 4890909195324358656)).run Tryz.prog W = .ok (.float .f64 r) W := fun W => run_float_arith W .sub 45 .f64 _ _ _ h1
  clear h1 h2
  rcases ho with rfl | rfl
  all_goals
    go_enter Tryz.func211, Tryz.ntmps211
    go_wp2_with (first
      | (go_at_call 251; ((with_reducible refine (HVA _).out.mono ?_); rintro e w1 ⟨rfl, hb⟩))
      | (go_at_call 221; ((with_reducible refine (HT _).out.mono ?_); rintro e w2 ⟨rfl, rfl⟩)))
    go_ret2
    exact ⟨rfl, hb⟩

end Go.Proofs.YtlhakbkdlgejpaaGreatDoor.Fl
