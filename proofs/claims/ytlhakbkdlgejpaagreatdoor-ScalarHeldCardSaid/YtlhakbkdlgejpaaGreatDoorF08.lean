/-
  FRVal, FRKind, FRRel, FCSmall: merged (each text says what it holds where it lies in wip). No condition.
-/
import Derived.Test.YtlhakbkdlgejpaaGreatDoorF07
import Derived.Laws.FloatArith
import Derived.Laws.Externs
import Derived.Laws.NewFold
import Derived.Test.YtlhakbkdlgejpaaGreatDoorF06
import Derived.Deep.DeepCutAuto
set_option linter.unusedSimpArgs false
set_option linter.unusedVariables false
set_option maxRecDepth 100000
namespace Go.Proofs.YtlhakbkdlgejpaaGreatDoor.Fl
open Go.RowKit

theorem ext67 (n : Int) (w : World) : (callFunc 262 #[.int .u32 n]).run Tryz.prog w = .ok (.value (.float .f32 n.toNat)) w := by
  have := run_callFunc_extern (P := Tryz.prog) (e := Extern.MathFloatBits.float32frombits) Tryz.func262 (by kernel_rfl) (by kernel_rfl) (by kernel_rfl) (by kernel_rfl) #[.int .u32 n] w
  rw [this]; rfl

theorem ext79 (n : Int) (w : World) : (callFunc 271 #[.int .u64 n]).run Tryz.prog w = .ok (.value (.float .f64 n.toNat)) w := by
  have := run_callFunc_extern (P := Tryz.prog) (e := Extern.MathFloatBits.float64frombits) Tryz.func271 (by kernel_rfl) (by kernel_rfl) (by kernel_rfl) (by kernel_rfl) #[.int .u64 n] w
  rw [this]; rfl

theorem F32_any (a : Nat) (w : World) : Calls Tryz.prog 227 #[.int .u64 a] w fun e w' => e = .returned (.float .f32 (a % 4294967296)) ∧ w = w' := by
  obtain ⟨c, hc⟩ : ∃ c : Nat, c = a % 4294967296 := ⟨_, rfl⟩
  have hw : IntKind.u32.wrap (a : Int) = (c : Int) := by
    have : IntKind.u32.wrap (a : Int) = (a : Int) % 4294967296 := by simp [IntKind.wrap, IntKind.bits, IntKind.signed]
    rw [this]; omega
  have hx : ∀ W : World, (callFunc 262 #[.int .u32 (c : Int)]).run Tryz.prog W = .ok (.value (.float .f32 c)) W := fun W => ext67 c W
  rw [← hc]
  clear hc
  go_enter Tryz.func227, Tryz.ntmps227
  go_wp2
  go_ret
  exact ⟨rfl, rfl⟩

theorem F64_any (a : Nat) (w : World) : Calls Tryz.prog 252 #[.int .u64 a] w fun e w' => e = .returned (.float .f64 a) ∧ w = w' := by
  have hx : ∀ W : World, (callFunc 271 #[.int .u64 (a : Int)]).run Tryz.prog W = .ok (.value (.float .f64 a)) W := fun W => ext79 a W
  go_enter Tryz.func252, Tryz.ntmps252
  go_wp2
  go_ret
  exact ⟨rfl, rfl⟩

/-- A float of 32 bits that is no NaN, as one of 64. -/
theorem conv_ok (c : Nat) (hc : c < 2 * 2147483648) (h : c % 2147483648 ≤ 2139095040) (w : World) : (convert 164 159 (.float .f32 c)).run Tryz.prog w = .ok (.float .f64 (vS c)) w := by
  refine run_convert_float_float w 164 159 .f32 .f64 c (vS c) (by kernel_rfl) (by kernel_rfl) ?_
  unfold floatToFloatBits
  rw [if_neg (by decide)]
  show (match Ieee.single.read c with | .nan _ _ => none | .infinity s => some (Ieee.double.write (.infinity s)) | .number s m e => if (Ieee.double.read (Ieee.double.write (.number s m e))).isInfinity then none else some (Ieee.double.write (.number s m e))) = some (vS c)
  rcases (vS_read hc h).1 with ⟨x1, x2, x3⟩ | ⟨x1, x2, x3⟩
  · have hv : vS c = Ieee.double.write (.number (decide (2147483648 ≤ c)) (pm 23 (c % 2147483648)) (pe 23 (-149) (c % 2147483648))) := by unfold vS; rw [x3]
    rw [x3]
    simp only []
    rw [← hv, x2]
    have : (wideD (decide (2147483648 ≤ c)) (pm 23 (c % 2147483648)) (pe 23 (-149) (c % 2147483648))).isInfinity = false := by unfold wideD; split <;> rfl
    rw [this]; rfl
  · have hv : vS c = Ieee.double.write (.infinity (decide (2147483648 ≤ c))) := by unfold vS; rw [x3]
    rw [x3, hv]

/-- A NaN of 32 bits as one of 64: its bits are open, but it is one. -/
theorem conv_nan (c : Nat) (h : 2139095040 < c % 2147483648) (w : World) : ∃ v : Nat, (convert 164 159 (.float .f32 c)).run Tryz.prog w = .ok (.float .f64 v) w.drew ∧ 9218868437227405312 < v % 9223372036854775808 := by
  obtain ⟨s, t, hr⟩ := read_nan (f := Ieee.single) (a := c) (SB := 2147483648) rfl (by decide) h
  have hd : FloatKind.f32.decode c = .nan s t := hr
  have hu : Tryz.prog.underlying 159 = some (.float .f64) := by kernel_rfl
  have hs : Tryz.prog.underlying 164 = some (.float .f32) := by kernel_rfl
  refine ⟨Question.cut (.nanConv .f64 c) (w.tape w.drawn (.nanConv .f64 c)), ?_, ?_⟩
  · simp [convert, run_underlying hs, run_underlying hu, Conv.floatToFloat, hd, run_choose_drew, Question.forced]
  · generalize w.tape w.drawn (.nanConv .f64 c) = t
    show 9218868437227405312 < ((t % 2) * 2 ^ 63 + 0x7ff0000000000000 + 1 + (t / 2) % (2 ^ 52 - 1)) % 9223372036854775808
    have h1 : (t / 2) % (2 ^ 52 - 1) < 4503599627370495 := Nat.mod_lt _ (by decide)
    have h2 : t % 2 = 0 ∨ t % 2 = 1 := by omega
    generalize (t / 2) % (2 ^ 52 - 1) = r at *
    rcases h2 with h2 | h2 <;> rw [h2] <;> omega

/-- A value for a word. -/
def VPost (SB INF a : Nat) (w : World) (e : Ending) (w' : World) : Prop := ∃ v : Nat, e = .returned (.float .f64 v) ∧ ValOf SB INF a v ∧ Below w.heap.size w w'

theorem value_32 (a : Nat) (w : World) : Calls Tryz.prog 215 #[.int .i64 32, .int .u64 a] w (VPost 2147483648 2139095040 (a % 4294967296) w) := by
  have HF := fun w => hid (F32_any a w)
  have hlt : a % 4294967296 < 2 * 2147483648 := by omega
  generalize a % 4294967296 = c at *
  by_cases h : 2139095040 < c % 2147483648
  · obtain ⟨v, hx, hv⟩ := conv_nan c h w
    have HV := hid (And.intro h hv)
    clear h hv hlt
    go_enter Tryz.func215, Tryz.ntmps215
    go_wp2_with (go_at_call 227; ((with_reducible refine (HF _).out.mono ?_); rintro e w1 ⟨rfl, rfl⟩))
    go_ret
    exact ⟨v, rfl, .inl HV.out, (Below.refl _ _).drew⟩
  · have hx : ∀ W : World, (convert 164 159 (.float .f32 c)).run Tryz.prog W = .ok (.float .f64 (vS c)) W := fun W => conv_ok c hlt (by omega) W
    have hr := vS_read hlt (by omega)
    have HV : Hid (ValOf 2147483648 2139095040 c (vS c)) := hid (.inr ⟨by omega, hr.2.2, .inl ⟨rfl, rfl, rfl⟩⟩)
    generalize vS c = v at *
    clear h hr hlt
    go_enter Tryz.func215, Tryz.ntmps215
    go_wp2_with (go_at_call 227; ((with_reducible refine (HF _).out.mono ?_); rintro e w1 ⟨rfl, rfl⟩))
    go_ret
    exact ⟨v, rfl, HV.out, Below.refl _ _⟩

theorem value_64 (a : Nat) (ha : a < 18446744073709551616) (w : World) : Calls Tryz.prog 215 #[.int .i64 64, .int .u64 a] w (VPost 9223372036854775808 9218868437227405312 a w) := by
  have HV : Hid (ValOf 9223372036854775808 9218868437227405312 a a) := hid (by
    by_cases h : 9218868437227405312 < a % 9223372036854775808
    · exact .inl ⟨h, h⟩
    · exact .inr ⟨by omega, by omega, .inr ⟨rfl, rfl, rfl⟩⟩)
  go_enter Tryz.func215, Tryz.ntmps215
  go_wp2_with (go_at_call 252; ((with_reducible refine (F64_any _ _).mono ?_); rintro e w1 ⟨rfl, rfl⟩))
  go_ret
  exact ⟨a, rfl, HV.out, Below.refl _ _⟩

theorem rcut_32 (a : Nat) (w : World) : Calls Tryz.prog 216 #[.int .i64 32, .int .u64 a] w fun e w' => e = .returned (.int .u64 ((a % 4294967296 : Nat) : Int)) ∧ w = w' := by
  obtain ⟨c, hc⟩ : ∃ c : Nat, c = a % 4294967296 := ⟨_, rfl⟩
  have hw : (a : Int) % 4294967296 = (c : Int) := by omega
  rw [← hc]
  clear hc
  go_enter Tryz.func216, Tryz.ntmps216
  go_wp2
  go_ret
  exact ⟨congrArg (fun x => Ending.returned (.int .u64 x)) hw, rfl⟩

theorem rcut_64 (a : Nat) (ha : a < 18446744073709551616) (w : World) : Calls Tryz.prog 216 #[.int .i64 64, .int .u64 a] w fun e w' => e = .returned (.int .u64 ((a % 18446744073709551616 : Nat) : Int)) ∧ w = w' := by
  rw [Nat.mod_eq_of_lt ha]
  go_enter Tryz.func216, Tryz.ntmps216
  go_wp2
  go_ret
  exact ⟨rfl, rfl⟩

theorem rcan_32 (w : World) : Calls Tryz.prog 225 #[.int .i64 32] w fun e w' => e = .returned (.int .u64 2143289344) ∧ w = w' := by
  go_enter Tryz.func225, Tryz.ntmps225
  go_wp2
  go_ret
  exact ⟨rfl, rfl⟩

theorem rcan_64 (w : World) : Calls Tryz.prog 225 #[.int .i64 64] w fun e w' => e = .returned (.int .u64 9221120237041090560) ∧ w = w' := by
  go_enter Tryz.func225, Tryz.ntmps225
  go_wp2
  go_ret
  exact ⟨rfl, rfl⟩

theorem rcan_no (b : Int) (h1 : b ≠ 32) (h2 : b ≠ 64) (w : World) : Calls Tryz.prog 225 #[.int .i64 b] w fun e w' => e = .returned (.int .u64 0) ∧ w = w' := by
  have e1 : (b == 32) = false := by simpa using h1
  have e2 : (b == 64) = false := by simpa using h2
  clear h1 h2
  go_enter Tryz.func225, Tryz.ntmps225
  go_wp2
  go_ret
  exact ⟨rfl, rfl⟩

end Go.Proofs.YtlhakbkdlgejpaaGreatDoor.Fl
namespace Go.Proofs.YtlhakbkdlgejpaaGreatDoor.Fl
open Go.RowKit

theorem rkind_cases {INF s : Nat} : kindOf INF s = 4 ∨ kindOf INF s = 3 ∨ kindOf INF s = 1 ∨ kindOf INF s = 2 := by
  unfold kindOf; split
  · simp
  · split
    · simp
    · split <;> simp

theorem val_zero {SB INF : Nat} (h : SB = 2147483648 ∧ INF = 2139095040 ∨ SB = 9223372036854775808 ∧ INF = 9218868437227405312) : ValOf SB INF 0 0 := by
  rcases h with ⟨rfl, rfl⟩ | ⟨rfl, rfl⟩
  · exact .inr ⟨by decide, by decide, .inl ⟨rfl, rfl, by decide +kernel⟩⟩
  · exact .inr ⟨by decide, by decide, .inr ⟨rfl, rfl, rfl⟩⟩

theorem val_sub_fin {SB INF c v : Nat} (h : SB = 2147483648 ∧ INF = 2139095040 ∨ SB = 9223372036854775808 ∧ INF = 9218868437227405312) (hc : c < 2 * SB) (hv : ValOf SB INF c v) (hf : c % SB < INF) : Ieee.double.sub v v = some 0 := by
  have hnum : ∃ s m e, Ieee.double.read v = .number s m e := by
    rcases hv with ⟨h1, _⟩ | ⟨h1, h2, h3⟩
    · omega
    · rcases h3 with ⟨rfl, rfl, rfl⟩ | ⟨rfl, rfl, rfl⟩
      · rcases (vS_read hc h1).1 with ⟨x1, x2, x3⟩ | ⟨x1, x2, x3⟩
        · rw [x2]; unfold wideD; split <;> exact ⟨_, _, _, rfl⟩
        · omega
      · exact ⟨_, _, _, read_fin fmt_double.sb fmt_double.fr fmt_double.lp hc hf⟩
  obtain ⟨s, m, e, hr⟩ := hnum
  unfold Ieee.Format.sub
  rw [hr]
  have h0 : Ieee.signed s m (e - e).toNat + Ieee.signed (!s) m (e - e).toNat = 0 := by
    unfold Ieee.signed; cases s <;> simp <;> omega
  simp only [Ieee.Datum.opposite, Ieee.Datum.sum, Int.min_self, h0, if_true, Option.map_some, Ieee.Format.write]
  cases s <;> rfl

theorem val_sub_inf {SB INF c v : Nat} (h : SB = 2147483648 ∧ INF = 2139095040 ∨ SB = 9223372036854775808 ∧ INF = 9218868437227405312) (hc : c < 2 * SB) (hv : ValOf SB INF c v) (hf : c % SB = INF) : Ieee.double.sub v v = none := by
  have hinf : ∃ s, Ieee.double.read v = .infinity s := by
    rcases hv with ⟨h1, _⟩ | ⟨h1, h2, h3⟩
    · omega
    · rcases h3 with ⟨rfl, rfl, rfl⟩ | ⟨rfl, rfl, rfl⟩
      · rcases (vS_read hc h1).1 with ⟨x1, x2, x3⟩ | ⟨x1, x2, x3⟩
        · omega
        · exact ⟨_, x2⟩
      · exact ⟨_, read_inf fmt_double.sb hc fmt_double.bi hf⟩
  obtain ⟨s, hr⟩ := hinf
  unfold Ieee.Format.sub
  rw [hr]
  cases s <;> rfl

/-- An operation that has no answer: a NaN, whose bits are open. -/
theorem sub_nan (v : Nat) (h : Ieee.double.sub v v = none) (w : World) : ∃ N : Nat, (binOp .sub 159 (.float .f64 v) (.float .f64 v)).run Tryz.prog w = .ok (.float .f64 N) w.drew ∧ 9218868437227405312 < N % 9223372036854775808 := by
  refine ⟨Question.cut (.nanBits .f64 v v) (w.tape w.drawn (.nanBits .f64 v v)), ?_, ?_⟩
  · have h' : FloatKind.f64.format.sub v v = none := h
    simp [binOp, Op.floatArith, h', run_choose_drew, Question.forced]
  · generalize w.tape w.drawn (.nanBits .f64 v v) = t
    show 9218868437227405312 < ((t % 2) * 2 ^ 63 + 0x7ff0000000000000 + 1 + (t / 2) % (2 ^ 52 - 1)) % 9223372036854775808
    have h1 : (t / 2) % (2 ^ 52 - 1) < 4503599627370495 := Nat.mod_lt _ (by decide)
    have h2 : t % 2 = 0 ∨ t % 2 = 1 := by omega
    generalize (t / 2) % (2 ^ 52 - 1) = r at *
    rcases h2 with h2 | h2 <;> rw [h2] <;> omega

theorem val_eq0 {SB INF c v : Nat} (h : SB = 2147483648 ∧ INF = 2139095040 ∨ SB = 9223372036854775808 ∧ INF = 9218868437227405312) (hc : c < 2 * SB) (hv : ValOf SB INF c v) :
    (Ieee.double.order v 0 == some .eq) = decide (c % SB = 0) := by
  have hp : 0 < SB := by omega
  rw [order_val hc (by omega) hv (val_zero h)]
  by_cases hn : INF < c % SB ∨ INF < 0 % SB
  · rw [if_pos hn]
    have : ¬ c % SB = 0 := by rw [Nat.zero_mod] at hn; omega
    simp [this]
  · rw [if_neg hn]
    have hz : rankOf SB 0 = 0 := by unfold rankOf; rw [if_neg (by omega), Nat.zero_mod]; rfl
    rw [hz]
    by_cases h0 : c % SB = 0
    · have : rankOf SB c = 0 := by unfold rankOf; rw [h0]; split <;> rfl
      rw [this, cmp_eq rfl]; simp [h0]
    · have hne : rankOf SB c < 0 ∨ 0 < rankOf SB c := by unfold rankOf; split <;> omega
      rcases hne with h1 | h1
      · rw [cmp_lt h1]; simp [h0]
      · rw [cmp_gt h1]; simp [h0]

theorem val_ne {SB INF c v : Nat} (hc : c < 2 * SB) (hv : ValOf SB INF c v) : (Ieee.double.order v v != some .eq) = decide (INF < c % SB) := by
  rw [order_val hc hc hv hv]
  by_cases h : INF < c % SB
  · rw [if_pos (.inl h)]; simp [h]
  · rw [if_neg (by omega), cmp_eq rfl]; simp [h]

end Go.Proofs.YtlhakbkdlgejpaaGreatDoor.Fl
namespace Go.Proofs.YtlhakbkdlgejpaaGreatDoor.Fl
open Go.RowKit

theorem relI_lt {x y : Int} (op : Nat) (h : x < y) : relI op x y = if op = 1 then false else if op = 2 then true else if op = 3 then true else if op = 4 then false else if op = 5 then true else false := by
  have e1 : (x == y) = false := by rw [beq_eq_false_iff_ne]; omega
  have e2 : (x != y) = true := by rw [bne, e1]; rfl
  have e3 : decide (x < y) = true := decide_eq_true h
  have e4 : decide (y < x) = false := decide_eq_false (by omega)
  have e5 : decide (x ≤ y) = true := decide_eq_true (by omega)
  have e6 : decide (y ≤ x) = false := decide_eq_false (by omega)
  unfold relI
  rw [e1, e2, e3, e4, e5, e6]

theorem relI_gt {x y : Int} (op : Nat) (h : y < x) : relI op x y = if op = 1 then false else if op = 2 then true else if op = 3 then false else if op = 4 then true else if op = 5 then false else true := by
  have e1 : (x == y) = false := by rw [beq_eq_false_iff_ne]; omega
  have e2 : (x != y) = true := by rw [bne, e1]; rfl
  have e3 : decide (x < y) = false := decide_eq_false (by omega)
  have e4 : decide (y < x) = true := decide_eq_true h
  have e5 : decide (x ≤ y) = false := decide_eq_false (by omega)
  have e6 : decide (y ≤ x) = true := decide_eq_true (by omega)
  unfold relI
  rw [e1, e2, e3, e4, e5, e6]

theorem relI_eq {x y : Int} (op : Nat) (h : x = y) : relI op x y = if op = 1 then true else if op = 2 then false else if op = 3 then false else if op = 4 then false else if op = 5 then true else true := by
  subst h
  have e1 : (x == x) = true := by rw [beq_iff_eq]
  have e2 : (x != x) = false := by rw [bne, e1]; rfl
  have e3 : decide (x < x) = false := decide_eq_false (by omega)
  have e5 : decide (x ≤ x) = true := decide_eq_true (by omega)
  unfold relI
  rw [e1, e2, e3, e5]

theorem RRel_no (b : Int) (h1 : b ≠ 32) (h2 : b ≠ 64) (op : Int) (x y : Nat) (w : World) : Calls Tryz.prog 146 #[.int .i64 b, .int .i64 op, .int .u64 x, .int .u64 y] w fun e w' => e = .returned (.tuple #[.bool false, .int .i64 1]) ∧ w = w' := by
  have e1 : (b != 32) = true := by simpa using h1
  have e2 : (b != 64) = true := by simpa using h2
  clear h1 h2
  go_enter Tryz.func146, Tryz.ntmps146
  go_wp2
  go_ret2
  exact ⟨rfl, rfl⟩

theorem RRel_32_bad (op : Int) (hop : op < 1 ∨ 6 < op) (x y : Nat) (w : World) : Calls Tryz.prog 146 #[.int .i64 32, .int .i64 op, .int .u64 x, .int .u64 y] w fun e w' => e = .returned (.tuple #[.bool false, .int .i64 1]) ∧ w = w' := by
  rcases hop with h | h
  · have o1 : decide (op < 1) = true := by simp; omega
    clear h
    go_enter Tryz.func146, Tryz.ntmps146
    go_wp2
    go_ret2
    exact ⟨rfl, rfl⟩
  · have o1 : decide (op < 1) = false := by simp; omega
    have o2 : decide (6 < op) = true := by simp; omega
    clear h
    go_enter Tryz.func146, Tryz.ntmps146
    go_wp2
    go_ret2
    exact ⟨rfl, rfl⟩

set_option maxRecDepth 20000 in
set_option maxHeartbeats 6400000 in
theorem RRel_32 (op : Nat) (hop : op = 1 ∨ op = 2 ∨ op = 3 ∨ op = 4 ∨ op = 5 ∨ op = 6) (a b : Nat) (ha : a < 18446744073709551616) (hb : b < 18446744073709551616) (w : World) :
    Calls Tryz.prog 146 #[.int .i64 32, .int .i64 op, .int .u64 a, .int .u64 b] w fun e w' => e = .returned (.tuple #[.bool (relW 2147483648 2139095040 op (a % 4294967296) (b % 4294967296)), .int .i64 0]) ∧ Below w.heap.size w w' := by
  have HVA : ∀ W, Hid (Calls Tryz.prog 215 #[.int .i64 32, .int .u64 a] W (VPost 2147483648 2139095040 (a % 4294967296) W)) := fun W => hid (value_32 a W)
  have HVB : ∀ W, Hid (Calls Tryz.prog 215 #[.int .i64 32, .int .u64 b] W (VPost 2147483648 2139095040 (b % 4294967296) W)) := fun W => hid (value_32 b W)
  have hc : a % 4294967296 < 2 * 2147483648 := by omega
  have hd : b % 4294967296 < 2 * 2147483648 := by omega
  have hrw : relW 2147483648 2139095040 op (a % 4294967296) (b % 4294967296) = if 2139095040 < a % 4294967296 % 2147483648 ∨ 2139095040 < b % 4294967296 % 2147483648 then op == 2 else relI op (rankOf 2147483648 (a % 4294967296)) (rankOf 2147483648 (b % 4294967296)) := rfl
  rw [hrw]
  clear hrw
  generalize a % 4294967296 = c at *
  generalize b % 4294967296 = d at *
  have HO := hid (fun v u (hv : ValOf 2147483648 2139095040 c v) (hu : ValOf 2147483648 2139095040 d u) => order_val hc hd hv hu)
  clear hc hd ha hb
  -- the four ways in which two values stand
  have hcase : ∃ O : Option Ordering, (∀ v u, ValOf 2147483648 2139095040 c v → ValOf 2147483648 2139095040 d u → Ieee.double.order v u = O) ∧
      ((O = none ∧ (2139095040 < c % 2147483648 ∨ 2139095040 < d % 2147483648)) ∨ (O = some .lt ∧ ¬ (2139095040 < c % 2147483648 ∨ 2139095040 < d % 2147483648) ∧ rankOf 2147483648 c < rankOf 2147483648 d) ∨ (O = some .eq ∧ ¬ (2139095040 < c % 2147483648 ∨ 2139095040 < d % 2147483648) ∧ rankOf 2147483648 c = rankOf 2147483648 d) ∨ (O = some .gt ∧ ¬ (2139095040 < c % 2147483648 ∨ 2139095040 < d % 2147483648) ∧ rankOf 2147483648 d < rankOf 2147483648 c)) := by
    by_cases hn : 2139095040 < c % 2147483648 ∨ 2139095040 < d % 2147483648
    · exact ⟨none, fun v u hv hu => by rw [HO.out v u hv hu, if_pos hn], .inl ⟨rfl, hn⟩⟩
    · rcases Int.lt_trichotomy (rankOf 2147483648 c) (rankOf 2147483648 d) with h | h | h
      · exact ⟨some .lt, fun v u hv hu => by rw [HO.out v u hv hu, if_neg hn, cmp_lt h], .inr (.inl ⟨rfl, hn, h⟩)⟩
      · exact ⟨some .eq, fun v u hv hu => by rw [HO.out v u hv hu, if_neg hn, cmp_eq h], .inr (.inr (.inl ⟨rfl, hn, h⟩))⟩
      · exact ⟨some .gt, fun v u hv hu => by rw [HO.out v u hv hu, if_neg hn, cmp_gt h], .inr (.inr (.inr ⟨rfl, hn, h⟩))⟩
  obtain ⟨O, hO, h4⟩ := hcase
  have HOO := hid hO
  clear hO HO
  have hres : (if 2139095040 < c % 2147483648 ∨ 2139095040 < d % 2147483648 then op == 2 else relI op (rankOf 2147483648 c) (rankOf 2147483648 d)) =
      (if op = 1 then O == some .eq else if op = 2 then O != some .eq else if op = 3 then O == some .lt else if op = 4 then O == some .gt else if op = 5 then (O == some .lt || O == some .eq) else (O == some .gt || O == some .eq)) := by
    rcases h4 with ⟨rfl, h⟩ | ⟨rfl, hn, h⟩ | ⟨rfl, hn, h⟩ | ⟨rfl, hn, h⟩
    · rw [if_pos h]; rcases hop with rfl | rfl | rfl | rfl | rfl | rfl <;> rfl
    · rw [if_neg hn, relI_lt op h]; rcases hop with rfl | rfl | rfl | rfl | rfl | rfl <;> rfl
    · rw [if_neg hn, relI_eq op h]; rcases hop with rfl | rfl | rfl | rfl | rfl | rfl <;> rfl
    · rw [if_neg hn, relI_gt op h]; rcases hop with rfl | rfl | rfl | rfl | rfl | rfl <;> rfl
  rw [hres]
  clear hres h4
  rcases hop with rfl | rfl | rfl | rfl | rfl | rfl
  all_goals
    go_enter Tryz.func146, Tryz.ntmps146
    go_wp2_with (first
      | (go_at_call 215; ((with_reducible refine (HVA _).out.mono ?_); rintro e w1 ⟨v, rfl, hv, hb1⟩))
      | (go_at_call 215; ((with_reducible refine (HVB _).out.mono ?_); rintro e w2 ⟨u, rfl, hu, hb2⟩; have ho : FloatKind.f64.format.order v u = O := HOO.out v u hv hu)))
    go_ret2
    exact ⟨rfl, balloc (bnext hb1 hb2) _⟩

theorem RRel_64_bad (op : Int) (hop : op < 1 ∨ 6 < op) (x y : Nat) (w : World) : Calls Tryz.prog 146 #[.int .i64 64, .int .i64 op, .int .u64 x, .int .u64 y] w fun e w' => e = .returned (.tuple #[.bool false, .int .i64 1]) ∧ w = w' := by
  rcases hop with h | h
  · have o1 : decide (op < 1) = true := by simp; omega
    clear h
    go_enter Tryz.func146, Tryz.ntmps146
    go_wp2
    go_ret2
    exact ⟨rfl, rfl⟩
  · have o1 : decide (op < 1) = false := by simp; omega
    have o2 : decide (6 < op) = true := by simp; omega
    clear h
    go_enter Tryz.func146, Tryz.ntmps146
    go_wp2
    go_ret2
    exact ⟨rfl, rfl⟩

set_option maxRecDepth 20000 in
set_option maxHeartbeats 6400000 in
theorem RRel_64 (op : Nat) (hop : op = 1 ∨ op = 2 ∨ op = 3 ∨ op = 4 ∨ op = 5 ∨ op = 6) (a b : Nat) (ha : a < 18446744073709551616) (hb : b < 18446744073709551616) (w : World) :
    Calls Tryz.prog 146 #[.int .i64 64, .int .i64 op, .int .u64 a, .int .u64 b] w fun e w' => e = .returned (.tuple #[.bool (relW 9223372036854775808 9218868437227405312 op (a % 18446744073709551616) (b % 18446744073709551616)), .int .i64 0]) ∧ Below w.heap.size w w' := by
  have HVA : ∀ W, Hid (Calls Tryz.prog 215 #[.int .i64 64, .int .u64 a] W (VPost 9223372036854775808 9218868437227405312 (a % 18446744073709551616) W)) := fun W => hid (by rw [Nat.mod_eq_of_lt ha]; exact value_64 a ha W)
  have HVB : ∀ W, Hid (Calls Tryz.prog 215 #[.int .i64 64, .int .u64 b] W (VPost 9223372036854775808 9218868437227405312 (b % 18446744073709551616) W)) := fun W => hid (by rw [Nat.mod_eq_of_lt hb]; exact value_64 b hb W)
  have hc : a % 18446744073709551616 < 2 * 9223372036854775808 := by omega
  have hd : b % 18446744073709551616 < 2 * 9223372036854775808 := by omega
  have hrw : relW 9223372036854775808 9218868437227405312 op (a % 18446744073709551616) (b % 18446744073709551616) = if 9218868437227405312 < a % 18446744073709551616 % 9223372036854775808 ∨ 9218868437227405312 < b % 18446744073709551616 % 9223372036854775808 then op == 2 else relI op (rankOf 9223372036854775808 (a % 18446744073709551616)) (rankOf 9223372036854775808 (b % 18446744073709551616)) := rfl
  rw [hrw]
  clear hrw
  generalize a % 18446744073709551616 = c at *
  generalize b % 18446744073709551616 = d at *
  have HO := hid (fun v u (hv : ValOf 9223372036854775808 9218868437227405312 c v) (hu : ValOf 9223372036854775808 9218868437227405312 d u) => order_val hc hd hv hu)
  clear hc hd ha hb
  -- the four ways in which two values stand
  have hcase : ∃ O : Option Ordering, (∀ v u, ValOf 9223372036854775808 9218868437227405312 c v → ValOf 9223372036854775808 9218868437227405312 d u → Ieee.double.order v u = O) ∧
      ((O = none ∧ (9218868437227405312 < c % 9223372036854775808 ∨ 9218868437227405312 < d % 9223372036854775808)) ∨ (O = some .lt ∧ ¬ (9218868437227405312 < c % 9223372036854775808 ∨ 9218868437227405312 < d % 9223372036854775808) ∧ rankOf 9223372036854775808 c < rankOf 9223372036854775808 d) ∨ (O = some .eq ∧ ¬ (9218868437227405312 < c % 9223372036854775808 ∨ 9218868437227405312 < d % 9223372036854775808) ∧ rankOf 9223372036854775808 c = rankOf 9223372036854775808 d) ∨ (O = some .gt ∧ ¬ (9218868437227405312 < c % 9223372036854775808 ∨ 9218868437227405312 < d % 9223372036854775808) ∧ rankOf 9223372036854775808 d < rankOf 9223372036854775808 c)) := by
    by_cases hn : 9218868437227405312 < c % 9223372036854775808 ∨ 9218868437227405312 < d % 9223372036854775808
    · exact ⟨none, fun v u hv hu => by rw [HO.out v u hv hu, if_pos hn], .inl ⟨rfl, hn⟩⟩
    · rcases Int.lt_trichotomy (rankOf 9223372036854775808 c) (rankOf 9223372036854775808 d) with h | h | h
      · exact ⟨some .lt, fun v u hv hu => by rw [HO.out v u hv hu, if_neg hn, cmp_lt h], .inr (.inl ⟨rfl, hn, h⟩)⟩
      · exact ⟨some .eq, fun v u hv hu => by rw [HO.out v u hv hu, if_neg hn, cmp_eq h], .inr (.inr (.inl ⟨rfl, hn, h⟩))⟩
      · exact ⟨some .gt, fun v u hv hu => by rw [HO.out v u hv hu, if_neg hn, cmp_gt h], .inr (.inr (.inr ⟨rfl, hn, h⟩))⟩
  obtain ⟨O, hO, h4⟩ := hcase
  have HOO := hid hO
  clear hO HO
  have hres : (if 9218868437227405312 < c % 9223372036854775808 ∨ 9218868437227405312 < d % 9223372036854775808 then op == 2 else relI op (rankOf 9223372036854775808 c) (rankOf 9223372036854775808 d)) =
      (if op = 1 then O == some .eq else if op = 2 then O != some .eq else if op = 3 then O == some .lt else if op = 4 then O == some .gt else if op = 5 then (O == some .lt || O == some .eq) else (O == some .gt || O == some .eq)) := by
    rcases h4 with ⟨rfl, h⟩ | ⟨rfl, hn, h⟩ | ⟨rfl, hn, h⟩ | ⟨rfl, hn, h⟩
    · rw [if_pos h]; rcases hop with rfl | rfl | rfl | rfl | rfl | rfl <;> rfl
    · rw [if_neg hn, relI_lt op h]; rcases hop with rfl | rfl | rfl | rfl | rfl | rfl <;> rfl
    · rw [if_neg hn, relI_eq op h]; rcases hop with rfl | rfl | rfl | rfl | rfl | rfl <;> rfl
    · rw [if_neg hn, relI_gt op h]; rcases hop with rfl | rfl | rfl | rfl | rfl | rfl <;> rfl
  rw [hres]
  clear hres h4
  rcases hop with rfl | rfl | rfl | rfl | rfl | rfl
  all_goals
    go_enter Tryz.func146, Tryz.ntmps146
    go_wp2_with (first
      | (go_at_call 215; ((with_reducible refine (HVA _).out.mono ?_); rintro e w1 ⟨v, rfl, hv, hb1⟩))
      | (go_at_call 215; ((with_reducible refine (HVB _).out.mono ?_); rintro e w2 ⟨u, rfl, hu, hb2⟩; have ho : FloatKind.f64.format.order v u = O := HOO.out v u hv hu)))
    go_ret2
    exact ⟨rfl, balloc (bnext hb1 hb2) _⟩

end Go.Proofs.YtlhakbkdlgejpaaGreatDoor.Fl
namespace Go.Proofs.YtlhakbkdlgejpaaGreatDoor.Fl
open Go.RowKit

/-- How far from 0 the numbers of n bits lie. -/
def bnd (n : Nat) (s neg : Bool) : Nat := if s then (if neg then 2 ^ (n - 1) else 2 ^ (n - 1) - 1) else (if neg then 0 else 2 ^ n - 1)

theorem integerOf_no (b : Int) (h1 : b ≠ 32) (h2 : b ≠ 64) (s : Bool) (w : World) : Calls Tryz.prog 203 #[.int .i64 b, .bool s] w fun e w' => e = .returned (.agg #[.int .i64 0, .bool false]) ∧ Below w.heap.size w w' := by
  have e1 : (b == 32) = false := by simpa using h1
  have e2 : (b == 64) = false := by simpa using h2
  clear h1 h2
  go_enter Tryz.func203, Tryz.ntmps203
  go_wp2
  exact bodyPost_ret (v := .agg #[.int .i64 0, .bool false]) (by simp [results, Tryz.results203, go_sem]) rfl ⟨rfl, (Below.refl _ _).alloc (Nat.le_refl _) _⟩

theorem iknown_no (w : World) : Calls Tryz.prog 205 #[.agg #[.int .i64 0, .bool false]] w fun e w' => e = .returned (.bool false) ∧ Below w.heap.size w w' := by
  go_enter Tryz.func205, Tryz.ntmps205
  go_wp2
  go_ret
  exact ⟨rfl, (Below.refl _ _).alloc (Nat.le_refl _) _⟩

theorem shr_min (Y ap : Nat) (hY : Y < 18446744073709551616) : (Y : Int) / 2 ^ min ap 64 = ((Y / 2 ^ ap : Nat) : Int) := by
  by_cases h : ap ≤ 64
  · rw [Nat.min_eq_left h, Int.natCast_ediv, Int.natCast_pow]; rfl
  · rw [Nat.min_eq_right (by omega)]
    have h64 : (2 : Nat) ^ 64 = 18446744073709551616 := by decide
    have hle : (2 : Nat) ^ 64 ≤ 2 ^ ap := Nat.pow_le_pow_right (by decide) (by omega)
    rw [Nat.div_eq_of_lt (show Y < 2 ^ ap by omega), show (2 : Int) ^ 64 = 18446744073709551616 by decide]
    omega

theorem whole_neg (m k : Nat) (hm : m < 18446744073709551616) (hk0 : 0 < k) (hk : k ≤ 4000) (w : World) : Calls Tryz.prog 207 #[.int .u64 m, .int .i64 (-(k : Int))] w fun e w' => e = .returned (.tuple #[.int .u64 ((m / 2 ^ k : Nat) : Int), .bool true]) ∧ Below w.heap.size w w' := by
  obtain ⟨z, hz⟩ : ∃ z : Int, z = -(k : Int) := ⟨_, rfl⟩
  have c1 : decide (z < 0) = true := by simp; omega
  have c2 : wrap64 (-z) = (k : Int) := by unfold wrap64; omega
  have hs := fun W : World => shr_run (P := Tryz.prog) (w := W) m k hm
  obtain ⟨q, hq⟩ : ∃ q : Nat, q = m / 2 ^ k := ⟨_, rfl⟩
  have c4 : (m : Int) / 2 ^ min k 64 = (q : Int) := by
    rw [hq]; exact shr_min m k hm
  rw [← hz]
  rw [← hq] at hs ⊢
  clear hz hq hk0 hk
  go_enter Tryz.func207, Tryz.ntmps207
  go_wp2
  exact bodyPost_ret (v := .tuple #[.int .u64 (q : Int), .bool true]) (by simp [results, Tryz.results207, go_sem, c4]) rfl ⟨rfl, Below.refl _ _⟩

theorem whole_pos (m k : Nat) (hm : m < 18446744073709551616) (hk : k ≤ 4000) (w : World) : Calls Tryz.prog 207 #[.int .u64 m, .int .i64 (k : Int)] w fun e w' => e = .returned (.tuple #[.int .u64 ((m * 2 ^ k % 18446744073709551616 : Nat) : Int), .bool (decide (m * 2 ^ k % 18446744073709551616 / 2 ^ k = m))]) ∧ Below w.heap.size w w' := by
  have c1 : decide ((k : Int) < 0) = false := by simp
  have hs := fun W : World => shl_run (P := Tryz.prog) (w := W) m k
  obtain ⟨q, hq⟩ : ∃ q : Nat, q = m * 2 ^ k % 18446744073709551616 := ⟨_, rfl⟩
  have hr := fun W : World => shr_run (P := Tryz.prog) (w := W) q k (by omega)
  rw [← hq] at hs ⊢
  obtain ⟨r, hr'⟩ : ∃ r : Nat, r = q / 2 ^ k := ⟨_, rfl⟩
  rw [← hr'] at hr ⊢
  have c5 : (q : Int) / 2 ^ min k 64 = (r : Int) := by rw [hr']; exact shr_min q k (by omega)
  have c4 : IntKind.u64.wrap ((m : Int) * 2 ^ min k 64) = (q : Int) := by
    have := hs default
    unfold Op.shift at this
    rw [if_neg (by omega)] at this
    injection this with h1 h2
    injection h1
  obtain ⟨B, hB⟩ : ∃ B : Bool, B = decide (r = m) := ⟨_, rfl⟩
  have c2 : ((r : Int) == (m : Int)) = B := by
    rw [hB]; by_cases h : r = m
    · subst h; simp
    · have : (r : Int) ≠ (m : Int) := by omega
      simp [h, this]
  rw [← hB]
  clear hr' hq hk hB
  go_enter Tryz.func207, Tryz.ntmps207
  go_wp2
  go_quiet (fail)
  go_wp2
  exact bodyPost_ret (v := .tuple #[.int .u64 (q : Int), .bool B]) (by simp [results, Tryz.results207, go_sem, c2, c4, c5]) rfl ⟨rfl, below_drewN (Below.refl _ _) _⟩

theorem integerOf_32 (s : Bool) (w : World) : Calls Tryz.prog 203 #[.int .i64 32, .bool s] w fun e w' => e = .returned (.agg #[.int .i64 32, .bool s]) ∧ Below w.heap.size w w' := by
  go_enter Tryz.func203, Tryz.ntmps203
  go_wp2
  exact bodyPost_ret (v := .agg #[.int .i64 32, .bool s]) (by simp [results, Tryz.results203, go_sem]) rfl ⟨rfl, (Below.refl _ _).alloc (Nat.le_refl _) _⟩

theorem iknown_32 (s : Bool) (w : World) : Calls Tryz.prog 205 #[.agg #[.int .i64 32, .bool s]] w fun e w' => e = .returned (.bool true) ∧ Below w.heap.size w w' := by
  cases s <;>
  · go_enter Tryz.func205, Tryz.ntmps205
    go_wp2
    go_ret
    exact ⟨rfl, (Below.refl _ _).alloc (Nat.le_refl _) _⟩

theorem icut_32 (s : Bool) (a : Nat) (ha : a < 18446744073709551616) (w : World) : Calls Tryz.prog 209 #[.agg #[.int .i64 32, .bool s], .int .u64 a] w fun e w' => e = .returned (.int .u64 ((a % 4294967296 : Nat) : Int)) ∧ Below w.heap.size w w' := by
  have hand : bits .and .u64 (a : Int) 4294967295 = ((a % 4294967296 : Nat) : Int) := by
    have := bits_and_u64_nat a 4294967295 ha (by decide)
    rw [show (4294967295 : Nat) = 2 ^ 32 - 1 by decide, Nat.and_two_pow_sub_one_eq_mod] at this
    exact this
  obtain ⟨c, hc⟩ : ∃ c : Nat, c = a % 4294967296 := ⟨_, rfl⟩
  rw [← hc] at hand ⊢
  clear hc ha
  have hand2 : bits .and .u64 (a : Int) (IntKind.u64.wrap (IntKind.u64.wrap 4294967296 - 1)) = (c : Int) := hand
  go_enter Tryz.func209, Tryz.ntmps209
  go_wp2
  go_ret
  exact ⟨by first | rfl | exact congrArg (fun x => Ending.returned (.int .u64 x)) hand2, (Below.refl _ _).alloc (Nat.le_refl _) _⟩

theorem bound_32 (s neg : Bool) (w : World) : Calls Tryz.prog 208 #[.agg #[.int .i64 32, .bool s], .bool neg] w fun e w' => e = .returned (.int .u64 ((bnd 32 s neg : Nat) : Int)) ∧ Below w.heap.size w w' := by
  cases s <;> cases neg
  · rw [show bnd 32 false false = 4294967295 by decide]
    go_enter Tryz.func208, Tryz.ntmps208
    go_wp2
    go_ret
    exact ⟨rfl, (Below.refl _ _).alloc (Nat.le_refl _) _⟩
  · rw [show bnd 32 false true = 0 by decide]
    go_enter Tryz.func208, Tryz.ntmps208
    go_wp2
    go_ret
    exact ⟨rfl, (Below.refl _ _).alloc (Nat.le_refl _) _⟩
  · rw [show bnd 32 true false = 2147483647 by decide]
    go_enter Tryz.func208, Tryz.ntmps208
    go_wp2
    go_ret
    exact ⟨rfl, (Below.refl _ _).alloc (Nat.le_refl _) _⟩
  · rw [show bnd 32 true true = 2147483648 by decide]
    go_enter Tryz.func208, Tryz.ntmps208
    go_wp2
    go_ret
    exact ⟨rfl, (Below.refl _ _).alloc (Nat.le_refl _) _⟩

theorem cparts_32 (a : Nat) (ha : a < 18446744073709551616) (hf : a % 4294967296 % 2147483648 < 2139095040) (w : World) :
    Calls Tryz.prog 206 #[.int .i64 32, .int .u64 a] w fun e w' => e = .returned (.tuple #[.bool (decide (2147483648 ≤ a % 4294967296)), .int .u64 ((pm 23 (a % 4294967296 % 2147483648) : Nat) : Int), .int .i64 (pe 23 (-149) (a % 4294967296 % 2147483648))]) ∧ Below w.heap.size w w' := by
  have HP := fun w => hid (Parts_32 a ha hf w)
  obtain ⟨n1, hn1⟩ : ∃ n1 : Bool, n1 = decide (2147483648 ≤ a % 4294967296) := ⟨_, rfl⟩
  obtain ⟨m1, hm1⟩ : ∃ m1 : Nat, m1 = pm 23 (a % 4294967296 % 2147483648) := ⟨_, rfl⟩
  obtain ⟨e1, he1⟩ : ∃ e1 : Int, e1 = pe 23 (-149) (a % 4294967296 % 2147483648) := ⟨_, rfl⟩
  rw [← hn1, ← hm1, ← he1] at HP ⊢
  clear hn1 hm1 he1 hf ha
  go_enter Tryz.func206, Tryz.ntmps206
  go_wp2_with (first | (go_at_call 250; ((with_reducible refine (HP _).out.mono ?_); rintro e w1 ⟨rfl, hb⟩)))
  exact bodyPost_ret (v := .tuple #[.bool n1, .int .u64 m1, .int .i64 e1]) (by simp [results, Tryz.results206, go_sem]) rfl ⟨rfl, hb⟩

theorem cparts_32_inf (a : Nat) (ha : a < 18446744073709551616) (hf : a % 4294967296 % 2147483648 = 2139095040) (w : World) :
    Calls Tryz.prog 206 #[.int .i64 32, .int .u64 a] w fun e w' => e = .returned (.tuple #[.bool (decide (2147483648 ≤ a % 4294967296)), .int .u64 1, .int .i64 1024]) ∧ Below w.heap.size w w' := by
  have HP := fun w => hid (Parts_32_no a ha (by omega) w)
  have hrel : relW 2147483648 2139095040 3 (a % 4294967296) (0 % 4294967296) = decide (2147483648 ≤ a % 4294967296) := by
    have hlt : a % 4294967296 < 4294967296 := Nat.mod_lt _ (by decide)
    unfold relW relI rankOf
    generalize a % 4294967296 = c at *
    rw [if_neg (by omega)]
    simp only [Nat.zero_mod, show (0 : Nat) % 2147483648 = 0 by decide]
    rw [if_neg (show ¬ 2147483648 ≤ 0 by decide)]
    by_cases h : 2147483648 ≤ c
    · rw [if_pos h]; simp [h]; omega
    · rw [if_neg h]; simp [h]; omega
  have HR : ∀ W, Hid (Calls Tryz.prog 110 #[.int .i64 32, .int .i64 3, .int .u64 a, .int .u64 0] W fun e w' => e = .returned (.tuple #[.bool (decide (2147483648 ≤ a % 4294967296)), .int .i64 0]) ∧ Below W.heap.size W w') := fun W => by
    have := Rel_32 3 (by decide) a 0 ha (by decide) W
    rw [hrel] at this
    exact this
  obtain ⟨n1, hn1⟩ : ∃ n1 : Bool, n1 = decide (2147483648 ≤ a % 4294967296) := ⟨_, rfl⟩
  rw [← hn1] at HR ⊢
  clear hn1 hf ha hrel
  go_enter Tryz.func206, Tryz.ntmps206
  go_wp2_with (first
    | (go_at_call 250; ((with_reducible refine (HP _).out.mono ?_); rintro e w1 ⟨rfl, hb⟩))
    | (go_at_call 110; ((with_reducible refine (HR _).out.mono ?_); rintro e w2 ⟨rfl, hb2⟩)))
  exact bodyPost_ret (v := .tuple #[.bool n1, .int .u64 1, .int .i64 1024]) (by simp [results, Tryz.results206, go_sem]) rfl ⟨rfl, bnext hb hb2⟩

theorem integerOf_64 (s : Bool) (w : World) : Calls Tryz.prog 203 #[.int .i64 64, .bool s] w fun e w' => e = .returned (.agg #[.int .i64 64, .bool s]) ∧ Below w.heap.size w w' := by
  go_enter Tryz.func203, Tryz.ntmps203
  go_wp2
  exact bodyPost_ret (v := .agg #[.int .i64 64, .bool s]) (by simp [results, Tryz.results203, go_sem]) rfl ⟨rfl, (Below.refl _ _).alloc (Nat.le_refl _) _⟩

theorem iknown_64 (s : Bool) (w : World) : Calls Tryz.prog 205 #[.agg #[.int .i64 64, .bool s]] w fun e w' => e = .returned (.bool true) ∧ Below w.heap.size w w' := by
  cases s <;>
  · go_enter Tryz.func205, Tryz.ntmps205
    go_wp2
    go_ret
    exact ⟨rfl, (Below.refl _ _).alloc (Nat.le_refl _) _⟩

theorem icut_64 (s : Bool) (a : Nat) (ha : a < 18446744073709551616) (w : World) : Calls Tryz.prog 209 #[.agg #[.int .i64 64, .bool s], .int .u64 a] w fun e w' => e = .returned (.int .u64 ((a % 18446744073709551616 : Nat) : Int)) ∧ Below w.heap.size w w' := by
  have hand : bits .and .u64 (a : Int) 18446744073709551615 = ((a % 18446744073709551616 : Nat) : Int) := by
    have := bits_and_u64_nat a 18446744073709551615 ha (by decide)
    rw [show (18446744073709551615 : Nat) = 2 ^ 64 - 1 by decide, Nat.and_two_pow_sub_one_eq_mod] at this
    exact this
  obtain ⟨c, hc⟩ : ∃ c : Nat, c = a % 18446744073709551616 := ⟨_, rfl⟩
  rw [← hc] at hand ⊢
  clear hc ha
  have hand2 : bits .and .u64 (a : Int) (IntKind.u64.wrap (IntKind.u64.wrap 18446744073709551616 - 1)) = (c : Int) := hand
  go_enter Tryz.func209, Tryz.ntmps209
  go_wp2
  go_ret
  exact ⟨by first | rfl | exact congrArg (fun x => Ending.returned (.int .u64 x)) hand2, (Below.refl _ _).alloc (Nat.le_refl _) _⟩

theorem bound_64 (s neg : Bool) (w : World) : Calls Tryz.prog 208 #[.agg #[.int .i64 64, .bool s], .bool neg] w fun e w' => e = .returned (.int .u64 ((bnd 64 s neg : Nat) : Int)) ∧ Below w.heap.size w w' := by
  cases s <;> cases neg
  · rw [show bnd 64 false false = 18446744073709551615 by decide]
    go_enter Tryz.func208, Tryz.ntmps208
    go_wp2
    go_ret
    exact ⟨rfl, (Below.refl _ _).alloc (Nat.le_refl _) _⟩
  · rw [show bnd 64 false true = 0 by decide]
    go_enter Tryz.func208, Tryz.ntmps208
    go_wp2
    go_ret
    exact ⟨rfl, (Below.refl _ _).alloc (Nat.le_refl _) _⟩
  · rw [show bnd 64 true false = 9223372036854775807 by decide]
    go_enter Tryz.func208, Tryz.ntmps208
    go_wp2
    go_ret
    exact ⟨rfl, (Below.refl _ _).alloc (Nat.le_refl _) _⟩
  · rw [show bnd 64 true true = 9223372036854775808 by decide]
    go_enter Tryz.func208, Tryz.ntmps208
    go_wp2
    go_ret
    exact ⟨rfl, (Below.refl _ _).alloc (Nat.le_refl _) _⟩

theorem cparts_64 (a : Nat) (ha : a < 18446744073709551616) (hf : a % 18446744073709551616 % 9223372036854775808 < 9218868437227405312) (w : World) :
    Calls Tryz.prog 206 #[.int .i64 64, .int .u64 a] w fun e w' => e = .returned (.tuple #[.bool (decide (9223372036854775808 ≤ a % 18446744073709551616)), .int .u64 ((pm 52 (a % 18446744073709551616 % 9223372036854775808) : Nat) : Int), .int .i64 (pe 52 (-1074) (a % 18446744073709551616 % 9223372036854775808))]) ∧ Below w.heap.size w w' := by
  have HP := fun w => hid (Parts_64 a ha hf w)
  obtain ⟨n1, hn1⟩ : ∃ n1 : Bool, n1 = decide (9223372036854775808 ≤ a % 18446744073709551616) := ⟨_, rfl⟩
  obtain ⟨m1, hm1⟩ : ∃ m1 : Nat, m1 = pm 52 (a % 18446744073709551616 % 9223372036854775808) := ⟨_, rfl⟩
  obtain ⟨e1, he1⟩ : ∃ e1 : Int, e1 = pe 52 (-1074) (a % 18446744073709551616 % 9223372036854775808) := ⟨_, rfl⟩
  rw [← hn1, ← hm1, ← he1] at HP ⊢
  clear hn1 hm1 he1 hf ha
  go_enter Tryz.func206, Tryz.ntmps206
  go_wp2_with (first | (go_at_call 250; ((with_reducible refine (HP _).out.mono ?_); rintro e w1 ⟨rfl, hb⟩)))
  exact bodyPost_ret (v := .tuple #[.bool n1, .int .u64 m1, .int .i64 e1]) (by simp [results, Tryz.results206, go_sem]) rfl ⟨rfl, hb⟩

theorem cparts_64_inf (a : Nat) (ha : a < 18446744073709551616) (hf : a % 18446744073709551616 % 9223372036854775808 = 9218868437227405312) (w : World) :
    Calls Tryz.prog 206 #[.int .i64 64, .int .u64 a] w fun e w' => e = .returned (.tuple #[.bool (decide (9223372036854775808 ≤ a % 18446744073709551616)), .int .u64 1, .int .i64 1024]) ∧ Below w.heap.size w w' := by
  have HP := fun w => hid (Parts_64_no a ha (by omega) w)
  have hrel : relW 9223372036854775808 9218868437227405312 3 (a % 18446744073709551616) (0 % 18446744073709551616) = decide (9223372036854775808 ≤ a % 18446744073709551616) := by
    have hlt : a % 18446744073709551616 < 18446744073709551616 := Nat.mod_lt _ (by decide)
    unfold relW relI rankOf
    generalize a % 18446744073709551616 = c at *
    rw [if_neg (by omega)]
    simp only [Nat.zero_mod, show (0 : Nat) % 9223372036854775808 = 0 by decide]
    rw [if_neg (show ¬ 9223372036854775808 ≤ 0 by decide)]
    by_cases h : 9223372036854775808 ≤ c
    · rw [if_pos h]; simp [h]; omega
    · rw [if_neg h]; simp [h]; omega
  have HR : ∀ W, Hid (Calls Tryz.prog 110 #[.int .i64 64, .int .i64 3, .int .u64 a, .int .u64 0] W fun e w' => e = .returned (.tuple #[.bool (decide (9223372036854775808 ≤ a % 18446744073709551616)), .int .i64 0]) ∧ Below W.heap.size W w') := fun W => by
    have := Rel_64 3 (by decide) a 0 ha (by decide) W
    rw [hrel] at this
    exact this
  obtain ⟨n1, hn1⟩ : ∃ n1 : Bool, n1 = decide (9223372036854775808 ≤ a % 18446744073709551616) := ⟨_, rfl⟩
  rw [← hn1] at HR ⊢
  clear hn1 hf ha hrel
  go_enter Tryz.func206, Tryz.ntmps206
  go_wp2_with (first
    | (go_at_call 250; ((with_reducible refine (HP _).out.mono ?_); rintro e w1 ⟨rfl, hb⟩))
    | (go_at_call 110; ((with_reducible refine (HR _).out.mono ?_); rintro e w2 ⟨rfl, hb2⟩)))
  exact bodyPost_ret (v := .tuple #[.bool n1, .int .u64 1, .int .i64 1024]) (by simp [results, Tryz.results206, go_sem]) rfl ⟨rfl, bnext hb hb2⟩

end Go.Proofs.YtlhakbkdlgejpaaGreatDoor.Fl
