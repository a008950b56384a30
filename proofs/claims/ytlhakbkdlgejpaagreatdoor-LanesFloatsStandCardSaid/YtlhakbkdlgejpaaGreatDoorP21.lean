/-
  FWiden, FVal, FRVal, FRRel, LFRel, LawFStand: merged, what the law does not reach left out (each text says what it holds where it lies in wip). No condition.
-/
import Derived.Test.YtlhakbkdlgejpaaGreatDoorP20
import Derived.Test.YtlhakbkdlgejpaaGreatDoorP19
import Derived.Laws.FloatArith
import Derived.Laws.Externs
import Derived.Laws.NewFold
import Derived.Test.YtlhakbkdlgejpaaGreatDoorP18
set_option linter.unusedSimpArgs false
set_option linter.unusedVariables false
set_option maxRecDepth 100000
namespace Go.Proofs.YtlhakbkdlgejpaaGreatDoor.Fl
open Ieee
/-- A float of 32 bits as one of 64: the number moved up, its place moved down. -/
def wideD (s : Bool) (m : Nat) (e : Int) : Datum := if m = 0 then .number s 0 (-1074) else .number s (m * 2 ^ (52 - m.log2)) (e - ((52 - m.log2 : Nat) : Int))
/-- A number of at most 53 bits within double's range is written and read again as itself. -/
theorem read_write_double (s : Bool) (m : Nat) (e : Int) (hm : m < 9007199254740992) (he : -1000 ≤ e) (he2 : e ≤ 900) :
    double.read (double.write (.number s m e)) = wideD s m e ∧ double.write (.number s m e) < 2 * 9223372036854775808 ∧ double.write (.number s m e) % 9223372036854775808 < 9218868437227405312 ∧
      decide (9223372036854775808 ≤ double.write (.number s m e)) = s := by
  have F := fmt_double
  have hw : double.write (.number s m e) = double.word s (rungOf double m e) := nearest_eq ..
  rw [hw]
  by_cases h0 : m = 0
  · subst h0
    have : rungOf double 0 e = 0 := rfl
    rw [this]
    cases s
    · refine ⟨?_, by decide, by decide, by decide⟩; rfl
    · refine ⟨?_, by decide, by decide, by decide⟩
      rw [show wideD true 0 e = .number true 0 (-1074) by unfold wideD; rw [if_pos rfl]]
      decide +kernel
  · have hlog : m.log2 < 53 := log2_lt_of h0 (by omega)
    obtain ⟨k, hk⟩ : ∃ k : Nat, k = 52 - m.log2 := ⟨_, rfl⟩
    have hlo := Nat.log2_self_le h0
    have hhi := @Nat.lt_log2_self m
    have hp : 0 < 2 ^ k := Nat.two_pow_pos k
    have hm1 : 4503599627370496 ≤ m * 2 ^ k := by
      have : 2 ^ m.log2 * 2 ^ k ≤ m * 2 ^ k := Nat.mul_le_mul_right _ hlo
      rw [← Nat.pow_add, show m.log2 + k = 52 by omega] at this
      have c : (2 : Nat) ^ 52 = 4503599627370496 := by decide
      omega
    have hm2 : m * 2 ^ k < 9007199254740992 := by
      have : m * 2 ^ k < 2 ^ (m.log2 + 1) * 2 ^ k := Nat.mul_lt_mul_of_pos_right hhi hp
      rw [← Nat.pow_add, show m.log2 + 1 + k = 53 by omega] at this
      have c : (2 : Nat) ^ 53 = 9007199254740992 := by decide
      omega
    have hsc := rungOf_scale double m e k
    have hlog2 : (m * 2 ^ k).log2 = 52 := by rw [log2_two_pow_mul h0]; omega
    obtain ⟨y, hy⟩ : ∃ y : Nat, y = m * 2 ^ k := ⟨_, rfl⟩
    obtain ⟨d, hd⟩ : ∃ d : Int, d = e - (k : Int) := ⟨_, rfl⟩
    rw [← hy, ← hd] at hsc
    rw [← hy] at hm1 hm2 hlog2
    have hL : lastP double y d = d := by
      unfold lastP
      rw [hlog2]
      show max (d + ((52 : Nat) : Int) - ((52 : Nat) : Int)) (-1074) = d
      omega
    have hr : rungOf double y d = (d + 1074).toNat * 4503599627370496 + y := by
      unfold rungOf
      rw [if_neg (by omega), hL]
      show min ((d - (-1074)).toNat * 4503599627370496 + rneI y (d - d)) 9218868437227405312 = _
      have : rneI y (d - d) = y := by
        unfold rneI; rw [show d - d = 0 by omega, if_pos (by omega)]; exact rne_zero y
      rw [this, show d - -1074 = d + 1074 by omega]
      apply Nat.min_eq_left
      omega
    rw [← hsc, hr]
    obtain ⟨r, hre⟩ : ∃ r : Nat, r = (d + 1074).toNat * 4503599627370496 + y := ⟨_, rfl⟩
    rw [← hre]
    have hrb : r < 9218868437227405312 := by omega
    have hword : double.word s r = (if s then 9223372036854775808 + r else r) := rfl
    have hlt : double.word s r < 2 * 9223372036854775808 := by rw [hword]; split <;> omega
    have hmod : double.word s r % 9223372036854775808 = r := by rw [hword]; split <;> omega
    have hsg : decide (9223372036854775808 ≤ double.word s r) = s := by
      rw [hword]; cases s
      · simp; omega
      · simp
    refine ⟨?_, hlt, by rw [hmod]; exact hrb, hsg⟩
    rw [read_fin F.sb F.fr F.lp hlt (by rw [hmod]; exact hrb), hmod, hsg]
    have hq : r / 2 ^ 52 = (d + 1074).toNat + 1 := by show r / 4503599627370496 = _; omega
    have hm3 : r % 2 ^ 52 = y - 4503599627370496 := by show r % 4503599627370496 = _; omega
    have h1 : pm 52 r = y := by
      unfold pm
      rw [if_neg (by omega), hm3]
      show y - 4503599627370496 + 4503599627370496 = y
      omega
    have h2 : pe 52 (-1074) r = d := by rw [pe_eq, hq]; omega
    rw [h1, h2]
    unfold wideD
    rw [if_neg h0, ← hk, ← hy, ← hd]
/-- As floats of 64 bits two numbers stand as they did. -/
theorem order_wide (s t : Bool) (m n : Nat) (i j : Int) (hi : -1000 ≤ i) (hj : -1000 ≤ j) : (wideD s m i).order (wideD t n j) = Datum.order (.number s m i) (.number t n j) := by
  have e1 : ∀ (s : Bool) (m : Nat) (i : Int), -1000 ≤ i → ∃ (m' : Nat) (i' : Int), wideD s m i = .number s m' i' ∧ -1074 ≤ i' ∧ m' * 2 ^ (i' - (-1074)).toNat = m * 2 ^ (i - (-1074)).toNat := fun s m i hi => by
    unfold wideD
    by_cases h0 : m = 0
    · rw [if_pos h0]; exact ⟨0, -1074, rfl, by omega, by rw [h0]; simp⟩
    · rw [if_neg h0]
      refine ⟨_, _, rfl, by omega, ?_⟩
      rw [Nat.mul_assoc, ← Nat.pow_add]
      congr 2
      omega
  obtain ⟨m', i', h1, h2, h3⟩ := e1 s m i hi
  obtain ⟨n', j', h4, h5, h6⟩ := e1 t n j hj
  rw [h1, h4, order_num s t m' n' i' j' (-1074) h2 h5, order_num s t m n i j (-1074) (by omega) (by omega), h3, h6]
end Go.Proofs.YtlhakbkdlgejpaaGreatDoor.Fl
namespace Go.Proofs.YtlhakbkdlgejpaaGreatDoor.Fl
open Ieee
theorem single_bounds {a : Nat} (ha : a < 2 * 2147483648) (h : a % 2147483648 < 2139095040) :
    pm 23 (a % 2147483648) < 9007199254740992 ∧ -1000 ≤ pe 23 (-149) (a % 2147483648) ∧ pe 23 (-149) (a % 2147483648) ≤ 900 := by
  have h1 := pm_lt 23 (a % 2147483648)
  have h2 : pm 23 (a % 2147483648) < 16777216 := h1
  have h3 := pe_eq 23 (-149) (a % 2147483648)
  have h4 : a % 2147483648 / 2 ^ 23 ≤ 255 := by show a % 2147483648 / 8388608 ≤ 255; omega
  generalize a % 2147483648 / 2 ^ 23 = q at *
  omega
/-- A float of 32 bits, as one of 64. -/
def vS (a : Nat) : Nat := double.write (single.read a)
theorem vS_read {a : Nat} (ha : a < 2 * 2147483648) (h : a % 2147483648 ≤ 2139095040) :
    (a % 2147483648 < 2139095040 ∧ double.read (vS a) = wideD (decide (2147483648 ≤ a)) (pm 23 (a % 2147483648)) (pe 23 (-149) (a % 2147483648)) ∧ single.read a = .number (decide (2147483648 ≤ a)) (pm 23 (a % 2147483648)) (pe 23 (-149) (a % 2147483648)) ∨
     a % 2147483648 = 2139095040 ∧ double.read (vS a) = .infinity (decide (2147483648 ≤ a)) ∧ single.read a = .infinity (decide (2147483648 ≤ a))) ∧ vS a < 2 * 9223372036854775808 ∧ vS a % 9223372036854775808 ≤ 9218868437227405312 := by
  have F := fmt_single
  rcases Nat.lt_or_ge (a % 2147483648) 2139095040 with h1 | h1
  · have hb := single_bounds ha h1
    have hr := read_fin F.sb F.fr F.lp ha h1
    have hw := read_write_double (decide (2147483648 ≤ a)) _ _ hb.1 hb.2.1 hb.2.2
    unfold vS
    rw [hr]
    exact ⟨.inl ⟨h1, hw.1, rfl⟩, hw.2.1, by omega⟩
  · have h2 : a % 2147483648 = 2139095040 := by omega
    have hr := read_inf (f := single) F.sb ha F.bi h2
    unfold vS
    rw [hr]
    refine ⟨.inr ⟨h2, ?_, rfl⟩, ?_, ?_⟩
    · cases decide (2147483648 ≤ a) <;> decide +kernel
    · cases decide (2147483648 ≤ a) <;> decide +kernel
    · cases decide (2147483648 ≤ a) <;> decide +kernel
/-- They stand as they did. -/
theorem vS_order {a b : Nat} (ha : a < 2 * 2147483648) (hb : b < 2 * 2147483648) (na : a % 2147483648 ≤ 2139095040) (nb : b % 2147483648 ≤ 2139095040) :
    double.order (vS a) (vS b) = some (compare (rankOf 2147483648 a) (rankOf 2147483648 b)) := by
  rw [← order_word fmt_single ha hb na nb]
  unfold Format.order
  have inf_num : ∀ (s t : Bool) (m : Nat) (e : Int), (Datum.infinity s).order (wideD t m e) = (Datum.infinity s).order (.number t m e) ∧ (wideD t m e).order (Datum.infinity s) = (Datum.number t m e).order (.infinity s) := fun s t m e => by
    unfold wideD; split <;> exact ⟨rfl, rfl⟩
  rcases (vS_read ha na).1 with ⟨x1, x2, x3⟩ | ⟨x1, x2, x3⟩ <;> rcases (vS_read hb nb).1 with ⟨y1, y2, y3⟩ | ⟨y1, y2, y3⟩
  · rw [x2, y2, x3, y3]
    have h1 := single_bounds ha x1
    have h2 := single_bounds hb y1
    exact order_wide _ _ _ _ _ _ h1.2.1 h2.2.1
  · rw [x2, y2, x3, y3]; exact (inf_num _ _ _ _).2
  · rw [x2, y2, x3, y3]; exact (inf_num _ _ _ _).1
  · rw [x2, y2, x3, y3]
/-- What a value of 64 bits stands for: a word of 64 bits, or one of 32. -/
def ValOf (SB INF a v : Nat) : Prop :=
  (INF < a % SB ∧ 9218868437227405312 < v % 9223372036854775808) ∨ (a % SB ≤ INF ∧ v % 9223372036854775808 ≤ 9218868437227405312 ∧ (SB = 2147483648 ∧ INF = 2139095040 ∧ v = vS a ∨ SB = 9223372036854775808 ∧ INF = 9218868437227405312 ∧ v = a))
theorem order_val {SB INF a b v w : Nat} (ha : a < 2 * SB) (hb : b < 2 * SB) (hv : ValOf SB INF a v) (hw : ValOf SB INF b w) :
    double.order v w = if INF < a % SB ∨ INF < b % SB then none else some (compare (rankOf SB a) (rankOf SB b)) := by
  rcases hv with ⟨h1, h2⟩ | ⟨h1, h2, h3⟩
  · rw [if_pos (.inl h1)]
    exact order_nan fmt_double (.inl h2)
  · rcases hw with ⟨g1, g2⟩ | ⟨g1, g2, g3⟩
    · rw [if_pos (.inr g1)]
      exact order_nan fmt_double (.inr g2)
    · rw [if_neg (by omega)]
      rcases h3 with ⟨rfl, rfl, rfl⟩ | ⟨rfl, rfl, rfl⟩
      · rcases g3 with ⟨_, _, rfl⟩ | ⟨h, _, _⟩
        · exact vS_order ha hb h1 g1
        · omega
      · rcases g3 with ⟨h, _, _⟩ | ⟨_, _, rfl⟩
        · omega
        · exact order_word fmt_double ha hb h1 g1
end Go.Proofs.YtlhakbkdlgejpaaGreatDoor.Fl
namespace Go.Proofs.YtlhakbkdlgejpaaGreatDoor.Fl
open Go.RowKit
theorem ext67 (n : Int) (w : World) : (callFunc 262 #[.int .u32 n]).run Tryz.prog w = .ok (.value (.float .f32 n.toNat)) w := by
  have := run_callFunc_extern (P := Tryz.prog) (e := Extern.MathFloatBits.float32frombits) Tryz.func262 (by kernel_rfl) (by kernel_rfl) (by kernel_rfl) (by kernel_rfl) #[.int .u32 n] w
  rw [this]; rfl
theorem ext79 (n : Int) (w : World) : (callFunc 271 #[.int .u64 n]).run Tryz.prog w = .ok (.value (.float .f64 n.toNat)) w := by
  have := run_callFunc_extern (P := Tryz.prog) (e := Extern.MathFloatBits.float64frombits) Tryz.func271 (by kernel_rfl) (by kernel_rfl) (by kernel_rfl) (by kernel_rfl) #[.int .u64 n] w
  rw [this]; rfl
theorem F32_any (a : Nat) (w : World) : Calls Tryz.prog 227 #[.int .u64 a] w fun e w' => e = .returned (.float .f32 (a % 4294967296)) ∧ w = w' := by
  obtain ⟨c, hc⟩ : ∃ c : Nat, c = a % 4294967296 := ⟨_, rfl⟩
  have hw : IntKind.u32.wrap (a : Int) = (c : Int) := by
    have : IntKind.u32.wrap (a : Int) = (a : Int) % 4294967296 := by simp [IntKind.wrap, IntKind.bits, IntKind.signed]
    rw [this]; omega
  have hx : ∀ W : World, (callFunc 262 #[.int .u32 (c : Int)]).run Tryz.prog W = .ok (.value (.float .f32 c)) W := fun W => ext67 c W
  rw [← hc]
  clear hc
  go_enter Tryz.func227, Tryz.ntmps227
  go_wp2
  go_ret
  exact ⟨rfl, rfl⟩
theorem F64_any (a : Nat) (w : World) : Calls Tryz.prog 252 #[.int .u64 a] w fun e w' => e = .returned (.float .f64 a) ∧ w = w' := by
  have hx : ∀ W : World, (callFunc 271 #[.int .u64 (a : Int)]).run Tryz.prog W = .ok (.value (.float .f64 a)) W := fun W => ext79 a W
  go_enter Tryz.func252, Tryz.ntmps252
  go_wp2
  go_ret
  exact ⟨rfl, rfl⟩
/-- A float of 32 bits that is no NaN, as one of 64. -/
theorem conv_ok (c : Nat) (hc : c < 2 * 2147483648) (h : c % 2147483648 ≤ 2139095040) (w : World) : (convert 164 159 (.float .f32 c)).run Tryz.prog w = .ok (.float .f64 (vS c)) w := by
  refine run_convert_float_float w 164 159 .f32 .f64 c (vS c) (by kernel_rfl) (by kernel_rfl) ?_
  unfold floatToFloatBits
  rw [if_neg (by decide)]
  show (match Ieee.single.read c with | .nan _ _ => none | .infinity s => some (Ieee.double.write (.infinity s)) | .number s m e => if (Ieee.double.read (Ieee.double.write (.number s m e))).isInfinity then none else some (Ieee.double.write (.number s m e))) = some (vS c)
  rcases (vS_read hc h).1 with ⟨x1, x2, x3⟩ | ⟨x1, x2, x3⟩
  · have hv : vS c = Ieee.double.write (.number (decide (2147483648 ≤ c)) (pm 23 (c % 2147483648)) (pe 23 (-149) (c % 2147483648))) := by unfold vS; rw [x3]
    rw [x3]
    simp only []
    rw [← hv, x2]
    have : (wideD (decide (2147483648 ≤ c)) (pm 23 (c % 2147483648)) (pe 23 (-149) (c % 2147483648))).isInfinity = false := by unfold wideD; split <;> rfl
    rw [this]; rfl
  · have hv : vS c = Ieee.double.write (.infinity (decide (2147483648 ≤ c))) := by unfold vS; rw [x3]
    rw [x3, hv]
/-- A NaN of 32 bits as one of 64: its bits are open, but it is one. -/
theorem conv_nan (c : Nat) (h : 2139095040 < c % 2147483648) (w : World) : ∃ v : Nat, (convert 164 159 (.float .f32 c)).run Tryz.prog w = .ok (.float .f64 v) w.drew ∧ 9218868437227405312 < v % 9223372036854775808 := by
  obtain ⟨s, t, hr⟩ := read_nan (f := Ieee.single) (a := c) (SB := 2147483648) rfl (by decide) h
  have hd : FloatKind.f32.decode c = .nan s t := hr
  have hu : Tryz.prog.underlying 159 = some (.float .f64) := by kernel_rfl
  have hs : Tryz.prog.underlying 164 = some (.float .f32) := by kernel_rfl
  refine ⟨Question.cut (.nanConv .f64 c) (w.tape w.drawn (.nanConv .f64 c)), ?_, ?_⟩
  · simp [convert, run_underlying hs, run_underlying hu, Conv.floatToFloat, hd, run_choose_drew, Question.forced]
  · generalize w.tape w.drawn (.nanConv .f64 c) = t
    show 9218868437227405312 < ((t % 2) * 2 ^ 63 + 0x7ff0000000000000 + 1 + (t / 2) % (2 ^ 52 - 1)) % 9223372036854775808
    have h1 : (t / 2) % (2 ^ 52 - 1) < 4503599627370495 := Nat.mod_lt _ (by decide)
    have h2 : t % 2 = 0 ∨ t % 2 = 1 := by omega
    generalize (t / 2) % (2 ^ 52 - 1) = r at *
    rcases h2 with h2 | h2 <;> rw [h2] <;> omega
/-- A value for a word. -/
def VPost (SB INF a : Nat) (w : World) (e : Ending) (w' : World) : Prop := ∃ v : Nat, e = .returned (.float .f64 v) ∧ ValOf SB INF a v ∧ Below w.heap.size w w'
theorem value_32 (a : Nat) (w : World) : Calls Tryz.prog 215 #[.int .i64 32, .int .u64 a] w (VPost 2147483648 2139095040 (a % 4294967296) w) := by
  have HF := fun w => hid (F32_any a w)
  have hlt : a % 4294967296 < 2 * 2147483648 := by omega
  generalize a % 4294967296 = c at *
  by_cases h : 2139095040 < c % 2147483648
  · obtain ⟨v, hx, hv⟩ := conv_nan c h w
    have HV := hid (And.intro h hv)
    clear h hv hlt
    go_enter Tryz.func215, Tryz.ntmps215
    go_wp2_with (go_at_call 227; ((with_reducible refine (HF _).out.mono ?_); rintro e w1 ⟨rfl, rfl⟩))
    go_ret
    exact ⟨v, rfl, .inl HV.out, (Below.refl _ _).drew⟩
  · have hx : ∀ W : World, (convert 164 159 (.float .f32 c)).run Tryz.prog W = .ok (.float .f64 (vS c)) W := fun W => conv_ok c hlt (by omega) W
    have hr := vS_read hlt (by omega)
    have HV : Hid (ValOf 2147483648 2139095040 c (vS c)) := hid (.inr ⟨by omega, hr.2.2, .inl ⟨rfl, rfl, rfl⟩⟩)
    generalize vS c = v at *
    clear h hr hlt
    go_enter Tryz.func215, Tryz.ntmps215
    go_wp2_with (go_at_call 227; ((with_reducible refine (HF _).out.mono ?_); rintro e w1 ⟨rfl, rfl⟩))
    go_ret
    exact ⟨v, rfl, HV.out, Below.refl _ _⟩
theorem value_64 (a : Nat) (ha : a < 18446744073709551616) (w : World) : Calls Tryz.prog 215 #[.int .i64 64, .int .u64 a] w (VPost 9223372036854775808 9218868437227405312 a w) := by
  have HV : Hid (ValOf 9223372036854775808 9218868437227405312 a a) := hid (by
    by_cases h : 9218868437227405312 < a % 9223372036854775808
    · exact .inl ⟨h, h⟩
    · exact .inr ⟨by omega, by omega, .inr ⟨rfl, rfl, rfl⟩⟩)
  go_enter Tryz.func215, Tryz.ntmps215
  go_wp2_with (go_at_call 252; ((with_reducible refine (F64_any _ _).mono ?_); rintro e w1 ⟨rfl, rfl⟩))
  go_ret
  exact ⟨a, rfl, HV.out, Below.refl _ _⟩
end Go.Proofs.YtlhakbkdlgejpaaGreatDoor.Fl
namespace Go.Proofs.YtlhakbkdlgejpaaGreatDoor.Fl
open Go.RowKit
theorem relI_lt {x y : Int} (op : Nat) (h : x < y) : relI op x y = if op = 1 then false else if op = 2 then true else if op = 3 then true else if op = 4 then false else if op = 5 then true else false := by
  have e1 : (x == y) = false := by rw [beq_eq_false_iff_ne]; omega
  have e2 : (x != y) = true := by rw [bne, e1]; rfl
  have e3 : decide (x < y) = true := decide_eq_true h
  have e4 : decide (y < x) = false := decide_eq_false (by omega)
  have e5 : decide (x ≤ y) = true := decide_eq_true (by omega)
  have e6 : decide (y ≤ x) = false := decide_eq_false (by omega)
  unfold relI
  rw [e1, e2, e3, e4, e5, e6]
theorem relI_gt {x y : Int} (op : Nat) (h : y < x) : relI op x y = if op = 1 then false else if op = 2 then true else if op = 3 then false else if op = 4 then true else if op = 5 then false else true := by
  have e1 : (x == y) = false := by rw [beq_eq_false_iff_ne]; omega
  have e2 : (x != y) = true := by rw [bne, e1]; rfl
  have e3 : decide (x < y) = false := decide_eq_false (by omega)
  have e4 : decide (y < x) = true := decide_eq_true h
  have e5 : decide (x ≤ y) = false := decide_eq_false (by omega)
  have e6 : decide (y ≤ x) = true := decide_eq_true (by omega)
  unfold relI
  rw [e1, e2, e3, e4, e5, e6]
theorem relI_eq {x y : Int} (op : Nat) (h : x = y) : relI op x y = if op = 1 then true else if op = 2 then false else if op = 3 then false else if op = 4 then false else if op = 5 then true else true := by
  subst h
  have e1 : (x == x) = true := by rw [beq_iff_eq]
  have e2 : (x != x) = false := by rw [bne, e1]; rfl
  have e3 : decide (x < x) = false := decide_eq_false (by omega)
  have e5 : decide (x ≤ x) = true := decide_eq_true (by omega)
  unfold relI
  rw [e1, e2, e3, e5]
set_option maxRecDepth 20000 in
set_option maxHeartbeats 6400000 in
theorem RRel_32 (op : Nat) (hop : op = 1 ∨ op = 2 ∨ op = 3 ∨ op = 4 ∨ op = 5 ∨ op = 6) (a b : Nat) (ha : a < 18446744073709551616) (hb : b < 18446744073709551616) (w : World) :
    Calls Tryz.prog 146 #[.int .i64 32, .int .i64 op, .int .u64 a, .int .u64 b] w fun e w' => e = .returned (.tuple #[.bool (relW 2147483648 2139095040 op (a % 4294967296) (b % 4294967296)), .int .i64 0]) ∧ Below w.heap.size w w' := by
  have HVA : ∀ W, Hid (Calls Tryz.prog 215 #[.int .i64 32, .int .u64 a] W (VPost 2147483648 2139095040 (a % 4294967296) W)) := fun W => hid (value_32 a W)
  have HVB : ∀ W, Hid (Calls Tryz.prog 215 #[.int .i64 32, .int .u64 b] W (VPost 2147483648 2139095040 (b % 4294967296) W)) := fun W => hid (value_32 b W)
  have hc : a % 4294967296 < 2 * 2147483648 := by omega
  have hd : b % 4294967296 < 2 * 2147483648 := by omega
  have hrw : relW 2147483648 2139095040 op (a % 4294967296) (b % 4294967296) = if 2139095040 < a % 4294967296 % 2147483648 ∨ 2139095040 < b % 4294967296 % 2147483648 then op == 2 else relI op (rankOf 2147483648 (a % 4294967296)) (rankOf 2147483648 (b % 4294967296)) := rfl
  rw [hrw]
  clear hrw
  generalize a % 4294967296 = c at *
  generalize b % 4294967296 = d at *
  have HO := hid (fun v u (hv : ValOf 2147483648 2139095040 c v) (hu : ValOf 2147483648 2139095040 d u) => order_val hc hd hv hu)
  clear hc hd ha hb
  -- the four ways in which two values stand
  have hcase : ∃ O : Option Ordering, (∀ v u, ValOf 2147483648 2139095040 c v → ValOf 2147483648 2139095040 d u → Ieee.double.order v u = O) ∧
      ((O = none ∧ (2139095040 < c % 2147483648 ∨ 2139095040 < d % 2147483648)) ∨ (O = some .lt ∧ ¬ (2139095040 < c % 2147483648 ∨ 2139095040 < d % 2147483648) ∧ rankOf 2147483648 c < rankOf 2147483648 d) ∨ (O = some .eq ∧ ¬ (2139095040 < c % 2147483648 ∨ 2139095040 < d % 2147483648) ∧ rankOf 2147483648 c = rankOf 2147483648 d) ∨ (O = some .gt ∧ ¬ (2139095040 < c % 2147483648 ∨ 2139095040 < d % 2147483648) ∧ rankOf 2147483648 d < rankOf 2147483648 c)) := by
    by_cases hn : 2139095040 < c % 2147483648 ∨ 2139095040 < d % 2147483648
    · exact ⟨none, fun v u hv hu => by rw [HO.out v u hv hu, if_pos hn], .inl ⟨rfl, hn⟩⟩
    · rcases Int.lt_trichotomy (rankOf 2147483648 c) (rankOf 2147483648 d) with h | h | h
      · exact ⟨some .lt, fun v u hv hu => by rw [HO.out v u hv hu, if_neg hn, cmp_lt h], .inr (.inl ⟨rfl, hn, h⟩)⟩
      · exact ⟨some .eq, fun v u hv hu => by rw [HO.out v u hv hu, if_neg hn, cmp_eq h], .inr (.inr (.inl ⟨rfl, hn, h⟩))⟩
      · exact ⟨some .gt, fun v u hv hu => by rw [HO.out v u hv hu, if_neg hn, cmp_gt h], .inr (.inr (.inr ⟨rfl, hn, h⟩))⟩
  obtain ⟨O, hO, h4⟩ := hcase
  have HOO := hid hO
  clear hO HO
  have hres : (if 2139095040 < c % 2147483648 ∨ 2139095040 < d % 2147483648 then op == 2 else relI op (rankOf 2147483648 c) (rankOf 2147483648 d)) =
      (if op = 1 then O == some .eq else if op = 2 then O != some .eq else if op = 3 then O == some .lt else if op = 4 then O == some .gt else if op = 5 then (O == some .lt || O == some .eq) else (O == some .gt || O == some .eq)) := by
    rcases h4 with ⟨rfl, h⟩ | ⟨rfl, hn, h⟩ | ⟨rfl, hn, h⟩ | ⟨rfl, hn, h⟩
    · rw [if_pos h]; rcases hop with rfl | rfl | rfl | rfl | rfl | rfl <;> rfl
    · rw [if_neg hn, relI_lt op h]; rcases hop with rfl | rfl | rfl | rfl | rfl | rfl <;> rfl
    · rw [if_neg hn, relI_eq op h]; rcases hop with rfl | rfl | rfl | rfl | rfl | rfl <;> rfl
    · rw [if_neg hn, relI_gt op h]; rcases hop with rfl | rfl | rfl | rfl | rfl | rfl <;> rfl
  rw [hres]
  clear hres h4
  rcases hop with rfl | rfl | rfl | rfl | rfl | rfl
  all_goals
    go_enter Tryz.func146, Tryz.ntmps146
    go_wp2_with (first
      | (go_at_call 215; ((with_reducible refine (HVA _).out.mono ?_); rintro e w1 ⟨v, rfl, hv, hb1⟩))
      | (go_at_call 215; ((with_reducible refine (HVB _).out.mono ?_); rintro e w2 ⟨u, rfl, hu, hb2⟩; have ho : FloatKind.f64.format.order v u = O := HOO.out v u hv hu)))
    go_ret2
    exact ⟨rfl, balloc (bnext hb1 hb2) _⟩
set_option maxRecDepth 20000 in
set_option maxHeartbeats 6400000 in
theorem RRel_64 (op : Nat) (hop : op = 1 ∨ op = 2 ∨ op = 3 ∨ op = 4 ∨ op = 5 ∨ op = 6) (a b : Nat) (ha : a < 18446744073709551616) (hb : b < 18446744073709551616) (w : World) :
    Calls Tryz.prog 146 #[.int .i64 64, .int .i64 op, .int .u64 a, .int .u64 b] w fun e w' => e = .returned (.tuple #[.bool (relW 9223372036854775808 9218868437227405312 op (a % 18446744073709551616) (b % 18446744073709551616)), .int .i64 0]) ∧ Below w.heap.size w w' := by
  have HVA : ∀ W, Hid (Calls Tryz.prog 215 #[.int .i64 64, .int .u64 a] W (VPost 9223372036854775808 9218868437227405312 (a % 18446744073709551616) W)) := fun W => hid (by rw [Nat.mod_eq_of_lt ha]; exact value_64 a ha W)
  have HVB : ∀ W, Hid (Calls Tryz.prog 215 #[.int .i64 64, .int .u64 b] W (VPost 9223372036854775808 9218868437227405312 (b % 18446744073709551616) W)) := fun W => hid (by rw [Nat.mod_eq_of_lt hb]; exact value_64 b hb W)
  have hc : a % 18446744073709551616 < 2 * 9223372036854775808 := by omega
  have hd : b % 18446744073709551616 < 2 * 9223372036854775808 := by omega
  have hrw : relW 9223372036854775808 9218868437227405312 op (a % 18446744073709551616) (b % 18446744073709551616) = if 9218868437227405312 < a % 18446744073709551616 % 9223372036854775808 ∨ 9218868437227405312 < b % 18446744073709551616 % 9223372036854775808 then op == 2 else relI op (rankOf 9223372036854775808 (a % 18446744073709551616)) (rankOf 9223372036854775808 (b % 18446744073709551616)) := rfl
  rw [hrw]
  clear hrw
  generalize a % 18446744073709551616 = c at *
  generalize b % 18446744073709551616 = d at *
  have HO := hid (fun v u (hv : ValOf 9223372036854775808 9218868437227405312 c v) (hu : ValOf 9223372036854775808 9218868437227405312 d u) => order_val hc hd hv hu)
  clear hc hd ha hb
  -- the four ways in which two values stand
  have hcase : ∃ O : Option Ordering, (∀ v u, ValOf 9223372036854775808 9218868437227405312 c v → ValOf 9223372036854775808 9218868437227405312 d u → Ieee.double.order v u = O) ∧
      ((O = none ∧ (9218868437227405312 < c % 9223372036854775808 ∨ 9218868437227405312 < d % 9223372036854775808)) ∨ (O = some .lt ∧ ¬ (9218868437227405312 < c % 9223372036854775808 ∨ 9218868437227405312 < d % 9223372036854775808) ∧ rankOf 9223372036854775808 c < rankOf 9223372036854775808 d) ∨ (O = some .eq ∧ ¬ (9218868437227405312 < c % 9223372036854775808 ∨ 9218868437227405312 < d % 9223372036854775808) ∧ rankOf 9223372036854775808 c = rankOf 9223372036854775808 d) ∨ (O = some .gt ∧ ¬ (9218868437227405312 < c % 9223372036854775808 ∨ 9218868437227405312 < d % 9223372036854775808) ∧ rankOf 9223372036854775808 d < rankOf 9223372036854775808 c)) := by
    by_cases hn : 9218868437227405312 < c % 9223372036854775808 ∨ 9218868437227405312 < d % 9223372036854775808
    · exact ⟨none, fun v u hv hu => by rw [HO.out v u hv hu, if_pos hn], .inl ⟨rfl, hn⟩⟩
    · rcases Int.lt_trichotomy (rankOf 9223372036854775808 c) (rankOf 9223372036854775808 d) with h | h | h
      · exact ⟨some .lt, fun v u hv hu => by rw [HO.out v u hv hu, if_neg hn, cmp_lt h], .inr (.inl ⟨rfl, hn, h⟩)⟩
      · exact ⟨some .eq, fun v u hv hu => by rw [HO.out v u hv hu, if_neg hn, cmp_eq h], .inr (.inr (.inl ⟨rfl, hn, h⟩))⟩
      · exact ⟨some .gt, fun v u hv hu => by rw [HO.out v u hv hu, if_neg hn, cmp_gt h], .inr (.inr (.inr ⟨rfl, hn, h⟩))⟩
  obtain ⟨O, hO, h4⟩ := hcase
  have HOO := hid hO
  clear hO HO
  have hres : (if 9218868437227405312 < c % 9223372036854775808 ∨ 9218868437227405312 < d % 9223372036854775808 then op == 2 else relI op (rankOf 9223372036854775808 c) (rankOf 9223372036854775808 d)) =
      (if op = 1 then O == some .eq else if op = 2 then O != some .eq else if op = 3 then O == some .lt else if op = 4 then O == some .gt else if op = 5 then (O == some .lt || O == some .eq) else (O == some .gt || O == some .eq)) := by
    rcases h4 with ⟨rfl, h⟩ | ⟨rfl, hn, h⟩ | ⟨rfl, hn, h⟩ | ⟨rfl, hn, h⟩
    · rw [if_pos h]; rcases hop with rfl | rfl | rfl | rfl | rfl | rfl <;> rfl
    · rw [if_neg hn, relI_lt op h]; rcases hop with rfl | rfl | rfl | rfl | rfl | rfl <;> rfl
    · rw [if_neg hn, relI_eq op h]; rcases hop with rfl | rfl | rfl | rfl | rfl | rfl <;> rfl
    · rw [if_neg hn, relI_gt op h]; rcases hop with rfl | rfl | rfl | rfl | rfl | rfl <;> rfl
  rw [hres]
  clear hres h4
  rcases hop with rfl | rfl | rfl | rfl | rfl | rfl
  all_goals
    go_enter Tryz.func146, Tryz.ntmps146
    go_wp2_with (first
      | (go_at_call 215; ((with_reducible refine (HVA _).out.mono ?_); rintro e w1 ⟨v, rfl, hv, hb1⟩))
      | (go_at_call 215; ((with_reducible refine (HVB _).out.mono ?_); rintro e w2 ⟨u, rfl, hu, hb2⟩; have ho : FloatKind.f64.format.order v u = O := HOO.out v u hv hu)))
    go_ret2
    exact ⟨rfl, balloc (bnext hb1 hb2) _⟩
end Go.Proofs.YtlhakbkdlgejpaaGreatDoor.Fl
namespace Go.Proofs.YtlhakbkdlgejpaaGreatDoor
open Go.RowKit
noncomputable def chkFRel (op : Int) : Bool := chkC true op && chkFl op && n3264 op && (swL FU (verbL (nmL op)) == 0) && decide (1 ≤ swL FR (verbL (nmL op))) && decide (swL FR (verbL (nmL op)) ≤ 6) && (plL FRELL (tailC (nmL op) 46) 0 == swL FR (verbL (nmL op))) && (plL FBINL (tailC (nmL op) 46) 0 == -1) && (plL FUNL (tailC (nmL op) 46) 0 == -1)
def fR32 (q : Int) (x y : Nat) : Bool := Fl.relW 2147483648 2139095040 q.toNat (x % 4294967296) (y % 4294967296)
def fR64 (q : Int) (x y : Nat) : Bool := Fl.relW 9223372036854775808 9218868437227405312 q.toNat (x % 18446744073709551616) (y % 18446744073709551616)
def RRelF (n : Nat) (q : Int) (f : Nat → Nat → Bool) : Prop := ∀ (x y : Nat) (W : World), x < 18446744073709551616 → y < 18446744073709551616 →
  Calls Tryz.prog 146 #[.int .i64 n, .int .i64 q, .int .u64 x, .int .u64 y] W fun e w' => e = .returned (.tuple #[.bool (f x y), .int .i64 0]) ∧ Below W.heap.size W w'
theorem pFR32 (k : Nat) (h : k = 1 ∨ k = 2 ∨ k = 3 ∨ k = 4 ∨ k = 5 ∨ k = 6) : Rel2 110 (32 : Nat) k (fR32 k) := fun x y W hx hy =>
  (Fl.Rel_32 k h x y hx hy W).mono fun e w' ⟨he, hb⟩ => ⟨⟨_, he⟩, hb⟩
theorem pFR64 (k : Nat) (h : k = 1 ∨ k = 2 ∨ k = 3 ∨ k = 4 ∨ k = 5 ∨ k = 6) : Rel2 110 (64 : Nat) k (fR64 k) := fun x y W hx hy =>
  (Fl.Rel_64 k h x y hx hy W).mono fun e w' ⟨he, hb⟩ => ⟨⟨_, he⟩, hb⟩
theorem rFR32 (k : Nat) (h : k = 1 ∨ k = 2 ∨ k = 3 ∨ k = 4 ∨ k = 5 ∨ k = 6) : RRelF 32 k (fR32 k) := fun x y W hx hy =>
  (Fl.RRel_32 k h x y hx hy W).mono fun e w' ⟨he, hb⟩ => ⟨he, hb⟩
theorem rFR64 (k : Nat) (h : k = 1 ∨ k = 2 ∨ k = 3 ∨ k = 4 ∨ k = 5 ∨ k = 6) : RRelF 64 k (fR64 k) := fun x y W hx hy =>
  (Fl.RRel_64 k h x y hx hy W).mono fun e w' ⟨he, hb⟩ => ⟨he, hb⟩
theorem agree_frel (op : Int) (h : chkFRel op = true) (alo ahi blo bhi : Nat) (anl bnl : Bool) (h1 : alo < 18446744073709551616) (h2 : ahi < 18446744073709551616) (h3 : blo < 18446744073709551616) (h4 : bhi < 18446744073709551616) (w : World) (hg : Glob w) :
    ∃ lo hi, (∀ W va, Below w.heap.size w W → AR W va [(123, alo, ahi, anl), (123, blo, bhi, bnl)] → Calls Tryz.prog 20 #[.int .i64 op, .slice none 0 0, va] W fun e w' => e = .returned (.tuple #[vv 123 lo hi false, .int .i64 0]) ∧ Below W.heap.size W w') ∧
      (∀ W va, Below w.heap.size w W → AR W va [(123, alo, ahi, anl), (123, blo, bhi, bnl)] → Calls Tryz.prog 38 #[.int .i64 op, .slice none 0 0, va] W fun e w' => e = .returned (.tuple #[vv 123 lo hi false, .int .i64 0]) ∧ Below W.heap.size W w') := by
  unfold chkFRel at h
  simp only [Bool.and_eq_true, Bool.not_eq_true', decide_eq_true_eq] at h
  obtain ⟨⟨⟨⟨⟨⟨⟨⟨hc, hi⟩, hn⟩, u0⟩, u1⟩, u2⟩, u3⟩, v0⟩, v1⟩ := h
  obtain ⟨n, ro, tk, lv, fx, P⟩ := PCF_of true op hc hi
  have hn := PCF_n true op hn n P.bi hc
  generalize nmL op = nm at *
  generalize verbL nm = vb at *
  generalize sgL nm = sg at *
  generalize headC nm 46 = sh at *
  generalize tailC nm 46 = what at *
  generalize hs : swL FR vb = s at *
  obtain ⟨k, rfl⟩ : ∃ k : Nat, s = (k : Int) := ⟨s.toNat, by omega⟩
  have u0 := eq_of_beq u0
  have u3 : plL FRELL what 0 = k := eq_of_beq u3
  have v0 := eq_of_beq v0
  have v1 := eq_of_beq v1
  have hk : k = 1 ∨ k = 2 ∨ k = 3 ∨ k = 4 ∨ k = 5 ∨ k = 6 := by omega
  obtain ⟨f, HPR, HRR⟩ : ∃ f : Nat → Nat → Bool, Rel2 110 n k f ∧ RRelF n k f := by
    rcases hn with rfl | rfl
    · exact ⟨_, pFR32 k hk, rFR32 k hk⟩
    · exact ⟨_, pFR64 k hk, rFR64 k hk⟩
  have hF := fun b => ones_lt n P.okn b
  have hm : 18446744073709551615 % 2 ^ n = 2 ^ n - 1 := by rcases hn with rfl | rfl <;> decide
  have HC : ∀ W, Calls Tryz.prog 81 #[.int .i64 n, .int .u64 18446744073709551615] W fun e w' => e = .returned (.int .u64 (2 ^ n - 1 : Nat)) ∧ W = w' := fun W => by
    have := Cut_any n P.okn 18446744073709551615 (by decide) W
    rw [hm] at this
    exact this
  refine ⟨loF n (fun i => if f (splitF n alo ahi i) (splitF n blo bhi i) then 2 ^ n - 1 else 0), hiF n (fun i => if f (splitF n alo ahi i) (splitF n blo bhi i) then 2 ^ n - 1 else 0), fun W va hb ha => ?_, fun W va hb ha => ?_⟩
  · have H := Do_each2 op nm vb n P.okn true true 0 sg P.nm1 P.par P.len (fun hx => by rw [P.xs] at hx; cases hx) P.lo P.kn P.im P.la P.lb P.ea (fun x y => if f x y then 18446744073709551615 else 0)
      (fun W => operation_rel_f vb true n n sg k u0 hs (by omega) _ HPR P.n0 P.n1 W) (fun x y _ _ => by cases f x y <;> decide) alo ahi blo bhi anl bnl h1 h2 h3 h4 W (hg.next hb) va ha
    rw [loF_congr P.okn (G := fun i => if f (splitF n alo ahi i) (splitF n blo bhi i) then 2 ^ n - 1 else 0) (fun i _ => ones_mod n P.okn _), hiF_congr P.okn (G := fun i => if f (splitF n alo ahi i) (splitF n blo bhi i) then 2 ^ n - 1 else 0) (fun i _ => ones_mod n P.okn _)] at H
    exact H
  refine RDo_vec op P.lo ro nm tk lv fx P.of P.ro0 P.tk1 P.lv1 P.lv2 [(123, alo, ahi, anl), (123, blo, bhi, bnl)] P.tk2 (by simp) (by simp) va W ha _ _ fun W' hb' => ?_
  exact RDone_two (ro, nm, 0, tk, lv, fx) sh what P.shE P.whE P.len n P.okn P.bi rfl rfl P.w0 P.w1 P.w2 P.w3 10 P.ns 102 true rfl P.ix (.slice none 0 0) va alo ahi anl blo bhi bnl h3 h4 h1 h2 W' (ha.call hb') (fun x y => if f x y then 2 ^ n - 1 else 0)
    (fun a b W ha hb => RLaneF_rel n hn what v0 v1 k u3 _ a b HC (fun W => HRR a b W ha hb) W) (fun i _ => hF _)
def LFStand : List Int := [65, 66, 67, 68, 69, 70, 71, 72, 73, 74, 75, 76]
theorem fstand_all : (LFStand.all fun x => chkFRel (64768 + x)) = true := by kernel_rfl
theorem chkFRel_c (op : Int) (h : chkFRel op = true) : chkC true op = true ∧ chkFl op = true := by
  unfold chkFRel at h
  simp only [Bool.and_eq_true] at h
  exact ⟨h.1.1.1.1.1.1.1.1, h.1.1.1.1.1.1.1.2⟩
end Go.Proofs.YtlhakbkdlgejpaaGreatDoor
namespace Go.Proofs.YtlhakbkdlgejpaaGreatDoor
open Go.RowKit
set_option maxRecDepth 100000 in
theorem row_FStand (w : World) : ∀ j, j < LFStand.length → (w.alloc (.cells #[.int .i64 65, .int .i64 66, .int .i64 67, .int .i64 68, .int .i64 69, .int .i64 70, .int .i64 71, .int .i64 72, .int .i64 73, .int .i64 74, .int .i64 75, .int .i64 76] 3)).cell? ⟨w.heap.size, j, none⟩ = some (.int .i64 (LFStand.getD j 0)) := fun j hj => by
  have h := CA.new w #[.int .i64 65, .int .i64 66, .int .i64 67, .int .i64 68, .int .i64 69, .int .i64 70, .int .i64 71, .int .i64 72, .int .i64 73, .int .i64 74, .int .i64 75, .int .i64 76] 3
  have hj : j < 12 := hj
  have e : ∀ i : Fin 12, (#[.int .i64 65, .int .i64 66, .int .i64 67, .int .i64 68, .int .i64 69, .int .i64 70, .int .i64 71, .int .i64 72, .int .i64 73, .int .i64 74, .int .i64 75, .int .i64 76] : Array Value)[i.val]? = some (.int .i64 (LFStand.getD i.val 0)) := by
    intro i
    rcases i with ⟨i, hi⟩; rcases (show i = 0 ∨ i = 1 ∨ i = 2 ∨ i = 3 ∨ i = 4 ∨ i = 5 ∨ i = 6 ∨ i = 7 ∨ i = 8 ∨ i = 9 ∨ i = 10 ∨ i = 11 by omega) with rfl | rfl | rfl | rfl | rfl | rfl | rfl | rfl | rfl | rfl | rfl | rfl <;> rfl
  exact h.at (k := j) (e ⟨j, hj⟩)
set_option maxHeartbeats 4000000 in
set_option maxRecDepth 100000 in
theorem some_FStand (which : Int) (hw0 : -9223372036854775808 ≤ which) (hw1 : which ≤ 9223372036854775807) (ta tb tc : Int) (alo ahi blo bhi clo chi : Nat) (anl bnl cnl : Bool) (h1 : alo < 18446744073709551616) (h2 : ahi < 18446744073709551616) (h3 : blo < 18446744073709551616) (h4 : bhi < 18446744073709551616) (nn : Int) (w : World) (hg : Glob w) :
    Calls Tryz.prog 21 #[.slice (some ⟨w.heap.size, 0, none⟩) 12 12, .int .i64 which, vv ta alo ahi anl, vv tb blo bhi bnl, vv tc clo chi cnl, .int .u64 nn] (w.alloc (.cells #[.int .i64 65, .int .i64 66, .int .i64 67, .int .i64 68, .int .i64 69, .int .i64 70, .int .i64 71, .int .i64 72, .int .i64 73, .int .i64 74, .int .i64 75, .int .i64 76] 3)) fun e w' => e = .returned (.bool true) ∧ Below w.heap.size w w' := by
  obtain ⟨y, _, hy⟩ := and_1023 which
  have hi : y % LFStand.length < LFStand.length := Nat.mod_lt _ (by decide)
  have hmem : LFStand.getD (y % LFStand.length) 0 ∈ LFStand := by
    rw [List.getD_eq_getElem?_getD, List.getElem?_eq_getElem hi]
    exact List.getElem_mem hi
  have hchk : chkFRel (64768 + LFStand.getD (y % LFStand.length) 0) = true := List.all_eq_true.1 fstand_all _ hmem
  obtain ⟨op, hop⟩ : ∃ op, op = 64768 + LFStand.getD (y % LFStand.length) 0 := ⟨_, rfl⟩
  rw [← hop] at hchk
  have hb0 := (Below.refl _ w).alloc (Nat.le_refl _) (.cells #[.int .i64 65, .int .i64 66, .int .i64 67, .int .i64 68, .int .i64 69, .int .i64 70, .int .i64 71, .int .i64 72, .int .i64 73, .int .i64 74, .int .i64 75, .int .i64 76] 3)
  obtain ⟨lo, hi', HP, HR⟩ := agree_frel op hchk alo ahi blo bhi anl bnl h1 h2 h3 h4 (w.alloc (.cells #[.int .i64 65, .int .i64 66, .int .i64 67, .int .i64 68, .int .i64 69, .int .i64 70, .int .i64 71, .int .i64 72, .int .i64 73, .int .i64 74, .int .i64 75, .int .i64 76] 3)) (hg.next hb0)
  obtain ⟨n, ro, tk, lv, fx, P⟩ := PCF_of true op (chkFRel_c op hchk).1 (chkFRel_c op hchk).2
  have H := some_2 LFStand (by decide) (by decide) w.heap.size 12 which hw0 hw1 ta tb tc alo ahi blo bhi clo chi anl bnl cnl nn (w.alloc (.cells #[.int .i64 65, .int .i64 66, .int .i64 67, .int .i64 68, .int .i64 69, .int .i64 70, .int .i64 71, .int .i64 72, .int .i64 73, .int .i64 74, .int .i64 75, .int .i64 76] 3)) (by rw [size_al]; omega) (row_FStand w) y (y % LFStand.length) hy rfl hi op hop ⟨P.lo, P.hi⟩ ro (nmL op) tk lv fx P.of P.tk1 P.tk2 lo hi' HP HR
  exact H.mono fun e w' ⟨he, hb⟩ => ⟨he, hb0.trans (hb.mono hb0.size)⟩
set_option maxHeartbeats 4000000 in
set_option maxRecDepth 100000 in
theorem law_FStand (which : Int) (hw0 : -9223372036854775808 ≤ which) (hw1 : which ≤ 9223372036854775807) (ta tb tc : Int) (alo ahi blo bhi clo chi : Nat) (anl bnl cnl : Bool) (h1 : alo < 18446744073709551616) (h2 : ahi < 18446744073709551616) (h3 : blo < 18446744073709551616) (h4 : bhi < 18446744073709551616) (nn : Int) (w : World) (hg : Glob w) :
    Calls Tryz.prog 5 #[.int .i64 which, vv ta alo ahi anl, vv tb blo bhi bnl, vv tc clo chi cnl, .int .u64 nn] w fun e w' => e = .returned (.bool true) ∧ Below w.heap.size w w' := by
  have HA := fun W h => hid (awake_says W h)
  have HS := fun W h => hid (some_FStand which hw0 hw1 ta tb tc alo ahi blo bhi clo chi anl bnl cnl h1 h2 h3 h4 nn W h)
  have HX := hid (Bx.start w #[.int .i64 ta, .int .u64 (alo : Nat), .int .u64 (ahi : Nat), .bool anl] #[.int .i64 tb, .int .u64 (blo : Nat), .int .u64 (bhi : Nat), .bool bnl] #[.int .i64 tc, .int .u64 (clo : Nat), .int .u64 (chi : Nat), .bool cnl])
  have HAA := HA _ (hg.next HX.out.below)
  have HG := hid hg
  unfold vv at HS ⊢
  clear hg h1 h2 h3 h4 hw0 hw1
  go_enter Tryz.func5, Tryz.ntmps5
  go_upto_region 2 with (go_at_call 19; (with_reducible refine HAA.out.mono ?_); rintro e w1 ⟨rfl, hb1⟩; have HX1 := hid (HX.out.to hb1); clear hb1)
  have HS1 := HS _ (HG.out.next HX1.out.below)
  have HB1 := hid HX1.out.below
  have hsz := HX1.out.below.size
  have a0 := fun o => (HX1.out.a.alloc o).at (k := 0) (v := .int .i64 ta) rfl
  have a1 := fun o => (HX1.out.a.alloc o).at (k := 1) (v := .int .u64 (alo : Nat)) rfl
  have a2 := fun o => (HX1.out.a.alloc o).at (k := 2) (v := .int .u64 (ahi : Nat)) rfl
  have a3 := fun o => (HX1.out.a.alloc o).at (k := 3) (v := .bool anl) rfl
  have b0 := fun o => (HX1.out.b.alloc o).at (k := 0) (v := .int .i64 tb) rfl
  have b1 := fun o => (HX1.out.b.alloc o).at (k := 1) (v := .int .u64 (blo : Nat)) rfl
  have b2 := fun o => (HX1.out.b.alloc o).at (k := 2) (v := .int .u64 (bhi : Nat)) rfl
  have b3 := fun o => (HX1.out.b.alloc o).at (k := 3) (v := .bool bnl) rfl
  have c0 := fun o => (HX1.out.c.alloc o).at (k := 0) (v := .int .i64 tc) rfl
  have c1 := fun o => (HX1.out.c.alloc o).at (k := 1) (v := .int .u64 (clo : Nat)) rfl
  have c2 := fun o => (HX1.out.c.alloc o).at (k := 2) (v := .int .u64 (chi : Nat)) rfl
  have c3 := fun o => (HX1.out.c.alloc o).at (k := 3) (v := .bool cnl) rfl
  clear HX HX1 HAA HA HS HG
  go_wp2_with (go_at_call 21; (with_reducible refine HS1.out.mono ?_); rintro e w2 ⟨rfl, hb2⟩; have HB2 := hid (HB1.out.trans (hb2.mono hsz)); clear hb2)
  go_ret
  exact ⟨rfl, HB2.out⟩
end Go.Proofs.YtlhakbkdlgejpaaGreatDoor
