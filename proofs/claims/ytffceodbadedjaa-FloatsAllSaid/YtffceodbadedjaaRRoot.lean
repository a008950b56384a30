/-
  The contract of the reference's Un: roots. Condition: the words are below 2^64.
-/
import Derived.Test.YtffceodbadedjaaRootD
import Derived.Test.YtffceodbadedjaaRUn
set_option linter.unusedSimpArgs false
set_option linter.unusedVariables false
namespace Go.Proofs.Ytffceodbadedjaa
open Go.RowKit

section
open Ieee

theorem write_zero (f : Format) (s : Bool) (e : Int) : f.write (.number s 0 e) = f.word s 0 := by
  show f.nearest s 0 e = _
  rw [nearest_eq]
  have hz : rungOf f 0 e = 0 := by unfold rungOf; rw [if_pos rfl]
  rw [hz]

theorem root_notNaN (k : Nat) (d r : Datum) (h : d.root k = some r) : r.isNaN = false := by
  cases d with
  | nan s t => cases h
  | infinity s => cases s <;> simp [Datum.root] at h; subst h; rfl
  | number s m e =>
    by_cases h0 : m = 0
    · simp only [Datum.root, if_pos h0] at h; cases h; rfl
    · cases s
      · simp only [Datum.root, if_neg h0] at h; cases h; rfl
      · simp only [Datum.root, if_neg h0] at h; cases h

/-- A root of a float of 32 bits, reckoned at 64 bits and made one of 32, is the root at 32. -/
theorem sqrt_fin {c : Nat} (hc : c < 2 * 2147483648) (h : kindOf 2139095040 (c % 2147483648) = 2) (hs : ¬ 2147483648 ≤ c) :
    ∃ y r, double.sqrt (vS c) = some y ∧ single.sqrt c = some r ∧ floatToFloatBits .f64 y .f32 = some r := by
  have hk := kind2.1 h
  obtain ⟨h1, h2, h3⟩ : _ ∧ _ ∧ _ := by
    rcases (vS_read hc (by omega)).1 with h4 | h4
    · exact h4
    · omega
  have hm0 : pm 23 (c % 2147483648) ≠ 0 := (rk2 fmt_single hc h).2
  have hm24 : pm 23 (c % 2147483648) < 16777216 := pm_lt 23 _
  have he := pe_eq 23 (-149) (c % 2147483648)
  have hq : c % 2147483648 / 2 ^ 23 ≤ 254 := by show c % 2147483648 / 8388608 ≤ 254; omega
  unfold Format.sqrt
  rw [h2, h3, decide_eq_false hs]
  generalize pm 23 (c % 2147483648) = m at *
  generalize pe 23 (-149) (c % 2147483648) = e at *
  generalize c % 2147483648 / 2 ^ 23 = q at *
  have heb : -149 ≤ e ∧ e ≤ 104 := by omega
  have hlog : m.log2 < 24 := log2_lt_of hm0 (by omega)
  have hlo := Nat.log2_self_le hm0
  have hhi := @Nat.lt_log2_self m
  obtain ⟨L, hL⟩ : ∃ L : Nat, L = m.log2 := ⟨_, rfl⟩
  rw [← hL] at hlog hlo hhi
  obtain ⟨K, hK1, hK2, hK3⟩ : ∃ K : Nat, (e - (K : Int)) % 2 = 0 ∧ 118 - L ≤ K ∧ K ≤ 119 - L := by
    by_cases hp : (e - ((118 - L : Nat) : Int)) % 2 = 0
    · exact ⟨118 - L, hp, by omega, by omega⟩
    · exact ⟨119 - L, by omega, by omega, by omega⟩
  have hn1 : 2 ^ 118 ≤ m * 2 ^ K := by
    have a1 : 2 ^ L * 2 ^ (118 - L) ≤ m * 2 ^ K := Nat.mul_le_mul hlo (Nat.pow_le_pow_right (by decide) hK2)
    rw [← Nat.pow_add, show L + (118 - L) = 118 by omega] at a1
    exact a1
  have hn2 : m * 2 ^ K < 2 ^ 120 := by
    have a1 : m * 2 ^ K < 2 ^ (L + 1) * 2 ^ K := Nat.mul_lt_mul_of_pos_right hhi (Nat.two_pow_pos K)
    rw [← Nat.pow_add] at a1
    exact Nat.lt_of_lt_of_le a1 (Nat.pow_le_pow_right (by decide) (by omega))
  obtain ⟨n', hn'⟩ : ∃ n' : Nat, n' = m * 2 ^ (K - 70) := ⟨_, rfl⟩
  have hnn : m * 2 ^ K = n' * 1180591620717411303424 := by
    rw [hn', show (1180591620717411303424 : Nat) = 2 ^ 70 by decide, Nat.mul_assoc, ← Nat.pow_add, show K - 70 + 70 = K by omega]
  obtain ⟨R, hR⟩ : ∃ R : Nat, SqrtOf (m * 2 ^ K) R := ⟨_, root_spec _⟩
  have hR1 : 2 ^ 59 ≤ R := sqrt_lo hR (by rw [show 2 * 59 = 118 by decide]; exact hn1)
  have hR2 : R < 2 ^ 60 := by
    rcases Nat.lt_or_ge R (2 ^ 60) with h5 | h5
    · exact h5
    · exfalso
      have h6 : 2 ^ 60 * 2 ^ 60 ≤ R * R := Nat.mul_le_mul h5 h5
      rw [← Nat.pow_add] at h6
      have := hR.1
      exact absurd (Nat.lt_of_le_of_lt (Nat.le_trans h6 this) hn2) (Nat.lt_irrefl _)
  have hw : wideD false m e = .number false (m * 2 ^ (52 - L)) (e - ((52 - L : Nat) : Int)) := by unfold wideD; rw [if_neg hm0, hL]
  have hmk : m * 2 ^ (52 - L) * 2 ^ (K - (52 - L)) = m * 2 ^ K := by rw [Nat.mul_assoc, ← Nat.pow_add, show 52 - L + (K - (52 - L)) = K by omega]
  have rs := root_math (f := single) m e hm0 hK1 hR (Nat.le_trans (Nat.pow_le_pow_right (by decide) (by decide)) hn1)
  have rd := root_math (f := double) (m * 2 ^ (52 - L)) (e - ((52 - L : Nat) : Int)) (Nat.mul_ne_zero hm0 (by have := Nat.two_pow_pos (52 - L); omega)) (K := K - (52 - L)) (r := R) (by omega) (by rw [hmk]; exact hR) (by rw [hmk]; exact Nat.le_trans (Nat.pow_le_pow_right (by decide) (by decide)) hn1)
  rw [hmk, show (e - ((52 - L : Nat) : Int) - ((K - (52 - L) : Nat) : Int)) / 2 = (e - (K : Int)) / 2 by omega] at rd
  rw [hw]
  refine ⟨_, _, rd, rs, ?_⟩
  rw [hnn] at hR ⊢
  exact root_twice n' R _ hR hR1 hR2 (by omega) (by omega)

theorem sqrt_conv {c : Nat} (hc : c < 2 * 2147483648) (h : c % 2147483648 ≤ 2139095040) :
    (double.sqrt (vS c) = none ∧ single.sqrt c = none) ∨ (∃ y r, double.sqrt (vS c) = some y ∧ single.sqrt c = some r ∧ floatToFloatBits .f64 y .f32 = some r) := by
  rcases kind_le h with hk | hk | hk
  · right
    have h0 := kind1.1 hk
    refine ⟨double.word (decide (2147483648 ≤ c)) 0, single.word (decide (2147483648 ≤ c)) 0, ?_, ?_, ?_⟩
    · rcases (vS_read hc h).1 with ⟨_, h2, h3⟩ | ⟨h4, _⟩
      · unfold Format.sqrt
        have hp : pm 23 (c % 2147483648) = 0 := by rw [h0]; decide
        rw [h2, hp]
        have : wideD (decide (2147483648 ≤ c)) 0 (pe 23 (-149) (c % 2147483648)) = .number (decide (2147483648 ≤ c)) 0 (-1074) := by unfold wideD; rw [if_pos rfl]
        rw [this]
        show some (double.write (.number _ 0 (-1074))) = _
        rw [write_zero]
      · omega
    · unfold Format.sqrt
      rw [rk1 fmt_single hc hk]
      show some (single.write (.number _ 0 _)) = _
      rw [write_zero]
    · have := demote_num (decide (2147483648 ≤ c)) 0 0 (by decide) (by decide) (by decide) (by decide +kernel)
      rw [write_zero, write_zero] at this
      exact this
  · by_cases hs : 2147483648 ≤ c
    · left
      have hk2 := rk2 fmt_single hc hk
      refine ⟨?_, sqrt_neg fmt_single hc (.inl hk) hs⟩
      rcases (vS_read hc h).1 with ⟨_, h2, h3⟩ | ⟨h4, _⟩
      · unfold Format.sqrt
        rw [h2, decide_eq_true hs]
        unfold wideD
        rw [if_neg hk2.2]
        have : ¬ pm 23 (c % 2147483648) * 2 ^ (52 - (pm 23 (c % 2147483648)).log2) = 0 := Nat.mul_ne_zero hk2.2 (by have := Nat.two_pow_pos (52 - (pm 23 (c % 2147483648)).log2); omega)
        simp only [Datum.root, if_neg this]; rfl
      · have := (kind2.1 hk).2; omega
    · exact .inr (sqrt_fin hc hk hs)
  · have hi := (kind3 (by decide)).1 hk
    have h2 : double.read (vS c) = .infinity (decide (2147483648 ≤ c)) := by
      rcases (vS_read hc h).1 with ⟨h4, _⟩ | ⟨_, h2, _⟩
      · omega
      · exact h2
    by_cases hs : 2147483648 ≤ c
    · left
      refine ⟨?_, sqrt_neg fmt_single hc (.inr hk) hs⟩
      unfold Format.sqrt; rw [h2, decide_eq_true hs]; rfl
    · right
      refine ⟨double.write (.infinity false), single.write (.infinity false), ?_, ?_, by decide +kernel⟩
      · unfold Format.sqrt; rw [h2, decide_eq_false hs]; rfl
      · unfold Format.sqrt; rw [rk3 fmt_single hc hk, decide_eq_false hs]; rfl
end

theorem ext70_num (v y : Nat) (h : Ieee.double.sqrt v = some y) (w : World) : (callFunc 70 #[.float .f64 v]).run Try.prog w = .ok (.value (.float .f64 y)) w := by
  have := run_callFunc_extern (P := Try.prog) (e := Extern.MathSqrt.sqrt) Try.func70 (by kernel_rfl) (by kernel_rfl) (by kernel_rfl) (by kernel_rfl) #[.float .f64 v] w
  rw [this]
  have h' : FloatKind.f64.format.sqrt v = some y := h
  have : (Extern.MathSqrt.sqrt #[.float .f64 v]) = (match FloatKind.f64.format.sqrt v with | some r => pure (.float .f64 r) | none => do pure (.float .f64 (← choose (.nanBits .f64 v v)))) := rfl
  rw [this, h']; rfl
theorem ext70_nan (v : Nat) (h : Ieee.double.sqrt v = none) (w : World) : ∃ N : Nat, (callFunc 70 #[.float .f64 v]).run Try.prog w = .ok (.value (.float .f64 N)) w.drew ∧ 9218868437227405312 < N % 9223372036854775808 := by
  refine ⟨Question.cut (.nanBits .f64 v v) (w.tape w.drawn (.nanBits .f64 v v)), ?_, drawn_64 _⟩
  have := run_callFunc_extern (P := Try.prog) (e := Extern.MathSqrt.sqrt) Try.func70 (by kernel_rfl) (by kernel_rfl) (by kernel_rfl) (by kernel_rfl) #[.float .f64 v] w
  rw [this]
  have h' : FloatKind.f64.format.sqrt v = none := h
  have : (Extern.MathSqrt.sqrt #[.float .f64 v]) = (match FloatKind.f64.format.sqrt v with | some r => pure (.float .f64 r) | none => do pure (.float .f64 (← choose (.nanBits .f64 v v)))) := rfl
  rw [this, h']
  simp [run_choose_drew, Question.forced]

theorem sqrt50_num (v y : Nat) (h : Ieee.double.sqrt v = some y) (w : World) : Calls Try.prog 50 #[.float .f64 v] w fun e w' => e = .returned (.float .f64 y) ∧ w = w' := by
  have hx : ∀ W : World, (callFunc 70 #[.float .f64 v]).run Try.prog W = .ok (.value (.float .f64 y)) W := fun W => ext70_num v y h W
  clear h
  go_enter Try.func50, Try.ntmps50
  go_wp2
  go_ret
  exact ⟨rfl, rfl⟩
theorem sqrt50_nan (v : Nat) (h : Ieee.double.sqrt v = none) (w : World) : Calls Try.prog 50 #[.float .f64 v] w fun e w' => ∃ N : Nat, e = .returned (.float .f64 N) ∧ 9218868437227405312 < N % 9223372036854775808 ∧ Below w.heap.size w w' := by
  obtain ⟨N, hx, hN⟩ := ext70_nan v h w
  have HN := hid hN
  clear h hN
  go_enter Try.func50, Try.ntmps50
  go_wp2
  go_ret
  exact ⟨N, rfl, HN.out, (Below.refl _ _).drew⟩

set_option maxRecDepth 20000 in
set_option maxHeartbeats 3200000 in
theorem RUw_32_3_num (a c v y r : Nat) (hy : Ieee.double.sqrt v = some y) (hr : r < 2 * 2147483648 ∧ r % 2147483648 ≤ 2139095040) (hyr : floatToFloatBits .f64 y .f32 = some r)
    (HCA : ∀ W, Hid (Calls Try.prog 38 #[.int .i64 32, .int .u64 (a : Int)] W fun e w' => e = .returned (.int .u64 (c : Int)) ∧ W = w'))
    (HVA : ∀ W, Hid (Calls Try.prog 39 #[.int .i64 32, .int .u64 (c : Int)] W fun e w' => e = .returned (.float .f64 v) ∧ Below W.heap.size W w')) (w : World) :
    Calls Try.prog 24 #[.int .i64 32, .int .i64 3, .int .u64 (a : Int)] w fun e w' => e = .returned (.tuple #[.int .u64 (r : Int), .int .i64 0]) ∧ Below w.heap.size w w' := by
  have HS := fun W => hid (sqrt50_num v y hy W)
  have hcv : ∀ W : World, (convert 48 52 (.float .f64 y)).run Try.prog W = .ok (.float .f32 r) W := fun W => conv_num64 y r hyr W
  have HB := fun W => hid (BB_32 r hr.1 hr.2 W)
  clear hr hy hyr
  go_enter Try.func24, Try.ntmps24
  go_wp2_with (first
      | (go_at_call 38; ((with_reducible refine (HCA _).out.mono ?_); rintro e w1 ⟨rfl, rfl⟩))
      | (go_at_call 40; ((with_reducible refine (rsign_32 _).mono ?_); rintro e w3 ⟨rfl, rfl⟩))
      | (go_at_call 39; ((with_reducible refine (HVA _).out.mono ?_); rintro e w1 ⟨rfl, hb1⟩))
      | (go_at_call 50; ((with_reducible refine (HS _).out.mono ?_); rintro e w1 ⟨rfl, rfl⟩))
      | (go_at_call 44; ((with_reducible refine (HB _).out.mono ?_); rintro e w3 ⟨rfl, rfl⟩)))
  go_ret2
  exact ⟨rfl, hb1⟩

set_option maxRecDepth 20000 in
set_option maxHeartbeats 3200000 in
theorem RUw_32_3_nan (a c : Nat) (V : Nat → Prop) (HN0 : Hid (∀ v, V v → Ieee.double.sqrt v = none))
    (HCA : ∀ W, Hid (Calls Try.prog 38 #[.int .i64 32, .int .u64 (a : Int)] W fun e w' => e = .returned (.int .u64 (c : Int)) ∧ W = w'))
    (HVA : ∀ W, Hid (Calls Try.prog 39 #[.int .i64 32, .int .u64 (c : Int)] W fun e w' => ∃ v : Nat, e = .returned (.float .f64 v) ∧ V v ∧ Below W.heap.size W w')) (w : World) :
    Calls Try.prog 24 #[.int .i64 32, .int .i64 3, .int .u64 (a : Int)] w fun e w' => e = .returned (.tuple #[.int .u64 2143289344, .int .i64 0]) ∧ Below w.heap.size w w' := by
  have HB := hid BB_32_nan
  have HSN := hid (sqrt50_nan)
  go_enter Try.func24, Try.ntmps24
  go_wp2_with (first
      | (go_at_call 38; ((with_reducible refine (HCA _).out.mono ?_); rintro e w1 ⟨rfl, rfl⟩))
      | (go_at_call 40; ((with_reducible refine (rsign_32 _).mono ?_); rintro e w3 ⟨rfl, rfl⟩))
      | (go_at_call 39; ((with_reducible refine (HVA _).out.mono ?_); rintro e w1 ⟨v, rfl, hv, hb1⟩; have HV := hid (HN0.out v hv); clear hv))
      | (go_at_call 50; ((with_reducible refine (HSN.out _ HV.out _).mono ?_); rintro e w2 ⟨N, rfl, hN, hb2⟩; obtain ⟨M, hcv, hM⟩ := conv_nan64 N hN w2; have HN := hid hM; clear hN hM))
      | (go_at_call 44; ((with_reducible refine (HB.out _ HN.out _).mono ?_); rintro e w3 ⟨rfl, rfl⟩)))
  go_ret2
  exact ⟨rfl, (bnext hb1 hb2).drew⟩

theorem RUn_32_3 (a : Nat) (ha : a < 18446744073709551616) (w : World) :
    Calls Try.prog 24 #[.int .i64 32, .int .i64 3, .int .u64 (a : Int)] w fun e w' => e = .returned (.tuple #[.int .u64 ((unW Ieee.single 2147483648 2139095040 2143289344 3 (a % 4294967296) : Nat) : Int), .int .i64 0]) ∧ Below w.heap.size w w' := by
  have HCA := fun W => hid (rcut_32 a  W)
  have hc : a % 4294967296 < 2 * 2147483648 := by omega
  generalize a % 4294967296 = c at *
  have HV : ∀ W, Hid (Calls Try.prog 39 #[.int .i64 32, .int .u64 (c : Int)] W (VPost 2147483648 2139095040 c W)) := fun W => hid (by have := value_32 c W; rw [Nat.mod_eq_of_lt (show c < 4294967296 from hc)] at this; exact this)
  rw [show unW Ieee.single 2147483648 2139095040 2143289344 3 c = (Ieee.single.sqrt c).getD 2143289344 from rfl]
  by_cases hn : 2139095040 < c % 2147483648
  · rw [sqrt_nan fmt_single hn]
    refine RUw_32_3_nan a c (ValOf 2147483648 2139095040 c) (hid fun v h2 => ?_) HCA HV w
    rcases h2 with ⟨_, h⟩ | ⟨h, _⟩
    · exact sqrt_nan fmt_double h
    · exact absurd hn (by omega)
  · have hvv : ∀ v, ValOf 2147483648 2139095040 c v → v = (vS c) := fun v h2 => by
      rcases h2 with ⟨h, _⟩ | ⟨_, _, h5⟩
      · exact absurd h hn
      · rcases h5 with ⟨h7, _, h6⟩ | ⟨h7, _, h6⟩
        · first | exact h6 | exact absurd h7 (by decide)
        · first | exact h6 | exact absurd h7 (by decide)
    have hr : ∀ r, Ieee.single.sqrt c = some r → r < 2 * 2147483648 ∧ r % 2147483648 ≤ 2139095040 := fun r h => by
      unfold Ieee.Format.sqrt at h
      obtain ⟨D, hD, rfl⟩ := Option.map_eq_some_iff.1 h
      exact write_fin fmt_single D (root_notNaN _ _ _ hD)
    have HVA : ∀ W, Hid (Calls Try.prog 39 #[.int .i64 32, .int .u64 (c : Int)] W fun e w' => e = .returned (.float .f64 (vS c)) ∧ Below W.heap.size W w') := fun W => hid ((HV W).out.mono fun e w' ⟨v, h1, h2, h3⟩ => ⟨by rw [h1, hvv v h2], h3⟩)
    rcases sqrt_conv hc (by omega) with ⟨h1, h2⟩ | ⟨y, r, h1, h2, h3⟩
    · rw [h2]
      exact RUw_32_3_nan a c (ValOf 2147483648 2139095040 c) (hid fun v h4 => by rw [hvv v h4]; exact h1) HCA HV w
    · rw [h2]
      exact RUw_32_3_num a c (vS c) y r h1 (hr r h2) h3 HCA HVA w

set_option maxRecDepth 20000 in
set_option maxHeartbeats 3200000 in
theorem RUw_64_3_num (a c v y r : Nat) (hy : Ieee.double.sqrt v = some y) (hr : r < 2 * 9223372036854775808 ∧ r % 9223372036854775808 ≤ 9218868437227405312) (hyr : y = r)
    (HCA : ∀ W, Hid (Calls Try.prog 38 #[.int .i64 64, .int .u64 (a : Int)] W fun e w' => e = .returned (.int .u64 (c : Int)) ∧ W = w'))
    (HVA : ∀ W, Hid (Calls Try.prog 39 #[.int .i64 64, .int .u64 (c : Int)] W fun e w' => e = .returned (.float .f64 v) ∧ Below W.heap.size W w')) (w : World) :
    Calls Try.prog 24 #[.int .i64 64, .int .i64 3, .int .u64 (a : Int)] w fun e w' => e = .returned (.tuple #[.int .u64 (r : Int), .int .i64 0]) ∧ Below w.heap.size w w' := by
  have HS := fun W => hid (sqrt50_num v y hy W)
  subst hyr
  have HB := fun W => hid (BB_64 y hr.1 hr.2 W)
  clear hr hy
  go_enter Try.func24, Try.ntmps24
  go_wp2_with (first
      | (go_at_call 38; ((with_reducible refine (HCA _).out.mono ?_); rintro e w1 ⟨rfl, rfl⟩))
      | (go_at_call 40; ((with_reducible refine (rsign_64 _).mono ?_); rintro e w3 ⟨rfl, rfl⟩))
      | (go_at_call 39; ((with_reducible refine (HVA _).out.mono ?_); rintro e w1 ⟨rfl, hb1⟩))
      | (go_at_call 50; ((with_reducible refine (HS _).out.mono ?_); rintro e w1 ⟨rfl, rfl⟩))
      | (go_at_call 41; ((with_reducible refine (HB _).out.mono ?_); rintro e w3 ⟨rfl, rfl⟩)))
  go_ret2
  exact ⟨rfl, hb1⟩

set_option maxRecDepth 20000 in
set_option maxHeartbeats 3200000 in
theorem RUw_64_3_nan (a c : Nat) (V : Nat → Prop) (HN0 : Hid (∀ v, V v → Ieee.double.sqrt v = none))
    (HCA : ∀ W, Hid (Calls Try.prog 38 #[.int .i64 64, .int .u64 (a : Int)] W fun e w' => e = .returned (.int .u64 (c : Int)) ∧ W = w'))
    (HVA : ∀ W, Hid (Calls Try.prog 39 #[.int .i64 64, .int .u64 (c : Int)] W fun e w' => ∃ v : Nat, e = .returned (.float .f64 v) ∧ V v ∧ Below W.heap.size W w')) (w : World) :
    Calls Try.prog 24 #[.int .i64 64, .int .i64 3, .int .u64 (a : Int)] w fun e w' => e = .returned (.tuple #[.int .u64 9221120237041090560, .int .i64 0]) ∧ Below w.heap.size w w' := by
  have HB := hid BB_64_nan
  have HSN := hid (sqrt50_nan)
  go_enter Try.func24, Try.ntmps24
  go_wp2_with (first
      | (go_at_call 38; ((with_reducible refine (HCA _).out.mono ?_); rintro e w1 ⟨rfl, rfl⟩))
      | (go_at_call 40; ((with_reducible refine (rsign_64 _).mono ?_); rintro e w3 ⟨rfl, rfl⟩))
      | (go_at_call 39; ((with_reducible refine (HVA _).out.mono ?_); rintro e w1 ⟨v, rfl, hv, hb1⟩; have HV := hid (HN0.out v hv); clear hv))
      | (go_at_call 50; ((with_reducible refine (HSN.out _ HV.out _).mono ?_); rintro e w2 ⟨N, rfl, hN, hb2⟩; have HN := hid hN; clear hN))
      | (go_at_call 41; ((with_reducible refine (HB.out _ HN.out _).mono ?_); rintro e w3 ⟨rfl, rfl⟩)))
  go_ret2
  exact ⟨rfl, bnext hb1 hb2⟩

theorem RUn_64_3 (a : Nat) (ha : a < 18446744073709551616) (w : World) :
    Calls Try.prog 24 #[.int .i64 64, .int .i64 3, .int .u64 (a : Int)] w fun e w' => e = .returned (.tuple #[.int .u64 ((unW Ieee.double 9223372036854775808 9218868437227405312 9221120237041090560 3 (a % 18446744073709551616) : Nat) : Int), .int .i64 0]) ∧ Below w.heap.size w w' := by
  have HCA := fun W => hid (rcut_64 a ha W)
  have hc : a % 18446744073709551616 < 2 * 9223372036854775808 := by omega
  generalize a % 18446744073709551616 = c at *
  have HV : ∀ W, Hid (Calls Try.prog 39 #[.int .i64 64, .int .u64 (c : Int)] W (VPost 9223372036854775808 9218868437227405312 c W)) := fun W => hid (by exact value_64 c hc W)
  rw [show unW Ieee.double 9223372036854775808 9218868437227405312 9221120237041090560 3 c = (Ieee.double.sqrt c).getD 9221120237041090560 from rfl]
  by_cases hn : 9218868437227405312 < c % 9223372036854775808
  · rw [sqrt_nan fmt_double hn]
    refine RUw_64_3_nan a c (ValOf 9223372036854775808 9218868437227405312 c) (hid fun v h2 => ?_) HCA HV w
    rcases h2 with ⟨_, h⟩ | ⟨h, _⟩
    · exact sqrt_nan fmt_double h
    · exact absurd hn (by omega)
  · have hvv : ∀ v, ValOf 9223372036854775808 9218868437227405312 c v → v = c := fun v h2 => by
      rcases h2 with ⟨h, _⟩ | ⟨_, _, h5⟩
      · exact absurd h hn
      · rcases h5 with ⟨h7, _, h6⟩ | ⟨h7, _, h6⟩
        · first | exact h6 | exact absurd h7 (by decide)
        · first | exact h6 | exact absurd h7 (by decide)
    have hr : ∀ r, Ieee.double.sqrt c = some r → r < 2 * 9223372036854775808 ∧ r % 9223372036854775808 ≤ 9218868437227405312 := fun r h => by
      unfold Ieee.Format.sqrt at h
      obtain ⟨D, hD, rfl⟩ := Option.map_eq_some_iff.1 h
      exact write_fin fmt_double D (root_notNaN _ _ _ hD)
    have HVA : ∀ W, Hid (Calls Try.prog 39 #[.int .i64 64, .int .u64 (c : Int)] W fun e w' => e = .returned (.float .f64 c) ∧ Below W.heap.size W w') := fun W => hid ((HV W).out.mono fun e w' ⟨v, h1, h2, h3⟩ => ⟨by rw [h1, hvv v h2], h3⟩)
    cases hs : Ieee.double.sqrt c with
    | none => exact RUw_64_3_nan a c (ValOf 9223372036854775808 9218868437227405312 c) (hid fun v h2 => by rw [hvv v h2]; exact hs) HCA HV w
    | some y => exact RUw_64_3_num a c c y y hs (hr y hs) rfl HCA HVA w

end Go.Proofs.Ytffceodbadedjaa
