/-
  FRWholeM: merged, what the law does not reach left out (each text says what it holds where it lies in wip). No condition.
-/
import Derived.Test.YtlhakbkdlgejpaaGreatDoorR27
import Derived.Test.YtlhakbkdlgejpaaGreatDoorR25
set_option linter.unusedSimpArgs false
set_option linter.unusedVariables false
set_option maxRecDepth 100000
namespace Go.Proofs.YtlhakbkdlgejpaaGreatDoor.Fl
open Go.RowKit
section
open Ieee
theorem cut_scale (way : Toward) (s : Bool) (n d k : Nat) : way.cut s (n * 2 ^ k) (d + k) = way.cut s n d := by
  have hp : 0 < 2 ^ k := Nat.two_pow_pos k
  have h1 : n * 2 ^ k / 2 ^ (d + k) = n / 2 ^ d := by rw [Nat.pow_add]; exact Nat.mul_div_mul_right _ _ hp
  have h2 : n * 2 ^ k % 2 ^ (d + k) = n % 2 ^ d * 2 ^ k := by rw [Nat.pow_add]; exact Nat.mul_mod_mul_right _ _ _
  rw [cut_plain, cut_plain, h1]
  have : cutUp way s (n * 2 ^ k) (d + k) = cutUp way s n d := by
    unfold cutUp
    rw [h1, h2, Nat.pow_add]
    generalize n % 2 ^ d = r
    generalize 2 ^ d = D
    generalize 2 ^ k = K at *
    cases way
    · have e1 : decide (D * K < 2 * (r * K)) = decide (D < 2 * r) := decide_eq_decide.2 (by
        rw [← Nat.mul_assoc]; exact Nat.mul_lt_mul_right hp)
      have e2 : (D * K == 2 * (r * K)) = (D == 2 * r) := by
        rw [← Nat.mul_assoc]
        by_cases h : D = 2 * r
        · subst h; rw [beq_self_eq_true, beq_self_eq_true]
        · have : ¬ D * K = 2 * r * K := fun h2 => h (Nat.eq_of_mul_eq_mul_right hp h2)
          rw [beq_eq_false_iff_ne.2 this, beq_eq_false_iff_ne.2 h]
      show (decide (D * K < 2 * (r * K)) || (D * K == 2 * (r * K) && n / D % 2 == 1)) = (decide (D < 2 * r) || (D == 2 * r && n / D % 2 == 1))
      rw [e1, e2]
    · have e3 : (r * K != 0) = (r != 0) := by
        by_cases h : r = 0
        · subst h; rw [Nat.zero_mul]
        · have : ¬ r * K = 0 := Nat.mul_ne_zero h (by omega)
          rw [bne_iff_ne.2 this, bne_iff_ne.2 h]
      show (s && (r * K != 0)) = (s && (r != 0))
      rw [e3]
    · have e3 : (r * K != 0) = (r != 0) := by
        by_cases h : r = 0
        · subst h; rw [Nat.zero_mul]
        · have : ¬ r * K = 0 := Nat.mul_ne_zero h (by omega)
          rw [bne_iff_ne.2 this, bne_iff_ne.2 h]
      show (!s && (r * K != 0)) = (!s && (r != 0))
      rw [e3]
    · rfl
  rw [this]
/-- A number moved up, its place moved down, made whole, is the same. -/
theorem wide_integral (way : Toward) (s : Bool) (m : Nat) (e : Int) : (wideD s m e).integral way = .number s (way.cut s (m <<< e.toNat) (-e).toNat) 0 := by
  unfold wideD
  by_cases h0 : m = 0
  · subst h0
    rw [if_pos rfl]
    simp only [Datum.integral, Nat.zero_shiftLeft]
    have hz : ∀ d, way.cut s 0 d = 0 := fun d => by
      rw [cut_plain, Nat.zero_div]
      have : cutUp way s 0 d = false := by
        have hp : 0 < 2 ^ d := Nat.two_pow_pos d
        unfold cutUp
        rw [Nat.zero_mod]
        cases way
        · have : ¬ 2 ^ d = 0 := by omega
          simp
        · simp
        · simp
        · rfl
      rw [this]; rfl
    rw [hz, hz]
  · rw [if_neg h0]
    generalize 52 - m.log2 = k
    simp only [Datum.integral]
    congr 1
    rw [Nat.shiftLeft_eq, Nat.shiftLeft_eq]
    by_cases he : 0 ≤ e
    · obtain ⟨q, rfl⟩ : ∃ q : Nat, e = (q : Int) := ⟨e.toNat, by omega⟩
      rw [show (-(q : Int)).toNat = 0 by omega, Int.toNat_natCast]
      by_cases hk : k ≤ q
      · rw [show ((q : Int) - (k : Int)).toNat = q - k by omega, show (-((q : Int) - (k : Int))).toNat = 0 by omega, Nat.mul_assoc, ← Nat.pow_add, show k + (q - k) = q by omega]
      · rw [show ((q : Int) - (k : Int)).toNat = 0 by omega, show (-((q : Int) - (k : Int))).toNat = k - q by omega, Nat.pow_zero, Nat.mul_one]
        have := cut_scale way s (m * 2 ^ q) 0 (k - q)
        rw [Nat.mul_assoc, ← Nat.pow_add, show q + (k - q) = k by omega, Nat.zero_add] at this
        exact this
    · obtain ⟨q, rfl⟩ : ∃ q : Nat, e = -(q : Int) := ⟨(-e).toNat, by omega⟩
      rw [show (-(q : Int) - (k : Int)).toNat = 0 by omega, show (-(-(q : Int) - (k : Int))).toNat = q + k by omega, show (-(q : Int)).toNat = 0 by omega, show (-(-(q : Int))).toNat = q by omega, Nat.pow_zero, Nat.mul_one, Nat.mul_one]
      exact cut_scale way s m q k
theorem rne_le (n d : Nat) : rne n d ≤ n + 1 := by
  have := Nat.div_le_self n (2 ^ d)
  unfold rne
  split <;> (try split) <;> omega
theorem rung_small (M : Nat) (h : M ≤ 16777216) : rungOf single M 0 < 2139095040 := by
  unfold rungOf
  by_cases h0 : M = 0
  · rw [if_pos h0]; decide
  · rw [if_neg h0]
    have hlog : M.log2 < 25 := log2_lt_of h0 (by omega)
    have hhi := @Nat.lt_log2_self M
    have hL : lastP single M 0 = (M.log2 : Int) - 23 := by
      unfold lastP
      show max (0 + (M.log2 : Int) - ((23 : Nat) : Int)) (-149) = _
      omega
    rw [hL]
    generalize M.log2 = l at *
    show min (((l : Int) - 23 - (-149)).toNat * 8388608 + rneI M ((l : Int) - 23 - 0)) 2139095040 < 2139095040
    have hr : rneI M ((l : Int) - 23 - 0) ≤ 16777217 := by
      unfold rneI
      by_cases hd : 0 ≤ (l : Int) - 23 - 0
      · rw [if_pos hd]
        exact Nat.le_trans (rne_le _ _) (by omega)
      · rw [if_neg hd]
        have : M * 2 ^ (-((l : Int) - 23 - 0)).toNat < 2 ^ (l + 1) * 2 ^ (-((l : Int) - 23 - 0)).toNat := Nat.mul_lt_mul_of_pos_right hhi (Nat.two_pow_pos _)
        rw [← Nat.pow_add, show l + 1 + (-((l : Int) - 23 - 0)).toNat = 24 by omega] at this
        have c : (2 : Nat) ^ 24 = 16777216 := by decide
        omega
    have hq : ((l : Int) - 23 - (-149)).toNat ≤ 150 := by omega
    omega
/-- A number of at most 53 bits, as a float of 64 bits, as one of 32: it is rounded once. -/
theorem demote_num (s : Bool) (m : Nat) (e : Int) (hm : m < 9007199254740992) (he : -1000 ≤ e) (he2 : e ≤ 900) (hf : rungOf single m e < 2139095040) :
    floatToFloatBits .f64 (double.write (.number s m e)) .f32 = some (single.write (.number s m e)) := by
  have hr := (read_write_double s m e hm he he2).1
  unfold floatToFloatBits
  rw [if_neg (by decide)]
  show (match double.read (double.write (.number s m e)) with | .nan _ _ => none | .infinity s => some (single.write (.infinity s)) | .number s m e => if (single.read (single.write (.number s m e))).isInfinity then none else some (single.write (.number s m e))) = some (single.write (.number s m e))
  rw [hr]
  have hw : single.write (wideD s m e) = single.write (.number s m e) := by
    unfold wideD
    by_cases h0 : m = 0
    · rw [if_pos h0]; subst h0
      show single.nearest s 0 (-1074) = single.nearest s 0 e
      have hz : ∀ x, rungOf single 0 x = 0 := fun x => by unfold rungOf; rw [if_pos rfl]
      rw [nearest_eq, nearest_eq, hz, hz]
    · rw [if_neg h0]
      show single.nearest _ _ _ = single.nearest _ _ _
      rw [nearest_eq, nearest_eq, rungOf_scale]
  have hn : ∃ m' e', wideD s m e = .number s m' e' := by unfold wideD; split <;> exact ⟨_, _, rfl⟩
  obtain ⟨m', e', hn⟩ := hn
  rw [hn] at hw ⊢
  simp only []
  rw [hw]
  have hinf : (single.read (single.write (.number s m e))).isInfinity = false := by
    have hwr : single.write (.number s m e) = single.word s (rungOf single m e) := nearest_eq ..
    rw [hwr]
    have hword : single.word s (rungOf single m e) = (if s then 2147483648 + rungOf single m e else rungOf single m e) := rfl
    rw [hword]
    rw [read_fin (f := single) fmt_single.sb fmt_single.fr fmt_single.lp (by split <;> omega) (by show (if s = true then 2147483648 + rungOf single m e else rungOf single m e) % 2147483648 < 2139095040; split <;> omega)]
    rfl
  rw [hinf]; rfl
theorem conv_whole {c : Nat} (hc : c < 2 * 2147483648) (h : c % 2147483648 ≤ 2139095040) (way : Toward) :
    floatToFloatBits .f64 (double.write ((double.read (vS c)).integral way)) .f32 = some (single.write ((single.read c).integral way)) := by
  rcases (vS_read hc h).1 with ⟨h1, h2, h3⟩ | ⟨h1, h2, h3⟩
  · rw [h2, h3, wide_integral]
    show floatToFloatBits .f64 (double.write (.number (decide (2147483648 ≤ c)) (way.cut (decide (2147483648 ≤ c)) (pm 23 (c % 2147483648) <<< (pe 23 (-149) (c % 2147483648)).toNat) (-pe 23 (-149) (c % 2147483648)).toNat) 0)) .f32 =
      some (single.write (.number (decide (2147483648 ≤ c)) (way.cut (decide (2147483648 ≤ c)) (pm 23 (c % 2147483648) <<< (pe 23 (-149) (c % 2147483648)).toNat) (-pe 23 (-149) (c % 2147483648)).toNat) 0))
    have hb := single_bounds hc h1
    have hm24 : pm 23 (c % 2147483648) < 16777216 := pm_lt 23 _
    have hrp := rungOf_parts fmt_single h1
    generalize decide (2147483648 ≤ c) = s at *
    generalize pm 23 (c % 2147483648) = m at *
    generalize pe 23 (-149) (c % 2147483648) = e at *
    by_cases he : 0 ≤ e
    · obtain ⟨q, rfl⟩ : ∃ q : Nat, e = (q : Int) := ⟨e.toNat, by omega⟩
      have hcut : way.cut s (m <<< ((q : Int)).toNat) (-(q : Int)).toNat = m * 2 ^ q := by
        rw [Int.toNat_natCast, show (-(q : Int)).toNat = 0 by omega, Nat.shiftLeft_eq, cut_plain, Nat.pow_zero, Nat.div_one]
        have : cutUp way s (m * 2 ^ q) 0 = false := by unfold cutUp; cases way <;> simp [Nat.mod_one]
        rw [this]; rfl
      have hsc : ∀ f : Format, f.write (.number s (m * 2 ^ q) 0) = f.write (.number s m (q : Int)) := fun f => by
        show f.nearest _ _ _ = f.nearest _ _ _
        rw [nearest_eq, nearest_eq]
        have := rungOf_scale f m (q : Int) q
        rw [show (q : Int) - (q : Int) = 0 by omega] at this
        rw [this]
      rw [hcut, hsc, hsc]
      exact demote_num s m _ hb.1 hb.2.1 hb.2.2 (by rw [hrp]; exact h1)
    · have hM : way.cut s (m <<< e.toNat) (-e).toNat ≤ 16777216 := by
        rw [cut_plain, show e.toNat = 0 by omega, Nat.shiftLeft_zero]
        have h4 := Nat.div_le_self m (2 ^ (-e).toNat)
        have h5 := Bool.toNat_le (cutUp way s m (-e).toNat)
        omega
      generalize way.cut s (m <<< e.toNat) (-e).toNat = M at *
      exact demote_num s M 0 (by omega) (by decide) (by decide) (rung_small M hM)
  · rw [h2, h3]
    show floatToFloatBits .f64 (double.write (.infinity _)) .f32 = some (single.write (.infinity _))
    cases decide (2147483648 ≤ c) <;> decide +kernel
theorem quiet_pos (t : Nat) : 0 < (t ||| 2 ^ 51) % 2 ^ 52 := by
  rcases Nat.eq_zero_or_pos ((t ||| 2 ^ 51) % 2 ^ 52) with h | h
  · have h1 : ((t ||| 2 ^ 51) % 2 ^ 52).testBit 51 = true := by
      rw [Nat.testBit_mod_two_pow, Nat.testBit_or, Nat.testBit_two_pow]; simp
    rw [h] at h1; simp at h1
  · exact h
theorem quiet_nan (s : Bool) (t : Nat) : 9218868437227405312 < double.write (.nan s (double.quiet t)) % 9223372036854775808 := by
  have h1 := quiet_pos t
  have h2 : (t ||| 2 ^ 51) % 2 ^ 52 < 2 ^ 52 := Nat.mod_lt _ (by decide)
  have : double.write (.nan s (double.quiet t)) = (if s then 9223372036854775808 + (9218868437227405312 + (t ||| 2 ^ 51) % 2 ^ 52) else 9218868437227405312 + (t ||| 2 ^ 51) % 2 ^ 52) := rfl
  rw [this]
  have c : (2 : Nat) ^ 52 = 4503599627370496 := by decide
  rw [c] at h1 h2 ⊢
  generalize (t ||| 2 ^ 51) % 4503599627370496 = r at *
  split <;> omega
end
/-- A NaN of 64 bits as one of 32: its bits are open, but it is one. -/
theorem conv_nan64 (c : Nat) (h : 9218868437227405312 < c % 9223372036854775808) (w : World) : ∃ v : Nat, (convert 159 164 (.float .f64 c)).run Tryz.prog w = .ok (.float .f32 v) w.drew ∧ 2139095040 < v % 2147483648 := by
  obtain ⟨s, t, hr⟩ := read_nan (f := Ieee.double) (a := c) (SB := 9223372036854775808) rfl (by decide) h
  have hd : FloatKind.f64.decode c = .nan s t := hr
  have hu : Tryz.prog.underlying 164 = some (.float .f32) := by kernel_rfl
  have hs : Tryz.prog.underlying 159 = some (.float .f64) := by kernel_rfl
  refine ⟨Question.cut (.nanConv .f32 c) (w.tape w.drawn (.nanConv .f32 c)), ?_, drawn_32 _⟩
  simp [convert, run_underlying hs, run_underlying hu, Conv.floatToFloat, hd, run_choose_drew, Question.forced]
theorem conv_num64 (y r : Nat) (h : floatToFloatBits .f64 y .f32 = some r) (w : World) : (convert 159 164 (.float .f64 y)).run Tryz.prog w = .ok (.float .f32 r) w :=
  run_convert_float_float w 159 164 .f64 .f32 y r (by kernel_rfl) (by kernel_rfl) h
/-- A number made whole, by what it stands for; of a NaN that is told by a drawn question. -/
def toI (q : Question) (way : Ieee.Toward) (v : Nat) (d : Ieee.Datum) : Sem Value :=
  match d with
  | .nan s t => if FloatKind.f64.format.quiet t = t then pure (.float .f64 v) else do
      let n ← choose q
      pure (.float .f64 (if n == 1 then v else FloatKind.f64.encode (.nan s (FloatKind.f64.format.quiet t))))
  | d => pure (.float .f64 (FloatKind.f64.encode (d.integral way)))
theorem toI_eq (name : String) (way : Ieee.Toward) (v : Nat) : ∃ q, q.forced = false ∧ Extern.MathFloor.toIntegral name way #[.float .f64 v] = toI q way v (FloatKind.f64.decode v) := by refine ⟨_, ?_, rfl⟩; rfl
theorem integral_num (name : String) (way : Ieee.Toward) (v : Nat) (hv : v % 9223372036854775808 ≤ 9218868437227405312) (w : World) :
    (Extern.MathFloor.toIntegral name way #[.float .f64 v]).run Tryz.prog w = .ok (.float .f64 (Ieee.double.write ((Ieee.double.read v).integral way))) w := by
  obtain ⟨q, -, h⟩ := toI_eq name way v
  rw [h]
  have hn : ∀ s t, Ieee.double.read v ≠ .nan s t := fun s t h' => by
    unfold Ieee.Format.read at h'
    simp only [] at h'
    split at h'
    · cases h'
    · split at h'
      · cases h'
      · split at h'
        · cases h'
        · rename_i g1 g2 g3
          have g2' : ¬ v % 9223372036854775808 < 9218868437227405312 := g2
          have g3' : ¬ v % 9223372036854775808 = 9218868437227405312 := g3
          omega
  show (toI q way v (Ieee.double.read v)).run Tryz.prog w = _
  cases hd : Ieee.double.read v with
  | nan s t => exact absurd hd (hn s t)
  | number s m e => rfl
  | infinity s => rfl
theorem integral_nan (name : String) (way : Ieee.Toward) (v : Nat) (hv : 9218868437227405312 < v % 9223372036854775808) (w : World) :
    ∃ (N : Nat) (w' : World), (Extern.MathFloor.toIntegral name way #[.float .f64 v]).run Tryz.prog w = .ok (.float .f64 N) w' ∧ 9218868437227405312 < N % 9223372036854775808 ∧ Below w.heap.size w w' := by
  obtain ⟨s, t, hr⟩ := read_nan (f := Ieee.double) (a := v) (SB := 9223372036854775808) rfl (by decide) hv
  obtain ⟨q, hq, h⟩ := toI_eq name way v
  rw [h]
  show ∃ (N : Nat) (w' : World), (toI q way v (Ieee.double.read v)).run Tryz.prog w = .ok (.float .f64 N) w' ∧ _
  rw [hr]
  by_cases hqu : FloatKind.f64.format.quiet t = t
  · exact ⟨v, w, by unfold toI; simp only []; rw [if_pos hqu]; rfl, hv, Below.refl _ _⟩
  · refine ⟨if (q.cut (w.tape w.drawn q) == 1) = true then v else FloatKind.f64.encode (.nan s (FloatKind.f64.format.quiet t)), w.drew, ?_, ?_, (Below.refl _ _).drew⟩
    · unfold toI; simp only []; rw [if_neg hqu]
      simp [run_choose_drew, hq]
    · split
      · exact hv
      · exact quiet_nan s t
end Go.Proofs.YtlhakbkdlgejpaaGreatDoor.Fl
