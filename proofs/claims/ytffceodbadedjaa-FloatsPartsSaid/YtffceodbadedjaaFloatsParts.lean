/-
  For any width and any word, the parts of the float, or the error, come out the same in the program and in the reference; and the parts of a float that is no infinity and no NaN are rounded to the float that they came from. Condition: the width is an int64, the word is below 2^64.
-/
import Derived.Test.YtffceodbadedjaaAwake
import Derived.Test.YtffceodbadedjaaRKind
import Derived.Test.YtffceodbadedjaaRParts
import Derived.Test.YtffceodbadedjaaRows
import Derived.WalkKit
import Derived.ProofKit
import Derived.OpenShut
set_option linter.unusedSimpArgs false
set_option linter.unusedVariables false
namespace Go.Proofs.Ytffceodbadedjaa.floatsParts
open Go.Proofs.Ytffceodbadedjaa
open Go.ChangeShapes Go.WideShapes Go.ChangeAt Go.RowKit
open Go.ChangeMaps (open_string shut_string)
set_option linter.unusedVariables false

theorem own : ownKnob Try.prog.godebug = none := by kernel_rfl

theorem back_32 (c : Nat) (hc : c < 2 * 2147483648) (h : c % 2147483648 < 2139095040) : Ieee.single.word (decide (2147483648 ≤ c)) (rungR Ieee.single (pm 23 (c % 2147483648)) (pe 23 (-149) (c % 2147483648)) false) = c := by
  rw [rungR_false, rungOf_parts fmt_single h, word_sz fmt_single hc]

theorem back_64 (c : Nat) (hc : c < 2 * 9223372036854775808) (h : c % 9223372036854775808 < 9218868437227405312) : Ieee.double.word (decide (9223372036854775808 ≤ c)) (rungR Ieee.double (pm 52 (c % 9223372036854775808)) (pe 52 (-1074) (c % 9223372036854775808)) false) = c := by
  rw [rungR_false, rungOf_parts fmt_double h, word_sz fmt_double hc]

theorem walk_no (bits : Int) (a : Nat) (HP : ∀ W, Hid (Calls Try.prog 29 #[.int .i64 bits, .int .u64 a] W fun e w' => e = .returned (.tuple #[.bool false, .int .u64 0, .int .i64 0, .int .i64 1]) ∧ Below W.heap.size W w'))
    (HR : ∀ W, Hid (Calls Try.prog 30 #[.int .i64 bits, .int .u64 a] W fun e w' => e = .returned (.tuple #[.bool false, .int .u64 0, .int .i64 0, .int .i64 1]) ∧ Below W.heap.size W w')) (w : World) :
    Calls Try.prog 7 #[.int .i64 bits, .int .u64 a] w fun e w' => e = .returned (.bool true) ∧ Below w.heap.size w w' := by
  have HA := fun W => hid (awake_any W)
  have hB : Below w.heap.size w w := Below.refl _ _
  go_enter Try.func7, Try.ntmps7
  go_wp2_with (first
    | (go_at_call 16; ((with_reducible refine (HA _).out.mono ?_); rintro e w1 ⟨rfl, hb⟩; replace hB := bnext hB hb; clear hb))
    | (go_at_call 29; ((with_reducible refine (HP _).out.mono ?_); rintro e w1 ⟨rfl, hb⟩; replace hB := bnext hB hb; clear hb))
    | (go_at_call 30; ((with_reducible refine (HR _).out.mono ?_); rintro e w1 ⟨rfl, hb⟩; replace hB := bnext hB hb; clear hb)))
  go_ret
  exact ⟨rfl, hB⟩

set_option maxHeartbeats 1600000 in
theorem walk_64 (a : Nat) (ha : a < 18446744073709551616) (w : World) : Calls Try.prog 7 #[.int .i64 64, .int .u64 a] w fun e w' => e = .returned (.bool true) ∧ Below w.heap.size w w' := by
  rcases Nat.lt_or_ge (a % 18446744073709551616 % 9223372036854775808) 9218868437227405312 with hf | hf
  · have HP := fun W => hid (Parts_64 a ha hf W)
    have HR := fun W => hid (RParts_64 a ha hf W)
    have hpb := pm_lt 52 (a % 18446744073709551616 % 9223372036854775808)
    have heb := pe_eq 52 (-1074) (a % 18446744073709551616 % 9223372036854775808)
    have hq : a % 18446744073709551616 % 9223372036854775808 / 2 ^ 52 ≤ 2047 := by show a % 18446744073709551616 % 9223372036854775808 / 4503599627370496 ≤ 2047; omega
    have hback := back_64 (a % 18446744073709551616) (by omega) hf
    rw [Nat.mod_eq_of_lt ha] at *
    obtain ⟨n1, hn1⟩ : ∃ n1 : Bool, n1 = decide (9223372036854775808 ≤ a) := ⟨_, rfl⟩
    obtain ⟨m1, hm1⟩ : ∃ m1 : Nat, m1 = pm 52 (a % 9223372036854775808) := ⟨_, rfl⟩
    obtain ⟨e1, he1⟩ : ∃ e1 : Int, e1 = pe 52 (-1074) (a % 9223372036854775808) := ⟨_, rfl⟩
    rw [← hn1, ← hm1, ← he1] at HP HR hback
    rw [← hm1] at hpb
    rw [← he1] at heb
    have hm : m1 < 9007199254740992 := hpb
    have HC := fun W => hid (Round_64 n1 m1 (by omega) e1 (by generalize a % 9223372036854775808 / 2 ^ 52 = q at *; omega) (by generalize a % 9223372036854775808 / 2 ^ 52 = q at *; omega) false W)
    rw [if_neg (fun h => by cases h.1), hback] at HC
    have HA := fun W => hid (awake_any W)
    have hB : Below w.heap.size w w := Below.refl _ _
    clear hn1 hm1 he1 hpb heb hq hback hm hf ha
    go_enter Try.func7, Try.ntmps7
    go_wp2_with (first
      | (go_at_call 16; ((with_reducible refine (HA _).out.mono ?_); rintro e w1 ⟨rfl, hb⟩; replace hB := bnext hB hb; clear hb))
      | (go_at_call 29; ((with_reducible refine (HP _).out.mono ?_); rintro e w1 ⟨rfl, hb⟩; replace hB := bnext hB hb; clear hb))
      | (go_at_call 30; ((with_reducible refine (HR _).out.mono ?_); rintro e w1 ⟨rfl, hb⟩; replace hB := bnext hB hb; clear hb))
      | (go_at_call 27; ((with_reducible refine (HC _).out.mono ?_); rintro e w1 ⟨rfl, hb⟩; replace hB := bnext hB hb; clear hb)))
    go_ret
    exact ⟨rfl, hB⟩
  · exact walk_no 64 a (fun W => hid (Parts_64_no a ha hf W)) (fun W => hid (RParts_64_no a ha hf W)) w

set_option maxHeartbeats 1600000 in
theorem walk_32 (a : Nat) (ha : a < 18446744073709551616) (w : World) : Calls Try.prog 7 #[.int .i64 32, .int .u64 a] w fun e w' => e = .returned (.bool true) ∧ Below w.heap.size w w' := by
  rcases Nat.lt_or_ge (a % 4294967296 % 2147483648) 2139095040 with hf | hf
  · have HP := fun W => hid (Parts_32 a ha hf W)
    have HR := fun W => hid (RParts_32 a ha hf W)
    have hpb := pm_lt 23 (a % 4294967296 % 2147483648)
    have heb := pe_eq 23 (-149) (a % 4294967296 % 2147483648)
    have hq : a % 4294967296 % 2147483648 / 2 ^ 23 ≤ 255 := by show a % 4294967296 % 2147483648 / 8388608 ≤ 255; omega
    have hback := back_32 (a % 4294967296) (by omega) hf
    have hand : bits .and .u64 (a : Int) 4294967295 = ((a % 4294967296 : Nat) : Int) := by
      have := bits_and_u64_nat a 4294967295 ha (by decide)
      rw [show (4294967295 : Nat) = 2 ^ 32 - 1 by decide, Nat.and_two_pow_sub_one_eq_mod] at this
      exact this
    obtain ⟨n1, hn1⟩ : ∃ n1 : Bool, n1 = decide (2147483648 ≤ a % 4294967296) := ⟨_, rfl⟩
    obtain ⟨m1, hm1⟩ : ∃ m1 : Nat, m1 = pm 23 (a % 4294967296 % 2147483648) := ⟨_, rfl⟩
    obtain ⟨e1, he1⟩ : ∃ e1 : Int, e1 = pe 23 (-149) (a % 4294967296 % 2147483648) := ⟨_, rfl⟩
    rw [← hn1, ← hm1, ← he1] at HP HR hback
    rw [← hm1] at hpb
    rw [← he1] at heb
    have hm : m1 < 16777216 := hpb
    have HC := fun W => hid (Round_32 n1 m1 (by omega) e1 (by generalize a % 4294967296 % 2147483648 / 2 ^ 23 = q at *; omega) (by generalize a % 4294967296 % 2147483648 / 2 ^ 23 = q at *; omega) false W)
    rw [if_neg (fun h => by cases h.1), hback] at HC
    have HA := fun W => hid (awake_any W)
    have hB : Below w.heap.size w w := Below.refl _ _
    obtain ⟨c, hc⟩ : ∃ c : Nat, c = a % 4294967296 := ⟨_, rfl⟩
    rw [← hc] at HC hand
    have hor : ((c : Int) == (a : Int)) = true ∨ ((c : Int) == (a : Int)) = false := by cases ((c : Int) == (a : Int)) <;> simp
    clear hn1 hm1 he1 hpb heb hq hback hm hf ha hc
    rcases hor with h1 | h1
    all_goals
      go_enter Try.func7, Try.ntmps7
      go_wp2_with (first
        | (go_at_call 16; ((with_reducible refine (HA _).out.mono ?_); rintro e w1 ⟨rfl, hb⟩; replace hB := bnext hB hb; clear hb))
        | (go_at_call 29; ((with_reducible refine (HP _).out.mono ?_); rintro e w1 ⟨rfl, hb⟩; replace hB := bnext hB hb; clear hb))
        | (go_at_call 30; ((with_reducible refine (HR _).out.mono ?_); rintro e w1 ⟨rfl, hb⟩; replace hB := bnext hB hb; clear hb))
        | (go_at_call 27; ((with_reducible refine (HC _).out.mono ?_); rintro e w1 ⟨rfl, hb⟩; replace hB := bnext hB hb; clear hb)))
      go_ret
      exact ⟨by first | rfl | simp [h1], hB⟩
  · exact walk_no 32 a (fun W => hid (Parts_32_no a ha hf W)) (fun W => hid (RParts_32_no a ha hf W)) w

theorem RParts_no (b : Int) (h1 : b ≠ 32) (h2 : b ≠ 64) (a : Nat) (w : World) : Calls Try.prog 30 #[.int .i64 b, .int .u64 a] w fun e w' => e = .returned (.tuple #[.bool false, .int .u64 0, .int .i64 0, .int .i64 1]) ∧ Below w.heap.size w w' := by
  have HK := fun W => hid (RKind_no b h1 h2 a W)
  clear h1 h2
  go_enter Try.func30, Try.ntmps30
  go_wp2_with (go_at_call 20; ((with_reducible refine (HK _).out.mono ?_); rintro e w1 ⟨rfl, rfl⟩))
  exact bodyPost_ret (v := .tuple #[.bool false, .int .u64 0, .int .i64 0, .int .i64 1]) (by simp [results, Try.results30, go_sem]) rfl ⟨rfl, Below.refl _ _⟩

theorem walk (a0 : Int) (a1 : Int) (w0 : (Lit.int .i64 a0).wf = true) (w1 : (Lit.int .u64 a1).wf = true) (w : World) :
    Calls Try.prog 7 #[.int .i64 a0, .int .u64 a1] w fun e w' => e = .returned (.bool true) ∧ Below w.heap.size w w' := by
  obtain ⟨a, rfl, ha⟩ := wf_nat w1
  by_cases h32 : a0 = 32
  · subst h32; exact walk_32 a ha w
  · by_cases h64 : a0 = 64
    · subst h64; exact walk_64 a ha w
    · exact walk_no a0 a (fun W => hid (Parts_no a0 h32 h64 a W)) (fun W => hid (RParts_no a0 h32 h64 a W)) w

/-! ### The row's step -/
set_option maxRecDepth 100000 in
theorem lifted (os : Os) (started : os.Started) (H : Type) (enc : TypeId × Value → H) :
    ReturnsInHanded {} Try.checked os 7 .any (Rows.floatsPartsSpec.pre6 enc Try.prog Try.f7 Rows.floatsPartsRow.domain false) (Rows.floatsPartsSpec.post enc Try.prog Try.f7 false true false false) := by
  refine returnsInHanded_of_change (C := Try.checked) own started (by kernel_rfl) Try.func7
    (ChangeSpec.witness6 (enc := enc) (C := Try.checked) false ⟨#[], #[.int .i64 0, .int .u64 0], []⟩ 8 (by kernel_rfl) (by kernel_rfl) (by kernel_rfl) (by kernel_rfl)) ?_
  intro W base args ds gs before hval0 hW hcnd _
  have hval : ∀ (j : Nat) t v, Try.f7.params[j]? = some t → args[j]? = some v → Value.okWide Try.prog W .any base t v := hval0
  have hW' := hW
  obtain ⟨p, q, hA0, hV, rfl, hfz, hnd⟩ := hW
  have hA : DataW.TrodAll enc Try.prog W 0 (fun _ => true) true Try.f7.params.toList args.toList ds p := hA0
  rw [Try.params7] at hA hval
  obtain ⟨v0, vs0, d0, ds0, p0, q0, hargs, rfl, rfl, h0, r0⟩ := trodAll_cons hA
  obtain ⟨v1, vs1, d1, ds1, p1, q1, rfl, rfl, rfl, h1, r1⟩ := trodAll_cons r0
  obtain ⟨rfl, rfl, rfl⟩ := trodAll_nil r1
  obtain rfl : args = #[v0, v1] := by cases args; simp_all
  obtain ⟨rfl, rfl⟩ := trodVars_none hV
  obtain ⟨a0, rfl, rfl, rfl, w0⟩ := open_int Try.underlying3 (hval 0 3 v0 rfl rfl) h0
  obtain ⟨a1, rfl, rfl, rfl, w1⟩ := open_int Try.underlying22 (hval 1 22 v1 rfl rfl) h1
  clear hA0 hval0
  simp only [List.append_nil] at hW'
  refine (walk a0 a1 w0 w1 W).mono fun e W' ⟨he, hg⟩ => ?_
  subst he
  exact ⟨_, rfl, _, _, _, [], [], [], hW', trodAll_mk1 (shut_bool Try.underlying4 _), (trodAll_cons_mk (shut_int Try.underlying3 w0) (trodAll_cons_mk (shut_int Try.underlying22 w1) trodAll_mk0)), rfl, hg.frame _, fun h => by cases h⟩

theorem over : Rows.floatsPartsRow.holds Try.pinned (OpenSpec.ofChange Rows.floatsPartsSpec) :=
  OpenClaim.holds_of_wide 7 Try.f7 rfl rfl rfl rfl rfl rfl rfl ⟨rfl, rfl, rfl, rfl, rfl⟩ rfl rfl rfl rfl rfl (by kernel_rfl) Try.func7 (by kernel_rfl)
    (of_decide_eq_true (by kernel_rfl)) (by unfold Func.isWrapper; first | (rw [if_pos (by decide +kernel)]; kernel_rfl) | (rw [if_neg (by decide +kernel)]; exact ⟨rfl, rfl⟩))
    (fun os started H enc _ => lifted os started H enc)

/-- The statement. -/
theorem proved : Rows.FloatsPartsSaid :=
  over
#print axioms proved
end Go.Proofs.Ytffceodbadedjaa.floatsParts
