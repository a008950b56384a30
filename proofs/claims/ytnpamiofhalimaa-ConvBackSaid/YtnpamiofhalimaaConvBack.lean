/-
  For any float of 32 bits: promoted and demoted it is what it was, and a NaN is the canonical NaN; and any integer of 32 bits, converted to a float of 64 bits, is truncated to what it was, at 32 and at 64 bits. Condition: the word is below 2^32, the integer an int32.
-/
import Derived.Test.YtnpamiofhalimaaCAwake
import Derived.Test.YtnpamiofhalimaaCMath
import Derived.Test.YtnpamiofhalimaaRKind
import Derived.Test.YtnpamiofhalimaaRows
import Derived.WalkKit
import Derived.ProofKit
import Derived.OpenShut
set_option linter.unusedSimpArgs false
set_option linter.unusedVariables false
namespace Go.Proofs.Ytnpamiofhalimaa.convBack
open Go.Proofs.Ytnpamiofhalimaa
open Go.ChangeShapes Go.WideShapes Go.ChangeAt Go.RowKit
open Go.ChangeMaps (open_string shut_string)
set_option linter.unusedVariables false

theorem own : ownKnob Try.prog.godebug = none := by kernel_rfl


theorem wf_i32 {a : Int} (h : (Lit.int .i32 a).wf = true) : -2147483648 ≤ a ∧ a < 2147483648 := by
  simp [Lit.wf, IntKind.min, IntKind.max, IntKind.signed, IntKind.bits] at h; omega
theorem wf_u32 {a : Int} (h : (Lit.int .u32 a).wf = true) : ∃ n : Nat, a = (n : Int) ∧ n < 4294967296 := by
  have hb : 0 ≤ a ∧ a < 4294967296 := by
    simp [Lit.wf, IntKind.min, IntKind.max, IntKind.signed, IntKind.bits] at h; omega
  exact ⟨a.toNat, by omega, by omega⟩

/-- The word of a small integer. -/
def wordI (n : Int) : Nat := (n % 4294967296).toNat
theorem wordI_eq (n : Int) : IntKind.u32.wrap n = ((wordI n : Nat) : Int) := by
  have : IntKind.u32.wrap n = n % 4294967296 := by simp [IntKind.wrap, IntKind.bits, IntKind.signed]
  rw [this]; unfold wordI; omega
theorem wordI_lt (n : Int) : wordI n < 4294967296 := by unfold wordI; omega
theorem wordI_neg (n : Int) (h0 : -2147483648 ≤ n) (h : n < 0) : wordI n = (4294967296 + n).toNat := by unfold wordI; omega
theorem wordI_pos (n : Int) (h0 : 0 ≤ n) (h : n < 2147483648) : wordI n = n.toNat := by unfold wordI; omega

theorem held_neg (M : Nat) (h : M ≤ 2147483648) : truncM 32 true false true M = ((4294967296 - M) % 4294967296, 0) ∧ truncM 64 true true true M = ((18446744073709551616 - M) % 18446744073709551616, 0) := by
  constructor
  · unfold truncM; rw [if_pos (show M ≤ bnd 32 true true from h)]; rfl
  · unfold truncM; rw [if_pos (show M ≤ bnd 64 true true from Nat.le_trans h (by decide))]; rfl
theorem held_pos (M : Nat) (h : M ≤ 2147483647) : truncM 32 true false false M = (M, 0) ∧ truncM 64 true true false M = (M, 0) := by
  constructor
  · unfold truncM; rw [if_pos (show M ≤ bnd 32 true false from h), if_neg (by decide), Nat.mod_eq_of_lt (show M < 2 ^ 32 from Nat.lt_of_le_of_lt h (by decide))]
  · unfold truncM; rw [if_pos (show M ≤ bnd 64 true false from Nat.le_trans h (by decide)), if_neg (by decide), Nat.mod_eq_of_lt (show M < 2 ^ 64 from Nat.lt_of_le_of_lt h (by decide))]

theorem wrap_back (M : Nat) (h0 : 0 < M) (h : M ≤ 2147483648) : wrap64 (((18446744073709551616 - M) % 18446744073709551616 : Nat) : Int) = -(M : Int) := by unfold wrap64; omega
theorem wrap_same (n : Int) (h0 : -2147483648 ≤ n) (h : n < 2147483648) : wrap64 n = n := by unfold wrap64; omega

theorem wrapu_in (x : Nat) (h : x < 18446744073709551616) : IntKind.u64.wrap (x : Int) = (x : Int) := by rw [IntKind.wrap_u64]; omega

theorem back_math (n : Int) (h0 : -2147483648 ≤ n) (h1 : n < 2147483648) :
    ∃ b d : Nat, b < 18446744073709551616 ∧ Ieee.double.word (ineg 32 true (wordI n)) (rungR Ieee.double (isize 32 true (wordI n)) 0 false) = b ∧
      truncW 9223372036854775808 9218868437227405312 52 (-1074) 32 true false (b % 18446744073709551616) = (wordI n, 0) ∧
      truncW 9223372036854775808 9218868437227405312 52 (-1074) 64 true true (b % 18446744073709551616) = (d, 0) ∧ wrap64 (d : Int) = n := by
  have key : ∃ (neg : Bool) (M d : Nat), ineg 32 true (wordI n) = neg ∧ isize 32 true (wordI n) = M ∧ M < 9007199254740992 ∧ truncM 32 true false neg M = (wordI n, 0) ∧ truncM 64 true true neg M = (d, 0) ∧ wrap64 (d : Int) = n := by
    rcases Int.lt_or_le n 0 with hn | hn
    · have hw := wordI_neg n h0 hn
      have hlt := wordI_lt n
      have hi : ineg 32 true (wordI n) = true := by
        show decide (2147483648 ≤ wordI n % 4294967296) = true
        rw [Nat.mod_eq_of_lt hlt, hw]; exact decide_eq_true (by omega)
      have hs : isize 32 true (wordI n) = (-n).toNat := by
        unfold isize; rw [hi, if_pos rfl]
        show 4294967296 - wordI n % 4294967296 = _
        rw [Nat.mod_eq_of_lt hlt, hw]; omega
      obtain ⟨M, hM⟩ : ∃ M : Nat, M = (-n).toNat := ⟨_, rfl⟩
      have hMb : 0 < M ∧ M ≤ 2147483648 ∧ (M : Int) = -n := by omega
      obtain ⟨t1, t2⟩ := held_neg M hMb.2.1
      refine ⟨true, M, _, hi, hs.trans hM.symm, by omega, ?_, t2, ?_⟩
      · rw [t1, hw]
        have : (4294967296 - M) % 4294967296 = (4294967296 + n).toNat := by omega
        rw [this]
      · rw [wrap_back M hMb.1 hMb.2.1, hMb.2.2]; omega
    · have hw := wordI_pos n hn h1
      have hlt := wordI_lt n
      have hi : ineg 32 true (wordI n) = false := by
        show decide (2147483648 ≤ wordI n % 4294967296) = false
        rw [Nat.mod_eq_of_lt hlt, hw]; exact decide_eq_false (by omega)
      have hs : isize 32 true (wordI n) = n.toNat := by
        unfold isize; rw [hi, if_neg (by decide)]
        show wordI n % 4294967296 = _
        rw [Nat.mod_eq_of_lt hlt, hw]
      obtain ⟨t1, t2⟩ := held_pos n.toNat (by omega)
      refine ⟨false, n.toNat, n.toNat, hi, hs, by omega, ?_, t2, ?_⟩
      · rw [t1, hw]
      · rw [show ((n.toNat : Nat) : Int) = n by omega]; exact wrap_same n h0 h1
  obtain ⟨neg, M, d, hi, hs, hM, t1, t2, hd⟩ := key
  obtain ⟨b, hw, hb1, hb2, hb3, hb4⟩ := int_back neg M hM
  have hb : b < 18446744073709551616 := by omega
  refine ⟨b, d, hb, by rw [hi, hs, hw], ?_, ?_, hd⟩
  · rw [Nat.mod_eq_of_lt hb]; unfold truncW; rw [if_neg (by omega), hb3, hb4, t1]
  · rw [Nat.mod_eq_of_lt hb]; unfold truncW; rw [if_neg (by omega), hb3, hb4, t2]

set_option maxHeartbeats 1600000 in
theorem walk_nan (a p u b d : Nat) (n : Int) (hu : IntKind.u32.wrap n = (u : Int)) (hd : wrap64 (d : Int) = n) (hn : wrap64 n = n) (hwa : IntKind.u64.wrap (a : Int) = (a : Int)) (hwu : IntKind.u64.wrap (u : Int) = (u : Int))
    (HP : ∀ W, Hid (Say 14 #[.int .u64 (a : Int)] W (.int .u64 (p : Int)))) (HD : ∀ W, Hid (Say 16 #[.int .u64 (p : Int)] W (.int .u64 2143289344)))
    (HK : ∀ W, Hid (Say 18 #[.int .i64 32, .int .u64 (a : Int)] W (.int .i64 4)))
    (HV : ∀ W, Hid (Say 12 #[.int .i64 32, .int .i64 64, .bool true, .int .u64 (u : Int)] W (.tuple #[.int .u64 (b : Int), .int .i64 0])))
    (H1 : ∀ W, Hid (Say 10 #[.int .i64 64, .int .i64 32, .bool true, .bool false, .int .u64 (b : Int)] W (.tuple #[.int .u64 (u : Int), .int .i64 0])))
    (H2 : ∀ W, Hid (Say 10 #[.int .i64 64, .int .i64 64, .bool true, .bool true, .int .u64 (b : Int)] W (.tuple #[.int .u64 (d : Int), .int .i64 0]))) (w : World) :
    Say 5 #[.int .u32 (a : Int), .int .i32 n] w (.bool true) := by
  have HA := fun W => hid (cawake_any W)
  have HC := fun W => hid (Canonical_32 W)
  have hB : Below w.heap.size w w := Below.refl _ _
  go_enter Try.func5, Try.ntmps5
  go_wp2_with (first
    | (go_at_call 9; ((with_reducible refine (HA _).out.mono ?_); rintro e w1 ⟨rfl, hb⟩; replace hB := bnext hB hb; clear hb))
    | (go_at_call 14; ((with_reducible refine (HP _).out.mono ?_); rintro e w1 ⟨rfl, hb⟩; replace hB := bnext hB hb; clear hb))
    | (go_at_call 16; ((with_reducible refine (HD _).out.mono ?_); rintro e w1 ⟨rfl, hb⟩; replace hB := bnext hB hb; clear hb))
    | (go_at_call 18; ((with_reducible refine (HK _).out.mono ?_); rintro e w1 ⟨rfl, hb⟩; replace hB := bnext hB hb; clear hb))
    | (go_at_call 19; ((with_reducible refine (HC _).out.mono ?_); rintro e w1 ⟨rfl, hb⟩; replace hB := bnext hB hb; clear hb))
    | (go_at_call 12; ((with_reducible refine (HV _).out.mono ?_); rintro e w1 ⟨rfl, hb⟩; replace hB := bnext hB hb; clear hb))
    | (go_at_call 10; ((with_reducible refine (H1 _).out.mono ?_); rintro e w1 ⟨rfl, hb⟩; replace hB := bnext hB hb; clear hb))
    | (go_at_call 10; ((with_reducible refine (H2 _).out.mono ?_); rintro e w1 ⟨rfl, hb⟩; replace hB := bnext hB hb; clear hb)))
  go_ret
  exact ⟨by first | rfl | simp [hd, hn, hu], hB⟩

set_option maxHeartbeats 1600000 in
theorem walk_num (a p u b d k : Nat) (n : Int) (hk : ((k : Int) == 4) = false) (hu : IntKind.u32.wrap n = (u : Int)) (hd : wrap64 (d : Int) = n) (hn : wrap64 n = n) (hwa : IntKind.u64.wrap (a : Int) = (a : Int)) (hwu : IntKind.u64.wrap (u : Int) = (u : Int))
    (HP : ∀ W, Hid (Say 14 #[.int .u64 (a : Int)] W (.int .u64 (p : Int)))) (HD : ∀ W, Hid (Say 16 #[.int .u64 (p : Int)] W (.int .u64 (a : Int))))
    (HK : ∀ W, Hid (Say 18 #[.int .i64 32, .int .u64 (a : Int)] W (.int .i64 (k : Int))))
    (HV : ∀ W, Hid (Say 12 #[.int .i64 32, .int .i64 64, .bool true, .int .u64 (u : Int)] W (.tuple #[.int .u64 (b : Int), .int .i64 0])))
    (H1 : ∀ W, Hid (Say 10 #[.int .i64 64, .int .i64 32, .bool true, .bool false, .int .u64 (b : Int)] W (.tuple #[.int .u64 (u : Int), .int .i64 0])))
    (H2 : ∀ W, Hid (Say 10 #[.int .i64 64, .int .i64 64, .bool true, .bool true, .int .u64 (b : Int)] W (.tuple #[.int .u64 (d : Int), .int .i64 0]))) (w : World) :
    Say 5 #[.int .u32 (a : Int), .int .i32 n] w (.bool true) := by
  have HA := fun W => hid (cawake_any W)
  have HC := fun W => hid (Canonical_32 W)
  have hB : Below w.heap.size w w := Below.refl _ _
  go_enter Try.func5, Try.ntmps5
  go_wp2_with (first
    | (go_at_call 9; ((with_reducible refine (HA _).out.mono ?_); rintro e w1 ⟨rfl, hb⟩; replace hB := bnext hB hb; clear hb))
    | (go_at_call 14; ((with_reducible refine (HP _).out.mono ?_); rintro e w1 ⟨rfl, hb⟩; replace hB := bnext hB hb; clear hb))
    | (go_at_call 16; ((with_reducible refine (HD _).out.mono ?_); rintro e w1 ⟨rfl, hb⟩; replace hB := bnext hB hb; clear hb))
    | (go_at_call 18; ((with_reducible refine (HK _).out.mono ?_); rintro e w1 ⟨rfl, hb⟩; replace hB := bnext hB hb; clear hb))
    | (go_at_call 19; ((with_reducible refine (HC _).out.mono ?_); rintro e w1 ⟨rfl, hb⟩; replace hB := bnext hB hb; clear hb))
    | (go_at_call 12; ((with_reducible refine (HV _).out.mono ?_); rintro e w1 ⟨rfl, hb⟩; replace hB := bnext hB hb; clear hb))
    | (go_at_call 10; ((with_reducible refine (H1 _).out.mono ?_); rintro e w1 ⟨rfl, hb⟩; replace hB := bnext hB hb; clear hb))
    | (go_at_call 10; ((with_reducible refine (H2 _).out.mono ?_); rintro e w1 ⟨rfl, hb⟩; replace hB := bnext hB hb; clear hb)))
  go_ret
  exact ⟨by first | rfl | simp [hd, hn, hu], hB⟩

theorem walk (a0 : Int) (a1 : Int) (w0 : (Lit.int .u32 a0).wf = true) (w1 : (Lit.int .i32 a1).wf = true) (w : World) :
    Calls Try.prog 5 #[.int .u32 a0, .int .i32 a1] w fun e w' => e = .returned (.bool true) ∧ Below w.heap.size w w' := by
  obtain ⟨a, rfl, ha⟩ := wf_u32 w0
  obtain ⟨h0, h1⟩ := wf_i32 w1
  have ha64 : a < 18446744073709551616 := Nat.lt_trans ha (by decide)
  have hm : a % 4294967296 = a := Nat.mod_eq_of_lt ha
  obtain ⟨b, d, hb, hw, t1, t2, hd⟩ := back_math a1 h0 h1
  have hu64 : wordI a1 < 18446744073709551616 := Nat.lt_trans (wordI_lt a1) (by decide)
  have HV := fun W => hid (Convert_32_64 true (wordI a1) hu64 W)
  have H1 := fun W => hid (Trunc_64_32 true false b hb W)
  have H2 := fun W => hid (Trunc_64_64 true true b hb W)
  have HP := fun W => hid (Promote_any a ha64 W)
  have HK := fun W => hid (RKind_32 a ha64 W)
  rw [hw] at HV; rw [t1] at H1; rw [t2] at H2; rw [hm] at HP HK
  have hu := wordI_eq a1
  have hn := wrap_same a1 h0 h1
  have hwa : IntKind.u64.wrap (a : Int) = (a : Int) := wrapu_in a ha64
  have hwu : IntKind.u64.wrap ((wordI a1 : Nat) : Int) = ((wordI a1 : Nat) : Int) := wrapu_in _ hu64
  by_cases hnan : 2139095040 < a % 2147483648
  · have hp : resW Ieee.double 9221120237041090560 2147483648 2139095040 23 (-149) a = 9221120237041090560 := by unfold resW; rw [if_pos hnan]
    rw [hp] at HP
    rw [kind_4 hnan] at HK
    have HD : ∀ W, Hid (Say 16 #[.int .u64 ((9221120237041090560 : Nat) : Int)] W (.int .u64 2143289344)) := fun W => by
      have := Demote_any 9221120237041090560 (by decide) W
      rw [show resW Ieee.single 2143289344 9223372036854775808 9218868437227405312 52 (-1074) (9221120237041090560 % 18446744073709551616) = 2143289344 by decide +kernel] at this
      exact this
    exact walk_nan a _ _ b d a1 hu hd hn hwa hwu HP HD HK HV H1 H2 w
  · have hle : a % 2147483648 ≤ 2139095040 := by omega
    have hlt : a < 2 * 2147483648 := by omega
    have hk : ((kindOf 2139095040 (a % 2147483648) : Int) == 4) = false := by
      have := kind_not4 hle
      exact beq_eq_false_iff_ne.2 (by omega)
    have hv := (vS_read hlt hle).2.1
    rw [promote_vS hlt hle] at HP
    have HD : ∀ W, Hid (Say 16 #[.int .u64 ((vS a : Nat) : Int)] W (.int .u64 (a : Int))) := fun W => by
      have h64 : vS a < 18446744073709551616 := by omega
      have := Demote_any (vS a) h64 W
      rw [Nat.mod_eq_of_lt h64, demote_vS hlt hle] at this
      exact this
    exact walk_num a _ _ b d _ a1 hk hu hd hn hwa hwu HP HD HK HV H1 H2 w

/-! ### The row's step -/
set_option maxRecDepth 100000 in
theorem lifted (os : Os) (started : os.Started) (H : Type) (enc : TypeId × Value → H) :
    ReturnsInHanded {} Try.checked os 5 .any (Rows.convBackSpec.pre6 enc Try.prog Try.f5 Rows.convBackRow.domain false) (Rows.convBackSpec.post enc Try.prog Try.f5 false true false false) := by
  refine returnsInHanded_of_change (C := Try.checked) own started (by kernel_rfl) Try.func5
    (ChangeSpec.witness6 (enc := enc) (C := Try.checked) false ⟨#[], #[.int .u32 0, .int .i32 0], []⟩ 8 (by kernel_rfl) (by kernel_rfl) (by kernel_rfl) (by kernel_rfl)) ?_
  intro W base args ds gs before hval0 hW hcnd _
  have hval : ∀ (j : Nat) t v, Try.f5.params[j]? = some t → args[j]? = some v → Value.okWide Try.prog W .any base t v := hval0
  have hW' := hW
  obtain ⟨p, q, hA0, hV, rfl, hfz, hnd⟩ := hW
  have hA : DataW.TrodAll enc Try.prog W 0 (fun _ => true) true Try.f5.params.toList args.toList ds p := hA0
  rw [Try.params5] at hA hval
  obtain ⟨v0, vs0, d0, ds0, p0, q0, hargs, rfl, rfl, h0, r0⟩ := trodAll_cons hA
  obtain ⟨v1, vs1, d1, ds1, p1, q1, rfl, rfl, rfl, h1, r1⟩ := trodAll_cons r0
  obtain ⟨rfl, rfl, rfl⟩ := trodAll_nil r1
  obtain rfl : args = #[v0, v1] := by cases args; simp_all
  obtain ⟨rfl, rfl⟩ := trodVars_none hV
  obtain ⟨a0, rfl, rfl, rfl, w0⟩ := open_int Try.underlying31 (hval 0 31 v0 rfl rfl) h0
  obtain ⟨a1, rfl, rfl, rfl, w1⟩ := open_int Try.underlying21 (hval 1 21 v1 rfl rfl) h1
  clear hA0 hval0
  simp only [List.append_nil] at hW'
  refine (walk a0 a1 w0 w1 W).mono fun e W' ⟨he, hg⟩ => ?_
  subst he
  exact ⟨_, rfl, _, _, _, [], [], [], hW', trodAll_mk1 (shut_bool Try.underlying4 _), (trodAll_cons_mk (shut_int Try.underlying31 w0) (trodAll_cons_mk (shut_int Try.underlying21 w1) trodAll_mk0)), rfl, hg.frame _, fun h => by cases h⟩

theorem over : Rows.convBackRow.holds Try.pinned (OpenSpec.ofChange Rows.convBackSpec) :=
  OpenClaim.holds_of_wide 5 Try.f5 rfl rfl rfl rfl rfl rfl rfl ⟨rfl, rfl, rfl, rfl, rfl⟩ rfl rfl rfl rfl rfl (by kernel_rfl) Try.func5 (by kernel_rfl)
    (of_decide_eq_true (by kernel_rfl)) (by unfold Func.isWrapper; first | (rw [if_pos (by decide +kernel)]; kernel_rfl) | (rw [if_neg (by decide +kernel)]; exact ⟨rfl, rfl⟩))
    (fun os started H enc _ => lifted os started H enc)

/-- The statement. -/
theorem proved : Rows.ConvBackSaid :=
  over
#print axioms proved
end Go.Proofs.Ytnpamiofhalimaa.convBack
