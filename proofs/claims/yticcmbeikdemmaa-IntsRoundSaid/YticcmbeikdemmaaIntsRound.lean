/-
  What is rotated left and then right by the same number is what it was; so is what is put under its opposite sign twice. No condition: for every input.
-/
import Derived.Test.YticcmbeikdemmaaGiven
import Derived.Test.YticcmbeikdemmaaRows
import Derived.WalkKit
import Derived.ProofKit
import Derived.OpenShut
namespace Go.Proofs.Yticcmbeikdemmaa.intsRound
open Go.Proofs.Yticcmbeikdemmaa
open Go.ChangeShapes Go.WideShapes Go.ChangeAt Go.RowKit
set_option linter.unusedVariables false

theorem own : ownKnob Try.prog.godebug = none := by kernel_rfl

set_option maxHeartbeats 3200000 in
set_option maxRecDepth 100000 in
theorem walk_ok (a k : Nat) (ha : a < 18446744073709551616) (hk : k < 18446744073709551616) (w : World) :
    Calls Try.prog 7 #[.int .u64 a, .int .u64 k] w fun e w' => e = .returned (.bool true) ∧ w = w' := by
  have HA := hid (awake_any w)
  have HO := hid (And.intro ha hk)
  clear ha hk
  go_enter Try.func7, Try.ntmps7
  go_wp2_with (go_at_call 15; refine HA.out.mono ?_; rintro e w' ⟨rfl, rfl⟩)
  go_loop [6] (fun v => Bts v) (fun v => 128 - (intOf v).toNat)
  case atStart => exact bts_first rfl
  case round =>
    obtain ⟨n, hn, rfl⟩ := hrel
    rcases hn with hn | rfl
    · have hn8 := hn.le
      obtain ⟨h1, h2, h3, h4⟩ := pow_lt64 hn
      obtain ⟨ha, hk⟩ := HO.out
      have hxl : a % 2 ^ n < 2 ^ n := Nat.mod_lt _ (Nat.two_pow_pos n)
      have hj : k % 2 ^ n % n ≤ n := Nat.le_of_lt (Nat.mod_lt _ (by omega))
      obtain ⟨x, hx⟩ : ∃ x : Nat, x = a % 2 ^ n := ⟨_, rfl⟩
      obtain ⟨j, hje⟩ : ∃ j : Nat, j = k % 2 ^ n % n := ⟨_, rfl⟩
      rw [← hx] at hxl
      rw [← hje] at hj
      obtain ⟨L, hL⟩ : ∃ L : Nat, L = shiftR n 14 x j := ⟨_, rfl⟩
      have hLl : L < 2 ^ n := by rw [hL]; exact rotl_lt n x j
      obtain ⟨N, hN⟩ : ∃ N : Nat, N = (2 ^ n - x) % 2 ^ n := ⟨_, rfl⟩
      have hNl : N < 2 ^ n := by rw [hN]; exact Nat.mod_lt _ (Nat.two_pow_pos n)
      obtain ⟨c, hc⟩ : ∃ c : Nat, c = pop x := ⟨_, rfl⟩
      have hCut := Cut_any n hn a ha w
      rw [← hx] at hCut
      have C1 := hid (bin_c hn 14 14 rfl (by decide) (by decide) a k ha hk L 0 L 0 rfl rfl (by
        rw [← hx, hL, hje]
        rfl) w)
      have C2 := hid (bin_c hn 15 15 rfl (by decide) (by decide) L k (by omega) hk x 0 x 0 rfl rfl (by
        rw [Nat.mod_eq_of_lt hLl]
        show (shiftR n 15 L (k % 2 ^ n % n), 0) = _
        rw [← hje, hL, rot_back hj hxl]) w)
      have C3 := hid (un_c hn 8 8 rfl (by decide) a ha N (by
        rw [← hx, hN]
        rfl) w)
      have C4 := hid (un_c hn 8 8 rfl (by decide) N (by omega) x (by
        rw [Nat.mod_eq_of_lt hNl]
        show (2 ^ n - N) % 2 ^ n = x
        rw [hN, neg_neg hxl]) w)
      have C5 := hid (bin_c hn 1 1 rfl (by decide) (by decide) a N ha (by omega) 0 0 0 0 rfl rfl (by
        rw [← hx, Nat.mod_eq_of_lt hNl]
        show ((x + N) % 2 ^ n, 0) = _
        rw [hN, add_neg hxl]) w)
      have C6 := hid (un_c hn 3 3 rfl (by decide) a ha c (by
        rw [← hx, hc]
        rfl) w)
      have C7 := hid (un_c hn 3 3 rfl (by decide) L (by omega) c (by
        rw [Nat.mod_eq_of_lt hLl]
        show pop L = c
        rw [hL, pop_rot hj hxl, hc]) w)
      have CC := hid hCut
      have HN := hid hn
      have hn64 : n ≤ 64 := hn8.2
      clear h1 h2 h3 h4 ha hk hxl hj hx hje hL hLl hN hNl hc hCut hn hn8
      go_wp2_with (first
        | (go_at_call 24; refine CC.out.mono ?_; rintro e w' ⟨rfl, rfl⟩)
        | (go_at_call 16; ((with_reducible refine C1.out.mono ?_); rintro e w' ⟨rfl, rfl⟩))
        | (go_at_call 16; ((with_reducible refine C2.out.mono ?_); rintro e w' ⟨rfl, rfl⟩))
        | (go_at_call 20; ((with_reducible refine C3.out.mono ?_); rintro e w' ⟨rfl, rfl⟩))
        | (go_at_call 20; ((with_reducible refine C4.out.mono ?_); rintro e w' ⟨rfl, rfl⟩))
        | (go_at_call 16; ((with_reducible refine C5.out.mono ?_); rintro e w' ⟨rfl, rfl⟩))
        | (go_at_call 20; ((with_reducible refine C6.out.mono ?_); rintro e w' ⟨rfl, rfl⟩))
        | (go_at_call 20; ((with_reducible refine C7.out.mono ?_); rintro e w' ⟨rfl, rfl⟩)))
      go_round
      case rel => exact bts_next HN.out rfl
      case measure =>
        have := HN.out.le
        simp [intOf]
        omega
    · go_wp2
      go_ret
      exact ⟨rfl, rfl⟩

theorem walk (a0 : Int) (a1 : Int) (w0 : (Lit.int .u64 a0).wf = true) (w1 : (Lit.int .u64 a1).wf = true) (w : World) :
    Calls Try.prog 7 #[.int .u64 a0, .int .u64 a1] w fun e w' => e = .returned (.bool true) ∧ Below w.heap.size w w' := by
  obtain ⟨a, rfl, ha⟩ := wf_nat w0
  obtain ⟨b, rfl, hb⟩ := wf_nat w1
  exact (walk_ok a b ha hb w).mono fun _ _ ⟨h1, h2⟩ => ⟨h1, by rw [← h2]; exact Below.refl _ _⟩

/-! ### The row's step -/
set_option maxRecDepth 100000 in
theorem lifted (os : Os) (started : os.Started) (H : Type) (enc : TypeId × Value → H) :
    ReturnsInHanded {} Try.checked os 7 .any (Rows.intsRoundSpec.pre6 enc Try.prog Try.f7 Rows.intsRoundRow.domain false) (Rows.intsRoundSpec.post enc Try.prog Try.f7 false true false false) := by
  refine returnsInHanded_of_change (C := Try.checked) own started (by kernel_rfl) Try.func7
    (ChangeSpec.witness6 (enc := enc) (C := Try.checked) false ⟨#[], #[.int .u64 0, .int .u64 0], []⟩ 8 (by kernel_rfl) (by kernel_rfl) (by kernel_rfl) (by kernel_rfl)) ?_
  intro W base args ds gs before hval0 hW hcnd _
  have hval : ∀ (j : Nat) t v, Try.f7.params[j]? = some t → args[j]? = some v → Value.okWide Try.prog W .any base t v := hval0
  have hW' := hW
  obtain ⟨p, q, hA0, hV, rfl, hfz, hnd⟩ := hW
  have hA : DataW.TrodAll enc Try.prog W 0 (fun _ => true) true Try.f7.params.toList args.toList ds p := hA0
  rw [Try.params7] at hA hval
  obtain ⟨v0, vs0, d0, ds0, p0, q0, hargs, rfl, rfl, h0, r0⟩ := trodAll_cons hA
  obtain ⟨v1, vs1, d1, ds1, p1, q1, rfl, rfl, rfl, h1, r1⟩ := trodAll_cons r0
  obtain ⟨rfl, rfl, rfl⟩ := trodAll_nil r1
  obtain rfl : args = #[v0, v1] := by cases args; simp_all
  obtain ⟨rfl, rfl⟩ := trodVars_none hV
  obtain ⟨a0, rfl, rfl, rfl, w0⟩ := open_int Try.underlying22 (hval 0 22 v0 rfl rfl) h0
  obtain ⟨a1, rfl, rfl, rfl, w1⟩ := open_int Try.underlying22 (hval 1 22 v1 rfl rfl) h1
  clear hA0 hval0
  simp only [List.append_nil] at hW'
  refine (walk a0 a1 w0 w1 W).mono fun e W' ⟨he, hg⟩ => ?_
  subst he
  exact ⟨_, rfl, _, _, _, [], [], [], hW', trodAll_mk1 (shut_bool Try.underlying4 _), (trodAll_cons_mk (shut_int Try.underlying22 w0) (trodAll_cons_mk (shut_int Try.underlying22 w1) trodAll_mk0)), rfl, hg.frame _, fun h => by cases h⟩

theorem over : Rows.intsRoundRow.holds Try.pinned (OpenSpec.ofChange Rows.intsRoundSpec) :=
  OpenClaim.holds_of_wide 7 Try.f7 rfl rfl rfl rfl rfl rfl rfl ⟨rfl, rfl, rfl, rfl, rfl⟩ rfl rfl rfl rfl rfl (by kernel_rfl) Try.func7 (by kernel_rfl)
    (of_decide_eq_true (by kernel_rfl)) (by unfold Func.isWrapper; first | (rw [if_pos (by decide +kernel)]; kernel_rfl) | (rw [if_neg (by decide +kernel)]; exact ⟨rfl, rfl⟩))
    (fun os started H enc _ => lifted os started H enc)

/-- The statement. -/
theorem proved : Rows.IntsRoundSaid :=
  over
#print axioms proved
end Go.Proofs.Yticcmbeikdemmaa.intsRound
