/-
  A number is what divides it times the quotient, and the rest, with a sign and without; the rest is less. No condition: for every input.
-/
import Derived.Test.YticcmbeikdemmaaGiven
import Derived.Test.YticcmbeikdemmaaRows
import Derived.WalkKit
import Derived.ProofKit
import Derived.OpenShut
namespace Go.Proofs.Yticcmbeikdemmaa.intsDivides
open Go.Proofs.Yticcmbeikdemmaa
open Go.ChangeShapes Go.WideShapes Go.ChangeAt Go.RowKit
set_option linter.unusedVariables false

theorem own : ownKnob Try.prog.godebug = none := by kernel_rfl

theorem rest_small {n x y : Nat} (hn : Okn n) (hx : x < 2 ^ n) (hy : y < 2 ^ n) (h0 : y ≠ 0) : (sg n (toN n ((sg n x).tmod (sg n y)))).natAbs < (sg n y).natAbs := by
  have hp := natAbs_pos_of h0 hy
  have hle := size_le hn hy
  have h1 := Int.natAbs_tmod (sg n x) (sg n y)
  have h2 := Nat.mod_lt (sg n x).natAbs hp
  rw [← h1] at h2
  rw [sg_toN hn (by omega) (by omega)]
  exact h2

theorem over_rest {n : Nat} (hn : Okn n) : toN n ((sg n (2 ^ (n - 1))).tmod (sg n (2 ^ n - 1))) = 0 ∧ sg n (2 ^ n - 1) = -1 := by
  rcases hn with rfl | rfl | rfl | rfl <;> decide +kernel

def Sgn (v : Value) : Prop := v = .int .i64 0 ∨ v = .int .i64 1 ∨ v = .int .i64 2

set_option maxHeartbeats 6400000 in
set_option maxRecDepth 100000 in
theorem walk_ok (a b : Nat) (ha : a < 18446744073709551616) (hb : b < 18446744073709551616) (w : World) :
    Calls Try.prog 6 #[.int .u64 a, .int .u64 b] w fun e w' => e = .returned (.bool true) ∧ w = w' := by
  have HA := hid (awake_any w)
  have HO := hid (And.intro ha hb)
  clear ha hb
  go_enter Try.func6, Try.ntmps6
  go_wp2_with (go_at_call 15; refine HA.out.mono ?_; rintro e w' ⟨rfl, rfl⟩)
  go_loop [6] (fun v => Bts v) (fun v => 128 - (intOf v).toNat)
  case atStart => exact bts_first rfl
  case round =>
    obtain ⟨n, hn, rfl⟩ := hrel
    rcases hn with hn | rfl
    · have hn64 : n ≤ 64 := hn.le.2
      obtain ⟨x, hx⟩ : ∃ x : Nat, x = a % 2 ^ n := ⟨_, rfl⟩
      obtain ⟨y, hy⟩ : ∃ y : Nat, y = b % 2 ^ n := ⟨_, rfl⟩
      have CA := hid (Cut_any n hn a HO.out.1 w)
      have CB := hid (Cut_any n hn b HO.out.2 w)
      rw [← hx] at CA
      rw [← hy] at CB
      have HX := hid (show x = a % 2 ^ n ∧ x < 2 ^ n from ⟨hx, by rw [hx]; exact Nat.mod_lt _ (Nat.two_pow_pos n)⟩)
      have HY := hid (show y = b % 2 ^ n ∧ y < 2 ^ n from ⟨hy, by rw [hy]; exact Nat.mod_lt _ (Nat.two_pow_pos n)⟩)
      have HN := hid hn
      clear hx hy hn
      go_wp2_with (first
        | (go_at_call 24; ((with_reducible refine CA.out.mono ?_); rintro e w' ⟨rfl, rfl⟩))
        | (go_at_call 24; ((with_reducible refine CB.out.mono ?_); rintro e w' ⟨rfl, rfl⟩)))
      go_loop [9] (fun v => Sgn v) (fun v => 2 - (intOf v).toNat)
      case atStart => exact .inl rfl
      case round =>
        have hn := HN.out
        obtain ⟨h1, h2, h3, h4⟩ := pow_lt64 hn
        obtain ⟨hx, hxl⟩ := HX.out
        obtain ⟨hy, hyl⟩ := HY.out
        obtain ⟨ha, hb⟩ := HO.out
        rcases hrel with rfl | rfl | rfl
        · by_cases h0 : y = 0
          · have ey : ((y : Int) == 0) = true := by simp; omega
            have C1 := hid (bin_c hn 5 5 rfl (by decide) (by decide) a b ha hb 0 41 0 41 rfl rfl (by
              rw [← hx, ← hy]
              show divR n 5 x y = _
              rw [divR, if_pos h0]) w)
            have C2 := hid (bin_c hn 7 7 rfl (by decide) (by decide) a b ha hb 0 41 0 41 rfl rfl (by
              rw [← hx, ← hy]
              show divR n 7 x y = _
              rw [divR, if_pos h0]) w)
            clear hn h1 h2 h3 h4 hx hxl hy hyl ha hb h0
            go_wp2_with (first
              | (go_at_call 16; ((with_reducible refine C1.out.mono ?_); rintro e w' ⟨rfl, rfl⟩))
              | (go_at_call 16; ((with_reducible refine C2.out.mono ?_); rintro e w' ⟨rfl, rfl⟩)))
            go_round
            case rel => exact .inr (.inl rfl)
            case measure => simp [intOf]
          · have ey : ((y : Int) == 0) = false := by simp; omega
            have hql : x / y ≤ x := Nat.div_le_self _ _
            have hrl : x % y < y := Nat.mod_lt _ (by omega)
            obtain ⟨q, hq⟩ : ∃ q : Nat, q = x / y := ⟨_, rfl⟩
            obtain ⟨r, hr⟩ : ∃ r : Nat, r = x % y := ⟨_, rfl⟩
            obtain ⟨p, hp⟩ : ∃ p : Nat, p = (q % 2 ^ n * y) % 2 ^ n := ⟨_, rfl⟩
            have hpl : p < 2 ^ n := by rw [hp]; exact Nat.mod_lt _ (Nat.two_pow_pos n)
            have hs := back_u (n := n) (x := x) (y := y) hxl
            rw [← hq, ← hr, ← hp] at hs
            rw [← hq] at hql
            rw [← hr] at hrl
            have C1 := hid (bin_c hn 5 5 rfl (by decide) (by decide) a b ha hb q 0 q 0 rfl rfl (by
              rw [← hx, ← hy]
              show divR n 5 x y = _
              rw [divR, if_neg h0, if_pos rfl, hq]) w)
            have C2 := hid (bin_c hn 7 7 rfl (by decide) (by decide) a b ha hb r 0 r 0 rfl rfl (by
              rw [← hx, ← hy]
              show divR n 7 x y = _
              rw [divR, if_neg h0, if_neg (by decide), if_pos rfl, hr]) w)
            have C3 := hid (bin_c hn 3 3 rfl (by decide) (by decide) q b (by omega) hb p 0 p 0 rfl rfl (by
              rw [← hy, hp]
              rfl) w)
            have C4 := hid (bin_c hn 1 1 rfl (by decide) (by decide) p r (by omega) (by omega) x 0 x 0 rfl rfl (by
              rw [Nat.mod_eq_of_lt hpl, Nat.mod_eq_of_lt (show r < 2 ^ n by omega)]
              show ((p + r) % 2 ^ n, 0) = _
              rw [hs]) w)
            have hlt : decide (r < y) = true := by simp; omega
            have hlt2 : decide (y ≤ r) = false := by simp; omega
            clear hn h1 h2 h3 h4 hx hxl hy hyl ha hb h0 hql hrl hq hr hp hpl hs
            go_wp2_with (first
              | (go_at_call 16; ((with_reducible refine C1.out.mono ?_); rintro e w' ⟨rfl, rfl⟩))
              | (go_at_call 16; ((with_reducible refine C2.out.mono ?_); rintro e w' ⟨rfl, rfl⟩))
              | (go_at_call 16; ((with_reducible refine C3.out.mono ?_); rintro e w' ⟨rfl, rfl⟩))
              | (go_at_call 16; ((with_reducible refine C4.out.mono ?_); rintro e w' ⟨rfl, rfl⟩)))
            go_round
            case rel => exact .inr (.inl rfl)
            case measure => simp [intOf]
        · by_cases h0 : y = 0
          · have ey : ((y : Int) == 0) = true := by simp; omega
            have C1 := hid (bin_c hn 4 4 rfl (by decide) (by decide) a b ha hb 0 41 0 41 rfl rfl (by
              rw [← hx, ← hy]
              show divR n 4 x y = _
              rw [divR, if_pos h0]) w)
            have C2 := hid (bin_c hn 6 6 rfl (by decide) (by decide) a b ha hb 0 41 0 41 rfl rfl (by
              rw [← hx, ← hy]
              show divR n 6 x y = _
              rw [divR, if_pos h0]) w)
            clear hn h1 h2 h3 h4 hx hxl hy hyl ha hb h0
            go_wp2_with (first
              | (go_at_call 16; ((with_reducible refine C1.out.mono ?_); rintro e w' ⟨rfl, rfl⟩))
              | (go_at_call 16; ((with_reducible refine C2.out.mono ?_); rintro e w' ⟨rfl, rfl⟩)))
            go_round
            case rel => exact .inr (.inr rfl)
            case measure => simp [intOf]
          · have ey : ((y : Int) == 0) = false := by simp; omega
            by_cases hov : x = 2 ^ (n - 1) ∧ y = 2 ^ n - 1
            · obtain ⟨o1, o2⟩ := over_rest hn
              have C1 := hid (bin_c hn 4 4 rfl (by decide) (by decide) a b ha hb 0 42 0 42 rfl rfl (by
                rw [← hx, ← hy]
                show divR n 4 x y = _
                rw [divR, if_neg h0, if_neg (by decide), if_neg (by decide), if_neg (by decide), if_pos hov]) w)
              have C2 := hid (bin_c hn 6 6 rfl (by decide) (by decide) a b ha hb 0 0 0 0 rfl rfl (by
                rw [← hx, ← hy]
                show divR n 6 x y = _
                rw [divR, if_neg h0, if_neg (by decide), if_neg (by decide), if_pos rfl, hov.1, hov.2, o1]) w)
              have hG := Signed_ok n hn b hb w
              rw [← hy, hov.2, o2] at hG
              have CG := hid hG
              clear hn h1 h2 h3 h4 hx hxl hy hyl ha hb h0 hov o1 o2 hG
              go_wp2_with (first
                | (go_at_call 16; ((with_reducible refine C1.out.mono ?_); rintro e w' ⟨rfl, rfl⟩))
                | (go_at_call 16; ((with_reducible refine C2.out.mono ?_); rintro e w' ⟨rfl, rfl⟩))
                | (go_at_call 22; ((with_reducible refine CG.out.mono ?_); rintro e w' ⟨rfl, rfl⟩)))
              go_round
              case rel => exact .inr (.inr rfl)
              case measure => simp [intOf]
            · have hs := back_s (n := n) (x := x) (y := y) hxl
              have hrs := rest_small hn hxl hyl h0
              have hql := toN_lt n ((sg n x).tdiv (sg n y))
              have hrl := toN_lt n ((sg n x).tmod (sg n y))
              obtain ⟨q, hq⟩ : ∃ q : Nat, q = toN n ((sg n x).tdiv (sg n y)) := ⟨_, rfl⟩
              obtain ⟨r, hr⟩ : ∃ r : Nat, r = toN n ((sg n x).tmod (sg n y)) := ⟨_, rfl⟩
              rw [← hq] at hql hs
              rw [← hr] at hrl hrs hs
              obtain ⟨p, hp⟩ : ∃ p : Nat, p = (q * y) % 2 ^ n := ⟨_, rfl⟩
              have hpl : p < 2 ^ n := by rw [hp]; exact Nat.mod_lt _ (Nat.two_pow_pos n)
              rw [← hp] at hs
              obtain ⟨A, hA⟩ : ∃ A : Nat, A = (sg n r).natAbs := ⟨_, rfl⟩
              obtain ⟨B, hB⟩ : ∃ B : Nat, B = (sg n y).natAbs := ⟨_, rfl⟩
              rw [← hA, ← hB] at hrs
              have C1 := hid (bin_c hn 4 4 rfl (by decide) (by decide) a b ha hb q 0 q 0 rfl rfl (by
                rw [← hx, ← hy]
                show divR n 4 x y = _
                rw [divR, if_neg h0, if_neg (by decide), if_neg (by decide), if_neg (by decide), if_neg hov, hq]) w)
              have C2 := hid (bin_c hn 6 6 rfl (by decide) (by decide) a b ha hb r 0 r 0 rfl rfl (by
                rw [← hx, ← hy]
                show divR n 6 x y = _
                rw [divR, if_neg h0, if_neg (by decide), if_neg (by decide), if_pos rfl, hr]) w)
              have C3 := hid (bin_c hn 3 3 rfl (by decide) (by decide) q b (by omega) hb p 0 p 0 rfl rfl (by
                rw [← hy, hp, Nat.mod_eq_of_lt hql]
                rfl) w)
              have C4 := hid (bin_c hn 1 1 rfl (by decide) (by decide) p r (by omega) (by omega) x 0 x 0 rfl rfl (by
                rw [Nat.mod_eq_of_lt hpl, Nat.mod_eq_of_lt hrl]
                show ((p + r) % 2 ^ n, 0) = _
                rw [hs]) w)
              have C5 := hid (un_c hn 7 7 rfl (by decide) r (by omega) A (by
                rw [Nat.mod_eq_of_lt hrl, hA]
                rfl) w)
              have C6 := hid (un_c hn 7 7 rfl (by decide) b hb B (by
                rw [← hy, hB]
                rfl) w)
              have hlt : decide (A < B) = true := by simp; omega
              have hlt2 : decide (B ≤ A) = false := by simp; omega
              clear hn h1 h2 h3 h4 hx hxl hy hyl ha hb h0 hov hql hrl hq hr hp hpl hs hA hB hrs
              go_wp2_with (first
                | (go_at_call 16; ((with_reducible refine C1.out.mono ?_); rintro e w' ⟨rfl, rfl⟩))
                | (go_at_call 16; ((with_reducible refine C2.out.mono ?_); rintro e w' ⟨rfl, rfl⟩))
                | (go_at_call 16; ((with_reducible refine C3.out.mono ?_); rintro e w' ⟨rfl, rfl⟩))
                | (go_at_call 16; ((with_reducible refine C4.out.mono ?_); rintro e w' ⟨rfl, rfl⟩))
                | (go_at_call 20; ((with_reducible refine C5.out.mono ?_); rintro e w' ⟨rfl, rfl⟩))
                | (go_at_call 20; ((with_reducible refine C6.out.mono ?_); rintro e w' ⟨rfl, rfl⟩)))
              go_round
              case rel => exact .inr (.inr rfl)
              case measure => simp [intOf]
        · clear h1 h2 h3 h4 hx hxl hy hyl ha hb hn
          go_wp2
          go_round
          case rel => exact bts_next HN.out rfl
          case measure =>
            have := HN.out.le
            simp [intOf]
            omega
    · go_wp2
      go_ret
      exact ⟨rfl, rfl⟩

theorem walk (a0 : Int) (a1 : Int) (w0 : (Lit.int .u64 a0).wf = true) (w1 : (Lit.int .u64 a1).wf = true) (w : World) :
    Calls Try.prog 6 #[.int .u64 a0, .int .u64 a1] w fun e w' => e = .returned (.bool true) ∧ Below w.heap.size w w' := by
  obtain ⟨a, rfl, ha⟩ := wf_nat w0
  obtain ⟨b, rfl, hb⟩ := wf_nat w1
  exact (walk_ok a b ha hb w).mono fun _ _ ⟨h1, h2⟩ => ⟨h1, by rw [← h2]; exact Below.refl _ _⟩

/-! ### The row's step -/
set_option maxRecDepth 100000 in
theorem lifted (os : Os) (started : os.Started) (H : Type) (enc : TypeId × Value → H) :
    ReturnsInHanded {} Try.checked os 6 .any (Rows.intsDividesSpec.pre6 enc Try.prog Try.f6 Rows.intsDividesRow.domain false) (Rows.intsDividesSpec.post enc Try.prog Try.f6 false true false false) := by
  refine returnsInHanded_of_change (C := Try.checked) own started (by kernel_rfl) Try.func6
    (ChangeSpec.witness6 (enc := enc) (C := Try.checked) false ⟨#[], #[.int .u64 0, .int .u64 0], []⟩ 8 (by kernel_rfl) (by kernel_rfl) (by kernel_rfl) (by kernel_rfl)) ?_
  intro W base args ds gs before hval0 hW hcnd _
  have hval : ∀ (j : Nat) t v, Try.f6.params[j]? = some t → args[j]? = some v → Value.okWide Try.prog W .any base t v := hval0
  have hW' := hW
  obtain ⟨p, q, hA0, hV, rfl, hfz, hnd⟩ := hW
  have hA : DataW.TrodAll enc Try.prog W 0 (fun _ => true) true Try.f6.params.toList args.toList ds p := hA0
  rw [Try.params6] at hA hval
  obtain ⟨v0, vs0, d0, ds0, p0, q0, hargs, rfl, rfl, h0, r0⟩ := trodAll_cons hA
  obtain ⟨v1, vs1, d1, ds1, p1, q1, rfl, rfl, rfl, h1, r1⟩ := trodAll_cons r0
  obtain ⟨rfl, rfl, rfl⟩ := trodAll_nil r1
  obtain rfl : args = #[v0, v1] := by cases args; simp_all
  obtain ⟨rfl, rfl⟩ := trodVars_none hV
  obtain ⟨a0, rfl, rfl, rfl, w0⟩ := open_int Try.underlying22 (hval 0 22 v0 rfl rfl) h0
  obtain ⟨a1, rfl, rfl, rfl, w1⟩ := open_int Try.underlying22 (hval 1 22 v1 rfl rfl) h1
  clear hA0 hval0
  simp only [List.append_nil] at hW'
  refine (walk a0 a1 w0 w1 W).mono fun e W' ⟨he, hg⟩ => ?_
  subst he
  exact ⟨_, rfl, _, _, _, [], [], [], hW', trodAll_mk1 (shut_bool Try.underlying4 _), (trodAll_cons_mk (shut_int Try.underlying22 w0) (trodAll_cons_mk (shut_int Try.underlying22 w1) trodAll_mk0)), rfl, hg.frame _, fun h => by cases h⟩

theorem over : Rows.intsDividesRow.holds Try.pinned (OpenSpec.ofChange Rows.intsDividesSpec) :=
  OpenClaim.holds_of_wide 6 Try.f6 rfl rfl rfl rfl rfl rfl rfl ⟨rfl, rfl, rfl, rfl, rfl⟩ rfl rfl rfl rfl rfl (by kernel_rfl) Try.func6 (by kernel_rfl)
    (of_decide_eq_true (by kernel_rfl)) (by unfold Func.isWrapper; first | (rw [if_pos (by decide +kernel)]; kernel_rfl) | (rw [if_neg (by decide +kernel)]; exact ⟨rfl, rfl⟩))
    (fun os started H enc _ => lifted os started H enc)

/-- The statement. -/
theorem proved : Rows.IntsDividesSaid :=
  over
#print axioms proved
end Go.Proofs.Yticcmbeikdemmaa.intsDivides
