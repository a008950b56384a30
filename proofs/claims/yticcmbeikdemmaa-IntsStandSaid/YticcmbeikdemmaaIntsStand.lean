/-
  Of two numbers one is below the other, or they are the same, with a sign and without. No condition: for every input.
-/
import Derived.Test.YticcmbeikdemmaaAwake
import Derived.Test.YticcmbeikdemmaaRows
import Derived.WalkKit
import Derived.ProofKit
import Derived.OpenShut
namespace Go.Proofs.Yticcmbeikdemmaa.intsStand
open Go.Proofs.Yticcmbeikdemmaa
open Go.ChangeShapes Go.WideShapes Go.ChangeAt Go.RowKit
set_option linter.unusedVariables false

theorem own : ownKnob Try.prog.godebug = none := by kernel_rfl

theorem relA_bad {bits op : Int} {a b : Nat} (h : ¬ Okn bits.toNat) : relA bits op a b = (false, 1) := by rw [relA, if_neg (fun q => h q.1)]
theorem relA_ok {n k a b : Nat} (h : Okn n) (h1 : 1 ≤ k) (h2 : k ≤ 10) : relA (n : Int) (k : Int) a b = (relR n k (a % 2 ^ n) (b % 2 ^ n), 0) := by
  rw [relA, if_pos ⟨by simpa using h, by omega, by omega⟩, Int.toNat_natCast, Int.toNat_natCast]

/-- Rel, the answer given. -/
theorem rel_c {n : Nat} (hn : Okn n) (k : Nat) (h1 : 1 ≤ k) (h2 : k ≤ 10) (a b : Nat) (ha : a < 18446744073709551616) (hb : b < 18446744073709551616) (r : Bool) (hr : relR n k (a % 2 ^ n) (b % 2 ^ n) = r) (w : World) :
    Calls Try.prog 18 #[.int .i64 n, .int .i64 k, .int .u64 a, .int .u64 b] w fun e w' => e = .returned (.tuple #[.bool r, .int .i64 0]) ∧ w = w' := by
  have := Rel_any n k a b ha hb w
  rw [relA_ok hn h1 h2, hr] at this
  exact this

theorem sg_inj {n x y : Nat} (hn : Okn n) (hx : x < 2 ^ n) (hy : y < 2 ^ n) (h : sg n x = sg n y) : x = y := by
  rw [← turned_turned hn hx, ← turned_turned hn hy]
  congr 1
  have ea := turned_sg (a := x) hn
  have eb := turned_sg (a := y) hn
  omega

set_option maxHeartbeats 1600000 in
set_option maxRecDepth 100000 in
theorem walk_bad (bits : Int) (hb : ¬ Okn bits.toNat) (a b : Nat) (ha : a < 18446744073709551616) (hbb : b < 18446744073709551616) (w : World) :
    Calls Try.prog 8 #[.int .i64 bits, .int .u64 a, .int .u64 b] w fun e w' => e = .returned (.bool true) ∧ w = w' := by
  have H1 := Rel_any bits 1 a b ha hbb w
  have H2 := Rel_any bits 2 a b ha hbb w
  rw [relA_bad hb] at H1 H2
  have HA := hid (awake_any w)
  have HE : Hid (Calls Try.prog 18 #[.int .i64 bits, .int .i64 1, .int .u64 a, .int .u64 b] w fun e w' => e = .returned (.tuple #[.bool false, .int .i64 1]) ∧ w = w') := H1
  have HN : Hid (Calls Try.prog 18 #[.int .i64 bits, .int .i64 2, .int .u64 a, .int .u64 b] w fun e w' => e = .returned (.tuple #[.bool false, .int .i64 1]) ∧ w = w') := H2
  clear H1 H2 hb ha hbb
  go_enter Try.func8, Try.ntmps8
  go_wp2_with (first
    | (go_at_call 15; refine HA.out.mono ?_; rintro e w' ⟨rfl, rfl⟩)
    | (go_at_call 18; ((with_reducible refine HE.out.mono ?_); rintro e w' ⟨rfl, rfl⟩))
    | (go_at_call 18; ((with_reducible refine HN.out.mono ?_); rintro e w' ⟨rfl, rfl⟩)))
  go_ret
  exact ⟨rfl, rfl⟩

/-- What a round asks: of op, op + 2, op + 4, op + 6, and op the other way. -/
def Stands (n : Nat) (a b : Nat) (eq : Bool) (op : Nat) (lt gt : Bool) : Prop :=
  relR n op (a % 2 ^ n) (b % 2 ^ n) = lt ∧ relR n (op + 2) (a % 2 ^ n) (b % 2 ^ n) = gt ∧ relR n (op + 4) (a % 2 ^ n) (b % 2 ^ n) = (lt || eq) ∧ relR n (op + 6) (a % 2 ^ n) (b % 2 ^ n) = (gt || eq) ∧ relR n op (b % 2 ^ n) (a % 2 ^ n) = gt

theorem stands {n a b : Nat} (hn : Okn n) (op : Nat) (hop : op = 3 ∨ op = 4) :
    (a % 2 ^ n = b % 2 ^ n ∧ Stands n a b true op false false) ∨ (a % 2 ^ n ≠ b % 2 ^ n ∧ (Stands n a b false op true false ∨ Stands n a b false op false true)) := by
  have hx : a % 2 ^ n < 2 ^ n := Nat.mod_lt _ (Nat.two_pow_pos n)
  have hy : b % 2 ^ n < 2 ^ n := Nat.mod_lt _ (Nat.two_pow_pos n)
  unfold Stands
  generalize a % 2 ^ n = x at *
  generalize b % 2 ^ n = y at *
  have hi := sg_inj hn hx hy
  by_cases he : x = y
  · left
    subst he
    rcases hop with rfl | rfl <;> simp [relR]
  · right
    refine ⟨he, ?_⟩
    have hne : sg n x ≠ sg n y := fun h => he (hi h)
    rcases hop with rfl | rfl
    · by_cases h : sg n x < sg n y
      · left
        simp [relR]; omega
      · right
        simp [relR]; omega
    · by_cases h : x < y
      · left
        simp [relR]; omega
      · right
        simp [relR]; omega

/-- A counter between two numbers. -/
def Cnt (lo hi : Nat) (v : Value) : Prop := ∃ k : Nat, lo ≤ k ∧ k ≤ hi ∧ v = .int .i64 k
theorem cnt_mk {lo hi k : Nat} {v : Value} (h1 : lo ≤ k) (h2 : k ≤ hi) (h : v = .int .i64 k) : Cnt lo hi v := ⟨k, h1, h2, h⟩

set_option maxHeartbeats 3200000 in
set_option maxRecDepth 100000 in
theorem walk_ok (n : Nat) (hn : Okn n) (a b : Nat) (ha : a < 18446744073709551616) (hb : b < 18446744073709551616) (eq : Bool) (heq : decide (a % 2 ^ n = b % 2 ^ n) = eq) (ne : Bool) (hne : ne = !eq) (w : World) :
    Calls Try.prog 8 #[.int .i64 n, .int .u64 a, .int .u64 b] w fun e w' => e = .returned (.bool true) ∧ w = w' := by
  have HA := hid (awake_any w)
  have HE : Hid (Calls Try.prog 18 #[.int .i64 n, .int .i64 1, .int .u64 a, .int .u64 b] w fun e w' => e = .returned (.tuple #[.bool eq, .int .i64 0]) ∧ w = w') := rel_c hn 1 (by decide) (by decide) a b ha hb eq (by rw [relR, if_pos rfl, heq]) w
  have HN : Hid (Calls Try.prog 18 #[.int .i64 n, .int .i64 2, .int .u64 a, .int .u64 b] w fun e w' => e = .returned (.tuple #[.bool ne, .int .i64 0]) ∧ w = w') := rel_c hn 2 (by decide) (by decide) a b ha hb ne (by rw [relR, if_neg (by decide), if_pos rfl, hne, ← heq]; simp) w
  have HS : ∀ op : Nat, op = 3 ∨ op = 4 → ∃ lt gt : Bool, Stands n a b eq op lt gt ∧ (eq = true ∧ ne = false ∧ lt = false ∧ gt = false ∨ eq = false ∧ ne = true ∧ (lt = true ∧ gt = false ∨ lt = false ∧ gt = true)) := fun op hop => by
    rcases stands (a := a) (b := b) hn op hop with ⟨h1, h2⟩ | ⟨h1, h2 | h2⟩
    · have : eq = true := by rw [← heq]; simp [h1]
      subst this
      exact ⟨_, _, h2, .inl ⟨rfl, hne, rfl, rfl⟩⟩
    · have : eq = false := by rw [← heq]; simp [h1]
      subst this
      exact ⟨_, _, h2, .inr ⟨rfl, hne, .inl ⟨rfl, rfl⟩⟩⟩
    · have : eq = false := by rw [← heq]; simp [h1]
      subst this
      exact ⟨_, _, h2, .inr ⟨rfl, hne, .inr ⟨rfl, rfl⟩⟩⟩
  have HS2 := hid HS
  have HO := hid (And.intro hn (And.intro ha hb))
  clear HS hne heq hn ha hb
  go_enter Try.func8, Try.ntmps8
  go_wp2_with (first
    | (go_at_call 15; refine HA.out.mono ?_; rintro e w' ⟨rfl, rfl⟩)
    | (go_at_call 18; ((with_reducible refine HE.out.mono ?_); rintro e w' ⟨rfl, rfl⟩))
    | (go_at_call 18; ((with_reducible refine HN.out.mono ?_); rintro e w' ⟨rfl, rfl⟩)))
  go_loop [12] (fun v => Cnt 3 5 v) (fun v => 5 - (intOf v).toNat)
  case atStart => exact cnt_mk (k := 3) (by omega) (by omega) rfl
  case round =>
    obtain ⟨k, hk1, hk2, rfl⟩ := hrel
    by_cases hlt : k ≤ 4
    · obtain ⟨lt, gt, hst, hc⟩ := HS2.out k (by omega)
      obtain ⟨s1, s2, s3, s4, s5⟩ := hst
      obtain ⟨hn, ha, hb⟩ := HO.out
      have C1 := hid (rel_c hn k (by omega) (by omega) a b ha hb _ s1 w)
      have C2 := rel_c hn (k + 2) (by omega) (by omega) a b ha hb _ s2 w
      have C3 := rel_c hn (k + 4) (by omega) (by omega) a b ha hb _ s3 w
      have C4 := rel_c hn (k + 6) (by omega) (by omega) a b ha hb _ s4 w
      have C5 := hid (rel_c hn k (by omega) (by omega) b a hb ha _ s5 w)
      rw [show ((k + 2 : Nat) : Int) = (k : Int) + 2 from rfl] at C2
      rw [show ((k + 4 : Nat) : Int) = (k : Int) + 4 from rfl] at C3
      rw [show ((k + 6 : Nat) : Int) = (k : Int) + 6 from rfl] at C4
      have D2 := hid C2
      have D3 := hid C3
      have D4 := hid C4
      clear C2 C3 C4 s1 s2 s3 s4 s5 hn ha hb
      rcases hc with ⟨rfl, rfl, rfl, rfl⟩ | ⟨rfl, rfl, ⟨rfl, rfl⟩ | ⟨rfl, rfl⟩⟩
      all_goals
        go_wp2_with (first
          | (go_at_call 18; ((with_reducible refine C1.out.mono ?_); rintro e w' ⟨rfl, rfl⟩))
          | (go_at_call 18; ((with_reducible refine D2.out.mono ?_); rintro e w' ⟨rfl, rfl⟩))
          | (go_at_call 18; ((with_reducible refine D3.out.mono ?_); rintro e w' ⟨rfl, rfl⟩))
          | (go_at_call 18; ((with_reducible refine D4.out.mono ?_); rintro e w' ⟨rfl, rfl⟩))
          | (go_at_call 18; ((with_reducible refine C5.out.mono ?_); rintro e w' ⟨rfl, rfl⟩)))
        go_round
        case rel => exact cnt_mk (k := k + 1) (by omega) (by omega) rfl
        case measure => simp [intOf]; omega
    · go_wp2
      go_ret
      exact ⟨rfl, rfl⟩

theorem walk (a0 : Int) (a1 : Int) (a2 : Int) (w0 : (Lit.int .i64 a0).wf = true) (w1 : (Lit.int .u64 a1).wf = true) (w2 : (Lit.int .u64 a2).wf = true) (w : World) :
    Calls Try.prog 8 #[.int .i64 a0, .int .u64 a1, .int .u64 a2] w fun e w' => e = .returned (.bool true) ∧ Below w.heap.size w w' := by
  obtain ⟨a, rfl, ha⟩ := wf_nat w1
  obtain ⟨b, rfl, hb⟩ := wf_nat w2
  by_cases h : Okn a0.toNat
  · obtain ⟨n, rfl⟩ : ∃ n : Nat, a0 = (n : Int) := ⟨a0.toNat, by have := h.le; omega⟩
    exact (walk_ok n (by simpa using h) a b ha hb _ rfl _ rfl w).mono fun _ _ ⟨h1, h2⟩ => ⟨h1, by rw [← h2]; exact Below.refl _ _⟩
  · exact (walk_bad a0 h a b ha hb w).mono fun _ _ ⟨h1, h2⟩ => ⟨h1, by rw [← h2]; exact Below.refl _ _⟩

/-! ### The row's step -/
set_option maxRecDepth 100000 in
theorem lifted (os : Os) (started : os.Started) (H : Type) (enc : TypeId × Value → H) :
    ReturnsInHanded {} Try.checked os 8 .any (Rows.intsStandSpec.pre6 enc Try.prog Try.f8 Rows.intsStandRow.domain false) (Rows.intsStandSpec.post enc Try.prog Try.f8 false true false false) := by
  refine returnsInHanded_of_change (C := Try.checked) own started (by kernel_rfl) Try.func8
    (ChangeSpec.witness6 (enc := enc) (C := Try.checked) false ⟨#[], #[.int .i64 0, .int .u64 0, .int .u64 0], []⟩ 8 (by kernel_rfl) (by kernel_rfl) (by kernel_rfl) (by kernel_rfl)) ?_
  intro W base args ds gs before hval0 hW hcnd _
  have hval : ∀ (j : Nat) t v, Try.f8.params[j]? = some t → args[j]? = some v → Value.okWide Try.prog W .any base t v := hval0
  have hW' := hW
  obtain ⟨p, q, hA0, hV, rfl, hfz, hnd⟩ := hW
  have hA : DataW.TrodAll enc Try.prog W 0 (fun _ => true) true Try.f8.params.toList args.toList ds p := hA0
  rw [Try.params8] at hA hval
  obtain ⟨v0, vs0, d0, ds0, p0, q0, hargs, rfl, rfl, h0, r0⟩ := trodAll_cons hA
  obtain ⟨v1, vs1, d1, ds1, p1, q1, rfl, rfl, rfl, h1, r1⟩ := trodAll_cons r0
  obtain ⟨v2, vs2, d2, ds2, p2, q2, rfl, rfl, rfl, h2, r2⟩ := trodAll_cons r1
  obtain ⟨rfl, rfl, rfl⟩ := trodAll_nil r2
  obtain rfl : args = #[v0, v1, v2] := by cases args; simp_all
  obtain ⟨rfl, rfl⟩ := trodVars_none hV
  obtain ⟨a0, rfl, rfl, rfl, w0⟩ := open_int Try.underlying3 (hval 0 3 v0 rfl rfl) h0
  obtain ⟨a1, rfl, rfl, rfl, w1⟩ := open_int Try.underlying22 (hval 1 22 v1 rfl rfl) h1
  obtain ⟨a2, rfl, rfl, rfl, w2⟩ := open_int Try.underlying22 (hval 2 22 v2 rfl rfl) h2
  clear hA0 hval0
  simp only [List.append_nil] at hW'
  refine (walk a0 a1 a2 w0 w1 w2 W).mono fun e W' ⟨he, hg⟩ => ?_
  subst he
  exact ⟨_, rfl, _, _, _, [], [], [], hW', trodAll_mk1 (shut_bool Try.underlying4 _), (trodAll_cons_mk (shut_int Try.underlying3 w0) (trodAll_cons_mk (shut_int Try.underlying22 w1) (trodAll_cons_mk (shut_int Try.underlying22 w2) trodAll_mk0))), rfl, hg.frame _, fun h => by cases h⟩

theorem over : Rows.intsStandRow.holds Try.pinned (OpenSpec.ofChange Rows.intsStandSpec) :=
  OpenClaim.holds_of_wide 8 Try.f8 rfl rfl rfl rfl rfl rfl rfl ⟨rfl, rfl, rfl, rfl, rfl⟩ rfl rfl rfl rfl rfl (by kernel_rfl) Try.func8 (by kernel_rfl)
    (of_decide_eq_true (by kernel_rfl)) (by unfold Func.isWrapper; first | (rw [if_pos (by decide +kernel)]; kernel_rfl) | (rw [if_neg (by decide +kernel)]; exact ⟨rfl, rfl⟩))
    (fun os started H enc _ => lifted os started H enc)

/-- The statement. -/
theorem proved : Rows.IntsStandSaid :=
  over
#print axioms proved
end Go.Proofs.Yticcmbeikdemmaa.intsStand
