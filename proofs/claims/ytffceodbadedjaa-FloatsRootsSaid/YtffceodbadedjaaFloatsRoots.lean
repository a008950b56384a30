/-
  The root of any word, and the word with and without its sign, of 32 and of 64 bits, come out the same in the program and in the reference, bit by bit, with the same error. Condition: the word is below 2^64.
-/
import Derived.Test.YtffceodbadedjaaAwakeR
import Derived.Test.YtffceodbadedjaaFUn
import Derived.Test.YtffceodbadedjaaFUn3
import Derived.Test.YtffceodbadedjaaRRoot
import Derived.Test.YtffceodbadedjaaRows
import Derived.WalkKit
import Derived.ProofKit
import Derived.OpenShut
set_option linter.unusedSimpArgs false
set_option linter.unusedVariables false
namespace Go.Proofs.Ytffceodbadedjaa.floatsRoots
open Go.Proofs.Ytffceodbadedjaa
open Go.ChangeShapes Go.WideShapes Go.ChangeAt Go.RowKit
open Go.ChangeMaps (open_string shut_string)
set_option linter.unusedVariables false

theorem own : ownKnob Try.prog.godebug = none := by kernel_rfl


/-- A counter of sizes. -/
def Bts (v : Value) : Prop := ∃ n : Nat, (n = 32 ∨ n = 64 ∨ n = 96) ∧ v = .int .i64 n
/-- A counter from lo to hi. -/
def Cnt (lo hi : Nat) (v : Value) : Prop := ∃ k : Nat, lo ≤ k ∧ k ≤ hi ∧ v = .int .i64 k
theorem bts_mk {v : Value} (n : Nat) (h : n = 32 ∨ n = 64 ∨ n = 96) (hv : v = .int .i64 (n : Int)) : Bts v := ⟨n, h, hv⟩
theorem cnt_mk {lo hi : Nat} {v : Value} (k : Nat) (h1 : lo ≤ k) (h2 : k ≤ hi) (hv : v = .int .i64 (k : Int)) : Cnt lo hi v := ⟨k, h1, h2, hv⟩

theorem wrap_one (k : Nat) (h : k ≤ 3) : wrap64 ((k : Int) + 1) = ((k + 1 : Nat) : Int) := by unfold wrap64; omega
theorem wrap_32 (n : Nat) (h : n ≤ 64) : wrap64 ((n : Int) + 32) = ((n + 32 : Nat) : Int) := by unfold wrap64; omega
theorem cnt_step (k : Nat) (h1 : 1 ≤ k) (h2 : k ≤ 3) : Cnt 1 4 (.int .i64 (wrap64 ((k : Int) + 1))) := by
  rw [wrap_one k h2]; exact ⟨k + 1, by omega, by omega, rfl⟩
theorem cnt_less (k : Nat) (h2 : k ≤ 3) : 64 - (intOf (.int .i64 (wrap64 ((k : Int) + 1)))).toNat < 64 - (intOf (.int .i64 (k : Int))).toNat := by
  rw [wrap_one k h2]
  show 64 - ((k + 1 : Nat) : Int).toNat < 64 - (k : Int).toNat
  rw [Int.toNat_natCast, Int.toNat_natCast]; omega
theorem bts_step (n : Nat) (h : n = 32 ∨ n = 64) : Bts (.int .i64 (wrap64 ((n : Int) + 32))) := by
  rw [wrap_32 n (by omega)]; exact ⟨n + 32, by omega, rfl⟩
theorem bts_less (n : Nat) (h : n = 32 ∨ n = 64) : 128 - (intOf (.int .i64 (wrap64 ((n : Int) + 32)))).toNat < 128 - (intOf (.int .i64 (n : Int))).toNat := by
  rw [wrap_32 n (by omega)]
  show 128 - ((n + 32 : Nat) : Int).toNat < 128 - (n : Int).toNat
  rw [Int.toNat_natCast, Int.toNat_natCast]; omega

theorem agree (n : Nat) (hn : n = 32 ∨ n = 64) (k : Nat) (h1 : 1 ≤ k) (h2 : k ≤ 3) (a : Nat) (ha : a < 18446744073709551616) :
    ∃ V : Nat, (∀ W, Hid (Calls Try.prog 23 #[.int .i64 n, .int .i64 k, .int .u64 a] W fun e w' => e = .returned (.tuple #[.int .u64 (V : Int), .int .i64 0]) ∧ Below W.heap.size W w')) ∧
      (∀ W, Hid (Calls Try.prog 24 #[.int .i64 n, .int .i64 k, .int .u64 a] W fun e w' => e = .returned (.tuple #[.int .u64 (V : Int), .int .i64 0]) ∧ Below W.heap.size W w')) := by
  have hk : k = 1 ∨ k = 2 ∨ k = 3 := by omega
  rcases hn with rfl | rfl <;> rcases hk with rfl | rfl | rfl
  · exact ⟨_, fun W => Un_32_1 a ha W, fun W => RUn_32_1 a ha W⟩
  · exact ⟨_, fun W => Un_32_2 a ha W, fun W => RUn_32_2 a ha W⟩
  · exact ⟨_, fun W => Un_32_3 a ha W, fun W => RUn_32_3 a ha W⟩
  · exact ⟨_, fun W => Un_64_1 a ha W, fun W => RUn_64_1 a ha W⟩
  · exact ⟨_, fun W => Un_64_2 a ha W, fun W => RUn_64_2 a ha W⟩
  · exact ⟨_, fun W => Un_64_3 a ha W, fun W => RUn_64_3 a ha W⟩

set_option maxHeartbeats 3200000 in
set_option maxRecDepth 100000 in
theorem walk_ok (a : Nat) (ha : a < 18446744073709551616) (w : World) :
    Calls Try.prog 13 #[.int .u64 a] w fun e w' => e = .returned (.bool true) ∧ Below w.heap.size w w' := by
  have HA := fun W => hid (awake_any W)
  have HO := hid (fun (n : Nat) (hn : n = 32 ∨ n = 64) (k : Nat) (h1 : 1 ≤ k) (h2 : k ≤ 3) => agree n hn k h1 h2 a ha)
  clear ha
  go_enter Try.func13, Try.ntmps13
  go_wp2_with (go_at_call 16; refine (HA _).out.mono ?_; rintro e w1 ⟨rfl, hb1⟩)
  go_loopw [4] (fun v wr => Bts v ∧ Below w.heap.size w wr) (fun v _ => 128 - (intOf v).toNat)
  case atStart => exact ⟨bts_mk 32 (by decide) rfl, hb1⟩
  case round =>
    obtain ⟨⟨n, hn, rfl⟩, hB⟩ := hrel
    have hor : (n = 32 ∨ n = 64) ∨ n = 96 := by omega
    rcases hor with hn2 | rfl
    · have hd64 : decide ((n : Int) ≤ 64) = true := decide_eq_true (by omega)
      have hd64n : decide (n ≤ 64) = true := decide_eq_true (by omega)
      have HN := hid hn2
      have HB := hid hB
      clear hn hn2 hB
      go_wp2
      go_loopw [5] (fun v wr2 => Cnt 1 4 v ∧ Below w.heap.size w wr2) (fun v _ => 64 - (intOf v).toNat)
      case atStart => exact ⟨cnt_mk 1 (by decide) (by decide) rfl, HB.out⟩
      case round =>
        rename_i wr2 _
        obtain ⟨⟨k, hk1, hk2, rfl⟩, hB2⟩ := hrel
        by_cases hlt : k ≤ 3
        · obtain ⟨V, HP, HR⟩ := HO.out n HN.out k hk1 hlt
          have HB2 := hid hB2
          have HK := hid (And.intro hk1 hlt)
          have hd : decide ((k : Int) ≤ 3) = true := decide_eq_true (by omega)
          have hdn : decide (k ≤ 3) = true := decide_eq_true hlt
          clear hB2 hk1 hk2 hlt
          go_wp2_with (first
            | (go_at_call 23; ((with_reducible refine (HP _).out.mono ?_); rintro e w2 ⟨rfl, hb2⟩; replace HB2 := hid (bnext HB2.out hb2); clear hb2))
            | (go_at_call 24; ((with_reducible refine (HR _).out.mono ?_); rintro e w3 ⟨rfl, hb3⟩; replace HB2 := hid (bnext HB2.out hb3); clear hb3)))
          go_roundw
          case rel => exact ⟨cnt_step k HK.out.1 HK.out.2, HB2.out⟩
          case measure => exact cnt_less k HK.out.2
        · have HB2 := hid hB2
          have hd : decide ((k : Int) ≤ 3) = false := decide_eq_false (by omega)
          have hdn : decide (k ≤ 3) = false := decide_eq_false hlt
          clear hB2 hk1 hk2 hlt
          go_wp2
          go_roundw
          case rel => exact ⟨bts_step n HN.out, HB2.out⟩
          case measure => exact bts_less n HN.out
    · have HB := hid hB
      clear hB
      go_wp2
      go_ret
      exact ⟨rfl, HB.out⟩

theorem walk (a0 : Int) (w0 : (Lit.int .u64 a0).wf = true) (w : World) :
    Calls Try.prog 13 #[.int .u64 a0] w fun e w' => e = .returned (.bool true) ∧ Below w.heap.size w w' := by
  obtain ⟨a, rfl, ha⟩ := wf_nat w0
  exact walk_ok a ha w

/-! ### The row's step -/
set_option maxRecDepth 100000 in
theorem lifted (os : Os) (started : os.Started) (H : Type) (enc : TypeId × Value → H) :
    ReturnsInHanded {} Try.checked os 13 .any (Rows.floatsRootsSpec.pre6 enc Try.prog Try.f13 Rows.floatsRootsRow.domain false) (Rows.floatsRootsSpec.post enc Try.prog Try.f13 false true false false) := by
  refine returnsInHanded_of_change (C := Try.checked) own started (by kernel_rfl) Try.func13
    (ChangeSpec.witness6 (enc := enc) (C := Try.checked) false ⟨#[], #[.int .u64 0], []⟩ 8 (by kernel_rfl) (by kernel_rfl) (by kernel_rfl) (by kernel_rfl)) ?_
  intro W base args ds gs before hval0 hW hcnd _
  have hval : ∀ (j : Nat) t v, Try.f13.params[j]? = some t → args[j]? = some v → Value.okWide Try.prog W .any base t v := hval0
  have hW' := hW
  obtain ⟨p, q, hA0, hV, rfl, hfz, hnd⟩ := hW
  have hA : DataW.TrodAll enc Try.prog W 0 (fun _ => true) true Try.f13.params.toList args.toList ds p := hA0
  rw [Try.params13] at hA hval
  obtain ⟨v0, vs0, d0, ds0, p0, q0, hargs, rfl, rfl, h0, r0⟩ := trodAll_cons hA
  obtain ⟨rfl, rfl, rfl⟩ := trodAll_nil r0
  obtain rfl : args = #[v0] := by cases args; simp_all
  obtain ⟨rfl, rfl⟩ := trodVars_none hV
  obtain ⟨a0, rfl, rfl, rfl, w0⟩ := open_int Try.underlying22 (hval 0 22 v0 rfl rfl) h0
  clear hA0 hval0
  simp only [List.append_nil] at hW'
  refine (walk a0 w0 W).mono fun e W' ⟨he, hg⟩ => ?_
  subst he
  exact ⟨_, rfl, _, _, _, [], [], [], hW', trodAll_mk1 (shut_bool Try.underlying4 _), (trodAll_cons_mk (shut_int Try.underlying22 w0) trodAll_mk0), rfl, hg.frame _, fun h => by cases h⟩

theorem over : Rows.floatsRootsRow.holds Try.pinned (OpenSpec.ofChange Rows.floatsRootsSpec) :=
  OpenClaim.holds_of_wide 13 Try.f13 rfl rfl rfl rfl rfl rfl rfl ⟨rfl, rfl, rfl, rfl, rfl⟩ rfl rfl rfl rfl rfl (by kernel_rfl) Try.func13 (by kernel_rfl)
    (of_decide_eq_true (by kernel_rfl)) (by unfold Func.isWrapper; first | (rw [if_pos (by decide +kernel)]; kernel_rfl) | (rw [if_neg (by decide +kernel)]; exact ⟨rfl, rfl⟩))
    (fun os started H enc _ => lifted os started H enc)

/-- The statement. -/
theorem proved : Rows.FloatsRootsSaid :=
  over
#print axioms proved
end Go.Proofs.Ytffceodbadedjaa.floatsRoots
