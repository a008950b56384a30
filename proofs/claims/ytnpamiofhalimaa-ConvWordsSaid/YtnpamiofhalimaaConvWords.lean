/-
  Any integer of 32 or of 64 bits, with a sign or without, as a float of 32 or of 64 bits comes out the same in the program and in the reference, with the same error. Condition: the word is below 2^64.
-/
import Derived.Test.YtnpamiofhalimaaCAwake
import Derived.Test.YtnpamiofhalimaaRConv
import Derived.Test.YtnpamiofhalimaaRows
import Derived.WalkKit
import Derived.ProofKit
import Derived.OpenShut
set_option linter.unusedSimpArgs false
set_option linter.unusedVariables false
namespace Go.Proofs.Ytnpamiofhalimaa.convWords
open Go.Proofs.Ytnpamiofhalimaa
open Go.ChangeShapes Go.WideShapes Go.ChangeAt Go.RowKit
open Go.ChangeMaps (open_string shut_string)
set_option linter.unusedVariables false

theorem own : ownKnob Try.prog.godebug = none := by kernel_rfl


/-- A counter of sizes. -/
def Bts (v : Value) : Prop := ∃ n : Nat, (n = 32 ∨ n = 64 ∨ n = 96) ∧ v = .int .i64 n
theorem bts_mk {v : Value} (n : Nat) (h : n = 32 ∨ n = 64 ∨ n = 96) (hv : v = .int .i64 (n : Int)) : Bts v := ⟨n, h, hv⟩
theorem wrap_32 (n : Nat) (h : n ≤ 64) : wrap64 ((n : Int) + 32) = ((n + 32 : Nat) : Int) := by unfold wrap64; omega
theorem bts_step (n : Nat) (h : n = 32 ∨ n = 64) : Bts (.int .i64 (wrap64 ((n : Int) + 32))) := by
  rw [wrap_32 n (by omega)]; exact ⟨n + 32, by omega, rfl⟩
theorem bts_less (n : Nat) (h : n = 32 ∨ n = 64) : 128 - (intOf (.int .i64 (wrap64 ((n : Int) + 32)))).toNat < 128 - (intOf (.int .i64 (n : Int))).toNat := by
  rw [wrap_32 n (by omega)]
  show 128 - ((n + 32 : Nat) : Int).toNat < 128 - (n : Int).toNat
  rw [Int.toNat_natCast, Int.toNat_natCast]; omega

theorem agree (n : Nat) (hn : n = 32 ∨ n = 64) (m : Nat) (hm : m = 32 ∨ m = 64) (s : Bool) (a : Nat) (ha : a < 18446744073709551616) :
    ∃ X : Nat, (∀ W, Hid (Say 12 #[.int .i64 (n : Int), .int .i64 (m : Int), .bool s, .int .u64 (a : Int)] W (.tuple #[.int .u64 (X : Int), .int .i64 0]))) ∧
      (∀ W, Hid (Say 13 #[.int .i64 (n : Int), .int .i64 (m : Int), .bool s, .int .u64 (a : Int)] W (.tuple #[.int .u64 (X : Int), .int .i64 0]))) := by
  rcases hn with rfl | rfl <;> rcases hm with rfl | rfl
  · exact ⟨_, fun W => Convert_32_32 s a ha W, fun W => RConvert_32_32 s a ha W⟩
  · exact ⟨_, fun W => Convert_32_64 s a ha W, fun W => RConvert_32_64 s a ha W⟩
  · exact ⟨_, fun W => Convert_64_32 s a ha W, fun W => RConvert_64_32 s a ha W⟩
  · exact ⟨_, fun W => Convert_64_64 s a ha W, fun W => RConvert_64_64 s a ha W⟩

set_option maxHeartbeats 3200000 in
set_option maxRecDepth 100000 in
theorem walk_ok (a : Nat) (ha : a < 18446744073709551616) (w : World) : Say 7 #[.int .u64 (a : Int)] w (.bool true) := by
  have HA := fun W => hid (cawake_any W)
  have HO := hid (fun (n : Nat) (hn : n = 32 ∨ n = 64) (m : Nat) (hm : m = 32 ∨ m = 64) (s : Bool) => agree n hn m hm s a ha)
  clear ha
  go_enter Try.func7, Try.ntmps7
  go_wp2_with (go_at_call 9; refine (HA _).out.mono ?_; rintro e w1 ⟨rfl, hb1⟩)
  go_loopw [4] (fun v wr => Bts v ∧ Below w.heap.size w wr) (fun v _ => 128 - (intOf v).toNat)
  case atStart => exact ⟨bts_mk 32 (by decide) rfl, hb1⟩
  case round =>
    obtain ⟨⟨n, hn, rfl⟩, hB⟩ := hrel
    have hor : (n = 32 ∨ n = 64) ∨ n = 96 := by omega
    rcases hor with hn2 | rfl
    · have hd64 : decide ((n : Int) ≤ 64) = true := decide_eq_true (by omega)
      have hd64n : decide (n ≤ 64) = true := decide_eq_true (by omega)
      have HN := hid hn2
      have HB := hid hB
      clear hn hn2 hB
      go_wp2
      go_loopw [5] (fun v wr2 => Bts v ∧ Below w.heap.size w wr2) (fun v _ => 128 - (intOf v).toNat)
      case atStart => exact ⟨bts_mk 32 (by decide) rfl, HB.out⟩
      case round =>
        rename_i wr2 _
        obtain ⟨⟨m, hm, rfl⟩, hB2⟩ := hrel
        have hor2 : (m = 32 ∨ m = 64) ∨ m = 96 := by omega
        rcases hor2 with hm2 | rfl
        · obtain ⟨X, HP, HR⟩ := HO.out n HN.out m hm2 false
          obtain ⟨Y, HQ, HS⟩ := HO.out n HN.out m hm2 true
          have HB2 := hid hB2
          have HM := hid hm2
          have hd : decide ((m : Int) ≤ 64) = true := decide_eq_true (by omega)
          have hdn : decide (m ≤ 64) = true := decide_eq_true (by omega)
          clear hB2 hm hm2
          go_wp2_with (first
            | (go_at_call 12; ((with_reducible refine (HP _).out.mono ?_); rintro e w2 ⟨rfl, hb2⟩; replace HB2 := hid (bnext HB2.out hb2); clear hb2))
            | (go_at_call 13; ((with_reducible refine (HR _).out.mono ?_); rintro e w3 ⟨rfl, hb3⟩; replace HB2 := hid (bnext HB2.out hb3); clear hb3))
            | (go_at_call 12; ((with_reducible refine (HQ _).out.mono ?_); rintro e w2 ⟨rfl, hb2⟩; replace HB2 := hid (bnext HB2.out hb2); clear hb2))
            | (go_at_call 13; ((with_reducible refine (HS _).out.mono ?_); rintro e w3 ⟨rfl, hb3⟩; replace HB2 := hid (bnext HB2.out hb3); clear hb3)))
          go_roundw
          case rel => exact ⟨bts_step m HM.out, HB2.out⟩
          case measure => exact bts_less m HM.out
        · have HB2 := hid hB2
          clear hB2
          go_wp2
          go_roundw
          case rel => exact ⟨bts_step n HN.out, HB2.out⟩
          case measure => exact bts_less n HN.out
    · have HB := hid hB
      clear hB
      go_wp2
      go_ret
      exact ⟨rfl, HB.out⟩

theorem walk (a0 : Int) (w0 : (Lit.int .u64 a0).wf = true) (w : World) :
    Calls Try.prog 7 #[.int .u64 a0] w fun e w' => e = .returned (.bool true) ∧ Below w.heap.size w w' := by
  obtain ⟨a, rfl, ha⟩ := wf_nat w0
  exact walk_ok a ha w

/-! ### The row's step -/
set_option maxRecDepth 100000 in
theorem lifted (os : Os) (started : os.Started) (H : Type) (enc : TypeId × Value → H) :
    ReturnsInHanded {} Try.checked os 7 .any (Rows.convWordsSpec.pre6 enc Try.prog Try.f7 Rows.convWordsRow.domain false) (Rows.convWordsSpec.post enc Try.prog Try.f7 false true false false) := by
  refine returnsInHanded_of_change (C := Try.checked) own started (by kernel_rfl) Try.func7
    (ChangeSpec.witness6 (enc := enc) (C := Try.checked) false ⟨#[], #[.int .u64 0], []⟩ 8 (by kernel_rfl) (by kernel_rfl) (by kernel_rfl) (by kernel_rfl)) ?_
  intro W base args ds gs before hval0 hW hcnd _
  have hval : ∀ (j : Nat) t v, Try.f7.params[j]? = some t → args[j]? = some v → Value.okWide Try.prog W .any base t v := hval0
  have hW' := hW
  obtain ⟨p, q, hA0, hV, rfl, hfz, hnd⟩ := hW
  have hA : DataW.TrodAll enc Try.prog W 0 (fun _ => true) true Try.f7.params.toList args.toList ds p := hA0
  rw [Try.params7] at hA hval
  obtain ⟨v0, vs0, d0, ds0, p0, q0, hargs, rfl, rfl, h0, r0⟩ := trodAll_cons hA
  obtain ⟨rfl, rfl, rfl⟩ := trodAll_nil r0
  obtain rfl : args = #[v0] := by cases args; simp_all
  obtain ⟨rfl, rfl⟩ := trodVars_none hV
  obtain ⟨a0, rfl, rfl, rfl, w0⟩ := open_int Try.underlying22 (hval 0 22 v0 rfl rfl) h0
  clear hA0 hval0
  simp only [List.append_nil] at hW'
  refine (walk a0 w0 W).mono fun e W' ⟨he, hg⟩ => ?_
  subst he
  exact ⟨_, rfl, _, _, _, [], [], [], hW', trodAll_mk1 (shut_bool Try.underlying4 _), (trodAll_cons_mk (shut_int Try.underlying22 w0) trodAll_mk0), rfl, hg.frame _, fun h => by cases h⟩

theorem over : Rows.convWordsRow.holds Try.pinned (OpenSpec.ofChange Rows.convWordsSpec) :=
  OpenClaim.holds_of_wide 7 Try.f7 rfl rfl rfl rfl rfl rfl rfl ⟨rfl, rfl, rfl, rfl, rfl⟩ rfl rfl rfl rfl rfl (by kernel_rfl) Try.func7 (by kernel_rfl)
    (of_decide_eq_true (by kernel_rfl)) (by unfold Func.isWrapper; first | (rw [if_pos (by decide +kernel)]; kernel_rfl) | (rw [if_neg (by decide +kernel)]; exact ⟨rfl, rfl⟩))
    (fun os started H enc _ => lifted os started H enc)

/-- The statement. -/
theorem proved : Rows.ConvWordsSaid :=
  over
#print axioms proved
end Go.Proofs.Ytnpamiofhalimaa.convWords
