/-
  What any two words, and any one, come to, by all operations, and how any two stand, of 32 and of 64 bits, come out the same in the program and in the reference. Condition: both words are below 2^64.
-/
import Derived.Test.YtffceodbadedjaaAwake
import Derived.Test.YtffceodbadedjaaRArith
import Derived.Test.YtffceodbadedjaaRBin
import Derived.Test.YtffceodbadedjaaFUn
import Derived.Test.YtffceodbadedjaaFUn3
import Derived.Test.YtffceodbadedjaaRRoot
import Derived.Test.YtffceodbadedjaaRRel
import Derived.Test.YtffceodbadedjaaRows
import Derived.WalkKit
import Derived.ProofKit
import Derived.OpenShut
set_option linter.unusedSimpArgs false
set_option linter.unusedVariables false
namespace Go.Proofs.Ytffceodbadedjaa.floatsAll
open Go.Proofs.Ytffceodbadedjaa
open Go.ChangeShapes Go.WideShapes Go.ChangeAt Go.RowKit
open Go.ChangeMaps (open_string shut_string)
set_option linter.unusedVariables false

theorem own : ownKnob Try.prog.godebug = none := by kernel_rfl


/-- A counter of sizes. -/
def Bts (v : Value) : Prop := ∃ n : Nat, (n = 32 ∨ n = 64 ∨ n = 96) ∧ v = .int .i64 n
/-- A counter from lo to hi. -/
def Cnt (lo hi : Nat) (v : Value) : Prop := ∃ k : Nat, lo ≤ k ∧ k ≤ hi ∧ v = .int .i64 k
theorem bts_mk {v : Value} (n : Nat) (h : n = 32 ∨ n = 64 ∨ n = 96) (hv : v = .int .i64 (n : Int)) : Bts v := ⟨n, h, hv⟩
theorem cnt_mk {lo hi : Nat} {v : Value} (k : Nat) (h1 : lo ≤ k) (h2 : k ≤ hi) (hv : v = .int .i64 (k : Int)) : Cnt lo hi v := ⟨k, h1, h2, hv⟩

theorem wrap_one (k : Nat) (h : k ≤ 9) : wrap64 ((k : Int) + 1) = ((k + 1 : Nat) : Int) := by unfold wrap64; omega
theorem wrap_32 (n : Nat) (h : n ≤ 64) : wrap64 ((n : Int) + 32) = ((n + 32 : Nat) : Int) := by unfold wrap64; omega
theorem cnt_step (t : Nat) (ht : t ≤ 10) (k : Nat) (h1 : 1 ≤ k) (h2 : k < t) : Cnt 1 t (.int .i64 (wrap64 ((k : Int) + 1))) := by
  rw [wrap_one k (by omega)]; exact ⟨k + 1, by omega, by omega, rfl⟩
theorem cnt_less (k : Nat) (h2 : k ≤ 9) : 64 - (intOf (.int .i64 (wrap64 ((k : Int) + 1)))).toNat < 64 - (intOf (.int .i64 (k : Int))).toNat := by
  rw [wrap_one k h2]
  show 64 - ((k + 1 : Nat) : Int).toNat < 64 - (k : Int).toNat
  rw [Int.toNat_natCast, Int.toNat_natCast]; omega
theorem bts_step (n : Nat) (h : n = 32 ∨ n = 64) : Bts (.int .i64 (wrap64 ((n : Int) + 32))) := by
  rw [wrap_32 n (by omega)]; exact ⟨n + 32, by omega, rfl⟩
theorem bts_less (n : Nat) (h : n = 32 ∨ n = 64) : 128 - (intOf (.int .i64 (wrap64 ((n : Int) + 32)))).toNat < 128 - (intOf (.int .i64 (n : Int))).toNat := by
  rw [wrap_32 n (by omega)]
  show 128 - ((n + 32 : Nat) : Int).toNat < 128 - (n : Int).toNat
  rw [Int.toNat_natCast, Int.toNat_natCast]; omega

theorem agree_bin (n : Nat) (hn : n = 32 ∨ n = 64) (k : Nat) (h1 : 1 ≤ k) (h2 : k < 10) (a b : Nat) (ha : a < 18446744073709551616) (hb : b < 18446744073709551616) :
    ∃ V : Nat, (∀ W, Hid (Calls Try.prog 17 #[.int .i64 n, .int .i64 k, .int .u64 a, .int .u64 b] W fun e w' => e = .returned (.tuple #[.int .u64 (V : Int), .int .i64 0]) ∧ Below W.heap.size W w')) ∧
      (∀ W, Hid (Calls Try.prog 18 #[.int .i64 n, .int .i64 k, .int .u64 a, .int .u64 b] W fun e w' => e = .returned (.tuple #[.int .u64 (V : Int), .int .i64 0]) ∧ Below W.heap.size W w')) := by
  have hk : k = 1 ∨ k = 2 ∨ k = 3 ∨ k = 4 ∨ k = 5 ∨ k = 6 ∨ k = 7 ∨ k = 8 ∨ k = 9 := by omega
  rcases hn with rfl | rfl <;> rcases hk with rfl | rfl | rfl | rfl | rfl | rfl | rfl | rfl | rfl
  · exact ⟨_, fun W => Bin_32_1 a b ha hb W, fun W => RBin_32_1 a b ha hb W⟩
  · exact ⟨_, fun W => Bin_32_2 a b ha hb W, fun W => RBin_32_2 a b ha hb W⟩
  · exact ⟨_, fun W => Bin_32_3 a b ha hb W, fun W => RBin_32_3 a b ha hb W⟩
  · exact ⟨_, fun W => Bin_32_4 a b ha hb W, fun W => RBin_32_4 a b ha hb W⟩
  · exact ⟨_, fun W => Bin_32_5 a b ha hb W, fun W => RBin_32_5 a b ha hb W⟩
  · exact ⟨_, fun W => Bin_32_6 a b ha hb W, fun W => RBin_32_6 a b ha hb W⟩
  · exact ⟨_, fun W => Bin_32_7 a b ha hb W, fun W => RBin_32_7 a b ha hb W⟩
  · exact ⟨_, fun W => Bin_32_8 a b ha hb W, fun W => RBin_32_8 a b ha hb W⟩
  · exact ⟨_, fun W => Bin_32_9 a b ha hb W, fun W => RBin_32_9 a b ha hb W⟩
  · exact ⟨_, fun W => Bin_64_1 a b ha hb W, fun W => RBin_64_1 a b ha hb W⟩
  · exact ⟨_, fun W => Bin_64_2 a b ha hb W, fun W => RBin_64_2 a b ha hb W⟩
  · exact ⟨_, fun W => Bin_64_3 a b ha hb W, fun W => RBin_64_3 a b ha hb W⟩
  · exact ⟨_, fun W => Bin_64_4 a b ha hb W, fun W => RBin_64_4 a b ha hb W⟩
  · exact ⟨_, fun W => Bin_64_5 a b ha hb W, fun W => RBin_64_5 a b ha hb W⟩
  · exact ⟨_, fun W => Bin_64_6 a b ha hb W, fun W => RBin_64_6 a b ha hb W⟩
  · exact ⟨_, fun W => Bin_64_7 a b ha hb W, fun W => RBin_64_7 a b ha hb W⟩
  · exact ⟨_, fun W => Bin_64_8 a b ha hb W, fun W => RBin_64_8 a b ha hb W⟩
  · exact ⟨_, fun W => Bin_64_9 a b ha hb W, fun W => RBin_64_9 a b ha hb W⟩

theorem agree_un (n : Nat) (hn : n = 32 ∨ n = 64) (k : Nat) (h1 : 1 ≤ k) (h2 : k < 8) (a b : Nat) (ha : a < 18446744073709551616) (hb : b < 18446744073709551616) :
    ∃ V : Nat, (∀ W, Hid (Calls Try.prog 23 #[.int .i64 n, .int .i64 k, .int .u64 a] W fun e w' => e = .returned (.tuple #[.int .u64 (V : Int), .int .i64 0]) ∧ Below W.heap.size W w')) ∧
      (∀ W, Hid (Calls Try.prog 24 #[.int .i64 n, .int .i64 k, .int .u64 a] W fun e w' => e = .returned (.tuple #[.int .u64 (V : Int), .int .i64 0]) ∧ Below W.heap.size W w')) := by
  have hk : k = 1 ∨ k = 2 ∨ k = 3 ∨ k = 4 ∨ k = 5 ∨ k = 6 ∨ k = 7 := by omega
  rcases hn with rfl | rfl <;> rcases hk with rfl | rfl | rfl | rfl | rfl | rfl | rfl
  · exact ⟨_, fun W => Un_32_1 a ha W, fun W => RUn_32_1 a ha W⟩
  · exact ⟨_, fun W => Un_32_2 a ha W, fun W => RUn_32_2 a ha W⟩
  · exact ⟨_, fun W => Un_32_3 a ha W, fun W => RUn_32_3 a ha W⟩
  · exact ⟨_, fun W => Un_32_4 a ha W, fun W => RUn_32_4 a ha W⟩
  · exact ⟨_, fun W => Un_32_5 a ha W, fun W => RUn_32_5 a ha W⟩
  · exact ⟨_, fun W => Un_32_6 a ha W, fun W => RUn_32_6 a ha W⟩
  · exact ⟨_, fun W => Un_32_7 a ha W, fun W => RUn_32_7 a ha W⟩
  · exact ⟨_, fun W => Un_64_1 a ha W, fun W => RUn_64_1 a ha W⟩
  · exact ⟨_, fun W => Un_64_2 a ha W, fun W => RUn_64_2 a ha W⟩
  · exact ⟨_, fun W => Un_64_3 a ha W, fun W => RUn_64_3 a ha W⟩
  · exact ⟨_, fun W => Un_64_4 a ha W, fun W => RUn_64_4 a ha W⟩
  · exact ⟨_, fun W => Un_64_5 a ha W, fun W => RUn_64_5 a ha W⟩
  · exact ⟨_, fun W => Un_64_6 a ha W, fun W => RUn_64_6 a ha W⟩
  · exact ⟨_, fun W => Un_64_7 a ha W, fun W => RUn_64_7 a ha W⟩

theorem agree_rel (n : Nat) (hn : n = 32 ∨ n = 64) (k : Nat) (h1 : 1 ≤ k) (h2 : k < 7) (a b : Nat) (ha : a < 18446744073709551616) (hb : b < 18446744073709551616) :
    ∃ V : Bool, (∀ W, Hid (Calls Try.prog 25 #[.int .i64 n, .int .i64 k, .int .u64 a, .int .u64 b] W fun e w' => e = .returned (.tuple #[.bool V, .int .i64 0]) ∧ Below W.heap.size W w')) ∧
      (∀ W, Hid (Calls Try.prog 26 #[.int .i64 n, .int .i64 k, .int .u64 a, .int .u64 b] W fun e w' => e = .returned (.tuple #[.bool V, .int .i64 0]) ∧ Below W.heap.size W w')) := by
  have hk : k = 1 ∨ k = 2 ∨ k = 3 ∨ k = 4 ∨ k = 5 ∨ k = 6 := by omega
  rcases hn with rfl | rfl
  · exact ⟨_, fun W => Rel_32 k hk a b ha hb W, fun W => RRel_32 k hk a b ha hb W⟩
  · exact ⟨_, fun W => Rel_64 k hk a b ha hb W, fun W => RRel_64 k hk a b ha hb W⟩

set_option maxHeartbeats 12800000 in
set_option maxRecDepth 100000 in
theorem walk_ok (a b : Nat) (ha : a < 18446744073709551616) (hb : b < 18446744073709551616) (w : World) :
    Calls Try.prog 4 #[.int .u64 a, .int .u64 b] w fun e w' => e = .returned (.bool true) ∧ Below w.heap.size w w' := by
  have HA := fun W => hid (awake_any W)
  have HO_ := hid (fun (n : Nat) (hn : n = 32 ∨ n = 64) (k : Nat) (h1 : 1 ≤ k) (h2 : k < 10) => agree_bin n hn k h1 h2 a b ha hb)
  have HU_ := hid (fun (n : Nat) (hn : n = 32 ∨ n = 64) (k : Nat) (h1 : 1 ≤ k) (h2 : k < 8) => agree_un n hn k h1 h2 a b ha hb)
  have HR_ := hid (fun (n : Nat) (hn : n = 32 ∨ n = 64) (k : Nat) (h1 : 1 ≤ k) (h2 : k < 7) => agree_rel n hn k h1 h2 a b ha hb)
  clear ha hb
  go_enter Try.func4, Try.ntmps4
  go_wp2_with (go_at_call 16; refine (HA _).out.mono ?_; rintro e w1 ⟨rfl, hb1⟩)
  go_loopw [6] (fun v wr => Bts v ∧ Below w.heap.size w wr) (fun v _ => 128 - (intOf v).toNat)
  case atStart => exact ⟨bts_mk 32 (by decide) rfl, hb1⟩
  case round =>
    obtain ⟨⟨n, hn, rfl⟩, hB⟩ := hrel
    have hor : (n = 32 ∨ n = 64) ∨ n = 96 := by omega
    rcases hor with hn2 | rfl
    · have hd64 : decide ((n : Int) ≤ 64) = true := decide_eq_true (by omega)
      have hd64n : decide (n ≤ 64) = true := decide_eq_true (by omega)
      have HN := hid hn2
      have HB := hid hB
      clear hn hn2 hB
      go_wp2
      go_loopw [7] (fun v wr2 => Cnt 1 10 v ∧ Below w.heap.size w wr2) (fun v _ => 64 - (intOf v).toNat)
      case atStart => exact ⟨cnt_mk 1 (by decide) (by decide) rfl, HB.out⟩
      case round =>
        rename_i wr2 _
        obtain ⟨⟨k, hk1, hk2, rfl⟩, hB2⟩ := hrel
        by_cases hlt : k < 10
        · obtain ⟨V, HP, HR⟩ := HO_.out n HN.out k hk1 hlt
          have HB2 := hid hB2
          have HK := hid (And.intro hk1 hlt)
          have hd : decide ((k : Int) ≤ 9) = true := decide_eq_true (by omega)
          have hdn : decide (k ≤ 9) = true := decide_eq_true (by omega)
          clear hB2 hk1 hk2 hlt
          go_wp2_with (first
            | (go_at_call 17; ((with_reducible refine (HP _).out.mono ?_); rintro e w2 ⟨rfl, hb2⟩; replace HB2 := hid (bnext HB2.out hb2); clear hb2))
            | (go_at_call 18; ((with_reducible refine (HR _).out.mono ?_); rintro e w3 ⟨rfl, hb3⟩; replace HB2 := hid (bnext HB2.out hb3); clear hb3)))
          go_roundw
          case rel => exact ⟨cnt_step 10 (by decide) k HK.out.1 HK.out.2, HB2.out⟩
          case measure => exact cnt_less k (by have := HK.out.2; omega)
        · have HB3 := hid hB2
          have hd : decide ((k : Int) ≤ 9) = false := decide_eq_false (by omega)
          have hdn : decide (k ≤ 9) = false := decide_eq_false (by omega)
          clear hB2 hk1 hk2 hlt HB
          have HB := HB3
          clear HB3
          go_wp2
          go_loopw [12] (fun v wr2 => Cnt 1 8 v ∧ Below w.heap.size w wr2) (fun v _ => 64 - (intOf v).toNat)
          case atStart => exact ⟨cnt_mk 1 (by decide) (by decide) rfl, HB.out⟩
          case round =>
            rename_i wr2 _
            obtain ⟨⟨k, hk1, hk2, rfl⟩, hB2⟩ := hrel
            by_cases hlt : k < 8
            · obtain ⟨V, HP, HR⟩ := HU_.out n HN.out k hk1 hlt
              have HB2 := hid hB2
              have HK := hid (And.intro hk1 hlt)
              have hd : decide ((k : Int) ≤ 7) = true := decide_eq_true (by omega)
              have hdn : decide (k ≤ 7) = true := decide_eq_true (by omega)
              clear hB2 hk1 hk2 hlt
              go_wp2_with (first
                | (go_at_call 23; ((with_reducible refine (HP _).out.mono ?_); rintro e w2 ⟨rfl, hb2⟩; replace HB2 := hid (bnext HB2.out hb2); clear hb2))
                | (go_at_call 24; ((with_reducible refine (HR _).out.mono ?_); rintro e w3 ⟨rfl, hb3⟩; replace HB2 := hid (bnext HB2.out hb3); clear hb3)))
              go_roundw
              case rel => exact ⟨cnt_step 8 (by decide) k HK.out.1 HK.out.2, HB2.out⟩
              case measure => exact cnt_less k (by have := HK.out.2; omega)
            · have HB3 := hid hB2
              have hd : decide ((k : Int) ≤ 7) = false := decide_eq_false (by omega)
              have hdn : decide (k ≤ 7) = false := decide_eq_false (by omega)
              clear hB2 hk1 hk2 hlt HB
              have HB := HB3
              clear HB3
              go_wp2
              go_loopw [17] (fun v wr2 => Cnt 1 7 v ∧ Below w.heap.size w wr2) (fun v _ => 64 - (intOf v).toNat)
              case atStart => exact ⟨cnt_mk 1 (by decide) (by decide) rfl, HB.out⟩
              case round =>
                rename_i wr2 _
                obtain ⟨⟨k, hk1, hk2, rfl⟩, hB2⟩ := hrel
                by_cases hlt : k < 7
                · obtain ⟨V, HP, HR⟩ := HR_.out n HN.out k hk1 hlt
                  have HB2 := hid hB2
                  have HK := hid (And.intro hk1 hlt)
                  have hd : decide ((k : Int) ≤ 6) = true := decide_eq_true (by omega)
                  have hdn : decide (k ≤ 6) = true := decide_eq_true (by omega)
                  clear hB2 hk1 hk2 hlt
                  go_wp2_with (first
                    | (go_at_call 25; ((with_reducible refine (HP _).out.mono ?_); rintro e w2 ⟨rfl, hb2⟩; replace HB2 := hid (bnext HB2.out hb2); clear hb2))
                    | (go_at_call 26; ((with_reducible refine (HR _).out.mono ?_); rintro e w3 ⟨rfl, hb3⟩; replace HB2 := hid (bnext HB2.out hb3); clear hb3)))
                  go_roundw
                  case rel => exact ⟨cnt_step 7 (by decide) k HK.out.1 HK.out.2, HB2.out⟩
                  case measure => exact cnt_less k (by have := HK.out.2; omega)
                · have HB3 := hid hB2
                  have hd : decide ((k : Int) ≤ 6) = false := decide_eq_false (by omega)
                  have hdn : decide (k ≤ 6) = false := decide_eq_false (by omega)
                  clear hB2 hk1 hk2 hlt HB
                  have HB := HB3
                  clear HB3
                  go_wp2
                  go_roundw
                  case rel => exact ⟨bts_step n HN.out, HB.out⟩
                  case measure => exact bts_less n HN.out
    · have HB := hid hB
      clear hB
      go_wp2
      go_ret
      exact ⟨rfl, HB.out⟩

theorem walk (a0 : Int) (a1 : Int) (w0 : (Lit.int .u64 a0).wf = true) (w1 : (Lit.int .u64 a1).wf = true) (w : World) :
    Calls Try.prog 4 #[.int .u64 a0, .int .u64 a1] w fun e w' => e = .returned (.bool true) ∧ Below w.heap.size w w' := by
  obtain ⟨a, rfl, ha⟩ := wf_nat w0
  obtain ⟨b, rfl, hb⟩ := wf_nat w1
  exact walk_ok a b ha hb w

/-! ### The row's step -/
set_option maxRecDepth 100000 in
theorem lifted (os : Os) (started : os.Started) (H : Type) (enc : TypeId × Value → H) :
    ReturnsInHanded {} Try.checked os 4 .any (Rows.floatsAllSpec.pre6 enc Try.prog Try.f4 Rows.floatsAllRow.domain false) (Rows.floatsAllSpec.post enc Try.prog Try.f4 false true false false) := by
  refine returnsInHanded_of_change (C := Try.checked) own started (by kernel_rfl) Try.func4
    (ChangeSpec.witness6 (enc := enc) (C := Try.checked) false ⟨#[], #[.int .u64 0, .int .u64 0], []⟩ 8 (by kernel_rfl) (by kernel_rfl) (by kernel_rfl) (by kernel_rfl)) ?_
  intro W base args ds gs before hval0 hW hcnd _
  have hval : ∀ (j : Nat) t v, Try.f4.params[j]? = some t → args[j]? = some v → Value.okWide Try.prog W .any base t v := hval0
  have hW' := hW
  obtain ⟨p, q, hA0, hV, rfl, hfz, hnd⟩ := hW
  have hA : DataW.TrodAll enc Try.prog W 0 (fun _ => true) true Try.f4.params.toList args.toList ds p := hA0
  rw [Try.params4] at hA hval
  obtain ⟨v0, vs0, d0, ds0, p0, q0, hargs, rfl, rfl, h0, r0⟩ := trodAll_cons hA
  obtain ⟨v1, vs1, d1, ds1, p1, q1, rfl, rfl, rfl, h1, r1⟩ := trodAll_cons r0
  obtain ⟨rfl, rfl, rfl⟩ := trodAll_nil r1
  obtain rfl : args = #[v0, v1] := by cases args; simp_all
  obtain ⟨rfl, rfl⟩ := trodVars_none hV
  obtain ⟨a0, rfl, rfl, rfl, w0⟩ := open_int Try.underlying22 (hval 0 22 v0 rfl rfl) h0
  obtain ⟨a1, rfl, rfl, rfl, w1⟩ := open_int Try.underlying22 (hval 1 22 v1 rfl rfl) h1
  clear hA0 hval0
  simp only [List.append_nil] at hW'
  refine (walk a0 a1 w0 w1 W).mono fun e W' ⟨he, hg⟩ => ?_
  subst he
  exact ⟨_, rfl, _, _, _, [], [], [], hW', trodAll_mk1 (shut_bool Try.underlying4 _), (trodAll_cons_mk (shut_int Try.underlying22 w0) (trodAll_cons_mk (shut_int Try.underlying22 w1) trodAll_mk0)), rfl, hg.frame _, fun h => by cases h⟩

theorem over : Rows.floatsAllRow.holds Try.pinned (OpenSpec.ofChange Rows.floatsAllSpec) :=
  OpenClaim.holds_of_wide 4 Try.f4 rfl rfl rfl rfl rfl rfl rfl ⟨rfl, rfl, rfl, rfl, rfl⟩ rfl rfl rfl rfl rfl (by kernel_rfl) Try.func4 (by kernel_rfl)
    (of_decide_eq_true (by kernel_rfl)) (by unfold Func.isWrapper; first | (rw [if_pos (by decide +kernel)]; kernel_rfl) | (rw [if_neg (by decide +kernel)]; exact ⟨rfl, rfl⟩))
    (fun os started H enc _ => lifted os started H enc)

/-- The statement. -/
theorem proved : Rows.FloatsAllSaid :=
  over
#print axioms proved
end Go.Proofs.Ytffceodbadedjaa.floatsAll
