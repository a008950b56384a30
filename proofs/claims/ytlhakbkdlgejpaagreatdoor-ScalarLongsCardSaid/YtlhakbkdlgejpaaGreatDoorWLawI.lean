/-
  The walks of the laws ScalarWords and ScalarLongs. Condition: the tables hold what their text lays.
-/
import Derived.Test.YtlhakbkdlgejpaaGreatDoorB10
import Derived.Test.YtlhakbkdlgejpaaGreatDoorI10
set_option linter.unusedSimpArgs false
set_option linter.unusedVariables false
set_option maxRecDepth 100000
namespace Go.Proofs.YtlhakbkdlgejpaaGreatDoor.Sc
open Go.RowKit

/-- All instructions of a row of numbers are good. -/
noncomputable def chkW (op : Int) : Bool := if op < 106 then iU32B op (op - 102) else iB32B op (op - 105)
theorem words_all : ((List.range 18).all fun k => chkW (103 + (k : Int))) = true := by kernel_rfl
theorem words_good (op : Int) (h0 : 103 ≤ op) (h1 : op ≤ 120) (a b : Nat) (ha : a < 18446744073709551616) (hb : b < 18446744073709551616) : Good op a b := by
  obtain ⟨k, hk, rfl⟩ : ∃ k : Nat, k < 18 ∧ op = 103 + (k : Int) := ⟨(op - 103).toNat, by omega, by omega⟩
  have h := List.all_eq_true.1 words_all k (List.mem_range.2 hk)
  unfold chkW at h
  split at h
  · exact iU32_good _ _ rfl h0 (by omega) h a b ha hb
  · exact iB32_good _ _ rfl (by omega) (by omega) h a b ha hb
noncomputable def chkL (op : Int) : Bool := if op < 124 then iU64B op (op - 120) else iB64B op (op - 123)
theorem longs_all : ((List.range 18).all fun k => chkL (121 + (k : Int))) = true := by kernel_rfl
theorem longs_good (op : Int) (h0 : 121 ≤ op) (h1 : op ≤ 138) (a b : Nat) (ha : a < 18446744073709551616) (hb : b < 18446744073709551616) : Good op a b := by
  obtain ⟨k, hk, rfl⟩ : ∃ k : Nat, k < 18 ∧ op = 121 + (k : Int) := ⟨(op - 121).toNat, by omega, by omega⟩
  have h := List.all_eq_true.1 longs_all k (List.mem_range.2 hk)
  unfold chkL at h
  split at h
  · exact iU64_good _ _ rfl h0 (by omega) h a b ha hb
  · exact iB64_good _ _ rfl (by omega) (by omega) h a b ha hb
set_option maxHeartbeats 4000000 in
theorem law_Words (a b : Nat) (ha : a < 18446744073709551616) (hb : b < 18446744073709551616) (w : World) (hg : GlobF w) : Calls Tryz.prog 14 #[.int .u64 a, .int .u64 b] w fun e w' => e = .returned (.bool true) ∧ Below w.heap.size w w' := by
  have HA := fun W h => hid (awake_says W h)
  have HS := fun W h => hid (some_says 103 120 (by decide) (by decide) (by decide) a b ha hb (fun op h0 h1 => words_good op h0 h1 a b ha hb) W h)
  have HG := hid hg
  clear hg ha hb
  go_enter Tryz.func14, Tryz.ntmps14
  go_wp2_with (first
    | (go_at_call 22; (with_reducible refine (HA _ HG.out).out.mono ?_); rintro e w1 ⟨rfl, hb1⟩; have HB1 := hid hb1; clear hb1)
    | (go_at_call 27; (with_reducible refine (HS _ (HG.out.next HB1.out)).out.mono ?_); rintro e w2 ⟨rfl, hb2⟩; have HB2 := hid (HB1.out.trans (hb2.mono HB1.out.size)); clear hb2))
  go_ret
  exact ⟨rfl, HB2.out⟩
set_option maxHeartbeats 4000000 in
theorem law_Longs (a b : Nat) (ha : a < 18446744073709551616) (hb : b < 18446744073709551616) (w : World) (hg : GlobF w) : Calls Tryz.prog 15 #[.int .u64 a, .int .u64 b] w fun e w' => e = .returned (.bool true) ∧ Below w.heap.size w w' := by
  have HA := fun W h => hid (awake_says W h)
  have HS := fun W h => hid (some_says 121 138 (by decide) (by decide) (by decide) a b ha hb (fun op h0 h1 => longs_good op h0 h1 a b ha hb) W h)
  have HG := hid hg
  clear hg ha hb
  go_enter Tryz.func15, Tryz.ntmps15
  go_wp2_with (first
    | (go_at_call 22; (with_reducible refine (HA _ HG.out).out.mono ?_); rintro e w1 ⟨rfl, hb1⟩; have HB1 := hid hb1; clear hb1)
    | (go_at_call 27; (with_reducible refine (HS _ (HG.out.next HB1.out)).out.mono ?_); rintro e w2 ⟨rfl, hb2⟩; have HB2 := hid (HB1.out.trans (hb2.mono HB1.out.size)); clear hb2))
  go_ret
  exact ⟨rfl, HB2.out⟩
end Go.Proofs.YtlhakbkdlgejpaaGreatDoor.Sc
