/-
  The contract of the program's Find: any text. Condition: the tables hold what their text lays.
-/
import Derived.Test.YtnechalhgdmgiaaDoorOpsAll0
set_option linter.unusedSimpArgs false
set_option linter.unusedVariables false
namespace Go.Proofs.YtnechalhgdmgiaaDoor
open Go.RowKit

/-- None of the first n numbers has the name. -/
def NoneOf (s : ByteArray) (n : Nat) : Prop := ∀ m op, m < n → rangeOps[m]? = some op → (lineL op).1 ≠ s
theorem not_zero (s : ByteArray) : NoneOf s 0 := fun m op h => by omega
theorem not_succ {s : ByteArray} {n : Nat} {op : Int} (h : NoneOf s n) (hop : rangeOps[n]? = some op) (hn : (lineL op).1 ≠ s) : NoneOf s (n + 1) := fun m o hm ho => by
  by_cases e : m = n
  · subst e; rw [hop] at ho; obtain rfl := Option.some.inj ho; exact hn
  · exact h m o (by omega) ho

def FindPost (s : ByteArray) (w : World) (e : Ending) (w' : World) : Prop :=
  ((∃ n op, rangeOps[n]? = some op ∧ NoneOf s n ∧ (lineL op).1 = s ∧ e = .returned (.tuple #[.int .i64 op, .bool true])) ∨ (NoneOf s 485 ∧ e = .returned (.tuple #[.int .i64 0, .bool false]))) ∧ Below w.heap.size w w'

theorem str_ne {a b : ByteArray} (h : ¬ a = b) : (a.toList == b.toList) = false := by
  rw [beq_eq_false_iff_ne, ByteArray.toList_eq, ByteArray.toList_eq]
  intro e
  apply h
  cases a; cases b
  simp only [ByteArray.mk.injEq]
  exact Array.toList_inj.1 e

theorem find_empty (w : World) : Calls Tryd.prog 20 #[.string ⟨#[]⟩] w fun e w' => e = .returned (.tuple #[.int .i64 0, .bool false]) ∧ Below w.heap.size w w' := by
  go_enter Tryd.func20, Tryd.ntmps20
  go_wp2
  go_ret2
  exact ⟨rfl, Below.refl _ _⟩

set_option maxHeartbeats 4000000 in
set_option maxRecDepth 100000 in
theorem Find_says (s : ByteArray) (hs : s.toList.isEmpty = false) (w : World) (hg : Glob w) : Calls Tryd.prog 20 #[.string s] w (FindPost s w) := by
  have HG := hid hg
  clear hg
  go_enter Tryd.func20, Tryd.ntmps20
  go_wp2
  go_loopw [8] (fun vi wr => ∃ i : Int, (i = 0 ∨ i = 1 ∨ i = 2 ∨ i = 3) ∧ vi = .int .i64 i ∧ Hid (NoneOf s (offs i) ∧ Below w.heap.size w wr)) (fun vi _ => 3 - (intOf vi).toNat)
  case atStart => exact ⟨0, by decide, rfl, not_zero s, Below.refl _ _⟩
  case round =>
    obtain ⟨i, hi, rfl, HR⟩ := hrel
    rcases hi with rfl | rfl | rfl | rfl
    · have HW := hid (HG.out.below HR.out.2 HG.out.size)
      have c0 := (HW.out.c4 0 (by omega))
      have c1 := (HW.out.c4 1 (by omega))
      simp [glob4] at c0 c1
      go_wp2_with fail
      clear c0 c1
      go_loopw [5] (fun vo2 wr2 => ∃ (x : Int) (k : Nat), Hid (k ≤ 211 ∧ x = (k : Int)) ∧ vo2 = .int .i64 x ∧ Hid (NoneOf s k ∧ Below w.heap.size w wr2)) (fun vo2 _ => (211 - intOf vo2).toNat)
      case atStart => exact ⟨0, 0, ⟨by omega, by rfl⟩, rfl, HR.out⟩
      case round =>
        obtain ⟨x, k, hxk, rfl, HR2⟩ := hrel
        have HW2 := hid (HG.out.below HR2.out.2 HG.out.size)
        have c1 := (HW2.out.c4 1 (by omega))
        simp [glob4] at c1
        have hx0 : 0 ≤ x := by have := hxk.out; omega
        by_cases hlt : x < 211
        · have hop := hid (show rangeOps[k]? = some x by have := hxk.out; rw [this.2]; exact range_at0 k (by omega))
          have hk1 := hid (show k + 1 ≤ 211 by have := hxk.out; omega)
          have HK := fun W => hid (Name_says x W)
          obtain ⟨t, ht⟩ : ∃ t, t = (lineL x).1 := ⟨_, rfl⟩
          rw [← ht] at HK
          have HT := hid ht
          clear ht
          by_cases hts : t = s
          · subst hts
            go_wp2_with (go_at_call 12; refine (HK _).out.mono ?_; rintro e w1 ⟨rfl, hb⟩)
            go_ret2
            exact ⟨.inl ⟨_, x, hop.out, HR2.out.1, HT.out.symm, rfl⟩, HR2.out.2.trans (hb.mono HR2.out.2.size)⟩
          · have hne := str_ne hts
            have HTS := hid hts
            clear hts
            go_wp2_with (go_at_call 12; refine (HK _).out.mono ?_; rintro e w1 ⟨rfl, hb⟩)
            go_roundw
            case rel => exact ⟨x + 1, k + 1, ⟨hk1.out, by have := hxk.out; omega⟩, by go_num, not_succ HR2.out.1 hop.out (by rw [← HT.out]; exact HTS.out), HR2.out.2.trans (hb.mono HR2.out.2.size)⟩
            case measure => simp [intOf]; omega
        · obtain rfl : k = 211 := by have := hxk.out; omega
          go_wp2_with fail
          go_roundw
          case rel => exact ⟨1, by decide, by go_num, HR2.out⟩
          case measure => simp [intOf]
    · have HW := hid (HG.out.below HR.out.2 HG.out.size)
      have c0 := (HW.out.c4 2 (by omega))
      have c1 := (HW.out.c4 3 (by omega))
      simp [glob4] at c0 c1
      go_wp2_with fail
      clear c0 c1
      go_loopw [5] (fun vo2 wr2 => ∃ (x : Int) (k : Nat), Hid (k ≤ 18 ∧ x = (64512 + (k : Int))) ∧ vo2 = .int .i64 x ∧ Hid (NoneOf s (211 + k) ∧ Below w.heap.size w wr2)) (fun vo2 _ => (64530 - intOf vo2).toNat)
      case atStart => exact ⟨64512, 0, ⟨by omega, by rfl⟩, rfl, HR.out⟩
      case round =>
        obtain ⟨x, k, hxk, rfl, HR2⟩ := hrel
        have HW2 := hid (HG.out.below HR2.out.2 HG.out.size)
        have c1 := (HW2.out.c4 3 (by omega))
        simp [glob4] at c1
        have hx0 : 64512 ≤ x := by have := hxk.out; omega
        by_cases hlt : x < 64530
        · have hop := hid (show rangeOps[(211 + k)]? = some x by have := hxk.out; rw [this.2]; exact range_at1 k (by omega))
          have hk1 := hid (show k + 1 ≤ 18 by have := hxk.out; omega)
          have HK := fun W => hid (Name_says x W)
          obtain ⟨t, ht⟩ : ∃ t, t = (lineL x).1 := ⟨_, rfl⟩
          rw [← ht] at HK
          have HT := hid ht
          clear ht
          by_cases hts : t = s
          · subst hts
            go_wp2_with (go_at_call 12; refine (HK _).out.mono ?_; rintro e w1 ⟨rfl, hb⟩)
            go_ret2
            exact ⟨.inl ⟨_, x, hop.out, HR2.out.1, HT.out.symm, rfl⟩, HR2.out.2.trans (hb.mono HR2.out.2.size)⟩
          · have hne := str_ne hts
            have HTS := hid hts
            clear hts
            go_wp2_with (go_at_call 12; refine (HK _).out.mono ?_; rintro e w1 ⟨rfl, hb⟩)
            go_roundw
            case rel => exact ⟨x + 1, k + 1, ⟨hk1.out, by have := hxk.out; omega⟩, by go_num, not_succ HR2.out.1 hop.out (by rw [← HT.out]; exact HTS.out), HR2.out.2.trans (hb.mono HR2.out.2.size)⟩
            case measure => simp [intOf]; omega
        · obtain rfl : k = 18 := by have := hxk.out; omega
          go_wp2_with fail
          go_roundw
          case rel => exact ⟨2, by decide, by go_num, HR2.out⟩
          case measure => simp [intOf]
    · have HW := hid (HG.out.below HR.out.2 HG.out.size)
      have c0 := (HW.out.c4 4 (by omega))
      have c1 := (HW.out.c4 5 (by omega))
      simp [glob4] at c0 c1
      go_wp2_with fail
      clear c0 c1
      go_loopw [5] (fun vo2 wr2 => ∃ (x : Int) (k : Nat), Hid (k ≤ 256 ∧ x = (64768 + (k : Int))) ∧ vo2 = .int .i64 x ∧ Hid (NoneOf s (229 + k) ∧ Below w.heap.size w wr2)) (fun vo2 _ => (65024 - intOf vo2).toNat)
      case atStart => exact ⟨64768, 0, ⟨by omega, by rfl⟩, rfl, HR.out⟩
      case round =>
        obtain ⟨x, k, hxk, rfl, HR2⟩ := hrel
        have HW2 := hid (HG.out.below HR2.out.2 HG.out.size)
        have c1 := (HW2.out.c4 5 (by omega))
        simp [glob4] at c1
        have hx0 : 64768 ≤ x := by have := hxk.out; omega
        by_cases hlt : x < 65024
        · have hop := hid (show rangeOps[(229 + k)]? = some x by have := hxk.out; rw [this.2]; exact range_at2 k (by omega))
          have hk1 := hid (show k + 1 ≤ 256 by have := hxk.out; omega)
          have HK := fun W => hid (Name_says x W)
          obtain ⟨t, ht⟩ : ∃ t, t = (lineL x).1 := ⟨_, rfl⟩
          rw [← ht] at HK
          have HT := hid ht
          clear ht
          by_cases hts : t = s
          · subst hts
            go_wp2_with (go_at_call 12; refine (HK _).out.mono ?_; rintro e w1 ⟨rfl, hb⟩)
            go_ret2
            exact ⟨.inl ⟨_, x, hop.out, HR2.out.1, HT.out.symm, rfl⟩, HR2.out.2.trans (hb.mono HR2.out.2.size)⟩
          · have hne := str_ne hts
            have HTS := hid hts
            clear hts
            go_wp2_with (go_at_call 12; refine (HK _).out.mono ?_; rintro e w1 ⟨rfl, hb⟩)
            go_roundw
            case rel => exact ⟨x + 1, k + 1, ⟨hk1.out, by have := hxk.out; omega⟩, by go_num, not_succ HR2.out.1 hop.out (by rw [← HT.out]; exact HTS.out), HR2.out.2.trans (hb.mono HR2.out.2.size)⟩
            case measure => simp [intOf]; omega
        · obtain rfl : k = 256 := by have := hxk.out; omega
          go_wp2_with fail
          go_roundw
          case rel => exact ⟨3, by decide, by go_num, HR2.out⟩
          case measure => simp [intOf]
    · go_wp2
      go_ret2
      exact ⟨.inr ⟨HR.out.1, rfl⟩, HR.out.2⟩
end Go.Proofs.YtnechalhgdmgiaaDoor
