/-
  FSmall2: merged (each text says what it holds where it lies in wip). No condition.
-/
import Derived.Test.YtlhakbkdlgejpaaGreatDoorF01
import Derived.Deep.RegionWith
set_option linter.unusedSimpArgs false
set_option linter.unusedVariables false
set_option maxRecDepth 100000
namespace Go.Proofs.YtlhakbkdlgejpaaGreatDoor.Fl
open Go.RowKit

theorem kindOf_four (INF s : Nat) : (kindOf INF s = 4) = (INF < s) := by
  unfold kindOf
  apply propext
  split
  · subst s; simp
  · split
    · simp; omega
    · split
      · subst s; simp
      · simp; omega

/-- How a word stands to others, if it is no NaN. -/
def rankOf (SB a : Nat) : Int := if SB ≤ a then -((a % SB : Nat) : Int) else ((a % SB : Nat) : Int)

theorem anyNaN_32 (a b : Nat) (ha : a < 4294967296) (hb : b < 4294967296) (w : World) : Calls Tryz.prog 186 #[.agg #[.int .i64 8, .int .i64 23], .int .u64 a, .int .u64 b] w fun e w' => e = .returned (.bool (decide (2139095040 < a % 2147483648 ∨ 2139095040 < b % 2147483648))) ∧ Below w.heap.size w w' := by
  have KA := fun w => hid (kind_32 a ha w)
  have KB := fun w => hid (kind_32 b hb w)
  have ea := kindOf_four 2139095040 (a % 2147483648)
  have eb := kindOf_four 2139095040 (b % 2147483648)
  obtain ⟨k, hk⟩ : ∃ k : Nat, k = kindOf 2139095040 (a % 2147483648) := ⟨_, rfl⟩
  obtain ⟨j, hj⟩ : ∃ j : Nat, j = kindOf 2139095040 (b % 2147483648) := ⟨_, rfl⟩
  rw [← hk] at KA ea
  rw [← hj] at KB eb
  simp only [← ea, ← eb]
  clear ea eb hk hj
  have h0 : Below w.heap.size w w := Below.refl _ _
  by_cases h : k = 4
  · subst h
    go_enter Tryz.func186, Tryz.ntmps186
    go_wp2_with (go_at_call 241; (with_reducible refine (KA _).out.mono ?_); rintro e w1 ⟨rfl, hb1⟩; have c0 := bkeep (a := ⟨w.heap.size, 0, none⟩) (v := .int .i64 8) (by simp) hb1; have c1 := bkeep (a := ⟨w.heap.size, 1, none⟩) (v := .int .i64 23) (by simp) hb1)
    go_ret
    exact ⟨by simp, bnext ((Below.refl _ _).alloc (Nat.le_refl _) _) hb1⟩
  · have e1 : ((k : Int) == 4) = false := by simp; omega
    by_cases h2 : j = 4
    · subst h2
      go_enter Tryz.func186, Tryz.ntmps186
      go_wp2_with (first
        | (go_at_call 241; ((with_reducible refine (KA _).out.mono ?_); rintro e w1 ⟨rfl, hb1⟩; have c0 := bkeep (a := ⟨w.heap.size, 0, none⟩) (v := .int .i64 8) (by simp) hb1; have c1 := bkeep (a := ⟨w.heap.size, 1, none⟩) (v := .int .i64 23) (by simp) hb1))
        | (go_at_call 241; ((with_reducible refine (KB _).out.mono ?_); rintro e w2 ⟨rfl, hb2⟩)))
      go_ret
      exact ⟨by simp, bnext (bnext ((Below.refl _ _).alloc (Nat.le_refl _) _) hb1) hb2⟩
    · have e2 : ((j : Int) == 4) = false := by simp; omega
      rw [show decide (k = 4 ∨ j = 4) = false by simp [h, h2]]
      clear h h2
      go_enter Tryz.func186, Tryz.ntmps186
      go_wp2_with (first
        | (go_at_call 241; ((with_reducible refine (KA _).out.mono ?_); rintro e w1 ⟨rfl, hb1⟩; have c0 := bkeep (a := ⟨w.heap.size, 0, none⟩) (v := .int .i64 8) (by simp) hb1; have c1 := bkeep (a := ⟨w.heap.size, 1, none⟩) (v := .int .i64 23) (by simp) hb1))
        | (go_at_call 241; ((with_reducible refine (KB _).out.mono ?_); rintro e w2 ⟨rfl, hb2⟩)))
      go_ret
      exact ⟨rfl, bnext (bnext ((Below.refl _ _).alloc (Nat.le_refl _) _) hb1) hb2⟩

theorem rank_32 (a : Nat) (ha : a < 4294967296) (w : World) : Calls Tryz.prog 187 #[.agg #[.int .i64 8, .int .i64 23], .int .u64 a] w fun e w' => e = .returned (.int .i64 (rankOf 2147483648 a)) ∧ Below w.heap.size w w' := by
  have HS := fun w => hid (size_32 a ha w)
  have HG := fun w => hid (sign_32 a ha w)
  have hr : rankOf 2147483648 a = if 2147483648 ≤ a then -((a % 2147483648 : Nat) : Int) else ((a % 2147483648 : Nat) : Int) := rfl
  rw [hr]; clear hr
  obtain ⟨s, hs⟩ : ∃ s : Nat, s = a % 2147483648 := ⟨_, rfl⟩
  rw [← hs] at HS ⊢
  have hs2 : s < 2147483648 := by omega
  clear hs
  by_cases h : 2147483648 ≤ a
  · rw [if_pos h] at HG ⊢
    clear h ha
    go_enter Tryz.func187, Tryz.ntmps187
    go_wp2_with (first
      | (go_at_call 182; ((with_reducible refine (HS _).out.mono ?_); rintro e w1 ⟨rfl, hb1⟩; have c0 := bkeep (a := ⟨w.heap.size, 0, none⟩) (v := .int .i64 8) (by simp) hb1; have c1 := bkeep (a := ⟨w.heap.size, 1, none⟩) (v := .int .i64 23) (by simp) hb1))
      | (go_at_call 189; ((with_reducible refine (HG _).out.mono ?_); rintro e w2 ⟨rfl, hb2⟩)))
    go_ret
    exact ⟨rfl, bnext (bnext ((Below.refl _ _).alloc (Nat.le_refl _) _) hb1) hb2⟩
  · rw [if_neg h] at HG ⊢
    clear h ha
    go_enter Tryz.func187, Tryz.ntmps187
    go_wp2_with (first
      | (go_at_call 182; ((with_reducible refine (HS _).out.mono ?_); rintro e w1 ⟨rfl, hb1⟩; have c0 := bkeep (a := ⟨w.heap.size, 0, none⟩) (v := .int .i64 8) (by simp) hb1; have c1 := bkeep (a := ⟨w.heap.size, 1, none⟩) (v := .int .i64 23) (by simp) hb1))
      | (go_at_call 189; ((with_reducible refine (HG _).out.mono ?_); rintro e w2 ⟨rfl, hb2⟩)))
    go_ret
    exact ⟨rfl, bnext (bnext ((Below.refl _ _).alloc (Nat.le_refl _) _) hb1) hb2⟩

set_option maxHeartbeats 1600000 in
theorem less_32 (a b : Nat) (ha : a < 4294967296) (hb : b < 4294967296) (w : World) : Calls Tryz.prog 190 #[.agg #[.int .i64 8, .int .i64 23], .int .u64 a, .int .u64 b] w fun e w' => e = .returned (.bool (!decide (2139095040 < a % 2147483648 ∨ 2139095040 < b % 2147483648) && decide (rankOf 2147483648 a < rankOf 2147483648 b))) ∧ Below w.heap.size w w' := by
  have HN := fun w => hid (anyNaN_32 a b ha hb w)
  have HA := fun w => hid (rank_32 a ha w)
  have HB := fun w => hid (rank_32 b hb w)
  obtain ⟨c, hc⟩ : ∃ c : Bool, c = decide (2139095040 < a % 2147483648 ∨ 2139095040 < b % 2147483648) := ⟨_, rfl⟩
  obtain ⟨x, hx⟩ : ∃ x : Int, x = rankOf 2147483648 a := ⟨_, rfl⟩
  obtain ⟨y, hy⟩ : ∃ y : Int, y = rankOf 2147483648 b := ⟨_, rfl⟩
  rw [← hc, ← hx, ← hy]
  rw [← hc] at HN
  rw [← hx] at HA
  rw [← hy] at HB
  clear hc hx hy ha hb
  cases c with
  | true =>
    go_enter Tryz.func190, Tryz.ntmps190
    go_wp2
    refine wp_region_held_drew (S := fun w' => w'.cell? ⟨w.heap.size, 0, none⟩ = some (.int .i64 8) ∧ w'.cell? ⟨w.heap.size, 1, none⟩ = some (.int .i64 23) ∧ Below w.heap.size w w') (by kernel_rfl) ⟨by simp, by simp, ((Below.refl _ _).alloc (Nat.le_refl _) _).drew⟩ (fun hHeld => ?_)
    refine wpAnyH_take (oi := ⟨_, _, _, _, _, _⟩) (i := 0) (v := .agg #[.int .i64 8, .int .i64 23]) rfl (by kernel_rfl) (by kernel_rfl) (by kernel_rfl) (fun _ _ _ h => h) (Or.inl ⟨by rfl, ?_⟩) (by assumption) ?_
    · (intro w hSw; (try dsimp only at hSw); go_simp; try (with_reducible rfl))
    try simp only [Act.put, List.setIfInBounds_toArray, List.set_cons_zero, List.set_cons_succ]
    refine wpAnyH_take (oi := ⟨_, _, _, _, _, _⟩) (i := 1) (v := .int .u64 a) rfl (by kernel_rfl) (by kernel_rfl) (by kernel_rfl) (fun _ _ _ h => h) (Or.inl ⟨by rfl, ?_⟩) (by assumption) ?_
    · (intro w hSw; (try dsimp only at hSw); go_simp; try (with_reducible rfl))
    try simp only [Act.put, List.setIfInBounds_toArray, List.set_cons_zero, List.set_cons_succ]
    refine wpAnyH_take (oi := ⟨_, _, _, _, _, _⟩) (i := 2) (v := .int .u64 b) rfl (by kernel_rfl) (by kernel_rfl) (by kernel_rfl) (fun _ _ _ h => h) (Or.inl ⟨by rfl, ?_⟩) (by assumption) ?_
    · (intro w hSw; (try dsimp only at hSw); go_simp; try (with_reducible rfl))
    try simp only [Act.put, List.setIfInBounds_toArray, List.set_cons_zero, List.set_cons_succ]
    refine wpAnyH_ready (rs := [3]) (by kernel_rfl) (by simp) ?_
    refine AllReadyH.cons (o := ⟨_, _, _, _, _, _⟩) rfl (fun K hK => ?_) AllReadyH.nil
    go_simp
    go_at_call 186
    (with_reducible refine (HN _).out.mono ?_)
    rintro e w1 ⟨rfl, hb⟩
    refine hK.out _ _ ?_ (fun hHeld => ?_)
    · go_split_ands; exact ⟨bkeep ‹_› hb, bkeep ‹_› hb, bnext ‹_› hb⟩
    clear hK K
    try simp only [Act.put, List.setIfInBounds_toArray, List.set_cons_zero, List.set_cons_succ]
    refine wpAnyH_take (oi := ⟨_, _, _, _, _, _⟩) (i := 4) (v := .bool false) rfl (by kernel_rfl) (by kernel_rfl) (by kernel_rfl) (fun _ _ _ h => h) (Or.inl ⟨by rfl, ?_⟩) (by assumption) ?_
    · (intro w hSw; (try dsimp only at hSw); go_simp; try (with_reducible rfl))
    try simp only [Act.put, List.setIfInBounds_toArray, List.set_cons_zero, List.set_cons_succ]
    refine wpAnyH_take (oi := ⟨_, _, _, _, _, _⟩) (i := 5) (v := .bool false) rfl (by kernel_rfl) (by kernel_rfl) (by kernel_rfl) (fun _ _ _ h => h) (Or.inl ⟨by rfl, ?_⟩) (by assumption) ?_
    · (intro w hSw; (try dsimp only at hSw); go_simp; try (with_reducible rfl))
    try simp only [Act.put, List.setIfInBounds_toArray, List.set_cons_zero, List.set_cons_succ]
    refine wpAnyH_take (oi := ⟨_, _, _, _, _, _⟩) (i := 6) (v := undef) rfl (by kernel_rfl) (by kernel_rfl) (by kernel_rfl) (fun _ _ _ h => h) (Or.inr ⟨by rfl, rfl⟩) (by assumption) ?_
    try simp only [Act.put, List.setIfInBounds_toArray, List.set_cons_zero, List.set_cons_succ]
    refine wpAnyH_take (oi := ⟨_, _, _, _, _, _⟩) (i := 7) (v := undef) rfl (by kernel_rfl) (by kernel_rfl) (by kernel_rfl) (fun _ _ _ h => h) (Or.inr ⟨by rfl, rfl⟩) (by assumption) ?_
    try simp only [Act.put, List.setIfInBounds_toArray, List.set_cons_zero, List.set_cons_succ]
    refine wpAnyH_take (oi := ⟨_, _, _, _, _, _⟩) (i := 8) (v := undef) rfl (by kernel_rfl) (by kernel_rfl) (by kernel_rfl) (fun _ _ _ h => h) (Or.inr ⟨by rfl, rfl⟩) (by assumption) ?_
    try simp only [Act.put, List.setIfInBounds_toArray, List.set_cons_zero, List.set_cons_succ]
    refine wpAnyH_take (oi := ⟨_, _, _, _, _, _⟩) (i := 9) (v := undef) rfl (by kernel_rfl) (by kernel_rfl) (by kernel_rfl) (fun _ _ _ h => h) (Or.inr ⟨by rfl, rfl⟩) (by assumption) ?_
    try simp only [Act.put, List.setIfInBounds_toArray, List.set_cons_zero, List.set_cons_succ]
    refine wpAnyH_take (oi := ⟨_, _, _, _, _, _⟩) (i := 10) (v := undef) rfl (by kernel_rfl) (by kernel_rfl) (by kernel_rfl) (fun _ _ _ h => h) (Or.inr ⟨by rfl, rfl⟩) (by assumption) ?_
    try simp only [Act.put, List.setIfInBounds_toArray, List.set_cons_zero, List.set_cons_succ]
    refine wpAnyH_take (oi := ⟨_, _, _, _, _, _⟩) (i := 11) (v := undef) rfl (by kernel_rfl) (by kernel_rfl) (by kernel_rfl) (fun _ _ _ h => h) (Or.inr ⟨by rfl, rfl⟩) (by assumption) ?_
    try simp only [Act.put, List.setIfInBounds_toArray, List.set_cons_zero, List.set_cons_succ]
    refine wpAnyH_take (oi := ⟨_, _, _, _, _, _⟩) (i := 12) (v := undef) rfl (by kernel_rfl) (by kernel_rfl) (by kernel_rfl) (fun _ _ _ h => h) (Or.inr ⟨by rfl, rfl⟩) (by assumption) ?_
    try simp only [Act.put, List.setIfInBounds_toArray, List.set_cons_zero, List.set_cons_succ]
    refine wpAnyH_take (oi := ⟨_, _, _, _, _, _⟩) (i := 13) (v := .bool false) rfl (by kernel_rfl) (by kernel_rfl) (by kernel_rfl) (fun _ _ _ h => h) (Or.inl ⟨by rfl, ?_⟩) (by assumption) ?_
    · (intro w hSw; (try dsimp only at hSw); go_simp; try (with_reducible rfl))
    try simp only [Act.put, List.setIfInBounds_toArray, List.set_cons_zero, List.set_cons_succ]
    refine wpAnyH_take (oi := ⟨_, _, _, _, _, _⟩) (i := 14) (v := .bool false) rfl (by kernel_rfl) (by kernel_rfl) (by kernel_rfl) (fun _ _ _ h => h) (Or.inl ⟨by rfl, ?_⟩) (by assumption) ?_
    · (intro w hSw; (try dsimp only at hSw); go_simp; try (with_reducible rfl))
    try simp only [Act.put, List.setIfInBounds_toArray, List.set_cons_zero, List.set_cons_succ]
    refine wpAnyH_done (by kernel_rfl) ?_ _
    go_wp2
    go_ret
    exact ⟨rfl, by go_split_ands; assumption⟩
  | false =>
    go_enter Tryz.func190, Tryz.ntmps190
    go_wp2
    go_region_held3 (fun w' => w'.cell? ⟨w.heap.size, 0, none⟩ = some (.int .i64 8) ∧ w'.cell? ⟨w.heap.size, 1, none⟩ = some (.int .i64 23) ∧ Below w.heap.size w w')
      (first
        | exact ⟨by simp, by simp, ((Below.refl _ _).alloc (Nat.le_refl _) _).drew⟩
        | (go_split_ands; exact ⟨bkeep ‹_› hb, bkeep ‹_› hb, bnext ‹_› hb⟩))
      (first
        | (go_at_call 186; ((with_reducible refine (HN _).out.mono ?_); rintro e w' ⟨rfl, hb⟩))
        | (go_at_call 187; ((with_reducible refine (HA _).out.mono ?_); rintro e w' ⟨rfl, hb⟩))
        | (go_at_call 187; ((with_reducible refine (HB _).out.mono ?_); rintro e w' ⟨rfl, hb⟩)))
    all_goals
      go_wp2
      go_ret
      exact ⟨by simp, by go_split_ands; assumption⟩

theorem anyNaN_64 (a b : Nat) (ha : a < 18446744073709551616) (hb : b < 18446744073709551616) (w : World) : Calls Tryz.prog 186 #[.agg #[.int .i64 11, .int .i64 52], .int .u64 a, .int .u64 b] w fun e w' => e = .returned (.bool (decide (9218868437227405312 < a % 9223372036854775808 ∨ 9218868437227405312 < b % 9223372036854775808))) ∧ Below w.heap.size w w' := by
  have KA := fun w => hid (kind_64 a ha w)
  have KB := fun w => hid (kind_64 b hb w)
  have ea := kindOf_four 9218868437227405312 (a % 9223372036854775808)
  have eb := kindOf_four 9218868437227405312 (b % 9223372036854775808)
  obtain ⟨k, hk⟩ : ∃ k : Nat, k = kindOf 9218868437227405312 (a % 9223372036854775808) := ⟨_, rfl⟩
  obtain ⟨j, hj⟩ : ∃ j : Nat, j = kindOf 9218868437227405312 (b % 9223372036854775808) := ⟨_, rfl⟩
  rw [← hk] at KA ea
  rw [← hj] at KB eb
  simp only [← ea, ← eb]
  clear ea eb hk hj
  have h0 : Below w.heap.size w w := Below.refl _ _
  by_cases h : k = 4
  · subst h
    go_enter Tryz.func186, Tryz.ntmps186
    go_wp2_with (go_at_call 241; (with_reducible refine (KA _).out.mono ?_); rintro e w1 ⟨rfl, hb1⟩; have c0 := bkeep (a := ⟨w.heap.size, 0, none⟩) (v := .int .i64 11) (by simp) hb1; have c1 := bkeep (a := ⟨w.heap.size, 1, none⟩) (v := .int .i64 52) (by simp) hb1)
    go_ret
    exact ⟨by simp, bnext ((Below.refl _ _).alloc (Nat.le_refl _) _) hb1⟩
  · have e1 : ((k : Int) == 4) = false := by simp; omega
    by_cases h2 : j = 4
    · subst h2
      go_enter Tryz.func186, Tryz.ntmps186
      go_wp2_with (first
        | (go_at_call 241; ((with_reducible refine (KA _).out.mono ?_); rintro e w1 ⟨rfl, hb1⟩; have c0 := bkeep (a := ⟨w.heap.size, 0, none⟩) (v := .int .i64 11) (by simp) hb1; have c1 := bkeep (a := ⟨w.heap.size, 1, none⟩) (v := .int .i64 52) (by simp) hb1))
        | (go_at_call 241; ((with_reducible refine (KB _).out.mono ?_); rintro e w2 ⟨rfl, hb2⟩)))
      go_ret
      exact ⟨by simp, bnext (bnext ((Below.refl _ _).alloc (Nat.le_refl _) _) hb1) hb2⟩
    · have e2 : ((j : Int) == 4) = false := by simp; omega
      rw [show decide (k = 4 ∨ j = 4) = false by simp [h, h2]]
      clear h h2
      go_enter Tryz.func186, Tryz.ntmps186
      go_wp2_with (first
        | (go_at_call 241; ((with_reducible refine (KA _).out.mono ?_); rintro e w1 ⟨rfl, hb1⟩; have c0 := bkeep (a := ⟨w.heap.size, 0, none⟩) (v := .int .i64 11) (by simp) hb1; have c1 := bkeep (a := ⟨w.heap.size, 1, none⟩) (v := .int .i64 52) (by simp) hb1))
        | (go_at_call 241; ((with_reducible refine (KB _).out.mono ?_); rintro e w2 ⟨rfl, hb2⟩)))
      go_ret
      exact ⟨rfl, bnext (bnext ((Below.refl _ _).alloc (Nat.le_refl _) _) hb1) hb2⟩

theorem rank_64 (a : Nat) (ha : a < 18446744073709551616) (w : World) : Calls Tryz.prog 187 #[.agg #[.int .i64 11, .int .i64 52], .int .u64 a] w fun e w' => e = .returned (.int .i64 (rankOf 9223372036854775808 a)) ∧ Below w.heap.size w w' := by
  have HS := fun w => hid (size_64 a ha w)
  have HG := fun w => hid (sign_64 a ha w)
  have hr : rankOf 9223372036854775808 a = if 9223372036854775808 ≤ a then -((a % 9223372036854775808 : Nat) : Int) else ((a % 9223372036854775808 : Nat) : Int) := rfl
  rw [hr]; clear hr
  obtain ⟨s, hs⟩ : ∃ s : Nat, s = a % 9223372036854775808 := ⟨_, rfl⟩
  rw [← hs] at HS ⊢
  have hs2 : s < 9223372036854775808 := by omega
  clear hs
  by_cases h : 9223372036854775808 ≤ a
  · rw [if_pos h] at HG ⊢
    clear h ha
    go_enter Tryz.func187, Tryz.ntmps187
    go_wp2_with (first
      | (go_at_call 182; ((with_reducible refine (HS _).out.mono ?_); rintro e w1 ⟨rfl, hb1⟩; have c0 := bkeep (a := ⟨w.heap.size, 0, none⟩) (v := .int .i64 11) (by simp) hb1; have c1 := bkeep (a := ⟨w.heap.size, 1, none⟩) (v := .int .i64 52) (by simp) hb1))
      | (go_at_call 189; ((with_reducible refine (HG _).out.mono ?_); rintro e w2 ⟨rfl, hb2⟩)))
    go_ret
    exact ⟨rfl, bnext (bnext ((Below.refl _ _).alloc (Nat.le_refl _) _) hb1) hb2⟩
  · rw [if_neg h] at HG ⊢
    clear h ha
    go_enter Tryz.func187, Tryz.ntmps187
    go_wp2_with (first
      | (go_at_call 182; ((with_reducible refine (HS _).out.mono ?_); rintro e w1 ⟨rfl, hb1⟩; have c0 := bkeep (a := ⟨w.heap.size, 0, none⟩) (v := .int .i64 11) (by simp) hb1; have c1 := bkeep (a := ⟨w.heap.size, 1, none⟩) (v := .int .i64 52) (by simp) hb1))
      | (go_at_call 189; ((with_reducible refine (HG _).out.mono ?_); rintro e w2 ⟨rfl, hb2⟩)))
    go_ret
    exact ⟨rfl, bnext (bnext ((Below.refl _ _).alloc (Nat.le_refl _) _) hb1) hb2⟩

set_option maxHeartbeats 1600000 in
theorem less_64 (a b : Nat) (ha : a < 18446744073709551616) (hb : b < 18446744073709551616) (w : World) : Calls Tryz.prog 190 #[.agg #[.int .i64 11, .int .i64 52], .int .u64 a, .int .u64 b] w fun e w' => e = .returned (.bool (!decide (9218868437227405312 < a % 9223372036854775808 ∨ 9218868437227405312 < b % 9223372036854775808) && decide (rankOf 9223372036854775808 a < rankOf 9223372036854775808 b))) ∧ Below w.heap.size w w' := by
  have HN := fun w => hid (anyNaN_64 a b ha hb w)
  have HA := fun w => hid (rank_64 a ha w)
  have HB := fun w => hid (rank_64 b hb w)
  obtain ⟨c, hc⟩ : ∃ c : Bool, c = decide (9218868437227405312 < a % 9223372036854775808 ∨ 9218868437227405312 < b % 9223372036854775808) := ⟨_, rfl⟩
  obtain ⟨x, hx⟩ : ∃ x : Int, x = rankOf 9223372036854775808 a := ⟨_, rfl⟩
  obtain ⟨y, hy⟩ : ∃ y : Int, y = rankOf 9223372036854775808 b := ⟨_, rfl⟩
  rw [← hc, ← hx, ← hy]
  rw [← hc] at HN
  rw [← hx] at HA
  rw [← hy] at HB
  clear hc hx hy ha hb
  cases c with
  | true =>
    go_enter Tryz.func190, Tryz.ntmps190
    go_wp2
    refine wp_region_held_drew (S := fun w' => w'.cell? ⟨w.heap.size, 0, none⟩ = some (.int .i64 11) ∧ w'.cell? ⟨w.heap.size, 1, none⟩ = some (.int .i64 52) ∧ Below w.heap.size w w') (by kernel_rfl) ⟨by simp, by simp, ((Below.refl _ _).alloc (Nat.le_refl _) _).drew⟩ (fun hHeld => ?_)
    refine wpAnyH_take (oi := ⟨_, _, _, _, _, _⟩) (i := 0) (v := .agg #[.int .i64 11, .int .i64 52]) rfl (by kernel_rfl) (by kernel_rfl) (by kernel_rfl) (fun _ _ _ h => h) (Or.inl ⟨by rfl, ?_⟩) (by assumption) ?_
    · (intro w hSw; (try dsimp only at hSw); go_simp; try (with_reducible rfl))
    try simp only [Act.put, List.setIfInBounds_toArray, List.set_cons_zero, List.set_cons_succ]
    refine wpAnyH_take (oi := ⟨_, _, _, _, _, _⟩) (i := 1) (v := .int .u64 a) rfl (by kernel_rfl) (by kernel_rfl) (by kernel_rfl) (fun _ _ _ h => h) (Or.inl ⟨by rfl, ?_⟩) (by assumption) ?_
    · (intro w hSw; (try dsimp only at hSw); go_simp; try (with_reducible rfl))
    try simp only [Act.put, List.setIfInBounds_toArray, List.set_cons_zero, List.set_cons_succ]
    refine wpAnyH_take (oi := ⟨_, _, _, _, _, _⟩) (i := 2) (v := .int .u64 b) rfl (by kernel_rfl) (by kernel_rfl) (by kernel_rfl) (fun _ _ _ h => h) (Or.inl ⟨by rfl, ?_⟩) (by assumption) ?_
    · (intro w hSw; (try dsimp only at hSw); go_simp; try (with_reducible rfl))
    try simp only [Act.put, List.setIfInBounds_toArray, List.set_cons_zero, List.set_cons_succ]
    refine wpAnyH_ready (rs := [3]) (by kernel_rfl) (by simp) ?_
    refine AllReadyH.cons (o := ⟨_, _, _, _, _, _⟩) rfl (fun K hK => ?_) AllReadyH.nil
    go_simp
    go_at_call 186
    (with_reducible refine (HN _).out.mono ?_)
    rintro e w1 ⟨rfl, hb⟩
    refine hK.out _ _ ?_ (fun hHeld => ?_)
    · go_split_ands; exact ⟨bkeep ‹_› hb, bkeep ‹_› hb, bnext ‹_› hb⟩
    clear hK K
    try simp only [Act.put, List.setIfInBounds_toArray, List.set_cons_zero, List.set_cons_succ]
    refine wpAnyH_take (oi := ⟨_, _, _, _, _, _⟩) (i := 4) (v := .bool false) rfl (by kernel_rfl) (by kernel_rfl) (by kernel_rfl) (fun _ _ _ h => h) (Or.inl ⟨by rfl, ?_⟩) (by assumption) ?_
    · (intro w hSw; (try dsimp only at hSw); go_simp; try (with_reducible rfl))
    try simp only [Act.put, List.setIfInBounds_toArray, List.set_cons_zero, List.set_cons_succ]
    refine wpAnyH_take (oi := ⟨_, _, _, _, _, _⟩) (i := 5) (v := .bool false) rfl (by kernel_rfl) (by kernel_rfl) (by kernel_rfl) (fun _ _ _ h => h) (Or.inl ⟨by rfl, ?_⟩) (by assumption) ?_
    · (intro w hSw; (try dsimp only at hSw); go_simp; try (with_reducible rfl))
    try simp only [Act.put, List.setIfInBounds_toArray, List.set_cons_zero, List.set_cons_succ]
    refine wpAnyH_take (oi := ⟨_, _, _, _, _, _⟩) (i := 6) (v := undef) rfl (by kernel_rfl) (by kernel_rfl) (by kernel_rfl) (fun _ _ _ h => h) (Or.inr ⟨by rfl, rfl⟩) (by assumption) ?_
    try simp only [Act.put, List.setIfInBounds_toArray, List.set_cons_zero, List.set_cons_succ]
    refine wpAnyH_take (oi := ⟨_, _, _, _, _, _⟩) (i := 7) (v := undef) rfl (by kernel_rfl) (by kernel_rfl) (by kernel_rfl) (fun _ _ _ h => h) (Or.inr ⟨by rfl, rfl⟩) (by assumption) ?_
    try simp only [Act.put, List.setIfInBounds_toArray, List.set_cons_zero, List.set_cons_succ]
    refine wpAnyH_take (oi := ⟨_, _, _, _, _, _⟩) (i := 8) (v := undef) rfl (by kernel_rfl) (by kernel_rfl) (by kernel_rfl) (fun _ _ _ h => h) (Or.inr ⟨by rfl, rfl⟩) (by assumption) ?_
    try simp only [Act.put, List.setIfInBounds_toArray, List.set_cons_zero, List.set_cons_succ]
    refine wpAnyH_take (oi := ⟨_, _, _, _, _, _⟩) (i := 9) (v := undef) rfl (by kernel_rfl) (by kernel_rfl) (by kernel_rfl) (fun _ _ _ h => h) (Or.inr ⟨by rfl, rfl⟩) (by assumption) ?_
    try simp only [Act.put, List.setIfInBounds_toArray, List.set_cons_zero, List.set_cons_succ]
    refine wpAnyH_take (oi := ⟨_, _, _, _, _, _⟩) (i := 10) (v := undef) rfl (by kernel_rfl) (by kernel_rfl) (by kernel_rfl) (fun _ _ _ h => h) (Or.inr ⟨by rfl, rfl⟩) (by assumption) ?_
    try simp only [Act.put, List.setIfInBounds_toArray, List.set_cons_zero, List.set_cons_succ]
    refine wpAnyH_take (oi := ⟨_, _, _, _, _, _⟩) (i := 11) (v := undef) rfl (by kernel_rfl) (by kernel_rfl) (by kernel_rfl) (fun _ _ _ h => h) (Or.inr ⟨by rfl, rfl⟩) (by assumption) ?_
    try simp only [Act.put, List.setIfInBounds_toArray, List.set_cons_zero, List.set_cons_succ]
    refine wpAnyH_take (oi := ⟨_, _, _, _, _, _⟩) (i := 12) (v := undef) rfl (by kernel_rfl) (by kernel_rfl) (by kernel_rfl) (fun _ _ _ h => h) (Or.inr ⟨by rfl, rfl⟩) (by assumption) ?_
    try simp only [Act.put, List.setIfInBounds_toArray, List.set_cons_zero, List.set_cons_succ]
    refine wpAnyH_take (oi := ⟨_, _, _, _, _, _⟩) (i := 13) (v := .bool false) rfl (by kernel_rfl) (by kernel_rfl) (by kernel_rfl) (fun _ _ _ h => h) (Or.inl ⟨by rfl, ?_⟩) (by assumption) ?_
    · (intro w hSw; (try dsimp only at hSw); go_simp; try (with_reducible rfl))
    try simp only [Act.put, List.setIfInBounds_toArray, List.set_cons_zero, List.set_cons_succ]
    refine wpAnyH_take (oi := ⟨_, _, _, _, _, _⟩) (i := 14) (v := .bool false) rfl (by kernel_rfl) (by kernel_rfl) (by kernel_rfl) (fun _ _ _ h => h) (Or.inl ⟨by rfl, ?_⟩) (by assumption) ?_
    · (intro w hSw; (try dsimp only at hSw); go_simp; try (with_reducible rfl))
    try simp only [Act.put, List.setIfInBounds_toArray, List.set_cons_zero, List.set_cons_succ]
    refine wpAnyH_done (by kernel_rfl) ?_ _
    go_wp2
    go_ret
    exact ⟨rfl, by go_split_ands; assumption⟩
  | false =>
    go_enter Tryz.func190, Tryz.ntmps190
    go_wp2
    go_region_held3 (fun w' => w'.cell? ⟨w.heap.size, 0, none⟩ = some (.int .i64 11) ∧ w'.cell? ⟨w.heap.size, 1, none⟩ = some (.int .i64 52) ∧ Below w.heap.size w w')
      (first
        | exact ⟨by simp, by simp, ((Below.refl _ _).alloc (Nat.le_refl _) _).drew⟩
        | (go_split_ands; exact ⟨bkeep ‹_› hb, bkeep ‹_› hb, bnext ‹_› hb⟩))
      (first
        | (go_at_call 186; ((with_reducible refine (HN _).out.mono ?_); rintro e w' ⟨rfl, hb⟩))
        | (go_at_call 187; ((with_reducible refine (HA _).out.mono ?_); rintro e w' ⟨rfl, hb⟩))
        | (go_at_call 187; ((with_reducible refine (HB _).out.mono ?_); rintro e w' ⟨rfl, hb⟩)))
    all_goals
      go_wp2
      go_ret
      exact ⟨by simp, by go_split_ands; assumption⟩

end Go.Proofs.YtlhakbkdlgejpaaGreatDoor.Fl
