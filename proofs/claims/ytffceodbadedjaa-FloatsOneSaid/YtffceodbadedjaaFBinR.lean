/-
  The contracts of the program's computed and Bin, an operation a theorem. Condition: the words are below 2^64.
-/
import Derived.Test.YtffceodbadedjaaSum
import Derived.Test.YtffceodbadedjaaQuo3
import Derived.Test.YtffceodbadedjaaQuo4
import Derived.Test.YtffceodbadedjaaApi
set_option linter.unusedSimpArgs false
set_option linter.unusedVariables false
namespace Go.Proofs.Ytffceodbadedjaa
open Go.RowKit

/-- Whether one of two words is a NaN. -/
def nanW (SB INF a b : Nat) : Bool := decide (INF < a % SB ∨ INF < b % SB)

/-- What two cut words come to. -/
def binW (f : Ieee.Format) (room SB INF CAN P : Nat) (low : Int) (op a b : Nat) : Nat :=
  if op ≤ 6 ∧ nanW SB INF a b = true then CAN
  else if op = 1 then sumW f room SB INF CAN P low a b
  else if op = 2 then sumW f room SB INF CAN P low a (oppN SB b)
  else if op = 3 then (f.mul a b).getD CAN
  else if op = 4 then (f.div a b).getD CAN
  else if op = 5 then (if rankOf SB b < rankOf SB a then b else if rankOf SB b = rankOf SB a then a ||| b else a)
  else if op = 6 then (if rankOf SB a < rankOf SB b then b else if rankOf SB b = rankOf SB a then a &&& b else a)
  else if op = 7 then a % SB + (if SB ≤ b then SB else 0)
  else if op = 8 then (if (!nanW SB INF a b && decide (rankOf SB b < rankOf SB a)) = true then b else a)
  else (if (!nanW SB INF a b && decide (rankOf SB a < rankOf SB b)) = true then b else a)

theorem Bin_no (b : Int) (h1 : b ≠ 32) (h2 : b ≠ 64) (op : Int) (x y : Nat) (w : World) : Calls Try.prog 17 #[.int .i64 b, .int .i64 op, .int .u64 x, .int .u64 y] w fun e w' => e = .returned (.tuple #[.int .u64 0, .int .i64 1]) ∧ Below w.heap.size w w' := by
  have HF := fun w => hid (formatOf_no b h1 h2 w)
  clear h1 h2
  go_enter Try.func17, Try.ntmps17
  go_wp2_with (first
    | (go_at_call 31; ((with_reducible refine (HF _).out.mono ?_); rintro e w1 ⟨rfl, hb1⟩))
    | (go_at_call 32; ((with_reducible refine (known_no _).mono ?_); rintro e w2 ⟨rfl, hb2⟩)))
  go_ret2
  exact ⟨rfl, bnext (balloc hb1 _) hb2⟩

theorem quo_all {INF sa sb : Nat} (ha : sa ≤ INF) (hb : sb ≤ INF) (Q : Prop)
    (h : ∀ i j : Nat, (i = 1 ∨ i = 2 ∨ i = 3) → (j = 1 ∨ j = 2 ∨ j = 3) → kindOf INF sa = i → kindOf INF sb = j → Q) : Q :=
  h _ _ (kind_le ha) (kind_le hb) rfl rfl

theorem computed_32_nan (op : Int) (a b : Nat) (ha : a < 4294967296) (hb : b < 4294967296) (hn : nanW 2147483648 2139095040 a b = true) (w : World) :
    Calls Try.prog 34 #[.agg #[.int .i64 8, .int .i64 23], .int .i64 op, .int .u64 a, .int .u64 b] w fun r w' => r = .returned (.int .u64 2143289344) ∧ Below w.heap.size w w' := by
  have HN := fun w => hid (anyNaN_32 a b ha hb w)
  rw [show decide (2139095040 < a % 2147483648 ∨ 2139095040 < b % 2147483648) = true from hn] at HN
  have hS := Sx.new 8 23 w
  obtain ⟨c0, c1⟩ := id hS.1
  clear ha hb hn
  go_enter Try.func34, Try.ntmps34
  go_wp2_with (first
    | (go_at_call 55; ((with_reducible refine (HN _).out.mono ?_); rintro e w1 ⟨rfl, hb⟩; replace hS := hS.call hb; have c0 := hS.1.1; have c1 := hS.1.2))
    | (go_at_call 46; ((with_reducible refine (canonical_32 _).mono ?_); rintro e w1 ⟨rfl, hb⟩; replace hS := hS.call hb)))
  go_ret
  exact ⟨rfl, hS.2⟩

set_option maxHeartbeats 3200000 in
theorem computed_32_1 (a b : Nat) (ha : a < 4294967296) (hb : b < 4294967296) (hn : nanW 2147483648 2139095040 a b = false) (w : World) :
    Calls Try.prog 34 #[.agg #[.int .i64 8, .int .i64 23], .int .i64 1, .int .u64 a, .int .u64 b] w fun r w' => r = .returned (.int .u64 ((binW Ieee.single 38 2147483648 2139095040 2143289344 23 (-149) 1 a b : Nat) : Int)) ∧ Below w.heap.size w w' := by
  have HN := fun w => hid (anyNaN_32 a b ha hb w)
  rw [show decide (2139095040 < a % 2147483648 ∨ 2139095040 < b % 2147483648) = false from hn] at HN
  have hn2 : a % 2147483648 ≤ 2139095040 ∧ b % 2147483648 ≤ 2139095040 := by unfold nanW at hn; simp at hn; omega
  have RA := fun w => hid (rank_32 a ha w)
  have RB := fun w => hid (rank_32 b hb w)
  obtain ⟨RR, hRR⟩ : ∃ RR : Nat, RR = binW Ieee.single 38 2147483648 2139095040 2143289344 23 (-149) 1 a b := ⟨_, rfl⟩
  rw [← hRR]
  unfold binW at hRR
  rw [if_neg (by rw [hn]; simp)] at hRR
  rw [if_pos rfl] at hRR
  have SC := fun w => hid (sum_32 a b ha hb hn2.1 hn2.2 w)
  rw [← hRR] at SC
  obtain ⟨x, hx⟩ : ∃ x : Int, x = rankOf 2147483648 a := ⟨_, rfl⟩
  obtain ⟨y, hy⟩ : ∃ y : Int, y = rankOf 2147483648 b := ⟨_, rfl⟩
  rw [← hx] at RA
  rw [← hy] at RB
  clear hRR hx hy
  have hS := Sx.new 8 23 w
  obtain ⟨c0, c1⟩ := id hS.1
  clear ha hb hn hn2
  go_enter Try.func34, Try.ntmps34
  go_upto_region 3 with (first
    | (go_at_call 55; ((with_reducible refine (HN _).out.mono ?_); rintro e w1 ⟨rfl, hb⟩; replace hS := hS.call hb; have c0 := hS.1.1; have c1 := hS.1.2)))
  go_cut [9, 10] (fun s2 s3 wx => s2 = .int .i64 x ∧ s3 = .int .i64 y ∧ Sx 8 23 w wx)
  case first =>
    clear hb
    go_region_held3 (fun w' => w'.cell? ⟨w.heap.size, 0, none⟩ = some (.int .i64 8) ∧ w'.cell? ⟨w.heap.size, 1, none⟩ = some (.int .i64 23) ∧ Sx 8 23 w w')
      (first
        | exact ⟨c0, c1, hS.drew⟩
        | (go_split_ands; exact ⟨bkeep ‹_› hb, bkeep ‹_› hb, Sx.call ‹_› hb⟩)
        | (go_split_ands; exact ⟨‹_›, ‹_›, ‹_›⟩))
      (first
        | (go_at_call 56; ((with_reducible refine (RA _).out.mono ?_); rintro e w' ⟨rfl, hb⟩))
        | (go_at_call 56; ((with_reducible refine (RB _).out.mono ?_); rintro e w' ⟨rfl, hb⟩)))
    all_goals
      (go_wp2_with fail)
      go_meet
      go_split_ands
      exact ⟨rfl, rfl, ‹_›⟩
  case rest =>
    clear hS c0 c1 hb
    obtain ⟨rfl, rfl, hS⟩ := hcut
    obtain ⟨c0, c1⟩ := id hS.1
    clear RA RB HN
    go_wp2_with (go_at_call 62; ((with_reducible refine (SC _).out.mono ?_); rintro e w1 ⟨rfl, hb⟩; replace hS := hS.call hb))
    go_ret
    exact ⟨rfl, hS.2⟩

set_option maxHeartbeats 3200000 in
theorem Bin_32_1 (a b : Nat) (ha : a < 18446744073709551616) (hb : b < 18446744073709551616) (w : World) :
    Calls Try.prog 17 #[.int .i64 32, .int .i64 1, .int .u64 a, .int .u64 b] w fun e w' => e = .returned (.tuple #[.int .u64 ((binW Ieee.single 38 2147483648 2139095040 2143289344 23 (-149) 1 (a % 4294967296) (b % 4294967296) : Nat) : Int), .int .i64 0]) ∧ Below w.heap.size w w' := by
  have CA := fun w => hid (cut_32 a ha w)
  have CB := fun w => hid (cut_32 b hb w)
  have ha1 : a % 4294967296 < 4294967296 := by omega
  have hb1 : b % 4294967296 < 4294967296 := by omega
  generalize a % 4294967296 = a1 at *
  generalize b % 4294967296 = b1 at *
  obtain ⟨RR, hRR⟩ : ∃ RR : Nat, RR = binW Ieee.single 38 2147483648 2139095040 2143289344 23 (-149) 1 a1 b1 := ⟨_, rfl⟩
  rw [← hRR]
  have CC : ∀ W, Hid (Calls Try.prog 34 #[.agg #[.int .i64 8, .int .i64 23], .int .i64 1, .int .u64 a1, .int .u64 b1] W fun r w' => r = .returned (.int .u64 (RR : Int)) ∧ Below W.heap.size W w') := fun W => by
    cases hn : nanW 2147483648 2139095040 a1 b1 with
    | true =>
      have h := computed_32_nan 1 a1 b1 ha1 hb1 hn W
      have : RR = 2143289344 := by rw [hRR]; unfold binW; rw [if_pos ⟨by decide, hn⟩]
      rw [this]; exact h
    | false => rw [hRR]; exact computed_32_1 a1 b1 ha1 hb1 hn W
  clear hRR ha1 hb1
  clear ha hb
  go_enter Try.func17, Try.ntmps17
  go_wp2_with (first
    | (go_at_call 31; ((with_reducible refine (formatOf_32 _).mono ?_); rintro e w1 ⟨rfl, hb1⟩))
    | (go_at_call 32; ((with_reducible refine (known_32 _).mono ?_); rintro e w2 ⟨rfl, hb2⟩; have hS := (Sg.new 8 23 hb1).call hb2; obtain ⟨c0, c1⟩ := id hS.1)))
  go_cut [2, 3] (fun s2 s3 wx => s2 = .int .u64 a1 ∧ s3 = .int .u64 b1 ∧ Sg 8 23 w w1.heap.size wx)
  case first =>
    go_region_held3 (fun w' => w'.cell? ⟨w1.heap.size, 0, none⟩ = some (.int .i64 8) ∧ w'.cell? ⟨w1.heap.size, 1, none⟩ = some (.int .i64 23) ∧ Sg 8 23 w w1.heap.size w')
        (first
          | exact ⟨c0, c1, hS.drew⟩
          | (go_split_ands; exact ⟨bkeep ‹_› hb, bkeep ‹_› hb, Sg.call ‹_› hb⟩)
          | (go_split_ands; exact ⟨‹_›, ‹_›, ‹_›⟩))
      (first
        | (go_at_call 33; ((with_reducible refine (CA _).out.mono ?_); rintro e w' ⟨rfl, hb⟩))
        | (go_at_call 33; ((with_reducible refine (CB _).out.mono ?_); rintro e w' ⟨rfl, hb⟩)))
    all_goals
      (go_wp2_with fail)
      go_meet
      go_split_ands
      exact ⟨rfl, rfl, ‹_›⟩
  case rest =>
    clear hS c0 c1 CA CB
    obtain ⟨rfl, rfl, hS⟩ := hcut
    obtain ⟨c0, c1⟩ := id hS.1
    go_wp2_with (go_at_call 34; ((with_reducible refine (CC _).out.mono ?_); rintro e w4 ⟨rfl, hb4⟩))
    go_ret2
    exact ⟨rfl, bnext hS.2.2 hb4⟩

theorem quo_64 (a b : Nat) (ha : a < 18446744073709551616) (hb : b < 18446744073709551616) (hna : a % 9223372036854775808 ≤ 9218868437227405312) (hnb : b % 9223372036854775808 ≤ 9218868437227405312) (w : World) :
    Calls Try.prog 64 #[.agg #[.int .i64 11, .int .i64 52], .int .u64 a, .int .u64 b] w fun r w' => r = .returned (.int .u64 ((((Ieee.double).div a b).getD 9221120237041090560 : Nat) : Int)) ∧ Below w.heap.size w w' := by
  refine quo_all hna hnb _ fun i j hi hj h1 h2 => ?_
  rcases hi with rfl | rfl | rfl <;> rcases hj with rfl | rfl | rfl
  · exact quo_64_eq a b 1 1 ha hb h1 h2 ⟨rfl, .inl rfl⟩ w
  · exact quo_64_zero a b 1 2 ha hb h1 h2 (by decide) w
  · exact quo_64_zero a b 1 3 ha hb h1 h2 (by decide) w
  · exact quo_64_inf a b 2 1 ha hb h1 h2 (by decide) w
  · exact quo_64_22 a b ha hb h1 h2 w
  · exact quo_64_zero a b 2 3 ha hb h1 h2 (by decide) w
  · exact quo_64_inf a b 3 1 ha hb h1 h2 (by decide) w
  · exact quo_64_inf a b 3 2 ha hb h1 h2 (by decide) w
  · exact quo_64_eq a b 3 3 ha hb h1 h2 ⟨rfl, .inr rfl⟩ w

theorem computed_64_nan (op : Int) (a b : Nat) (ha : a < 18446744073709551616) (hb : b < 18446744073709551616) (hn : nanW 9223372036854775808 9218868437227405312 a b = true) (w : World) :
    Calls Try.prog 34 #[.agg #[.int .i64 11, .int .i64 52], .int .i64 op, .int .u64 a, .int .u64 b] w fun r w' => r = .returned (.int .u64 9221120237041090560) ∧ Below w.heap.size w w' := by
  have HN := fun w => hid (anyNaN_64 a b ha hb w)
  rw [show decide (9218868437227405312 < a % 9223372036854775808 ∨ 9218868437227405312 < b % 9223372036854775808) = true from hn] at HN
  have hS := Sx.new 11 52 w
  obtain ⟨c0, c1⟩ := id hS.1
  clear ha hb hn
  go_enter Try.func34, Try.ntmps34
  go_wp2_with (first
    | (go_at_call 55; ((with_reducible refine (HN _).out.mono ?_); rintro e w1 ⟨rfl, hb⟩; replace hS := hS.call hb; have c0 := hS.1.1; have c1 := hS.1.2))
    | (go_at_call 46; ((with_reducible refine (canonical_64 _).mono ?_); rintro e w1 ⟨rfl, hb⟩; replace hS := hS.call hb)))
  go_ret
  exact ⟨rfl, hS.2⟩

set_option maxHeartbeats 3200000 in
theorem computed_64_4 (a b : Nat) (ha : a < 18446744073709551616) (hb : b < 18446744073709551616) (hn : nanW 9223372036854775808 9218868437227405312 a b = false) (w : World) :
    Calls Try.prog 34 #[.agg #[.int .i64 11, .int .i64 52], .int .i64 4, .int .u64 a, .int .u64 b] w fun r w' => r = .returned (.int .u64 ((binW Ieee.double 9 9223372036854775808 9218868437227405312 9221120237041090560 52 (-1074) 4 a b : Nat) : Int)) ∧ Below w.heap.size w w' := by
  have HN := fun w => hid (anyNaN_64 a b ha hb w)
  rw [show decide (9218868437227405312 < a % 9223372036854775808 ∨ 9218868437227405312 < b % 9223372036854775808) = false from hn] at HN
  have hn2 : a % 9223372036854775808 ≤ 9218868437227405312 ∧ b % 9223372036854775808 ≤ 9218868437227405312 := by unfold nanW at hn; simp at hn; omega
  have RA := fun w => hid (rank_64 a ha w)
  have RB := fun w => hid (rank_64 b hb w)
  obtain ⟨RR, hRR⟩ : ∃ RR : Nat, RR = binW Ieee.double 9 9223372036854775808 9218868437227405312 9221120237041090560 52 (-1074) 4 a b := ⟨_, rfl⟩
  rw [← hRR]
  unfold binW at hRR
  rw [if_neg (by rw [hn]; simp)] at hRR
  rw [if_neg (by decide), if_neg (by decide), if_neg (by decide), if_pos rfl] at hRR
  have SC := fun w => hid (quo_64 a b ha hb hn2.1 hn2.2 w)
  rw [← hRR] at SC
  obtain ⟨x, hx⟩ : ∃ x : Int, x = rankOf 9223372036854775808 a := ⟨_, rfl⟩
  obtain ⟨y, hy⟩ : ∃ y : Int, y = rankOf 9223372036854775808 b := ⟨_, rfl⟩
  rw [← hx] at RA
  rw [← hy] at RB
  clear hRR hx hy
  have hS := Sx.new 11 52 w
  obtain ⟨c0, c1⟩ := id hS.1
  clear ha hb hn hn2
  go_enter Try.func34, Try.ntmps34
  go_upto_region 3 with (first
    | (go_at_call 55; ((with_reducible refine (HN _).out.mono ?_); rintro e w1 ⟨rfl, hb⟩; replace hS := hS.call hb; have c0 := hS.1.1; have c1 := hS.1.2)))
  go_cut [9, 10] (fun s2 s3 wx => s2 = .int .i64 x ∧ s3 = .int .i64 y ∧ Sx 11 52 w wx)
  case first =>
    clear hb
    go_region_held3 (fun w' => w'.cell? ⟨w.heap.size, 0, none⟩ = some (.int .i64 11) ∧ w'.cell? ⟨w.heap.size, 1, none⟩ = some (.int .i64 52) ∧ Sx 11 52 w w')
      (first
        | exact ⟨c0, c1, hS.drew⟩
        | (go_split_ands; exact ⟨bkeep ‹_› hb, bkeep ‹_› hb, Sx.call ‹_› hb⟩)
        | (go_split_ands; exact ⟨‹_›, ‹_›, ‹_›⟩))
      (first
        | (go_at_call 56; ((with_reducible refine (RA _).out.mono ?_); rintro e w' ⟨rfl, hb⟩))
        | (go_at_call 56; ((with_reducible refine (RB _).out.mono ?_); rintro e w' ⟨rfl, hb⟩)))
    all_goals
      (go_wp2_with fail)
      go_meet
      go_split_ands
      exact ⟨rfl, rfl, ‹_›⟩
  case rest =>
    clear hS c0 c1 hb
    obtain ⟨rfl, rfl, hS⟩ := hcut
    obtain ⟨c0, c1⟩ := id hS.1
    clear RA RB HN
    go_wp2_with (go_at_call 64; ((with_reducible refine (SC _).out.mono ?_); rintro e w1 ⟨rfl, hb⟩; replace hS := hS.call hb))
    go_ret
    exact ⟨rfl, hS.2⟩

set_option maxHeartbeats 3200000 in
theorem Bin_64_4 (a b : Nat) (ha : a < 18446744073709551616) (hb : b < 18446744073709551616) (w : World) :
    Calls Try.prog 17 #[.int .i64 64, .int .i64 4, .int .u64 a, .int .u64 b] w fun e w' => e = .returned (.tuple #[.int .u64 ((binW Ieee.double 9 9223372036854775808 9218868437227405312 9221120237041090560 52 (-1074) 4 (a % 18446744073709551616) (b % 18446744073709551616) : Nat) : Int), .int .i64 0]) ∧ Below w.heap.size w w' := by
  have CA := fun w => hid (cut_64 a ha w)
  have CB := fun w => hid (cut_64 b hb w)
  have ha1 : a % 18446744073709551616 < 18446744073709551616 := by omega
  have hb1 : b % 18446744073709551616 < 18446744073709551616 := by omega
  generalize a % 18446744073709551616 = a1 at *
  generalize b % 18446744073709551616 = b1 at *
  obtain ⟨RR, hRR⟩ : ∃ RR : Nat, RR = binW Ieee.double 9 9223372036854775808 9218868437227405312 9221120237041090560 52 (-1074) 4 a1 b1 := ⟨_, rfl⟩
  rw [← hRR]
  have CC : ∀ W, Hid (Calls Try.prog 34 #[.agg #[.int .i64 11, .int .i64 52], .int .i64 4, .int .u64 a1, .int .u64 b1] W fun r w' => r = .returned (.int .u64 (RR : Int)) ∧ Below W.heap.size W w') := fun W => by
    cases hn : nanW 9223372036854775808 9218868437227405312 a1 b1 with
    | true =>
      have h := computed_64_nan 4 a1 b1 ha1 hb1 hn W
      have : RR = 9221120237041090560 := by rw [hRR]; unfold binW; rw [if_pos ⟨by decide, hn⟩]
      rw [this]; exact h
    | false => rw [hRR]; exact computed_64_4 a1 b1 ha1 hb1 hn W
  clear hRR ha1 hb1
  clear ha hb
  go_enter Try.func17, Try.ntmps17
  go_wp2_with (first
    | (go_at_call 31; ((with_reducible refine (formatOf_64 _).mono ?_); rintro e w1 ⟨rfl, hb1⟩))
    | (go_at_call 32; ((with_reducible refine (known_64 _).mono ?_); rintro e w2 ⟨rfl, hb2⟩; have hS := (Sg.new 11 52 hb1).call hb2; obtain ⟨c0, c1⟩ := id hS.1)))
  go_cut [2, 3] (fun s2 s3 wx => s2 = .int .u64 a1 ∧ s3 = .int .u64 b1 ∧ Sg 11 52 w w1.heap.size wx)
  case first =>
    go_region_held3 (fun w' => w'.cell? ⟨w1.heap.size, 0, none⟩ = some (.int .i64 11) ∧ w'.cell? ⟨w1.heap.size, 1, none⟩ = some (.int .i64 52) ∧ Sg 11 52 w w1.heap.size w')
        (first
          | exact ⟨c0, c1, hS.drew⟩
          | (go_split_ands; exact ⟨bkeep ‹_› hb, bkeep ‹_› hb, Sg.call ‹_› hb⟩)
          | (go_split_ands; exact ⟨‹_›, ‹_›, ‹_›⟩))
      (first
        | (go_at_call 33; ((with_reducible refine (CA _).out.mono ?_); rintro e w' ⟨rfl, hb⟩))
        | (go_at_call 33; ((with_reducible refine (CB _).out.mono ?_); rintro e w' ⟨rfl, hb⟩)))
    all_goals
      (go_wp2_with fail)
      go_meet
      go_split_ands
      exact ⟨rfl, rfl, ‹_›⟩
  case rest =>
    clear hS c0 c1 CA CB
    obtain ⟨rfl, rfl, hS⟩ := hcut
    obtain ⟨c0, c1⟩ := id hS.1
    go_wp2_with (go_at_call 34; ((with_reducible refine (CC _).out.mono ?_); rintro e w4 ⟨rfl, hb4⟩))
    go_ret2
    exact ⟨rfl, bnext hS.2.2 hb4⟩

end Go.Proofs.Ytffceodbadedjaa
