/-
  The contracts of the program's Un, but for roots, an operation a theorem. Condition: the words are below 2^64.
-/
import Derived.Test.YtffceodbadedjaaWhole
import Derived.Test.YtffceodbadedjaaFUnA
import Derived.Test.YtffceodbadedjaaApi
set_option linter.unusedSimpArgs false
set_option linter.unusedVariables false
namespace Go.Proofs.Ytffceodbadedjaa
open Go.RowKit

theorem Un_no (b : Int) (h1 : b ≠ 32) (h2 : b ≠ 64) (op : Int) (x : Nat) (w : World) : Calls Try.prog 23 #[.int .i64 b, .int .i64 op, .int .u64 x] w fun e w' => e = .returned (.tuple #[.int .u64 0, .int .i64 1]) ∧ Below w.heap.size w w' := by
  have HF := fun w => hid (formatOf_no b h1 h2 w)
  clear h1 h2
  go_enter Try.func23, Try.ntmps23
  go_wp2_with (first
    | (go_at_call 31; ((with_reducible refine (HF _).out.mono ?_); rintro e w1 ⟨rfl, hb1⟩))
    | (go_at_call 32; ((with_reducible refine (known_no _).mono ?_); rintro e w2 ⟨rfl, hb2⟩)))
  go_ret2
  exact ⟨rfl, bnext (balloc hb1 _) hb2⟩

set_option maxHeartbeats 1600000 in
theorem Un_32_1 (a : Nat) (ha : a < 18446744073709551616) (w : World) :
    Calls Try.prog 23 #[.int .i64 32, .int .i64 1, .int .u64 a] w fun e w' => e = .returned (.tuple #[.int .u64 ((unW Ieee.single 2147483648 2139095040 2143289344 1 (a % 4294967296) : Nat) : Int), .int .i64 0]) ∧ Below w.heap.size w w' := by
  have CA := fun w => hid (cut_32 a ha w)
  have ha1 : a % 4294967296 < 4294967296 := by omega
  generalize a % 4294967296 = a1 at *
  have CC : ∀ W, Hid (Calls Try.prog 35 #[.agg #[.int .i64 8, .int .i64 23], .int .u64 a1] W fun r w' => r = .returned (.int .u64 ((unW Ieee.single 2147483648 2139095040 2143289344 1 a1 : Nat) : Int)) ∧ Below W.heap.size W w') := fun W => hid (size_32 a1 ha1 W)
  obtain ⟨RR, hRR⟩ : ∃ RR : Nat, RR = unW Ieee.single 2147483648 2139095040 2143289344 1 a1 := ⟨_, rfl⟩
  rw [← hRR] at CC ⊢
  clear ha ha1 hRR
  go_enter Try.func23, Try.ntmps23
  go_wp2_with (first
    | (go_at_call 31; ((with_reducible refine (formatOf_32 _).mono ?_); rintro e w1 ⟨rfl, hb1⟩))
    | (go_at_call 32; ((with_reducible refine (known_32 _).mono ?_); rintro e w2 ⟨rfl, hb2⟩; have hS := (Sg.new 8 23 hb1).call hb2; have c0 := hS.1.1; have c1 := hS.1.2))
    | (go_at_call 33; ((with_reducible refine (CA _).out.mono ?_); rintro e w3 ⟨rfl, hb3⟩; replace hS := hS.call hb3; clear c0 c1; have c0 := hS.1.1; have c1 := hS.1.2))
    | (go_at_call 35; ((with_reducible refine (CC _).out.mono ?_); rintro e w4 ⟨rfl, hb4⟩; replace hS := hS.call hb4)))
  go_ret2
  exact ⟨rfl, hS.2.2⟩

set_option maxHeartbeats 1600000 in
theorem Un_32_2 (a : Nat) (ha : a < 18446744073709551616) (w : World) :
    Calls Try.prog 23 #[.int .i64 32, .int .i64 2, .int .u64 a] w fun e w' => e = .returned (.tuple #[.int .u64 ((unW Ieee.single 2147483648 2139095040 2143289344 2 (a % 4294967296) : Nat) : Int), .int .i64 0]) ∧ Below w.heap.size w w' := by
  have CA := fun w => hid (cut_32 a ha w)
  have ha1 : a % 4294967296 < 4294967296 := by omega
  generalize a % 4294967296 = a1 at *
  have CC : ∀ W, Hid (Calls Try.prog 47 #[.agg #[.int .i64 8, .int .i64 23], .int .u64 a1] W fun r w' => r = .returned (.int .u64 ((unW Ieee.single 2147483648 2139095040 2143289344 2 a1 : Nat) : Int)) ∧ Below W.heap.size W w') := fun W => hid (opposite_32 a1 ha1 W)
  obtain ⟨RR, hRR⟩ : ∃ RR : Nat, RR = unW Ieee.single 2147483648 2139095040 2143289344 2 a1 := ⟨_, rfl⟩
  rw [← hRR] at CC ⊢
  clear ha ha1 hRR
  go_enter Try.func23, Try.ntmps23
  go_wp2_with (first
    | (go_at_call 31; ((with_reducible refine (formatOf_32 _).mono ?_); rintro e w1 ⟨rfl, hb1⟩))
    | (go_at_call 32; ((with_reducible refine (known_32 _).mono ?_); rintro e w2 ⟨rfl, hb2⟩; have hS := (Sg.new 8 23 hb1).call hb2; have c0 := hS.1.1; have c1 := hS.1.2))
    | (go_at_call 33; ((with_reducible refine (CA _).out.mono ?_); rintro e w3 ⟨rfl, hb3⟩; replace hS := hS.call hb3; clear c0 c1; have c0 := hS.1.1; have c1 := hS.1.2))
    | (go_at_call 47; ((with_reducible refine (CC _).out.mono ?_); rintro e w4 ⟨rfl, hb4⟩; replace hS := hS.call hb4)))
  go_ret2
  exact ⟨rfl, hS.2.2⟩

set_option maxHeartbeats 1600000 in
theorem Un_32_4 (a : Nat) (ha : a < 18446744073709551616) (w : World) :
    Calls Try.prog 23 #[.int .i64 32, .int .i64 4, .int .u64 a] w fun e w' => e = .returned (.tuple #[.int .u64 ((unW Ieee.single 2147483648 2139095040 2143289344 4 (a % 4294967296) : Nat) : Int), .int .i64 0]) ∧ Below w.heap.size w w' := by
  have CA := fun w => hid (cut_32 a ha w)
  have ha1 : a % 4294967296 < 4294967296 := by omega
  generalize a % 4294967296 = a1 at *
  have CC : ∀ W, Hid (Calls Try.prog 49 #[.agg #[.int .i64 8, .int .i64 23], .int .i64 4, .int .u64 a1] W fun r w' => r = .returned (.int .u64 ((unW Ieee.single 2147483648 2139095040 2143289344 4 a1 : Nat) : Int)) ∧ Below W.heap.size W w') := fun W => hid (whole_32 4 (by decide) a1 ha1 W)
  obtain ⟨RR, hRR⟩ : ∃ RR : Nat, RR = unW Ieee.single 2147483648 2139095040 2143289344 4 a1 := ⟨_, rfl⟩
  rw [← hRR] at CC ⊢
  clear ha ha1 hRR
  go_enter Try.func23, Try.ntmps23
  go_wp2_with (first
    | (go_at_call 31; ((with_reducible refine (formatOf_32 _).mono ?_); rintro e w1 ⟨rfl, hb1⟩))
    | (go_at_call 32; ((with_reducible refine (known_32 _).mono ?_); rintro e w2 ⟨rfl, hb2⟩; have hS := (Sg.new 8 23 hb1).call hb2; have c0 := hS.1.1; have c1 := hS.1.2))
    | (go_at_call 33; ((with_reducible refine (CA _).out.mono ?_); rintro e w3 ⟨rfl, hb3⟩; replace hS := hS.call hb3; clear c0 c1; have c0 := hS.1.1; have c1 := hS.1.2))
    | (go_at_call 49; ((with_reducible refine (CC _).out.mono ?_); rintro e w4 ⟨rfl, hb4⟩; replace hS := hS.call hb4)))
  go_ret2
  exact ⟨rfl, hS.2.2⟩

set_option maxHeartbeats 1600000 in
theorem Un_32_5 (a : Nat) (ha : a < 18446744073709551616) (w : World) :
    Calls Try.prog 23 #[.int .i64 32, .int .i64 5, .int .u64 a] w fun e w' => e = .returned (.tuple #[.int .u64 ((unW Ieee.single 2147483648 2139095040 2143289344 5 (a % 4294967296) : Nat) : Int), .int .i64 0]) ∧ Below w.heap.size w w' := by
  have CA := fun w => hid (cut_32 a ha w)
  have ha1 : a % 4294967296 < 4294967296 := by omega
  generalize a % 4294967296 = a1 at *
  have CC : ∀ W, Hid (Calls Try.prog 49 #[.agg #[.int .i64 8, .int .i64 23], .int .i64 5, .int .u64 a1] W fun r w' => r = .returned (.int .u64 ((unW Ieee.single 2147483648 2139095040 2143289344 5 a1 : Nat) : Int)) ∧ Below W.heap.size W w') := fun W => hid (whole_32 5 (by decide) a1 ha1 W)
  obtain ⟨RR, hRR⟩ : ∃ RR : Nat, RR = unW Ieee.single 2147483648 2139095040 2143289344 5 a1 := ⟨_, rfl⟩
  rw [← hRR] at CC ⊢
  clear ha ha1 hRR
  go_enter Try.func23, Try.ntmps23
  go_wp2_with (first
    | (go_at_call 31; ((with_reducible refine (formatOf_32 _).mono ?_); rintro e w1 ⟨rfl, hb1⟩))
    | (go_at_call 32; ((with_reducible refine (known_32 _).mono ?_); rintro e w2 ⟨rfl, hb2⟩; have hS := (Sg.new 8 23 hb1).call hb2; have c0 := hS.1.1; have c1 := hS.1.2))
    | (go_at_call 33; ((with_reducible refine (CA _).out.mono ?_); rintro e w3 ⟨rfl, hb3⟩; replace hS := hS.call hb3; clear c0 c1; have c0 := hS.1.1; have c1 := hS.1.2))
    | (go_at_call 49; ((with_reducible refine (CC _).out.mono ?_); rintro e w4 ⟨rfl, hb4⟩; replace hS := hS.call hb4)))
  go_ret2
  exact ⟨rfl, hS.2.2⟩

set_option maxHeartbeats 1600000 in
theorem Un_32_6 (a : Nat) (ha : a < 18446744073709551616) (w : World) :
    Calls Try.prog 23 #[.int .i64 32, .int .i64 6, .int .u64 a] w fun e w' => e = .returned (.tuple #[.int .u64 ((unW Ieee.single 2147483648 2139095040 2143289344 6 (a % 4294967296) : Nat) : Int), .int .i64 0]) ∧ Below w.heap.size w w' := by
  have CA := fun w => hid (cut_32 a ha w)
  have ha1 : a % 4294967296 < 4294967296 := by omega
  generalize a % 4294967296 = a1 at *
  have CC : ∀ W, Hid (Calls Try.prog 49 #[.agg #[.int .i64 8, .int .i64 23], .int .i64 6, .int .u64 a1] W fun r w' => r = .returned (.int .u64 ((unW Ieee.single 2147483648 2139095040 2143289344 6 a1 : Nat) : Int)) ∧ Below W.heap.size W w') := fun W => hid (whole_32 6 (by decide) a1 ha1 W)
  obtain ⟨RR, hRR⟩ : ∃ RR : Nat, RR = unW Ieee.single 2147483648 2139095040 2143289344 6 a1 := ⟨_, rfl⟩
  rw [← hRR] at CC ⊢
  clear ha ha1 hRR
  go_enter Try.func23, Try.ntmps23
  go_wp2_with (first
    | (go_at_call 31; ((with_reducible refine (formatOf_32 _).mono ?_); rintro e w1 ⟨rfl, hb1⟩))
    | (go_at_call 32; ((with_reducible refine (known_32 _).mono ?_); rintro e w2 ⟨rfl, hb2⟩; have hS := (Sg.new 8 23 hb1).call hb2; have c0 := hS.1.1; have c1 := hS.1.2))
    | (go_at_call 33; ((with_reducible refine (CA _).out.mono ?_); rintro e w3 ⟨rfl, hb3⟩; replace hS := hS.call hb3; clear c0 c1; have c0 := hS.1.1; have c1 := hS.1.2))
    | (go_at_call 49; ((with_reducible refine (CC _).out.mono ?_); rintro e w4 ⟨rfl, hb4⟩; replace hS := hS.call hb4)))
  go_ret2
  exact ⟨rfl, hS.2.2⟩

set_option maxHeartbeats 1600000 in
theorem Un_32_bad (op : Int) (hop : op < 1 ∨ 7 < op) (a : Nat) (ha : a < 18446744073709551616) (w : World) :
    Calls Try.prog 23 #[.int .i64 32, .int .i64 op, .int .u64 a] w fun e w' => e = .returned (.tuple #[.int .u64 0, .int .i64 1]) ∧ Below w.heap.size w w' := by
  have CA := fun w => hid (cut_32 a ha w)
  generalize a % 4294967296 = a1 at *
  have o1 : (op == 1) = false := by simp; omega
  have o2 : (op == 2) = false := by simp; omega
  have o3 : (op == 3) = false := by simp; omega
  have o4 : (op == 4) = false := by simp; omega
  have o5 : (op == 5) = false := by simp; omega
  have o6 : (op == 6) = false := by simp; omega
  have o7 : (op == 7) = false := by simp; omega
  clear ha hop
  go_enter Try.func23, Try.ntmps23
  go_wp2_with (first
    | (go_at_call 31; ((with_reducible refine (formatOf_32 _).mono ?_); rintro e w1 ⟨rfl, hb1⟩))
    | (go_at_call 32; ((with_reducible refine (known_32 _).mono ?_); rintro e w2 ⟨rfl, hb2⟩; have hS := (Sg.new 8 23 hb1).call hb2; have c0 := hS.1.1; have c1 := hS.1.2))
    | (go_at_call 33; ((with_reducible refine (CA _).out.mono ?_); rintro e w3 ⟨rfl, hb3⟩; replace hS := hS.call hb3; clear c0 c1; have c0 := hS.1.1; have c1 := hS.1.2)))
  go_ret2
  exact ⟨rfl, hS.2.2⟩

set_option maxHeartbeats 1600000 in
theorem Un_64_1 (a : Nat) (ha : a < 18446744073709551616) (w : World) :
    Calls Try.prog 23 #[.int .i64 64, .int .i64 1, .int .u64 a] w fun e w' => e = .returned (.tuple #[.int .u64 ((unW Ieee.double 9223372036854775808 9218868437227405312 9221120237041090560 1 (a % 18446744073709551616) : Nat) : Int), .int .i64 0]) ∧ Below w.heap.size w w' := by
  have CA := fun w => hid (cut_64 a ha w)
  have ha1 : a % 18446744073709551616 < 18446744073709551616 := by omega
  generalize a % 18446744073709551616 = a1 at *
  have CC : ∀ W, Hid (Calls Try.prog 35 #[.agg #[.int .i64 11, .int .i64 52], .int .u64 a1] W fun r w' => r = .returned (.int .u64 ((unW Ieee.double 9223372036854775808 9218868437227405312 9221120237041090560 1 a1 : Nat) : Int)) ∧ Below W.heap.size W w') := fun W => hid (size_64 a1 ha1 W)
  obtain ⟨RR, hRR⟩ : ∃ RR : Nat, RR = unW Ieee.double 9223372036854775808 9218868437227405312 9221120237041090560 1 a1 := ⟨_, rfl⟩
  rw [← hRR] at CC ⊢
  clear ha ha1 hRR
  go_enter Try.func23, Try.ntmps23
  go_wp2_with (first
    | (go_at_call 31; ((with_reducible refine (formatOf_64 _).mono ?_); rintro e w1 ⟨rfl, hb1⟩))
    | (go_at_call 32; ((with_reducible refine (known_64 _).mono ?_); rintro e w2 ⟨rfl, hb2⟩; have hS := (Sg.new 11 52 hb1).call hb2; have c0 := hS.1.1; have c1 := hS.1.2))
    | (go_at_call 33; ((with_reducible refine (CA _).out.mono ?_); rintro e w3 ⟨rfl, hb3⟩; replace hS := hS.call hb3; clear c0 c1; have c0 := hS.1.1; have c1 := hS.1.2))
    | (go_at_call 35; ((with_reducible refine (CC _).out.mono ?_); rintro e w4 ⟨rfl, hb4⟩; replace hS := hS.call hb4)))
  go_ret2
  exact ⟨rfl, hS.2.2⟩

set_option maxHeartbeats 1600000 in
theorem Un_64_2 (a : Nat) (ha : a < 18446744073709551616) (w : World) :
    Calls Try.prog 23 #[.int .i64 64, .int .i64 2, .int .u64 a] w fun e w' => e = .returned (.tuple #[.int .u64 ((unW Ieee.double 9223372036854775808 9218868437227405312 9221120237041090560 2 (a % 18446744073709551616) : Nat) : Int), .int .i64 0]) ∧ Below w.heap.size w w' := by
  have CA := fun w => hid (cut_64 a ha w)
  have ha1 : a % 18446744073709551616 < 18446744073709551616 := by omega
  generalize a % 18446744073709551616 = a1 at *
  have CC : ∀ W, Hid (Calls Try.prog 47 #[.agg #[.int .i64 11, .int .i64 52], .int .u64 a1] W fun r w' => r = .returned (.int .u64 ((unW Ieee.double 9223372036854775808 9218868437227405312 9221120237041090560 2 a1 : Nat) : Int)) ∧ Below W.heap.size W w') := fun W => hid (opposite_64 a1 ha1 W)
  obtain ⟨RR, hRR⟩ : ∃ RR : Nat, RR = unW Ieee.double 9223372036854775808 9218868437227405312 9221120237041090560 2 a1 := ⟨_, rfl⟩
  rw [← hRR] at CC ⊢
  clear ha ha1 hRR
  go_enter Try.func23, Try.ntmps23
  go_wp2_with (first
    | (go_at_call 31; ((with_reducible refine (formatOf_64 _).mono ?_); rintro e w1 ⟨rfl, hb1⟩))
    | (go_at_call 32; ((with_reducible refine (known_64 _).mono ?_); rintro e w2 ⟨rfl, hb2⟩; have hS := (Sg.new 11 52 hb1).call hb2; have c0 := hS.1.1; have c1 := hS.1.2))
    | (go_at_call 33; ((with_reducible refine (CA _).out.mono ?_); rintro e w3 ⟨rfl, hb3⟩; replace hS := hS.call hb3; clear c0 c1; have c0 := hS.1.1; have c1 := hS.1.2))
    | (go_at_call 47; ((with_reducible refine (CC _).out.mono ?_); rintro e w4 ⟨rfl, hb4⟩; replace hS := hS.call hb4)))
  go_ret2
  exact ⟨rfl, hS.2.2⟩

set_option maxHeartbeats 1600000 in
theorem Un_64_4 (a : Nat) (ha : a < 18446744073709551616) (w : World) :
    Calls Try.prog 23 #[.int .i64 64, .int .i64 4, .int .u64 a] w fun e w' => e = .returned (.tuple #[.int .u64 ((unW Ieee.double 9223372036854775808 9218868437227405312 9221120237041090560 4 (a % 18446744073709551616) : Nat) : Int), .int .i64 0]) ∧ Below w.heap.size w w' := by
  have CA := fun w => hid (cut_64 a ha w)
  have ha1 : a % 18446744073709551616 < 18446744073709551616 := by omega
  generalize a % 18446744073709551616 = a1 at *
  have CC : ∀ W, Hid (Calls Try.prog 49 #[.agg #[.int .i64 11, .int .i64 52], .int .i64 4, .int .u64 a1] W fun r w' => r = .returned (.int .u64 ((unW Ieee.double 9223372036854775808 9218868437227405312 9221120237041090560 4 a1 : Nat) : Int)) ∧ Below W.heap.size W w') := fun W => hid (whole_64 4 (by decide) a1 ha1 W)
  obtain ⟨RR, hRR⟩ : ∃ RR : Nat, RR = unW Ieee.double 9223372036854775808 9218868437227405312 9221120237041090560 4 a1 := ⟨_, rfl⟩
  rw [← hRR] at CC ⊢
  clear ha ha1 hRR
  go_enter Try.func23, Try.ntmps23
  go_wp2_with (first
    | (go_at_call 31; ((with_reducible refine (formatOf_64 _).mono ?_); rintro e w1 ⟨rfl, hb1⟩))
    | (go_at_call 32; ((with_reducible refine (known_64 _).mono ?_); rintro e w2 ⟨rfl, hb2⟩; have hS := (Sg.new 11 52 hb1).call hb2; have c0 := hS.1.1; have c1 := hS.1.2))
    | (go_at_call 33; ((with_reducible refine (CA _).out.mono ?_); rintro e w3 ⟨rfl, hb3⟩; replace hS := hS.call hb3; clear c0 c1; have c0 := hS.1.1; have c1 := hS.1.2))
    | (go_at_call 49; ((with_reducible refine (CC _).out.mono ?_); rintro e w4 ⟨rfl, hb4⟩; replace hS := hS.call hb4)))
  go_ret2
  exact ⟨rfl, hS.2.2⟩

set_option maxHeartbeats 1600000 in
theorem Un_64_5 (a : Nat) (ha : a < 18446744073709551616) (w : World) :
    Calls Try.prog 23 #[.int .i64 64, .int .i64 5, .int .u64 a] w fun e w' => e = .returned (.tuple #[.int .u64 ((unW Ieee.double 9223372036854775808 9218868437227405312 9221120237041090560 5 (a % 18446744073709551616) : Nat) : Int), .int .i64 0]) ∧ Below w.heap.size w w' := by
  have CA := fun w => hid (cut_64 a ha w)
  have ha1 : a % 18446744073709551616 < 18446744073709551616 := by omega
  generalize a % 18446744073709551616 = a1 at *
  have CC : ∀ W, Hid (Calls Try.prog 49 #[.agg #[.int .i64 11, .int .i64 52], .int .i64 5, .int .u64 a1] W fun r w' => r = .returned (.int .u64 ((unW Ieee.double 9223372036854775808 9218868437227405312 9221120237041090560 5 a1 : Nat) : Int)) ∧ Below W.heap.size W w') := fun W => hid (whole_64 5 (by decide) a1 ha1 W)
  obtain ⟨RR, hRR⟩ : ∃ RR : Nat, RR = unW Ieee.double 9223372036854775808 9218868437227405312 9221120237041090560 5 a1 := ⟨_, rfl⟩
  rw [← hRR] at CC ⊢
  clear ha ha1 hRR
  go_enter Try.func23, Try.ntmps23
  go_wp2_with (first
    | (go_at_call 31; ((with_reducible refine (formatOf_64 _).mono ?_); rintro e w1 ⟨rfl, hb1⟩))
    | (go_at_call 32; ((with_reducible refine (known_64 _).mono ?_); rintro e w2 ⟨rfl, hb2⟩; have hS := (Sg.new 11 52 hb1).call hb2; have c0 := hS.1.1; have c1 := hS.1.2))
    | (go_at_call 33; ((with_reducible refine (CA _).out.mono ?_); rintro e w3 ⟨rfl, hb3⟩; replace hS := hS.call hb3; clear c0 c1; have c0 := hS.1.1; have c1 := hS.1.2))
    | (go_at_call 49; ((with_reducible refine (CC _).out.mono ?_); rintro e w4 ⟨rfl, hb4⟩; replace hS := hS.call hb4)))
  go_ret2
  exact ⟨rfl, hS.2.2⟩

set_option maxHeartbeats 1600000 in
theorem Un_64_6 (a : Nat) (ha : a < 18446744073709551616) (w : World) :
    Calls Try.prog 23 #[.int .i64 64, .int .i64 6, .int .u64 a] w fun e w' => e = .returned (.tuple #[.int .u64 ((unW Ieee.double 9223372036854775808 9218868437227405312 9221120237041090560 6 (a % 18446744073709551616) : Nat) : Int), .int .i64 0]) ∧ Below w.heap.size w w' := by
  have CA := fun w => hid (cut_64 a ha w)
  have ha1 : a % 18446744073709551616 < 18446744073709551616 := by omega
  generalize a % 18446744073709551616 = a1 at *
  have CC : ∀ W, Hid (Calls Try.prog 49 #[.agg #[.int .i64 11, .int .i64 52], .int .i64 6, .int .u64 a1] W fun r w' => r = .returned (.int .u64 ((unW Ieee.double 9223372036854775808 9218868437227405312 9221120237041090560 6 a1 : Nat) : Int)) ∧ Below W.heap.size W w') := fun W => hid (whole_64 6 (by decide) a1 ha1 W)
  obtain ⟨RR, hRR⟩ : ∃ RR : Nat, RR = unW Ieee.double 9223372036854775808 9218868437227405312 9221120237041090560 6 a1 := ⟨_, rfl⟩
  rw [← hRR] at CC ⊢
  clear ha ha1 hRR
  go_enter Try.func23, Try.ntmps23
  go_wp2_with (first
    | (go_at_call 31; ((with_reducible refine (formatOf_64 _).mono ?_); rintro e w1 ⟨rfl, hb1⟩))
    | (go_at_call 32; ((with_reducible refine (known_64 _).mono ?_); rintro e w2 ⟨rfl, hb2⟩; have hS := (Sg.new 11 52 hb1).call hb2; have c0 := hS.1.1; have c1 := hS.1.2))
    | (go_at_call 33; ((with_reducible refine (CA _).out.mono ?_); rintro e w3 ⟨rfl, hb3⟩; replace hS := hS.call hb3; clear c0 c1; have c0 := hS.1.1; have c1 := hS.1.2))
    | (go_at_call 49; ((with_reducible refine (CC _).out.mono ?_); rintro e w4 ⟨rfl, hb4⟩; replace hS := hS.call hb4)))
  go_ret2
  exact ⟨rfl, hS.2.2⟩

set_option maxHeartbeats 1600000 in
theorem Un_64_7 (a : Nat) (ha : a < 18446744073709551616) (w : World) :
    Calls Try.prog 23 #[.int .i64 64, .int .i64 7, .int .u64 a] w fun e w' => e = .returned (.tuple #[.int .u64 ((unW Ieee.double 9223372036854775808 9218868437227405312 9221120237041090560 7 (a % 18446744073709551616) : Nat) : Int), .int .i64 0]) ∧ Below w.heap.size w w' := by
  have CA := fun w => hid (cut_64 a ha w)
  have ha1 : a % 18446744073709551616 < 18446744073709551616 := by omega
  generalize a % 18446744073709551616 = a1 at *
  have CC : ∀ W, Hid (Calls Try.prog 49 #[.agg #[.int .i64 11, .int .i64 52], .int .i64 7, .int .u64 a1] W fun r w' => r = .returned (.int .u64 ((unW Ieee.double 9223372036854775808 9218868437227405312 9221120237041090560 7 a1 : Nat) : Int)) ∧ Below W.heap.size W w') := fun W => hid (whole_64 7 (by decide) a1 ha1 W)
  obtain ⟨RR, hRR⟩ : ∃ RR : Nat, RR = unW Ieee.double 9223372036854775808 9218868437227405312 9221120237041090560 7 a1 := ⟨_, rfl⟩
  rw [← hRR] at CC ⊢
  clear ha ha1 hRR
  go_enter Try.func23, Try.ntmps23
  go_wp2_with (first
    | (go_at_call 31; ((with_reducible refine (formatOf_64 _).mono ?_); rintro e w1 ⟨rfl, hb1⟩))
    | (go_at_call 32; ((with_reducible refine (known_64 _).mono ?_); rintro e w2 ⟨rfl, hb2⟩; have hS := (Sg.new 11 52 hb1).call hb2; have c0 := hS.1.1; have c1 := hS.1.2))
    | (go_at_call 33; ((with_reducible refine (CA _).out.mono ?_); rintro e w3 ⟨rfl, hb3⟩; replace hS := hS.call hb3; clear c0 c1; have c0 := hS.1.1; have c1 := hS.1.2))
    | (go_at_call 49; ((with_reducible refine (CC _).out.mono ?_); rintro e w4 ⟨rfl, hb4⟩; replace hS := hS.call hb4)))
  go_ret2
  exact ⟨rfl, hS.2.2⟩

set_option maxHeartbeats 1600000 in
theorem Un_64_bad (op : Int) (hop : op < 1 ∨ 7 < op) (a : Nat) (ha : a < 18446744073709551616) (w : World) :
    Calls Try.prog 23 #[.int .i64 64, .int .i64 op, .int .u64 a] w fun e w' => e = .returned (.tuple #[.int .u64 0, .int .i64 1]) ∧ Below w.heap.size w w' := by
  have CA := fun w => hid (cut_64 a ha w)
  generalize a % 18446744073709551616 = a1 at *
  have o1 : (op == 1) = false := by simp; omega
  have o2 : (op == 2) = false := by simp; omega
  have o3 : (op == 3) = false := by simp; omega
  have o4 : (op == 4) = false := by simp; omega
  have o5 : (op == 5) = false := by simp; omega
  have o6 : (op == 6) = false := by simp; omega
  have o7 : (op == 7) = false := by simp; omega
  clear ha hop
  go_enter Try.func23, Try.ntmps23
  go_wp2_with (first
    | (go_at_call 31; ((with_reducible refine (formatOf_64 _).mono ?_); rintro e w1 ⟨rfl, hb1⟩))
    | (go_at_call 32; ((with_reducible refine (known_64 _).mono ?_); rintro e w2 ⟨rfl, hb2⟩; have hS := (Sg.new 11 52 hb1).call hb2; have c0 := hS.1.1; have c1 := hS.1.2))
    | (go_at_call 33; ((with_reducible refine (CA _).out.mono ?_); rintro e w3 ⟨rfl, hb3⟩; replace hS := hS.call hb3; clear c0 c1; have c0 := hS.1.1; have c1 := hS.1.2)))
  go_ret2
  exact ⟨rfl, hS.2.2⟩

end Go.Proofs.Ytffceodbadedjaa
