/-
  The contract of the program's Un: roots. Condition: the word is below 2^64.
-/
import Derived.Test.YtffceodbadedjaaFUnA
import Derived.Test.YtffceodbadedjaaRoot
import Derived.Test.YtffceodbadedjaaRoot64
set_option linter.unusedSimpArgs false
set_option linter.unusedVariables false
namespace Go.Proofs.Ytffceodbadedjaa
open Go.RowKit

set_option maxHeartbeats 1600000 in
theorem Un_32_3 (a : Nat) (ha : a < 18446744073709551616) (w : World) :
    Calls Try.prog 23 #[.int .i64 32, .int .i64 3, .int .u64 a] w fun e w' => e = .returned (.tuple #[.int .u64 ((unW Ieee.single 2147483648 2139095040 2143289344 3 (a % 4294967296) : Nat) : Int), .int .i64 0]) ∧ Below w.heap.size w w' := by
  have CA := fun w => hid (cut_32 a ha w)
  have ha1 : a % 4294967296 < 4294967296 := by omega
  generalize a % 4294967296 = a1 at *
  have CC : ∀ W, Hid (Calls Try.prog 48 #[.agg #[.int .i64 8, .int .i64 23], .int .u64 a1] W fun r w' => r = .returned (.int .u64 ((unW Ieee.single 2147483648 2139095040 2143289344 3 a1 : Nat) : Int)) ∧ Below W.heap.size W w') := fun W => hid (root_32 a1 ha1 W)
  obtain ⟨RR, hRR⟩ : ∃ RR : Nat, RR = unW Ieee.single 2147483648 2139095040 2143289344 3 a1 := ⟨_, rfl⟩
  rw [← hRR] at CC ⊢
  clear ha ha1 hRR
  go_enter Try.func23, Try.ntmps23
  go_wp2_with (first
    | (go_at_call 31; ((with_reducible refine (formatOf_32 _).mono ?_); rintro e w1 ⟨rfl, hb1⟩))
    | (go_at_call 32; ((with_reducible refine (known_32 _).mono ?_); rintro e w2 ⟨rfl, hb2⟩; have hS := (Sg.new 8 23 hb1).call hb2; have c0 := hS.1.1; have c1 := hS.1.2))
    | (go_at_call 33; ((with_reducible refine (CA _).out.mono ?_); rintro e w3 ⟨rfl, hb3⟩; replace hS := hS.call hb3; clear c0 c1; have c0 := hS.1.1; have c1 := hS.1.2))
    | (go_at_call 48; ((with_reducible refine (CC _).out.mono ?_); rintro e w4 ⟨rfl, hb4⟩; replace hS := hS.call hb4)))
  go_ret2
  exact ⟨rfl, hS.2.2⟩

set_option maxHeartbeats 1600000 in
theorem Un_64_3 (a : Nat) (ha : a < 18446744073709551616) (w : World) :
    Calls Try.prog 23 #[.int .i64 64, .int .i64 3, .int .u64 a] w fun e w' => e = .returned (.tuple #[.int .u64 ((unW Ieee.double 9223372036854775808 9218868437227405312 9221120237041090560 3 (a % 18446744073709551616) : Nat) : Int), .int .i64 0]) ∧ Below w.heap.size w w' := by
  have CA := fun w => hid (cut_64 a ha w)
  have ha1 : a % 18446744073709551616 < 18446744073709551616 := by omega
  generalize a % 18446744073709551616 = a1 at *
  have CC : ∀ W, Hid (Calls Try.prog 48 #[.agg #[.int .i64 11, .int .i64 52], .int .u64 a1] W fun r w' => r = .returned (.int .u64 ((unW Ieee.double 9223372036854775808 9218868437227405312 9221120237041090560 3 a1 : Nat) : Int)) ∧ Below W.heap.size W w') := fun W => hid (root_64 a1 ha1 W)
  obtain ⟨RR, hRR⟩ : ∃ RR : Nat, RR = unW Ieee.double 9223372036854775808 9218868437227405312 9221120237041090560 3 a1 := ⟨_, rfl⟩
  rw [← hRR] at CC ⊢
  clear ha ha1 hRR
  go_enter Try.func23, Try.ntmps23
  go_wp2_with (first
    | (go_at_call 31; ((with_reducible refine (formatOf_64 _).mono ?_); rintro e w1 ⟨rfl, hb1⟩))
    | (go_at_call 32; ((with_reducible refine (known_64 _).mono ?_); rintro e w2 ⟨rfl, hb2⟩; have hS := (Sg.new 11 52 hb1).call hb2; have c0 := hS.1.1; have c1 := hS.1.2))
    | (go_at_call 33; ((with_reducible refine (CA _).out.mono ?_); rintro e w3 ⟨rfl, hb3⟩; replace hS := hS.call hb3; clear c0 c1; have c0 := hS.1.1; have c1 := hS.1.2))
    | (go_at_call 48; ((with_reducible refine (CC _).out.mono ?_); rintro e w4 ⟨rfl, hb4⟩; replace hS := hS.call hb4)))
  go_ret2
  exact ⟨rfl, hS.2.2⟩

end Go.Proofs.Ytffceodbadedjaa
