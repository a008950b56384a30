/-
  The contracts of store.part, over bytes and over values. Condition: a slice's own length.
-/
import Derived.Test.YtlifnddofgeaaaaBase
set_option linter.unusedSimpArgs false
set_option linter.unusedVariables false
set_option maxRecDepth 100000
namespace Go.Proofs.Ytlifnddofgeaaaa
open Go.RowKit

set_option maxHeartbeats 1000000 in
theorem part_b_no (p : Option Addr) (N c at_ n : Nat) (hN : N < 9223372036854775808) (ha : at_ < 18446744073709551616) (hn : n < 18446744073709551616) (h : ¬ (at_ + n ≤ N)) (w : World) :
    Calls Try.prog 33 #[.slice p N c, .int .u64 at_, .int .u64 n] w fun e w' => e = .returned (.tuple #[.slice none 0 0, .bool false]) ∧ w = w' := by
  by_cases h1 : n ≤ N
  · have h2 : N - n < at_ := by omega
    clear h
    go_enter Try.func33, Try.ntmps33
    go_wp2
    go_ret2
    exact ⟨rfl, rfl⟩
  · clear h
    go_enter Try.func33, Try.ntmps33
    go_wp2
    go_ret2
    exact ⟨rfl, rfl⟩
set_option maxHeartbeats 1000000 in
theorem part_b_yes (p : Option Addr) (N c at_ n : Nat) (hN : N ≤ c) (hc : c < 9223372036854775808) (h : at_ + n ≤ N) (w : World) :
    Calls Try.prog 33 #[.slice p N c, .int .u64 at_, .int .u64 n] w fun e w' => (∃ q cc, e = .returned (.tuple #[.slice q n cc, .bool true]) ∧ n ≤ cc ∧ cc ≤ c ∧ (n ≠ 0 → q = p.map fun x => x.add (at_ * 1))) ∧ w = w' := by
  go_enter Try.func33, Try.ntmps33
  go_wp2
  · go_ret2
    exact ⟨⟨_, _, rfl, by omega, by omega, fun h => by omega⟩, rfl⟩
  · go_ret2
    exact ⟨⟨_, _, rfl, by omega, by omega, fun h => by first | rfl | simp | skip⟩, rfl⟩
set_option maxHeartbeats 1000000 in
theorem part_v_no (p : Option Addr) (N c at_ n : Nat) (hN : N < 9223372036854775808) (ha : at_ < 18446744073709551616) (hn : n < 18446744073709551616) (h : ¬ (at_ + n ≤ N)) (w : World) :
    Calls Try.prog 38 #[.slice p N c, .int .u64 at_, .int .u64 n] w fun e w' => e = .returned (.tuple #[.slice none 0 0, .bool false]) ∧ w = w' := by
  by_cases h1 : n ≤ N
  · have h2 : N - n < at_ := by omega
    clear h
    go_enter Try.func38, Try.ntmps38
    go_wp2
    go_ret2
    exact ⟨rfl, rfl⟩
  · clear h
    go_enter Try.func38, Try.ntmps38
    go_wp2
    go_ret2
    exact ⟨rfl, rfl⟩
set_option maxHeartbeats 1000000 in
theorem part_v_yes (p : Option Addr) (N c at_ n : Nat) (hN : N ≤ c) (hc : c < 9223372036854775808) (h : at_ + n ≤ N) (w : World) :
    Calls Try.prog 38 #[.slice p N c, .int .u64 at_, .int .u64 n] w fun e w' => (∃ q cc, e = .returned (.tuple #[.slice q n cc, .bool true]) ∧ n ≤ cc ∧ cc ≤ c ∧ (n ≠ 0 → q = p.map fun x => x.add (at_ * 4))) ∧ w = w' := by
  go_enter Try.func38, Try.ntmps38
  go_wp2
  · go_ret2
    exact ⟨⟨_, _, rfl, by omega, by omega, fun h => by omega⟩, rfl⟩
  · go_ret2
    exact ⟨⟨_, _, rfl, by omega, by omega, fun h => by first | rfl | simp | skip⟩, rfl⟩
end Go.Proofs.Ytlifnddofgeaaaa
