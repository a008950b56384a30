/-
  The contracts of the document's own size and within. Condition: the numbers are held.
-/
import Derived.Test.YticcmbeikdemmaaRefMove
import Derived.Test.YticcmbeikdemmaaSat
namespace Go.Proofs.Yticcmbeikdemmaa
open Go.RowKit

theorem rsize_any (x : Int) (h1 : -9223372036854775808 ≤ x) (h2 : x < 9223372036854775808) (w : World) :
    Calls Try.prog 46 #[.int .i64 x] w fun e w' => e = .returned (.int .u64 (x.natAbs : Nat)) ∧ w = w' := by
  by_cases hx : x < 0
  · have hw : IntKind.u64.wrap (-(x + 1)) = ((x.natAbs - 1 : Nat) : Int) := by rw [IntKind.wrap_u64]; omega
    obtain ⟨m, hm⟩ : ∃ m : Nat, m = x.natAbs - 1 := ⟨_, rfl⟩
    have hw2 : IntKind.u64.wrap ((m : Int) + 1) = ((x.natAbs : Nat) : Int) := by rw [IntKind.wrap_u64]; omega
    rw [← hm] at hw
    obtain ⟨r, hr⟩ : ∃ r : Nat, r = x.natAbs := ⟨_, rfl⟩
    rw [← hr] at hw2 ⊢
    clear hm hr
    go_enter Try.func46, Try.ntmps46
    go_wp2
    go_ret
    exact ⟨rfl, rfl⟩
  · have hw : IntKind.u64.wrap x = ((x.natAbs : Nat) : Int) := by rw [IntKind.wrap_u64]; omega
    obtain ⟨r, hr⟩ : ∃ r : Nat, r = x.natAbs := ⟨_, rfl⟩
    rw [← hr] at hw ⊢
    clear hr
    go_enter Try.func46, Try.ntmps46
    go_wp2
    go_ret
    exact ⟨rfl, rfl⟩

def clampM (M z : Int) : Int := if z < -M - 1 then -M - 1 else if M < z then M else z

set_option maxHeartbeats 800000 in
theorem within_less (x y M : Int) (h0 : 0 ≤ M) (h1 : M ≤ 9223372036854775807) (hx1 : -M - 1 ≤ x) (hx2 : x ≤ M) (hy1 : -M - 1 ≤ y) (hy2 : y ≤ M) (w : World) :
    Calls Try.prog 47 #[.int .i64 x, .int .i64 y, .int .i64 M, .bool true] w fun e w' => e = .returned (.int .i64 (clampM M (x - y))) ∧ w = w' := by
  by_cases hp : 0 < y
  · have hn : ¬ y < 0 := by omega
    by_cases hc : x < -M - 1 + y
    · have e : clampM M (x - y) = -M - 1 := by unfold clampM; rw [if_pos (by omega)]
      rw [e]
      go_enter Try.func47, Try.ntmps47
      go_wp2
      go_ret
      exact ⟨rfl, rfl⟩
    · have e : clampM M (x - y) = x - y := by unfold clampM; rw [if_neg (by omega), if_neg (by omega)]
      rw [e]
      go_enter Try.func47, Try.ntmps47
      go_wp2
      go_ret
      exact ⟨rfl, rfl⟩
  · by_cases hn : y < 0
    · by_cases hc : M + y < x
      · have e : clampM M (x - y) = M := by unfold clampM; rw [if_neg (by omega), if_pos (by omega)]
        rw [e]
        go_enter Try.func47, Try.ntmps47
        go_wp2
        go_ret
        exact ⟨rfl, rfl⟩
      · have e : clampM M (x - y) = x - y := by unfold clampM; rw [if_neg (by omega), if_neg (by omega)]
        rw [e]
        go_enter Try.func47, Try.ntmps47
        go_wp2
        go_ret
        exact ⟨rfl, rfl⟩
    · have e : clampM M (x - y) = x - y := by unfold clampM; rw [if_neg (by omega), if_neg (by omega)]
      rw [e]
      go_enter Try.func47, Try.ntmps47
      go_wp2
      go_ret
      exact ⟨rfl, rfl⟩

set_option maxHeartbeats 800000 in
theorem within_more (x y M : Int) (h0 : 0 ≤ M) (h1 : M ≤ 9223372036854775807) (hx1 : -M - 1 ≤ x) (hx2 : x ≤ M) (hy1 : -M - 1 ≤ y) (hy2 : y ≤ M) (w : World) :
    Calls Try.prog 47 #[.int .i64 x, .int .i64 y, .int .i64 M, .bool false] w fun e w' => e = .returned (.int .i64 (clampM M (x + y))) ∧ w = w' := by
  by_cases hp : 0 < y
  · have hn : ¬ y < 0 := by omega
    by_cases hc : M - y < x
    · have e : clampM M (x + y) = M := by unfold clampM; rw [if_neg (by omega), if_pos (by omega)]
      rw [e]
      go_enter Try.func47, Try.ntmps47
      go_wp2
      go_ret
      exact ⟨rfl, rfl⟩
    · have e : clampM M (x + y) = x + y := by unfold clampM; rw [if_neg (by omega), if_neg (by omega)]
      rw [e]
      go_enter Try.func47, Try.ntmps47
      go_wp2
      go_ret
      exact ⟨rfl, rfl⟩
  · by_cases hn : y < 0
    · by_cases hc : x < -M - 1 - y
      · have e : clampM M (x + y) = -M - 1 := by unfold clampM; rw [if_pos (by omega)]
        rw [e]
        go_enter Try.func47, Try.ntmps47
        go_wp2
        go_ret
        exact ⟨rfl, rfl⟩
      · have e : clampM M (x + y) = x + y := by unfold clampM; rw [if_neg (by omega), if_neg (by omega)]
        rw [e]
        go_enter Try.func47, Try.ntmps47
        go_wp2
        go_ret
        exact ⟨rfl, rfl⟩
    · have e : clampM M (x + y) = x + y := by unfold clampM; rw [if_neg (by omega), if_neg (by omega)]
      rw [e]
      go_enter Try.func47, Try.ntmps47
      go_wp2
      go_ret
      exact ⟨rfl, rfl⟩

end Go.Proofs.Yticcmbeikdemmaa
