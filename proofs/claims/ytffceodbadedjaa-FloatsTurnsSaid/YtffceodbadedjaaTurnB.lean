/-
  What the law on turning compares, on plain words. Condition: the format is that of 32 or of 64 bits; the words have no more bits.
-/
import Derived.Test.YtffceodbadedjaaTurnM
import Derived.Test.YtffceodbadedjaaFBin
import Derived.Test.YtffceodbadedjaaFUnA
set_option linter.unusedSimpArgs false
set_option linter.unusedVariables false
namespace Go.Proofs.Ytffceodbadedjaa
open Ieee

theorem nan_comm (SB INF a b : Nat) : nanW SB INF a b = nanW SB INF b a := by
  unfold nanW
  exact decide_eq_decide.2 Or.comm
theorem nan_no {SB INF a b : Nat} (h : nanW SB INF a b = false) : a % SB ≤ INF ∧ b % SB ≤ INF := by
  unfold nanW at h
  have := of_decide_eq_false h
  omega

section
variable {f : Format} {SB INF P : Nat} {low : Int} (F : Fmt f SB INF P low) {a b : Nat}
include F

theorem bin1_turn (room CAN : Nat) (hroom : room + P = 61) (ha : a < 2 * SB) (hb : b < 2 * SB) : binW f room SB INF CAN P low 1 a b = binW f room SB INF CAN P low 1 b a := by
  unfold binW
  rw [nan_comm SB INF b a]
  cases h : nanW SB INF a b
  · obtain ⟨na, nb⟩ := nan_no h
    simp only [Bool.false_eq_true, and_false, if_false, if_true]
    rw [sumW_add F room CAN hroom ha hb na nb, sumW_add F room CAN hroom hb ha nb na]
    unfold Format.add
    rw [sum_comm]
  · simp
omit F in
theorem bin3_turn (room CAN : Nat) : binW f room SB INF CAN P low 3 a b = binW f room SB INF CAN P low 3 b a := by
  unfold binW
  rw [nan_comm SB INF b a, mul_comm_w f b a]
  simp only [show ¬ ((3 : Nat) = 1) by decide, show ¬ ((3 : Nat) = 2) by decide, if_false, if_true]
omit F in
theorem bin2_opp (room CAN : Nat) (hb : b < 2 * SB) : binW f room SB INF CAN P low 2 a (oppN SB b) = binW f room SB INF CAN P low 1 a b := by
  have ho := opp_lt (SB := SB) hb
  have hn : nanW SB INF a (oppN SB b) = nanW SB INF a b := by unfold nanW; rw [ho.2.1]
  unfold binW
  rw [hn, opp_opp hb]
  cases h : nanW SB INF a b <;> simp
omit F in
theorem bin7_self (room CAN : Nat) (hb : b < 2 * SB) : binW f room SB INF CAN P low 7 b b = b := by
  unfold binW
  simp only [show ¬ (7 ≤ 6) by decide, false_and, if_false]
  exact sign_back hb
omit F in
theorem un2_twice (CAN : Nat) (hb : b < 2 * SB) : unW f SB INF CAN 2 (unW f SB INF CAN 2 b) = b ∧ unW f SB INF CAN 2 b = oppN SB b ∧ unW f SB INF CAN 2 b < 2 * SB := by
  have e : ∀ c, unW f SB INF CAN 2 c = oppN SB c := fun c => by unfold unW; rfl
  rw [e, e]
  exact ⟨opp_opp hb, rfl, (opp_lt hb).1⟩

theorem whole_rel (CAN : Nat) (hIS : INF < SB) (hlow : low ≤ -(P : Int)) (hbig : ((-low).toNat + 2) * 2 ^ P ≤ INF) (hcan : CAN < 2 * SB) (ha : a < 2 * SB) :
    relW SB INF 5 (unW f SB INF CAN 5 a) a = !(kindOf INF (a % SB) == 4) ∧ relW SB INF 5 a (unW f SB INF CAN 4 a) = !(kindOf INF (a % SB) == 4) ∧ unW f SB INF CAN 5 a < 2 * SB ∧ unW f SB INF CAN 4 a < 2 * SB := by
  have e5 : unW f SB INF CAN 5 a = if kindOf INF (a % SB) = 4 then CAN else f.write ((f.read a).integral .down) := by unfold unW wholeW; rfl
  have e4 : unW f SB INF CAN 4 a = if kindOf INF (a % SB) = 4 then CAN else f.write ((f.read a).integral .up) := by unfold unW wholeW; rfl
  rw [e5, e4]
  by_cases h : a % SB ≤ INF
  · have hk : ¬ kindOf INF (a % SB) = 4 := by unfold kindOf; split <;> (try split) <;> (try split) <;> omega
    obtain ⟨⟨r1, r2, r3⟩, r4, r5, r6⟩ := whole_stands F hIS hlow hbig ha h
    have hb : (kindOf INF (a % SB) == 4) = false := by simpa using hk
    rw [if_neg hk, if_neg hk, hb]
    unfold relW
    rw [if_neg (by omega), if_neg (by omega)]
    exact ⟨by unfold relI; simpa using r1, by unfold relI; simpa using r4, r3, r6⟩
  · have hk : kindOf INF (a % SB) = 4 := by
      unfold kindOf
      rw [if_neg (by omega), if_neg (by omega), if_neg (by omega)]
    have hb : (kindOf INF (a % SB) == 4) = true := by simpa using hk
    rw [if_pos hk, if_pos hk, hb]
    unfold relW
    rw [if_pos (by omega), if_pos (by omega)]
    exact ⟨rfl, rfl, hcan, hcan⟩
end
end Go.Proofs.Ytffceodbadedjaa
