/-
  The contract of the document's own bit: the k-th bit of a number in parts. Condition: there is a part, and the parts are below 2^31.
-/
import Derived.Test.YtljfhedmpnikiaaRefGroup
namespace Go.Proofs.Ytljfhedmpnikiaa
open Go.RowKit

/-- A part's bit. -/
def partBit (ps : List Nat) (k : Nat) : Nat := ps.getD (k / 7) 0 / 2 ^ (k % 7) % 2

/-- The k-th bit; behind the last one: that, or 0. -/
def bitOf (ps : List Nat) (k : Nat) (sg : Bool) : Nat := if k < 7 * ps.length then partBit ps k else if sg then partBit ps (7 * ps.length - 1) else 0

theorem cell_part {w : World} {base : Nat} {g n cap : Nat} {ps : List Nat} (h : w.ownsRow base 3 1 (.slice (some ⟨g, 0, none⟩) n cap) n (intCells ps)) (j : Nat) (hj : j < n) : w.cell? ⟨g, j, none⟩ = some (.int .i64 (ps.getD j 0 : Nat)) := by
  have hl : (intCells ps).length = n * 1 := h.1
  have hjl : j < ps.length := by simp [intCells] at hl; omega
  rw [h.cellAt j (by omega)]
  simp [intCells, List.getElem?_eq_getElem hjl]

set_option maxHeartbeats 1600000 in
theorem bit_in (ps : List Nat) (hps : ∀ j, ps.getD j 0 < 2147483648) (k : Nat) (sg : Bool) (w : World) (base g cap : Nat) (hown : w.ownsRow base 3 1 (.slice (some ⟨g, 0, none⟩) ps.length cap) ps.length (intCells ps)) (hlen : ps.length ≤ 1000) (hk : k < 7 * ps.length) :
    Calls Try.prog 36 #[.slice (some ⟨g, 0, none⟩) ps.length cap, .int .i64 k, .bool sg] w fun en w' => en = .returned (.int .i64 (partBit ps k)) ∧ w = w' := by
  have hkd : k / 7 < ps.length := by omega
  have hc := cell_part hown (k / 7) hkd
  have hp := hps (k / 7)
  obtain ⟨n, hn⟩ : ∃ n, n = ps.getD (k / 7) 0 := ⟨_, rfl⟩
  rw [← hn] at hc hp
  have HN := hid hn
  have hd : decide (7 * (ps.length : Int) ≤ (k : Int)) = false := by simp; omega
  clear hn hps hown
  go_enter Try.func36, Try.ntmps36
  go_wp2
  go_loop [7, 8] (fun vn vi => ∃ j : Nat, j ≤ k % 7 ∧ vi = .int .i64 j ∧ vn = .int .i64 ((n / 2 ^ j : Nat) : Int)) (fun _ vi => 7 - (intOf vi).toNat)
  case atStart => exact ⟨0, Nat.zero_le _, rfl, by simp⟩
  case round =>
    obtain ⟨j, hj, rfl, rfl⟩ := hrel
    by_cases hlt : j < k % 7
    · have hm : ((n / 2 ^ j : Nat) : Int) / 2 = ((n / 2 ^ (j + 1) : Nat) : Int) := by
        rw [Nat.pow_succ, ← Nat.div_div_eq_div_mul]; omega
      have hb0 : n / 2 ^ j ≤ n := Nat.div_le_self _ _
      have HM := hid hm
      obtain ⟨q, hq⟩ : ∃ q : Nat, q = n / 2 ^ j := ⟨_, rfl⟩
      rw [← hq] at HM hb0 ⊢
      clear hm hq
      go_wp2
      go_round
      case rel => exact ⟨j + 1, by omega, by go_num, by rw [← HM.out]⟩
      case measure => simp [intOf]; omega
    · obtain rfl : j = k % 7 := by omega
      have hb0 : n / 2 ^ (k % 7) ≤ n := Nat.div_le_self _ _
      have HP : Hid (partBit ps k = n / 2 ^ (k % 7) % 2) := hid (by rw [partBit, ← HN.out])
      obtain ⟨q, hq⟩ : ∃ q : Nat, q = n / 2 ^ (k % 7) := ⟨_, rfl⟩
      rw [← hq] at HP hb0 ⊢
      clear hq
      go_wp2
      go_ret
      refine ⟨?_, rfl⟩
      rw [HP.out]
      rfl

set_option maxHeartbeats 1600000 in
theorem bit_over (ps : List Nat) (hps : ∀ j, ps.getD j 0 < 2147483648) (K : Nat) (w : World) (base g cap : Nat) (hown : w.ownsRow base 3 1 (.slice (some ⟨g, 0, none⟩) ps.length cap) ps.length (intCells ps)) (hlen : ps.length ≤ 1000) (hk : 7 * ps.length ≤ K) (hne : 1 ≤ ps.length) :
    Calls Try.prog 36 #[.slice (some ⟨g, 0, none⟩) ps.length cap, .int .i64 K, .bool true] w fun en w' => en = .returned (.int .i64 (partBit ps (7 * ps.length - 1))) ∧ w = w' := by
  obtain ⟨k, hkk⟩ : ∃ k, k = 7 * ps.length - 1 := ⟨_, rfl⟩
  rw [← hkk]
  have hkc : 7 * (ps.length : Int) - 1 = (k : Int) := by omega
  have hkd : k / 7 < ps.length := by omega
  have hc := cell_part hown (k / 7) hkd
  have hp := hps (k / 7)
  obtain ⟨n, hn⟩ : ∃ n, n = ps.getD (k / 7) 0 := ⟨_, rfl⟩
  rw [← hn] at hc hp
  have HN := hid hn
  have hd : decide (7 * (ps.length : Int) ≤ (K : Int)) = true := by simp; omega
  have hk7 : k ≤ 7000 := by omega
  clear hn hps hown hkk
  go_enter Try.func36, Try.ntmps36
  go_wp2
  go_loop [7, 8] (fun vn vi => ∃ j : Nat, j ≤ k % 7 ∧ vi = .int .i64 j ∧ vn = .int .i64 ((n / 2 ^ j : Nat) : Int)) (fun _ vi => 7 - (intOf vi).toNat)
  case atStart => exact ⟨0, Nat.zero_le _, rfl, by simp⟩
  case round =>
    obtain ⟨j, hj, rfl, rfl⟩ := hrel
    by_cases hlt : j < k % 7
    · have hm : ((n / 2 ^ j : Nat) : Int) / 2 = ((n / 2 ^ (j + 1) : Nat) : Int) := by
        rw [Nat.pow_succ, ← Nat.div_div_eq_div_mul]; omega
      have hb0 : n / 2 ^ j ≤ n := Nat.div_le_self _ _
      have HM := hid hm
      obtain ⟨q, hq⟩ : ∃ q : Nat, q = n / 2 ^ j := ⟨_, rfl⟩
      rw [← hq] at HM hb0 ⊢
      clear hm hq
      go_wp2
      go_round
      case rel => exact ⟨j + 1, by omega, by go_num, by rw [← HM.out]⟩
      case measure => simp [intOf]; omega
    · obtain rfl : j = k % 7 := by omega
      have hb0 : n / 2 ^ (k % 7) ≤ n := Nat.div_le_self _ _
      have HP : Hid (partBit ps k = n / 2 ^ (k % 7) % 2) := hid (by rw [partBit, ← HN.out])
      obtain ⟨q, hq⟩ : ∃ q : Nat, q = n / 2 ^ (k % 7) := ⟨_, rfl⟩
      rw [← hq] at HP hb0 ⊢
      clear hq
      go_wp2
      go_ret
      refine ⟨?_, rfl⟩
      rw [HP.out]
      rfl

set_option maxHeartbeats 400000 in
theorem bit_off (ps : List Nat) (k : Nat) (w : World) (a : Option Addr) (cap : Nat) (hlen : ps.length ≤ 1000) (hk : 7 * ps.length ≤ k) :
    Calls Try.prog 36 #[.slice a ps.length cap, .int .i64 k, .bool false] w fun en w' => en = .returned (.int .i64 0) ∧ w = w' := by
  have hd : decide (7 * (ps.length : Int) ≤ (k : Int)) = true := by simp; omega
  go_enter Try.func36, Try.ntmps36
  go_wp2
  go_ret
  exact ⟨rfl, rfl⟩

theorem bit_any (ps : List Nat) (hps : ∀ j, ps.getD j 0 < 2147483648) (k : Nat) (sg : Bool) (w : World) (base : Nat) (v : Value) (hown : w.ownsRow base 3 1 v ps.length (intCells ps)) (hlen : ps.length ≤ 1000) (hne : 1 ≤ ps.length) :
    Calls Try.prog 36 #[v, .int .i64 k, .bool sg] w fun en w' => en = .returned (.int .i64 (bitOf ps k sg)) ∧ w = w' := by
  obtain ⟨g, cap, rfl⟩ : ∃ g cap, v = .slice (some ⟨g, 0, none⟩) ps.length cap := by
    rcases hown.2 with ⟨_, h⟩ | ⟨g, cap, _, h, _⟩
    · omega
    · exact ⟨g, cap, h⟩
  by_cases hk : k < 7 * ps.length
  · have := bit_in ps hps k sg w base g cap hown hlen hk
    rw [bitOf, if_pos hk]
    exact this
  · rw [bitOf, if_neg hk]
    cases sg with
    | true => exact bit_over ps hps k w base g cap hown hlen (by omega) hne
    | false => exact bit_off ps k w _ cap hlen (by omega)

end Go.Proofs.Ytljfhedmpnikiaa
