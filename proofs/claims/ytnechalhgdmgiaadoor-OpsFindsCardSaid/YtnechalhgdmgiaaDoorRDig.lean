/-
  The contracts of the reference's digits (at most four bytes) and of its row that isn't there.
-/
import Derived.Test.YtnechalhgdmgiaaDoorRStr
set_option linter.unusedSimpArgs false
set_option linter.unusedVariables false
namespace Go.Proofs.YtnechalhgdmgiaaDoor
open Go.RowKit

/-- A row of the reference's table: the number, the name, what stands behind, what it takes, what it leaves, is that fixed? -/
abbrev Rw := Int × List UInt8 × Int × List UInt8 × List UInt8 × Bool
def rw0 : Rw := (-1, [], 0, [], [], false)
def rwV (r : Rw) : Value := .agg #[.int .i64 r.1, .string (str r.2.1), .int .i64 r.2.2.1, .string (str r.2.2.2.1), .string (str r.2.2.2.2.1), .bool r.2.2.2.2.2]

theorem none_says (w : World) : Calls Tryd.prog 27 #[] w fun e w' => e = .returned (rwV rw0) ∧ Below w.heap.size w w' := by
  go_enter Tryd.func27, Tryd.ntmps27
  go_wp2
  exact bodyPost_ret (v := rwV rw0) (by simp [results, Tryd.results27, go_sem, rwV, rw0, str]) rfl ⟨rfl, (Below.refl _ _).alloc (Nat.le_refl _) _⟩

def digF (n : Int) (c : UInt8) : Int := n * 10 + (c.toNat : Int) - 48
def digL (l : List UInt8) : Int := l.foldl digF 0
theorem dig_succ (l : List UInt8) (n : Nat) (h : n < l.length) : digL (l.take (n + 1)) = digL (l.take n) * 10 + (l[n].toNat : Int) - 48 := by
  rw [List.take_add_one, List.getElem?_eq_getElem h]
  unfold digL
  rw [List.foldl_append]
  rfl
theorem dig_bound (l : List UInt8) : ∀ n, n ≤ l.length → -(1000 ^ n : Int) ≤ digL (l.take n) ∧ digL (l.take n) ≤ 1000 ^ n
  | 0, _ => by simp [digL]
  | n + 1, h => by
    have ih := dig_bound l n (by omega)
    have hc := (l[n]'(by omega)).toNat_lt
    rw [dig_succ l n (by omega), Int.pow_succ]
    have hp : (1 : Int) ≤ 1000 ^ n := by have := Int.pow_pos (n := 1000) (m := n) (by decide); omega
    generalize (1000 : Int) ^ n = p at ih hp ⊢
    omega

set_option maxHeartbeats 4000000 in
theorem digits_says (l : List UInt8) (hl : l.length ≤ 4) (w : World) : Calls Tryd.prog 28 #[.string (str l)] w fun e w' => e = .returned (.int .i64 (digL l)) ∧ Below w.heap.size w w' := by
  obtain ⟨s, hs⟩ : ∃ s, s = str l := ⟨_, rfl⟩
  have hsz : s.size = l.length := by rw [hs, str_size]
  rw [← hs]
  have HS := hid hs
  clear hs
  obtain ⟨L, hL⟩ : ∃ L, L = l.length := ⟨_, rfl⟩
  rw [← hL] at hsz hl
  have HL := hid hL
  clear hL
  go_enter Tryd.func28, Tryd.ntmps28
  go_wp2
  go_loopw [3, 4] (fun vn vi wr => ∃ n : Nat, Hid (n ≤ L) ∧ vi = .int .i64 n ∧ vn = .int .i64 (digL (l.take n)) ∧ Hid (Below w.heap.size w wr)) (fun _ vi _ => 5 - (intOf vi).toNat)
  case atStart => exact ⟨0, Nat.zero_le _, rfl, rfl, Below.refl _ _⟩
  case round =>
    obtain ⟨n, hn, rfl, rfl, HR⟩ := hrel
    by_cases hlt : n < L
    · have hn1 := hid (show n + 1 ≤ L by omega)
      have hnll : n < l.length := by rw [← HL.out]; exact hlt
      obtain ⟨c, hc⟩ : ∃ c, c = l[n]'hnll := ⟨_, rfl⟩
      have hget : ∀ h : n < s.size, (s[n]'h) = c := fun h => by
        have e := HS.out
        subst e
        exact (str_get l n hnll _).trans hc.symm
      have HD := hid (dig_succ l n hnll)
      rw [← hc] at HD
      have hb := dig_bound l n (Nat.le_of_lt hnll)
      obtain ⟨q, hq⟩ : ∃ q, q = digL (l.take n) := ⟨_, rfl⟩
      rw [← hq] at hb HD ⊢
      have hcl := c.toNat_lt
      have hb2 : -1000000000000 ≤ q ∧ q ≤ 1000000000000 := by
        have hn4 : n = 0 ∨ n = 1 ∨ n = 2 ∨ n = 3 := by omega
        rcases hn4 with rfl | rfl | rfl | rfl <;> simp at hb <;> omega
      have e1 : wrap64 (q * 10) = q * 10 := by unfold wrap64; omega
      have e2 : wrap64 (q * 10 + (c.toNat : Int)) = q * 10 + (c.toNat : Int) := by unfold wrap64; omega
      have e3 : wrap64 (q * 10 + (c.toNat : Int) - 48) = q * 10 + (c.toNat : Int) - 48 := by unfold wrap64; omega
      have e4 : wrap64 (c.toNat : Int) = (c.toNat : Int) := by unfold wrap64; omega
      clear hb hb2 hcl hc hq
      go_wp2
      go_roundw
      case rel => exact ⟨n + 1, hn1.out, by go_num, by rw [HD.out, e3], HR.out⟩
      case measure => (first | (simp [intOf]; done) | (simp [intOf]; omega))
    · obtain rfl : n = L := by have := hn.out; omega
      rw [show l.take n = l by rw [HL.out, List.take_length]]
      obtain ⟨q, hq⟩ : ∃ q, q = digL l := ⟨_, rfl⟩
      rw [← hq]
      go_wp2
      go_ret
      exact ⟨by rw [← hq]; rfl, HR.out⟩
end Go.Proofs.YtnechalhgdmgiaaDoor
