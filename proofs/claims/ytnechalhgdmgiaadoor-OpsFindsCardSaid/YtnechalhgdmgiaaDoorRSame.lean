/-
  The contract of the reference's Same: any two rows of numbers in memory.
-/
import Derived.Test.YtnechalhgdmgiaaDoorOpsAll0
import Derived.RegionTactic
set_option linter.unusedSimpArgs false
set_option linter.unusedVariables false
namespace Go.Proofs.YtnechalhgdmgiaaDoor
open Go.RowKit

/-- A row of numbers as it lies in memory. -/
def RowOf (w : World) (v : Value) (l : List Int) : Prop := ∃ p cap, v = .slice p l.length cap ∧ ∀ k, k < l.length → ∃ g, p = some ⟨g, 0, none⟩ ∧ w.cell? ⟨g, k, none⟩ = some (.int .i64 (l.getD k 0))
theorem row_of {w : World} {B : Nat} {v : Value} {l : List Int} (h : w.ownsRow B 3 1 v l.length (ic l)) : RowOf w v l := by
  rcases h.2 with ⟨rfl, h2⟩ | ⟨g, cap, cur, rfl, h2⟩
  · exact ⟨none, 0, by rw [h2], fun k hk => by omega⟩
  · refine ⟨_, cap, rfl, fun k hk => ⟨g, rfl, ?_⟩⟩
    have := World.ownsRow.cellAt h k (by omega)
    rw [this]
    simp only [ic, List.getElem?_map, List.getElem?_eq_getElem hk, Option.map_some, List.getD_eq_getElem?_getD]
    rfl
theorem take_eq_succ {a b : List Int} (hl : a.length = b.length) {n : Nat} (h : n < a.length) (ht : a.take n = b.take n) (he : a.getD n 0 = b.getD n 0) : a.take (n + 1) = b.take (n + 1) := by
  rw [List.take_add_one, List.take_add_one, ht, List.getElem?_eq_getElem h, List.getElem?_eq_getElem (show n < b.length by omega)]
  rw [List.getD_eq_getElem?_getD, List.getD_eq_getElem?_getD, List.getElem?_eq_getElem h, List.getElem?_eq_getElem (show n < b.length by omega)] at he
  simp at he
  rw [he]
theorem ne_at {a b : List Int} {n : Nat} (he : ¬ a.getD n 0 = b.getD n 0) : ¬ a = b := fun h => he (by rw [h])

theorem cell_lt {w : World} {g k : Nat} {v : Value} (h : w.cell? ⟨g, k, none⟩ = some v) : g < w.heap.size := by
  rcases Nat.lt_or_ge g w.heap.size with h1 | h1
  · exact h1
  · rw [World.cell?, Array.getElem?_eq_none h1] at h; cases h
theorem cell_kept {w w' : World} {g k : Nat} {v : Value} (hb : Below w.heap.size w w') (h : w.cell? ⟨g, k, none⟩ = some v) : w'.cell? ⟨g, k, none⟩ = some v := by
  rw [hb.cell (p := ⟨g, k, none⟩) (cell_lt h), h]
theorem RowOf.kept {w w' : World} {v : Value} {l : List Int} (h : RowOf w v l) (hb : Below w.heap.size w w') : RowOf w' v l := by
  obtain ⟨p, cap, rfl, h⟩ := h
  exact ⟨p, cap, rfl, fun k hk => by obtain ⟨g, e, hc⟩ := h k hk; exact ⟨g, e, cell_kept hb hc⟩⟩

set_option maxHeartbeats 4000000 in
theorem same_says (va vb : Value) (a b : List Int) (w : World) (hla : a.length ≤ 1000000) (ha : RowOf w va a) (hb : RowOf w vb b) : Calls Tryd.prog 14 #[va, vb] w fun e w' => e = .returned (.bool (decide (a = b))) ∧ Below w.heap.size w w' := by
  obtain ⟨pa, ca, rfl, HA⟩ := ha
  obtain ⟨pb, cb, rfl, HB⟩ := hb
  obtain ⟨na, hna⟩ : ∃ n, n = a.length := ⟨_, rfl⟩
  obtain ⟨nb, hnb⟩ : ∃ n, n = b.length := ⟨_, rfl⟩
  rw [← hna] at HA hla ⊢
  rw [← hnb] at HB ⊢
  by_cases hn : na = nb
  · subst hn
    have HA2 := hid HA
    have HB2 := hid HB
    have HNA := hid hna
    have HNB := hid hnb
    clear HA HB hna hnb
    go_enter Tryd.func14, Tryd.ntmps14
    go_wp2
    go_loopw [5] (fun vi wr => ∃ n : Nat, Hid (n ≤ na ∧ a.take n = b.take n) ∧ vi = .int .i64 n ∧ Hid (Below w.heap.size w wr)) (fun vi _ => na - (intOf vi).toNat)
    case atStart => exact ⟨0, ⟨Nat.zero_le _, rfl⟩, rfl, Below.refl _ _⟩
    case round =>
      obtain ⟨n, hnn, rfl, HR⟩ := hrel
      by_cases hlt : n < na
      · obtain ⟨ga, rfl, hca⟩ := HA2.out n hlt
        obtain ⟨gb, rfl, hcb⟩ := HB2.out n hlt
        obtain ⟨x, hx⟩ : ∃ x, x = a.getD n 0 := ⟨_, rfl⟩
        obtain ⟨y, hy⟩ : ∃ y, y = b.getD n 0 := ⟨_, rfl⟩
        rw [← hx] at hca
        rw [← hy] at hcb
        have HX := hid hx
        have HY := hid hy
        clear hx hy
        have hca2 := cell_kept HR.out hca
        have hcb2 := cell_kept HR.out hcb
        clear hca hcb
        by_cases hxy : x = y
        · have hxyb : (x != y) = false := by simp [hxy]
          have HXY := hid hxy
          have hn1 := hid (show n + 1 ≤ na ∧ a.take (n + 1) = b.take (n + 1) from ⟨by omega, take_eq_succ (by rw [← HNA.out, ← HNB.out]) (by rw [← HNA.out]; exact hlt) hnn.out.2 (by rw [← HX.out, ← HY.out]; exact hxy)⟩)
          clear hxy
          go_wp2_with fail
          go_region
          go_wp2
          go_roundw
          case rel => exact ⟨n + 1, hn1.out, by go_num, HR.out.drew⟩
          case measure => (first | (simp [intOf]; done) | (simp [intOf]; omega))
        · have hxyb : (x != y) = true := by simp [hxy]
          have hne := hid (show decide (a = b) = false from decide_eq_false (ne_at (by rw [← HX.out, ← HY.out]; exact hxy)))
          clear hxy
          go_wp2_with fail
          go_region
          go_wp2
          go_ret
          exact ⟨by rw [hne.out]; rfl, HR.out.drew⟩
      · obtain rfl : n = na := by have := hnn.out; omega
        have he := hid (show decide (a = b) = true from decide_eq_true (by
          have h := hnn.out.2
          rw [HNA.out, List.take_length, ← HNA.out, HNB.out, List.take_length] at h
          exact h))
        go_wp2
        go_ret
        exact ⟨by rw [he.out]; rfl, HR.out⟩
  · have hne := hid (show decide (a = b) = false from decide_eq_false (fun h => hn (by rw [hna, hnb, h])))
    have hnx : ((na : Int) != (nb : Int)) = true := by simp; omega
    clear HA HB hna hnb
    go_enter Tryd.func14, Tryd.ntmps14
    go_wp2
    go_ret
    exact ⟨by rw [hne.out]; rfl, Below.refl _ _⟩
end Go.Proofs.YtnechalhgdmgiaaDoor
