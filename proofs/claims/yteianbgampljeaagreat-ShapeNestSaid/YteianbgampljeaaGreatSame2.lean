/-
  The contract of slices.EqualFunc over two lists of one instruction each. Condition: what the question answers of the two.
-/
import Derived.Test.YteianbgampljeaaGreatSame1
set_option linter.unusedSimpArgs false
set_option linter.unusedVariables false
set_option maxRecDepth 100000
namespace Go.Proofs.YteianbgampljeaaGreat
open Go.RowKit

set_option maxHeartbeats 4000000 in
theorem eqf_ins (k : Nat) (eg : ∀ args w, (callFunc k args).run Tryz.prog w = .ok (.enter k args) w) (r : Bool) (g1 g2 d1 d2 : Nat) (at0 : Int) (at1 : Int) (at2 : Int) (at3 : Nat) (at4 : Nat) (ap5 : Option Addr) (an5 ac5 : Nat) (ap6 : Option Addr) (an6 ac6 : Nat) (ap7 : Option Addr) (an7 ac7 : Nat) (at8 : Bool) (bt0 : Int) (bt1 : Int) (bt2 : Int) (bt3 : Nat) (bt4 : Nat) (bp5 : Option Addr) (bn5 bc5 : Nat) (bp6 : Option Addr) (bn6 bc6 : Nat) (bp7 : Option Addr) (bn7 bc7 : Nat) (bt8 : Bool) (w : World) (hg1 : g1 < w.heap.size) (hg2 : g2 < w.heap.size)
    (h1 : w.cell? ⟨g1, 0, none⟩ = some (.int .i64 at0) ∧ w.cell? ⟨g1, 1, none⟩ = some (.int .i64 at1) ∧ w.cell? ⟨g1, 2, none⟩ = some (.int .i64 at2) ∧ w.cell? ⟨g1, 3, none⟩ = some (.int .u64 (at3 : Nat)) ∧ w.cell? ⟨g1, 4, none⟩ = some (.int .u64 (at4 : Nat)) ∧ w.cell? ⟨g1, 5, none⟩ = some (.slice ap5 an5 ac5) ∧ w.cell? ⟨g1, 6, none⟩ = some (.slice ap6 an6 ac6) ∧ w.cell? ⟨g1, 7, none⟩ = some (.slice ap7 an7 ac7) ∧ w.cell? ⟨g1, 8, none⟩ = some (.bool at8)) (h2 : w.cell? ⟨g2, 0, none⟩ = some (.int .i64 bt0) ∧ w.cell? ⟨g2, 1, none⟩ = some (.int .i64 bt1) ∧ w.cell? ⟨g2, 2, none⟩ = some (.int .i64 bt2) ∧ w.cell? ⟨g2, 3, none⟩ = some (.int .u64 (bt3 : Nat)) ∧ w.cell? ⟨g2, 4, none⟩ = some (.int .u64 (bt4 : Nat)) ∧ w.cell? ⟨g2, 5, none⟩ = some (.slice bp5 bn5 bc5) ∧ w.cell? ⟨g2, 6, none⟩ = some (.slice bp6 bn6 bc6) ∧ w.cell? ⟨g2, 7, none⟩ = some (.slice bp7 bn7 bc7) ∧ w.cell? ⟨g2, 8, none⟩ = some (.bool bt8))
    (hP : ∀ W, Below w.heap.size w W → Calls Tryz.prog k #[.agg #[.int .i64 at0, .int .i64 at1, .int .i64 at2, .int .u64 (at3 : Nat), .int .u64 (at4 : Nat), .slice ap5 an5 ac5, .slice ap6 an6 ac6, .slice ap7 an7 ac7, .bool at8], .agg #[.int .i64 bt0, .int .i64 bt1, .int .i64 bt2, .int .u64 (bt3 : Nat), .int .u64 (bt4 : Nat), .slice bp5 bn5 bc5, .slice bp6 bn6 bc6, .slice bp7 bn7 bc7, .bool bt8]] W fun e w' => e = .returned (.bool r) ∧ Below W.heap.size W w') :
    Calls Tryz.prog 132 #[.slice (some ⟨g1, 0, none⟩) 1 d1, .slice (some ⟨g2, 0, none⟩) 1 d2, .func (.func k) #[] #[]] w fun e w' => e = .returned (.bool r) ∧ Below w.heap.size w w' := by
  have HP := fun W h => hid (hP W h)
  obtain ⟨x0, x1, x2, x3, x4, x5, x6, x7, x8⟩ := h1
  obtain ⟨y0, y1, y2, y3, y4, y5, y6, y7, y8⟩ := h2
  clear hP
  go_enter Tryz.func132, Tryz.ntmps132
  go_wp2
  go_loopw [17] (fun vi wr => (vi = .int .i64 0 ∧ wr = w) ∨ (vi = .int .i64 1 ∧ Hid (r = true ∧ Below w.heap.size w wr))) (fun vi _ => (1 - intOf vi).toNat)
  case atStart => exact .inl ⟨rfl, rfl⟩
  case round =>
    rcases hrel with ⟨rfl, rfl⟩ | ⟨rfl, HI⟩
    · have HB2 := hid (((Below.refl wr.heap.size wr).alloc (Nat.le_refl _) (.cells #[.int .i64 at0, .int .i64 at1, .int .i64 at2, .int .u64 (at3 : Nat), .int .u64 (at4 : Nat), .slice ap5 an5 ac5, .slice ap6 an6 ac6, .slice ap7 an7 ac7, .bool at8] 39)).alloc (by rw [size_al]; omega) (.cells #[.int .i64 bt0, .int .i64 bt1, .int .i64 bt2, .int .u64 (bt3 : Nat), .int .u64 (bt4 : Nat), .slice bp5 bn5 bc5, .slice bp6 bn6 bc6, .slice bp7 bn7 bc7, .bool bt8] 39))
      have hq1 : wr.heap.size ≠ g1 := by omega
      have hq2 : wr.heap.size ≠ g2 := by omega
      have z0 := (((Below.refl wr.heap.size wr).alloc (Nat.le_refl _) (.cells #[.int .i64 at0, .int .i64 at1, .int .i64 at2, .int .u64 (at3 : Nat), .int .u64 (at4 : Nat), .slice ap5 an5 ac5, .slice ap6 an6 ac6, .slice ap7 an7 ac7, .bool at8] 39)).cell (p := ⟨g2, 0, none⟩) hg2).trans y0
      have z1 := (((Below.refl wr.heap.size wr).alloc (Nat.le_refl _) (.cells #[.int .i64 at0, .int .i64 at1, .int .i64 at2, .int .u64 (at3 : Nat), .int .u64 (at4 : Nat), .slice ap5 an5 ac5, .slice ap6 an6 ac6, .slice ap7 an7 ac7, .bool at8] 39)).cell (p := ⟨g2, 1, none⟩) hg2).trans y1
      have z2 := (((Below.refl wr.heap.size wr).alloc (Nat.le_refl _) (.cells #[.int .i64 at0, .int .i64 at1, .int .i64 at2, .int .u64 (at3 : Nat), .int .u64 (at4 : Nat), .slice ap5 an5 ac5, .slice ap6 an6 ac6, .slice ap7 an7 ac7, .bool at8] 39)).cell (p := ⟨g2, 2, none⟩) hg2).trans y2
      have z3 := (((Below.refl wr.heap.size wr).alloc (Nat.le_refl _) (.cells #[.int .i64 at0, .int .i64 at1, .int .i64 at2, .int .u64 (at3 : Nat), .int .u64 (at4 : Nat), .slice ap5 an5 ac5, .slice ap6 an6 ac6, .slice ap7 an7 ac7, .bool at8] 39)).cell (p := ⟨g2, 3, none⟩) hg2).trans y3
      have z4 := (((Below.refl wr.heap.size wr).alloc (Nat.le_refl _) (.cells #[.int .i64 at0, .int .i64 at1, .int .i64 at2, .int .u64 (at3 : Nat), .int .u64 (at4 : Nat), .slice ap5 an5 ac5, .slice ap6 an6 ac6, .slice ap7 an7 ac7, .bool at8] 39)).cell (p := ⟨g2, 4, none⟩) hg2).trans y4
      have z5 := (((Below.refl wr.heap.size wr).alloc (Nat.le_refl _) (.cells #[.int .i64 at0, .int .i64 at1, .int .i64 at2, .int .u64 (at3 : Nat), .int .u64 (at4 : Nat), .slice ap5 an5 ac5, .slice ap6 an6 ac6, .slice ap7 an7 ac7, .bool at8] 39)).cell (p := ⟨g2, 5, none⟩) hg2).trans y5
      have z6 := (((Below.refl wr.heap.size wr).alloc (Nat.le_refl _) (.cells #[.int .i64 at0, .int .i64 at1, .int .i64 at2, .int .u64 (at3 : Nat), .int .u64 (at4 : Nat), .slice ap5 an5 ac5, .slice ap6 an6 ac6, .slice ap7 an7 ac7, .bool at8] 39)).cell (p := ⟨g2, 6, none⟩) hg2).trans y6
      have z7 := (((Below.refl wr.heap.size wr).alloc (Nat.le_refl _) (.cells #[.int .i64 at0, .int .i64 at1, .int .i64 at2, .int .u64 (at3 : Nat), .int .u64 (at4 : Nat), .slice ap5 an5 ac5, .slice ap6 an6 ac6, .slice ap7 an7 ac7, .bool at8] 39)).cell (p := ⟨g2, 7, none⟩) hg2).trans y7
      have z8 := (((Below.refl wr.heap.size wr).alloc (Nat.le_refl _) (.cells #[.int .i64 at0, .int .i64 at1, .int .i64 at2, .int .u64 (at3 : Nat), .int .u64 (at4 : Nat), .slice ap5 an5 ac5, .slice ap6 an6 ac6, .slice ap7 an7 ac7, .bool at8] 39)).cell (p := ⟨g2, 8, none⟩) hg2).trans y8
      cases r with
      | false =>
        go_wp2_with (go_at_fn k; (with_reducible refine (HP _ HB2.out).out.mono ?_); rintro e w3 ⟨rfl, hb3⟩; have HB3 := hid (HB2.out.trans (hb3.mono HB2.out.size)); clear hb3)
        go_ret
        exact ⟨rfl, HB3.out⟩
      | true =>
        go_wp2_with (go_at_fn k; (with_reducible refine (HP _ HB2.out).out.mono ?_); rintro e w3 ⟨rfl, hb3⟩; have HB3 := hid (HB2.out.trans (hb3.mono HB2.out.size)); clear hb3)
        go_roundw
        case rel => exact .inr ⟨rfl, (by first | exact ⟨rfl, HB3.out⟩ | exact ⟨trivial, HB3.out⟩)⟩
        case measure => simp [intOf]
    · obtain ⟨rfl, hb⟩ := HI.out
      have HB := hid hb
      clear hb HI
      go_wp2
      go_ret
      exact ⟨rfl, HB.out⟩
end Go.Proofs.YteianbgampljeaaGreat
