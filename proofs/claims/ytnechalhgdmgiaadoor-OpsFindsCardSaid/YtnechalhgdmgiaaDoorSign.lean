/-
  The contract of the program's Sign: any number. Condition: the tables hold what their text lays.
-/
import Derived.Test.YtnechalhgdmgiaaDoorTypes
import Derived.Deep.RegionWith
import Derived.Deep.RegionHeld3
set_option linter.unusedSimpArgs false
set_option linter.unusedVariables false
namespace Go.Proofs.YtnechalhgdmgiaaDoor
open Go.RowKit

theorem sign_no (op : Int) (w : World) (hf : fxB (lineL op) = false) : Calls Tryd.prog 10 #[.int .i64 op] w fun e w' => e = .returned (.tuple #[.slice none 0 0, .slice none 0 0, .bool false]) ∧ Below w.heap.size w w' := by
  obtain ⟨⟨s, a, b, c⟩, hr⟩ : ∃ r, r = lineL op := ⟨_, rfl⟩
  have H := fun W => hid (line_says op W)
  rw [← hr] at H hf
  have HK := fun W => hid (fixed_says (s, a, b, c) W)
  rw [hf] at HK
  clear hr hf
  go_enter Tryd.func10, Tryd.ntmps10
  go_wp2_with (first | (go_at_call 29; refine (H _).out.mono ?_; rintro e w1 ⟨rfl, hb⟩; unfold lnV) | (go_at_call 30; refine (HK _).out.mono ?_; rintro e w2 ⟨rfl, hb2⟩))
  go_ret3
  exact ⟨rfl, (hb.trans ((Below.refl _ _).alloc hb.size _)).trans (hb2.mono (by simp; have := hb.size; omega))⟩

theorem Glob.drew {w : World} (h : Glob w) : Glob w.drew := h.below ((Below.refl 6 w).drew) (Nat.le_refl _)

theorem _root_.Go.RowKit.Below.drew0 {B : Nat} {w w' : World} (h : Below B w.drew w') : Below B w w' := ⟨h.os, h.tape, h.output, h.size, h.block⟩

/-- Two lists in new memory, apart. -/
def SignPost (w : World) (la lb : List Int) (e : Ending) (w' : World) : Prop :=
  ∃ v1 v2 B, e = .returned (.tuple #[v1, v2, .bool true]) ∧ w'.ownsRow w.heap.size 3 1 v1 la.length (ic la) ∧ w'.ownsRow B 3 1 v2 lb.length (ic lb) ∧ w.heap.size ≤ B ∧ (∀ k, v1.ownBlock = some k → k < B) ∧ Below w.heap.size w w'

set_option maxHeartbeats 4000000 in
theorem sign_yes (op : Int) (w : World) (hf : fxB (lineL op) = true) (hg : Glob w) : Calls Tryd.prog 10 #[.int .i64 op] w (SignPost w (typesL (lineL op).2.2.1.toNat) (typesL (lineL op).2.2.2.toNat)) := by
  obtain ⟨_, _, hb0, hb1, hc0, hc1⟩ := line_ok op
  obtain ⟨⟨s, a, b, c⟩, hr⟩ : ∃ r, r = lineL op := ⟨_, rfl⟩
  have H := fun W => hid (line_says op W)
  rw [← hr] at H hf hb0 hb1 hc0 hc1 ⊢
  have HK := fun W => hid (fixed_says (s, a, b, c) W)
  rw [hf] at HK
  clear hr hf
  dsimp only at hb0 hb1 hc0 hc1 ⊢
  obtain ⟨b, rfl⟩ : ∃ n : Nat, b = n := ⟨b.toNat, by omega⟩
  obtain ⟨c, rfl⟩ : ∃ n : Nat, c = n := ⟨c.toNat, by omega⟩
  have HB := fun W (hW : Glob W) => hid (types_says b (by omega) W hW)
  have HC := fun W (hW : Glob W) => hid (types_says c (by omega) W hW)
  rw [Int.toNat_natCast, Int.toNat_natCast]
  obtain ⟨la, hla⟩ : ∃ l, l = typesL b := ⟨_, rfl⟩
  obtain ⟨lb, hlb⟩ : ∃ l, l = typesL c := ⟨_, rfl⟩
  rw [← hla] at HB ⊢
  rw [← hlb] at HC ⊢
  have HG := hid hg
  clear hg hla hlb
  go_enter Tryd.func10, Tryd.ntmps10
  go_wp2_with (first | (go_at_call 29; refine (H _).out.mono ?_; rintro e w1 ⟨rfl, hb⟩; unfold lnV) | (go_at_call 30; refine (HK _).out.mono ?_; rintro e w2 ⟨rfl, hb2⟩))
  obtain ⟨hc, hf⟩ := bcell hb2
  have hb3 : Below w.heap.size w w2 := (hb.trans ((Below.refl _ _).alloc hb.size _)).trans (hb2.mono (by simp; have := hb.size; omega))
  have HW2 := hid (HG.out.next hb3)
  have HB3 := hid hb3
  have hk1 : w2.cell? ⟨w1.heap.size, 2, none⟩ = some (.int .u8 b) := by rw [hc _ _ (by simp)]; simp
  have hk2 : w2.cell? ⟨w1.heap.size, 3, none⟩ = some (.int .u8 c) := by rw [hc _ _ (by simp)]; simp
  have hlt : w1.heap.size < w2.heap.size := by have := hb2.size; simp at this; omega
  clear hc hf hb3 hb2 hb
  go_region_with (first
    | (go_at_call 31; ((with_reducible refine (HB _ (by first | exact HW2.out | exact HW2.out.drew)).out.mono ?_); rintro e w3 ⟨v1, rfl, hown1, hb4⟩; obtain ⟨hc4, hf4⟩ := bcell hb4; have hk3 : w3.cell? ⟨w1.heap.size, 3, none⟩ = some (.int .u8 c) := (hc4 _ _ (by first | exact hlt | simpa using hlt)).trans (by first | exact hk2 | simpa using hk2); have HO1 := hid hown1; have HB4 := hid hb4; clear hown1 hb4 hf4 hc4))
    | (go_at_call 31; ((with_reducible refine (HC _ (by first | exact HW2.out.next HB4.out | exact HW2.out.drew.next HB4.out)).out.mono ?_); rintro e w4 ⟨v2, rfl, hown2, hb5⟩; have HO2 := hid hown2; have HB5 := hid hb5; clear hown2 hb5)))
  all_goals
    go_wp2
    refine bodyPost_ret (v := .tuple #[v1, v2, .bool true]) (by kernel_rfl) (by rfl) ?_
    refine ⟨v1, v2, w3.heap.size, rfl, own_mono (own_below HO1.out HB5.out (Nat.le_refl _)) HB3.out.size, HO2.out, Nat.le_trans HB3.out.size HB4.out.size, fun k hk => (HO1.out.lt k hk).2, ?_⟩
    exact (HB3.out.trans ((HB4.out.mono HB3.out.size).drew0)).trans (HB5.out.mono (Nat.le_trans HB3.out.size HB4.out.size))
end Go.Proofs.YtnechalhgdmgiaaDoor
