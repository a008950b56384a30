/-
  The contract of the laws' own examples: they hold. Condition: the tables hold what their text lays.
-/
import Derived.Test.YtnechalhgdmgiaaDoorSign
import Derived.Test.YtnechalhgdmgiaaDoorPlaces
import Derived.Test.YtnechalhgdmgiaaDoorFind
set_option linter.unusedSimpArgs false
set_option linter.unusedVariables false
namespace Go.Proofs.YtnechalhgdmgiaaDoor
open Go.RowKit

def addS : ByteArray := ⟨#[105, 51, 50, 46, 97, 100, 100]⟩
set_option maxRecDepth 100000 in
theorem add_only : (rangeOps.all fun op => !((lineL op).1.toList == addS.toList) || op == 106) = true := by kernel_rfl
theorem line_106 : lineL 106 = (addS, 0, 8, 2) := by kernel_rfl
theorem at_106 : rangeOps[106]? = some 106 := by kernel_rfl

theorem find_add (w : World) (hg : Glob w) : Calls Tryd.prog 20 #[.string ⟨#[105, 51, 50, 46, 97, 100, 100]⟩] w fun e w' => e = .returned (.tuple #[.int .i64 106, .bool true]) ∧ Below w.heap.size w w' := by
  refine (Find_says addS (by decide +kernel) w hg).mono ?_
  rintro e w' ⟨h, hb⟩
  refine ⟨?_, hb⟩
  rcases h with ⟨n, op, hop, hno, hname, rfl⟩ | ⟨hno, _⟩
  · have hin : op ∈ rangeOps := List.mem_of_getElem? hop
    have := List.all_eq_true.1 add_only op hin
    rw [hname] at this
    simp at this
    rw [this]
  · exact absurd (by rw [line_106]) (hno 106 106 (by decide) at_106)

theorem sign_106 (w : World) (hg : Glob w) : Calls Tryd.prog 10 #[.int .i64 106] w (SignPost w [127, 127] [127]) := by
  have := sign_yes 106 w (by rw [line_106]; rfl) hg
  rw [line_106] at this
  exact this

set_option maxHeartbeats 4000000 in
theorem awake_says (w : World) (hg : Glob w) : Calls Tryd.prog 8 #[] w fun e w' => e = .returned (.bool true) ∧ Below w.heap.size w w' := by
  have HG := hid hg
  have H12 := fun W => hid (Name_says 64878 W)
  rw [show (lineL 64878).1 = ⟨#[105, 56, 120, 49, 54, 46, 97, 100, 100]⟩ by kernel_rfl] at H12
  have H16 := fun W (hW : Glob W) => hid (Align_says 64769 W hW)
  rw [show alignL 64769 = 3 by kernel_rfl] at H16
  have H18 := fun W (hW : Glob W) => hid (Lanes_says 64781 W hW)
  rw [show lanesL 64781 = 32 by kernel_rfl] at H18
  have H110 := fun W => hid (Known_says 0 W)
  rw [show knB (lineL 0) = true by kernel_rfl] at H110
  have H116 := fun W => hid (Known_says 6 W)
  rw [show knB (lineL 6) = false by kernel_rfl] at H116
  have H13 := fun W => hid (Imm_says 106 W)
  rw [line_106] at H13
  dsimp only at H13
  clear hg
  go_enter Tryd.func8, Tryd.ntmps8
  go_wp2_with fail
  refine (find_add _ HG.out).mono ?_
  rintro e w1 ⟨rfl, hb⟩
  have HB1 := hid hb
  have HG1 := hid (HG.out.next hb)
  clear hb
  go_wp2_with fail
  refine (sign_106 _ HG1.out).mono ?_
  rintro e w2 ⟨v1, v2, B, rfl, ho1, ho2, hB, _, hb⟩
  have HB2 := hid (HB1.out.trans (hb.mono HB1.out.size))
  have HG2 := hid (HG1.out.next hb)
  rcases ho1.2 with ⟨_, h⟩ | ⟨g1, cap1, cur1, rfl, _, _, _, _, _, _⟩
  · simp at h
  rcases ho2.2 with ⟨_, h⟩ | ⟨g2, cap2, cur2, rfl, _, _, _, _, _, _⟩
  · simp at h
  have HO1 := hid ho1
  clear ho1 ho2 hb hB
  go_wp2_with fail
  refine (H12 _).out.mono ?_
  rintro e w3 ⟨rfl, hb⟩
  have HB3 := hid (HB2.out.trans (hb.mono HB2.out.size))
  have HG3 := hid (HG2.out.next hb)
  have hc : w3.cell? ⟨g1, 0, none⟩ = some (.int .i64 127) := by
    have := (own_below HO1.out hb (Nat.le_refl _)).cellAt 0 (by simp)
    rw [this]; rfl
  clear hb
  go_wp2_with fail
  refine (H16 _ HG3.out).out.mono ?_
  rintro e w4 ⟨rfl, hb⟩
  have HB4 := hid (HB3.out.trans (hb.mono HB3.out.size))
  have HG4 := hid (HG3.out.next hb)
  clear hb hc
  go_wp2_with fail
  refine (H18 _ HG4.out).out.mono ?_
  rintro e w5 ⟨rfl, hb⟩
  have HB5 := hid (HB4.out.trans (hb.mono HB4.out.size))
  clear hb
  go_wp2_with fail
  refine (H110 _).out.mono ?_
  rintro e w6 ⟨rfl, hb⟩
  have HB6 := hid (HB5.out.trans (hb.mono HB5.out.size))
  clear hb
  go_wp2_with fail
  refine (H116 _).out.mono ?_
  rintro e w7 ⟨rfl, hb⟩
  have HB7 := hid (HB6.out.trans (hb.mono HB6.out.size))
  clear hb
  go_wp2_with fail
  refine (H13 _).out.mono ?_
  rintro e w8 ⟨rfl, hb⟩
  have HB8 := hid (HB7.out.trans (hb.mono HB7.out.size))
  clear hb
  go_wp2_with fail
  go_ret
  exact ⟨rfl, HB8.out⟩
end Go.Proofs.YtnechalhgdmgiaaDoor
