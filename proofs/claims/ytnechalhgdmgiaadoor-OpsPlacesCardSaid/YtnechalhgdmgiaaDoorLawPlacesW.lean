/-
  The walk of the law on places and lanes: it answers true. Condition: the tables hold what their text lays.
-/
import Derived.Test.YtnechalhgdmgiaaDoorRLanes
set_option linter.unusedSimpArgs false
set_option linter.unusedVariables false
namespace Go.Proofs.YtnechalhgdmgiaaDoor
open Go.RowKit

set_option maxHeartbeats 4000000 in
theorem law_places (op : Int) (w : World) (hg : Glob w) :
    Calls Tryd.prog 6 #[.int .i64 op] w fun e w' => e = .returned (.bool true) ∧ Below w.heap.size w w' := by
  obtain ⟨ha, hl, _⟩ := agreeP_parts op rfl
  have HG := hid hg
  have H16 := fun W (hW : Glob W) => hid (Align_says op W hW)
  have H17 := fun W => hid (RAlign_says op W)
  have H18 := fun W (hW : Glob W) => hid (Lanes_says op W hW)
  have H19 := fun W => hid (RLanes_says op W)
  rw [← ha] at H17
  rw [← hl] at H19
  obtain ⟨A, hA⟩ : ∃ A, A = alignL op := ⟨_, rfl⟩
  obtain ⟨L, hL⟩ : ∃ L, L = lanesL op := ⟨_, rfl⟩
  rw [← hA] at H16 H17
  rw [← hL] at H18 H19
  clear hg ha hl hA hL
  rename_i q1
  clear q1
  go_enter Tryd.func6, Tryd.ntmps6
  go_wp2_with fail
  refine (awake_says _ HG.out).mono ?_
  rintro e w1 ⟨rfl, hb⟩
  have HB1 := hid hb
  have HG1 := hid (HG.out.next hb)
  clear hb
  go_wp2_with fail
  refine (H16 _ HG1.out).out.mono ?_
  rintro e w2 ⟨rfl, hb⟩
  have HB2 := hid (HB1.out.trans (hb.mono HB1.out.size))
  clear hb
  go_wp2_with fail
  refine (H17 _).out.mono ?_
  rintro e w3 ⟨rfl, hb⟩
  have HB3 := hid (HB2.out.trans (hb.mono HB2.out.size))
  have HG3 := hid (HG.out.next HB3.out)
  clear hb
  go_wp2_with fail
  refine (H18 _ HG3.out).out.mono ?_
  rintro e w4 ⟨rfl, hb⟩
  have HB4 := hid (HB3.out.trans (hb.mono HB3.out.size))
  clear hb
  go_wp2_with fail
  refine (H19 _).out.mono ?_
  rintro e w5 ⟨rfl, hb⟩
  have HB5 := hid (HB4.out.trans (hb.mono HB4.out.size))
  clear hb
  go_wp2_with fail
  go_ret
  exact ⟨rfl, HB5.out⟩
end Go.Proofs.YtnechalhgdmgiaaDoor
