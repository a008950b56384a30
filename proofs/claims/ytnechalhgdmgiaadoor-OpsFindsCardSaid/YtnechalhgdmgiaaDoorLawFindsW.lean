/-
  The walk of the law on finding: it answers true. Condition: the tables hold what their text lays.
-/
import Derived.Test.YtnechalhgdmgiaaDoorRFind
set_option linter.unusedSimpArgs false
set_option linter.unusedVariables false
namespace Go.Proofs.YtnechalhgdmgiaaDoor
open Go.RowKit

set_option maxHeartbeats 4000000 in
set_option maxRecDepth 100000 in
theorem law_finds (s0 : ByteArray) (op : Int) (w : World) (hg : Glob w) :
    Calls Tryd.prog 4 #[.string s0, .int .i64 op] w fun e w' => e = .returned (.bool true) ∧ Below w.heap.size w w' := by
  have HG := hid hg
  clear hg
  obtain ⟨ro, nm, im, tk, lv, fx, hr⟩ : ∃ ro nm im tk lv fx, ofL op = (ro, nm, im, tk, lv, fx) := ⟨_, _, _, _, _, _, rfl⟩
  have HOf := fun W => hid (Of_says op W)
  rw [hr] at HOf
  have HF := fun W (hW : Glob W) => hid (Find_any s0 W hW)
  have HRF := fun W => hid (RFind_says s0 W)
  have HF2 := fun W (hW : Glob W) => hid (Find_any (str nm) W hW)
  have HRF2 := fun W => hid (RFind_says (str nm) W)
  obtain ⟨x, hx⟩ : ∃ x, x = (findR s0).1 := ⟨_, rfl⟩
  obtain ⟨f, hf⟩ : ∃ f, f = (findR s0).2 := ⟨_, rfl⟩
  obtain ⟨z, hz⟩ : ∃ z, z = (findR (str nm)).1 := ⟨_, rfl⟩
  obtain ⟨f2, hf2⟩ : ∃ f, f = (findR (str nm)).2 := ⟨_, rfl⟩
  rw [← hx, ← hf] at HF HRF
  rw [← hz, ← hf2] at HF2 HRF2
  clear hx hf hz hf2 hr
  go_enter Tryd.func4, Tryd.ntmps4
  go_wp2_with fail
  refine (awake_says _ HG.out).mono ?_
  rintro e w1 ⟨rfl, hb⟩
  have HB1 := hid hb
  have HG1 := hid (HG.out.next hb)
  clear hb
  go_wp2_with fail
  refine (HF _ HG1.out).out.mono ?_
  rintro e w2 ⟨rfl, hb⟩
  have HB2 := hid (HB1.out.trans (hb.mono HB1.out.size))
  clear hb
  go_wp2_with fail
  refine (HRF _).out.mono ?_
  rintro e w3 ⟨rfl, hb⟩
  have HB3 := hid (HB2.out.trans (hb.mono HB2.out.size))
  clear hb
  go_upto_region 7 with (go_at_call 9; refine (HOf _).out.mono ?_; rintro e w4 ⟨rfl, hb⟩; unfold rwV)
  have HB4 := hid (HB3.out.trans (hb.mono HB3.out.size))
  clear hb HOf HF HRF
  have HR5 : Hid (RB w4.heap.size (ro, nm, im, tk, lv, fx) (w4.alloc (.cells (rwCells (ro, nm, im, tk, lv, fx)) 24))) := RB.newr _ _
  have HB5 := hid (HB4.out.alloc HB4.out.size (.cells (rwCells (ro, nm, im, tk, lv, fx)) 24))
  simp only [rwCells] at HR5 HB5
  generalize w4.alloc (.cells #[.int .i64 ro, .string (str nm), .int .i64 im, .string (str tk), .string (str lv), .bool fx] 24) = w5 at *
  generalize w4.heap.size = gr at *
  clear HB4
  have HG5 := hid (HG.out.next HB5.out)
  have x1 := HR5.out.cells.2.1
  dsimp only at x1
  go_wp2_with fail
  refine (HF2 _ HG5.out).out.mono ?_
  rintro e w6 ⟨rfl, hb⟩
  have HB6 := hid (HB5.out.trans (hb.mono HB5.out.size))
  have HR6 := hid (HR5.out.call hb)
  clear hb x1
  have x1 := HR6.out.cells.2.1
  dsimp only at x1
  go_wp2_with fail
  refine (HRF2 _).out.mono ?_
  rintro e w8 ⟨rfl, hb⟩
  have HB8 := hid (HB6.out.trans (hb.mono HB6.out.size))
  have HR8 := hid (HR6.out.call hb)
  clear hb x1 HF2 HRF2
  have x1 := HR8.out.cells.2.1
  dsimp only at x1
  obtain ⟨s2, hs2⟩ : ∃ s, s = str nm := ⟨_, rfl⟩
  rw [← hs2] at x1
  clear hs2
  go_upto_region 9 with fail
  cases hE0 : s0.toList.isEmpty
  · skip
    cases hE1 : s2.toList.isEmpty
    · go_wp2
      go_ret
      exact ⟨rfl, HB8.out⟩
    · cases f2
      · go_wp2
        go_ret
        exact ⟨rfl, HB8.out⟩
      · go_wp2
        go_ret
        exact ⟨rfl, HB8.out⟩
  · cases f
    · cases hz0 : (x == 0)
      · skip
        cases hE1 : s2.toList.isEmpty
        · go_wp2
          go_ret
          exact ⟨rfl, HB8.out⟩
        · cases f2
          · go_wp2
            go_ret
            exact ⟨rfl, HB8.out⟩
          · go_wp2
            go_ret
            exact ⟨rfl, HB8.out⟩
      · skip
        cases hE1 : s2.toList.isEmpty
        · go_wp2
          go_ret
          exact ⟨rfl, HB8.out⟩
        · cases f2
          · go_wp2
            go_ret
            exact ⟨rfl, HB8.out⟩
          · go_wp2
            go_ret
            exact ⟨rfl, HB8.out⟩
    · skip
      cases hE1 : s2.toList.isEmpty
      · go_wp2
        go_ret
        exact ⟨rfl, HB8.out⟩
      · cases f2
        · go_wp2
          go_ret
          exact ⟨rfl, HB8.out⟩
        · go_wp2
          go_ret
          exact ⟨rfl, HB8.out⟩
end Go.Proofs.YtnechalhgdmgiaaDoor
