/-
  The contracts of the program's Align and Lanes: any number. Condition: the tables hold what their text lays.
-/
import Derived.Test.YtnechalhgdmgiaaDoorOpsAll0
set_option linter.unusedSimpArgs false
set_option linter.unusedVariables false
namespace Go.Proofs.YtnechalhgdmgiaaDoor
open Go.RowKit

/-- How great the place is. -/
noncomputable def alignL (op : Int) : Int :=
  if ¬ (lineL op).2.1 = 10 ∧ ¬ (lineL op).2.1 = 26 then -1 else if op < 64512 then glob0.getD (op - 40).toNat 0 else if op < 64852 then glob1.getD (op - 64768).toNat 0 else glob2.getD (op - 64768 - 84).toNat 0
/-- How many lanes there are to choose from. -/
noncomputable def lanesL (op : Int) : Int :=
  if (lineL op).2.1 = 25 then glob3.getD (op - 64768 - 21).toNat 0 else if (lineL op).2.1 = 26 then (16 >>> (alignL op).toNat : Nat) else if (lineL op).2.1 = 24 then 32 else 0

/-- Where an instruction reads or writes, its number is in one of three rows; its lanes likewise. -/
noncomputable def placeOk (op : Int) : Bool :=
  (!((lineL op).2.1 == 10 || (lineL op).2.1 == 26) || (decide (40 ≤ op) && decide (op < 63)) || (decide (64768 ≤ op) && decide (op < 64780)) || (decide (64852 ≤ op) && decide (op < 64862))) &&
  (!((lineL op).2.1 == 25) || (decide (64789 ≤ op) && decide (op < 64803))) && (!((lineL op).2.1 == 26) || (decide (0 ≤ alignL op) && decide (alignL op < 5)))
set_option maxRecDepth 100000 in
theorem place_all : (rangeOps.all placeOk) = true := by kernel_rfl
theorem place_ok (op : Int) : ((lineL op).2.1 = 10 ∨ (lineL op).2.1 = 26 → (40 ≤ op ∧ op < 63) ∨ (64768 ≤ op ∧ op < 64780) ∨ (64852 ≤ op ∧ op < 64862)) ∧ ((lineL op).2.1 = 25 → 64789 ≤ op ∧ op < 64803) ∧ ((lineL op).2.1 = 26 → 0 ≤ alignL op ∧ alignL op < 5) := by
  by_cases hin : op ∈ rangeOps
  · have := List.all_eq_true.1 place_all op hin
    unfold placeOk at this
    simp only [Bool.and_eq_true, Bool.or_eq_true, Bool.not_eq_true', decide_eq_true_eq, Bool.or_eq_false_iff, beq_eq_false_iff_ne] at this
    obtain ⟨⟨h1, h2⟩, h3⟩ := this
    refine ⟨fun h => ?_, fun h => ?_, fun h => ?_⟩
    · rcases h1 with ((h1 | h1) | h1) | h1
      · rcases h with h | h
        · exact absurd h h1.1
        · exact absurd h h1.2
      · exact .inl h1
      · exact .inr (.inl h1)
      · exact .inr (.inr h1)
    · rcases h2 with h2 | h2
      · exact absurd h h2
      · exact h2
    · rcases h3 with h3 | h3
      · exact absurd h h3
      · exact h3
  · rw [lineL_out op hin]
    exact ⟨fun h => by rcases h with h | h <;> exact absurd h (by decide), fun h => absurd h (by decide), fun h => absurd h (by decide)⟩

set_option maxHeartbeats 1000000 in
theorem Align_says (op : Int) (w : World) (hg : Glob w) : Calls Tryd.prog 16 #[.int .i64 op] w fun e w' => e = .returned (.int .i64 (alignL op)) ∧ Below w.heap.size w w' := by
  obtain ⟨hp, _, _⟩ := place_ok op
  have HI := fun W => hid (Imm_says op W)
  have HG := hid hg
  obtain ⟨m, hm⟩ : ∃ m, m = (lineL op).2.1 := ⟨_, rfl⟩
  have HA : alignL op = if ¬ m = 10 ∧ ¬ m = 26 then -1 else if op < 64512 then glob0.getD (op - 40).toNat 0 else if op < 64852 then glob1.getD (op - 64768).toNat 0 else glob2.getD (op - 64768 - 84).toNat 0 := by rw [hm]; rfl
  rw [← hm] at HI hp
  obtain ⟨A, hA⟩ : ∃ A, A = alignL op := ⟨_, rfl⟩
  rw [← hA] at HA ⊢
  clear hm hg hA
  by_cases hmm : m = 10 ∨ m = 26
  · have hp := hp hmm
    rw [if_neg (by omega)] at HA
    rcases hp with ⟨p0, p1⟩ | ⟨p0, p1⟩ | ⟨p0, p1⟩
    · rw [if_pos (by omega)] at HA
      have HX := hid HA
      clear HA
      have hlt : op < 64512 := by omega
      rcases hmm with rfl | rfl
      all_goals
        go_enter Tryd.func16, Tryd.ntmps16
        go_wp2_with (go_at_call 13; refine (HI _).out.mono ?_; rintro e w1 ⟨rfl, hb⟩; have hc := (HG.out.next hb).c0 (op - 40).toNat (by omega); rw [← HX.out] at hc)
        go_ret
        exact ⟨rfl, hb⟩
    · rw [if_neg (by omega), if_pos (by omega)] at HA
      have HX := hid HA
      clear HA
      have hge : ¬ op < 64512 := by omega
      have hlt : op < 64852 := by omega
      rcases hmm with rfl | rfl
      all_goals
        go_enter Tryd.func16, Tryd.ntmps16
        go_wp2_with (go_at_call 13; refine (HI _).out.mono ?_; rintro e w1 ⟨rfl, hb⟩; have hc := (HG.out.next hb).c1 (op - 64768).toNat (by omega); rw [← HX.out] at hc)
        go_ret
        exact ⟨rfl, hb⟩
    · rw [if_neg (by omega), if_neg (by omega)] at HA
      have HX := hid HA
      clear HA
      have hge : ¬ op < 64512 := by omega
      have hge2 : ¬ op < 64852 := by omega
      rcases hmm with rfl | rfl
      all_goals
        go_enter Tryd.func16, Tryd.ntmps16
        go_wp2_with (go_at_call 13; refine (HI _).out.mono ?_; rintro e w1 ⟨rfl, hb⟩; have hc := (HG.out.next hb).c2 (op - 64768 - 84).toNat (by omega); rw [← HX.out] at hc)
        go_ret
        exact ⟨rfl, hb⟩
  · rw [if_pos (by omega)] at HA
    have e1 : (m != 10) = true := by simp; omega
    have e2 : (m != 26) = true := by simp; omega
    have HX := hid HA
    clear HA hmm hp
    go_enter Tryd.func16, Tryd.ntmps16
    go_wp2_with (go_at_call 13; refine (HI _).out.mono ?_; rintro e w1 ⟨rfl, hb⟩)
    go_ret
    exact ⟨by rw [HX.out]; rfl, hb⟩

set_option maxHeartbeats 1000000 in
theorem Lanes_says (op : Int) (w : World) (hg : Glob w) : Calls Tryd.prog 18 #[.int .i64 op] w fun e w' => e = .returned (.int .i64 (lanesL op)) ∧ Below w.heap.size w w' := by
  obtain ⟨_, hp, hq⟩ := place_ok op
  have HI := fun W => hid (Imm_says op W)
  have HB := fun W (hW : Glob W) => hid (Align_says op W hW)
  have HG := hid hg
  obtain ⟨A, hA⟩ : ∃ A, A = alignL op := ⟨_, rfl⟩
  obtain ⟨m, hm⟩ : ∃ m, m = (lineL op).2.1 := ⟨_, rfl⟩
  have HA : lanesL op = if m = 25 then glob3.getD (op - 64768 - 21).toNat 0 else if m = 26 then (16 >>> A.toNat : Nat) else if m = 24 then 32 else 0 := by rw [hm, hA]; rfl
  rw [← hm] at HI hp hq
  rw [← hA] at HB hq
  obtain ⟨L, hL⟩ : ∃ L, L = lanesL op := ⟨_, rfl⟩
  rw [← hL] at HA ⊢
  clear hm hg hA hL
  by_cases h25 : m = 25
  · obtain ⟨p0, p1⟩ := hp h25
    subst h25
    rw [if_pos rfl] at HA
    clear hp
    have HX := hid HA
    clear HA hq
    go_enter Tryd.func18, Tryd.ntmps18
    go_wp2_with (go_at_call 13; refine (HI _).out.mono ?_; rintro e w1 ⟨rfl, hb⟩; have hc := (HG.out.next hb).c3 (op - 64768 - 21).toNat (by omega); rw [← HX.out] at hc)
    go_ret
    exact ⟨rfl, hb⟩
  · rw [if_neg h25] at HA
    by_cases h26 : m = 26
    · obtain ⟨q0, q1⟩ := hq h26
      subst h26
      rw [if_pos rfl] at HA
      rcases (by omega : A = 0 ∨ A = 1 ∨ A = 2 ∨ A = 3 ∨ A = 4) with rfl | rfl | rfl | rfl | rfl
      all_goals
        simp at HA
        have HX := hid HA
        clear HA hq hp h25
        go_enter Tryd.func18, Tryd.ntmps18
        go_wp2_with (first | (go_at_call 13; refine (HI _).out.mono ?_; rintro e w1 ⟨rfl, hb⟩; have hw1 := hid (HG.out.next hb)) | (go_at_call 16; refine (HB _ hw1.out).out.mono ?_; rintro e w2 ⟨rfl, hb2⟩))
        go_ret
        exact ⟨by rw [HX.out]; rfl, hb.trans (hb2.mono hb.size)⟩
    · rw [if_neg h26] at HA
      have e1 : (m == 25) = false := by simpa using h25
      have e2 : (m == 26) = false := by simpa using h26
      by_cases h24 : m = 24
      · subst h24
        rw [if_pos rfl] at HA
        have HX := hid HA
        clear HA hq hp h25 h26
        go_enter Tryd.func18, Tryd.ntmps18
        go_wp2_with (go_at_call 13; refine (HI _).out.mono ?_; rintro e w1 ⟨rfl, hb⟩)
        go_ret
        exact ⟨by rw [HX.out]; rfl, hb⟩
      · rw [if_neg h24] at HA
        have e3 : (m == 24) = false := by simpa using h24
        have HX := hid HA
        clear HA hq hp h25 h26 h24
        go_enter Tryd.func18, Tryd.ntmps18
        go_wp2_with (go_at_call 13; refine (HI _).out.mono ?_; rintro e w1 ⟨rfl, hb⟩)
        go_ret
        exact ⟨by rw [HX.out]; rfl, hb⟩
end Go.Proofs.YtnechalhgdmgiaaDoor
