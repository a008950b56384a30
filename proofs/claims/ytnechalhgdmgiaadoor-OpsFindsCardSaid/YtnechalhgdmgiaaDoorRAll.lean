/-
  The contracts of the reference's All and Find: the numbers of all instructions, rising; the first one of a name.
-/
import Derived.Test.YtnechalhgdmgiaaDoorLawBase
import Derived.Test.YtnechalhgdmgiaaDoorAllMath
set_option linter.unusedSimpArgs false
set_option linter.unusedVariables false
namespace Go.Proofs.YtnechalhgdmgiaaDoor
open Go.RowKit

theorem known_op (op : Int) (h0 : 0 ≤ op) {o : Int} {nm : List UInt8} {im : Int} {tk lv : List UInt8} {fx : Bool} (h : ofL op = (o, nm, im, tk, lv, fx)) : (o == op) = knB (lineL op) := by
  obtain ⟨h1, _, _, _, _, _, _, _, h9⟩ := agree_parts op h
  rw [h1]
  rcases h9 with h9 | h9
  · rw [h9]
    have e1 : ((-1 : Int) == op) = false := by simp; omega
    rw [e1]
    rfl
  · subst h9
    simp [h0]
/-- The number at the head of the n-th round. -/
def headAt (n : Nat) : Int := if n < 212 then n else if n < 230 then 64301 + n else 64539 + n

set_option maxHeartbeats 4000000 in
set_option maxRecDepth 100000 in
theorem RAll_says (w : World) : Calls Tryd.prog 35 #[] w (AllPost w) := by
  have HN := fun op W => hid (Of_says op W)
  go_enter Tryd.func35, Tryd.ntmps35
  go_wp2
  go_loopw [1, 2] (fun vo vi wr => ∃ n : Nat, Hid (n ≤ 485) ∧ vi = .int .i64 (headAt n) ∧ Hid (AllRel w n vo wr)) (fun _ vi _ => (65024 - intOf vi).toNat)
  case atStart => exact ⟨0, Nat.zero_le _, rfl, World.ownsRow_nil w w.heap.size 3 1, Below.refl _ _⟩
  case round =>
    obtain ⟨n, hn, rfl, HR⟩ := hrel
    by_cases hlt : n < 485
    · have hn1 := hid (show n + 1 ≤ 485 from hlt)
      have hsz := HR.out.2.size
      have hcs : n < 211 ∨ n = 211 ∨ (211 < n ∧ n < 229) ∨ n = 229 ∨ 229 < n := by omega
      rcases hcs with hc | hc | hc | hc | hc
      · obtain ⟨x, hx⟩ : ∃ x : Int, x = (n : Int) := ⟨_, rfl⟩
        have hop := hid (show rangeOps[n]? = some x by rw [hx]; exact range_at0 n hc)
        have hhd : headAt n = x := by unfold headAt; rw [if_pos (by omega), hx]
        have hnx := hid (show headAt (n + 1) = x + 1 by rw [hx]; unfold headAt; rw [if_pos (by omega)]; omega)
        rw [hhd]
        have HX := hid hx
        have hx0 : 0 ≤ x := by omega
        have hx1 : x < 65024 := by omega
        obtain ⟨ro, nm, im, tk, lv, fx, hr⟩ : ∃ ro nm im tk lv fx, ofL x = (ro, nm, im, tk, lv, fx) := ⟨_, _, _, _, _, _, rfl⟩
        have hkn := known_op x hx0 hr
        have HOf := fun W => hid (Of_says x W)
        rw [hr] at HOf
        have hne1 : (x == 211) = false := beq_eq_false_iff_ne.2 (by omega)
        have hne2 : (x == 64530) = false := beq_eq_false_iff_ne.2 (by omega)
        clear hx
        clear hr hhd
        have go1 : ∀ w1, Below wr.heap.size wr w1 → Below wr.heap.size wr (w1.alloc (.cells (rwCells (ro, nm, im, tk, lv, fx)) 24)) ∧ RB w1.heap.size (ro, nm, im, tk, lv, fx) (w1.alloc (.cells (rwCells (ro, nm, im, tk, lv, fx)) 24)) := fun w1 hb => ⟨hb.alloc hb.size _, RB.newr _ _⟩
        have GO1 := hid go1
        clear go1
        go_upto_region 10 with (go_at_call 9; refine (HOf _).out.mono ?_; rintro e w1 ⟨rfl, hb⟩; unfold rwV)
        have hbA := (GO1.out _ hb).1
        have hRA := (GO1.out _ hb).2
        simp only [rwCells] at hbA hRA
        generalize w1.alloc (.cells #[.int .i64 ro, .string (str nm), .int .i64 im, .string (str tk), .string (str lv), .bool fx] 24) = w2 at *
        generalize w1.heap.size = gr at *
        have x0 := hRA.cells.1
        have HBA := hid hbA
        have hsz2 := hid (Nat.le_trans hsz hbA.size)
        clear hb hbA hRA GO1 HOf
        dsimp only at x0
        cases hk : knB (lineL x) with
        | false =>
          rw [hk] at hkn
          have HKN := hid hk
          clear hk
          go_wp2
          go_roundw
          case rel => exact ⟨n + 1, hn1.out, by (rw [hnx.out]; first | done | go_num), rel_skip HR.out HBA.out hop.out HKN.out⟩
          case measure => (simp [intOf]; try omega)
        | true =>
          rw [hk] at hkn
          have HKN := hid hk
          clear hk
          go_wp2_with (at_builtin; refine append_int rfl _ _ rfl w.heap.size _ _ _ x (own_below HR.out.1 HBA.out (Nat.le_refl _)) hsz2.out (by have := allT_le n; have := hn1.out; omega) rfl rfl ?_; intro v' w3 hown' hnx3 hsz3)
          go_roundw
          case rel => exact ⟨n + 1, hn1.out, by (rw [hnx.out]; first | done | go_num), rel_take HR.out HBA.out hop.out HKN.out hown' hnx3⟩
          case measure => (simp [intOf]; try omega)
      · obtain ⟨x, hx⟩ : ∃ x : Int, x = 64512 := ⟨_, rfl⟩
        have hop := hid (show rangeOps[n]? = some x by rw [hx]; rw [hc]; exact range_at1 0 (by omega))
        have hhd : headAt n = 211 := by unfold headAt; rw [hc]; rfl
        have hnx := hid (show headAt (n + 1) = x + 1 by rw [hx]; unfold headAt; rw [hc]; rfl)
        rw [hhd]
        have HX := hid hx
        have hx0 : 0 ≤ x := by omega
        have hx1 : x < 65024 := by omega
        obtain ⟨ro, nm, im, tk, lv, fx, hr⟩ : ∃ ro nm im tk lv fx, ofL x = (ro, nm, im, tk, lv, fx) := ⟨_, _, _, _, _, _, rfl⟩
        have hkn := known_op x hx0 hr
        have HOf := fun W => hid (Of_says x W)
        rw [hr] at HOf
        subst hx
        clear HX
        clear hr hhd
        have go1 : ∀ w1, Below wr.heap.size wr w1 → Below wr.heap.size wr (w1.alloc (.cells (rwCells (ro, nm, im, tk, lv, fx)) 24)) ∧ RB w1.heap.size (ro, nm, im, tk, lv, fx) (w1.alloc (.cells (rwCells (ro, nm, im, tk, lv, fx)) 24)) := fun w1 hb => ⟨hb.alloc hb.size _, RB.newr _ _⟩
        have GO1 := hid go1
        clear go1
        go_upto_region 10 with (go_at_call 9; refine (HOf _).out.mono ?_; rintro e w1 ⟨rfl, hb⟩; unfold rwV)
        have hbA := (GO1.out _ hb).1
        have hRA := (GO1.out _ hb).2
        simp only [rwCells] at hbA hRA
        generalize w1.alloc (.cells #[.int .i64 ro, .string (str nm), .int .i64 im, .string (str tk), .string (str lv), .bool fx] 24) = w2 at *
        generalize w1.heap.size = gr at *
        have x0 := hRA.cells.1
        have HBA := hid hbA
        have hsz2 := hid (Nat.le_trans hsz hbA.size)
        clear hb hbA hRA GO1 HOf
        dsimp only at x0
        cases hk : knB (lineL 64512) with
        | false =>
          rw [hk] at hkn
          have HKN := hid hk
          clear hk
          go_wp2
          go_roundw
          case rel => exact ⟨n + 1, hn1.out, by (rw [hnx.out]; first | done | go_num), rel_skip HR.out HBA.out hop.out HKN.out⟩
          case measure => (simp [intOf]; try omega)
        | true =>
          rw [hk] at hkn
          have HKN := hid hk
          clear hk
          go_wp2_with (at_builtin; refine append_int rfl _ _ rfl w.heap.size _ _ _ 64512 (own_below HR.out.1 HBA.out (Nat.le_refl _)) hsz2.out (by have := allT_le n; have := hn1.out; omega) rfl rfl ?_; intro v' w3 hown' hnx3 hsz3)
          go_roundw
          case rel => exact ⟨n + 1, hn1.out, by (rw [hnx.out]; first | done | go_num), rel_take HR.out HBA.out hop.out HKN.out hown' hnx3⟩
          case measure => (simp [intOf]; try omega)
      · obtain ⟨x, hx⟩ : ∃ x : Int, x = 64512 + ((n - 211 : Nat) : Int) := ⟨_, rfl⟩
        have hop := hid (show rangeOps[n]? = some x by rw [hx]; rw [show n = 211 + (n - 211) by omega, Nat.add_sub_cancel_left]; exact range_at1 _ (by omega))
        have hhd : headAt n = x := by unfold headAt; rw [hx]; split <;> (first | omega | (split <;> omega))
        have hnx := hid (show headAt (n + 1) = x + 1 by rw [hx]; unfold headAt; split <;> (first | omega | (split <;> omega)))
        rw [hhd]
        have HX := hid hx
        have hx0 : 0 ≤ x := by omega
        have hx1 : x < 65024 := by omega
        obtain ⟨ro, nm, im, tk, lv, fx, hr⟩ : ∃ ro nm im tk lv fx, ofL x = (ro, nm, im, tk, lv, fx) := ⟨_, _, _, _, _, _, rfl⟩
        have hkn := known_op x hx0 hr
        have HOf := fun W => hid (Of_says x W)
        rw [hr] at HOf
        have hne1 : (x == 211) = false := beq_eq_false_iff_ne.2 (by omega)
        have hne2 : (x == 64530) = false := beq_eq_false_iff_ne.2 (by omega)
        clear hx
        clear hr hhd
        have go1 : ∀ w1, Below wr.heap.size wr w1 → Below wr.heap.size wr (w1.alloc (.cells (rwCells (ro, nm, im, tk, lv, fx)) 24)) ∧ RB w1.heap.size (ro, nm, im, tk, lv, fx) (w1.alloc (.cells (rwCells (ro, nm, im, tk, lv, fx)) 24)) := fun w1 hb => ⟨hb.alloc hb.size _, RB.newr _ _⟩
        have GO1 := hid go1
        clear go1
        go_upto_region 10 with (go_at_call 9; refine (HOf _).out.mono ?_; rintro e w1 ⟨rfl, hb⟩; unfold rwV)
        have hbA := (GO1.out _ hb).1
        have hRA := (GO1.out _ hb).2
        simp only [rwCells] at hbA hRA
        generalize w1.alloc (.cells #[.int .i64 ro, .string (str nm), .int .i64 im, .string (str tk), .string (str lv), .bool fx] 24) = w2 at *
        generalize w1.heap.size = gr at *
        have x0 := hRA.cells.1
        have HBA := hid hbA
        have hsz2 := hid (Nat.le_trans hsz hbA.size)
        clear hb hbA hRA GO1 HOf
        dsimp only at x0
        cases hk : knB (lineL x) with
        | false =>
          rw [hk] at hkn
          have HKN := hid hk
          clear hk
          go_wp2
          go_roundw
          case rel => exact ⟨n + 1, hn1.out, by (rw [hnx.out]; first | done | go_num), rel_skip HR.out HBA.out hop.out HKN.out⟩
          case measure => (simp [intOf]; try omega)
        | true =>
          rw [hk] at hkn
          have HKN := hid hk
          clear hk
          go_wp2_with (at_builtin; refine append_int rfl _ _ rfl w.heap.size _ _ _ x (own_below HR.out.1 HBA.out (Nat.le_refl _)) hsz2.out (by have := allT_le n; have := hn1.out; omega) rfl rfl ?_; intro v' w3 hown' hnx3 hsz3)
          go_roundw
          case rel => exact ⟨n + 1, hn1.out, by (rw [hnx.out]; first | done | go_num), rel_take HR.out HBA.out hop.out HKN.out hown' hnx3⟩
          case measure => (simp [intOf]; try omega)
      · obtain ⟨x, hx⟩ : ∃ x : Int, x = 64768 := ⟨_, rfl⟩
        have hop := hid (show rangeOps[n]? = some x by rw [hx]; rw [hc]; exact range_at2 0 (by omega))
        have hhd : headAt n = 64530 := by unfold headAt; rw [hc]; rfl
        have hnx := hid (show headAt (n + 1) = x + 1 by rw [hx]; unfold headAt; rw [hc]; rfl)
        rw [hhd]
        have HX := hid hx
        have hx0 : 0 ≤ x := by omega
        have hx1 : x < 65024 := by omega
        obtain ⟨ro, nm, im, tk, lv, fx, hr⟩ : ∃ ro nm im tk lv fx, ofL x = (ro, nm, im, tk, lv, fx) := ⟨_, _, _, _, _, _, rfl⟩
        have hkn := known_op x hx0 hr
        have HOf := fun W => hid (Of_says x W)
        rw [hr] at HOf
        subst hx
        clear HX
        clear hr hhd
        have go1 : ∀ w1, Below wr.heap.size wr w1 → Below wr.heap.size wr (w1.alloc (.cells (rwCells (ro, nm, im, tk, lv, fx)) 24)) ∧ RB w1.heap.size (ro, nm, im, tk, lv, fx) (w1.alloc (.cells (rwCells (ro, nm, im, tk, lv, fx)) 24)) := fun w1 hb => ⟨hb.alloc hb.size _, RB.newr _ _⟩
        have GO1 := hid go1
        clear go1
        go_upto_region 10 with (go_at_call 9; refine (HOf _).out.mono ?_; rintro e w1 ⟨rfl, hb⟩; unfold rwV)
        have hbA := (GO1.out _ hb).1
        have hRA := (GO1.out _ hb).2
        simp only [rwCells] at hbA hRA
        generalize w1.alloc (.cells #[.int .i64 ro, .string (str nm), .int .i64 im, .string (str tk), .string (str lv), .bool fx] 24) = w2 at *
        generalize w1.heap.size = gr at *
        have x0 := hRA.cells.1
        have HBA := hid hbA
        have hsz2 := hid (Nat.le_trans hsz hbA.size)
        clear hb hbA hRA GO1 HOf
        dsimp only at x0
        cases hk : knB (lineL 64768) with
        | false =>
          rw [hk] at hkn
          have HKN := hid hk
          clear hk
          go_wp2
          go_roundw
          case rel => exact ⟨n + 1, hn1.out, by (rw [hnx.out]; first | done | go_num), rel_skip HR.out HBA.out hop.out HKN.out⟩
          case measure => (simp [intOf]; try omega)
        | true =>
          rw [hk] at hkn
          have HKN := hid hk
          clear hk
          go_wp2_with (at_builtin; refine append_int rfl _ _ rfl w.heap.size _ _ _ 64768 (own_below HR.out.1 HBA.out (Nat.le_refl _)) hsz2.out (by have := allT_le n; have := hn1.out; omega) rfl rfl ?_; intro v' w3 hown' hnx3 hsz3)
          go_roundw
          case rel => exact ⟨n + 1, hn1.out, by (rw [hnx.out]; first | done | go_num), rel_take HR.out HBA.out hop.out HKN.out hown' hnx3⟩
          case measure => (simp [intOf]; try omega)
      · obtain ⟨x, hx⟩ : ∃ x : Int, x = 64768 + ((n - 229 : Nat) : Int) := ⟨_, rfl⟩
        have hop := hid (show rangeOps[n]? = some x by rw [hx]; rw [show n = 229 + (n - 229) by omega, Nat.add_sub_cancel_left]; exact range_at2 _ (by omega))
        have hhd : headAt n = x := by unfold headAt; rw [hx]; split <;> (first | omega | (split <;> omega))
        have hnx := hid (show headAt (n + 1) = x + 1 by rw [hx]; unfold headAt; split <;> (first | omega | (split <;> omega)))
        rw [hhd]
        have HX := hid hx
        have hx0 : 0 ≤ x := by omega
        have hx1 : x < 65024 := by omega
        obtain ⟨ro, nm, im, tk, lv, fx, hr⟩ : ∃ ro nm im tk lv fx, ofL x = (ro, nm, im, tk, lv, fx) := ⟨_, _, _, _, _, _, rfl⟩
        have hkn := known_op x hx0 hr
        have HOf := fun W => hid (Of_says x W)
        rw [hr] at HOf
        have hne1 : (x == 211) = false := beq_eq_false_iff_ne.2 (by omega)
        have hne2 : (x == 64530) = false := beq_eq_false_iff_ne.2 (by omega)
        clear hx
        clear hr hhd
        have go1 : ∀ w1, Below wr.heap.size wr w1 → Below wr.heap.size wr (w1.alloc (.cells (rwCells (ro, nm, im, tk, lv, fx)) 24)) ∧ RB w1.heap.size (ro, nm, im, tk, lv, fx) (w1.alloc (.cells (rwCells (ro, nm, im, tk, lv, fx)) 24)) := fun w1 hb => ⟨hb.alloc hb.size _, RB.newr _ _⟩
        have GO1 := hid go1
        clear go1
        go_upto_region 10 with (go_at_call 9; refine (HOf _).out.mono ?_; rintro e w1 ⟨rfl, hb⟩; unfold rwV)
        have hbA := (GO1.out _ hb).1
        have hRA := (GO1.out _ hb).2
        simp only [rwCells] at hbA hRA
        generalize w1.alloc (.cells #[.int .i64 ro, .string (str nm), .int .i64 im, .string (str tk), .string (str lv), .bool fx] 24) = w2 at *
        generalize w1.heap.size = gr at *
        have x0 := hRA.cells.1
        have HBA := hid hbA
        have hsz2 := hid (Nat.le_trans hsz hbA.size)
        clear hb hbA hRA GO1 HOf
        dsimp only at x0
        cases hk : knB (lineL x) with
        | false =>
          rw [hk] at hkn
          have HKN := hid hk
          clear hk
          go_wp2
          go_roundw
          case rel => exact ⟨n + 1, hn1.out, by (rw [hnx.out]; first | done | go_num), rel_skip HR.out HBA.out hop.out HKN.out⟩
          case measure => (simp [intOf]; try omega)
        | true =>
          rw [hk] at hkn
          have HKN := hid hk
          clear hk
          go_wp2_with (at_builtin; refine append_int rfl _ _ rfl w.heap.size _ _ _ x (own_below HR.out.1 HBA.out (Nat.le_refl _)) hsz2.out (by have := allT_le n; have := hn1.out; omega) rfl rfl ?_; intro v' w3 hown' hnx3 hsz3)
          go_roundw
          case rel => exact ⟨n + 1, hn1.out, by (rw [hnx.out]; first | done | go_num), rel_take HR.out HBA.out hop.out HKN.out hown' hnx3⟩
          case measure => (simp [intOf]; try omega)
    · obtain rfl : n = 485 := by have := hn.out; omega
      rw [show headAt 485 = 65024 by decide]
      go_wp2
      go_ret
      have := HR.out
      unfold AllRel at this
      rw [allT_all] at this
      exact ⟨_, rfl, this.1, this.2⟩
end Go.Proofs.YtnechalhgdmgiaaDoor
