/-
  The contract of the reference's Find; it finds what the program's Find finds.
-/
import Derived.Test.YtnechalhgdmgiaaDoorRAll
set_option linter.unusedSimpArgs false
set_option linter.unusedVariables false
namespace Go.Proofs.YtnechalhgdmgiaaDoor
open Go.RowKit

noncomputable def isName (s : ByteArray) (op : Int) : Bool := (lineL op).1.toList == s.toList
/-- The first instruction of a name. -/
noncomputable def findR (s : ByteArray) : Int × Bool := match allL.find? (isName s) with
  | some x => (x, true)
  | none => (0, false)
theorem bytes_ext {a b : ByteArray} (h : a.toList = b.toList) : a = b := by
  rw [ByteArray.toList_eq, ByteArray.toList_eq] at h
  cases a; cases b
  simp only [ByteArray.mk.injEq]
  exact Array.toList_inj.1 h
theorem isName_true {s : ByteArray} {op : Int} : isName s op = true ↔ (lineL op).1 = s := by
  unfold isName
  rw [beq_iff_eq]
  exact ⟨bytes_ext, fun h => by rw [h]⟩
theorem findR_some {s : ByteArray} {k : Nat} (hk : k < 435) (h : isName s (allL.getD k 0) = true) (hb : ∀ j, j < k → isName s (allL.getD j 0) = false) : findR s = (allL.getD k 0, true) := by
  have hkl : k < allL.length := by rw [all_length]; exact hk
  have e : ∀ j (hj : j < allL.length), allL[j] = allL.getD j 0 := fun j hj => by rw [List.getD_eq_getElem?_getD, List.getElem?_eq_getElem hj]; rfl
  have : allL.find? (isName s) = some (allL.getD k 0) := List.find?_eq_some_iff_getElem.2 ⟨h, k, hkl, e k hkl, fun j hj => by rw [e j (by omega), hb j hj]; rfl⟩
  unfold findR
  rw [this]
theorem findR_none {s : ByteArray} (h : ∀ x, x ∈ allL → isName s x = false) : findR s = (0, false) := by
  have : allL.find? (isName s) = none := List.find?_eq_none.2 fun x hx => by rw [h x hx]; decide
  unfold findR
  rw [this]
theorem all_rise (k d : Nat) (h : k + d < 435) : allL.getD k 0 ≤ allL.getD (k + d) 0 := by
  induction d with
  | zero => exact Int.le_refl _
  | succ d ih =>
    have h1 := (all_at (k + d + 1) (by omega)).1
    rcases h1 with h1 | h1
    · omega
    · rw [Nat.add_sub_cancel] at h1
      exact Int.le_trans (ih (by omega)) (Int.le_of_lt h1)

theorem kn_name2 {r : Ln} (h : knB r = true) : r.1.toList.isEmpty = false := by
  unfold knB at h; simpa using h
/-- The program's Find, any name. -/
theorem Find_any (s : ByteArray) (w : World) (hg : Glob w) : Calls Tryd.prog 20 #[.string s] w fun e w' => e = .returned (.tuple #[.int .i64 (findR s).1, .bool (findR s).2]) ∧ Below w.heap.size w w' := by
  cases he : s.toList.isEmpty with
  | true =>
    have hs : s = ⟨#[]⟩ := bytes_ext (by rw [List.isEmpty_iff.1 he, ByteArray.toList_eq])
    have e : findR s = (0, false) := findR_none fun x hx => by
      have hk := (mem_all x).1 hx
      have := kn_name2 hk
      cases hn : isName s x with
      | false => rfl
      | true =>
        rw [isName_true.1 hn, he] at this
        cases this
    rw [e, hs]
    exact find_empty w
  | false =>
    refine (Find_says s he w hg).mono ?_
    rintro e w' ⟨h, hb⟩
    refine ⟨?_, hb⟩
    have known_of : ∀ z, (lineL z).1 = s → z ∈ allL := fun z hz => (mem_all z).2 (by unfold knB; rw [hz, he]; rfl)
    rcases h with ⟨n, op, hop, hno, hname, rfl⟩ | ⟨hno, rfl⟩
    · obtain ⟨k, hk⟩ := List.getElem?_of_mem (known_of op hname)
      have hkl : k < 435 := by have := (List.getElem?_eq_some_iff.1 hk).1; rw [all_length] at this; exact this
      have ek : allL.getD k 0 = op := by rw [List.getD_eq_getElem?_getD, hk]; rfl
      have : findR s = (allL.getD k 0, true) := findR_some hkl (by rw [ek]; exact isName_true.2 hname) fun j hj => by
        cases hn : isName s (allL.getD j 0) with
        | false => rfl
        | true =>
          have hle := first_le hop hno (all_range j (by omega)) (isName_true.1 hn)
          have hr := all_rise j (k - 1 - j) (by omega)
          have hlt := (all_at k hkl).1
          rw [show j + (k - 1 - j) = k - 1 by omega] at hr
          rw [ek] at hlt
          omega
      rw [this, ek]
    · have : findR s = (0, false) := findR_none fun x hx => by
        cases hn : isName s x with
        | false => rfl
        | true =>
          have hx2 := (List.mem_filter.1 hx).1
          obtain ⟨m, hm⟩ := List.getElem?_of_mem hx2
          have hlt : m < 485 := by have := (List.getElem?_eq_some_iff.1 hm).1; rw [range_length] at this; exact this
          exact absurd (isName_true.1 hn) (hno m x hlt hm)
      rw [this]

set_option maxHeartbeats 4000000 in
set_option maxRecDepth 100000 in
theorem RFind_says (s : ByteArray) (w : World) : Calls Tryd.prog 21 #[.string s] w fun e w' => e = .returned (.tuple #[.int .i64 (findR s).1, .bool (findR s).2]) ∧ Below w.heap.size w w' := by
  have HA := fun W => hid (RAll_says W)
  go_enter Tryd.func21, Tryd.ntmps21
  go_wp2_with fail
  refine (HA _).out.mono ?_
  rintro e w2 ⟨v, rfl, ho, hb⟩
  have HB2 := hid hb
  rw [all_length] at ho
  have HO := hid ho
  rcases ho.2 with ⟨_, h⟩ | ⟨g, cap, cur, rfl, hbg, _, _, _, _, _⟩
  · simp at h
  have HGL := hid (HO.out.lt g rfl).2
  clear ho hb hbg HA
  rename_i q1 q2 q3 q4 q5
  clear q1 q2 q3 q4 q5
  go_wp2
  go_loopw [5] (fun vi wr => ∃ k : Nat, Hid (k ≤ 435 ∧ ∀ j, j < k → isName s (allL.getD j 0) = false) ∧ vi = .int .i64 k ∧ Hid (Below w2.heap.size w2 wr)) (fun vi _ => 435 - (intOf vi).toNat)
  case atStart => exact ⟨0, ⟨Nat.zero_le _, fun j hj => by omega⟩, rfl, Below.refl _ _⟩
  case round =>
    obtain ⟨k, hk, rfl, HR⟩ := hrel
    by_cases hlt : k < 435
    · obtain ⟨x, hx⟩ : ∃ x, x = allL.getD k 0 := ⟨_, rfl⟩
      have HCX : Hid (∀ W, Below w2.heap.size w2 W → W.cell? ⟨g, k, none⟩ = some (.int .i64 x)) := fun W h => by rw [hx]; exact all_cell (own_below HO.out h (Nat.le_refl _)) k hlt
      have hc : wr.cell? ⟨g, k, none⟩ = some (.int .i64 x) := HCX.out _ HR.out
      obtain ⟨ro, nm, im, tk, lv, fx, hr⟩ : ∃ ro nm im tk lv fx, ofL x = (ro, nm, im, tk, lv, fx) := ⟨_, _, _, _, _, _, rfl⟩
      have hnm := (agree_parts x hr).2.1
      have HOf := fun W => hid (Of_says x W)
      rw [hr] at HOf
      have go1 : ∀ w1, Below wr.heap.size wr w1 → Below wr.heap.size wr (w1.alloc (.cells (rwCells (ro, nm, im, tk, lv, fx)) 24)) ∧ RB w1.heap.size (ro, nm, im, tk, lv, fx) (w1.alloc (.cells (rwCells (ro, nm, im, tk, lv, fx)) 24)) := fun w1 hb => ⟨hb.alloc hb.size _, RB.newr _ _⟩
      have GO1 := hid go1
      have hname : ((str nm).toList == s.toList) = isName s x := by rw [← hnm]; rfl
      have HX := hid hx
      clear go1 hr hnm hx
      go_upto_region 6 with (go_at_call 9; refine (HOf _).out.mono ?_; rintro e w1 ⟨rfl, hb⟩; unfold rwV)
      have hbA := (GO1.out _ hb).1
      have hRA := (GO1.out _ hb).2
      simp only [rwCells] at hbA hRA
      generalize w1.alloc (.cells #[.int .i64 ro, .string (str nm), .int .i64 im, .string (str tk), .string (str lv), .bool fx] 24) = w4 at *
      generalize w1.heap.size = gr at *
      have x1 := hRA.cells.2.1
      have HBA := hid (HR.out.trans (hbA.mono HR.out.size))
      have hc4 := HCX.out _ HBA.out
      clear hb hbA hRA GO1 HOf hc
      dsimp only at x1
      cases hh : isName s x with
      | true =>
        rw [hh] at hname
        have HE := hid (findR_some hlt (by rw [← HX.out]; exact hh) hk.out.2)
        clear hh
        go_wp2
        go_ret2
        exact ⟨by rw [HE.out, ← HX.out]; rfl, HB2.out.trans (HBA.out.mono HB2.out.size)⟩
      | false =>
        rw [hh] at hname
        have hk1 : Hid (k + 1 ≤ 435 ∧ ∀ j, j < k + 1 → isName s (allL.getD j 0) = false) := ⟨hlt, fun j hj => by
          rcases Nat.lt_or_ge j k with h | h
          · exact hk.out.2 j h
          · obtain rfl : j = k := by omega
            rw [← HX.out]
            exact hh⟩
        clear hh
        go_wp2
        go_roundw
        case rel => exact ⟨k + 1, hk1.out, by go_num, HBA.out⟩
        case measure => (first | (simp [intOf]; done) | (simp [intOf]; omega))
    · obtain rfl : k = 435 := by have := hk.out.1; omega
      have HE : Hid (findR s = (0, false)) := findR_none fun x hx => by
        obtain ⟨m, hm⟩ := List.getElem?_of_mem hx
        have hml : m < 435 := by have := (List.getElem?_eq_some_iff.1 hm).1; rw [all_length] at this; exact this
        have e : allL.getD m 0 = x := by rw [List.getD_eq_getElem?_getD, hm]; rfl
        rw [← e]
        exact hk.out.2 m hml
      go_wp2
      go_ret2
      exact ⟨by rw [HE.out]; rfl, HB2.out.trans (HR.out.mono HB2.out.size)⟩
end Go.Proofs.YtnechalhgdmgiaaDoor
