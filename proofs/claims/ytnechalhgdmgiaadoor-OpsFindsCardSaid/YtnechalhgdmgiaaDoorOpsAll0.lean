/-
  The contract of the program's All: the numbers of all instructions, rising, in new memory. Condition: the tables hold what their text lays.
-/
import Derived.Test.YtnechalhgdmgiaaDoorOps1
import Derived.Laws.AppendOwnNone
set_option linter.unusedSimpArgs false
set_option linter.unusedVariables false
namespace Go.Proofs.YtnechalhgdmgiaaDoor
open Go.RowKit

theorem info3 : (Tryd.prog.info? 3).map (fun i => (i.zero, i.size, i.bytes)) = some (some (.int .i64 0), 1, 8) := by kernel_rfl

def ic (l : List Int) : List Value := l.map (Value.int .i64)

theorem append_int {w : World} {ops : Array Oper} {rest : List Oper} {o : Oper} {a : Act} {Q : Exit → Act → World → Prop} (hgd : o.guard = none) (s x : Operand)
    (ho : o.op = .call { callee := .builtin .append, args := #[s, x], argTypes := #[26, 26] }) (base : Nat) (v : Value) (n : Nat) (xs : List Value) (q : Int)
    (hown : w.ownsRow base 3 1 v n xs) (hbase : base ≤ w.heap.size) (hn : n + 1 ≤ 1000000) (hs : a.eval s = v) (hx : a.eval x = .slice (some ⟨w.heap.size, 0, none⟩) 1 1)
    (h : ∀ v' w', w'.ownsRow base 3 1 v' (n + 1) (xs ++ [.int .i64 q]) → Below base w w' → base ≤ w'.heap.size → wpList Tryd.prog ops Q rest (a.put o.dst v') w') :
    wpList Tryd.prog ops Q (o :: rest) a (w.alloc (.cells #[.int .i64 q] 3)) := by
  obtain ⟨i0, hi, hz0, hz1, hz2⟩ := info_parts info3
  have hb1 := (Below.refl base w).alloc hbase (.cells #[.int .i64 q] 3)
  refine wpList_append_own _ hgd s x 26 ho base 3 i0 (.int .i64 0) 1 8 Tryd.underlying26 hi hz0 hz1 hz2 rfl (by decide) v n xs hs (hown.alloc _) ⟨w.heap.size, 0, none⟩ 1 1 [.int .i64 q] hx rfl (cell_one_new _ _ _)
    (fun u hu => by simp at hu; subst hu; rfl) (by unfold maxLen; omega) (by omega) (by simp; omega) ?_
  intro v' w1 hown' hgrow _
  exact h v' w1 hown' (hb1.grown hgrow (by simp; omega) (fun k hk => (hown.lt k hk).1)) (by have := hgrow.size; simp at this; omega)

theorem own_below {B : Nat} {w w' : World} {base : Nat} {e : TypeId} {s n : Nat} {v : Value} {xs : List Value} (h : w.ownsRow base e s v n xs) (hb : Below B w w') (hB : w.heap.size ≤ B) : w'.ownsRow base e s v n xs := by
  refine ⟨h.1, ?_⟩
  rcases h.2 with h2 | ⟨g, cap, cur, e1, e2, e3, e4⟩
  · exact .inl h2
  · refine .inr ⟨g, cap, cur, e1, e2, ?_, e4⟩
    have hlt : g < w.heap.size := (Array.getElem?_eq_some_iff.1 e3).1
    rw [hb.block g (by omega), e3]
theorem own_mono {w : World} {base base' : Nat} {e : TypeId} {s n : Nat} {v : Value} {xs : List Value} (h : w.ownsRow base e s v n xs) (hb : base' ≤ base) : w.ownsRow base' e s v n xs := by
  refine ⟨h.1, ?_⟩
  rcases h.2 with h2 | ⟨g, cap, cur, e1, e2, e3⟩
  · exact .inl h2
  · exact .inr ⟨g, cap, cur, e1, by omega, e3⟩

/-- All instructions among the first n numbers. -/
noncomputable def allT (n : Nat) : List Int := (rangeOps.take n).filter fun op => knB (lineL op)
noncomputable def allL : List Int := rangeOps.filter fun op => knB (lineL op)
theorem range_length : rangeOps.length = 485 := by kernel_rfl
theorem allT_all : allT 485 = allL := by unfold allT allL; rw [List.take_of_length_le (by rw [range_length]; omega)]
theorem allT_le (n : Nat) : (allT n).length ≤ n := Nat.le_trans (List.length_filter_le _ _) (List.length_take_le _ _)
theorem allT_succ (n : Nat) (op : Int) (h : rangeOps[n]? = some op) : allT (n + 1) = allT n ++ if knB (lineL op) = true then [op] else [] := by
  unfold allT
  rw [List.take_add_one, h, List.filter_append]
  cases hk : knB (lineL op) <;> simp [hk]
theorem range_at0 (k : Nat) (h : k < 211) : rangeOps[k]? = some (k : Int) := by
  unfold rangeOps
  rw [List.append_assoc, List.getElem?_append_left (by simpa using h)]
  simp [h]
theorem range_at1 (k : Nat) (h : k < 18) : rangeOps[211 + k]? = some (64512 + (k : Int)) := by
  unfold rangeOps
  rw [List.append_assoc, List.getElem?_append_right (by simp), List.getElem?_append_left (by simpa using h)]
  simp [h]
theorem range_at2 (k : Nat) (h : k < 256) : rangeOps[229 + k]? = some (64768 + (k : Int)) := by
  unfold rangeOps
  rw [List.getElem?_append_right (by simp)]
  simp [h]

def AllPost (w : World) (e : Ending) (w' : World) : Prop := ∃ v, e = .returned v ∧ w'.ownsRow w.heap.size 3 1 v allL.length (ic allL) ∧ Below w.heap.size w w'
/-- What the outer loop keeps. -/
def AllRel (w : World) (n : Nat) (v : Value) (wr : World) : Prop := wr.ownsRow w.heap.size 3 1 v (allT n).length (ic (allT n)) ∧ Below w.heap.size w wr
def offs (i : Int) : Nat := if i = 0 then 0 else if i = 1 then 211 else if i = 2 then 229 else 485

theorem rel_skip {w wr w1 : World} {n : Nat} {v : Value} {op : Int} (h : AllRel w n v wr) (hb : Below wr.heap.size wr w1) (hop : rangeOps[n]? = some op) (hk : knB (lineL op) = false) : AllRel w (n + 1) v w1 := by
  unfold AllRel
  rw [allT_succ n op hop, hk]
  simp only [Bool.false_eq_true, if_false, List.append_nil]
  exact ⟨own_below h.1 hb (Nat.le_refl _), h.2.trans (hb.mono h.2.size)⟩
theorem rel_take {w wr w1 w2 : World} {n : Nat} {v v' : Value} {op : Int} (h : AllRel w n v wr) (hb : Below wr.heap.size wr w1) (hop : rangeOps[n]? = some op) (hk : knB (lineL op) = true)
    (hown : w2.ownsRow w.heap.size 3 1 v' ((allT n).length + 1) (ic (allT n) ++ [.int .i64 op])) (hb2 : Below w.heap.size w1 w2) : AllRel w (n + 1) v' w2 := by
  unfold AllRel
  rw [allT_succ n op hop, hk]
  simp only [if_true]
  exact ⟨by simpa [ic] using hown, (h.2.trans (hb.mono h.2.size)).trans hb2⟩

set_option maxHeartbeats 2000000 in
set_option maxRecDepth 100000 in
theorem All_says (w : World) (hg : Glob w) : Calls Tryd.prog 22 #[] w (AllPost w) := by
  have HG := hid hg
  have HN := fun op W => hid (Known_says op W)
  clear hg
  go_enter Tryd.func22, Tryd.ntmps22
  go_wp2
  go_loopw [4, 1] (fun vi vo wr => ∃ i : Int, (i = 0 ∨ i = 1 ∨ i = 2 ∨ i = 3) ∧ vi = .int .i64 i ∧ AllRel w (offs i) vo wr) (fun vi _ _ => 3 - (intOf vi).toNat)
  case atStart => exact ⟨0, by decide, rfl, World.ownsRow_nil w w.heap.size 3 1, Below.refl _ _⟩
  case round =>
    obtain ⟨i, hi, rfl, hrel⟩ := hrel
    rcases hi with rfl | rfl | rfl | rfl
    · have HR := hid hrel
      have HW := hid (HG.out.below hrel.2 HG.out.size)
      have c0 := (HW.out.c4 0 (by omega))
      have c1 := (HW.out.c4 1 (by omega))
      simp [glob4] at c0 c1
      clear hrel
      go_wp2_with fail
      clear c0 c1
      go_loopw [3, 1] (fun vo2 vo wr2 => ∃ (x : Int) (k : Nat), Hid (k ≤ 211 ∧ x = (k : Int)) ∧ vo2 = .int .i64 x ∧ AllRel w k vo wr2) (fun vo2 _ _ => (211 - intOf vo2).toNat)
      case atStart => exact ⟨0, 0, ⟨by omega, by rfl⟩, rfl, HR.out⟩
      case round =>
        obtain ⟨x, k, hxk, rfl, hrel⟩ := hrel
        have HR2 := hid hrel
        have HW2 := hid (HG.out.below hrel.2 HG.out.size)
        have c1 := (HW2.out.c4 1 (by omega))
        simp [glob4] at c1
        have hsz := hrel.2.size
        clear hrel
        have hx0 : 0 ≤ x := by have := hxk.out; omega
        by_cases hlt : x < 211
        · have hop := hid (show rangeOps[k]? = some x by have := hxk.out; rw [this.2]; exact range_at0 k (by omega))
          have hk1 := hid (show k + 1 ≤ 211 by have := hxk.out; omega)
          cases hkn : knB (lineL x) with
          | false =>
            have HK := fun W => hid (Known_says x W)
            rw [hkn] at HK
            have HKN := hid hkn
            clear hkn
            go_wp2_with (go_at_call 11; refine (HK _).out.mono ?_; rintro e w1 ⟨rfl, hb⟩)
            go_roundw
            case rel => exact ⟨x + 1, k + 1, ⟨hk1.out, by have := hxk.out; omega⟩, by go_num, rel_skip HR2.out hb hop.out HKN.out⟩
            case measure => simp [intOf]; omega
          | true =>
            have HK := fun W => hid (Known_says x W)
            rw [hkn] at HK
            have HKN := hid hkn
            clear hkn
            go_wp2_with (first | (go_at_call 11; refine (HK _).out.mono ?_; rintro e w1 ⟨rfl, hb⟩) | (at_builtin; refine append_int rfl _ _ rfl w.heap.size _ _ _ x (own_below HR2.out.1 hb (Nat.le_refl _)) (Nat.le_trans hsz hb.size) (by have := allT_le k; have := hk1.out; omega) rfl rfl ?_; intro v' w3 hown' hnx3 hsz3))
            go_roundw
            case rel => exact ⟨x + 1, k + 1, ⟨hk1.out, by have := hxk.out; omega⟩, by go_num, rel_take HR2.out hb hop.out HKN.out hown' hnx3⟩
            case measure => simp [intOf]; omega
        · obtain rfl : k = 211 := by have := hxk.out; omega
          go_wp2_with fail
          go_roundw
          case rel => exact ⟨1, by decide, by go_num, HR2.out⟩
          case measure => simp [intOf]
    · have HR := hid hrel
      have HW := hid (HG.out.below hrel.2 HG.out.size)
      have c0 := (HW.out.c4 2 (by omega))
      have c1 := (HW.out.c4 3 (by omega))
      simp [glob4] at c0 c1
      clear hrel
      go_wp2_with fail
      clear c0 c1
      go_loopw [3, 1] (fun vo2 vo wr2 => ∃ (x : Int) (k : Nat), Hid (k ≤ 18 ∧ x = (64512 + (k : Int))) ∧ vo2 = .int .i64 x ∧ AllRel w (211 + k) vo wr2) (fun vo2 _ _ => (64530 - intOf vo2).toNat)
      case atStart => exact ⟨64512, 0, ⟨by omega, by rfl⟩, rfl, HR.out⟩
      case round =>
        obtain ⟨x, k, hxk, rfl, hrel⟩ := hrel
        have HR2 := hid hrel
        have HW2 := hid (HG.out.below hrel.2 HG.out.size)
        have c1 := (HW2.out.c4 3 (by omega))
        simp [glob4] at c1
        have hsz := hrel.2.size
        clear hrel
        have hx0 : 64512 ≤ x := by have := hxk.out; omega
        by_cases hlt : x < 64530
        · have hop := hid (show rangeOps[(211 + k)]? = some x by have := hxk.out; rw [this.2]; exact range_at1 k (by omega))
          have hk1 := hid (show k + 1 ≤ 18 by have := hxk.out; omega)
          cases hkn : knB (lineL x) with
          | false =>
            have HK := fun W => hid (Known_says x W)
            rw [hkn] at HK
            have HKN := hid hkn
            clear hkn
            go_wp2_with (go_at_call 11; refine (HK _).out.mono ?_; rintro e w1 ⟨rfl, hb⟩)
            go_roundw
            case rel => exact ⟨x + 1, k + 1, ⟨hk1.out, by have := hxk.out; omega⟩, by go_num, rel_skip HR2.out hb hop.out HKN.out⟩
            case measure => simp [intOf]; omega
          | true =>
            have HK := fun W => hid (Known_says x W)
            rw [hkn] at HK
            have HKN := hid hkn
            clear hkn
            go_wp2_with (first | (go_at_call 11; refine (HK _).out.mono ?_; rintro e w1 ⟨rfl, hb⟩) | (at_builtin; refine append_int rfl _ _ rfl w.heap.size _ _ _ x (own_below HR2.out.1 hb (Nat.le_refl _)) (Nat.le_trans hsz hb.size) (by have := allT_le (211 + k); have := hk1.out; omega) rfl rfl ?_; intro v' w3 hown' hnx3 hsz3))
            go_roundw
            case rel => exact ⟨x + 1, k + 1, ⟨hk1.out, by have := hxk.out; omega⟩, by go_num, rel_take HR2.out hb hop.out HKN.out hown' hnx3⟩
            case measure => simp [intOf]; omega
        · obtain rfl : k = 18 := by have := hxk.out; omega
          go_wp2_with fail
          go_roundw
          case rel => exact ⟨2, by decide, by go_num, HR2.out⟩
          case measure => simp [intOf]
    · have HR := hid hrel
      have HW := hid (HG.out.below hrel.2 HG.out.size)
      have c0 := (HW.out.c4 4 (by omega))
      have c1 := (HW.out.c4 5 (by omega))
      simp [glob4] at c0 c1
      clear hrel
      go_wp2_with fail
      clear c0 c1
      go_loopw [3, 1] (fun vo2 vo wr2 => ∃ (x : Int) (k : Nat), Hid (k ≤ 256 ∧ x = (64768 + (k : Int))) ∧ vo2 = .int .i64 x ∧ AllRel w (229 + k) vo wr2) (fun vo2 _ _ => (65024 - intOf vo2).toNat)
      case atStart => exact ⟨64768, 0, ⟨by omega, by rfl⟩, rfl, HR.out⟩
      case round =>
        obtain ⟨x, k, hxk, rfl, hrel⟩ := hrel
        have HR2 := hid hrel
        have HW2 := hid (HG.out.below hrel.2 HG.out.size)
        have c1 := (HW2.out.c4 5 (by omega))
        simp [glob4] at c1
        have hsz := hrel.2.size
        clear hrel
        have hx0 : 64768 ≤ x := by have := hxk.out; omega
        by_cases hlt : x < 65024
        · have hop := hid (show rangeOps[(229 + k)]? = some x by have := hxk.out; rw [this.2]; exact range_at2 k (by omega))
          have hk1 := hid (show k + 1 ≤ 256 by have := hxk.out; omega)
          cases hkn : knB (lineL x) with
          | false =>
            have HK := fun W => hid (Known_says x W)
            rw [hkn] at HK
            have HKN := hid hkn
            clear hkn
            go_wp2_with (go_at_call 11; refine (HK _).out.mono ?_; rintro e w1 ⟨rfl, hb⟩)
            go_roundw
            case rel => exact ⟨x + 1, k + 1, ⟨hk1.out, by have := hxk.out; omega⟩, by go_num, rel_skip HR2.out hb hop.out HKN.out⟩
            case measure => simp [intOf]; omega
          | true =>
            have HK := fun W => hid (Known_says x W)
            rw [hkn] at HK
            have HKN := hid hkn
            clear hkn
            go_wp2_with (first | (go_at_call 11; refine (HK _).out.mono ?_; rintro e w1 ⟨rfl, hb⟩) | (at_builtin; refine append_int rfl _ _ rfl w.heap.size _ _ _ x (own_below HR2.out.1 hb (Nat.le_refl _)) (Nat.le_trans hsz hb.size) (by have := allT_le (229 + k); have := hk1.out; omega) rfl rfl ?_; intro v' w3 hown' hnx3 hsz3))
            go_roundw
            case rel => exact ⟨x + 1, k + 1, ⟨hk1.out, by have := hxk.out; omega⟩, by go_num, rel_take HR2.out hb hop.out HKN.out hown' hnx3⟩
            case measure => simp [intOf]; omega
        · obtain rfl : k = 256 := by have := hxk.out; omega
          go_wp2_with fail
          go_roundw
          case rel => exact ⟨3, by decide, by go_num, HR2.out⟩
          case measure => simp [intOf]
    · have HR := hid hrel
      clear hrel
      go_wp2
      go_ret
      exact ⟨_, rfl, by have := HR.out.1; rw [show offs 3 = 485 from rfl, allT_all] at this; exact this, HR.out.2⟩
end Go.Proofs.YtnechalhgdmgiaaDoor
