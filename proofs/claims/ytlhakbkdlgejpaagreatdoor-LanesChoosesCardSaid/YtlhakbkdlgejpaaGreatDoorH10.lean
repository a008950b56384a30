/-
  LawBase, Places, LFits: merged, what the law does not reach left out (each text says what it holds where it lies in wip). No condition.
-/
import Derived.Test.YtlhakbkdlgejpaaGreatDoorH08
import Derived.Test.YtlhakbkdlgejpaaGreatDoorH09
import Derived.Test.YtlhakbkdlgejpaaGreatDoorH03
import Derived.Test.YtlhakbkdlgejpaaGreatDoorH06
import Derived.Test.YtlhakbkdlgejpaaGreatDoorH07
set_option linter.unusedSimpArgs false
set_option linter.unusedVariables false
set_option maxRecDepth 100000
namespace Go.Proofs.YtlhakbkdlgejpaaGreatDoor
open Go.RowKit
noncomputable def laL (op : Int) : List Int := if fxB (lineL op) then typesL (lineL op).2.2.1.toNat else []
noncomputable def lbL (op : Int) : List Int := if fxB (lineL op) then typesL (lineL op).2.2.2.toNat else []
def SignP (w : World) (la lb : List Int) (fx : Bool) (e : Ending) (w' : World) : Prop :=
  ∃ v1 v2 B, e = .returned (.tuple #[v1, v2, .bool fx]) ∧ w'.ownsRow w.heap.size 3 1 v1 la.length (ic la) ∧ w'.ownsRow B 3 1 v2 lb.length (ic lb) ∧ w.heap.size ≤ B ∧ (∀ k, v1.ownBlock = some k → k < B) ∧ Below w.heap.size w w'
theorem Sign_any (op : Int) (w : World) (hg : Glob w) : Calls Tryz.prog 33 #[.int .i64 op] w (SignP w (laL op) (lbL op) (fxB (lineL op))) := by
  cases h : fxB (lineL op) with
  | true =>
    have e1 : laL op = typesL (lineL op).2.2.1.toNat := by unfold laL; rw [h]; rfl
    have e2 : lbL op = typesL (lineL op).2.2.2.toNat := by unfold lbL; rw [h]; rfl
    rw [e1, e2]
    exact (sign_yes op w h hg).mono fun e w' hp => hp
  | false =>
    have e1 : laL op = [] := by unfold laL; rw [h]; rfl
    have e2 : lbL op = [] := by unfold lbL; rw [h]; rfl
    rw [e1, e2]
    refine (sign_no op w h).mono fun e w' hp => ?_
    exact ⟨.slice none 0 0, .slice none 0 0, w.heap.size, hp.1, World.ownsRow_nil _ _ _ _, World.ownsRow_nil _ _ _ _, Nat.le_refl _, (fun k hk => by cases hk), hp.2⟩
theorem RB.newr (r : Rw) (w : World) : RB w.heap.size r (w.alloc (.cells (rwCells r) 36)) := by
  show (w.heap.push _)[w.heap.size]? = _
  simp
end Go.Proofs.YtlhakbkdlgejpaaGreatDoor
namespace Go.Proofs.YtlhakbkdlgejpaaGreatDoor
open Go.RowKit
/-- How great the place is. -/
noncomputable def alignL (op : Int) : Int :=
  if ¬ (lineL op).2.1 = 10 ∧ ¬ (lineL op).2.1 = 26 then -1 else if op < 64512 then glob0.getD (op - 40).toNat 0 else if op < 64852 then glob1.getD (op - 64768).toNat 0 else glob2.getD (op - 64768 - 84).toNat 0
/-- How many lanes there are to choose from. -/
noncomputable def lanesL (op : Int) : Int :=
  if (lineL op).2.1 = 25 then glob3.getD (op - 64768 - 21).toNat 0 else if (lineL op).2.1 = 26 then (16 >>> (alignL op).toNat : Nat) else if (lineL op).2.1 = 24 then 32 else 0
/-- Where an instruction reads or writes, its number is in one of three rows; its lanes likewise. -/
noncomputable def placeOk (op : Int) : Bool :=
  (!((lineL op).2.1 == 10 || (lineL op).2.1 == 26) || (decide (40 ≤ op) && decide (op < 63)) || (decide (64768 ≤ op) && decide (op < 64780)) || (decide (64852 ≤ op) && decide (op < 64862))) &&
  (!((lineL op).2.1 == 25) || (decide (64789 ≤ op) && decide (op < 64803))) && (!((lineL op).2.1 == 26) || (decide (0 ≤ alignL op) && decide (alignL op < 5)))
set_option maxRecDepth 100000 in
theorem place_all : (rangeOps.all placeOk) = true := by kernel_rfl
theorem place_ok (op : Int) : ((lineL op).2.1 = 10 ∨ (lineL op).2.1 = 26 → (40 ≤ op ∧ op < 63) ∨ (64768 ≤ op ∧ op < 64780) ∨ (64852 ≤ op ∧ op < 64862)) ∧ ((lineL op).2.1 = 25 → 64789 ≤ op ∧ op < 64803) ∧ ((lineL op).2.1 = 26 → 0 ≤ alignL op ∧ alignL op < 5) := by
  by_cases hin : op ∈ rangeOps
  · have := List.all_eq_true.1 place_all op hin
    unfold placeOk at this
    simp only [Bool.and_eq_true, Bool.or_eq_true, Bool.not_eq_true', decide_eq_true_eq, Bool.or_eq_false_iff, beq_eq_false_iff_ne] at this
    obtain ⟨⟨h1, h2⟩, h3⟩ := this
    refine ⟨fun h => ?_, fun h => ?_, fun h => ?_⟩
    · rcases h1 with ((h1 | h1) | h1) | h1
      · rcases h with h | h
        · exact absurd h h1.1
        · exact absurd h h1.2
      · exact .inl h1
      · exact .inr (.inl h1)
      · exact .inr (.inr h1)
    · rcases h2 with h2 | h2
      · exact absurd h h2
      · exact h2
    · rcases h3 with h3 | h3
      · exact absurd h h3
      · exact h3
  · rw [lineL_out op hin]
    exact ⟨fun h => by rcases h with h | h <;> exact absurd h (by decide), fun h => absurd h (by decide), fun h => absurd h (by decide)⟩
set_option maxHeartbeats 1000000 in
theorem Align_says (op : Int) (w : World) (hg : Glob w) : Calls Tryz.prog 93 #[.int .i64 op] w fun e w' => e = .returned (.int .i64 (alignL op)) ∧ Below w.heap.size w w' := by
  obtain ⟨hp, _, _⟩ := place_ok op
  have HI := fun W => hid (Imm_says op W)
  have HG := hid hg
  obtain ⟨m, hm⟩ : ∃ m, m = (lineL op).2.1 := ⟨_, rfl⟩
  have HA : alignL op = if ¬ m = 10 ∧ ¬ m = 26 then -1 else if op < 64512 then glob0.getD (op - 40).toNat 0 else if op < 64852 then glob1.getD (op - 64768).toNat 0 else glob2.getD (op - 64768 - 84).toNat 0 := by rw [hm]; rfl
  rw [← hm] at HI hp
  obtain ⟨A, hA⟩ : ∃ A, A = alignL op := ⟨_, rfl⟩
  rw [← hA] at HA ⊢
  clear hm hg hA
  by_cases hmm : m = 10 ∨ m = 26
  · have hp := hp hmm
    rw [if_neg (by omega)] at HA
    rcases hp with ⟨p0, p1⟩ | ⟨p0, p1⟩ | ⟨p0, p1⟩
    · rw [if_pos (by omega)] at HA
      have HX := hid HA
      clear HA
      have hlt : op < 64512 := by omega
      rcases hmm with rfl | rfl
      all_goals
        go_enter Tryz.func93, Tryz.ntmps93
        go_wp2_with (go_at_call 46; refine (HI _).out.mono ?_; rintro e w1 ⟨rfl, hb⟩; have hc := (HG.out.next hb).c0 (op - 40).toNat (by omega); rw [← HX.out] at hc)
        go_ret
        exact ⟨rfl, hb⟩
    · rw [if_neg (by omega), if_pos (by omega)] at HA
      have HX := hid HA
      clear HA
      have hge : ¬ op < 64512 := by omega
      have hlt : op < 64852 := by omega
      rcases hmm with rfl | rfl
      all_goals
        go_enter Tryz.func93, Tryz.ntmps93
        go_wp2_with (go_at_call 46; refine (HI _).out.mono ?_; rintro e w1 ⟨rfl, hb⟩; have hc := (HG.out.next hb).c1 (op - 64768).toNat (by omega); rw [← HX.out] at hc)
        go_ret
        exact ⟨rfl, hb⟩
    · rw [if_neg (by omega), if_neg (by omega)] at HA
      have HX := hid HA
      clear HA
      have hge : ¬ op < 64512 := by omega
      have hge2 : ¬ op < 64852 := by omega
      rcases hmm with rfl | rfl
      all_goals
        go_enter Tryz.func93, Tryz.ntmps93
        go_wp2_with (go_at_call 46; refine (HI _).out.mono ?_; rintro e w1 ⟨rfl, hb⟩; have hc := (HG.out.next hb).c2 (op - 64768 - 84).toNat (by omega); rw [← HX.out] at hc)
        go_ret
        exact ⟨rfl, hb⟩
  · rw [if_pos (by omega)] at HA
    have e1 : (m != 10) = true := by simp; omega
    have e2 : (m != 26) = true := by simp; omega
    have HX := hid HA
    clear HA hmm hp
    go_enter Tryz.func93, Tryz.ntmps93
    go_wp2_with (go_at_call 46; refine (HI _).out.mono ?_; rintro e w1 ⟨rfl, hb⟩)
    go_ret
    exact ⟨by rw [HX.out]; rfl, hb⟩
set_option maxHeartbeats 1000000 in
theorem Lanes_says (op : Int) (w : World) (hg : Glob w) : Calls Tryz.prog 54 #[.int .i64 op] w fun e w' => e = .returned (.int .i64 (lanesL op)) ∧ Below w.heap.size w w' := by
  obtain ⟨_, hp, hq⟩ := place_ok op
  have HI := fun W => hid (Imm_says op W)
  have HB := fun W (hW : Glob W) => hid (Align_says op W hW)
  have HG := hid hg
  obtain ⟨A, hA⟩ : ∃ A, A = alignL op := ⟨_, rfl⟩
  obtain ⟨m, hm⟩ : ∃ m, m = (lineL op).2.1 := ⟨_, rfl⟩
  have HA : lanesL op = if m = 25 then glob3.getD (op - 64768 - 21).toNat 0 else if m = 26 then (16 >>> A.toNat : Nat) else if m = 24 then 32 else 0 := by rw [hm, hA]; rfl
  rw [← hm] at HI hp hq
  rw [← hA] at HB hq
  obtain ⟨L, hL⟩ : ∃ L, L = lanesL op := ⟨_, rfl⟩
  rw [← hL] at HA ⊢
  clear hm hg hA hL
  by_cases h25 : m = 25
  · obtain ⟨p0, p1⟩ := hp h25
    subst h25
    rw [if_pos rfl] at HA
    clear hp
    have HX := hid HA
    clear HA hq
    go_enter Tryz.func54, Tryz.ntmps54
    go_wp2_with (go_at_call 46; refine (HI _).out.mono ?_; rintro e w1 ⟨rfl, hb⟩; have hc := (HG.out.next hb).c3 (op - 64768 - 21).toNat (by omega); rw [← HX.out] at hc)
    go_ret
    exact ⟨rfl, hb⟩
  · rw [if_neg h25] at HA
    by_cases h26 : m = 26
    · obtain ⟨q0, q1⟩ := hq h26
      subst h26
      rw [if_pos rfl] at HA
      rcases (by omega : A = 0 ∨ A = 1 ∨ A = 2 ∨ A = 3 ∨ A = 4) with rfl | rfl | rfl | rfl | rfl
      all_goals
        simp at HA
        have HX := hid HA
        clear HA hq hp h25
        go_enter Tryz.func54, Tryz.ntmps54
        go_wp2_with (first | (go_at_call 46; refine (HI _).out.mono ?_; rintro e w1 ⟨rfl, hb⟩; have hw1 := hid (HG.out.next hb)) | (go_at_call 93; refine (HB _ hw1.out).out.mono ?_; rintro e w2 ⟨rfl, hb2⟩))
        go_ret
        exact ⟨by rw [HX.out]; rfl, hb.trans (hb2.mono hb.size)⟩
    · rw [if_neg h26] at HA
      have e1 : (m == 25) = false := by simpa using h25
      have e2 : (m == 26) = false := by simpa using h26
      by_cases h24 : m = 24
      · subst h24
        rw [if_pos rfl] at HA
        have HX := hid HA
        clear HA hq hp h25 h26
        go_enter Tryz.func54, Tryz.ntmps54
        go_wp2_with (go_at_call 46; refine (HI _).out.mono ?_; rintro e w1 ⟨rfl, hb⟩)
        go_ret
        exact ⟨by rw [HX.out]; rfl, hb⟩
      · rw [if_neg h24] at HA
        have e3 : (m == 24) = false := by simpa using h24
        have HX := hid HA
        clear HA hq hp h25 h26 h24
        go_enter Tryz.func54, Tryz.ntmps54
        go_wp2_with (go_at_call 46; refine (HI _).out.mono ?_; rintro e w1 ⟨rfl, hb⟩)
        go_ret
        exact ⟨by rw [HX.out]; rfl, hb⟩
end Go.Proofs.YtlhakbkdlgejpaaGreatDoor
namespace Go.Proofs.YtlhakbkdlgejpaaGreatDoor
open Go.RowKit
/-- How many numbers stand behind an instruction of vectors. -/
def chL (m : Int) : Int := if m = 0 then 0 else if m = 25 then 1 else if m = 24 then 16 else -1
theorem choices_says (op : Int) (w : World) : Calls Tryz.prog 53 #[.int .i64 op] w fun e w' => e = .returned (.int .i64 (chL (lineL op).2.1)) ∧ Below w.heap.size w w' := by
  have HI := fun W => hid (Imm_says op W)
  generalize (lineL op).2.1 = m at *
  by_cases h0 : m = 0
  · subst h0
    go_enter Tryz.func53, Tryz.ntmps53
    go_wp2_with (go_at_call 46; refine (HI _).out.mono ?_; rintro e w1 ⟨rfl, hb⟩)
    go_ret
    exact ⟨rfl, hb⟩
  by_cases h1 : m = 25
  · subst h1
    go_enter Tryz.func53, Tryz.ntmps53
    go_wp2_with (go_at_call 46; refine (HI _).out.mono ?_; rintro e w1 ⟨rfl, hb⟩)
    go_ret
    exact ⟨rfl, hb⟩
  by_cases h2 : m = 24
  · subst h2
    go_enter Tryz.func53, Tryz.ntmps53
    go_wp2_with (go_at_call 46; refine (HI _).out.mono ?_; rintro e w1 ⟨rfl, hb⟩)
    go_ret
    exact ⟨rfl, hb⟩
  have hv := hid (show chL m = -1 by unfold chL; rw [if_neg h0, if_neg h1, if_neg h2])
  have e0 : (m == 0) = false := by simpa using h0
  have e1 : (m == 25) = false := by simpa using h1
  have e2 : (m == 24) = false := by simpa using h2
  clear h0 h1 h2
  go_enter Tryz.func53, Tryz.ntmps53
  go_wp2_with (go_at_call 46; refine (HI _).out.mono ?_; rintro e w1 ⟨rfl, hb⟩)
  go_ret
  exact ⟨by rw [hv.out]; rfl, hb⟩
theorem fits1_says (t lo hi : Int) (nl : Bool) (w : World) : Calls Tryz.prog 55 #[.agg #[.int .i64 t, .int .u64 lo, .int .u64 hi, .bool nl], .int .i64 t] w fun e w' => e = .returned (.bool true) ∧ Below w.heap.size w w' := by
  have e : (t == t) = true := by simp
  go_enter Tryz.func55, Tryz.ntmps55
  go_wp2
  go_ret
  exact ⟨rfl, (Below.refl _ _).alloc (Nat.le_refl _) _⟩
set_option maxHeartbeats 2000000 in
set_option maxRecDepth 100000 in
theorem EqualFunc_says (l : List Av) (T : List Int) (hT : T = l.map (·.1)) (hl : l.length ≤ 10) (hl1 : 1 ≤ l.length) (va vt : Value) (base : Nat) (w : World) (ha : AR w va l) (ht : w.ownsRow base 3 1 vt T.length (ic T)) :
    Calls Tryz.prog 47 #[va, vt, .func (.func 55) #[] #[]] w fun e w' => e = .returned (.bool true) ∧ Below w.heap.size w w' := by
  obtain ⟨g, cap, rfl, hg, hcap, hat⟩ := ha
  have hlen : T.length = l.length := by rw [hT, List.length_map]
  rcases ht.2 with ⟨rfl, h2⟩ | ⟨gt, ct, cur, rfl, e2, e3, e4, _⟩
  · omega
  · have hgt : gt < w.heap.size := (Array.getElem?_eq_some_iff.1 e3).1
    have HT : Hid (∀ j a, l[j]? = some a → w.cell? ⟨gt, j, none⟩ = some (.int .i64 a.1)) := fun j a hj => by
      have hjl : j < l.length := (List.getElem?_eq_some_iff.1 hj).1
      rw [ht.cellAt j (by omega), hT]
      simp [ic, hj]
    have HA := hid hat
    have HF := fun t lo hi nl W => hid (fits1_says t lo hi nl W)
    have eg : ∀ args w, (callFunc 55 args).run Tryz.prog w = .ok (.enter 55 args) w := enters_of Tryz.func55 (by kernel_rfl) rfl
    rw [hlen] at *
    clear ht hat hT hlen e2 e3 e4
    go_enter Tryz.func47, Tryz.ntmps47
    go_wp2
    go_loopw [17] (fun vi wr => ∃ i : Nat, i ≤ l.length ∧ vi = .int .i64 i ∧ Hid (Below w.heap.size w wr)) (fun vi _ => l.length - (intOf vi).toNat)
    case atStart => exact ⟨0, Nat.zero_le _, rfl, Below.refl _ _⟩
    case round =>
      obtain ⟨i, hin, rfl, HB⟩ := hrel
      by_cases hlt : i < l.length
      · obtain ⟨a, hja⟩ : ∃ a, l[i]? = some a := ⟨l[i], by simp [hlt]⟩
        obtain ⟨h0, h1, h2, h3⟩ := HA.out i a hja
        have ht0 := HT.out i a hja
        obtain ⟨t, lo, hi, nl⟩ := a
        simp only [] at h0 h1 h2 h3 ht0
        have k0 := (HB.out.cell (p := ⟨g, i * 4, none⟩) hg).trans h0
        have k1 := (HB.out.cell (p := ⟨g, i * 4 + 1, none⟩) hg).trans h1
        have k2 := (HB.out.cell (p := ⟨g, i * 4 + 2, none⟩) hg).trans h2
        have k3 := (HB.out.cell (p := ⟨g, i * 4 + 3, none⟩) hg).trans h3
        have k4 := (HB.out.cell (p := ⟨gt, i, none⟩) hgt).trans ht0
        have k4' : ∀ o, (wr.alloc o).cell? ⟨gt, i, none⟩ = some (.int .i64 t) := fun o => by
          rw [((Below.refl _ wr).alloc (Nat.le_refl _) o).cell (p := ⟨gt, i, none⟩) (Nat.lt_of_lt_of_le hgt HB.out.size)]; exact k4
        clear h0 h1 h2 h3 ht0 hja
        go_wp2_with (go_at_fn 55; refine (HF _ _ _ _ _).out.mono ?_; rintro e w2 ⟨rfl, hb⟩; have HB2 := hid ((HB.out.alloc HB.out.size _).trans (hb.mono (by have := HB.out.size; simp; omega))); clear hb)
        go_roundw
        case rel => exact ⟨i + 1, by omega, by go_num, HB2⟩
        case measure => simp [intOf]; omega
      · obtain rfl : i = l.length := by omega
        go_wp2
        go_ret
        exact ⟨rfl, HB.out⟩
set_option maxHeartbeats 4000000 in
set_option maxRecDepth 100000 in
theorem fits_says (op : Int) (h64 : 64768 ≤ op) (hk : knB (lineL op) = true) (L : List Int) (hL : (L.length : Int) = chL (lineL op).2.1) (hr : ∀ x ∈ L, 0 ≤ x ∧ x < lanesL op) (l : List Av) (hT : laL op = l.map (·.1)) (hl : l.length ≤ 10) (hl1 : 1 ≤ l.length)
    (vi va : Value) (base : Nat) (w : World) (hg : Glob w) (ha : AR w va l) (hi : w.ownsRow base 3 1 vi L.length (ic L)) :
    Calls Tryz.prog 30 #[.int .i64 op, vi, va] w fun e w' => e = .returned (.bool true) ∧ Below w.heap.size w w' := by
  have HK := fun W => hid (Known_says op W)
  rw [hk] at HK
  have HCH := fun W => hid (choices_says op W)
  rw [← hL] at HCH
  have HLN := fun W (h : Glob W) => hid (Lanes_says op W h)
  have HSG := fun W (h : Glob W) => hid (Sign_any op W h)
  have HGL := hid hg
  have HA := hid ha
  have HEQ := fun vt base W (h1 : AR W va l) h2 => hid (EqualFunc_says l (laL op) hT hl hl1 va vt base W h1 h2)
  have hlt0 : ¬ (op < 64768) := by omega
  have hlf : decide (op < 64768) = false := decide_eq_false hlt0
  have HR : Hid (∀ j (h : j < L.length), 0 ≤ L[j] ∧ L[j] < lanesL op) := fun j h => hr _ (List.getElem_mem h)
  generalize lanesL op = ln at *
  generalize laL op = la at *
  generalize lbL op = lb at *
  generalize fxB (lineL op) = fx at *
  have HI := hid hi
  rcases hi.2 with ⟨rfl, h2⟩ | ⟨gt, ct, cur, rfl, e2, e3, e4, _⟩
  · rw [h2] at HCH
    have hz : ((0 : Nat) : Int) = 0 := rfl
    rw [hz] at HCH
    clear hg ha hi hL hr hk h2 hT h64 HR HI HLN
    go_enter Tryz.func30, Tryz.ntmps30
    go_wp2_with (first
      | (go_at_call 45; refine (HK _).out.mono ?_; rintro e w1 ⟨rfl, hb1⟩; have HB1 := hid hb1; clear hb1)
      | (go_at_call 53; refine (HCH _).out.mono ?_; rintro e w2 ⟨rfl, hb2⟩; have HB2 := hid (HB1.out.trans (hb2.mono HB1.out.size)); clear hb2))
    go_loopw [28] (fun vi wr => vi = .int .i64 0 ∧ Hid (Below w.heap.size w wr)) (fun _ _ => 1)
    case atStart => exact ⟨rfl, HB2⟩
    case round =>
      obtain ⟨rfl, HB⟩ := hrel
      go_wp2_with (first
        | (go_at_call 33; refine (HSG _ (HGL.out.next HB.out)).out.mono ?_; rintro e w5 ⟨v1, v2, B2, rfl, ho1, ho2, hB2, hsep, hb⟩; have HE := hid (HEQ v1 _ w5 (HA.out.call (HB.out.trans (hb.mono HB.out.size))) ho1); have HB5 := hid (HB.out.trans (hb.mono HB.out.size)); clear hb ho1 ho2 hB2 hsep)
        | (go_at_call 47; refine HE.out.out.mono ?_; rintro e w6 ⟨rfl, hb6⟩))
      go_ret
      exact ⟨rfl, HB5.out.trans (hb6.mono HB5.out.size)⟩
  · have hgt : gt < w.heap.size := (Array.getElem?_eq_some_iff.1 e3).1
    have HC : Hid (∀ j (h : j < L.length), w.cell? ⟨gt, j, none⟩ = some (.int .i64 L[j])) := fun j h => by
      rw [hi.cellAt j (by omega)]; simp [ic, h]
    obtain ⟨n, hn⟩ : ∃ n, n = L.length := ⟨_, rfl⟩
    rw [← hn] at HCH ⊢
    have HN := hid hn
    have hn40 : (n : Int) ≤ 16 := by
      rw [hn, hL]; unfold chL; split
      · decide
      · split
        · decide
        · split <;> decide
    have hnn : ((n : Int) != (n : Int)) = false := by simp
    clear hg ha hi hL hr hk hT h64 e2 e3 e4 HI hn
    go_enter Tryz.func30, Tryz.ntmps30
    go_wp2_with (first
      | (go_at_call 45; refine (HK _).out.mono ?_; rintro e w1 ⟨rfl, hb1⟩; have HB1 := hid hb1; clear hb1)
      | (go_at_call 53; refine (HCH _).out.mono ?_; rintro e w2 ⟨rfl, hb2⟩; have HB2 := hid (HB1.out.trans (hb2.mono HB1.out.size)); clear hb2))
    go_loopw [28] (fun vi wr => ∃ i : Nat, i ≤ n ∧ vi = .int .i64 i ∧ Hid (Below w.heap.size w wr)) (fun vi _ => n - (intOf vi).toNat)
    case atStart => exact ⟨0, Nat.zero_le _, rfl, HB2⟩
    case round =>
      obtain ⟨i, hin, rfl, HB⟩ := hrel
      by_cases hlt : i < n
      · have hlL : i < L.length := by rw [← HN.out]; exact hlt
        obtain ⟨x, hx⟩ : ∃ x, x = L[i] := ⟨_, rfl⟩
        have hc := (HB.out.cell (p := ⟨gt, i, none⟩) hgt).trans (HC.out i hlL)
        have hxr := HR.out i hlL
        rw [← hx] at hc hxr
        have x0 : decide (x < 0) = false := decide_eq_false (by omega)
        have x1 : decide (ln ≤ x) = false := decide_eq_false (by omega)
        have x2 : ¬ (x < 0) := by omega
        have x3 : ¬ (ln ≤ x) := by omega
        clear hx hxr
        go_wp2_with (go_at_call 54; refine (HLN _ (HGL.out.next HB.out)).out.mono ?_; rintro e w4 ⟨rfl, hb4⟩; have HB4 := hid (HB.out.trans (hb4.mono HB.out.size)); clear hb4)
        go_roundw
        case rel => exact ⟨i + 1, by omega, by go_num, HB4⟩
        case measure => simp [intOf]; omega
      · obtain rfl : i = n := by omega
        go_wp2_with (first
          | (go_at_call 33; refine (HSG _ (HGL.out.next HB.out)).out.mono ?_; rintro e w5 ⟨v1, v2, B2, rfl, ho1, ho2, hB2, hsep, hb⟩; have HE := hid (HEQ v1 _ w5 (HA.out.call (HB.out.trans (hb.mono HB.out.size))) ho1); have HB5 := hid (HB.out.trans (hb.mono HB.out.size)); clear hb ho1 ho2 hB2 hsep)
          | (go_at_call 47; refine HE.out.out.mono ?_; rintro e w6 ⟨rfl, hb6⟩))
        go_ret
        exact ⟨rfl, HB5.out.trans (hb6.mono HB5.out.size)⟩
end Go.Proofs.YtlhakbkdlgejpaaGreatDoor
