/-
  LRDone, LRDo, LRLane, LOps, LAgree, LAgree2, LAwakeB: merged, what the law does not reach left out (each text says what it holds where it lies in wip). No condition.
-/
import Derived.Test.YtlhakbkdlgejpaaGreatDoorR15
import Derived.Test.YtlhakbkdlgejpaaGreatDoorR16
import Derived.Test.YtlhakbkdlgejpaaGreatDoorR17
import Derived.Test.YtlhakbkdlgejpaaGreatDoorR09
import Derived.Test.YtlhakbkdlgejpaaGreatDoorR12
import Derived.Deep.DeepCutAuto
import Derived.Deep.RegionHeld3
import Derived.Test.YtlhakbkdlgejpaaGreatDoorR13
import Derived.Test.YtlhakbkdlgejpaaGreatDoorR04
import Derived.Test.YtlhakbkdlgejpaaGreatDoorR02
import Derived.Deep.QuietTactic
import Derived.BigQuiet
import Derived.Test.YtlhakbkdlgejpaaGreatDoorR01
set_option linter.unusedSimpArgs false
set_option linter.unusedVariables false
set_option maxRecDepth 100000
namespace Go.Proofs.YtlhakbkdlgejpaaGreatDoor
open Go.RowKit
/-- No word of a text is a shape. -/
def noSh : Nat → List UInt8 → Bool
  | 0, l => l == []
  | m + 1, l => (l == []) || ((biL (headC l 95) == 0) && noSh m (tailC l 95))
def strSz : Value → Nat
  | .string s => s.size
  | _ => 0
theorem tailC_lt (l : List UInt8) (c : UInt8) (h : l ≠ []) : (tailC l c).length < l.length := by
  have h0 : 0 < l.length := List.length_pos_iff.2 h
  unfold tailC
  split
  · rw [List.length_drop]; omega
  · simpa using h0
set_option maxHeartbeats 2000000 in
set_option maxRecDepth 100000 in
theorem source_none (v : List UInt8) (hl : v.length ≤ 1000) (m : Nat) (hv : noSh m v = true) (w : World) : Calls Tryz.prog 128 #[.string (str v)] w fun e w' => e = .returned (.tuple #[.string ⟨#[]⟩, .bool false]) ∧ Below w.heap.size w w' := by
  have HV := hid hv
  have HL := hid hl
  obtain ⟨s, hs⟩ : ∃ s, s = str v := ⟨_, rfl⟩
  have HS := hid hs
  rw [← hs]
  clear hv hl hs
  go_enter Tryz.func128, Tryz.ntmps128
  go_wp2
  go_loopw [4, 5, 6] (fun v4 v5 v6 wr => v4 = .string ⟨#[]⟩ ∧ v5 = .bool false ∧ (∃ s, v6 = .string s ∧ Hid (∃ r m, s = str r ∧ noSh m r = true ∧ r.length ≤ 1000)) ∧ Hid (Below w.heap.size w wr)) (fun _ _ v6 _ => strSz v6)
  case atStart => exact ⟨rfl, rfl, ⟨s, rfl, v, m, HS.out, HV.out, HL.out⟩, Below.refl _ _⟩
  case round =>
    obtain ⟨rfl, rfl, ⟨s, rfl, HR⟩, HB⟩ := hrel
    obtain ⟨r, m, hs, hn, hrl⟩ := HR.out
    by_cases h0 : r = []
    · have q : s.toList.isEmpty = true := by rw [hs, str_list, h0]; rfl
      clear hs hn hrl HR h0
      go_wp2
      go_ret2
      exact ⟨rfl, HB.out⟩
    · have q : s.toList.isEmpty = false := by rw [hs, str_list]; simpa using h0
      cases m with
      | zero => exfalso; simp [noSh] at hn; exact h0 hn
      | succ m =>
        have h1 : biL (headC r 95) = 0 ∧ noSh m (tailC r 95) = true := by
          simp only [noSh, Bool.or_eq_true, Bool.and_eq_true, beq_iff_eq] at hn
          rcases hn with h | h
          · exact absurd h h0
          · exact h
        have HC := fun W => hid (RCut_says r hrl 95 95 rfl W)
        rw [← hs] at HC
        have HBI := fun W => hid (RBits_says (headC r 95) W)
        rw [h1.1] at HBI
        have ht := tailC_lt r 95 h0
        have HT : Hid (∃ r' m', str (tailC r 95) = str r' ∧ noSh m' r' = true ∧ r'.length ≤ 1000) := ⟨tailC r 95, m, rfl, h1.2, by omega⟩
        have HSZ : Hid ((str (tailC r 95)).size < s.size) := by show (str (tailC r 95)).size < s.size; rw [hs, str_size, str_size]; exact ht
        generalize str (tailC r 95) = s2 at *
        generalize str (headC r 95) = s1 at *
        clear hs hn hrl HR h0 h1 ht
        go_wp2_with (first
          | (go_at_call 122; refine (HC _).out.mono ?_; rintro e w1 ⟨rfl, hb⟩; have HB1 := hid (HB.out.trans (hb.mono HB.out.size)); clear hb)
          | (go_at_call 123; refine (HBI _).out.mono ?_; rintro e w2 ⟨rfl, rfl⟩))
        go_roundw
        case rel => exact ⟨rfl, rfl, ⟨s2, rfl, HT⟩, HB1⟩
        case measure => exact HSZ.out
set_option maxHeartbeats 4000000 in
set_option maxRecDepth 100000 in
theorem RDone_one (r : Rw) (sh what : List UInt8) (hsh : headC r.2.1 46 = sh) (hwhat : tailC r.2.1 46 = what) (hnl : r.2.1.length ≤ 1000) (n : Nat) (hn : Okn n) (hbi : biL sh = n) (him : (r.2.2.1 == 25) = false) (him2 : (r.2.2.1 == 24) = false)
    (hw0 : (what == [115, 112, 108, 97, 116]) = false) (hw1 : (what == [115, 119, 105, 122, 122, 108, 101]) = false) (hw2 : (what == [97, 108, 108, 95, 116, 114, 117, 101]) = false) (hw3 : (what == [98, 105, 116, 109, 97, 115, 107]) = false)
    (m : Nat) (hns : noSh m what = true) (fb : Int) (fl : Bool) (hfl : (fb == 102) = fl) (hix : ∀ W, (Instr.index 9 (.string (str sh)) (.int .i64 0)).run Tryz.prog W = .ok (.int .u8 fb) W)
    (vi va : Value) (lo hi : Nat) (nl : Bool) (hlo : lo < 18446744073709551616) (hhi : hi < 18446744073709551616) (w : World) (ha : AR w va ([(123, lo, hi, nl)])) (f : Nat → Nat → Nat)
    (HLane : ∀ (a b : Nat) (W : World), a < 18446744073709551616 → b < 18446744073709551616 → Calls Tryz.prog 131 #[.int .i64 n, .bool fl, .string (str what), .int .u64 a, .int .u64 b] W fun e w' => e = .returned (.int .u64 (f a b : Nat)) ∧ Below W.heap.size W w')
    (hf : ∀ i, i < cnt n → f (splitF n lo hi i) (0) < 18446744073709551616) :
    Calls Tryz.prog 80 #[rwV r, vi, va] w fun e w' => e = .returned (vv 123 (loF n (fun i => f (splitF n lo hi i) (0))) (hiF n (fun i => f (splitF n lo hi i) (0))) false) ∧ Below w.heap.size w w' := by
  obtain ⟨i0, hi0, hz0, hz1, hz2⟩ := info_parts info22
  obtain ⟨ro, nm, im, tk, lv, fx⟩ := r
  simp only [] at hsh hwhat hnl him him2
  have HCT := fun W => hid (RCut_says nm hnl 46 46 rfl W)
  rw [hsh, hwhat] at HCT
  have HBI := fun W => hid (RBits_says sh W)
  rw [hbi] at HBI
  have hwl : what.length ≤ 1000 := by
    rw [← hwhat]; unfold tailC; split
    · rw [List.length_drop]; omega
    · simp
  have HSO := fun W => hid (source_none what hwl m hns W)
  have HSP := fun W => hid (RSplit_says n hn 123 lo hi nl hlo hhi W)
  have hc1 : 1 ≤ cnt n := by rcases hn.cases with ⟨_, _, h⟩ | ⟨_, _, h⟩ | ⟨_, _, h⟩ | ⟨_, _, h⟩ <;> omega
  have hc16 : cnt n ≤ 16 := by rcases hn.cases with ⟨_, _, h⟩ | ⟨_, _, h⟩ | ⟨_, _, h⟩ | ⟨_, _, h⟩ <;> omega
  have HVC := fun v (F : Nat → Nat) W (h : RowAt W v (cnt n) F) hF => hid (RVector_says n hn v (cnt n) (Nat.le_refl _) (by omega) F W h hF)
  have hn0 : ((n : Int) == 0) = false := by have := hn.le; simp; omega
  have q0 : ((str what).toList == [115, 112, 108, 97, 116]) = false := by rw [str_list]; exact hw0
  have q1 : ((str what).toList == [115, 119, 105, 122, 122, 108, 101]) = false := by rw [str_list]; exact hw1
  have q2 : ((str what).toList == [97, 108, 108, 95, 116, 114, 117, 101]) = false := by rw [str_list]; exact hw2
  have q3 : ((str what).toList == [98, 105, 116, 109, 97, 115, 107]) = false := by rw [str_list]; exact hw3
  have HFL := hid hfl
  obtain ⟨ga, ca, rfl, hga, hca, hata⟩ := ha
  obtain ⟨a0, a1, a2, a3⟩ := hata 0 (123, lo, hi, nl) rfl
  simp only [Nat.zero_mul, Nat.zero_add] at a0 a1 a2 a3
  have hF0 : Hid (∀ i, splitF n lo hi i < 18446744073709551616) := fun i => splitF_u64 hn lo hi i
  obtain ⟨F, hFe⟩ : ∃ F, F = splitF n lo hi := ⟨_, rfl⟩
  obtain ⟨R, hRe⟩ : ∃ R : Nat → Nat, R = fun i => f (splitF n lo hi i) (0) := ⟨_, rfl⟩
  have hR : ∀ i, R i = f (F i) (0) := fun i => by rw [hRe, hFe]
  have HRF : Hid (∀ i, i < cnt n → R i < 18446744073709551616) := fun i hi => by rw [hRe]; exact hf i hi
  rw [← hRe]
  rw [← hFe] at HSP hF0
  have HLR : ∀ (i : Nat) (W : World), Hid (Calls Tryz.prog 131 #[.int .i64 n, .bool fl, .string (str what), .int .u64 (F i : Nat), .int .u64 (0)] W fun e w' => e = .returned (.int .u64 (R i : Nat)) ∧ Below W.heap.size W w') := fun i W => hid (by
    rw [hR i]
    exact HLane (F i) (0) W (hF0.out i) (by decide))
  unfold vv at HSP HVC ⊢
  unfold rwV
  simp only [List.length_cons, List.length_nil] at hca ⊢
  obtain ⟨c, hce⟩ : ∃ c, c = cnt n := ⟨_, rfl⟩
  rw [← hce] at HSP HVC hc1 hc16 HRF 
  generalize str what = sw at *
  generalize str sh = ss at *
  generalize str nm = sn at *
  clear hsh hwhat hbi hns hfl hlo hhi hata HLane hf hFe hRe hR hw0 hw1 hw2 hw3 hn hnl hwl hce 
  go_enter Tryz.func80, Tryz.ntmps80
  go_upto_region 13 with (first
    | (go_at_call 122; refine (HCT _).out.mono ?_; rintro e w1 ⟨rfl, hb1⟩; have hX1 := (And.intro ((CA.new _ _ 24).call hb1) (((((Below.refl w.heap.size w).alloc (Nat.le_refl _) _).alloc (by first | omega | (simp <;> omega)) _)).trans (hb1.mono (by first | omega | (simp <;> omega))))); have HX1 := hid hX1; have a0' := (hX1.2.cell (p := ⟨ga, 0, none⟩) hga).trans a0; have a1' := (hX1.2.cell (p := ⟨ga, 1, none⟩) hga).trans a1; have a2' := (hX1.2.cell (p := ⟨ga, 2, none⟩) hga).trans a2; have a3' := (hX1.2.cell (p := ⟨ga, 3, none⟩) hga).trans a3; have hbx := (((CA.new w _ 36).alloc _).call hb1).at (k := 2) (v := .int .i64 im) rfl; clear hb1 hX1)
    | (go_at_call 123; refine (HBI _).out.mono ?_; rintro e w2 ⟨rfl, rfl⟩)
    | (go_at_call 126; (with_reducible refine (HSP _).out.mono ?_); rintro e w3 ⟨v3, rfl, ho3, hb3⟩; have HR3 := hid (RowAt.of_own ho3 hc1); have HX3 := hid (And.intro (HX1.out.1.call hb3) (HX1.out.2.trans (hb3.mono HX1.out.2.size))); clear hb3 ho3)
    | (go_at_call 128; refine (HSO _).out.mono ?_; rintro e w4 ⟨rfl, hb4⟩; have HR4 := hid (HR3.out.call hb4); have HX4 := hid (And.intro (HX3.out.1.call hb4) (HX3.out.2.trans (hb4.mono HX3.out.2.size))); clear hb4))
  obtain ⟨g3, o3, cap3, rfl, hg3, hcap3, hat3⟩ := HR4.out
  have HA3 := hid hat3
  have hB4 := HX4.out.2
  have hR4 : CA (w.heap.size + 1) #[.int .i64 0, .int .u64 0, .int .u64 0, .bool false] 24 w4 := by have := HX4.out.1; rw [size_al] at this; exact this
  have hnb : w.heap.size + 1 < w4.heap.size := hR4.lt
  clear hat3 HR4 HX3 HX1 HR3
  go_wp2_with (at_make; refine wpList_make_full _ rfl _ _ 40 rfl w4.heap.size 22 i0 (.int .u64 0) 1 Tryz.underlying40 hi0 hz0 hz1 .i64 .i64 _ _ c rfl rfl rfl rfl (by rw [hz2]; omega) (by unfold maxLen; omega) (Nat.le_refl _) ?_; intro w5 hown5 hgrow5)
  have HS5 := hid (EInv.start (F := R) hown5 hgrow5)
  clear hown5 hgrow5
  go_loopw [14] (fun vi wr => ∃ i : Nat, i ≤ c ∧ vi = .int .i64 i ∧ Hid (EInv w4 w4.heap.size c R i wr)) (fun vi _ => c - (intOf vi).toNat)
  case atStart => exact ⟨0, Nat.zero_le _, rfl, HS5⟩
  case round =>
    obtain ⟨i, hin, rfl, HI⟩ := hrel
    by_cases hlt : i < c
    · have HLT := hid hlt
      go_upto_region 22 with fail
      have HJW := HI.out.drew
      have hS := HJW.2.1
      refine wp_region_held_drew (S := Below w4.heap.size w4) (by kernel_rfl) hS (fun _ => ?_)
      generalize wr.drew = W at *
      refine wpAnyH_take (oi := ⟨_, _, _, _, _, _⟩) (i := 0) (v := .slice (some ⟨w4.heap.size, 0, none⟩) c c) rfl (by kernel_rfl) (by kernel_rfl) (by kernel_rfl) (fun _ _ _ h => h) (Or.inl ⟨by rfl, ?_⟩) (by assumption) ?_
      · (intro W hSw; have x1 := (hSw.cell (p := ⟨g3, o3 + i, none⟩) hg3).trans (HA3.out i hlt).1; have hff := HFL.out; go_simp; try (with_reducible rfl))
      try simp only [Act.put, List.setIfInBounds_toArray, List.set_cons_zero, List.set_cons_succ]
      refine wpAnyH_take (oi := ⟨_, _, _, _, _, _⟩) (i := 1) (v := .int .i64 i) rfl (by kernel_rfl) (by kernel_rfl) (by kernel_rfl) (fun _ _ _ h => h) (Or.inl ⟨by rfl, ?_⟩) (by assumption) ?_
      · (intro W hSw; have x1 := (hSw.cell (p := ⟨g3, o3 + i, none⟩) hg3).trans (HA3.out i hlt).1; have hff := HFL.out; go_simp; try (with_reducible rfl))
      try simp only [Act.put, List.setIfInBounds_toArray, List.set_cons_zero, List.set_cons_succ]
      refine wpAnyH_take (oi := ⟨_, _, _, _, _, _⟩) (i := 2) (v := .int .i64 n) rfl (by kernel_rfl) (by kernel_rfl) (by kernel_rfl) (fun _ _ _ h => h) (Or.inl ⟨by rfl, ?_⟩) (by assumption) ?_
      · (intro W hSw; have x1 := (hSw.cell (p := ⟨g3, o3 + i, none⟩) hg3).trans (HA3.out i hlt).1; have hff := HFL.out; go_simp; try (with_reducible rfl))
      try simp only [Act.put, List.setIfInBounds_toArray, List.set_cons_zero, List.set_cons_succ]
      refine wpAnyH_take (oi := ⟨_, _, _, _, _, _⟩) (i := 3) (v := .string ss) rfl (by kernel_rfl) (by kernel_rfl) (by kernel_rfl) (fun _ _ _ h => h) (Or.inl ⟨by rfl, ?_⟩) (by assumption) ?_
      · (intro W hSw; have x1 := (hSw.cell (p := ⟨g3, o3 + i, none⟩) hg3).trans (HA3.out i hlt).1; have hff := HFL.out; go_simp; try (with_reducible rfl))
      try simp only [Act.put, List.setIfInBounds_toArray, List.set_cons_zero, List.set_cons_succ]
      refine wpAnyH_take (oi := ⟨_, _, _, _, _, _⟩) (i := 4) (v := .int .u8 fb) rfl (by kernel_rfl) (by kernel_rfl) (by kernel_rfl) (fun _ _ _ h => h) (Or.inl ⟨by rfl, ?_⟩) (by assumption) ?_
      · (intro W hSw; have x1 := (hSw.cell (p := ⟨g3, o3 + i, none⟩) hg3).trans (HA3.out i hlt).1; have hff := HFL.out; go_simp; try (with_reducible rfl))
      try simp only [Act.put, List.setIfInBounds_toArray, List.set_cons_zero, List.set_cons_succ]
      refine wpAnyH_take (oi := ⟨_, _, _, _, _, _⟩) (i := 5) (v := .bool fl) rfl (by kernel_rfl) (by kernel_rfl) (by kernel_rfl) (fun _ _ _ h => h) (Or.inl ⟨by rfl, ?_⟩) (by assumption) ?_
      · (intro W hSw; have x1 := (hSw.cell (p := ⟨g3, o3 + i, none⟩) hg3).trans (HA3.out i hlt).1; have hff := HFL.out; go_simp; try (with_reducible rfl))
      try simp only [Act.put, List.setIfInBounds_toArray, List.set_cons_zero, List.set_cons_succ]
      refine wpAnyH_take (oi := ⟨_, _, _, _, _, _⟩) (i := 6) (v := .string sw) rfl (by kernel_rfl) (by kernel_rfl) (by kernel_rfl) (fun _ _ _ h => h) (Or.inl ⟨by rfl, ?_⟩) (by assumption) ?_
      · (intro W hSw; have x1 := (hSw.cell (p := ⟨g3, o3 + i, none⟩) hg3).trans (HA3.out i hlt).1; have hff := HFL.out; go_simp; try (with_reducible rfl))
      try simp only [Act.put, List.setIfInBounds_toArray, List.set_cons_zero, List.set_cons_succ]
      refine wpAnyH_take (oi := ⟨_, _, _, _, _, _⟩) (i := 7) (v := .slice (some ⟨g3, o3, none⟩) c cap3) rfl (by kernel_rfl) (by kernel_rfl) (by kernel_rfl) (fun _ _ _ h => h) (Or.inl ⟨by rfl, ?_⟩) (by assumption) ?_
      · (intro W hSw; have x1 := (hSw.cell (p := ⟨g3, o3 + i, none⟩) hg3).trans (HA3.out i hlt).1; have hff := HFL.out; go_simp; try (with_reducible rfl))
      try simp only [Act.put, List.setIfInBounds_toArray, List.set_cons_zero, List.set_cons_succ]
      refine wpAnyH_take (oi := ⟨_, _, _, _, _, _⟩) (i := 8) (v := .int .i64 i) rfl (by kernel_rfl) (by kernel_rfl) (by kernel_rfl) (fun _ _ _ h => h) (Or.inl ⟨by rfl, ?_⟩) (by assumption) ?_
      · (intro W hSw; have x1 := (hSw.cell (p := ⟨g3, o3 + i, none⟩) hg3).trans (HA3.out i hlt).1; have hff := HFL.out; go_simp; try (with_reducible rfl))
      try simp only [Act.put, List.setIfInBounds_toArray, List.set_cons_zero, List.set_cons_succ]
      refine wpAnyH_take (oi := ⟨_, _, _, _, _, _⟩) (i := 9) (v := .pointer (some ⟨g3, o3 + i, none⟩)) rfl (by kernel_rfl) (by kernel_rfl) (by kernel_rfl) (fun _ _ _ h => h) (Or.inl ⟨by rfl, ?_⟩) (by assumption) ?_
      · (intro W hSw; have x1 := (hSw.cell (p := ⟨g3, o3 + i, none⟩) hg3).trans (HA3.out i hlt).1; have hff := HFL.out; go_simp; try (with_reducible rfl))
      try simp only [Act.put, List.setIfInBounds_toArray, List.set_cons_zero, List.set_cons_succ]
      refine wpAnyH_take (oi := ⟨_, _, _, _, _, _⟩) (i := 10) (v := .int .u64 (F i : Nat)) rfl (by kernel_rfl) (by kernel_rfl) (by kernel_rfl) (fun _ _ _ h => h) (Or.inl ⟨by rfl, ?_⟩) (by assumption) ?_
      · (intro W hSw; have x1 := (hSw.cell (p := ⟨g3, o3 + i, none⟩) hg3).trans (HA3.out i hlt).1; have hff := HFL.out; go_simp; try (with_reducible rfl))
      try simp only [Act.put, List.setIfInBounds_toArray, List.set_cons_zero, List.set_cons_succ]
      refine wpAnyH_take (oi := ⟨_, _, _, _, _, _⟩) (i := 11) (v := .int .u64 0) rfl (by kernel_rfl) (by kernel_rfl) (by kernel_rfl) (fun _ _ _ h => h) (Or.inl ⟨by rfl, ?_⟩) (by assumption) ?_
      · (intro W hSw; have x1 := (hSw.cell (p := ⟨g3, o3 + i, none⟩) hg3).trans (HA3.out i hlt).1; have hff := HFL.out; go_simp; try (with_reducible rfl))
      try simp only [Act.put, List.setIfInBounds_toArray, List.set_cons_zero, List.set_cons_succ]
      refine wpAnyH_ready (rs := [12]) (by kernel_rfl) (by simp) ?_
      refine AllReadyH.cons (o := ⟨_, _, _, _, _, _⟩) rfl (fun K hK => ?_) ?_
      · go_simp
        go_at_call 131
        (with_reducible refine (HLR i _).out.mono ?_)
        rintro e W1 ⟨rfl, hb⟩
        replace hS := hS.trans (hb.mono hS.size)
        replace HJW := HJW.call hb
        clear hb
        refine hK.out _ _ hS (fun _ => ?_)
        clear hK K
        try simp only [Act.put, List.setIfInBounds_toArray, List.set_cons_zero, List.set_cons_succ]
        refine wpAnyH_take (oi := ⟨_, _, _, _, _, _⟩) (i := 13) (v := .pointer (some ⟨w4.heap.size, i, none⟩)) rfl (by kernel_rfl) (by kernel_rfl) (by kernel_rfl) (fun _ _ _ h => h) (Or.inl ⟨by rfl, ?_⟩) (by assumption) ?_
        · (intro W hSw; have x1 := (hSw.cell (p := ⟨g3, o3 + i, none⟩) hg3).trans (HA3.out i hlt).1; have hff := HFL.out; go_simp; try (with_reducible rfl))
        try simp only [Act.put, List.setIfInBounds_toArray, List.set_cons_zero, List.set_cons_succ]
        refine wpAnyH_ready (rs := [14]) (by kernel_rfl) (by simp) ?_
        refine AllReadyH.cons (o := ⟨_, _, _, _, _, _⟩) rfl (fun K hK => ?_) ?_
        · obtain ⟨z0, z1⟩ := HJW.cells hlt
          go_simp
          clear z0 z1
          replace HJW := HJW.next
          refine hK.out _ _ HJW.2.1 (fun _ => ?_)
          clear hK K
          try simp only [Act.put, List.setIfInBounds_toArray, List.set_cons_zero, List.set_cons_succ]
          refine wpAnyH_done (by kernel_rfl) ?_ _
          go_wp2_with fail
          go_roundw
          case rel => exact ⟨i + 1, HLT.out, by go_num, HJW⟩
          case measure => (simp [intOf]; have := HLT.out; omega)
        exact AllReadyH.nil
      exact AllReadyH.nil
    · obtain rfl : i = c := by omega
      have HE := hid (HI.out.end (Nat.le_refl _))
      have HVR := HVC _ R wr (RowAt.of_own HE.out.1 hc1) HRF.out
      have hR0 := hR4.below HE.out.2 hnb
      have HB9 := hid (hB4.trans (HE.out.2.mono hB4.size))
      clear HVC HI
      go_wp2_with (go_at_call 129; refine HVR.out.mono ?_; rintro e w9 ⟨rfl, hb9⟩; have HC9 := hid (hR0.call hb9); have HB10 := hid (HB9.out.trans (hb9.mono HB9.out.size)); have r0 := (hR0.call hb9).at (k := 0) (v := .int .i64 0) rfl; have r1 := (hR0.call hb9).at (k := 1) (v := .int .u64 0) rfl; have r2 := (hR0.call hb9).at (k := 2) (v := .int .u64 0) rfl; have r3 := (hR0.call hb9).at (k := 3) (v := .bool false) rfl; have f0 := (hR0.call hb9).free 0; have f1 := (hR0.call hb9).free 1; have f2 := (hR0.call hb9).free 2; have f3 := (hR0.call hb9).free 3; clear hb9)
      refine bodyPost_ret (v := .agg #[.int .i64 123, .int .u64 (loF n R : Nat), .int .u64 (hiF n R : Nat), .bool false]) ?_ rfl ⟨rfl, (((HB10.out.setCell (p := ⟨w.heap.size + 1, 0, none⟩) (Nat.le_succ _) _).setCell (p := ⟨w.heap.size + 1, 1, none⟩) (Nat.le_succ _) _).setCell (p := ⟨w.heap.size + 1, 2, none⟩) (Nat.le_succ _) _).setCell (p := ⟨w.heap.size + 1, 3, none⟩) (Nat.le_succ _) _⟩
      simp [results, Tryz.results80, go_sem, r0, r1, r2, r3]
end Go.Proofs.YtlhakbkdlgejpaaGreatDoor
namespace Go.Proofs.YtlhakbkdlgejpaaGreatDoor
open Go.RowKit
set_option maxHeartbeats 4000000 in
set_option maxRecDepth 100000 in
theorem RDo_vec (op : Int) (h64 : 64768 ≤ op) (ro : Int) (nm : List UInt8) (tk lv : List UInt8) (fx : Bool) (hr : ofL op = (ro, nm, 0, tk, lv, fx)) (hro : 0 ≤ ro) (htk : tk.length ≤ 100) (hlv : lv.length ≤ 100) (hlv2 : tyL lv = [123])
    (l : List Av) (hT : tyL tk = l.map (·.1)) (hl1 : 1 ≤ l.length) (hl : l.length ≤ 10) (va : Value) (w : World) (ha : AR w va l) (lo hi : Nat)
    (HD : ∀ W, Below w.heap.size w W → Calls Tryz.prog 80 #[rwV (ro, nm, 0, tk, lv, fx), .slice none 0 0, va] W fun e w' => e = .returned (vv 123 lo hi false) ∧ Below W.heap.size W w') :
    Calls Tryz.prog 38 #[.int .i64 op, .slice none 0 0, va] w fun e w' => e = .returned (.tuple #[vv 123 lo hi false, .int .i64 0]) ∧ Below w.heap.size w w' := by
  have HO := fun W => hid (Of_says op W)
  rw [hr] at HO
  have HT1 := fun W => hid (reftypes_says tk htk W)
  have HT2 := fun W => hid (reftypes_says lv hlv W)
  rw [hlv2] at HT2
  have HDD := fun W h => hid (HD W h)
  have HT := hid hT
  have hlen : (tyL tk).length = l.length := by rw [hT, List.length_map]
  obtain ⟨ga, ca, rfl, hga, hca, hata⟩ := ha
  have HA := hid hata
  obtain ⟨n, hn⟩ : ∃ n, n = l.length := ⟨_, rfl⟩
  rw [← hn] at hca hl1 hl hlen ⊢
  rw [← hn] at HDD
  have HN := hid hn
  have hop : ¬ (op < 64768) := by omega
  have hro2 : ¬ (ro < 0) := by omega
  unfold vv at HDD ⊢
  unfold rwV at HO HDD
  generalize tyL tk = ta at *
  clear hr hlv2 HD hT hata hn h64 hro
  go_enter Tryz.func38, Tryz.ntmps38
  go_upto_region 9 with (first
    | (go_at_call 23; refine (HO _).out.mono ?_; rintro e w1 ⟨rfl, hb1⟩; have HX1 := hid (below_new hb1); clear hb1)
    | (go_at_call 25; (with_reducible refine (HT1 _).out.mono ?_); rintro e w2 ⟨v2, rfl, ho2, hb2⟩; have HO2 := hid ho2; have HX2 := hid (below_new hb2); have m0 := HX2.out.1.at (k := 0) (v := .int .i64 ro) rfl; have m1 := HX2.out.1.at (k := 1) (v := .string (str nm)) rfl; have m2 := HX2.out.1.at (k := 2) (v := .int .i64 0) rfl; have m3 := HX2.out.1.at (k := 3) (v := .string (str tk)) rfl; have m4 := HX2.out.1.at (k := 4) (v := .string (str lv)) rfl; have m5 := HX2.out.1.at (k := 5) (v := .bool fx) rfl; clear hb2 ho2)
    | (go_at_call 25; (with_reducible refine (HT2 _).out.mono ?_); rintro e w3 ⟨v3, rfl, ho3, hb3⟩; have HO3 := hid ho3; have HO2' := hid (own_below HO2.out hb3 (Nat.le_refl _)); have HX3 := hid (And.intro (HX2.out.1.call hb3) (HX2.out.2.trans (hb3.mono HX2.out.2.size))); clear m0 m1 m2 m3 m4 m5; have p0 := HX3.out.1.at (k := 0) (v := .int .i64 ro) rfl; have p1 := HX3.out.1.at (k := 1) (v := .string (str nm)) rfl; have p2 := HX3.out.1.at (k := 2) (v := .int .i64 0) rfl; have p3 := HX3.out.1.at (k := 3) (v := .string (str tk)) rfl; have p4 := HX3.out.1.at (k := 4) (v := .string (str lv)) rfl; have p5 := HX3.out.1.at (k := 5) (v := .bool fx) rfl; clear hb3 ho3))
  obtain ⟨g2, c2, rfl⟩ := owned_at HO2'.out (by omega)
  obtain ⟨g3, c3, rfl⟩ : ∃ g cap, v3 = .slice (some ⟨g, 0, none⟩) 1 cap := owned_at HO3.out (Nat.le_refl _)
  have k3 : w3.cell? ⟨g3, 0, none⟩ = some (.int .i64 123) := HO3.out.cellAt 0 (by decide)
  have hg3 : g3 < w3.heap.size := (HO3.out.lt g3 rfl).2
  have hg2 : g2 < w3.heap.size := (HO2'.out.lt g2 rfl).2
  have HTC : Hid (∀ j a, l[j]? = some a → w3.cell? ⟨g2, j, none⟩ = some (.int .i64 a.1)) := fun j a hj => by
    have hjl : j < l.length := (List.getElem?_eq_some_iff.1 hj).1
    rw [HO2'.out.cellAt j (by rw [hlen, HN.out]; omega), HT.out]
    simp [ic, hj]
  have hB3 : Below w.heap.size w w3 := HX1.out.2.trans (HX3.out.2.mono HX1.out.2.size)
  have hR3 : CA w.heap.size #[.int .i64 0, .int .u64 0, .int .u64 0, .bool false] 24 w3 := HX1.out.1.call HX3.out.2
  have HXR := hid HX3.out.1
  have HB3 := hid hB3
  have HR3 := hid hR3
  have hwg : w.heap.size < w1.heap.size := HX1.out.1.lt
  generalize w1.heap.size = g8 at *
  rw [hlen]
  have hz : ((0 : Nat) : Int) = 0 := rfl
  clear HX1 HX2 HX3 HO2 HO2' HO3 HT hlen hB3 hR3
  go_wp2
  go_loopw [12] (fun vi wr => vi = .int .i64 0 ∧ wr = w3) (fun _ _ => 1)
  case atStart => exact ⟨rfl, rfl⟩
  case round =>
    obtain ⟨rfl, rfl⟩ := hrel
    go_wp2
    go_loopw [13] (fun vi ws => ∃ i : Nat, i ≤ n ∧ vi = .int .i64 i ∧ Hid (Below wr.heap.size wr ws)) (fun vi _ => n - (intOf vi).toNat)
    case atStart => exact ⟨0, Nat.zero_le _, rfl, Below.refl _ _⟩
    case round =>
      obtain ⟨i, hin, rfl, HB⟩ := hrel
      by_cases hlt : i < n
      · obtain ⟨a, hja⟩ : ∃ a, l[i]? = some a := ⟨l[i]'(by rw [← HN.out]; exact hlt), by simp [← HN.out, hlt]⟩
        obtain ⟨h0, _, _, _⟩ := HA.out i a hja
        have ht0 := HTC.out i a hja
        have e0 := (HB.out.cell (p := ⟨ga, i * 4, none⟩) (Nat.lt_of_lt_of_le hga HB3.out.size)).trans ((HB3.out.cell (p := ⟨ga, i * 4, none⟩) hga).trans h0)
        have e1 := (HB.out.cell (p := ⟨g2, i, none⟩) hg2).trans ht0
        generalize a.1 = t at *
        have ett : (t != t) = false := by simp
        clear h0 ht0 hja
        go_wp2
        go_region
        go_wp2
        go_roundw
        case rel => exact ⟨i + 1, by omega, by go_num, HB.out.drew⟩
        case measure => simp [intOf]; omega
      · obtain rfl : i = n := by omega
        have hXs := HXR.out.call HB.out
        have hRs := HR3.out.call HB.out
        have hBs := HB3.out.trans (HB.out.mono HB3.out.size)
        have HDW := HDD wr hBs
        have s0 := hXs.at (k := 0) (v := .int .i64 ro) rfl
        have s1 := hXs.at (k := 1) (v := .string (str nm)) rfl
        have s2 := hXs.at (k := 2) (v := .int .i64 0) rfl
        have s3 := hXs.at (k := 3) (v := .string (str tk)) rfl
        have s4 := hXs.at (k := 4) (v := .string (str lv)) rfl
        have s5 := hXs.at (k := 5) (v := .bool fx) rfl
        have k3' := (HB.out.cell (p := ⟨g3, 0, none⟩) hg3).trans k3
        have HRs := hid hRs
        have HBs := hid hBs
        have hg3s : g3 < wr.heap.size := Nat.lt_of_lt_of_le hg3 HB.out.size
        clear hXs hRs hBs
        go_wp2_with (go_at_call 80; refine HDW.out.mono ?_; rintro e w9 ⟨rfl, hb9⟩; have HR9 := hid (HRs.out.call hb9); have HB9 := hid (HBs.out.trans (hb9.mono HBs.out.size)); have k9 : ∀ o, (w9.alloc o).cell? ⟨g3, 0, none⟩ = some (.int .i64 123) := fun o => by { rw [((Below.refl _ w9).alloc (Nat.le_refl _) o).cell (p := ⟨g3, 0, none⟩) (Nat.lt_of_lt_of_le hg3s hb9.size), hb9.cell (p := ⟨g3, 0, none⟩) hg3s]; exact k3' }; have r0 := fun o => (HR9.out.alloc o).at (k := 0) (v := .int .i64 0) rfl; have r1 := fun o => (HR9.out.alloc o).at (k := 1) (v := .int .u64 0) rfl; have r2 := fun o => (HR9.out.alloc o).at (k := 2) (v := .int .u64 0) rfl; have r3 := fun o => (HR9.out.alloc o).at (k := 3) (v := .bool false) rfl; have f0 := fun o => (HR9.out.alloc o).free 0; have f1 := fun o => (HR9.out.alloc o).free 1; have f2 := fun o => (HR9.out.alloc o).free 2; have f3 := fun o => (HR9.out.alloc o).free 3; clear hb9)
        have hBF : Below w.heap.size w _ := ((((HB9.out.alloc HB9.out.size (.cells #[.int .i64 123, .int .u64 (lo : Nat), .int .u64 (hi : Nat), .bool false] 24)).setCell (p := ⟨w.heap.size, 0, none⟩) (Nat.le_refl _) (.int .i64 123)).setCell (p := ⟨w.heap.size, 1, none⟩) (Nat.le_refl _) (.int .u64 (lo : Nat))).setCell (p := ⟨w.heap.size, 2, none⟩) (Nat.le_refl _) (.int .u64 (hi : Nat))).setCell (p := ⟨w.heap.size, 3, none⟩) (Nat.le_refl _) (.bool false)
        refine bodyPost_ret (v := .tuple #[.agg #[.int .i64 123, .int .u64 (lo : Nat), .int .u64 (hi : Nat), .bool false], .int .i64 0]) ?_ rfl ⟨rfl, hBF⟩
        simp [results, Tryz.results38, go_sem, r0, r1, r2, r3]
end Go.Proofs.YtlhakbkdlgejpaaGreatDoor
namespace Go.Proofs.YtlhakbkdlgejpaaGreatDoor
open Go.RowKit
def RELI : List (List UInt8) := [[], [101, 113], [110, 101], [108, 116, 95, 115], [108, 116, 95, 117], [103, 116, 95, 115], [103, 116, 95, 117], [108, 101, 95, 115], [108, 101, 95, 117], [103, 101, 95, 115], [103, 101, 95, 117]]
def BINI : List (List UInt8) := [[], [97, 100, 100], [115, 117, 98], [109, 117, 108], [], [], [], [], [], [], [], [115, 104, 108], [115, 104, 114, 95, 115], [115, 104, 114, 95, 117], [], [], [97, 100, 100, 95, 115, 97, 116, 95, 115], [97, 100, 100, 95, 115, 97, 116, 95, 117], [115, 117, 98, 95, 115, 97, 116, 95, 115], [115, 117, 98, 95, 115, 97, 116, 95, 117], [109, 105, 110, 95, 115], [109, 105, 110, 95, 117], [109, 97, 120, 95, 115], [109, 97, 120, 95, 117], [97, 118, 103, 114, 95, 117], [113, 49, 53, 109, 117, 108, 114, 95, 115, 97, 116, 95, 115]]
end Go.Proofs.YtlhakbkdlgejpaaGreatDoor
namespace Go.Proofs.YtlhakbkdlgejpaaGreatDoor
open Go.RowKit
noncomputable def nmL (op : Int) : List UInt8 := (lineL op).1.toList
/-- What all kinds share. -/
noncomputable def chkC (two : Bool) (op : Int) : Bool :=
  knB (lineL op) && decide (64768 ≤ op) && decide (op < 65024) && ((lineL op).2.1 == 0) && (laL op == (if two then [123, 123] else [123])) && (lbL op == [123]) && eachV (verbL (nmL op)) && decide ((nmL op).length ≤ 1000) && ((xsL (nmL op)).2 == 0) &&
  decide (Okn (toL (nmL op)).2.toNat) && ((toL (nmL op)).2 == (((toL (nmL op)).2.toNat : Nat) : Int)) && !(verbL (nmL op) == [110, 111, 116]) && !(verbL (nmL op) == [97, 110, 100, 110, 111, 116]) &&
  decide (0 ≤ (ofL op).1) && ((ofL op).2.1 == nmL op) && ((ofL op).2.2.1 == 0) && decide ((ofL op).2.2.2.1.length ≤ 100) && decide ((ofL op).2.2.2.2.1.length ≤ 100) && (tyL (ofL op).2.2.2.1 == (if two then [123, 123] else [123])) && (tyL (ofL op).2.2.2.2.1 == [123]) &&
  (biL (headC (nmL op) 46) == (toL (nmL op)).2) && !(tailC (nmL op) 46 == [115, 112, 108, 97, 116]) && !(tailC (nmL op) 46 == [115, 119, 105, 122, 122, 108, 101]) && !(tailC (nmL op) 46 == [97, 108, 108, 95, 116, 114, 117, 101]) && !(tailC (nmL op) 46 == [98, 105, 116, 109, 97, 115, 107]) && noSh 10 (tailC (nmL op) 46)
noncomputable def chkI (op : Int) : Bool := ((toL (nmL op)).1 == false) && ((headC (nmL op) 46).headD 0 == 105) && decide (1 ≤ (headC (nmL op) 46).length)
noncomputable def chkBin (op : Int) : Bool := chkC true op && chkI op && (swL IU (verbL (nmL op)) == 0) && (swL (IR (sgL (nmL op))) (verbL (nmL op)) == 0) && (plL RELI (tailC (nmL op) 46) 0 == -1) && (plL BINI (tailC (nmL op) 46) 0 == swL (IB (sgL (nmL op))) (verbL (nmL op))) &&
  !(tailC (nmL op) 46 == [97, 98, 115]) && !(tailC (nmL op) 46 == [110, 101, 103]) && !(tailC (nmL op) 46 == [112, 111, 112, 99, 110, 116])
end Go.Proofs.YtlhakbkdlgejpaaGreatDoor
namespace Go.Proofs.YtlhakbkdlgejpaaGreatDoor
open Go.RowKit
theorem toN_lt (n : Nat) (z : Int) : toN n z < 2 ^ n := by
  unfold toN
  have h : (0 : Int) < ((2 ^ n : Nat) : Int) := by exact_mod_cast Nat.two_pow_pos n
  have h1 := Int.emod_nonneg z (Int.ne_of_gt h)
  have h2 := Int.emod_lt_of_pos z h
  omega
theorem divR_lt {n : Nat} (op a b : Nat) (ha : a < 2 ^ n) (hb : b < 2 ^ n) : (divR n op a b).1 < 2 ^ n := by
  have h0 := Nat.two_pow_pos n
  have ht := toN_lt n
  have h1 : a / b < 2 ^ n := Nat.lt_of_le_of_lt (Nat.div_le_self _ _) ha
  have h2 : a % b < 2 ^ n := Nat.lt_of_le_of_lt (Nat.mod_le _ _) ha
  have h3 := ht ((sg n a).tmod (sg n b))
  have h4 := ht ((sg n a).tdiv (sg n b))
  unfold divR
  generalize toN n ((sg n a).tmod (sg n b)) = t1 at *
  generalize toN n ((sg n a).tdiv (sg n b)) = t2 at *
  generalize a / b = t3 at *
  generalize a % b = t4 at *
  by_cases c0 : b = 0
  · rw [if_pos c0]; exact h0
  rw [if_neg c0]
  by_cases c1 : op = 5
  · rw [if_pos c1]; exact h1
  rw [if_neg c1]
  by_cases c2 : op = 7
  · rw [if_pos c2]; exact h2
  rw [if_neg c2]
  by_cases c3 : op = 6
  · rw [if_pos c3]; exact h3
  rw [if_neg c3]
  by_cases c4 : a = 2 ^ (n - 1) ∧ b = 2 ^ n - 1
  · rw [if_pos c4]; exact h0
  rw [if_neg c4]; exact h4
theorem shiftR_lt {n : Nat} (op a k : Nat) (ha : a < 2 ^ n) : shiftR n op a k < 2 ^ n := by
  have h0 := Nat.two_pow_pos n
  have hm : ∀ x : Nat, x % 2 ^ n < 2 ^ n := fun x => Nat.mod_lt _ h0
  have ht := toN_lt n
  unfold shiftR
  by_cases c0 : op = 11
  · rw [if_pos c0]; exact hm _
  rw [if_neg c0]
  by_cases c1 : op = 12
  · rw [if_pos c1]; exact ht _
  rw [if_neg c1]
  by_cases c2 : op = 13
  · rw [if_pos c2]; exact Nat.lt_of_le_of_lt (Nat.div_le_self _ _) ha
  rw [if_neg c2]
  by_cases c3 : op = 14
  · rw [if_pos c3]; exact hm _
  rw [if_neg c3]; exact hm _
theorem satR_lt {n : Nat} (op a b : Nat) (ha : a < 2 ^ n) (hb : b < 2 ^ n) : satR n op a b < 2 ^ n := by
  have h0 := Nat.two_pow_pos n
  have ht := toN_lt n
  unfold satR
  by_cases c0 : op = 16
  · rw [if_pos c0]; exact ht _
  rw [if_neg c0]
  by_cases c1 : op = 18
  · rw [if_pos c1]; exact ht _
  rw [if_neg c1]
  by_cases c2 : op = 17
  · rw [if_pos c2]
    by_cases c3 : 2 ^ n - 1 < a + b
    · rw [if_pos c3]; omega
    · rw [if_neg c3]; omega
  rw [if_neg c2]; omega
theorem mmR_lt {n : Nat} (op a b : Nat) (ha : a < 2 ^ n) (hb : b < 2 ^ n) : mmR n op a b < 2 ^ n := by
  unfold mmR
  by_cases c0 : op = 20
  · rw [if_pos c0]; split <;> assumption
  rw [if_neg c0]
  by_cases c1 : op = 22
  · rw [if_pos c1]; split <;> assumption
  rw [if_neg c1]
  by_cases c2 : op = 21
  · rw [if_pos c2]; split <;> assumption
  rw [if_neg c2]; split <;> assumption
theorem binR_lt {n : Nat} (hn : Okn n) (op a b : Nat) (ha : a < 2 ^ n) (hb : b < 2 ^ n) : (binR n op a b).1 < 2 ^ n := by
  have h0 := Nat.two_pow_pos n
  have hm : ∀ x : Nat, x % 2 ^ n < 2 ^ n := fun x => Nat.mod_lt _ h0
  have ht := toN_lt n
  unfold binR
  by_cases c1 : op = 1
  · rw [if_pos c1]; exact hm _
  rw [if_neg c1]
  by_cases c2 : op = 2
  · rw [if_pos c2]; exact hm _
  rw [if_neg c2]
  by_cases c3 : op = 3
  · rw [if_pos c3]; exact hm _
  rw [if_neg c3]
  by_cases c4 : op ≤ 7
  · rw [if_pos c4]; exact divR_lt _ _ _ ha hb
  rw [if_neg c4]
  by_cases c5 : op = 8
  · rw [if_pos c5]; exact Nat.and_lt_two_pow _ hb
  rw [if_neg c5]
  by_cases c6 : op = 9
  · rw [if_pos c6]; exact Nat.or_lt_two_pow ha hb
  rw [if_neg c6]
  by_cases c7 : op = 10
  · rw [if_pos c7]; exact Nat.xor_lt_two_pow ha hb
  rw [if_neg c7]
  by_cases c8 : op ≤ 15
  · rw [if_pos c8]; exact shiftR_lt _ _ _ ha
  rw [if_neg c8]
  by_cases c9 : op ≤ 19
  · rw [if_pos c9]; exact satR_lt _ _ _ ha hb
  rw [if_neg c9]
  by_cases c10 : op ≤ 23
  · rw [if_pos c10]; exact mmR_lt _ _ _ ha hb
  rw [if_neg c10]
  by_cases c11 : op = 24
  · rw [if_pos c11]; show (a + b + 1) / 2 < 2 ^ n; omega
  rw [if_neg c11]; exact ht _
theorem binA_lt (n : Nat) (hn : Okn n) (k : Int) (x y : Nat) : (binA n k x y).1 < 18446744073709551616 := by
  have h64 : 2 ^ n ≤ 18446744073709551616 := (pow_lt64 hn).2.2.1
  unfold binA
  split
  · exact Nat.lt_of_lt_of_le (binR_lt (by simpa using hn) _ _ _ (Nat.mod_lt _ (Nat.two_pow_pos _)) (Nat.mod_lt _ (Nat.two_pow_pos _))) h64
  · decide
theorem ix_str (b : UInt8) (t : List UInt8) (W : World) : (Instr.index 9 (.string (str (b :: t))) (.int .i64 0)).run Tryz.prog W = .ok (.int .u8 b.toNat) W := by
  simp [Instr.index, asIntOf, run_underlying Tryz.underlying9, str]
  rfl
end Go.Proofs.YtlhakbkdlgejpaaGreatDoor
namespace Go.Proofs.YtlhakbkdlgejpaaGreatDoor
open Go.RowKit
/-- What the Boolean of all kinds says. -/
structure PC (two : Bool) (op : Int) (n : Nat) (vb : List UInt8) (sg : Bool) (sh what nm : List UInt8) (ro : Int) (tk lv : List UInt8) (fx : Bool) : Prop where
  kn : knB (lineL op) = true
  lo : 64768 ≤ op
  hi : op < 65024
  im : (lineL op).2.1 = 0
  la : laL op = (if two then [123, 123] else [123])
  lb : lbL op = [123]
  ea : eachV vb = true
  len : nm.length ≤ 1000
  xs : ((xsL nm).2 == 0) = true
  okn : Okn n
  n0 : (vb == [110, 111, 116]) = false
  n1 : (vb == [97, 110, 100, 110, 111, 116]) = false
  ro0 : 0 ≤ ro
  of : ofL op = (ro, nm, 0, tk, lv, fx)
  tk1 : tk.length ≤ 100
  lv1 : lv.length ≤ 100
  tk2 : tyL tk = (if two then [123, 123] else [123])
  lv2 : tyL lv = [123]
  bi : biL sh = n
  w0 : (what == [115, 112, 108, 97, 116]) = false
  w1 : (what == [115, 119, 105, 122, 122, 108, 101]) = false
  w2 : (what == [97, 108, 108, 95, 116, 114, 117, 101]) = false
  w3 : (what == [98, 105, 116, 109, 97, 115, 107]) = false
  ns : noSh 10 what = true
  par : parV nm = insV vb false n false n sg
  nm1 : (lineL op).1 = str nm
  shE : headC nm 46 = sh
  whE : tailC nm 46 = what
  ix : ∀ W, (Instr.index 9 (.string (str sh)) (.int .i64 0)).run Tryz.prog W = .ok (.int .u8 105) W
theorem PC_of (two : Bool) (op : Int) (h : chkC two op = true) (h' : chkI op = true) :
    ∃ n ro tk lv fx, PC two op n (verbL (nmL op)) (sgL (nmL op)) (headC (nmL op) 46) (tailC (nmL op) 46) (nmL op) ro tk lv fx := by
  unfold chkC at h
  unfold chkI at h'
  have e1 : (lineL op).1 = str (nmL op) := (list_str _).symm
  generalize nmL op = nm at *
  obtain ⟨⟨ro, nm', im, tk, lv, fx⟩, hr⟩ : ∃ r, ofL op = r := ⟨_, rfl⟩
  rw [hr] at h
  obtain ⟨n, hn⟩ : ∃ n, n = (toL nm).2.toNat := ⟨_, rfl⟩
  rw [← hn] at h
  simp only [Bool.and_eq_true, decide_eq_true_eq, beq_iff_eq, Bool.not_eq_true'] at h h'
  obtain ⟨⟨⟨⟨⟨⟨⟨⟨⟨⟨⟨⟨⟨⟨⟨⟨⟨⟨⟨⟨⟨⟨⟨⟨⟨a1, a2⟩, a3⟩, a4⟩, a5⟩, a6⟩, a7⟩, a8⟩, a9⟩, a10⟩, a11⟩, a12⟩, a13⟩, b1⟩, b2⟩, b3⟩, b4⟩, b5⟩, b6⟩, b7⟩, c1⟩, c2⟩, c3⟩, c4⟩, c5⟩, c6⟩ := h
  obtain ⟨⟨d1, d2⟩, d3⟩ := h'
  subst b2
  subst b3
  have x0 : ((xsL nm').2 == 0) = true := by rw [a9]; rfl
  refine ⟨n, ro, tk, lv, fx, a1, a2, a3, a4, a5, a6, a7, a8, x0, a10, a12, a13, b1, hr, b4, b5, b6, b7, by rw [c1, a11], c2, c3, c4, c5, c6, ?_, e1, rfl, rfl, ?_⟩
  · unfold parV
    have hf : fromL nm' = toL nm' := by unfold fromL; rw [if_pos x0]
    rw [hf, d1, a11]
  · cases hc : headC nm' 46 with
    | nil => rw [hc] at d3; simp at d3
    | cons b t =>
      rw [hc] at d2
      obtain rfl : b = 105 := d2
      exact fun W => ix_str 105 t W
end Go.Proofs.YtlhakbkdlgejpaaGreatDoor
namespace Go.Proofs.YtlhakbkdlgejpaaGreatDoor
open Go.RowKit
theorem bin64878 : chkBin 64878 = true := by kernel_rfl
theorem name64878 : nmL 64878 = [105, 56, 120, 49, 54, 46, 97, 100, 100] := by kernel_rfl
/-- What the program's Do comes to at 64878 (a sum of sixteen lanes) of awake's two vectors. -/
theorem Do_awake (w : World) (hg : Glob w) (va : Value) (ha : AR w va [(123, 14468034567615334600, 14468034567615334600, false), (123, 100, 56, false)]) :
    Calls Tryz.prog 20 #[.int .i64 64878, .slice none 0 0, va] w fun e w' => e = .returned (.tuple #[vv 123 14468034567615334444 14468034567615334400 false, .int .i64 0]) ∧ Below w.heap.size w w' := by
  have h := bin64878
  unfold chkBin at h
  simp only [Bool.and_eq_true, Bool.not_eq_true'] at h
  obtain ⟨⟨⟨⟨⟨⟨⟨⟨hc, hi⟩, u0⟩, u1⟩, u2⟩, u3⟩, v0⟩, v1⟩, v2⟩ := h
  obtain ⟨n, ro, tk, lv, fx, P⟩ := PC_of true 64878 hc hi
  have hbi := P.bi
  rw [name64878] at P u0 u1 u3 hbi
  have hn : n = 8 := by
    have e : biL (headC [105, 56, 120, 49, 54, 46, 97, 100, 100] 46) = 8 := by decide +kernel
    rw [e] at hbi; omega
  subst hn
  have e1 : verbL [105, 56, 120, 49, 54, 46, 97, 100, 100] = [97, 100, 100] := by decide +kernel
  have e2 : sgL [105, 56, 120, 49, 54, 46, 97, 100, 100] = false := by decide +kernel
  rw [e1, e2] at P
  have H := Do_each2 64878 [105, 56, 120, 49, 54, 46, 97, 100, 100] [97, 100, 100] 8 P.okn false false 0 false P.nm1 P.par P.len (fun hx => by rw [P.xs] at hx; cases hx) P.lo P.kn P.im P.la P.lb P.ea (fun x y => (binA 8 1 x y).1)
    (fun W => operation_bin_i [97, 100, 100] false 8 8 false 1 (by decide +kernel) (by decide +kernel) (by decide +kernel) _ (Two_int 8 1) P.n0 P.n1 W) (fun x y _ _ => binA_lt 8 P.okn 1 x y) 14468034567615334600 14468034567615334600 100 56 false false (by decide) (by decide) (by decide) (by decide) w hg va ha
  have x1 : loF 8 (fun i => (binA 8 1 (splitF 8 14468034567615334600 14468034567615334600 i) (splitF 8 100 56 i)).1) = 14468034567615334444 := by decide +kernel
  have x2 : hiF 8 (fun i => (binA 8 1 (splitF 8 14468034567615334600 14468034567615334600 i) (splitF 8 100 56 i)).1) = 14468034567615334400 := by decide +kernel
  rw [x1, x2] at H
  exact H
end Go.Proofs.YtlhakbkdlgejpaaGreatDoor
