/-
  The contract of the document's own done, where each lane is worked with one number. Condition: no shape stands in the verb.
-/
import Derived.Test.YtlhakbkdlgejpaaGreatDoorL11
set_option linter.unusedSimpArgs false
set_option linter.unusedVariables false
set_option maxRecDepth 100000
namespace Go.Proofs.YtlhakbkdlgejpaaGreatDoor
open Go.RowKit

set_option maxHeartbeats 4000000 in
set_option maxRecDepth 100000 in
theorem RDone_num (r : Rw) (sh what : List UInt8) (hsh : headC r.2.1 46 = sh) (hwhat : tailC r.2.1 46 = what) (hnl : r.2.1.length ≤ 1000) (n : Nat) (hn : Okn n) (hbi : biL sh = n) (him : (r.2.2.1 == 25) = false) (him2 : (r.2.2.1 == 24) = false)
    (hw0 : (what == [115, 112, 108, 97, 116]) = false) (hw1 : (what == [115, 119, 105, 122, 122, 108, 101]) = false) (hw2 : (what == [97, 108, 108, 95, 116, 114, 117, 101]) = false) (hw3 : (what == [98, 105, 116, 109, 97, 115, 107]) = false)
    (m : Nat) (hns : noSh m what = true) (fb : Int) (fl : Bool) (hfl : (fb == 102) = fl) (hix : ∀ W, (Instr.index 9 (.string (str sh)) (.int .i64 0)).run Tryz.prog W = .ok (.int .u8 fb) W)
    (vi va : Value) (lo hi : Nat) (nl : Bool) (nn : Nat) (hnn : nn < 18446744073709551616) (hlo : lo < 18446744073709551616) (hhi : hi < 18446744073709551616) (w : World) (ha : AR w va ([(123, lo, hi, nl), (127, nn, 0, false)])) (f : Nat → Nat → Nat)
    (HLane : ∀ (a b : Nat) (W : World), a < 18446744073709551616 → b < 18446744073709551616 → Calls Tryz.prog 131 #[.int .i64 n, .bool fl, .string (str what), .int .u64 a, .int .u64 b] W fun e w' => e = .returned (.int .u64 (f a b : Nat)) ∧ Below W.heap.size W w')
    (hf : ∀ i, i < cnt n → f (splitF n lo hi i) (nn) < 18446744073709551616) :
    Calls Tryz.prog 80 #[rwV r, vi, va] w fun e w' => e = .returned (vv 123 (loF n (fun i => f (splitF n lo hi i) (nn))) (hiF n (fun i => f (splitF n lo hi i) (nn))) false) ∧ Below w.heap.size w w' := by
  obtain ⟨i0, hi0, hz0, hz1, hz2⟩ := info_parts info22
  obtain ⟨ro, nm, im, tk, lv, fx⟩ := r
  simp only [] at hsh hwhat hnl him him2
  have HCT := fun W => hid (RCut_says nm hnl 46 46 rfl W)
  rw [hsh, hwhat] at HCT
  have HBI := fun W => hid (RBits_says sh W)
  rw [hbi] at HBI
  have hwl : what.length ≤ 1000 := by
    rw [← hwhat]; unfold tailC; split
    · rw [List.length_drop]; omega
    · simp
  have HSO := fun W => hid (source_none what hwl m hns W)
  have HSP := fun W => hid (RSplit_says n hn 123 lo hi nl hlo hhi W)
  have hc1 : 1 ≤ cnt n := by rcases hn.cases with ⟨_, _, h⟩ | ⟨_, _, h⟩ | ⟨_, _, h⟩ | ⟨_, _, h⟩ <;> omega
  have hc16 : cnt n ≤ 16 := by rcases hn.cases with ⟨_, _, h⟩ | ⟨_, _, h⟩ | ⟨_, _, h⟩ | ⟨_, _, h⟩ <;> omega
  have HVC := fun v (F : Nat → Nat) W (h : RowAt W v (cnt n) F) hF => hid (RVector_says n hn v (cnt n) (Nat.le_refl _) (by omega) F W h hF)
  have hn0 : ((n : Int) == 0) = false := by have := hn.le; simp; omega
  have q0 : ((str what).toList == [115, 112, 108, 97, 116]) = false := by rw [str_list]; exact hw0
  have q1 : ((str what).toList == [115, 119, 105, 122, 122, 108, 101]) = false := by rw [str_list]; exact hw1
  have q2 : ((str what).toList == [97, 108, 108, 95, 116, 114, 117, 101]) = false := by rw [str_list]; exact hw2
  have q3 : ((str what).toList == [98, 105, 116, 109, 97, 115, 107]) = false := by rw [str_list]; exact hw3
  have HFL := hid hfl
  obtain ⟨ga, ca, rfl, hga, hca, hata⟩ := ha
  obtain ⟨a0, a1, a2, a3⟩ := hata 0 (123, lo, hi, nl) rfl
  obtain ⟨b0, b1, b2, b3⟩ := hata 1 (127, nn, 0, false) rfl
  simp only [Nat.zero_mul, Nat.zero_add] at a0 a1 a2 a3 b0 b1 b2 b3
  have hF0 : Hid (∀ i, splitF n lo hi i < 18446744073709551616) := fun i => splitF_u64 hn lo hi i
  obtain ⟨F, hFe⟩ : ∃ F, F = splitF n lo hi := ⟨_, rfl⟩
  obtain ⟨R, hRe⟩ : ∃ R : Nat → Nat, R = fun i => f (splitF n lo hi i) (nn) := ⟨_, rfl⟩
  have hR : ∀ i, R i = f (F i) (nn) := fun i => by rw [hRe, hFe]
  have HRF : Hid (∀ i, i < cnt n → R i < 18446744073709551616) := fun i hi => by rw [hRe]; exact hf i hi
  rw [← hRe]
  rw [← hFe] at HSP hF0
  have HLR : ∀ (i : Nat) (W : World), Hid (Calls Tryz.prog 131 #[.int .i64 n, .bool fl, .string (str what), .int .u64 (F i : Nat), .int .u64 ((nn : Nat))] W fun e w' => e = .returned (.int .u64 (R i : Nat)) ∧ Below W.heap.size W w') := fun i W => hid (by
    rw [hR i]
    exact HLane (F i) (nn) W (hF0.out i) hnn)
  unfold vv at HSP HVC ⊢
  unfold rwV
  simp only [List.length_cons, List.length_nil] at hca ⊢
  obtain ⟨c, hce⟩ : ∃ c, c = cnt n := ⟨_, rfl⟩
  rw [← hce] at HSP HVC hc1 hc16 HRF 
  generalize str what = sw at *
  generalize str sh = ss at *
  generalize str nm = sn at *
  clear hsh hwhat hbi hns hfl hlo hhi hata HLane hf hFe hRe hR hw0 hw1 hw2 hw3 hn hnl hwl hce 
  go_enter Tryz.func80, Tryz.ntmps80
  go_upto_region 13 with (first
    | (go_at_call 122; refine (HCT _).out.mono ?_; rintro e w1 ⟨rfl, hb1⟩; have hX1 := (And.intro ((CA.new _ _ 24).call hb1) (((((Below.refl w.heap.size w).alloc (Nat.le_refl _) _).alloc (by first | omega | (simp <;> omega)) _)).trans (hb1.mono (by first | omega | (simp <;> omega))))); have HX1 := hid hX1; have a0' := (hX1.2.cell (p := ⟨ga, 0, none⟩) hga).trans a0; have a1' := (hX1.2.cell (p := ⟨ga, 1, none⟩) hga).trans a1; have a2' := (hX1.2.cell (p := ⟨ga, 2, none⟩) hga).trans a2; have a3' := (hX1.2.cell (p := ⟨ga, 3, none⟩) hga).trans a3; have hbx := (((CA.new w _ 36).alloc _).call hb1).at (k := 2) (v := .int .i64 im) rfl; clear hb1 hX1)
    | (go_at_call 123; refine (HBI _).out.mono ?_; rintro e w2 ⟨rfl, rfl⟩)
    | (go_at_call 126; (with_reducible refine (HSP _).out.mono ?_); rintro e w3 ⟨v3, rfl, ho3, hb3⟩; have HR3 := hid (RowAt.of_own ho3 hc1); have HX3 := hid (And.intro (HX1.out.1.call hb3) (HX1.out.2.trans (hb3.mono HX1.out.2.size))); clear hb3 ho3)
    | (go_at_call 128; refine (HSO _).out.mono ?_; rintro e w4 ⟨rfl, hb4⟩; have HR4 := hid (HR3.out.call hb4); have HX4 := hid (And.intro (HX3.out.1.call hb4) (HX3.out.2.trans (hb4.mono HX3.out.2.size))); clear hb4))
  obtain ⟨g3, o3, cap3, rfl, hg3, hcap3, hat3⟩ := HR4.out
  have HA3 := hid hat3
  have hB4 := HX4.out.2
  have hR4 : CA (w.heap.size + 1) #[.int .i64 0, .int .u64 0, .int .u64 0, .bool false] 24 w4 := by have := HX4.out.1; rw [size_al] at this; exact this
  have hnb : w.heap.size + 1 < w4.heap.size := hR4.lt
  have b0' := (hB4.cell (p := ⟨ga, 4, none⟩) hga).trans b0
  have b1' := (hB4.cell (p := ⟨ga, 5, none⟩) hga).trans b1
  have hga4 : ga < w4.heap.size := Nat.lt_of_lt_of_le hga hB4.size
  clear hat3 HR4 HX3 HX1 HR3
  go_wp2_with (at_make; refine wpList_make_full _ rfl _ _ 40 rfl w4.heap.size 22 i0 (.int .u64 0) 1 Tryz.underlying40 hi0 hz0 hz1 .i64 .i64 _ _ c rfl rfl rfl rfl (by rw [hz2]; omega) (by unfold maxLen; omega) (Nat.le_refl _) ?_; intro w5 hown5 hgrow5)
  have HS5 := hid (EInv.start (F := R) hown5 hgrow5)
  clear hown5 hgrow5
  go_loopw [14] (fun vi wr => ∃ i : Nat, i ≤ c ∧ vi = .int .i64 i ∧ Hid (EInv w4 w4.heap.size c R i wr)) (fun vi _ => c - (intOf vi).toNat)
  case atStart => exact ⟨0, Nat.zero_le _, rfl, HS5⟩
  case round =>
    obtain ⟨i, hin, rfl, HI⟩ := hrel
    by_cases hlt : i < c
    · have HLT := hid hlt
      have d0 := (HI.out.2.1.cell (p := ⟨ga, 4, none⟩) hga4).trans b0'
      have d1 := (HI.out.2.1.cell (p := ⟨ga, 5, none⟩) hga4).trans b1'
      go_upto_region 22 with fail
      have HJW := HI.out.drew
      have hS := HJW.2.1
      refine wp_region_held_drew (S := Below w4.heap.size w4) (by kernel_rfl) hS (fun _ => ?_)
      generalize wr.drew = W at *
      refine wpAnyH_take (oi := ⟨_, _, _, _, _, _⟩) (i := 0) (v := .slice (some ⟨w4.heap.size, 0, none⟩) c c) rfl (by kernel_rfl) (by kernel_rfl) (by kernel_rfl) (fun _ _ _ h => h) (Or.inl ⟨by rfl, ?_⟩) (by assumption) ?_
      · (intro W hSw; have x1 := (hSw.cell (p := ⟨g3, o3 + i, none⟩) hg3).trans (HA3.out i hlt).1; have hff := HFL.out; go_simp; try (with_reducible rfl))
      try simp only [Act.put, List.setIfInBounds_toArray, List.set_cons_zero, List.set_cons_succ]
      refine wpAnyH_take (oi := ⟨_, _, _, _, _, _⟩) (i := 1) (v := .int .i64 i) rfl (by kernel_rfl) (by kernel_rfl) (by kernel_rfl) (fun _ _ _ h => h) (Or.inl ⟨by rfl, ?_⟩) (by assumption) ?_
      · (intro W hSw; have x1 := (hSw.cell (p := ⟨g3, o3 + i, none⟩) hg3).trans (HA3.out i hlt).1; have hff := HFL.out; go_simp; try (with_reducible rfl))
      try simp only [Act.put, List.setIfInBounds_toArray, List.set_cons_zero, List.set_cons_succ]
      refine wpAnyH_take (oi := ⟨_, _, _, _, _, _⟩) (i := 2) (v := .int .i64 n) rfl (by kernel_rfl) (by kernel_rfl) (by kernel_rfl) (fun _ _ _ h => h) (Or.inl ⟨by rfl, ?_⟩) (by assumption) ?_
      · (intro W hSw; have x1 := (hSw.cell (p := ⟨g3, o3 + i, none⟩) hg3).trans (HA3.out i hlt).1; have hff := HFL.out; go_simp; try (with_reducible rfl))
      try simp only [Act.put, List.setIfInBounds_toArray, List.set_cons_zero, List.set_cons_succ]
      refine wpAnyH_take (oi := ⟨_, _, _, _, _, _⟩) (i := 3) (v := .string ss) rfl (by kernel_rfl) (by kernel_rfl) (by kernel_rfl) (fun _ _ _ h => h) (Or.inl ⟨by rfl, ?_⟩) (by assumption) ?_
      · (intro W hSw; have x1 := (hSw.cell (p := ⟨g3, o3 + i, none⟩) hg3).trans (HA3.out i hlt).1; have hff := HFL.out; go_simp; try (with_reducible rfl))
      try simp only [Act.put, List.setIfInBounds_toArray, List.set_cons_zero, List.set_cons_succ]
      refine wpAnyH_take (oi := ⟨_, _, _, _, _, _⟩) (i := 4) (v := .int .u8 fb) rfl (by kernel_rfl) (by kernel_rfl) (by kernel_rfl) (fun _ _ _ h => h) (Or.inl ⟨by rfl, ?_⟩) (by assumption) ?_
      · (intro W hSw; have x1 := (hSw.cell (p := ⟨g3, o3 + i, none⟩) hg3).trans (HA3.out i hlt).1; have hff := HFL.out; go_simp; try (with_reducible rfl))
      try simp only [Act.put, List.setIfInBounds_toArray, List.set_cons_zero, List.set_cons_succ]
      refine wpAnyH_take (oi := ⟨_, _, _, _, _, _⟩) (i := 5) (v := .bool fl) rfl (by kernel_rfl) (by kernel_rfl) (by kernel_rfl) (fun _ _ _ h => h) (Or.inl ⟨by rfl, ?_⟩) (by assumption) ?_
      · (intro W hSw; have x1 := (hSw.cell (p := ⟨g3, o3 + i, none⟩) hg3).trans (HA3.out i hlt).1; have hff := HFL.out; go_simp; try (with_reducible rfl))
      try simp only [Act.put, List.setIfInBounds_toArray, List.set_cons_zero, List.set_cons_succ]
      refine wpAnyH_take (oi := ⟨_, _, _, _, _, _⟩) (i := 6) (v := .string sw) rfl (by kernel_rfl) (by kernel_rfl) (by kernel_rfl) (fun _ _ _ h => h) (Or.inl ⟨by rfl, ?_⟩) (by assumption) ?_
      · (intro W hSw; have x1 := (hSw.cell (p := ⟨g3, o3 + i, none⟩) hg3).trans (HA3.out i hlt).1; have hff := HFL.out; go_simp; try (with_reducible rfl))
      try simp only [Act.put, List.setIfInBounds_toArray, List.set_cons_zero, List.set_cons_succ]
      refine wpAnyH_take (oi := ⟨_, _, _, _, _, _⟩) (i := 7) (v := .slice (some ⟨g3, o3, none⟩) c cap3) rfl (by kernel_rfl) (by kernel_rfl) (by kernel_rfl) (fun _ _ _ h => h) (Or.inl ⟨by rfl, ?_⟩) (by assumption) ?_
      · (intro W hSw; have x1 := (hSw.cell (p := ⟨g3, o3 + i, none⟩) hg3).trans (HA3.out i hlt).1; have hff := HFL.out; go_simp; try (with_reducible rfl))
      try simp only [Act.put, List.setIfInBounds_toArray, List.set_cons_zero, List.set_cons_succ]
      refine wpAnyH_take (oi := ⟨_, _, _, _, _, _⟩) (i := 8) (v := .int .i64 i) rfl (by kernel_rfl) (by kernel_rfl) (by kernel_rfl) (fun _ _ _ h => h) (Or.inl ⟨by rfl, ?_⟩) (by assumption) ?_
      · (intro W hSw; have x1 := (hSw.cell (p := ⟨g3, o3 + i, none⟩) hg3).trans (HA3.out i hlt).1; have hff := HFL.out; go_simp; try (with_reducible rfl))
      try simp only [Act.put, List.setIfInBounds_toArray, List.set_cons_zero, List.set_cons_succ]
      refine wpAnyH_take (oi := ⟨_, _, _, _, _, _⟩) (i := 9) (v := .pointer (some ⟨g3, o3 + i, none⟩)) rfl (by kernel_rfl) (by kernel_rfl) (by kernel_rfl) (fun _ _ _ h => h) (Or.inl ⟨by rfl, ?_⟩) (by assumption) ?_
      · (intro W hSw; have x1 := (hSw.cell (p := ⟨g3, o3 + i, none⟩) hg3).trans (HA3.out i hlt).1; have hff := HFL.out; go_simp; try (with_reducible rfl))
      try simp only [Act.put, List.setIfInBounds_toArray, List.set_cons_zero, List.set_cons_succ]
      refine wpAnyH_take (oi := ⟨_, _, _, _, _, _⟩) (i := 10) (v := .int .u64 (F i : Nat)) rfl (by kernel_rfl) (by kernel_rfl) (by kernel_rfl) (fun _ _ _ h => h) (Or.inl ⟨by rfl, ?_⟩) (by assumption) ?_
      · (intro W hSw; have x1 := (hSw.cell (p := ⟨g3, o3 + i, none⟩) hg3).trans (HA3.out i hlt).1; have hff := HFL.out; go_simp; try (with_reducible rfl))
      try simp only [Act.put, List.setIfInBounds_toArray, List.set_cons_zero, List.set_cons_succ]
      refine wpAnyH_take (oi := ⟨_, _, _, _, _, _⟩) (i := 11) (v := .int .u64 (nn : Nat)) rfl (by kernel_rfl) (by kernel_rfl) (by kernel_rfl) (fun _ _ _ h => h) (Or.inl ⟨by rfl, ?_⟩) (by assumption) ?_
      · (intro W hSw; have x1 := (hSw.cell (p := ⟨g3, o3 + i, none⟩) hg3).trans (HA3.out i hlt).1; have hff := HFL.out; go_simp; try (with_reducible rfl))
      try simp only [Act.put, List.setIfInBounds_toArray, List.set_cons_zero, List.set_cons_succ]
      refine wpAnyH_ready (rs := [12]) (by kernel_rfl) (by simp) ?_
      refine AllReadyH.cons (o := ⟨_, _, _, _, _, _⟩) rfl (fun K hK => ?_) ?_
      · go_simp
        go_at_call 131
        (with_reducible refine (HLR i _).out.mono ?_)
        rintro e W1 ⟨rfl, hb⟩
        replace hS := hS.trans (hb.mono hS.size)
        replace HJW := HJW.call hb
        clear hb
        refine hK.out _ _ hS (fun _ => ?_)
        clear hK K
        try simp only [Act.put, List.setIfInBounds_toArray, List.set_cons_zero, List.set_cons_succ]
        refine wpAnyH_take (oi := ⟨_, _, _, _, _, _⟩) (i := 13) (v := .pointer (some ⟨w4.heap.size, i, none⟩)) rfl (by kernel_rfl) (by kernel_rfl) (by kernel_rfl) (fun _ _ _ h => h) (Or.inl ⟨by rfl, ?_⟩) (by assumption) ?_
        · (intro W hSw; have x1 := (hSw.cell (p := ⟨g3, o3 + i, none⟩) hg3).trans (HA3.out i hlt).1; have hff := HFL.out; go_simp; try (with_reducible rfl))
        try simp only [Act.put, List.setIfInBounds_toArray, List.set_cons_zero, List.set_cons_succ]
        refine wpAnyH_ready (rs := [14]) (by kernel_rfl) (by simp) ?_
        refine AllReadyH.cons (o := ⟨_, _, _, _, _, _⟩) rfl (fun K hK => ?_) ?_
        · obtain ⟨z0, z1⟩ := HJW.cells hlt
          go_simp
          clear z0 z1
          replace HJW := HJW.next
          refine hK.out _ _ HJW.2.1 (fun _ => ?_)
          clear hK K
          try simp only [Act.put, List.setIfInBounds_toArray, List.set_cons_zero, List.set_cons_succ]
          refine wpAnyH_done (by kernel_rfl) ?_ _
          go_wp2_with fail
          go_roundw
          case rel => exact ⟨i + 1, HLT.out, by go_num, HJW⟩
          case measure => (simp [intOf]; have := HLT.out; omega)
        exact AllReadyH.nil
      exact AllReadyH.nil
    · obtain rfl : i = c := by omega
      have HE := hid (HI.out.end (Nat.le_refl _))
      have HVR := HVC _ R wr (RowAt.of_own HE.out.1 hc1) HRF.out
      have hR0 := hR4.below HE.out.2 hnb
      have HB9 := hid (hB4.trans (HE.out.2.mono hB4.size))
      clear HVC HI
      go_wp2_with (go_at_call 129; refine HVR.out.mono ?_; rintro e w9 ⟨rfl, hb9⟩; have HC9 := hid (hR0.call hb9); have HB10 := hid (HB9.out.trans (hb9.mono HB9.out.size)); have r0 := (hR0.call hb9).at (k := 0) (v := .int .i64 0) rfl; have r1 := (hR0.call hb9).at (k := 1) (v := .int .u64 0) rfl; have r2 := (hR0.call hb9).at (k := 2) (v := .int .u64 0) rfl; have r3 := (hR0.call hb9).at (k := 3) (v := .bool false) rfl; have f0 := (hR0.call hb9).free 0; have f1 := (hR0.call hb9).free 1; have f2 := (hR0.call hb9).free 2; have f3 := (hR0.call hb9).free 3; clear hb9)
      refine bodyPost_ret (v := .agg #[.int .i64 123, .int .u64 (loF n R : Nat), .int .u64 (hiF n R : Nat), .bool false]) ?_ rfl ⟨rfl, (((HB10.out.setCell (p := ⟨w.heap.size + 1, 0, none⟩) (Nat.le_succ _) _).setCell (p := ⟨w.heap.size + 1, 1, none⟩) (Nat.le_succ _) _).setCell (p := ⟨w.heap.size + 1, 2, none⟩) (Nat.le_succ _) _).setCell (p := ⟨w.heap.size + 1, 3, none⟩) (Nat.le_succ _) _⟩
      simp [results, Tryz.results80, go_sem, r0, r1, r2, r3]
end Go.Proofs.YtlhakbkdlgejpaaGreatDoor
