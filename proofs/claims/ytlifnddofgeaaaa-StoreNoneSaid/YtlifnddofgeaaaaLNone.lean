/-
  The law of what is none (StoreNone), walked to its end: it answers true. No condition.
-/
import Derived.Test.YtlifnddofgeaaaaAwake
set_option linter.unusedSimpArgs false
set_option linter.unusedVariables false
set_option maxRecDepth 100000
namespace Go.Proofs.Ytlifnddofgeaaaa
open Go.RowKit

set_option maxHeartbeats 4000000 in
theorem law_None (t : Int) (a n : Nat) (x0 : Int) (x1 x2 : Nat) (x3 : Bool) (w : World) :
    Calls Try.prog 6 #[.int .i64 t, .int .u64 a, .int .u64 n, .agg #[.int .i64 x0, .int .u64 x1, .int .u64 x2, .bool x3]] w fun e w' => e = .returned (.bool true) ∧ Below w.heap.size w w' := by
  have HX := hid (CA.new w #[.int .i64 x0, .int .u64 x1, .int .u64 x2, .bool x3] 32)
  have HB0 := hid ((Below.refl w.heap.size w).alloc (Nat.le_refl _) (.cells #[.int .i64 x0, .int .u64 x1, .int .u64 x2, .bool x3] 32))
  obtain ⟨zn, hzn⟩ : ∃ zn, zn = (t == 112 || t == 111) := ⟨_, rfl⟩
  have HA := fun W => hid (awake_says W)
  have HZ : ∀ W : World, Hid (Calls Try.prog 29 #[.int .i64 t] W fun e w' => e = .returned (.agg #[.int .i64 t, .int .u64 0, .int .u64 0, .bool zn]) ∧ Below W.heap.size W w') := fun W => by rw [hzn]; exact zero_p t W
  have HZR : ∀ W : World, Hid (Calls Try.prog 30 #[.int .i64 t] W fun e w' => e = .returned (.agg #[.int .i64 t, .int .u64 0, .int .u64 0, .bool zn]) ∧ Below W.heap.size W w') := fun W => by rw [hzn]; exact zero_r t W
  have HRN : ∀ g (W : World), Hid (Calls Try.prog 15 #[.pointer (some ⟨g, 0, none⟩), .int .u64 0, .int .i64 (-1)] W fun e w' => e = .returned (.tuple #[.slice none 0 0, .int .i64 1]) ∧ W = w') := fun g W => hid (read_neg g 0 W)
  have HRZ : ∀ (W : World), Hid (Calls Try.prog 15 #[.pointer none, .int .u64 a, .int .i64 0] W fun e w' => e = .returned (.tuple #[.slice none 0 0, .int .i64 1]) ∧ W = w') := fun W => hid (nil_read a 0 W)
  have HGT : ∀ (W : World), Hid (Calls Try.prog 25 #[.pointer none, .int .u64 a] W fun e w' => e = .returned (.tuple #[.agg #[.int .i64 0, .int .u64 0, .int .u64 0, .bool false], .int .i64 1]) ∧ Below W.heap.size W w') := fun W => hid (nilt_get a W)
  have hw0 := fun W => nil_write a W
  have hw1 : ∀ (W : World), Calls Try.prog 11 #[.pointer none, .int .u64 a, .int .u8 0, .int .u64 n] W fun e w' => e = .returned (.int .i64 1) ∧ W = w' := fun W => nil_fill a n 0 W
  have HW0 := hid hw0
  have HW1 := hid hw1
  clear hzn hw0 hw1
  go_enter Try.func6, Try.ntmps6
  go_upto_region 11 with (first
    | (go_at_call 8; (with_reducible refine (HA _).out.mono ?_); rintro e w1 ⟨rfl, hb1⟩; have HB1 := hid (HB0.out.trans (hb1.mono HB0.out.size)); have HX1 := hid (HX.out.below hb1 HX.out.lt); clear hb1)
    | (go_at_call 15; (with_reducible refine (HRZ _).out.mono ?_); rintro e w2 ⟨rfl, rfl⟩)
    | (go_at_call 15; (with_reducible refine (HRN _ _).out.mono ?_); rintro e w2 ⟨rfl, rfl⟩)
    | (go_at_call 25; (with_reducible refine (HGT _).out.mono ?_); rintro e w3 ⟨rfl, hb3⟩; have HB3 := hid hb3; clear hb3)
    | (go_at_call 29; (with_reducible refine (HZ _).out.mono ?_); rintro e w4 ⟨rfl, hb4⟩; have HB4 := hid hb4; clear hb4))
  have hb4 := HB1.out.alloc HB1.out.size (.cells #[.int .i64 0, .int .i64 0, .int .i64 0, .bool false, .slice none 0 0] 54)
  have hb5 := hb4.trans (HB3.out.mono hb4.size)
  have hb6 := hb5.alloc hb5.size (.cells #[.int .i64 0, .int .u64 0, .int .u64 0, .bool false] 32)
  have hb7 := hb6.trans (HB4.out.mono hb6.size)
  have hx7 := ((((HX1.out.alloc (.cells #[.int .i64 0, .int .i64 0, .int .i64 0, .bool false, .slice none 0 0] 54)).below HB3.out (by have := (HX1.out.alloc (.cells #[.int .i64 0, .int .i64 0, .int .i64 0, .bool false, .slice none 0 0] 54)).lt; exact this)).alloc (.cells #[.int .i64 0, .int .u64 0, .int .u64 0, .bool false] 32)).below HB4.out (by have h1 := HB1.out.size; have h2 := HX1.out.lt; have h3 := HB3.out.size; simp at h3 ⊢; omega))
  have HBE := hid ((hb7.alloc hb7.size (.cells #[.int .i64 t, .int .u64 0, .int .u64 0, .bool zn] 32)).alloc (by have := hb7.size; simp; omega) (.cells #[.int .i64 0, .int .i64 0, .bool false, .slice none 0 0] 29))
  have HXE := hid ((hx7.alloc (.cells #[.int .i64 t, .int .u64 0, .int .u64 0, .bool zn] 32)).alloc (.cells #[.int .i64 0, .int .i64 0, .bool false, .slice none 0 0] 29))
  have HZE := hid ((CA.new w4 #[.int .i64 t, .int .u64 0, .int .u64 0, .bool zn] 32).alloc (.cells #[.int .i64 0, .int .i64 0, .bool false, .slice none 0 0] 29))
  clear hb4 hb5 hb6 hb7 hx7 HB1 HX1 HB3 HB4 HB0 HX HA HZ HRN HRZ HGT
  generalize (w4.alloc (.cells #[.int .i64 t, .int .u64 0, .int .u64 0, .bool zn] 32)).alloc (.cells #[.int .i64 0, .int .i64 0, .bool false, .slice none 0 0] 29) = W at *
  generalize w4.heap.size = gz at *
  generalize w1.heap.size = gy at *
  have HC1 := fun W => hid (nil_copy a a n W)
  have HI1 := fun v W => hid (nil_init a a n v W)
  have HG1 : ∀ W : World, Hid (Calls Try.prog 17 #[.pointer none, .int .u64 n, .int .i64 5] W fun e w' => e = .returned (.int .i64 0) ∧ W = w') := fun W => hid (nil_grow n 5 W)
  go_upto_region 13 with (first
    | (go_at_call 9; (with_reducible refine (HW0.out _).mono ?_); rintro e w5 ⟨rfl, rfl⟩)
    | (go_at_call 11; (with_reducible refine (HW1.out _).mono ?_); rintro e w5 ⟨rfl, rfl⟩)
    | (go_at_call 13; (with_reducible refine (HC1 _).out.mono ?_); rintro e w5 ⟨rfl, rfl⟩)
    | (go_at_call 14; (with_reducible refine (HI1 _ _).out.mono ?_); rintro e w5 ⟨rfl, rfl⟩)
    | (go_at_call 17; (with_reducible refine (HG1 _).out.mono ?_); rintro e w5 ⟨rfl, rfl⟩))
  clear HW0 HW1 HC1 HI1 HG1
  have HS1 := fun W => hid (nilt_set a x0 x1 x2 x3 W)
  have HS2 := fun W => hid (nilt_grow n x0 x1 x2 x3 W)
  have HS3 := fun W => hid (nilt_fill a n x0 x1 x2 x3 W)
  have HS4 := fun v W => hid (nilt_init a a n v W)
  have HS5 := fun v W => hid (nilt_copy a a n v W)
  have HS6 := fun W => hid (copy_t_nil gy a a n W)
  have v0 := HXE.out.at (k := 0) (v := .int .i64 x0) rfl
  have v1 := HXE.out.at (k := 1) (v := .int .u64 x1) rfl
  have v2 := HXE.out.at (k := 2) (v := .int .u64 x2) rfl
  have v3 := HXE.out.at (k := 3) (v := .bool x3) rfl
  go_upto_region 15 with (first
    | (go_at_call 19; (with_reducible refine (HS1 _).out.mono ?_); rintro e wa ⟨rfl, hb⟩; have HBA := hid (HBE.out.trans (hb.mono HBE.out.size)); have HXA := hid (HXE.out.below hb HXE.out.lt); have HZA := hid (HZE.out.below hb HZE.out.lt); clear hb; have v0 := HXA.out.at (k := 0) (v := .int .i64 x0) rfl; have v1 := HXA.out.at (k := 1) (v := .int .u64 x1) rfl; have v2 := HXA.out.at (k := 2) (v := .int .u64 x2) rfl; have v3 := HXA.out.at (k := 3) (v := .bool x3) rfl)
    | (go_at_call 26; (with_reducible refine (HS2 _).out.mono ?_); rintro e wb ⟨rfl, hb⟩; have HBB := hid (HBA.out.trans (hb.mono HBA.out.size)); have HXB := hid (HXA.out.below hb HXA.out.lt); have HZB := hid (HZA.out.below hb HZA.out.lt); clear hb; have v0 := HXB.out.at (k := 0) (v := .int .i64 x0) rfl; have v1 := HXB.out.at (k := 1) (v := .int .u64 x1) rfl; have v2 := HXB.out.at (k := 2) (v := .int .u64 x2) rfl; have v3 := HXB.out.at (k := 3) (v := .bool x3) rfl)
    | (go_at_call 21; (with_reducible refine (HS3 _).out.mono ?_); rintro e wc ⟨rfl, hb⟩; have HBC := hid (HBB.out.trans (hb.mono HBB.out.size)); have HZC := hid (HZB.out.below hb HZB.out.lt); clear hb)
    | (go_at_call 24; (with_reducible refine (HS4 _ _).out.mono ?_); rintro e w5 ⟨rfl, rfl⟩)
    | (go_at_call 23; (with_reducible refine (HS5 _ _).out.mono ?_); rintro e w5 ⟨rfl, rfl⟩)
    | (go_at_call 23; (with_reducible refine (HS6 _).out.mono ?_); rintro e w5 ⟨rfl, rfl⟩))
  clear HS1 HS2 HS3 HS4 HS5 HS6
  have hS : Below w.heap.size w wc.drew ∧ CA gz #[.int .i64 t, .int .u64 0, .int .u64 0, .bool zn] 32 wc.drew := ⟨⟨HBC.out.os, HBC.out.tape, HBC.out.output, HBC.out.size, HBC.out.block⟩, HZC.out⟩
  refine wp_region_held_drew (S := fun W => Below w.heap.size w W ∧ CA gz #[.int .i64 t, .int .u64 0, .int .u64 0, .bool zn] 32 W) (by kernel_rfl) hS (fun _ => ?_)
  clear HBC HZC
  generalize wc.drew = W at *
  refine wpAnyH_take (oi := ⟨_, _, _, _, _, _⟩) (i := 0) (v := .agg #[.int .i64 t, .int .u64 0, .int .u64 0, .bool zn]) rfl (by kernel_rfl) (by kernel_rfl) (by kernel_rfl) (fun _ _ _ h => h) (Or.inl ⟨by rfl, ?_⟩) (by assumption) ?_
  · (intro W hSw; (have z0 := hSw.2.at (k := 0) rfl); (have z1 := hSw.2.at (k := 1) rfl); (have z2 := hSw.2.at (k := 2) rfl); (have z3 := hSw.2.at (k := 3) rfl); clear hSw; go_simp; try (exact wrap_b8 _); try (with_reducible rfl))
  try simp only [Act.put, List.setIfInBounds_toArray, List.set_cons_zero, List.set_cons_succ]
  refine wpAnyH_take (oi := ⟨_, _, _, _, _, _⟩) (i := 1) (v := .int .i64 t) rfl (by kernel_rfl) (by kernel_rfl) (by kernel_rfl) (fun _ _ _ h => h) (Or.inl ⟨by rfl, ?_⟩) (by assumption) ?_
  · (intro W hSw; (have z0 := hSw.2.at (k := 0) rfl); (have z1 := hSw.2.at (k := 1) rfl); (have z2 := hSw.2.at (k := 2) rfl); (have z3 := hSw.2.at (k := 3) rfl); clear hSw; go_simp; try (exact wrap_b8 _); try (with_reducible rfl))
  try simp only [Act.put, List.setIfInBounds_toArray, List.set_cons_zero, List.set_cons_succ]
  refine wpAnyH_ready (rs := [2]) (by kernel_rfl) (by simp) ?_
  refine AllReadyH.cons (o := ⟨_, _, _, _, _, _⟩) rfl (fun K hK => ?_) ?_
  · go_simp
    go_at_call 30
    (with_reducible refine (HZR _).out.mono ?_)
    rintro e W1 ⟨rfl, hb⟩
    replace hS := And.intro (hS.1.trans (hb.mono hS.1.size)) (hS.2.below hb hS.2.lt)
    clear hb
    refine hK.out _ _ hS (fun _ => ?_)
    clear hK K
    try simp only [Act.put, List.setIfInBounds_toArray, List.set_cons_zero, List.set_cons_succ]
    refine wpAnyH_take (oi := ⟨_, _, _, _, _, _⟩) (i := 3) (v := .bool true) rfl (by kernel_rfl) (by kernel_rfl) (by kernel_rfl) (fun _ _ _ h => h) (Or.inl ⟨by rfl, ?_⟩) (by assumption) ?_
    · (intro W hSw; (have z0 := hSw.2.at (k := 0) rfl); (have z1 := hSw.2.at (k := 1) rfl); (have z2 := hSw.2.at (k := 2) rfl); (have z3 := hSw.2.at (k := 3) rfl); clear hSw; go_simp; try (exact wrap_b8 _); try (with_reducible rfl))
    try simp only [Act.put, List.setIfInBounds_toArray, List.set_cons_zero, List.set_cons_succ]
    refine wpAnyH_take (oi := ⟨_, _, _, _, _, _⟩) (i := 4) (v := .bool true) rfl (by kernel_rfl) (by kernel_rfl) (by kernel_rfl) (fun _ _ _ h => h) (Or.inl ⟨by rfl, ?_⟩) (by assumption) ?_
    · (intro W hSw; (have z0 := hSw.2.at (k := 0) rfl); (have z1 := hSw.2.at (k := 1) rfl); (have z2 := hSw.2.at (k := 2) rfl); (have z3 := hSw.2.at (k := 3) rfl); clear hSw; go_simp; try (exact wrap_b8 _); try (with_reducible rfl))
    try simp only [Act.put, List.setIfInBounds_toArray, List.set_cons_zero, List.set_cons_succ]
    refine wpAnyH_done (by kernel_rfl) ?_ _
    have HF := hid hS.1
    clear hS
    go_wp2
    go_ret
    exact ⟨rfl, HF.out⟩
  exact AllReadyH.nil
theorem walk_None (t : Int) (_ : -9223372036854775808 ≤ t) (_ : t < 9223372036854775808) (a : Nat) (_ : a < 18446744073709551616) (n : Nat) (_ : n < 18446744073709551616) (x0 : Int) (x1 x2 : Nat) (x3 : Bool) (w : World) :
    Calls Try.prog 6 #[.int .i64 t, .int .u64 a, .int .u64 n, .agg #[.int .i64 x0, .int .u64 x1, .int .u64 x2, .bool x3]] w fun e w' => e = .returned (.bool true) ∧ Below w.heap.size w w' := law_None t a n x0 x1 x2 x3 w
end Go.Proofs.Ytlifnddofgeaaaa
