/-
  LRW1x16, LRW1x32: merged, what the law does not reach left out (each text says what it holds where it lies in wip). No condition.
-/
import Derived.Test.YtlhakbkdlgejpaaGreatDoorJ20
set_option linter.unusedSimpArgs false
set_option linter.unusedVariables false
set_option maxRecDepth 100000
namespace Go.Proofs.YtlhakbkdlgejpaaGreatDoor
open Go.RowKit
set_option maxHeartbeats 8000000 in
theorem roth1_16 (k : Nat) (hk : k = 0 ∨ k = 1 ∨ k = 4) (s : Bool) (what sh : List UInt8) (hwl : what.length ≤ 1000) (hsrc : srcL what.length what ([], false) = (sh, s)) (hsh : biL sh = 16) (hb : begs what k = true) (alo ahi : Nat) (anl : Bool) (h1 : alo < 18446744073709551616) (h2 : ahi < 18446744073709551616) (w : World) (va : Value) (ha : AR w va [(123, alo, ahi, anl)]) :
  Calls Tryz.prog 130 #[.int .i64 32, .string (str what), va] w (LPost w 4 (widR k 4 (fun i => extF 16 s (splitF 16 alo ahi i)) (fun i => extF 16 s (splitF 16 alo ahi i)))) := by
 obtain ⟨sw, hsw⟩ : ∃ sw, sw = str what := ⟨_, rfl⟩
 obtain ⟨ss, hss⟩ : ∃ ss, ss = str sh := ⟨_, rfl⟩
 rw [← hsw]
 unfold begs at hb
 simp only [Bool.and_eq_true, beq_iff_eq] at hb
 obtain ⟨⟨⟨⟨⟨⟨⟨⟨⟨hb0, hb1⟩, hb2⟩, hb3⟩, hb4⟩, hb5⟩, hb6⟩, hb7⟩, hb8⟩, hb9⟩ := hb
 have HSO : ∀ W, Hid (Calls Tryz.prog 128 #[.string sw] W fun e w' => e = .returned (.tuple #[.string ss, .bool s]) ∧ Below W.heap.size W w') := fun W => by rw [hsw, hss]; exact hid (source_says what hwl (sh, s) hsrc W)
 have HBI : ∀ W, Hid (Calls Tryz.prog 123 #[.string ss] W fun e w' => e = .returned (.int .i64 16) ∧ W = w') := fun W => by rw [hss, ← hsh]; exact hid (RBits_says sh W)
 have G0 : ∀ W, Hid (Calls Tryz.prog 197 #[.string sw, .string ⟨#[110, 97, 114, 114, 111, 119]⟩] W fun e w' => e = .returned (.bool (false)) ∧ W = w') := fun W => by rw [hsw, ← hb0]; exact hid (begins_says what [110, 97, 114, 114, 111, 119] hwl W)
 have G1 : ∀ W, Hid (Calls Tryz.prog 197 #[.string sw, .string ⟨#[101, 120, 116, 101, 110, 100, 95, 104, 105, 103, 104]⟩] W fun e w' => e = .returned (.bool (decide (k = 1))) ∧ W = w') := fun W => by rw [hsw, ← hb1]; exact hid (begins_says what [101, 120, 116, 101, 110, 100, 95, 104, 105, 103, 104] hwl W)
 have G2 : ∀ W, Hid (Calls Tryz.prog 197 #[.string sw, .string ⟨#[101, 120, 116, 109, 117, 108, 95, 104, 105, 103, 104]⟩] W fun e w' => e = .returned (.bool (decide (k = 3))) ∧ W = w') := fun W => by rw [hsw, ← hb2]; exact hid (begins_says what [101, 120, 116, 109, 117, 108, 95, 104, 105, 103, 104] hwl W)
 have G3 : ∀ W, Hid (Calls Tryz.prog 197 #[.string sw, .string ⟨#[101, 120, 116, 97, 100, 100]⟩] W fun e w' => e = .returned (.bool (decide (k = 4))) ∧ W = w') := fun W => by rw [hsw, ← hb3]; exact hid (begins_says what [101, 120, 116, 97, 100, 100] hwl W)
 have G4 : ∀ W, Hid (Calls Tryz.prog 197 #[.string sw, .string ⟨#[100, 111, 116]⟩] W fun e w' => e = .returned (.bool (decide (k = 5))) ∧ W = w') := fun W => by rw [hsw, ← hb4]; exact hid (begins_says what [100, 111, 116] hwl W)
 have G5 : ∀ W, Hid (Calls Tryz.prog 197 #[.string sw, .string ⟨#[116, 114, 117, 110, 99]⟩] W fun e w' => e = .returned (.bool (false)) ∧ W = w') := fun W => by rw [hsw, ← hb5]; exact hid (begins_says what [116, 114, 117, 110, 99] hwl W)
 have G6 : ∀ W, Hid (Calls Tryz.prog 197 #[.string sw, .string ⟨#[99, 111, 110, 118, 101, 114, 116]⟩] W fun e w' => e = .returned (.bool (false)) ∧ W = w') := fun W => by rw [hsw, ← hb6]; exact hid (begins_says what [99, 111, 110, 118, 101, 114, 116] hwl W)
 have G7 : ∀ W, Hid (Calls Tryz.prog 197 #[.string sw, .string ⟨#[100, 101, 109, 111, 116, 101]⟩] W fun e w' => e = .returned (.bool (false)) ∧ W = w') := fun W => by rw [hsw, ← hb7]; exact hid (begins_says what [100, 101, 109, 111, 116, 101] hwl W)
 have G8 : ∀ W, Hid (Calls Tryz.prog 197 #[.string sw, .string ⟨#[112, 114, 111, 109, 111, 116, 101]⟩] W fun e w' => e = .returned (.bool (false)) ∧ W = w') := fun W => by rw [hsw, ← hb8]; exact hid (begins_says what [112, 114, 111, 109, 111, 116, 101] hwl W)
 have G9 : ∀ W, Hid (Calls Tryz.prog 197 #[.string sw, .string ⟨#[101, 120, 116, 109, 117, 108]⟩] W fun e w' => e = .returned (.bool (decide (k = 2 ∨ k = 3))) ∧ W = w') := fun W => by rw [hsw, ← hb9]; exact hid (begins_says what [101, 120, 116, 109, 117, 108] hwl W)
 clear hsw hss hb0 hb1 hb2 hb3 hb4 hb5 hb6 hb7 hb8 hb9 hwl hsrc hsh
 have HSPA : ∀ W, Hid (Calls Tryz.prog 126 #[.int .i64 16, .agg #[.int .i64 123, .int .u64 (alo : Nat), .int .u64 (ahi : Nat), .bool anl]] W (LPost W 8 (splitF 16 alo ahi))) := fun W => hid (RSplit_says 16 (by decide) 123 alo ahi anl h1 h2 W)
 have HF : Hid (∀ i, splitF 16 alo ahi i < 2 ^ 16) := hid (fun i => splitF_lt _ _ _ _)
 generalize splitF 16 alo ahi = F at *
 obtain ⟨R, hR⟩ : ∃ R : Nat → Nat, R = widR k 4 (fun i => extF 16 s (F i)) (fun i => extF 16 s (F i)) := ⟨_, rfl⟩
 rw [← hR]
 have HR := hid hR
 clear hR h1 h2
 obtain ⟨ga, ca, rfl, hga, hca, hata⟩ := ha
 obtain ⟨a0, a1, a2, a3⟩ := hata 0 (123, alo, ahi, anl) rfl
 simp only [Nat.zero_mul, Nat.zero_add, Nat.one_mul] at a0 a1 a2 a3
 simp only [List.length_cons, List.length_nil] at hca ⊢
 have HAA := hid (And.intro a0 (And.intro a1 (And.intro a2 a3)))
 have HGA := hid hga
 have HKK := hid hk
 clear hata a0 a1 a2 a3 hk
 go_enter Tryz.func130, Tryz.ntmps130
 go_upto_region 3 with (first
  | (go_at_call 128; (with_reducible refine (HSO _).out.mono ?_); rintro e w1 ⟨rfl, hb1⟩; have HB1 := hid hb1; clear hb1)
  | (go_at_call 123; (with_reducible refine (HBI _).out.mono ?_); rintro e w2 ⟨rfl, rfl⟩))
 obtain ⟨x0, x1, x2, x3⟩ := HAA.out
 have z0 := (HB1.out.cell (p := ⟨ga, 0, none⟩) hga).trans x0
 have z1 := (HB1.out.cell (p := ⟨ga, 1, none⟩) hga).trans x1
 have z2 := (HB1.out.cell (p := ⟨ga, 2, none⟩) hga).trans x2
 have z3 := (HB1.out.cell (p := ⟨ga, 3, none⟩) hga).trans x3
 clear x0 x1 x2 x3
 go_upto_region 7 with (go_at_call 126; (with_reducible refine (HSPA _).out.mono ?_); rintro e w3 ⟨v3, rfl, ho3, hb3⟩; have HO3 := hid ho3; have HB3 := hid (HB1.out.trans (hb3.mono HB1.out.size)); have HN3 := hid hb3; obtain ⟨g3, cap3, rfl⟩ := owned_at ho3 (by decide); clear ho3 hb3)
 have HL5 : Hid (RowAt w3 (.slice (some ⟨g3, 0, none⟩) 8 cap3) 8 F) := RowAt.of_own HO3.out (by decide)
 clear HO3 HN3 z0 z1 z2 z3 HAA
 have HB5 := HB3
 have HB1 := HB3
 clear HB3
 have B0 : ∀ W, Hid (Calls Tryz.prog 197 #[.string sw, .string ⟨#[110, 97, 114, 114, 111, 119]⟩] W fun e w' => e = .returned (.bool false) ∧ W = w') := G0
 go_upto_region 11 with (go_at_call 197; (with_reducible refine (B0 _).out.mono ?_); rintro e w5 ⟨rfl, rfl⟩)
 clear HSO HBI HSPA hga hca
 obtain ⟨gl, ol, cl, e1, hgl, hcl, hatl⟩ := HL5.out
 injection e1 with e1 _ _
 injection e1 with e1
 injection e1 with e1 e2
 subst e1; subst e2
 have HLL := hid hatl
 clear hatl HL5
 go_wp2_with fail
 go_loopw [12, 14] (fun vo vi wr => ∃ i : Nat, i ≤ 4 ∧ vi = .int .i64 i ∧ Hid (wr.ownsRow w3.heap.size 22 1 vo i (fc i R)) ∧ Hid (Below w3.heap.size w3 wr)) (fun _ vi _ => 4 - (intOf vi).toNat)
 case atStart => exact ⟨0, Nat.zero_le _, rfl, World.ownsRow_nil _ _ _ _, Below.refl _ _⟩
 case round =>
  obtain ⟨i, hin, rfl, HOW, HBW⟩ := hrel
  by_cases hlt : i < 4
  ·rcases HKK.out with rfl | rfl | rfl
   ·have B1 : ∀ W, Hid (Calls Tryz.prog 197 #[.string sw, .string ⟨#[101, 120, 116, 101, 110, 100, 95, 104, 105, 103, 104]⟩] W fun e w' => e = .returned (.bool false) ∧ W = w') := G1
    have B2 : ∀ W, Hid (Calls Tryz.prog 197 #[.string sw, .string ⟨#[101, 120, 116, 109, 117, 108, 95, 104, 105, 103, 104]⟩] W fun e w' => e = .returned (.bool false) ∧ W = w') := G2
    have B3 : ∀ W, Hid (Calls Tryz.prog 197 #[.string sw, .string ⟨#[101, 120, 116, 97, 100, 100]⟩] W fun e w' => e = .returned (.bool false) ∧ W = w') := G3
    have B4 : ∀ W, Hid (Calls Tryz.prog 197 #[.string sw, .string ⟨#[100, 111, 116]⟩] W fun e w' => e = .returned (.bool false) ∧ W = w') := G4
    have B5 : ∀ W, Hid (Calls Tryz.prog 197 #[.string sw, .string ⟨#[116, 114, 117, 110, 99]⟩] W fun e w' => e = .returned (.bool false) ∧ W = w') := G5
    have B6 : ∀ W, Hid (Calls Tryz.prog 197 #[.string sw, .string ⟨#[99, 111, 110, 118, 101, 114, 116]⟩] W fun e w' => e = .returned (.bool false) ∧ W = w') := G6
    have B7 : ∀ W, Hid (Calls Tryz.prog 197 #[.string sw, .string ⟨#[100, 101, 109, 111, 116, 101]⟩] W fun e w' => e = .returned (.bool false) ∧ W = w') := G7
    have B8 : ∀ W, Hid (Calls Tryz.prog 197 #[.string sw, .string ⟨#[112, 114, 111, 109, 111, 116, 101]⟩] W fun e w' => e = .returned (.bool false) ∧ W = w') := G8
    have B9 : ∀ W, Hid (Calls Tryz.prog 197 #[.string sw, .string ⟨#[101, 120, 116, 109, 117, 108]⟩] W fun e w' => e = .returned (.bool false) ∧ W = w') := G9
    clear G0 G1 G2 G3 G4 G5 G6 G7 G8 G9 HKK
    have hjc : i < 8 := by omega
    have tmv : ((i : Int).tmod 8) = (i : Int) := by rw [Int.tmod_eq_emod_of_nonneg (by omega)]; omega
    have k1 : wr.cell? ⟨g3, i, none⟩ = some (.int .u64 (F i : Nat)) := by have h := (HBW.out.cell (p := ⟨g3, 0 + i, none⟩) hgl).trans (HLL.out i (by omega)).1; rwa [Nat.zero_add] at h
    have hri : R i = extF 16 s (F i) := by rw [HR.out]; rfl
    have HSN := hid (fc_snoc i R)
    have HVx := hid (show F i < 2 ^ 16 from HF.out _)
    cases s with
    | false =>
     simp only [ext_false] at hri
     generalize F i = ex at *
     clear HVx HF HR HLL
     subst hri
     have hwr := HBW.out.size
     go_wp2_with (first
      | (go_at_call 197; (first | (with_reducible refine (B0 _).out.mono ?_) | (with_reducible refine (B1 _).out.mono ?_) | (with_reducible refine (B2 _).out.mono ?_) | (with_reducible refine (B3 _).out.mono ?_) | (with_reducible refine (B4 _).out.mono ?_) | (with_reducible refine (B5 _).out.mono ?_) | (with_reducible refine (B6 _).out.mono ?_) | (with_reducible refine (B7 _).out.mono ?_) | (with_reducible refine (B8 _).out.mono ?_) | (with_reducible refine (B9 _).out.mono ?_)); rintro e w6 ⟨rfl, rfl⟩)
      | (at_builtin; refine append_u64 rfl _ _ rfl w3.heap.size _ _ _ (R i : Int) HOW.out hwr (by omega) rfl rfl ?_; intro v' w8 hown' hnx8 hsz8))
     rw [HSN.out] at hown'
     have HO8 := hid hown'
     have HB8 := hid (HBW.out.trans hnx8)
     clear hown' hnx8 hsz8
     go_roundw
     case rel => exact ⟨i + 1, hlt, rfl, HO8, HB8⟩
     case measure => (simp [intOf]; omega)
    | true =>
     have HSx : ∀ W, Hid (Calls Tryz.prog 143 #[.int .i64 16, .int .u64 (F i : Nat)] W fun e w' => e = .returned (.int .i64 (sg 16 (F i % 2 ^ 16))) ∧ W = w') := fun W => hid (RSigned_ok 16 (by decide) (F i) (by have := HVx.out; omega) W)
     have hzx := ext_true 16 (F i)
     generalize extF 16 true (F i) = ex at *
     generalize sg 16 (F i % 2 ^ 16) = zx at *
     generalize F i = ax at *
     clear HVx HF HR HLL
     rw [← hri] at hzx
     clear hri
     have hwr := HBW.out.size
     go_wp2_with (first
      | (go_at_call 197; (first | (with_reducible refine (B0 _).out.mono ?_) | (with_reducible refine (B1 _).out.mono ?_) | (with_reducible refine (B2 _).out.mono ?_) | (with_reducible refine (B3 _).out.mono ?_) | (with_reducible refine (B4 _).out.mono ?_) | (with_reducible refine (B5 _).out.mono ?_) | (with_reducible refine (B6 _).out.mono ?_) | (with_reducible refine (B7 _).out.mono ?_) | (with_reducible refine (B8 _).out.mono ?_) | (with_reducible refine (B9 _).out.mono ?_)); rintro e w6 ⟨rfl, rfl⟩)
      | (go_at_call 143; (first | (with_reducible refine (HSx _).out.mono ?_)); rintro e w6 ⟨rfl, rfl⟩)
      | (at_builtin; refine append_u64 rfl _ _ rfl w3.heap.size _ _ _ (R i : Int) HOW.out hwr (by omega) rfl rfl ?_; intro v' w8 hown' hnx8 hsz8))
     rw [HSN.out] at hown'
     have HO8 := hid hown'
     have HB8 := hid (HBW.out.trans hnx8)
     clear hown' hnx8 hsz8
     go_roundw
     case rel => exact ⟨i + 1, hlt, rfl, HO8, HB8⟩
     case measure => (simp [intOf]; omega)
   ·have B1 : ∀ W, Hid (Calls Tryz.prog 197 #[.string sw, .string ⟨#[101, 120, 116, 101, 110, 100, 95, 104, 105, 103, 104]⟩] W fun e w' => e = .returned (.bool true) ∧ W = w') := G1
    have B2 : ∀ W, Hid (Calls Tryz.prog 197 #[.string sw, .string ⟨#[101, 120, 116, 109, 117, 108, 95, 104, 105, 103, 104]⟩] W fun e w' => e = .returned (.bool false) ∧ W = w') := G2
    have B3 : ∀ W, Hid (Calls Tryz.prog 197 #[.string sw, .string ⟨#[101, 120, 116, 97, 100, 100]⟩] W fun e w' => e = .returned (.bool false) ∧ W = w') := G3
    have B4 : ∀ W, Hid (Calls Tryz.prog 197 #[.string sw, .string ⟨#[100, 111, 116]⟩] W fun e w' => e = .returned (.bool false) ∧ W = w') := G4
    have B5 : ∀ W, Hid (Calls Tryz.prog 197 #[.string sw, .string ⟨#[116, 114, 117, 110, 99]⟩] W fun e w' => e = .returned (.bool false) ∧ W = w') := G5
    have B6 : ∀ W, Hid (Calls Tryz.prog 197 #[.string sw, .string ⟨#[99, 111, 110, 118, 101, 114, 116]⟩] W fun e w' => e = .returned (.bool false) ∧ W = w') := G6
    have B7 : ∀ W, Hid (Calls Tryz.prog 197 #[.string sw, .string ⟨#[100, 101, 109, 111, 116, 101]⟩] W fun e w' => e = .returned (.bool false) ∧ W = w') := G7
    have B8 : ∀ W, Hid (Calls Tryz.prog 197 #[.string sw, .string ⟨#[112, 114, 111, 109, 111, 116, 101]⟩] W fun e w' => e = .returned (.bool false) ∧ W = w') := G8
    have B9 : ∀ W, Hid (Calls Tryz.prog 197 #[.string sw, .string ⟨#[101, 120, 116, 109, 117, 108]⟩] W fun e w' => e = .returned (.bool false) ∧ W = w') := G9
    clear G0 G1 G2 G3 G4 G5 G6 G7 G8 G9 HKK
    obtain ⟨j, hj⟩ : ∃ j, j = i + 4 := ⟨_, rfl⟩
    have i1 : (i : Int) + 4 = (j : Int) := by omega
    have hjc : j < 8 := by omega
    have tmv : ((j : Int).tmod 8) = (j : Int) := by rw [Int.tmod_eq_emod_of_nonneg (by omega)]; omega
    have k1 : wr.cell? ⟨g3, j, none⟩ = some (.int .u64 (F j : Nat)) := by have h := (HBW.out.cell (p := ⟨g3, 0 + j, none⟩) hgl).trans (HLL.out j (by omega)).1; rwa [Nat.zero_add] at h
    have hri : R i = extF 16 s (F j) := by rw [HR.out]; subst hj; rfl
    have HSN := hid (fc_snoc i R)
    have HVx := hid (show F j < 2 ^ 16 from HF.out _)
    cases s with
    | false =>
     simp only [ext_false] at hri
     generalize F j = ex at *
     clear HVx HF HR HLL
     subst hri
     clear hj
     have hwr := HBW.out.size
     go_wp2_with (first
      | (go_at_call 197; (first | (with_reducible refine (B0 _).out.mono ?_) | (with_reducible refine (B1 _).out.mono ?_) | (with_reducible refine (B2 _).out.mono ?_) | (with_reducible refine (B3 _).out.mono ?_) | (with_reducible refine (B4 _).out.mono ?_) | (with_reducible refine (B5 _).out.mono ?_) | (with_reducible refine (B6 _).out.mono ?_) | (with_reducible refine (B7 _).out.mono ?_) | (with_reducible refine (B8 _).out.mono ?_) | (with_reducible refine (B9 _).out.mono ?_)); rintro e w6 ⟨rfl, rfl⟩)
      | (at_builtin; refine append_u64 rfl _ _ rfl w3.heap.size _ _ _ (R i : Int) HOW.out hwr (by omega) rfl rfl ?_; intro v' w8 hown' hnx8 hsz8))
     rw [HSN.out] at hown'
     have HO8 := hid hown'
     have HB8 := hid (HBW.out.trans hnx8)
     clear hown' hnx8 hsz8
     go_roundw
     case rel => exact ⟨i + 1, hlt, rfl, HO8, HB8⟩
     case measure => (simp [intOf]; omega)
    | true =>
     have HSx : ∀ W, Hid (Calls Tryz.prog 143 #[.int .i64 16, .int .u64 (F j : Nat)] W fun e w' => e = .returned (.int .i64 (sg 16 (F j % 2 ^ 16))) ∧ W = w') := fun W => hid (RSigned_ok 16 (by decide) (F j) (by have := HVx.out; omega) W)
     have hzx := ext_true 16 (F j)
     generalize extF 16 true (F j) = ex at *
     generalize sg 16 (F j % 2 ^ 16) = zx at *
     generalize F j = ax at *
     clear HVx HF HR HLL
     rw [← hri] at hzx
     clear hri
     clear hj
     have hwr := HBW.out.size
     go_wp2_with (first
      | (go_at_call 197; (first | (with_reducible refine (B0 _).out.mono ?_) | (with_reducible refine (B1 _).out.mono ?_) | (with_reducible refine (B2 _).out.mono ?_) | (with_reducible refine (B3 _).out.mono ?_) | (with_reducible refine (B4 _).out.mono ?_) | (with_reducible refine (B5 _).out.mono ?_) | (with_reducible refine (B6 _).out.mono ?_) | (with_reducible refine (B7 _).out.mono ?_) | (with_reducible refine (B8 _).out.mono ?_) | (with_reducible refine (B9 _).out.mono ?_)); rintro e w6 ⟨rfl, rfl⟩)
      | (go_at_call 143; (first | (with_reducible refine (HSx _).out.mono ?_)); rintro e w6 ⟨rfl, rfl⟩)
      | (at_builtin; refine append_u64 rfl _ _ rfl w3.heap.size _ _ _ (R i : Int) HOW.out hwr (by omega) rfl rfl ?_; intro v' w8 hown' hnx8 hsz8))
     rw [HSN.out] at hown'
     have HO8 := hid hown'
     have HB8 := hid (HBW.out.trans hnx8)
     clear hown' hnx8 hsz8
     go_roundw
     case rel => exact ⟨i + 1, hlt, rfl, HO8, HB8⟩
     case measure => (simp [intOf]; omega)
   ·have B1 : ∀ W, Hid (Calls Tryz.prog 197 #[.string sw, .string ⟨#[101, 120, 116, 101, 110, 100, 95, 104, 105, 103, 104]⟩] W fun e w' => e = .returned (.bool false) ∧ W = w') := G1
    have B2 : ∀ W, Hid (Calls Tryz.prog 197 #[.string sw, .string ⟨#[101, 120, 116, 109, 117, 108, 95, 104, 105, 103, 104]⟩] W fun e w' => e = .returned (.bool false) ∧ W = w') := G2
    have B3 : ∀ W, Hid (Calls Tryz.prog 197 #[.string sw, .string ⟨#[101, 120, 116, 97, 100, 100]⟩] W fun e w' => e = .returned (.bool true) ∧ W = w') := G3
    have B4 : ∀ W, Hid (Calls Tryz.prog 197 #[.string sw, .string ⟨#[100, 111, 116]⟩] W fun e w' => e = .returned (.bool false) ∧ W = w') := G4
    have B5 : ∀ W, Hid (Calls Tryz.prog 197 #[.string sw, .string ⟨#[116, 114, 117, 110, 99]⟩] W fun e w' => e = .returned (.bool false) ∧ W = w') := G5
    have B6 : ∀ W, Hid (Calls Tryz.prog 197 #[.string sw, .string ⟨#[99, 111, 110, 118, 101, 114, 116]⟩] W fun e w' => e = .returned (.bool false) ∧ W = w') := G6
    have B7 : ∀ W, Hid (Calls Tryz.prog 197 #[.string sw, .string ⟨#[100, 101, 109, 111, 116, 101]⟩] W fun e w' => e = .returned (.bool false) ∧ W = w') := G7
    have B8 : ∀ W, Hid (Calls Tryz.prog 197 #[.string sw, .string ⟨#[112, 114, 111, 109, 111, 116, 101]⟩] W fun e w' => e = .returned (.bool false) ∧ W = w') := G8
    have B9 : ∀ W, Hid (Calls Tryz.prog 197 #[.string sw, .string ⟨#[101, 120, 116, 109, 117, 108]⟩] W fun e w' => e = .returned (.bool false) ∧ W = w') := G9
    clear G0 G1 G2 G3 G4 G5 G6 G7 G8 G9 HKK
    obtain ⟨j, hj⟩ : ∃ j, j = 2 * i := ⟨_, rfl⟩
    obtain ⟨q, hq⟩ : ∃ q, q = 2 * i + 1 := ⟨_, rfl⟩
    have i1 : 2 * (i : Int) = (j : Int) := by omega
    have i2 : (j : Int) + 1 = (q : Int) := by omega
    have hqc : q < 8 := by omega
    have hjc : j < 8 := by omega
    have tmv : ((j : Int).tmod 8) = (j : Int) := by rw [Int.tmod_eq_emod_of_nonneg (by omega)]; omega
    have k1 : wr.cell? ⟨g3, j, none⟩ = some (.int .u64 (F j : Nat)) := by have h := (HBW.out.cell (p := ⟨g3, 0 + j, none⟩) hgl).trans (HLL.out j (by omega)).1; rwa [Nat.zero_add] at h
    have k3 : wr.cell? ⟨g3, q, none⟩ = some (.int .u64 (F q : Nat)) := by have h := (HBW.out.cell (p := ⟨g3, 0 + q, none⟩) hgl).trans (HLL.out q (by omega)).1; rwa [Nat.zero_add] at h
    have hri : R i = (extF 16 s (F j) + extF 16 s (F q)) % 18446744073709551616 := by rw [HR.out]; subst hj; subst hq; rfl
    have HSN := hid (fc_snoc i R)
    have HVx := hid (show F j < 2 ^ 16 from HF.out _)
    have HVu := hid (show F q < 2 ^ 16 from HF.out _)
    cases s with
    | false =>
     simp only [ext_false] at hri
     generalize F j = ex at *
     generalize F q = eu at *
     clear HVx HVu HF HR HLL
     have hs1 := wid_add ex eu
     rw [← hri] at hs1
     clear hri
     clear hj hq
     have hwr := HBW.out.size
     go_wp2_with (first
      | (go_at_call 197; (first | (with_reducible refine (B0 _).out.mono ?_) | (with_reducible refine (B1 _).out.mono ?_) | (with_reducible refine (B2 _).out.mono ?_) | (with_reducible refine (B3 _).out.mono ?_) | (with_reducible refine (B4 _).out.mono ?_) | (with_reducible refine (B5 _).out.mono ?_) | (with_reducible refine (B6 _).out.mono ?_) | (with_reducible refine (B7 _).out.mono ?_) | (with_reducible refine (B8 _).out.mono ?_) | (with_reducible refine (B9 _).out.mono ?_)); rintro e w6 ⟨rfl, rfl⟩)
      | (at_builtin; refine append_u64 rfl _ _ rfl w3.heap.size _ _ _ (R i : Int) HOW.out hwr (by omega) rfl rfl ?_; intro v' w8 hown' hnx8 hsz8))
     rw [HSN.out] at hown'
     have HO8 := hid hown'
     have HB8 := hid (HBW.out.trans hnx8)
     clear hown' hnx8 hsz8
     go_roundw
     case rel => exact ⟨i + 1, hlt, rfl, HO8, HB8⟩
     case measure => (simp [intOf]; omega)
    | true =>
     have HSx : ∀ W, Hid (Calls Tryz.prog 143 #[.int .i64 16, .int .u64 (F j : Nat)] W fun e w' => e = .returned (.int .i64 (sg 16 (F j % 2 ^ 16))) ∧ W = w') := fun W => hid (RSigned_ok 16 (by decide) (F j) (by have := HVx.out; omega) W)
     have hzx := ext_true 16 (F j)
     have HSu : ∀ W, Hid (Calls Tryz.prog 143 #[.int .i64 16, .int .u64 (F q : Nat)] W fun e w' => e = .returned (.int .i64 (sg 16 (F q % 2 ^ 16))) ∧ W = w') := fun W => hid (RSigned_ok 16 (by decide) (F q) (by have := HVu.out; omega) W)
     have hzu := ext_true 16 (F q)
     generalize extF 16 true (F j) = ex at *
     generalize extF 16 true (F q) = eu at *
     generalize sg 16 (F j % 2 ^ 16) = zx at *
     generalize sg 16 (F q % 2 ^ 16) = zu at *
     generalize F j = ax at *
     generalize F q = au at *
     clear HVx HVu HF HR HLL
     have hs1 := wid_add ex eu
     rw [← hri] at hs1
     clear hri
     clear hj hq
     have hwr := HBW.out.size
     go_wp2_with (first
      | (go_at_call 197; (first | (with_reducible refine (B0 _).out.mono ?_) | (with_reducible refine (B1 _).out.mono ?_) | (with_reducible refine (B2 _).out.mono ?_) | (with_reducible refine (B3 _).out.mono ?_) | (with_reducible refine (B4 _).out.mono ?_) | (with_reducible refine (B5 _).out.mono ?_) | (with_reducible refine (B6 _).out.mono ?_) | (with_reducible refine (B7 _).out.mono ?_) | (with_reducible refine (B8 _).out.mono ?_) | (with_reducible refine (B9 _).out.mono ?_)); rintro e w6 ⟨rfl, rfl⟩)
      | (go_at_call 143; (first | (with_reducible refine (HSx _).out.mono ?_) | (with_reducible refine (HSu _).out.mono ?_)); rintro e w6 ⟨rfl, rfl⟩)
      | (at_builtin; refine append_u64 rfl _ _ rfl w3.heap.size _ _ _ (R i : Int) HOW.out hwr (by omega) rfl rfl ?_; intro v' w8 hown' hnx8 hsz8))
     rw [HSN.out] at hown'
     have HO8 := hid hown'
     have HB8 := hid (HBW.out.trans hnx8)
     clear hown' hnx8 hsz8
     go_roundw
     case rel => exact ⟨i + 1, hlt, rfl, HO8, HB8⟩
     case measure => (simp [intOf]; omega)
  ·have hE : i = 4 := by omega
   subst hE
   go_wp2
   go_ret
   exact ⟨_, rfl, own_mono HOW.out HB5.out.size, HB5.out.trans (HBW.out.mono HB5.out.size)⟩
end Go.Proofs.YtlhakbkdlgejpaaGreatDoor
namespace Go.Proofs.YtlhakbkdlgejpaaGreatDoor
open Go.RowKit
set_option maxHeartbeats 8000000 in
theorem roth1_32 (k : Nat) (hk : k = 0 ∨ k = 1) (s : Bool) (what sh : List UInt8) (hwl : what.length ≤ 1000) (hsrc : srcL what.length what ([], false) = (sh, s)) (hsh : biL sh = 32) (hb : begs what k = true) (alo ahi : Nat) (anl : Bool) (h1 : alo < 18446744073709551616) (h2 : ahi < 18446744073709551616) (w : World) (va : Value) (ha : AR w va [(123, alo, ahi, anl)]) :
  Calls Tryz.prog 130 #[.int .i64 64, .string (str what), va] w (LPost w 2 (widR k 2 (fun i => extF 32 s (splitF 32 alo ahi i)) (fun i => extF 32 s (splitF 32 alo ahi i)))) := by
 obtain ⟨sw, hsw⟩ : ∃ sw, sw = str what := ⟨_, rfl⟩
 obtain ⟨ss, hss⟩ : ∃ ss, ss = str sh := ⟨_, rfl⟩
 rw [← hsw]
 unfold begs at hb
 simp only [Bool.and_eq_true, beq_iff_eq] at hb
 obtain ⟨⟨⟨⟨⟨⟨⟨⟨⟨hb0, hb1⟩, hb2⟩, hb3⟩, hb4⟩, hb5⟩, hb6⟩, hb7⟩, hb8⟩, hb9⟩ := hb
 have HSO : ∀ W, Hid (Calls Tryz.prog 128 #[.string sw] W fun e w' => e = .returned (.tuple #[.string ss, .bool s]) ∧ Below W.heap.size W w') := fun W => by rw [hsw, hss]; exact hid (source_says what hwl (sh, s) hsrc W)
 have HBI : ∀ W, Hid (Calls Tryz.prog 123 #[.string ss] W fun e w' => e = .returned (.int .i64 32) ∧ W = w') := fun W => by rw [hss, ← hsh]; exact hid (RBits_says sh W)
 have G0 : ∀ W, Hid (Calls Tryz.prog 197 #[.string sw, .string ⟨#[110, 97, 114, 114, 111, 119]⟩] W fun e w' => e = .returned (.bool (false)) ∧ W = w') := fun W => by rw [hsw, ← hb0]; exact hid (begins_says what [110, 97, 114, 114, 111, 119] hwl W)
 have G1 : ∀ W, Hid (Calls Tryz.prog 197 #[.string sw, .string ⟨#[101, 120, 116, 101, 110, 100, 95, 104, 105, 103, 104]⟩] W fun e w' => e = .returned (.bool (decide (k = 1))) ∧ W = w') := fun W => by rw [hsw, ← hb1]; exact hid (begins_says what [101, 120, 116, 101, 110, 100, 95, 104, 105, 103, 104] hwl W)
 have G2 : ∀ W, Hid (Calls Tryz.prog 197 #[.string sw, .string ⟨#[101, 120, 116, 109, 117, 108, 95, 104, 105, 103, 104]⟩] W fun e w' => e = .returned (.bool (decide (k = 3))) ∧ W = w') := fun W => by rw [hsw, ← hb2]; exact hid (begins_says what [101, 120, 116, 109, 117, 108, 95, 104, 105, 103, 104] hwl W)
 have G3 : ∀ W, Hid (Calls Tryz.prog 197 #[.string sw, .string ⟨#[101, 120, 116, 97, 100, 100]⟩] W fun e w' => e = .returned (.bool (decide (k = 4))) ∧ W = w') := fun W => by rw [hsw, ← hb3]; exact hid (begins_says what [101, 120, 116, 97, 100, 100] hwl W)
 have G4 : ∀ W, Hid (Calls Tryz.prog 197 #[.string sw, .string ⟨#[100, 111, 116]⟩] W fun e w' => e = .returned (.bool (decide (k = 5))) ∧ W = w') := fun W => by rw [hsw, ← hb4]; exact hid (begins_says what [100, 111, 116] hwl W)
 have G5 : ∀ W, Hid (Calls Tryz.prog 197 #[.string sw, .string ⟨#[116, 114, 117, 110, 99]⟩] W fun e w' => e = .returned (.bool (false)) ∧ W = w') := fun W => by rw [hsw, ← hb5]; exact hid (begins_says what [116, 114, 117, 110, 99] hwl W)
 have G6 : ∀ W, Hid (Calls Tryz.prog 197 #[.string sw, .string ⟨#[99, 111, 110, 118, 101, 114, 116]⟩] W fun e w' => e = .returned (.bool (false)) ∧ W = w') := fun W => by rw [hsw, ← hb6]; exact hid (begins_says what [99, 111, 110, 118, 101, 114, 116] hwl W)
 have G7 : ∀ W, Hid (Calls Tryz.prog 197 #[.string sw, .string ⟨#[100, 101, 109, 111, 116, 101]⟩] W fun e w' => e = .returned (.bool (false)) ∧ W = w') := fun W => by rw [hsw, ← hb7]; exact hid (begins_says what [100, 101, 109, 111, 116, 101] hwl W)
 have G8 : ∀ W, Hid (Calls Tryz.prog 197 #[.string sw, .string ⟨#[112, 114, 111, 109, 111, 116, 101]⟩] W fun e w' => e = .returned (.bool (false)) ∧ W = w') := fun W => by rw [hsw, ← hb8]; exact hid (begins_says what [112, 114, 111, 109, 111, 116, 101] hwl W)
 have G9 : ∀ W, Hid (Calls Tryz.prog 197 #[.string sw, .string ⟨#[101, 120, 116, 109, 117, 108]⟩] W fun e w' => e = .returned (.bool (decide (k = 2 ∨ k = 3))) ∧ W = w') := fun W => by rw [hsw, ← hb9]; exact hid (begins_says what [101, 120, 116, 109, 117, 108] hwl W)
 clear hsw hss hb0 hb1 hb2 hb3 hb4 hb5 hb6 hb7 hb8 hb9 hwl hsrc hsh
 have HSPA : ∀ W, Hid (Calls Tryz.prog 126 #[.int .i64 32, .agg #[.int .i64 123, .int .u64 (alo : Nat), .int .u64 (ahi : Nat), .bool anl]] W (LPost W 4 (splitF 32 alo ahi))) := fun W => hid (RSplit_says 32 (by decide) 123 alo ahi anl h1 h2 W)
 have HF : Hid (∀ i, splitF 32 alo ahi i < 2 ^ 32) := hid (fun i => splitF_lt _ _ _ _)
 generalize splitF 32 alo ahi = F at *
 obtain ⟨R, hR⟩ : ∃ R : Nat → Nat, R = widR k 2 (fun i => extF 32 s (F i)) (fun i => extF 32 s (F i)) := ⟨_, rfl⟩
 rw [← hR]
 have HR := hid hR
 clear hR h1 h2
 obtain ⟨ga, ca, rfl, hga, hca, hata⟩ := ha
 obtain ⟨a0, a1, a2, a3⟩ := hata 0 (123, alo, ahi, anl) rfl
 simp only [Nat.zero_mul, Nat.zero_add, Nat.one_mul] at a0 a1 a2 a3
 simp only [List.length_cons, List.length_nil] at hca ⊢
 have HAA := hid (And.intro a0 (And.intro a1 (And.intro a2 a3)))
 have HGA := hid hga
 have HKK := hid hk
 clear hata a0 a1 a2 a3 hk
 go_enter Tryz.func130, Tryz.ntmps130
 go_upto_region 3 with (first
  | (go_at_call 128; (with_reducible refine (HSO _).out.mono ?_); rintro e w1 ⟨rfl, hb1⟩; have HB1 := hid hb1; clear hb1)
  | (go_at_call 123; (with_reducible refine (HBI _).out.mono ?_); rintro e w2 ⟨rfl, rfl⟩))
 obtain ⟨x0, x1, x2, x3⟩ := HAA.out
 have z0 := (HB1.out.cell (p := ⟨ga, 0, none⟩) hga).trans x0
 have z1 := (HB1.out.cell (p := ⟨ga, 1, none⟩) hga).trans x1
 have z2 := (HB1.out.cell (p := ⟨ga, 2, none⟩) hga).trans x2
 have z3 := (HB1.out.cell (p := ⟨ga, 3, none⟩) hga).trans x3
 clear x0 x1 x2 x3
 go_upto_region 7 with (go_at_call 126; (with_reducible refine (HSPA _).out.mono ?_); rintro e w3 ⟨v3, rfl, ho3, hb3⟩; have HO3 := hid ho3; have HB3 := hid (HB1.out.trans (hb3.mono HB1.out.size)); have HN3 := hid hb3; obtain ⟨g3, cap3, rfl⟩ := owned_at ho3 (by decide); clear ho3 hb3)
 have HL5 : Hid (RowAt w3 (.slice (some ⟨g3, 0, none⟩) 4 cap3) 4 F) := RowAt.of_own HO3.out (by decide)
 clear HO3 HN3 z0 z1 z2 z3 HAA
 have HB5 := HB3
 have HB1 := HB3
 clear HB3
 have B0 : ∀ W, Hid (Calls Tryz.prog 197 #[.string sw, .string ⟨#[110, 97, 114, 114, 111, 119]⟩] W fun e w' => e = .returned (.bool false) ∧ W = w') := G0
 go_upto_region 11 with (go_at_call 197; (with_reducible refine (B0 _).out.mono ?_); rintro e w5 ⟨rfl, rfl⟩)
 clear HSO HBI HSPA hga hca
 obtain ⟨gl, ol, cl, e1, hgl, hcl, hatl⟩ := HL5.out
 injection e1 with e1 _ _
 injection e1 with e1
 injection e1 with e1 e2
 subst e1; subst e2
 have HLL := hid hatl
 clear hatl HL5
 go_wp2_with fail
 go_loopw [12, 14] (fun vo vi wr => ∃ i : Nat, i ≤ 2 ∧ vi = .int .i64 i ∧ Hid (wr.ownsRow w3.heap.size 22 1 vo i (fc i R)) ∧ Hid (Below w3.heap.size w3 wr)) (fun _ vi _ => 2 - (intOf vi).toNat)
 case atStart => exact ⟨0, Nat.zero_le _, rfl, World.ownsRow_nil _ _ _ _, Below.refl _ _⟩
 case round =>
  obtain ⟨i, hin, rfl, HOW, HBW⟩ := hrel
  by_cases hlt : i < 2
  ·rcases HKK.out with rfl | rfl
   ·have B1 : ∀ W, Hid (Calls Tryz.prog 197 #[.string sw, .string ⟨#[101, 120, 116, 101, 110, 100, 95, 104, 105, 103, 104]⟩] W fun e w' => e = .returned (.bool false) ∧ W = w') := G1
    have B2 : ∀ W, Hid (Calls Tryz.prog 197 #[.string sw, .string ⟨#[101, 120, 116, 109, 117, 108, 95, 104, 105, 103, 104]⟩] W fun e w' => e = .returned (.bool false) ∧ W = w') := G2
    have B3 : ∀ W, Hid (Calls Tryz.prog 197 #[.string sw, .string ⟨#[101, 120, 116, 97, 100, 100]⟩] W fun e w' => e = .returned (.bool false) ∧ W = w') := G3
    have B4 : ∀ W, Hid (Calls Tryz.prog 197 #[.string sw, .string ⟨#[100, 111, 116]⟩] W fun e w' => e = .returned (.bool false) ∧ W = w') := G4
    have B5 : ∀ W, Hid (Calls Tryz.prog 197 #[.string sw, .string ⟨#[116, 114, 117, 110, 99]⟩] W fun e w' => e = .returned (.bool false) ∧ W = w') := G5
    have B6 : ∀ W, Hid (Calls Tryz.prog 197 #[.string sw, .string ⟨#[99, 111, 110, 118, 101, 114, 116]⟩] W fun e w' => e = .returned (.bool false) ∧ W = w') := G6
    have B7 : ∀ W, Hid (Calls Tryz.prog 197 #[.string sw, .string ⟨#[100, 101, 109, 111, 116, 101]⟩] W fun e w' => e = .returned (.bool false) ∧ W = w') := G7
    have B8 : ∀ W, Hid (Calls Tryz.prog 197 #[.string sw, .string ⟨#[112, 114, 111, 109, 111, 116, 101]⟩] W fun e w' => e = .returned (.bool false) ∧ W = w') := G8
    have B9 : ∀ W, Hid (Calls Tryz.prog 197 #[.string sw, .string ⟨#[101, 120, 116, 109, 117, 108]⟩] W fun e w' => e = .returned (.bool false) ∧ W = w') := G9
    clear G0 G1 G2 G3 G4 G5 G6 G7 G8 G9 HKK
    have hjc : i < 4 := by omega
    have tmv : ((i : Int).tmod 4) = (i : Int) := by rw [Int.tmod_eq_emod_of_nonneg (by omega)]; omega
    have k1 : wr.cell? ⟨g3, i, none⟩ = some (.int .u64 (F i : Nat)) := by have h := (HBW.out.cell (p := ⟨g3, 0 + i, none⟩) hgl).trans (HLL.out i (by omega)).1; rwa [Nat.zero_add] at h
    have hri : R i = extF 32 s (F i) := by rw [HR.out]; rfl
    have HSN := hid (fc_snoc i R)
    have HVx := hid (show F i < 2 ^ 32 from HF.out _)
    cases s with
    | false =>
     simp only [ext_false] at hri
     generalize F i = ex at *
     clear HVx HF HR HLL
     subst hri
     have hwr := HBW.out.size
     go_wp2_with (first
      | (go_at_call 197; (first | (with_reducible refine (B0 _).out.mono ?_) | (with_reducible refine (B1 _).out.mono ?_) | (with_reducible refine (B2 _).out.mono ?_) | (with_reducible refine (B3 _).out.mono ?_) | (with_reducible refine (B4 _).out.mono ?_) | (with_reducible refine (B5 _).out.mono ?_) | (with_reducible refine (B6 _).out.mono ?_) | (with_reducible refine (B7 _).out.mono ?_) | (with_reducible refine (B8 _).out.mono ?_) | (with_reducible refine (B9 _).out.mono ?_)); rintro e w6 ⟨rfl, rfl⟩)
      | (at_builtin; refine append_u64 rfl _ _ rfl w3.heap.size _ _ _ (R i : Int) HOW.out hwr (by omega) rfl rfl ?_; intro v' w8 hown' hnx8 hsz8))
     rw [HSN.out] at hown'
     have HO8 := hid hown'
     have HB8 := hid (HBW.out.trans hnx8)
     clear hown' hnx8 hsz8
     go_roundw
     case rel => exact ⟨i + 1, hlt, rfl, HO8, HB8⟩
     case measure => (simp [intOf]; omega)
    | true =>
     have HSx : ∀ W, Hid (Calls Tryz.prog 143 #[.int .i64 32, .int .u64 (F i : Nat)] W fun e w' => e = .returned (.int .i64 (sg 32 (F i % 2 ^ 32))) ∧ W = w') := fun W => hid (RSigned_ok 32 (by decide) (F i) (by have := HVx.out; omega) W)
     have hzx := ext_true 32 (F i)
     generalize extF 32 true (F i) = ex at *
     generalize sg 32 (F i % 2 ^ 32) = zx at *
     generalize F i = ax at *
     clear HVx HF HR HLL
     rw [← hri] at hzx
     clear hri
     have hwr := HBW.out.size
     go_wp2_with (first
      | (go_at_call 197; (first | (with_reducible refine (B0 _).out.mono ?_) | (with_reducible refine (B1 _).out.mono ?_) | (with_reducible refine (B2 _).out.mono ?_) | (with_reducible refine (B3 _).out.mono ?_) | (with_reducible refine (B4 _).out.mono ?_) | (with_reducible refine (B5 _).out.mono ?_) | (with_reducible refine (B6 _).out.mono ?_) | (with_reducible refine (B7 _).out.mono ?_) | (with_reducible refine (B8 _).out.mono ?_) | (with_reducible refine (B9 _).out.mono ?_)); rintro e w6 ⟨rfl, rfl⟩)
      | (go_at_call 143; (first | (with_reducible refine (HSx _).out.mono ?_)); rintro e w6 ⟨rfl, rfl⟩)
      | (at_builtin; refine append_u64 rfl _ _ rfl w3.heap.size _ _ _ (R i : Int) HOW.out hwr (by omega) rfl rfl ?_; intro v' w8 hown' hnx8 hsz8))
     rw [HSN.out] at hown'
     have HO8 := hid hown'
     have HB8 := hid (HBW.out.trans hnx8)
     clear hown' hnx8 hsz8
     go_roundw
     case rel => exact ⟨i + 1, hlt, rfl, HO8, HB8⟩
     case measure => (simp [intOf]; omega)
   ·have B1 : ∀ W, Hid (Calls Tryz.prog 197 #[.string sw, .string ⟨#[101, 120, 116, 101, 110, 100, 95, 104, 105, 103, 104]⟩] W fun e w' => e = .returned (.bool true) ∧ W = w') := G1
    have B2 : ∀ W, Hid (Calls Tryz.prog 197 #[.string sw, .string ⟨#[101, 120, 116, 109, 117, 108, 95, 104, 105, 103, 104]⟩] W fun e w' => e = .returned (.bool false) ∧ W = w') := G2
    have B3 : ∀ W, Hid (Calls Tryz.prog 197 #[.string sw, .string ⟨#[101, 120, 116, 97, 100, 100]⟩] W fun e w' => e = .returned (.bool false) ∧ W = w') := G3
    have B4 : ∀ W, Hid (Calls Tryz.prog 197 #[.string sw, .string ⟨#[100, 111, 116]⟩] W fun e w' => e = .returned (.bool false) ∧ W = w') := G4
    have B5 : ∀ W, Hid (Calls Tryz.prog 197 #[.string sw, .string ⟨#[116, 114, 117, 110, 99]⟩] W fun e w' => e = .returned (.bool false) ∧ W = w') := G5
    have B6 : ∀ W, Hid (Calls Tryz.prog 197 #[.string sw, .string ⟨#[99, 111, 110, 118, 101, 114, 116]⟩] W fun e w' => e = .returned (.bool false) ∧ W = w') := G6
    have B7 : ∀ W, Hid (Calls Tryz.prog 197 #[.string sw, .string ⟨#[100, 101, 109, 111, 116, 101]⟩] W fun e w' => e = .returned (.bool false) ∧ W = w') := G7
    have B8 : ∀ W, Hid (Calls Tryz.prog 197 #[.string sw, .string ⟨#[112, 114, 111, 109, 111, 116, 101]⟩] W fun e w' => e = .returned (.bool false) ∧ W = w') := G8
    have B9 : ∀ W, Hid (Calls Tryz.prog 197 #[.string sw, .string ⟨#[101, 120, 116, 109, 117, 108]⟩] W fun e w' => e = .returned (.bool false) ∧ W = w') := G9
    clear G0 G1 G2 G3 G4 G5 G6 G7 G8 G9 HKK
    obtain ⟨j, hj⟩ : ∃ j, j = i + 2 := ⟨_, rfl⟩
    have i1 : (i : Int) + 2 = (j : Int) := by omega
    have hjc : j < 4 := by omega
    have tmv : ((j : Int).tmod 4) = (j : Int) := by rw [Int.tmod_eq_emod_of_nonneg (by omega)]; omega
    have k1 : wr.cell? ⟨g3, j, none⟩ = some (.int .u64 (F j : Nat)) := by have h := (HBW.out.cell (p := ⟨g3, 0 + j, none⟩) hgl).trans (HLL.out j (by omega)).1; rwa [Nat.zero_add] at h
    have hri : R i = extF 32 s (F j) := by rw [HR.out]; subst hj; rfl
    have HSN := hid (fc_snoc i R)
    have HVx := hid (show F j < 2 ^ 32 from HF.out _)
    cases s with
    | false =>
     simp only [ext_false] at hri
     generalize F j = ex at *
     clear HVx HF HR HLL
     subst hri
     clear hj
     have hwr := HBW.out.size
     go_wp2_with (first
      | (go_at_call 197; (first | (with_reducible refine (B0 _).out.mono ?_) | (with_reducible refine (B1 _).out.mono ?_) | (with_reducible refine (B2 _).out.mono ?_) | (with_reducible refine (B3 _).out.mono ?_) | (with_reducible refine (B4 _).out.mono ?_) | (with_reducible refine (B5 _).out.mono ?_) | (with_reducible refine (B6 _).out.mono ?_) | (with_reducible refine (B7 _).out.mono ?_) | (with_reducible refine (B8 _).out.mono ?_) | (with_reducible refine (B9 _).out.mono ?_)); rintro e w6 ⟨rfl, rfl⟩)
      | (at_builtin; refine append_u64 rfl _ _ rfl w3.heap.size _ _ _ (R i : Int) HOW.out hwr (by omega) rfl rfl ?_; intro v' w8 hown' hnx8 hsz8))
     rw [HSN.out] at hown'
     have HO8 := hid hown'
     have HB8 := hid (HBW.out.trans hnx8)
     clear hown' hnx8 hsz8
     go_roundw
     case rel => exact ⟨i + 1, hlt, rfl, HO8, HB8⟩
     case measure => (simp [intOf]; omega)
    | true =>
     have HSx : ∀ W, Hid (Calls Tryz.prog 143 #[.int .i64 32, .int .u64 (F j : Nat)] W fun e w' => e = .returned (.int .i64 (sg 32 (F j % 2 ^ 32))) ∧ W = w') := fun W => hid (RSigned_ok 32 (by decide) (F j) (by have := HVx.out; omega) W)
     have hzx := ext_true 32 (F j)
     generalize extF 32 true (F j) = ex at *
     generalize sg 32 (F j % 2 ^ 32) = zx at *
     generalize F j = ax at *
     clear HVx HF HR HLL
     rw [← hri] at hzx
     clear hri
     clear hj
     have hwr := HBW.out.size
     go_wp2_with (first
      | (go_at_call 197; (first | (with_reducible refine (B0 _).out.mono ?_) | (with_reducible refine (B1 _).out.mono ?_) | (with_reducible refine (B2 _).out.mono ?_) | (with_reducible refine (B3 _).out.mono ?_) | (with_reducible refine (B4 _).out.mono ?_) | (with_reducible refine (B5 _).out.mono ?_) | (with_reducible refine (B6 _).out.mono ?_) | (with_reducible refine (B7 _).out.mono ?_) | (with_reducible refine (B8 _).out.mono ?_) | (with_reducible refine (B9 _).out.mono ?_)); rintro e w6 ⟨rfl, rfl⟩)
      | (go_at_call 143; (first | (with_reducible refine (HSx _).out.mono ?_)); rintro e w6 ⟨rfl, rfl⟩)
      | (at_builtin; refine append_u64 rfl _ _ rfl w3.heap.size _ _ _ (R i : Int) HOW.out hwr (by omega) rfl rfl ?_; intro v' w8 hown' hnx8 hsz8))
     rw [HSN.out] at hown'
     have HO8 := hid hown'
     have HB8 := hid (HBW.out.trans hnx8)
     clear hown' hnx8 hsz8
     go_roundw
     case rel => exact ⟨i + 1, hlt, rfl, HO8, HB8⟩
     case measure => (simp [intOf]; omega)
  ·have hE : i = 2 := by omega
   subst hE
   go_wp2
   go_ret
   exact ⟨_, rfl, own_mono HOW.out HB5.out.size, HB5.out.trans (HBW.out.mono HB5.out.size)⟩
end Go.Proofs.YtlhakbkdlgejpaaGreatDoor
