/-
  LRW2x8: merged, what the law does not reach left out (each text says what it holds where it lies in wip). No condition.
-/
import Derived.Test.YtlhakbkdlgejpaaGreatDoorJ20
set_option linter.unusedSimpArgs false
set_option linter.unusedVariables false
set_option maxRecDepth 100000
namespace Go.Proofs.YtlhakbkdlgejpaaGreatDoor
open Go.RowKit
set_option maxHeartbeats 8000000 in
theorem roth2_8 (k : Nat) (hk : k = 2 ∨ k = 3) (s : Bool) (what sh : List UInt8) (hwl : what.length ≤ 1000) (hsrc : srcL what.length what ([], false) = (sh, s)) (hsh : biL sh = 8) (hb : begs what k = true) (alo ahi blo bhi : Nat) (anl bnl : Bool) (h1 : alo < 18446744073709551616) (h2 : ahi < 18446744073709551616) (h3 : blo < 18446744073709551616) (h4 : bhi < 18446744073709551616) (w : World) (va : Value) (ha : AR w va [(123, alo, ahi, anl), (123, blo, bhi, bnl)]) :
  Calls Tryz.prog 130 #[.int .i64 16, .string (str what), va] w (LPost w 8 (widR k 8 (fun i => extF 8 s (splitF 8 alo ahi i)) (fun i => extF 8 s (splitF 8 blo bhi i)))) := by
 obtain ⟨sw, hsw⟩ : ∃ sw, sw = str what := ⟨_, rfl⟩
 obtain ⟨ss, hss⟩ : ∃ ss, ss = str sh := ⟨_, rfl⟩
 rw [← hsw]
 unfold begs at hb
 simp only [Bool.and_eq_true, beq_iff_eq] at hb
 obtain ⟨⟨⟨⟨⟨⟨⟨⟨⟨hb0, hb1⟩, hb2⟩, hb3⟩, hb4⟩, hb5⟩, hb6⟩, hb7⟩, hb8⟩, hb9⟩ := hb
 have HSO : ∀ W, Hid (Calls Tryz.prog 128 #[.string sw] W fun e w' => e = .returned (.tuple #[.string ss, .bool s]) ∧ Below W.heap.size W w') := fun W => by rw [hsw, hss]; exact hid (source_says what hwl (sh, s) hsrc W)
 have HBI : ∀ W, Hid (Calls Tryz.prog 123 #[.string ss] W fun e w' => e = .returned (.int .i64 8) ∧ W = w') := fun W => by rw [hss, ← hsh]; exact hid (RBits_says sh W)
 have G0 : ∀ W, Hid (Calls Tryz.prog 197 #[.string sw, .string ⟨#[110, 97, 114, 114, 111, 119]⟩] W fun e w' => e = .returned (.bool (false)) ∧ W = w') := fun W => by rw [hsw, ← hb0]; exact hid (begins_says what [110, 97, 114, 114, 111, 119] hwl W)
 have G1 : ∀ W, Hid (Calls Tryz.prog 197 #[.string sw, .string ⟨#[101, 120, 116, 101, 110, 100, 95, 104, 105, 103, 104]⟩] W fun e w' => e = .returned (.bool (decide (k = 1))) ∧ W = w') := fun W => by rw [hsw, ← hb1]; exact hid (begins_says what [101, 120, 116, 101, 110, 100, 95, 104, 105, 103, 104] hwl W)
 have G2 : ∀ W, Hid (Calls Tryz.prog 197 #[.string sw, .string ⟨#[101, 120, 116, 109, 117, 108, 95, 104, 105, 103, 104]⟩] W fun e w' => e = .returned (.bool (decide (k = 3))) ∧ W = w') := fun W => by rw [hsw, ← hb2]; exact hid (begins_says what [101, 120, 116, 109, 117, 108, 95, 104, 105, 103, 104] hwl W)
 have G3 : ∀ W, Hid (Calls Tryz.prog 197 #[.string sw, .string ⟨#[101, 120, 116, 97, 100, 100]⟩] W fun e w' => e = .returned (.bool (decide (k = 4))) ∧ W = w') := fun W => by rw [hsw, ← hb3]; exact hid (begins_says what [101, 120, 116, 97, 100, 100] hwl W)
 have G4 : ∀ W, Hid (Calls Tryz.prog 197 #[.string sw, .string ⟨#[100, 111, 116]⟩] W fun e w' => e = .returned (.bool (decide (k = 5))) ∧ W = w') := fun W => by rw [hsw, ← hb4]; exact hid (begins_says what [100, 111, 116] hwl W)
 have G5 : ∀ W, Hid (Calls Tryz.prog 197 #[.string sw, .string ⟨#[116, 114, 117, 110, 99]⟩] W fun e w' => e = .returned (.bool (false)) ∧ W = w') := fun W => by rw [hsw, ← hb5]; exact hid (begins_says what [116, 114, 117, 110, 99] hwl W)
 have G6 : ∀ W, Hid (Calls Tryz.prog 197 #[.string sw, .string ⟨#[99, 111, 110, 118, 101, 114, 116]⟩] W fun e w' => e = .returned (.bool (false)) ∧ W = w') := fun W => by rw [hsw, ← hb6]; exact hid (begins_says what [99, 111, 110, 118, 101, 114, 116] hwl W)
 have G7 : ∀ W, Hid (Calls Tryz.prog 197 #[.string sw, .string ⟨#[100, 101, 109, 111, 116, 101]⟩] W fun e w' => e = .returned (.bool (false)) ∧ W = w') := fun W => by rw [hsw, ← hb7]; exact hid (begins_says what [100, 101, 109, 111, 116, 101] hwl W)
 have G8 : ∀ W, Hid (Calls Tryz.prog 197 #[.string sw, .string ⟨#[112, 114, 111, 109, 111, 116, 101]⟩] W fun e w' => e = .returned (.bool (false)) ∧ W = w') := fun W => by rw [hsw, ← hb8]; exact hid (begins_says what [112, 114, 111, 109, 111, 116, 101] hwl W)
 have G9 : ∀ W, Hid (Calls Tryz.prog 197 #[.string sw, .string ⟨#[101, 120, 116, 109, 117, 108]⟩] W fun e w' => e = .returned (.bool (decide (k = 2 ∨ k = 3))) ∧ W = w') := fun W => by rw [hsw, ← hb9]; exact hid (begins_says what [101, 120, 116, 109, 117, 108] hwl W)
 clear hsw hss hb0 hb1 hb2 hb3 hb4 hb5 hb6 hb7 hb8 hb9 hwl hsrc hsh
 have HSPA : ∀ W, Hid (Calls Tryz.prog 126 #[.int .i64 8, .agg #[.int .i64 123, .int .u64 (alo : Nat), .int .u64 (ahi : Nat), .bool anl]] W (LPost W 16 (splitF 8 alo ahi))) := fun W => hid (RSplit_says 8 (by decide) 123 alo ahi anl h1 h2 W)
 have HSPB : ∀ W, Hid (Calls Tryz.prog 126 #[.int .i64 8, .agg #[.int .i64 123, .int .u64 (blo : Nat), .int .u64 (bhi : Nat), .bool bnl]] W (LPost W 16 (splitF 8 blo bhi))) := fun W => hid (RSplit_says 8 (by decide) 123 blo bhi bnl h3 h4 W)
 have HF : Hid (∀ i, splitF 8 alo ahi i < 2 ^ 8) := hid (fun i => splitF_lt _ _ _ _)
 have HG : Hid (∀ i, splitF 8 blo bhi i < 2 ^ 8) := hid (fun i => splitF_lt _ _ _ _)
 generalize splitF 8 alo ahi = F at *
 generalize splitF 8 blo bhi = G at *
 obtain ⟨R, hR⟩ : ∃ R : Nat → Nat, R = widR k 8 (fun i => extF 8 s (F i)) (fun i => extF 8 s (G i)) := ⟨_, rfl⟩
 rw [← hR]
 have HR := hid hR
 clear hR h1 h2 h3 h4
 obtain ⟨ga, ca, rfl, hga, hca, hata⟩ := ha
 obtain ⟨a0, a1, a2, a3⟩ := hata 0 (123, alo, ahi, anl) rfl
 obtain ⟨b0, b1, b2, b3⟩ := hata 1 (123, blo, bhi, bnl) rfl
 simp only [Nat.zero_mul, Nat.zero_add, Nat.one_mul] at a0 a1 a2 a3 b0 b1 b2 b3
 simp only [List.length_cons, List.length_nil] at hca ⊢
 have HAA := hid (And.intro a0 (And.intro a1 (And.intro a2 (And.intro a3 (And.intro b0 (And.intro b1 (And.intro b2 b3)))))))
 have HGA := hid hga
 have HKK := hid hk
 clear hata a0 a1 a2 a3 b0 b1 b2 b3 hk
 go_enter Tryz.func130, Tryz.ntmps130
 go_upto_region 3 with (first
  | (go_at_call 128; (with_reducible refine (HSO _).out.mono ?_); rintro e w1 ⟨rfl, hb1⟩; have HB1 := hid hb1; clear hb1)
  | (go_at_call 123; (with_reducible refine (HBI _).out.mono ?_); rintro e w2 ⟨rfl, rfl⟩))
 obtain ⟨x0, x1, x2, x3, y0, y1, y2, y3⟩ := HAA.out
 have z0 := (HB1.out.cell (p := ⟨ga, 0, none⟩) hga).trans x0
 have z1 := (HB1.out.cell (p := ⟨ga, 1, none⟩) hga).trans x1
 have z2 := (HB1.out.cell (p := ⟨ga, 2, none⟩) hga).trans x2
 have z3 := (HB1.out.cell (p := ⟨ga, 3, none⟩) hga).trans x3
 clear x0 x1 x2 x3 y0 y1 y2 y3
 go_upto_region 6 with (go_at_call 126; (with_reducible refine (HSPA _).out.mono ?_); rintro e w3 ⟨v3, rfl, ho3, hb3⟩; have HO3 := hid ho3; have HB3 := hid (HB1.out.trans (hb3.mono HB1.out.size)); have HN3 := hid hb3; clear ho3 hb3)
 obtain ⟨x0, x1, x2, x3, y0, y1, y2, y3⟩ := HAA.out
 clear x0 x1 x2 x3 z0 z1 z2 z3 HAA
 have z0 := (HB3.out.cell (p := ⟨ga, 4, none⟩) hga).trans y0
 have z1 := (HB3.out.cell (p := ⟨ga, 5, none⟩) hga).trans y1
 have z2 := (HB3.out.cell (p := ⟨ga, 6, none⟩) hga).trans y2
 have z3 := (HB3.out.cell (p := ⟨ga, 7, none⟩) hga).trans y3
 clear y0 y1 y2 y3
 go_upto_region 7 with (go_at_call 126; (with_reducible refine (HSPB _).out.mono ?_); rintro e w4 ⟨v4, rfl, ho4, hb4⟩; have HO4 := hid ho4; have HO34 := hid (own_below HO3.out hb4 (Nat.le_refl _)); have HB4 := hid (HB3.out.trans (hb4.mono HB3.out.size)); clear ho4 hb4)
 obtain ⟨g3, cap3, rfl⟩ := owned_at HO34.out (by decide)
 obtain ⟨g4, cap4, rfl⟩ := owned_at HO4.out (by decide)
 have HL5 : Hid (RowAt w4 (.slice (some ⟨g3, 0, none⟩) 16 cap3) 16 F) := RowAt.of_own HO34.out (by decide)
 have HM5 : Hid (RowAt w4 (.slice (some ⟨g4, 0, none⟩) 16 cap4) 16 G) := RowAt.of_own HO4.out (by decide)
 clear HO3 HO34 HO4 HN3 HB3 z0 z1 z2 z3
 have HB5 := HB4
 clear HB1
 have HB1 := HB4
 clear HB4
 have B0 : ∀ W, Hid (Calls Tryz.prog 197 #[.string sw, .string ⟨#[110, 97, 114, 114, 111, 119]⟩] W fun e w' => e = .returned (.bool false) ∧ W = w') := G0
 go_upto_region 11 with (go_at_call 197; (with_reducible refine (B0 _).out.mono ?_); rintro e w5 ⟨rfl, rfl⟩)
 clear HSO HBI HSPA HSPB hga hca
 obtain ⟨gl, ol, cl, e1, hgl, hcl, hatl⟩ := HL5.out
 injection e1 with e1 _ _
 injection e1 with e1
 injection e1 with e1 e2
 subst e1; subst e2
 have HLL := hid hatl
 obtain ⟨gl2, ol2, cl2, e1, hgl2, hcl2, hatl2⟩ := HM5.out
 injection e1 with e1 _ _
 injection e1 with e1
 injection e1 with e1 e2
 subst e1; subst e2
 have HMM := hid hatl2
 clear hatl2 HM5
 clear hatl HL5
 go_wp2_with fail
 go_loopw [12, 14] (fun vo vi wr => ∃ i : Nat, i ≤ 8 ∧ vi = .int .i64 i ∧ Hid (wr.ownsRow w4.heap.size 22 1 vo i (fc i R)) ∧ Hid (Below w4.heap.size w4 wr)) (fun _ vi _ => 8 - (intOf vi).toNat)
 case atStart => exact ⟨0, Nat.zero_le _, rfl, World.ownsRow_nil _ _ _ _, Below.refl _ _⟩
 case round =>
  obtain ⟨i, hin, rfl, HOW, HBW⟩ := hrel
  by_cases hlt : i < 8
  ·rcases HKK.out with rfl | rfl
   ·have B1 : ∀ W, Hid (Calls Tryz.prog 197 #[.string sw, .string ⟨#[101, 120, 116, 101, 110, 100, 95, 104, 105, 103, 104]⟩] W fun e w' => e = .returned (.bool false) ∧ W = w') := G1
    have B2 : ∀ W, Hid (Calls Tryz.prog 197 #[.string sw, .string ⟨#[101, 120, 116, 109, 117, 108, 95, 104, 105, 103, 104]⟩] W fun e w' => e = .returned (.bool false) ∧ W = w') := G2
    have B3 : ∀ W, Hid (Calls Tryz.prog 197 #[.string sw, .string ⟨#[101, 120, 116, 97, 100, 100]⟩] W fun e w' => e = .returned (.bool false) ∧ W = w') := G3
    have B4 : ∀ W, Hid (Calls Tryz.prog 197 #[.string sw, .string ⟨#[100, 111, 116]⟩] W fun e w' => e = .returned (.bool false) ∧ W = w') := G4
    have B5 : ∀ W, Hid (Calls Tryz.prog 197 #[.string sw, .string ⟨#[116, 114, 117, 110, 99]⟩] W fun e w' => e = .returned (.bool false) ∧ W = w') := G5
    have B6 : ∀ W, Hid (Calls Tryz.prog 197 #[.string sw, .string ⟨#[99, 111, 110, 118, 101, 114, 116]⟩] W fun e w' => e = .returned (.bool false) ∧ W = w') := G6
    have B7 : ∀ W, Hid (Calls Tryz.prog 197 #[.string sw, .string ⟨#[100, 101, 109, 111, 116, 101]⟩] W fun e w' => e = .returned (.bool false) ∧ W = w') := G7
    have B8 : ∀ W, Hid (Calls Tryz.prog 197 #[.string sw, .string ⟨#[112, 114, 111, 109, 111, 116, 101]⟩] W fun e w' => e = .returned (.bool false) ∧ W = w') := G8
    have B9 : ∀ W, Hid (Calls Tryz.prog 197 #[.string sw, .string ⟨#[101, 120, 116, 109, 117, 108]⟩] W fun e w' => e = .returned (.bool true) ∧ W = w') := G9
    clear G0 G1 G2 G3 G4 G5 G6 G7 G8 G9 HKK
    have hjc : i < 16 := by omega
    have tmv : ((i : Int).tmod 16) = (i : Int) := by rw [Int.tmod_eq_emod_of_nonneg (by omega)]; omega
    have k1 : wr.cell? ⟨g3, i, none⟩ = some (.int .u64 (F i : Nat)) := by have h := (HBW.out.cell (p := ⟨g3, 0 + i, none⟩) hgl).trans (HLL.out i (by omega)).1; rwa [Nat.zero_add] at h
    have k2 : wr.cell? ⟨g4, i, none⟩ = some (.int .u64 (G i : Nat)) := by have h := (HBW.out.cell (p := ⟨g4, 0 + i, none⟩) hgl2).trans (HMM.out i (by omega)).1; rwa [Nat.zero_add] at h
    have hri : R i = extF 8 s (F i) * extF 8 s (G i) % 18446744073709551616 := by rw [HR.out]; rfl
    have HSN := hid (fc_snoc i R)
    have HVx := hid (show F i < 2 ^ 8 from HF.out _)
    have HVy := hid (show G i < 2 ^ 8 from HG.out _)
    cases s with
    | false =>
     simp only [ext_false] at hri
     generalize F i = ex at *
     generalize G i = ey at *
     clear HVx HVy HF HG HR HLL HMM
     have hs1 := wid_mul ex ey
     rw [← hri] at hs1
     clear hri
     have hwr := HBW.out.size
     go_wp2_with (first
      | (go_at_call 197; (first | (with_reducible refine (B0 _).out.mono ?_) | (with_reducible refine (B1 _).out.mono ?_) | (with_reducible refine (B2 _).out.mono ?_) | (with_reducible refine (B3 _).out.mono ?_) | (with_reducible refine (B4 _).out.mono ?_) | (with_reducible refine (B5 _).out.mono ?_) | (with_reducible refine (B6 _).out.mono ?_) | (with_reducible refine (B7 _).out.mono ?_) | (with_reducible refine (B8 _).out.mono ?_) | (with_reducible refine (B9 _).out.mono ?_)); rintro e w6 ⟨rfl, rfl⟩)
      | (at_builtin; refine append_u64 rfl _ _ rfl w4.heap.size _ _ _ (R i : Int) HOW.out hwr (by omega) rfl rfl ?_; intro v' w8 hown' hnx8 hsz8))
     rw [HSN.out] at hown'
     have HO8 := hid hown'
     have HB8 := hid (HBW.out.trans hnx8)
     clear hown' hnx8 hsz8
     go_roundw
     case rel => exact ⟨i + 1, hlt, rfl, HO8, HB8⟩
     case measure => (simp [intOf]; omega)
    | true =>
     have HSx : ∀ W, Hid (Calls Tryz.prog 143 #[.int .i64 8, .int .u64 (F i : Nat)] W fun e w' => e = .returned (.int .i64 (sg 8 (F i % 2 ^ 8))) ∧ W = w') := fun W => hid (RSigned_ok 8 (by decide) (F i) (by have := HVx.out; omega) W)
     have hzx := ext_true 8 (F i)
     have HSy : ∀ W, Hid (Calls Tryz.prog 143 #[.int .i64 8, .int .u64 (G i : Nat)] W fun e w' => e = .returned (.int .i64 (sg 8 (G i % 2 ^ 8))) ∧ W = w') := fun W => hid (RSigned_ok 8 (by decide) (G i) (by have := HVy.out; omega) W)
     have hzy := ext_true 8 (G i)
     generalize extF 8 true (F i) = ex at *
     generalize extF 8 true (G i) = ey at *
     generalize sg 8 (F i % 2 ^ 8) = zx at *
     generalize sg 8 (G i % 2 ^ 8) = zy at *
     generalize F i = ax at *
     generalize G i = ay at *
     clear HVx HVy HF HG HR HLL HMM
     have hs1 := wid_mul ex ey
     rw [← hri] at hs1
     clear hri
     have hwr := HBW.out.size
     go_wp2_with (first
      | (go_at_call 197; (first | (with_reducible refine (B0 _).out.mono ?_) | (with_reducible refine (B1 _).out.mono ?_) | (with_reducible refine (B2 _).out.mono ?_) | (with_reducible refine (B3 _).out.mono ?_) | (with_reducible refine (B4 _).out.mono ?_) | (with_reducible refine (B5 _).out.mono ?_) | (with_reducible refine (B6 _).out.mono ?_) | (with_reducible refine (B7 _).out.mono ?_) | (with_reducible refine (B8 _).out.mono ?_) | (with_reducible refine (B9 _).out.mono ?_)); rintro e w6 ⟨rfl, rfl⟩)
      | (go_at_call 143; (first | (with_reducible refine (HSx _).out.mono ?_) | (with_reducible refine (HSy _).out.mono ?_)); rintro e w6 ⟨rfl, rfl⟩)
      | (at_builtin; refine append_u64 rfl _ _ rfl w4.heap.size _ _ _ (R i : Int) HOW.out hwr (by omega) rfl rfl ?_; intro v' w8 hown' hnx8 hsz8))
     rw [HSN.out] at hown'
     have HO8 := hid hown'
     have HB8 := hid (HBW.out.trans hnx8)
     clear hown' hnx8 hsz8
     go_roundw
     case rel => exact ⟨i + 1, hlt, rfl, HO8, HB8⟩
     case measure => (simp [intOf]; omega)
   ·have B1 : ∀ W, Hid (Calls Tryz.prog 197 #[.string sw, .string ⟨#[101, 120, 116, 101, 110, 100, 95, 104, 105, 103, 104]⟩] W fun e w' => e = .returned (.bool false) ∧ W = w') := G1
    have B2 : ∀ W, Hid (Calls Tryz.prog 197 #[.string sw, .string ⟨#[101, 120, 116, 109, 117, 108, 95, 104, 105, 103, 104]⟩] W fun e w' => e = .returned (.bool true) ∧ W = w') := G2
    have B3 : ∀ W, Hid (Calls Tryz.prog 197 #[.string sw, .string ⟨#[101, 120, 116, 97, 100, 100]⟩] W fun e w' => e = .returned (.bool false) ∧ W = w') := G3
    have B4 : ∀ W, Hid (Calls Tryz.prog 197 #[.string sw, .string ⟨#[100, 111, 116]⟩] W fun e w' => e = .returned (.bool false) ∧ W = w') := G4
    have B5 : ∀ W, Hid (Calls Tryz.prog 197 #[.string sw, .string ⟨#[116, 114, 117, 110, 99]⟩] W fun e w' => e = .returned (.bool false) ∧ W = w') := G5
    have B6 : ∀ W, Hid (Calls Tryz.prog 197 #[.string sw, .string ⟨#[99, 111, 110, 118, 101, 114, 116]⟩] W fun e w' => e = .returned (.bool false) ∧ W = w') := G6
    have B7 : ∀ W, Hid (Calls Tryz.prog 197 #[.string sw, .string ⟨#[100, 101, 109, 111, 116, 101]⟩] W fun e w' => e = .returned (.bool false) ∧ W = w') := G7
    have B8 : ∀ W, Hid (Calls Tryz.prog 197 #[.string sw, .string ⟨#[112, 114, 111, 109, 111, 116, 101]⟩] W fun e w' => e = .returned (.bool false) ∧ W = w') := G8
    have B9 : ∀ W, Hid (Calls Tryz.prog 197 #[.string sw, .string ⟨#[101, 120, 116, 109, 117, 108]⟩] W fun e w' => e = .returned (.bool true) ∧ W = w') := G9
    clear G0 G1 G2 G3 G4 G5 G6 G7 G8 G9 HKK
    obtain ⟨j, hj⟩ : ∃ j, j = i + 8 := ⟨_, rfl⟩
    have i1 : (i : Int) + 8 = (j : Int) := by omega
    have hjc : j < 16 := by omega
    have tmv : ((j : Int).tmod 16) = (j : Int) := by rw [Int.tmod_eq_emod_of_nonneg (by omega)]; omega
    have k1 : wr.cell? ⟨g3, j, none⟩ = some (.int .u64 (F j : Nat)) := by have h := (HBW.out.cell (p := ⟨g3, 0 + j, none⟩) hgl).trans (HLL.out j (by omega)).1; rwa [Nat.zero_add] at h
    have k2 : wr.cell? ⟨g4, j, none⟩ = some (.int .u64 (G j : Nat)) := by have h := (HBW.out.cell (p := ⟨g4, 0 + j, none⟩) hgl2).trans (HMM.out j (by omega)).1; rwa [Nat.zero_add] at h
    have hri : R i = extF 8 s (F j) * extF 8 s (G j) % 18446744073709551616 := by rw [HR.out]; subst hj; rfl
    have HSN := hid (fc_snoc i R)
    have HVx := hid (show F j < 2 ^ 8 from HF.out _)
    have HVy := hid (show G j < 2 ^ 8 from HG.out _)
    cases s with
    | false =>
     simp only [ext_false] at hri
     generalize F j = ex at *
     generalize G j = ey at *
     clear HVx HVy HF HG HR HLL HMM
     have hs1 := wid_mul ex ey
     rw [← hri] at hs1
     clear hri
     clear hj
     have hwr := HBW.out.size
     go_wp2_with (first
      | (go_at_call 197; (first | (with_reducible refine (B0 _).out.mono ?_) | (with_reducible refine (B1 _).out.mono ?_) | (with_reducible refine (B2 _).out.mono ?_) | (with_reducible refine (B3 _).out.mono ?_) | (with_reducible refine (B4 _).out.mono ?_) | (with_reducible refine (B5 _).out.mono ?_) | (with_reducible refine (B6 _).out.mono ?_) | (with_reducible refine (B7 _).out.mono ?_) | (with_reducible refine (B8 _).out.mono ?_) | (with_reducible refine (B9 _).out.mono ?_)); rintro e w6 ⟨rfl, rfl⟩)
      | (at_builtin; refine append_u64 rfl _ _ rfl w4.heap.size _ _ _ (R i : Int) HOW.out hwr (by omega) rfl rfl ?_; intro v' w8 hown' hnx8 hsz8))
     rw [HSN.out] at hown'
     have HO8 := hid hown'
     have HB8 := hid (HBW.out.trans hnx8)
     clear hown' hnx8 hsz8
     go_roundw
     case rel => exact ⟨i + 1, hlt, rfl, HO8, HB8⟩
     case measure => (simp [intOf]; omega)
    | true =>
     have HSx : ∀ W, Hid (Calls Tryz.prog 143 #[.int .i64 8, .int .u64 (F j : Nat)] W fun e w' => e = .returned (.int .i64 (sg 8 (F j % 2 ^ 8))) ∧ W = w') := fun W => hid (RSigned_ok 8 (by decide) (F j) (by have := HVx.out; omega) W)
     have hzx := ext_true 8 (F j)
     have HSy : ∀ W, Hid (Calls Tryz.prog 143 #[.int .i64 8, .int .u64 (G j : Nat)] W fun e w' => e = .returned (.int .i64 (sg 8 (G j % 2 ^ 8))) ∧ W = w') := fun W => hid (RSigned_ok 8 (by decide) (G j) (by have := HVy.out; omega) W)
     have hzy := ext_true 8 (G j)
     generalize extF 8 true (F j) = ex at *
     generalize extF 8 true (G j) = ey at *
     generalize sg 8 (F j % 2 ^ 8) = zx at *
     generalize sg 8 (G j % 2 ^ 8) = zy at *
     generalize F j = ax at *
     generalize G j = ay at *
     clear HVx HVy HF HG HR HLL HMM
     have hs1 := wid_mul ex ey
     rw [← hri] at hs1
     clear hri
     clear hj
     have hwr := HBW.out.size
     go_wp2_with (first
      | (go_at_call 197; (first | (with_reducible refine (B0 _).out.mono ?_) | (with_reducible refine (B1 _).out.mono ?_) | (with_reducible refine (B2 _).out.mono ?_) | (with_reducible refine (B3 _).out.mono ?_) | (with_reducible refine (B4 _).out.mono ?_) | (with_reducible refine (B5 _).out.mono ?_) | (with_reducible refine (B6 _).out.mono ?_) | (with_reducible refine (B7 _).out.mono ?_) | (with_reducible refine (B8 _).out.mono ?_) | (with_reducible refine (B9 _).out.mono ?_)); rintro e w6 ⟨rfl, rfl⟩)
      | (go_at_call 143; (first | (with_reducible refine (HSx _).out.mono ?_) | (with_reducible refine (HSy _).out.mono ?_)); rintro e w6 ⟨rfl, rfl⟩)
      | (at_builtin; refine append_u64 rfl _ _ rfl w4.heap.size _ _ _ (R i : Int) HOW.out hwr (by omega) rfl rfl ?_; intro v' w8 hown' hnx8 hsz8))
     rw [HSN.out] at hown'
     have HO8 := hid hown'
     have HB8 := hid (HBW.out.trans hnx8)
     clear hown' hnx8 hsz8
     go_roundw
     case rel => exact ⟨i + 1, hlt, rfl, HO8, HB8⟩
     case measure => (simp [intOf]; omega)
  ·have hE : i = 8 := by omega
   subst hE
   go_wp2
   go_ret
   exact ⟨_, rfl, own_mono HOW.out HB5.out.size, HB5.out.trans (HBW.out.mono HB5.out.size)⟩
end Go.Proofs.YtlhakbkdlgejpaaGreatDoor
