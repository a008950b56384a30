/-
  LRW2x32, LWAgree: merged, what the law does not reach left out (each text says what it holds where it lies in wip). No condition.
-/
import Derived.Test.YtlhakbkdlgejpaaGreatDoorJ20
import Derived.Test.YtlhakbkdlgejpaaGreatDoorJ19
import Derived.Test.YtlhakbkdlgejpaaGreatDoorJ21
import Derived.Test.YtlhakbkdlgejpaaGreatDoorJ22
import Derived.Test.YtlhakbkdlgejpaaGreatDoorJ23
import Derived.Test.YtlhakbkdlgejpaaGreatDoorJ16
set_option linter.unusedSimpArgs false
set_option linter.unusedVariables false
set_option maxRecDepth 100000
namespace Go.Proofs.YtlhakbkdlgejpaaGreatDoor
open Go.RowKit
set_option maxHeartbeats 8000000 in
theorem roth2_32 (k : Nat) (hk : k = 2 ∨ k = 3) (s : Bool) (what sh : List UInt8) (hwl : what.length ≤ 1000) (hsrc : srcL what.length what ([], false) = (sh, s)) (hsh : biL sh = 32) (hb : begs what k = true) (alo ahi blo bhi : Nat) (anl bnl : Bool) (h1 : alo < 18446744073709551616) (h2 : ahi < 18446744073709551616) (h3 : blo < 18446744073709551616) (h4 : bhi < 18446744073709551616) (w : World) (va : Value) (ha : AR w va [(123, alo, ahi, anl), (123, blo, bhi, bnl)]) :
  Calls Tryz.prog 130 #[.int .i64 64, .string (str what), va] w (LPost w 2 (widR k 2 (fun i => extF 32 s (splitF 32 alo ahi i)) (fun i => extF 32 s (splitF 32 blo bhi i)))) := by
 obtain ⟨sw, hsw⟩ : ∃ sw, sw = str what := ⟨_, rfl⟩
 obtain ⟨ss, hss⟩ : ∃ ss, ss = str sh := ⟨_, rfl⟩
 rw [← hsw]
 unfold begs at hb
 simp only [Bool.and_eq_true, beq_iff_eq] at hb
 obtain ⟨⟨⟨⟨⟨⟨⟨⟨⟨hb0, hb1⟩, hb2⟩, hb3⟩, hb4⟩, hb5⟩, hb6⟩, hb7⟩, hb8⟩, hb9⟩ := hb
 have HSO : ∀ W, Hid (Calls Tryz.prog 128 #[.string sw] W fun e w' => e = .returned (.tuple #[.string ss, .bool s]) ∧ Below W.heap.size W w') := fun W => by rw [hsw, hss]; exact hid (source_says what hwl (sh, s) hsrc W)
 have HBI : ∀ W, Hid (Calls Tryz.prog 123 #[.string ss] W fun e w' => e = .returned (.int .i64 32) ∧ W = w') := fun W => by rw [hss, ← hsh]; exact hid (RBits_says sh W)
 have G0 : ∀ W, Hid (Calls Tryz.prog 197 #[.string sw, .string ⟨#[110, 97, 114, 114, 111, 119]⟩] W fun e w' => e = .returned (.bool (false)) ∧ W = w') := fun W => by rw [hsw, ← hb0]; exact hid (begins_says what [110, 97, 114, 114, 111, 119] hwl W)
 have G1 : ∀ W, Hid (Calls Tryz.prog 197 #[.string sw, .string ⟨#[101, 120, 116, 101, 110, 100, 95, 104, 105, 103, 104]⟩] W fun e w' => e = .returned (.bool (decide (k = 1))) ∧ W = w') := fun W => by rw [hsw, ← hb1]; exact hid (begins_says what [101, 120, 116, 101, 110, 100, 95, 104, 105, 103, 104] hwl W)
 have G2 : ∀ W, Hid (Calls Tryz.prog 197 #[.string sw, .string ⟨#[101, 120, 116, 109, 117, 108, 95, 104, 105, 103, 104]⟩] W fun e w' => e = .returned (.bool (decide (k = 3))) ∧ W = w') := fun W => by rw [hsw, ← hb2]; exact hid (begins_says what [101, 120, 116, 109, 117, 108, 95, 104, 105, 103, 104] hwl W)
 have G3 : ∀ W, Hid (Calls Tryz.prog 197 #[.string sw, .string ⟨#[101, 120, 116, 97, 100, 100]⟩] W fun e w' => e = .returned (.bool (decide (k = 4))) ∧ W = w') := fun W => by rw [hsw, ← hb3]; exact hid (begins_says what [101, 120, 116, 97, 100, 100] hwl W)
 have G4 : ∀ W, Hid (Calls Tryz.prog 197 #[.string sw, .string ⟨#[100, 111, 116]⟩] W fun e w' => e = .returned (.bool (decide (k = 5))) ∧ W = w') := fun W => by rw [hsw, ← hb4]; exact hid (begins_says what [100, 111, 116] hwl W)
 have G5 : ∀ W, Hid (Calls Tryz.prog 197 #[.string sw, .string ⟨#[116, 114, 117, 110, 99]⟩] W fun e w' => e = .returned (.bool (false)) ∧ W = w') := fun W => by rw [hsw, ← hb5]; exact hid (begins_says what [116, 114, 117, 110, 99] hwl W)
 have G6 : ∀ W, Hid (Calls Tryz.prog 197 #[.string sw, .string ⟨#[99, 111, 110, 118, 101, 114, 116]⟩] W fun e w' => e = .returned (.bool (false)) ∧ W = w') := fun W => by rw [hsw, ← hb6]; exact hid (begins_says what [99, 111, 110, 118, 101, 114, 116] hwl W)
 have G7 : ∀ W, Hid (Calls Tryz.prog 197 #[.string sw, .string ⟨#[100, 101, 109, 111, 116, 101]⟩] W fun e w' => e = .returned (.bool (false)) ∧ W = w') := fun W => by rw [hsw, ← hb7]; exact hid (begins_says what [100, 101, 109, 111, 116, 101] hwl W)
 have G8 : ∀ W, Hid (Calls Tryz.prog 197 #[.string sw, .string ⟨#[112, 114, 111, 109, 111, 116, 101]⟩] W fun e w' => e = .returned (.bool (false)) ∧ W = w') := fun W => by rw [hsw, ← hb8]; exact hid (begins_says what [112, 114, 111, 109, 111, 116, 101] hwl W)
 have G9 : ∀ W, Hid (Calls Tryz.prog 197 #[.string sw, .string ⟨#[101, 120, 116, 109, 117, 108]⟩] W fun e w' => e = .returned (.bool (decide (k = 2 ∨ k = 3))) ∧ W = w') := fun W => by rw [hsw, ← hb9]; exact hid (begins_says what [101, 120, 116, 109, 117, 108] hwl W)
 clear hsw hss hb0 hb1 hb2 hb3 hb4 hb5 hb6 hb7 hb8 hb9 hwl hsrc hsh
 have HSPA : ∀ W, Hid (Calls Tryz.prog 126 #[.int .i64 32, .agg #[.int .i64 123, .int .u64 (alo : Nat), .int .u64 (ahi : Nat), .bool anl]] W (LPost W 4 (splitF 32 alo ahi))) := fun W => hid (RSplit_says 32 (by decide) 123 alo ahi anl h1 h2 W)
 have HSPB : ∀ W, Hid (Calls Tryz.prog 126 #[.int .i64 32, .agg #[.int .i64 123, .int .u64 (blo : Nat), .int .u64 (bhi : Nat), .bool bnl]] W (LPost W 4 (splitF 32 blo bhi))) := fun W => hid (RSplit_says 32 (by decide) 123 blo bhi bnl h3 h4 W)
 have HF : Hid (∀ i, splitF 32 alo ahi i < 2 ^ 32) := hid (fun i => splitF_lt _ _ _ _)
 have HG : Hid (∀ i, splitF 32 blo bhi i < 2 ^ 32) := hid (fun i => splitF_lt _ _ _ _)
 generalize splitF 32 alo ahi = F at *
 generalize splitF 32 blo bhi = G at *
 obtain ⟨R, hR⟩ : ∃ R : Nat → Nat, R = widR k 2 (fun i => extF 32 s (F i)) (fun i => extF 32 s (G i)) := ⟨_, rfl⟩
 rw [← hR]
 have HR := hid hR
 clear hR h1 h2 h3 h4
 obtain ⟨ga, ca, rfl, hga, hca, hata⟩ := ha
 obtain ⟨a0, a1, a2, a3⟩ := hata 0 (123, alo, ahi, anl) rfl
 obtain ⟨b0, b1, b2, b3⟩ := hata 1 (123, blo, bhi, bnl) rfl
 simp only [Nat.zero_mul, Nat.zero_add, Nat.one_mul] at a0 a1 a2 a3 b0 b1 b2 b3
 simp only [List.length_cons, List.length_nil] at hca ⊢
 have HAA := hid (And.intro a0 (And.intro a1 (And.intro a2 (And.intro a3 (And.intro b0 (And.intro b1 (And.intro b2 b3)))))))
 have HGA := hid hga
 have HKK := hid hk
 clear hata a0 a1 a2 a3 b0 b1 b2 b3 hk
 go_enter Tryz.func130, Tryz.ntmps130
 go_upto_region 3 with (first
  | (go_at_call 128; (with_reducible refine (HSO _).out.mono ?_); rintro e w1 ⟨rfl, hb1⟩; have HB1 := hid hb1; clear hb1)
  | (go_at_call 123; (with_reducible refine (HBI _).out.mono ?_); rintro e w2 ⟨rfl, rfl⟩))
 obtain ⟨x0, x1, x2, x3, y0, y1, y2, y3⟩ := HAA.out
 have z0 := (HB1.out.cell (p := ⟨ga, 0, none⟩) hga).trans x0
 have z1 := (HB1.out.cell (p := ⟨ga, 1, none⟩) hga).trans x1
 have z2 := (HB1.out.cell (p := ⟨ga, 2, none⟩) hga).trans x2
 have z3 := (HB1.out.cell (p := ⟨ga, 3, none⟩) hga).trans x3
 clear x0 x1 x2 x3 y0 y1 y2 y3
 go_upto_region 6 with (go_at_call 126; (with_reducible refine (HSPA _).out.mono ?_); rintro e w3 ⟨v3, rfl, ho3, hb3⟩; have HO3 := hid ho3; have HB3 := hid (HB1.out.trans (hb3.mono HB1.out.size)); have HN3 := hid hb3; clear ho3 hb3)
 obtain ⟨x0, x1, x2, x3, y0, y1, y2, y3⟩ := HAA.out
 clear x0 x1 x2 x3 z0 z1 z2 z3 HAA
 have z0 := (HB3.out.cell (p := ⟨ga, 4, none⟩) hga).trans y0
 have z1 := (HB3.out.cell (p := ⟨ga, 5, none⟩) hga).trans y1
 have z2 := (HB3.out.cell (p := ⟨ga, 6, none⟩) hga).trans y2
 have z3 := (HB3.out.cell (p := ⟨ga, 7, none⟩) hga).trans y3
 clear y0 y1 y2 y3
 go_upto_region 7 with (go_at_call 126; (with_reducible refine (HSPB _).out.mono ?_); rintro e w4 ⟨v4, rfl, ho4, hb4⟩; have HO4 := hid ho4; have HO34 := hid (own_below HO3.out hb4 (Nat.le_refl _)); have HB4 := hid (HB3.out.trans (hb4.mono HB3.out.size)); clear ho4 hb4)
 obtain ⟨g3, cap3, rfl⟩ := owned_at HO34.out (by decide)
 obtain ⟨g4, cap4, rfl⟩ := owned_at HO4.out (by decide)
 have HL5 : Hid (RowAt w4 (.slice (some ⟨g3, 0, none⟩) 4 cap3) 4 F) := RowAt.of_own HO34.out (by decide)
 have HM5 : Hid (RowAt w4 (.slice (some ⟨g4, 0, none⟩) 4 cap4) 4 G) := RowAt.of_own HO4.out (by decide)
 clear HO3 HO34 HO4 HN3 HB3 z0 z1 z2 z3
 have HB5 := HB4
 clear HB1
 have HB1 := HB4
 clear HB4
 have B0 : ∀ W, Hid (Calls Tryz.prog 197 #[.string sw, .string ⟨#[110, 97, 114, 114, 111, 119]⟩] W fun e w' => e = .returned (.bool false) ∧ W = w') := G0
 go_upto_region 11 with (go_at_call 197; (with_reducible refine (B0 _).out.mono ?_); rintro e w5 ⟨rfl, rfl⟩)
 clear HSO HBI HSPA HSPB hga hca
 obtain ⟨gl, ol, cl, e1, hgl, hcl, hatl⟩ := HL5.out
 injection e1 with e1 _ _
 injection e1 with e1
 injection e1 with e1 e2
 subst e1; subst e2
 have HLL := hid hatl
 obtain ⟨gl2, ol2, cl2, e1, hgl2, hcl2, hatl2⟩ := HM5.out
 injection e1 with e1 _ _
 injection e1 with e1
 injection e1 with e1 e2
 subst e1; subst e2
 have HMM := hid hatl2
 clear hatl2 HM5
 clear hatl HL5
 go_wp2_with fail
 go_loopw [12, 14] (fun vo vi wr => ∃ i : Nat, i ≤ 2 ∧ vi = .int .i64 i ∧ Hid (wr.ownsRow w4.heap.size 22 1 vo i (fc i R)) ∧ Hid (Below w4.heap.size w4 wr)) (fun _ vi _ => 2 - (intOf vi).toNat)
 case atStart => exact ⟨0, Nat.zero_le _, rfl, World.ownsRow_nil _ _ _ _, Below.refl _ _⟩
 case round =>
  obtain ⟨i, hin, rfl, HOW, HBW⟩ := hrel
  by_cases hlt : i < 2
  ·rcases HKK.out with rfl | rfl
   ·have B1 : ∀ W, Hid (Calls Tryz.prog 197 #[.string sw, .string ⟨#[101, 120, 116, 101, 110, 100, 95, 104, 105, 103, 104]⟩] W fun e w' => e = .returned (.bool false) ∧ W = w') := G1
    have B2 : ∀ W, Hid (Calls Tryz.prog 197 #[.string sw, .string ⟨#[101, 120, 116, 109, 117, 108, 95, 104, 105, 103, 104]⟩] W fun e w' => e = .returned (.bool false) ∧ W = w') := G2
    have B3 : ∀ W, Hid (Calls Tryz.prog 197 #[.string sw, .string ⟨#[101, 120, 116, 97, 100, 100]⟩] W fun e w' => e = .returned (.bool false) ∧ W = w') := G3
    have B4 : ∀ W, Hid (Calls Tryz.prog 197 #[.string sw, .string ⟨#[100, 111, 116]⟩] W fun e w' => e = .returned (.bool false) ∧ W = w') := G4
    have B5 : ∀ W, Hid (Calls Tryz.prog 197 #[.string sw, .string ⟨#[116, 114, 117, 110, 99]⟩] W fun e w' => e = .returned (.bool false) ∧ W = w') := G5
    have B6 : ∀ W, Hid (Calls Tryz.prog 197 #[.string sw, .string ⟨#[99, 111, 110, 118, 101, 114, 116]⟩] W fun e w' => e = .returned (.bool false) ∧ W = w') := G6
    have B7 : ∀ W, Hid (Calls Tryz.prog 197 #[.string sw, .string ⟨#[100, 101, 109, 111, 116, 101]⟩] W fun e w' => e = .returned (.bool false) ∧ W = w') := G7
    have B8 : ∀ W, Hid (Calls Tryz.prog 197 #[.string sw, .string ⟨#[112, 114, 111, 109, 111, 116, 101]⟩] W fun e w' => e = .returned (.bool false) ∧ W = w') := G8
    have B9 : ∀ W, Hid (Calls Tryz.prog 197 #[.string sw, .string ⟨#[101, 120, 116, 109, 117, 108]⟩] W fun e w' => e = .returned (.bool true) ∧ W = w') := G9
    clear G0 G1 G2 G3 G4 G5 G6 G7 G8 G9 HKK
    have hjc : i < 4 := by omega
    have tmv : ((i : Int).tmod 4) = (i : Int) := by rw [Int.tmod_eq_emod_of_nonneg (by omega)]; omega
    have k1 : wr.cell? ⟨g3, i, none⟩ = some (.int .u64 (F i : Nat)) := by have h := (HBW.out.cell (p := ⟨g3, 0 + i, none⟩) hgl).trans (HLL.out i (by omega)).1; rwa [Nat.zero_add] at h
    have k2 : wr.cell? ⟨g4, i, none⟩ = some (.int .u64 (G i : Nat)) := by have h := (HBW.out.cell (p := ⟨g4, 0 + i, none⟩) hgl2).trans (HMM.out i (by omega)).1; rwa [Nat.zero_add] at h
    have hri : R i = extF 32 s (F i) * extF 32 s (G i) % 18446744073709551616 := by rw [HR.out]; rfl
    have HSN := hid (fc_snoc i R)
    have HVx := hid (show F i < 2 ^ 32 from HF.out _)
    have HVy := hid (show G i < 2 ^ 32 from HG.out _)
    cases s with
    | false =>
     simp only [ext_false] at hri
     generalize F i = ex at *
     generalize G i = ey at *
     clear HVx HVy HF HG HR HLL HMM
     have hs1 := wid_mul ex ey
     rw [← hri] at hs1
     clear hri
     have hwr := HBW.out.size
     go_wp2_with (first
      | (go_at_call 197; (first | (with_reducible refine (B0 _).out.mono ?_) | (with_reducible refine (B1 _).out.mono ?_) | (with_reducible refine (B2 _).out.mono ?_) | (with_reducible refine (B3 _).out.mono ?_) | (with_reducible refine (B4 _).out.mono ?_) | (with_reducible refine (B5 _).out.mono ?_) | (with_reducible refine (B6 _).out.mono ?_) | (with_reducible refine (B7 _).out.mono ?_) | (with_reducible refine (B8 _).out.mono ?_) | (with_reducible refine (B9 _).out.mono ?_)); rintro e w6 ⟨rfl, rfl⟩)
      | (at_builtin; refine append_u64 rfl _ _ rfl w4.heap.size _ _ _ (R i : Int) HOW.out hwr (by omega) rfl rfl ?_; intro v' w8 hown' hnx8 hsz8))
     rw [HSN.out] at hown'
     have HO8 := hid hown'
     have HB8 := hid (HBW.out.trans hnx8)
     clear hown' hnx8 hsz8
     go_roundw
     case rel => exact ⟨i + 1, hlt, rfl, HO8, HB8⟩
     case measure => (simp [intOf]; omega)
    | true =>
     have HSx : ∀ W, Hid (Calls Tryz.prog 143 #[.int .i64 32, .int .u64 (F i : Nat)] W fun e w' => e = .returned (.int .i64 (sg 32 (F i % 2 ^ 32))) ∧ W = w') := fun W => hid (RSigned_ok 32 (by decide) (F i) (by have := HVx.out; omega) W)
     have hzx := ext_true 32 (F i)
     have HSy : ∀ W, Hid (Calls Tryz.prog 143 #[.int .i64 32, .int .u64 (G i : Nat)] W fun e w' => e = .returned (.int .i64 (sg 32 (G i % 2 ^ 32))) ∧ W = w') := fun W => hid (RSigned_ok 32 (by decide) (G i) (by have := HVy.out; omega) W)
     have hzy := ext_true 32 (G i)
     generalize extF 32 true (F i) = ex at *
     generalize extF 32 true (G i) = ey at *
     generalize sg 32 (F i % 2 ^ 32) = zx at *
     generalize sg 32 (G i % 2 ^ 32) = zy at *
     generalize F i = ax at *
     generalize G i = ay at *
     clear HVx HVy HF HG HR HLL HMM
     have hs1 := wid_mul ex ey
     rw [← hri] at hs1
     clear hri
     have hwr := HBW.out.size
     go_wp2_with (first
      | (go_at_call 197; (first | (with_reducible refine (B0 _).out.mono ?_) | (with_reducible refine (B1 _).out.mono ?_) | (with_reducible refine (B2 _).out.mono ?_) | (with_reducible refine (B3 _).out.mono ?_) | (with_reducible refine (B4 _).out.mono ?_) | (with_reducible refine (B5 _).out.mono ?_) | (with_reducible refine (B6 _).out.mono ?_) | (with_reducible refine (B7 _).out.mono ?_) | (with_reducible refine (B8 _).out.mono ?_) | (with_reducible refine (B9 _).out.mono ?_)); rintro e w6 ⟨rfl, rfl⟩)
      | (go_at_call 143; (first | (with_reducible refine (HSx _).out.mono ?_) | (with_reducible refine (HSy _).out.mono ?_)); rintro e w6 ⟨rfl, rfl⟩)
      | (at_builtin; refine append_u64 rfl _ _ rfl w4.heap.size _ _ _ (R i : Int) HOW.out hwr (by omega) rfl rfl ?_; intro v' w8 hown' hnx8 hsz8))
     rw [HSN.out] at hown'
     have HO8 := hid hown'
     have HB8 := hid (HBW.out.trans hnx8)
     clear hown' hnx8 hsz8
     go_roundw
     case rel => exact ⟨i + 1, hlt, rfl, HO8, HB8⟩
     case measure => (simp [intOf]; omega)
   ·have B1 : ∀ W, Hid (Calls Tryz.prog 197 #[.string sw, .string ⟨#[101, 120, 116, 101, 110, 100, 95, 104, 105, 103, 104]⟩] W fun e w' => e = .returned (.bool false) ∧ W = w') := G1
    have B2 : ∀ W, Hid (Calls Tryz.prog 197 #[.string sw, .string ⟨#[101, 120, 116, 109, 117, 108, 95, 104, 105, 103, 104]⟩] W fun e w' => e = .returned (.bool true) ∧ W = w') := G2
    have B3 : ∀ W, Hid (Calls Tryz.prog 197 #[.string sw, .string ⟨#[101, 120, 116, 97, 100, 100]⟩] W fun e w' => e = .returned (.bool false) ∧ W = w') := G3
    have B4 : ∀ W, Hid (Calls Tryz.prog 197 #[.string sw, .string ⟨#[100, 111, 116]⟩] W fun e w' => e = .returned (.bool false) ∧ W = w') := G4
    have B5 : ∀ W, Hid (Calls Tryz.prog 197 #[.string sw, .string ⟨#[116, 114, 117, 110, 99]⟩] W fun e w' => e = .returned (.bool false) ∧ W = w') := G5
    have B6 : ∀ W, Hid (Calls Tryz.prog 197 #[.string sw, .string ⟨#[99, 111, 110, 118, 101, 114, 116]⟩] W fun e w' => e = .returned (.bool false) ∧ W = w') := G6
    have B7 : ∀ W, Hid (Calls Tryz.prog 197 #[.string sw, .string ⟨#[100, 101, 109, 111, 116, 101]⟩] W fun e w' => e = .returned (.bool false) ∧ W = w') := G7
    have B8 : ∀ W, Hid (Calls Tryz.prog 197 #[.string sw, .string ⟨#[112, 114, 111, 109, 111, 116, 101]⟩] W fun e w' => e = .returned (.bool false) ∧ W = w') := G8
    have B9 : ∀ W, Hid (Calls Tryz.prog 197 #[.string sw, .string ⟨#[101, 120, 116, 109, 117, 108]⟩] W fun e w' => e = .returned (.bool true) ∧ W = w') := G9
    clear G0 G1 G2 G3 G4 G5 G6 G7 G8 G9 HKK
    obtain ⟨j, hj⟩ : ∃ j, j = i + 2 := ⟨_, rfl⟩
    have i1 : (i : Int) + 2 = (j : Int) := by omega
    have hjc : j < 4 := by omega
    have tmv : ((j : Int).tmod 4) = (j : Int) := by rw [Int.tmod_eq_emod_of_nonneg (by omega)]; omega
    have k1 : wr.cell? ⟨g3, j, none⟩ = some (.int .u64 (F j : Nat)) := by have h := (HBW.out.cell (p := ⟨g3, 0 + j, none⟩) hgl).trans (HLL.out j (by omega)).1; rwa [Nat.zero_add] at h
    have k2 : wr.cell? ⟨g4, j, none⟩ = some (.int .u64 (G j : Nat)) := by have h := (HBW.out.cell (p := ⟨g4, 0 + j, none⟩) hgl2).trans (HMM.out j (by omega)).1; rwa [Nat.zero_add] at h
    have hri : R i = extF 32 s (F j) * extF 32 s (G j) % 18446744073709551616 := by rw [HR.out]; subst hj; rfl
    have HSN := hid (fc_snoc i R)
    have HVx := hid (show F j < 2 ^ 32 from HF.out _)
    have HVy := hid (show G j < 2 ^ 32 from HG.out _)
    cases s with
    | false =>
     simp only [ext_false] at hri
     generalize F j = ex at *
     generalize G j = ey at *
     clear HVx HVy HF HG HR HLL HMM
     have hs1 := wid_mul ex ey
     rw [← hri] at hs1
     clear hri
     clear hj
     have hwr := HBW.out.size
     go_wp2_with (first
      | (go_at_call 197; (first | (with_reducible refine (B0 _).out.mono ?_) | (with_reducible refine (B1 _).out.mono ?_) | (with_reducible refine (B2 _).out.mono ?_) | (with_reducible refine (B3 _).out.mono ?_) | (with_reducible refine (B4 _).out.mono ?_) | (with_reducible refine (B5 _).out.mono ?_) | (with_reducible refine (B6 _).out.mono ?_) | (with_reducible refine (B7 _).out.mono ?_) | (with_reducible refine (B8 _).out.mono ?_) | (with_reducible refine (B9 _).out.mono ?_)); rintro e w6 ⟨rfl, rfl⟩)
      | (at_builtin; refine append_u64 rfl _ _ rfl w4.heap.size _ _ _ (R i : Int) HOW.out hwr (by omega) rfl rfl ?_; intro v' w8 hown' hnx8 hsz8))
     rw [HSN.out] at hown'
     have HO8 := hid hown'
     have HB8 := hid (HBW.out.trans hnx8)
     clear hown' hnx8 hsz8
     go_roundw
     case rel => exact ⟨i + 1, hlt, rfl, HO8, HB8⟩
     case measure => (simp [intOf]; omega)
    | true =>
     have HSx : ∀ W, Hid (Calls Tryz.prog 143 #[.int .i64 32, .int .u64 (F j : Nat)] W fun e w' => e = .returned (.int .i64 (sg 32 (F j % 2 ^ 32))) ∧ W = w') := fun W => hid (RSigned_ok 32 (by decide) (F j) (by have := HVx.out; omega) W)
     have hzx := ext_true 32 (F j)
     have HSy : ∀ W, Hid (Calls Tryz.prog 143 #[.int .i64 32, .int .u64 (G j : Nat)] W fun e w' => e = .returned (.int .i64 (sg 32 (G j % 2 ^ 32))) ∧ W = w') := fun W => hid (RSigned_ok 32 (by decide) (G j) (by have := HVy.out; omega) W)
     have hzy := ext_true 32 (G j)
     generalize extF 32 true (F j) = ex at *
     generalize extF 32 true (G j) = ey at *
     generalize sg 32 (F j % 2 ^ 32) = zx at *
     generalize sg 32 (G j % 2 ^ 32) = zy at *
     generalize F j = ax at *
     generalize G j = ay at *
     clear HVx HVy HF HG HR HLL HMM
     have hs1 := wid_mul ex ey
     rw [← hri] at hs1
     clear hri
     clear hj
     have hwr := HBW.out.size
     go_wp2_with (first
      | (go_at_call 197; (first | (with_reducible refine (B0 _).out.mono ?_) | (with_reducible refine (B1 _).out.mono ?_) | (with_reducible refine (B2 _).out.mono ?_) | (with_reducible refine (B3 _).out.mono ?_) | (with_reducible refine (B4 _).out.mono ?_) | (with_reducible refine (B5 _).out.mono ?_) | (with_reducible refine (B6 _).out.mono ?_) | (with_reducible refine (B7 _).out.mono ?_) | (with_reducible refine (B8 _).out.mono ?_) | (with_reducible refine (B9 _).out.mono ?_)); rintro e w6 ⟨rfl, rfl⟩)
      | (go_at_call 143; (first | (with_reducible refine (HSx _).out.mono ?_) | (with_reducible refine (HSy _).out.mono ?_)); rintro e w6 ⟨rfl, rfl⟩)
      | (at_builtin; refine append_u64 rfl _ _ rfl w4.heap.size _ _ _ (R i : Int) HOW.out hwr (by omega) rfl rfl ?_; intro v' w8 hown' hnx8 hsz8))
     rw [HSN.out] at hown'
     have HO8 := hid hown'
     have HB8 := hid (HBW.out.trans hnx8)
     clear hown' hnx8 hsz8
     go_roundw
     case rel => exact ⟨i + 1, hlt, rfl, HO8, HB8⟩
     case measure => (simp [intOf]; omega)
  ·have hE : i = 2 := by omega
   subst hE
   go_wp2
   go_ret
   exact ⟨_, rfl, own_mono HOW.out HB5.out.size, HB5.out.trans (HBW.out.mono HB5.out.size)⟩
end Go.Proofs.YtlhakbkdlgejpaaGreatDoor
namespace Go.Proofs.YtlhakbkdlgejpaaGreatDoor
open Go.RowKit
noncomputable def chkW1 (op : Int) (k fr : Nat) (s : Bool) : Bool :=
 knB (lineL op) && decide (64768 ≤ op) && decide (op < 65024) && ((lineL op).2.1 == 0) && (laL op == [123]) && (lbL op == [123]) && decide ((nmL op).length ≤ 1000) && decide (0 ≤ laL6 (nmL op)) && (verbL (nmL op) == widN k) && ((fromL (nmL op)).2 == (fr : Int)) && ((toL (nmL op)).2 == ((2 * fr : Nat) : Int)) && (sgL (nmL op) == s) &&
 decide (0 ≤ (ofL op).1) && ((ofL op).2.1 == nmL op) && ((ofL op).2.2.1 == 0) && decide ((ofL op).2.2.2.1.length ≤ 100) && decide ((ofL op).2.2.2.2.1.length ≤ 100) && (tyL (ofL op).2.2.2.1 == [123]) && (tyL (ofL op).2.2.2.2.1 == [123]) && (biL (headC (nmL op) 46) == ((2 * fr : Nat) : Int))
/-- What is asked of the verb alone. -/
def txtW1 (what shf : List UInt8) (k fr : Nat) (s : Bool) : Bool :=
 ((what == [115, 112, 108, 97, 116]) == false) && ((what == [115, 119, 105, 122, 122, 108, 101]) == false) && ((what == [97, 108, 108, 95, 116, 114, 117, 101]) == false) && ((what == [98, 105, 116, 109, 97, 115, 107]) == false) && decide (what.length ≤ 1000) && (srcL what.length what ([], false) == (shf, s)) && ((shf == []) == false) && (biL shf == (fr : Int)) && begs what k && (decide (k = 0) || decide (k = 1) || (decide (k = 4) && decide (fr < 32)))
noncomputable def chkW2 (op : Int) (k fr : Nat) (s : Bool) : Bool :=
 knB (lineL op) && decide (64768 ≤ op) && decide (op < 65024) && ((lineL op).2.1 == 0) && (laL op == [123, 123]) && (lbL op == [123]) && decide ((nmL op).length ≤ 1000) && decide (0 ≤ laL6 (nmL op)) && (verbL (nmL op) == widN k) && ((fromL (nmL op)).2 == (fr : Int)) && ((toL (nmL op)).2 == ((2 * fr : Nat) : Int)) && (sgL (nmL op) == s) &&
 decide (0 ≤ (ofL op).1) && ((ofL op).2.1 == nmL op) && ((ofL op).2.2.1 == 0) && decide ((ofL op).2.2.2.1.length ≤ 100) && decide ((ofL op).2.2.2.2.1.length ≤ 100) && (tyL (ofL op).2.2.2.1 == [123, 123]) && (tyL (ofL op).2.2.2.2.1 == [123]) && (biL (headC (nmL op) 46) == ((2 * fr : Nat) : Int))
/-- What is asked of the verb alone. -/
def txtW2 (what shf : List UInt8) (k fr : Nat) (s : Bool) : Bool :=
 ((what == [115, 112, 108, 97, 116]) == false) && ((what == [115, 119, 105, 122, 122, 108, 101]) == false) && ((what == [97, 108, 108, 95, 116, 114, 117, 101]) == false) && ((what == [98, 105, 116, 109, 97, 115, 107]) == false) && decide (what.length ≤ 1000) && (srcL what.length what ([], false) == (shf, s)) && ((shf == []) == false) && (biL shf == (fr : Int)) && begs what k && (decide (k = 2) || decide (k = 3) || (decide (k = 5) && decide (fr = 16) && s))
structure PWA (op ro : Int) (nm tk lv : List UInt8) (fx : Bool) (tys : List Int) : Prop where
 lo : 64768 ≤ op
 hi : op < 65024
 of : ofL op = (ro, nm, 0, tk, lv, fx)
 tk1 : tk.length ≤ 100
 tk2 : tyL tk = tys
set_option maxHeartbeats 4000000 in
theorem wid_one1 (op : Int) (k fr : Nat) (s : Bool) (what shf : List UInt8) (h : chkW1 op k fr s = true) (hwh : tailC (nmL op) 46 = what) (ht : txtW1 what shf k fr s = true) (hfr : fr = 8 ∨ fr = 16 ∨ fr = 32)
  (alo ahi : Nat) (anl : Bool) (h1 : alo < 18446744073709551616) (h2 : ahi < 18446744073709551616) (w : World) (hg : Glob w) :
  (∃ ro tk lv fx, PWA op ro (nmL op) tk lv fx [123]) ∧ ∃ lo hi, (∀ W va, Below w.heap.size w W → AR W va [(123, alo, ahi, anl)] → Calls Tryz.prog 20 #[.int .i64 op, .slice none 0 0, va] W fun e w' => e = .returned (.tuple #[vv 123 lo hi false, .int .i64 0]) ∧ Below W.heap.size W w') ∧
   (∀ W va, Below w.heap.size w W → AR W va [(123, alo, ahi, anl)] → Calls Tryz.prog 38 #[.int .i64 op, .slice none 0 0, va] W fun e w' => e = .returned (.tuple #[vv 123 lo hi false, .int .i64 0]) ∧ Below W.heap.size W w') := by
 unfold chkW1 at h
 unfold txtW1 at ht
 have e1 : (lineL op).1 = str (nmL op) := (list_str _).symm
 generalize nmL op = nm at *
 obtain ⟨⟨ro, nm', im, tk, lv, fx⟩, hr⟩ : ∃ r, ofL op = r := ⟨_, rfl⟩
 rw [hr] at h
 simp only [Bool.and_eq_true, Bool.or_eq_true, decide_eq_true_eq, beq_iff_eq] at h ht
 obtain ⟨⟨⟨⟨⟨⟨⟨⟨⟨⟨⟨⟨⟨⟨⟨⟨⟨⟨⟨a1, a2⟩, a3⟩, a4⟩, a5⟩, a6⟩, a7⟩, a8⟩, a9⟩, b1⟩, b2⟩, b3⟩, b4⟩, b5⟩, b6⟩, b7⟩, b8⟩, b9⟩, c1⟩, c4⟩ := h
 obtain ⟨⟨⟨⟨⟨⟨⟨⟨⟨hw0, hw1⟩, hw2⟩, hw3⟩, hwl⟩, hsrc⟩, hne⟩, hsh⟩, hbe⟩, hkk⟩ := ht
 subst b5
 subst b6
 have hnt : Okn (2 * fr) := by rcases hfr with rfl | rfl | rfl <;> decide
 have hnf : Okn fr := by rcases hfr with rfl | rfl | rfl <;> decide
 have hff : (fr = 8 ∧ 2 * fr = 16) ∨ (fr = 16 ∧ 2 * fr = 32) ∨ (fr = 32 ∧ 2 * fr = 64) := by omega
 have hpar : parV nm' = insV (widN k) (fromL nm').1 fr (toL nm').1 ((2 * fr : Nat) : Int) s := by
  unfold parV
  rw [a9, b1, b2, b3]
 refine ⟨⟨ro, tk, lv, fx, a2, a3, hr, b7, b9⟩, _, _, fun W va hb ha => Do_wid1 op nm' k fr (2 * fr) (by omega) hff (fromL nm').1 (toL nm').1 s e1 hpar a7 (fun _ => a8) a2 a1 a4 a5 a6 alo ahi anl h1 h2 W (hg.next hb) va ha, fun W va hb ha => ?_⟩
 refine RDo_vec op a2 ro nm' tk lv fx hr b4 b7 b8 c1 [(123, alo, ahi, anl)] b9 (by simp) (by simp) va W ha _ _ fun W' hb' => ?_
 refine RDone_oth (ro, nm', 0, tk, lv, fx) _ what rfl hwh a7 (2 * fr) hnt c4 rfl rfl hw0 hw1 hw2 hw3 (shf, s) hsrc hne (.slice none 0 0) va _ alo ahi anl rfl h1 h2 W' (ha.call hb') _ (fun i _ => widF_lt k fr (cnt (2 * fr)) hnf s alo ahi _ _ i)
  (fun W2 hb2 => ?_)
 have haa := (ha.call hb').call hb2
 rcases hfr with rfl | rfl | rfl
 ·exact roth1_8 k (by omega) s what shf hwl hsrc hsh hbe alo ahi anl h1 h2 W2 va haa
 ·exact roth1_16 k (by omega) s what shf hwl hsrc hsh hbe alo ahi anl h1 h2 W2 va haa
 ·exact roth1_32 k (by omega) s what shf hwl hsrc hsh hbe alo ahi anl h1 h2 W2 va haa
set_option maxHeartbeats 4000000 in
theorem wid_one2 (op : Int) (k fr : Nat) (s : Bool) (what shf : List UInt8) (h : chkW2 op k fr s = true) (hwh : tailC (nmL op) 46 = what) (ht : txtW2 what shf k fr s = true) (hfr : fr = 8 ∨ fr = 16 ∨ fr = 32)
  (alo ahi blo bhi : Nat) (anl bnl : Bool) (h1 : alo < 18446744073709551616) (h2 : ahi < 18446744073709551616) (h3 : blo < 18446744073709551616) (h4 : bhi < 18446744073709551616) (w : World) (hg : Glob w) :
  (∃ ro tk lv fx, PWA op ro (nmL op) tk lv fx [123, 123]) ∧ ∃ lo hi, (∀ W va, Below w.heap.size w W → AR W va [(123, alo, ahi, anl), (123, blo, bhi, bnl)] → Calls Tryz.prog 20 #[.int .i64 op, .slice none 0 0, va] W fun e w' => e = .returned (.tuple #[vv 123 lo hi false, .int .i64 0]) ∧ Below W.heap.size W w') ∧
   (∀ W va, Below w.heap.size w W → AR W va [(123, alo, ahi, anl), (123, blo, bhi, bnl)] → Calls Tryz.prog 38 #[.int .i64 op, .slice none 0 0, va] W fun e w' => e = .returned (.tuple #[vv 123 lo hi false, .int .i64 0]) ∧ Below W.heap.size W w') := by
 unfold chkW2 at h
 unfold txtW2 at ht
 have e1 : (lineL op).1 = str (nmL op) := (list_str _).symm
 generalize nmL op = nm at *
 obtain ⟨⟨ro, nm', im, tk, lv, fx⟩, hr⟩ : ∃ r, ofL op = r := ⟨_, rfl⟩
 rw [hr] at h
 simp only [Bool.and_eq_true, Bool.or_eq_true, decide_eq_true_eq, beq_iff_eq] at h ht
 obtain ⟨⟨⟨⟨⟨⟨⟨⟨⟨⟨⟨⟨⟨⟨⟨⟨⟨⟨⟨a1, a2⟩, a3⟩, a4⟩, a5⟩, a6⟩, a7⟩, a8⟩, a9⟩, b1⟩, b2⟩, b3⟩, b4⟩, b5⟩, b6⟩, b7⟩, b8⟩, b9⟩, c1⟩, c4⟩ := h
 obtain ⟨⟨⟨⟨⟨⟨⟨⟨⟨hw0, hw1⟩, hw2⟩, hw3⟩, hwl⟩, hsrc⟩, hne⟩, hsh⟩, hbe⟩, hkk⟩ := ht
 subst b5
 subst b6
 have hnt : Okn (2 * fr) := by rcases hfr with rfl | rfl | rfl <;> decide
 have hnf : Okn fr := by rcases hfr with rfl | rfl | rfl <;> decide
 have hff : (fr = 8 ∧ 2 * fr = 16) ∨ (fr = 16 ∧ 2 * fr = 32) ∨ (fr = 32 ∧ 2 * fr = 64) := by omega
 have hpar : parV nm' = insV (widN k) (fromL nm').1 fr (toL nm').1 ((2 * fr : Nat) : Int) s := by
  unfold parV
  rw [a9, b1, b2, b3]
 refine ⟨⟨ro, tk, lv, fx, a2, a3, hr, b7, b9⟩, _, _, fun W va hb ha => Do_wid2 op nm' k fr (2 * fr) (by omega) hff (fromL nm').1 (toL nm').1 s e1 hpar a7 (fun _ => a8) a2 a1 a4 a5 a6 alo ahi blo bhi anl bnl h1 h2 h3 h4 W (hg.next hb) va ha, fun W va hb ha => ?_⟩
 refine RDo_vec op a2 ro nm' tk lv fx hr b4 b7 b8 c1 [(123, alo, ahi, anl), (123, blo, bhi, bnl)] b9 (by simp) (by simp) va W ha _ _ fun W' hb' => ?_
 refine RDone_oth (ro, nm', 0, tk, lv, fx) _ what rfl hwh a7 (2 * fr) hnt c4 rfl rfl hw0 hw1 hw2 hw3 (shf, s) hsrc hne (.slice none 0 0) va _ alo ahi anl rfl h1 h2 W' (ha.call hb') _ (fun i _ => widF_lt k fr (cnt (2 * fr)) hnf s alo ahi _ _ i)
  (fun W2 hb2 => ?_)
 have haa := (ha.call hb').call hb2
 rcases hfr with rfl | rfl | rfl
 ·exact roth2_8 k (by omega) s what shf hwl hsrc hsh hbe alo ahi blo bhi anl bnl h1 h2 h3 h4 W2 va haa
 ·exact roth2_16 k (by omega) s what shf hwl hsrc hsh hbe (fun e => by rcases hkk with (h | h) | h <;> first | omega | exact h.2) alo ahi blo bhi anl bnl h1 h2 h3 h4 W2 va haa
 ·exact roth2_32 k (by omega) s what shf hwl hsrc hsh hbe alo ahi blo bhi anl bnl h1 h2 h3 h4 W2 va haa
/-- Each instruction's number, what it does, the bits of its lanes, and whether they have signs. -/
def wtab1 : List (Int × Nat × Nat × Bool) := [(124, 4, 8, true), (125, 4, 8, false), (126, 4, 16, true), (127, 4, 16, false), (135, 0, 8, true), (136, 1, 8, true), (137, 0, 8, false), (138, 1, 8, false), (167, 0, 16, true), (168, 1, 16, true), (169, 0, 16, false), (170, 1, 16, false), (199, 0, 32, true), (200, 1, 32, true), (201, 0, 32, false), (202, 1, 32, false)]
def LWidens : List Int := [124, 125, 126, 127, 135, 136, 137, 138, 167, 168, 169, 170, 199, 200, 201, 202]
noncomputable def chkWA1 (op : Int) : Bool := wtab1.any fun p => (op == 64768 + p.1) && chkW1 op p.2.1 p.2.2.1 p.2.2.2 && txtW1 (tailC (nmL op) 46) (srcL (tailC (nmL op) 46).length (tailC (nmL op) 46) ([], false)).1 p.2.1 p.2.2.1 p.2.2.2 && (p.2.2.1 == 8 || p.2.2.1 == 16 || p.2.2.1 == 32)
theorem wid_all1 : (LWidens.all fun x => chkWA1 (64768 + x)) = true := by kernel_rfl
theorem agree_wid1 (op : Int) (h : chkWA1 op = true) (alo ahi : Nat) (anl : Bool) (h1 : alo < 18446744073709551616) (h2 : ahi < 18446744073709551616) (w : World) (hg : Glob w) :
  (∃ ro tk lv fx, PWA op ro (nmL op) tk lv fx [123]) ∧ ∃ lo hi, (∀ W va, Below w.heap.size w W → AR W va [(123, alo, ahi, anl)] → Calls Tryz.prog 20 #[.int .i64 op, .slice none 0 0, va] W fun e w' => e = .returned (.tuple #[vv 123 lo hi false, .int .i64 0]) ∧ Below W.heap.size W w') ∧
   (∀ W va, Below w.heap.size w W → AR W va [(123, alo, ahi, anl)] → Calls Tryz.prog 38 #[.int .i64 op, .slice none 0 0, va] W fun e w' => e = .returned (.tuple #[vv 123 lo hi false, .int .i64 0]) ∧ Below W.heap.size W w') := by
 unfold chkWA1 at h
 obtain ⟨p, _, hp⟩ := List.any_eq_true.1 h
 simp only [Bool.and_eq_true, Bool.or_eq_true, beq_iff_eq] at hp
 obtain ⟨⟨⟨_, h1'⟩, h2'⟩, h3'⟩ := hp
 exact wid_one1 op p.2.1 p.2.2.1 p.2.2.2 _ _ h1' rfl h2' (by omega) alo ahi anl h1 h2 w hg
/-- Each instruction's number, what it does, the bits of its lanes, and whether they have signs. -/
def wtab2 : List (Int × Nat × Nat × Bool) := [(156, 2, 8, true), (157, 3, 8, true), (158, 2, 8, false), (159, 3, 8, false), (188, 2, 16, true), (189, 3, 16, true), (190, 2, 16, false), (191, 3, 16, false), (220, 2, 32, true), (221, 3, 32, true), (222, 2, 32, false), (223, 3, 32, false), (186, 5, 16, true)]
def LProducts : List Int := [156, 157, 158, 159, 188, 189, 190, 191, 220, 221, 222, 223, 186]
noncomputable def chkWA2 (op : Int) : Bool := wtab2.any fun p => (op == 64768 + p.1) && chkW2 op p.2.1 p.2.2.1 p.2.2.2 && txtW2 (tailC (nmL op) 46) (srcL (tailC (nmL op) 46).length (tailC (nmL op) 46) ([], false)).1 p.2.1 p.2.2.1 p.2.2.2 && (p.2.2.1 == 8 || p.2.2.1 == 16 || p.2.2.1 == 32)
theorem wid_all2 : (LProducts.all fun x => chkWA2 (64768 + x)) = true := by kernel_rfl
theorem agree_wid2 (op : Int) (h : chkWA2 op = true) (alo ahi blo bhi : Nat) (anl bnl : Bool) (h1 : alo < 18446744073709551616) (h2 : ahi < 18446744073709551616) (h3 : blo < 18446744073709551616) (h4 : bhi < 18446744073709551616) (w : World) (hg : Glob w) :
  (∃ ro tk lv fx, PWA op ro (nmL op) tk lv fx [123, 123]) ∧ ∃ lo hi, (∀ W va, Below w.heap.size w W → AR W va [(123, alo, ahi, anl), (123, blo, bhi, bnl)] → Calls Tryz.prog 20 #[.int .i64 op, .slice none 0 0, va] W fun e w' => e = .returned (.tuple #[vv 123 lo hi false, .int .i64 0]) ∧ Below W.heap.size W w') ∧
   (∀ W va, Below w.heap.size w W → AR W va [(123, alo, ahi, anl), (123, blo, bhi, bnl)] → Calls Tryz.prog 38 #[.int .i64 op, .slice none 0 0, va] W fun e w' => e = .returned (.tuple #[vv 123 lo hi false, .int .i64 0]) ∧ Below W.heap.size W w') := by
 unfold chkWA2 at h
 obtain ⟨p, _, hp⟩ := List.any_eq_true.1 h
 simp only [Bool.and_eq_true, Bool.or_eq_true, beq_iff_eq] at hp
 obtain ⟨⟨⟨_, h1'⟩, h2'⟩, h3'⟩ := hp
 exact wid_one2 op p.2.1 p.2.2.1 p.2.2.2 _ _ h1' rfl h2' (by omega) alo ahi blo bhi anl bnl h1 h2 h3 h4 w hg
end Go.Proofs.YtlhakbkdlgejpaaGreatDoor
