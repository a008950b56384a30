/-
  LRNar: merged, what the law does not reach left out (each text says what it holds where it lies in wip). No condition.
-/
import Derived.Test.YtlhakbkdlgejpaaGreatDoorG16
import Derived.Test.YtlhakbkdlgejpaaGreatDoorG18
import Derived.Test.YtlhakbkdlgejpaaGreatDoorG13
import Derived.Test.YtlhakbkdlgejpaaGreatDoorG15
set_option linter.unusedSimpArgs false
set_option linter.unusedVariables false
set_option maxRecDepth 100000
namespace Go.Proofs.YtlhakbkdlgejpaaGreatDoor
open Go.RowKit
set_option maxHeartbeats 4000000 in
theorem held_8_s (x : Int) (h0 : -2147483648 ≤ x) (h1 : x ≤ 2147483647) (w : World) : Calls Tryz.prog 198 #[.int .i64 x, .int .i64 8, .bool true] w fun e w' => e = .returned (.int .u64 (toN 64 (clampZ x (-128) 127) : Nat)) ∧ w = w' := by
 have HO : ∀ W, Hid (Calls Tryz.prog 81 #[.int .i64 8, .int .u64 18446744073709551615] W fun e w' => e = .returned (.int .u64 255) ∧ W = w') := fun W => hid (ones_cut 8 (by decide) W)
 have HV := hid (u64_toN (clampZ x (-128) 127))
 have k1 : IntKind.i64.wrap 255 = 255 := rfl
 go_enter Tryz.func198, Tryz.ntmps198
 go_wp2_with (go_at_call 81; (with_reducible refine (HO _).out.mono ?_); rintro e w' ⟨rfl, rfl⟩)
 all_goals (go_ret; refine ⟨ret_int ?_, rfl⟩; (try rw [IntKind.wrap_u64]); unfold toN clampZ; omega)
set_option maxHeartbeats 4000000 in
theorem held_8_u (x : Int) (h0 : -2147483648 ≤ x) (h1 : x ≤ 2147483647) (w : World) : Calls Tryz.prog 198 #[.int .i64 x, .int .i64 8, .bool false] w fun e w' => e = .returned (.int .u64 (toN 64 (clampZ x (0) 255) : Nat)) ∧ w = w' := by
 have HO : ∀ W, Hid (Calls Tryz.prog 81 #[.int .i64 8, .int .u64 18446744073709551615] W fun e w' => e = .returned (.int .u64 255) ∧ W = w') := fun W => hid (ones_cut 8 (by decide) W)
 have HV := hid (clamp_nat x 255 (by omega) (by omega))
 have k1 : IntKind.i64.wrap 255 = 255 := rfl
 go_enter Tryz.func198, Tryz.ntmps198
 go_wp2_with (go_at_call 81; (with_reducible refine (HO _).out.mono ?_); rintro e w' ⟨rfl, rfl⟩)
 all_goals (go_ret; refine ⟨ret_int ?_, rfl⟩; (try rw [IntKind.wrap_u64]); unfold toN clampZ; omega)
set_option maxHeartbeats 4000000 in
theorem held_16_s (x : Int) (h0 : -2147483648 ≤ x) (h1 : x ≤ 2147483647) (w : World) : Calls Tryz.prog 198 #[.int .i64 x, .int .i64 16, .bool true] w fun e w' => e = .returned (.int .u64 (toN 64 (clampZ x (-32768) 32767) : Nat)) ∧ w = w' := by
 have HO : ∀ W, Hid (Calls Tryz.prog 81 #[.int .i64 16, .int .u64 18446744073709551615] W fun e w' => e = .returned (.int .u64 65535) ∧ W = w') := fun W => hid (ones_cut 16 (by decide) W)
 have HV := hid (u64_toN (clampZ x (-32768) 32767))
 have k1 : IntKind.i64.wrap 65535 = 65535 := rfl
 go_enter Tryz.func198, Tryz.ntmps198
 go_wp2_with (go_at_call 81; (with_reducible refine (HO _).out.mono ?_); rintro e w' ⟨rfl, rfl⟩)
 all_goals (go_ret; refine ⟨ret_int ?_, rfl⟩; (try rw [IntKind.wrap_u64]); unfold toN clampZ; omega)
set_option maxHeartbeats 4000000 in
theorem held_16_u (x : Int) (h0 : -2147483648 ≤ x) (h1 : x ≤ 2147483647) (w : World) : Calls Tryz.prog 198 #[.int .i64 x, .int .i64 16, .bool false] w fun e w' => e = .returned (.int .u64 (toN 64 (clampZ x (0) 65535) : Nat)) ∧ w = w' := by
 have HO : ∀ W, Hid (Calls Tryz.prog 81 #[.int .i64 16, .int .u64 18446744073709551615] W fun e w' => e = .returned (.int .u64 65535) ∧ W = w') := fun W => hid (ones_cut 16 (by decide) W)
 have HV := hid (clamp_nat x 65535 (by omega) (by omega))
 have k1 : IntKind.i64.wrap 65535 = 65535 := rfl
 go_enter Tryz.func198, Tryz.ntmps198
 go_wp2_with (go_at_call 81; (with_reducible refine (HO _).out.mono ?_); rintro e w' ⟨rfl, rfl⟩)
 all_goals (go_ret; refine ⟨ret_int ?_, rfl⟩; (try rw [IntKind.wrap_u64]); unfold toN clampZ; omega)
set_option maxHeartbeats 4000000 in
theorem rnar_8_s (alo ahi blo bhi : Nat) (anl bnl : Bool) (h1 : alo < 18446744073709551616) (h2 : ahi < 18446744073709551616) (h3 : blo < 18446744073709551616) (h4 : bhi < 18446744073709551616) (w : World) (va : Value) (ha : AR w va [(123, alo, ahi, anl), (123, blo, bhi, bnl)]) :
  Calls Tryz.prog 130 #[.int .i64 8, .string (str [110, 97, 114, 114, 111, 119, 95, 105, 49, 54, 120, 56, 95, 115]), va] w (LPost w 16 (narF 16 8 true alo ahi blo bhi)) := by
 obtain ⟨i0, hi0, hz0, hz1, hz2⟩ := info_parts info22
 obtain ⟨sw, hsw⟩ : ∃ sw, sw = str [110, 97, 114, 114, 111, 119, 95, 105, 49, 54, 120, 56, 95, 115] := ⟨_, rfl⟩
 rw [← hsw]
 obtain ⟨sh, hsh⟩ : ∃ sh, sh = str [105, 49, 54, 120, 56] := ⟨_, rfl⟩
 have HSO : ∀ W, Hid (Calls Tryz.prog 128 #[.string sw] W fun e w' => e = .returned (.tuple #[.string sh, .bool true]) ∧ Below W.heap.size W w') := fun W => by rw [hsw, hsh]; exact hid (source_says [110, 97, 114, 114, 111, 119, 95, 105, 49, 54, 120, 56, 95, 115] (by decide) ([105, 49, 54, 120, 56], true) (by decide) W)
 have HBI : ∀ W, Hid (Calls Tryz.prog 123 #[.string sh] W fun e w' => e = .returned (.int .i64 16) ∧ W = w') := fun W => by rw [hsh]; exact hid (RBits_says [105, 49, 54, 120, 56] W)
 have B0 : ∀ W, Hid (Calls Tryz.prog 197 #[.string sw, .string ⟨#[110, 97, 114, 114, 111, 119]⟩] W fun e w' => e = .returned (.bool true) ∧ W = w') := fun W => by rw [hsw]; exact hid (begins_says [110, 97, 114, 114, 111, 119, 95, 105, 49, 54, 120, 56, 95, 115] [110, 97, 114, 114, 111, 119] (by decide) W)
 have B1 : ∀ W, Hid (Calls Tryz.prog 197 #[.string sw, .string ⟨#[101, 120, 116, 101, 110, 100, 95, 104, 105, 103, 104]⟩] W fun e w' => e = .returned (.bool false) ∧ W = w') := fun W => by rw [hsw]; exact hid (begins_says [110, 97, 114, 114, 111, 119, 95, 105, 49, 54, 120, 56, 95, 115] [101, 120, 116, 101, 110, 100, 95, 104, 105, 103, 104] (by decide) W)
 have B2 : ∀ W, Hid (Calls Tryz.prog 197 #[.string sw, .string ⟨#[101, 120, 116, 109, 117, 108, 95, 104, 105, 103, 104]⟩] W fun e w' => e = .returned (.bool false) ∧ W = w') := fun W => by rw [hsw]; exact hid (begins_says [110, 97, 114, 114, 111, 119, 95, 105, 49, 54, 120, 56, 95, 115] [101, 120, 116, 109, 117, 108, 95, 104, 105, 103, 104] (by decide) W)
 have B3 : ∀ W, Hid (Calls Tryz.prog 197 #[.string sw, .string ⟨#[101, 120, 116, 97, 100, 100]⟩] W fun e w' => e = .returned (.bool false) ∧ W = w') := fun W => by rw [hsw]; exact hid (begins_says [110, 97, 114, 114, 111, 119, 95, 105, 49, 54, 120, 56, 95, 115] [101, 120, 116, 97, 100, 100] (by decide) W)
 have B4 : ∀ W, Hid (Calls Tryz.prog 197 #[.string sw, .string ⟨#[100, 111, 116]⟩] W fun e w' => e = .returned (.bool false) ∧ W = w') := fun W => by rw [hsw]; exact hid (begins_says [110, 97, 114, 114, 111, 119, 95, 105, 49, 54, 120, 56, 95, 115] [100, 111, 116] (by decide) W)
 clear hsw hsh
 have hcf : cnt 16 = 8 := by decide
 have HSPA : ∀ W, Hid (Calls Tryz.prog 126 #[.int .i64 16, .agg #[.int .i64 123, .int .u64 (alo : Nat), .int .u64 (ahi : Nat), .bool anl]] W (LPost W 8 (splitF 16 alo ahi))) := fun W => hid (RSplit_says 16 (by decide) 123 alo ahi anl h1 h2 W)
 have HSPB : ∀ W, Hid (Calls Tryz.prog 126 #[.int .i64 16, .agg #[.int .i64 123, .int .u64 (blo : Nat), .int .u64 (bhi : Nat), .bool bnl]] W (LPost W 8 (splitF 16 blo bhi))) := fun W => hid (RSplit_says 16 (by decide) 123 blo bhi bnl h3 h4 W)
 obtain ⟨R, hR⟩ : ∃ R : Nat → Nat, R = narF 16 8 true alo ahi blo bhi := ⟨_, rfl⟩
 rw [← hR]
 have HF : Hid (∀ i, splitF 16 alo ahi i < 2 ^ 16) := hid (fun i => splitF_lt _ _ _ _)
 have HG : Hid (∀ i, splitF 16 blo bhi i < 2 ^ 16) := hid (fun i => splitF_lt _ _ _ _)
 have HR : Hid (∀ i, R i = toN 64 (clampZ (sg 16 ((if i < 8 then splitF 16 alo ahi i else splitF 16 blo bhi (i - 8)) % 2 ^ 16)) (-128) 127)) := hid (fun i => by rw [hR]; unfold narF; rw [hcf]; rfl)
 have HAP := hid (fc_append 8 8 (splitF 16 alo ahi) (splitF 16 blo bhi))
 clear hR hcf h1 h2 h3 h4
 obtain ⟨F, hFe⟩ : ∃ F, F = splitF 16 alo ahi := ⟨_, rfl⟩
 obtain ⟨G, hGe⟩ : ∃ G, G = splitF 16 blo bhi := ⟨_, rfl⟩
 rw [← hFe] at HSPA HF HR HAP
 rw [← hGe] at HSPB HG HR HAP
 clear hFe hGe
 obtain ⟨ga, ca, rfl, hga, hca, hata⟩ := ha
 obtain ⟨a0, a1, a2, a3⟩ := hata 0 (123, alo, ahi, anl) rfl
 obtain ⟨b0, b1, b2, b3⟩ := hata 1 (123, blo, bhi, bnl) rfl
 simp only [Nat.zero_mul, Nat.zero_add, Nat.one_mul] at a0 a1 a2 a3 b0 b1 b2 b3
 simp only [List.length_cons, List.length_nil] at hca ⊢
 have HAA := hid (And.intro a0 (And.intro a1 (And.intro a2 (And.intro a3 (And.intro b0 (And.intro b1 (And.intro b2 b3)))))))
 clear hata a0 a1 a2 a3 b0 b1 b2 b3
 go_enter Tryz.func130, Tryz.ntmps130
 go_upto_region 3 with (first
  | (go_at_call 128; (with_reducible refine (HSO _).out.mono ?_); rintro e w1 ⟨rfl, hb1⟩; have HB1 := hid hb1; clear hb1)
  | (go_at_call 123; (with_reducible refine (HBI _).out.mono ?_); rintro e w2 ⟨rfl, rfl⟩))
 obtain ⟨x0, x1, x2, x3, y0, y1, y2, y3⟩ := HAA.out
 have z0 := (HB1.out.cell (p := ⟨ga, 0, none⟩) hga).trans x0
 have z1 := (HB1.out.cell (p := ⟨ga, 1, none⟩) hga).trans x1
 have z2 := (HB1.out.cell (p := ⟨ga, 2, none⟩) hga).trans x2
 have z3 := (HB1.out.cell (p := ⟨ga, 3, none⟩) hga).trans x3
 clear x0 x1 x2 x3 y0 y1 y2 y3
 go_upto_region 6 with (go_at_call 126; (with_reducible refine (HSPA _).out.mono ?_); rintro e w3 ⟨v3, rfl, ho3, hb3⟩; have HO3 := hid ho3; have HB3 := hid (HB1.out.trans (hb3.mono HB1.out.size)); have HN3 := hid hb3; clear ho3 hb3)
 obtain ⟨x0, x1, x2, x3, y0, y1, y2, y3⟩ := HAA.out
 clear x0 x1 x2 x3 z0 z1 z2 z3 HAA
 have z0 := (HB3.out.cell (p := ⟨ga, 4, none⟩) hga).trans y0
 have z1 := (HB3.out.cell (p := ⟨ga, 5, none⟩) hga).trans y1
 have z2 := (HB3.out.cell (p := ⟨ga, 6, none⟩) hga).trans y2
 have z3 := (HB3.out.cell (p := ⟨ga, 7, none⟩) hga).trans y3
 clear y0 y1 y2 y3
 go_upto_region 10 with (first
  | (go_at_call 126; (with_reducible refine (HSPB _).out.mono ?_); rintro e w4 ⟨v4, rfl, ho4, hb4⟩; have HO4 := hid ho4; have HO34 := hid (own_below HO3.out hb4 (Nat.le_refl _)); have HB4 := hid (HB3.out.trans (hb4.mono HB3.out.size)); have HN4 := hid hb4; clear ho4 hb4)
  | (go_at_call 197; (first | (with_reducible refine (B0 _).out.mono ?_) | (with_reducible refine (B1 _).out.mono ?_) | (with_reducible refine (B2 _).out.mono ?_) | (with_reducible refine (B3 _).out.mono ?_) | (with_reducible refine (B4 _).out.mono ?_)); rintro e w5 ⟨rfl, rfl⟩))
 obtain ⟨g3, cap3, rfl⟩ := owned_at HO34.out (by decide)
 obtain ⟨g4, cap4, rfl⟩ := owned_at HO4.out (by decide)
 have HNW := hid (show ∀ j u, (fc 8 G)[j]? = some u → w4.cell? ((⟨g4, 0, none⟩ : Addr).add j) = some u by
  intro j u hj
  have hjc : j < 8 := by have := (List.getElem?_eq_some_iff.1 hj).1; rw [fc_length] at this; exact this
  rw [add_plain, Nat.zero_add, HO4.out.cellAt j (by omega), hj])
 have HLB := hid (Nat.le_trans HB1.out.size (Nat.le_trans HN3.out.size HN4.out.size))
 have HO35 := hid (own_mono HO34.out HB1.out.size)
 have hg34 : g3 ≠ g4 := by
  have e1 := (HO3.out.lt g3 rfl).2
  have e2 := (HO4.out.lt g4 rfl).1
  omega
 have hg4l := (HO4.out.lt g4 rfl).2
 have HO4b := hid (fun j (hj : j < 8) => (HO4.out.cellAt j (by omega)).trans (fc_get hj))
 clear HO3 HO34 HO4 HN3 HN4 HB3 HB1 z0 z1 z2 z3
 go_wp2_with (refine wpList_append_own _ rfl (.tmp 45) (.tmp 46) 40 rfl w.heap.size 22 i0 (.int .u64 0) 1 8 Tryz.underlying40 hi0 hz0 hz1 hz2 rfl (by decide) (.slice (some ⟨g3, 0, none⟩) 8 cap3) 8 (fc 8 F) rfl HO35.out ⟨g4, 0, none⟩ 8 cap4 (fc 8 G) rfl (by rw [fc_length]) HNW.out (fc_one 8 G) (by unfold maxLen; omega) (by omega) HLB.out ?_; intro v5 w5 ho5 hg5 _; have HO5 := hid ho5; have HG5 := hid hg5; clear ho5 hg5)
 have ho5 := HO5.out
 rw [HAP.out] at ho5
 have HL5 : Hid (RowAt w5 v5 16 (fun i => if i < 8 then F i else G (i - 8))) := RowAt.of_own ho5 (by decide)
 have HM5 := hid (show ∀ j, j < 8 → w5.cell? ⟨g4, j, none⟩ = some (.int .u64 (G j : Nat)) by
  intro j hj
  rw [World.cell?_of_block (w := w4) (HG5.out.block g4 hg4l (fun e => hg34 (Option.some.inj e).symm))]
  exact HO4b.out j hj)
 have HB5 := hid (HB4.out.grown HG5.out HLB.out (fun k hk => (HO35.out.lt k hk).1))
 have hg45 : g4 < w5.heap.size := Nat.lt_of_lt_of_le hg4l HG5.out.size
 clear ho5 HO5 HG5 HB4 HO35 HNW HLB HO4b hg34 hg4l HAP hga hca HSO HBI HSPA HSPB
 obtain ⟨gl, ol, cl, rfl, hgl, hcl, hatl⟩ := HL5.out
 have HLL := hid hatl
 clear hatl HL5
 go_loopw [12, 14] (fun vo vi wr => ∃ i : Nat, i ≤ 16 ∧ vi = .int .i64 i ∧ Hid (wr.ownsRow w5.heap.size 22 1 vo i (fc i R)) ∧ Hid (Below w5.heap.size w5 wr)) (fun _ vi _ => 16 - (intOf vi).toNat)
 case atStart => exact ⟨0, Nat.zero_le _, rfl, World.ownsRow_nil _ _ _ _, Below.refl _ _⟩
 case round =>
  obtain ⟨i, hin, rfl, HOW, HBW⟩ := hrel
  by_cases hlt : i < 16
  ·have k1 : wr.cell? ⟨gl, ol + i, none⟩ = some (.int .u64 ((if i < 8 then F i else G (i - 8)) : Nat)) := (HBW.out.cell (p := ⟨gl, ol + i, none⟩) hgl).trans (HLL.out i hlt).1
   have hm8 : i % 8 < 8 := Nat.mod_lt _ (by decide)
   have k2 := (HBW.out.cell (p := ⟨g4, i % 8, none⟩) hg45).trans (HM5.out (i % 8) hm8)
   have hxb : (if i < 8 then F i else G (i - 8)) < 2 ^ 16 := by split; exact HF.out _; exact HG.out _
   have hri := HR.out i
   have tmv : ((i : Int).tmod 8) = ((i % 8 : Nat) : Int) := by rw [Int.tmod_eq_emod_of_nonneg (by omega)]; rfl
   generalize (if i < 8 then F i else G (i - 8)) = x at *
   have HSN := hid (fc_snoc i R)
   have HSG : ∀ W, Hid (Calls Tryz.prog 143 #[.int .i64 16, .int .u64 (x : Nat)] W fun e w' => e = .returned (.int .i64 (sg 16 (x % 2 ^ 16))) ∧ W = w') := fun W => hid (RSigned_ok 16 (by decide) x (by omega) W)
   have HHE := fun W => hid (held_8_s (sg 16 (x % 2 ^ 16)) (sgn_range (.inl rfl) x).1 (sgn_range (.inl rfl) x).2 W)
   generalize sg 16 (x % 2 ^ 16) = z at *
   rw [← hri] at HHE
   have HXB := hid hxb
   clear HF HG HR hri hxb HLL HM5
   go_upto_region 24 with (go_at_call 197; (first | (with_reducible refine (B0 _).out.mono ?_) | (with_reducible refine (B1 _).out.mono ?_) | (with_reducible refine (B2 _).out.mono ?_) | (with_reducible refine (B3 _).out.mono ?_) | (with_reducible refine (B4 _).out.mono ?_)); rintro e w6 ⟨rfl, rfl⟩)
   have hwr := HBW.out.size
   clear k1 k2 tmv B0 B1 B2 B3 B4
   go_wp2_with (first
    | (go_at_call 143; (with_reducible refine (HSG _).out.mono ?_); rintro e w6 ⟨rfl, rfl⟩)
    | (go_at_call 198; (with_reducible refine (HHE _).out.mono ?_); rintro e w7 ⟨rfl, rfl⟩)
    | (at_builtin; refine append_u64 rfl _ _ rfl w5.heap.size _ _ _ (R i : Int) HOW.out hwr (by omega) rfl rfl ?_; intro v' w8 hown' hnx8 hsz8))
   rw [HSN.out] at hown'
   have HO8 := hid hown'
   have HB8 := hid (HBW.out.trans hnx8)
   clear hown' hnx8 hsz8
   go_roundw
   case rel => exact ⟨i + 1, hlt, rfl, HO8, HB8⟩
   case measure => (simp [intOf]; omega)
  ·have hE : i = 16 := by omega
   subst hE
   go_wp2
   go_ret
   exact ⟨_, rfl, own_mono HOW.out HB5.out.size, HB5.out.trans (HBW.out.mono HB5.out.size)⟩
set_option maxHeartbeats 4000000 in
theorem rnar_8_u (alo ahi blo bhi : Nat) (anl bnl : Bool) (h1 : alo < 18446744073709551616) (h2 : ahi < 18446744073709551616) (h3 : blo < 18446744073709551616) (h4 : bhi < 18446744073709551616) (w : World) (va : Value) (ha : AR w va [(123, alo, ahi, anl), (123, blo, bhi, bnl)]) :
  Calls Tryz.prog 130 #[.int .i64 8, .string (str [110, 97, 114, 114, 111, 119, 95, 105, 49, 54, 120, 56, 95, 117]), va] w (LPost w 16 (narF 16 8 false alo ahi blo bhi)) := by
 obtain ⟨i0, hi0, hz0, hz1, hz2⟩ := info_parts info22
 obtain ⟨sw, hsw⟩ : ∃ sw, sw = str [110, 97, 114, 114, 111, 119, 95, 105, 49, 54, 120, 56, 95, 117] := ⟨_, rfl⟩
 rw [← hsw]
 obtain ⟨sh, hsh⟩ : ∃ sh, sh = str [105, 49, 54, 120, 56] := ⟨_, rfl⟩
 have HSO : ∀ W, Hid (Calls Tryz.prog 128 #[.string sw] W fun e w' => e = .returned (.tuple #[.string sh, .bool false]) ∧ Below W.heap.size W w') := fun W => by rw [hsw, hsh]; exact hid (source_says [110, 97, 114, 114, 111, 119, 95, 105, 49, 54, 120, 56, 95, 117] (by decide) ([105, 49, 54, 120, 56], false) (by decide) W)
 have HBI : ∀ W, Hid (Calls Tryz.prog 123 #[.string sh] W fun e w' => e = .returned (.int .i64 16) ∧ W = w') := fun W => by rw [hsh]; exact hid (RBits_says [105, 49, 54, 120, 56] W)
 have B0 : ∀ W, Hid (Calls Tryz.prog 197 #[.string sw, .string ⟨#[110, 97, 114, 114, 111, 119]⟩] W fun e w' => e = .returned (.bool true) ∧ W = w') := fun W => by rw [hsw]; exact hid (begins_says [110, 97, 114, 114, 111, 119, 95, 105, 49, 54, 120, 56, 95, 117] [110, 97, 114, 114, 111, 119] (by decide) W)
 have B1 : ∀ W, Hid (Calls Tryz.prog 197 #[.string sw, .string ⟨#[101, 120, 116, 101, 110, 100, 95, 104, 105, 103, 104]⟩] W fun e w' => e = .returned (.bool false) ∧ W = w') := fun W => by rw [hsw]; exact hid (begins_says [110, 97, 114, 114, 111, 119, 95, 105, 49, 54, 120, 56, 95, 117] [101, 120, 116, 101, 110, 100, 95, 104, 105, 103, 104] (by decide) W)
 have B2 : ∀ W, Hid (Calls Tryz.prog 197 #[.string sw, .string ⟨#[101, 120, 116, 109, 117, 108, 95, 104, 105, 103, 104]⟩] W fun e w' => e = .returned (.bool false) ∧ W = w') := fun W => by rw [hsw]; exact hid (begins_says [110, 97, 114, 114, 111, 119, 95, 105, 49, 54, 120, 56, 95, 117] [101, 120, 116, 109, 117, 108, 95, 104, 105, 103, 104] (by decide) W)
 have B3 : ∀ W, Hid (Calls Tryz.prog 197 #[.string sw, .string ⟨#[101, 120, 116, 97, 100, 100]⟩] W fun e w' => e = .returned (.bool false) ∧ W = w') := fun W => by rw [hsw]; exact hid (begins_says [110, 97, 114, 114, 111, 119, 95, 105, 49, 54, 120, 56, 95, 117] [101, 120, 116, 97, 100, 100] (by decide) W)
 have B4 : ∀ W, Hid (Calls Tryz.prog 197 #[.string sw, .string ⟨#[100, 111, 116]⟩] W fun e w' => e = .returned (.bool false) ∧ W = w') := fun W => by rw [hsw]; exact hid (begins_says [110, 97, 114, 114, 111, 119, 95, 105, 49, 54, 120, 56, 95, 117] [100, 111, 116] (by decide) W)
 clear hsw hsh
 have hcf : cnt 16 = 8 := by decide
 have HSPA : ∀ W, Hid (Calls Tryz.prog 126 #[.int .i64 16, .agg #[.int .i64 123, .int .u64 (alo : Nat), .int .u64 (ahi : Nat), .bool anl]] W (LPost W 8 (splitF 16 alo ahi))) := fun W => hid (RSplit_says 16 (by decide) 123 alo ahi anl h1 h2 W)
 have HSPB : ∀ W, Hid (Calls Tryz.prog 126 #[.int .i64 16, .agg #[.int .i64 123, .int .u64 (blo : Nat), .int .u64 (bhi : Nat), .bool bnl]] W (LPost W 8 (splitF 16 blo bhi))) := fun W => hid (RSplit_says 16 (by decide) 123 blo bhi bnl h3 h4 W)
 obtain ⟨R, hR⟩ : ∃ R : Nat → Nat, R = narF 16 8 false alo ahi blo bhi := ⟨_, rfl⟩
 rw [← hR]
 have HF : Hid (∀ i, splitF 16 alo ahi i < 2 ^ 16) := hid (fun i => splitF_lt _ _ _ _)
 have HG : Hid (∀ i, splitF 16 blo bhi i < 2 ^ 16) := hid (fun i => splitF_lt _ _ _ _)
 have HR : Hid (∀ i, R i = toN 64 (clampZ (sg 16 ((if i < 8 then splitF 16 alo ahi i else splitF 16 blo bhi (i - 8)) % 2 ^ 16)) (0) 255)) := hid (fun i => by rw [hR]; unfold narF; rw [hcf]; rfl)
 have HAP := hid (fc_append 8 8 (splitF 16 alo ahi) (splitF 16 blo bhi))
 clear hR hcf h1 h2 h3 h4
 obtain ⟨F, hFe⟩ : ∃ F, F = splitF 16 alo ahi := ⟨_, rfl⟩
 obtain ⟨G, hGe⟩ : ∃ G, G = splitF 16 blo bhi := ⟨_, rfl⟩
 rw [← hFe] at HSPA HF HR HAP
 rw [← hGe] at HSPB HG HR HAP
 clear hFe hGe
 obtain ⟨ga, ca, rfl, hga, hca, hata⟩ := ha
 obtain ⟨a0, a1, a2, a3⟩ := hata 0 (123, alo, ahi, anl) rfl
 obtain ⟨b0, b1, b2, b3⟩ := hata 1 (123, blo, bhi, bnl) rfl
 simp only [Nat.zero_mul, Nat.zero_add, Nat.one_mul] at a0 a1 a2 a3 b0 b1 b2 b3
 simp only [List.length_cons, List.length_nil] at hca ⊢
 have HAA := hid (And.intro a0 (And.intro a1 (And.intro a2 (And.intro a3 (And.intro b0 (And.intro b1 (And.intro b2 b3)))))))
 clear hata a0 a1 a2 a3 b0 b1 b2 b3
 go_enter Tryz.func130, Tryz.ntmps130
 go_upto_region 3 with (first
  | (go_at_call 128; (with_reducible refine (HSO _).out.mono ?_); rintro e w1 ⟨rfl, hb1⟩; have HB1 := hid hb1; clear hb1)
  | (go_at_call 123; (with_reducible refine (HBI _).out.mono ?_); rintro e w2 ⟨rfl, rfl⟩))
 obtain ⟨x0, x1, x2, x3, y0, y1, y2, y3⟩ := HAA.out
 have z0 := (HB1.out.cell (p := ⟨ga, 0, none⟩) hga).trans x0
 have z1 := (HB1.out.cell (p := ⟨ga, 1, none⟩) hga).trans x1
 have z2 := (HB1.out.cell (p := ⟨ga, 2, none⟩) hga).trans x2
 have z3 := (HB1.out.cell (p := ⟨ga, 3, none⟩) hga).trans x3
 clear x0 x1 x2 x3 y0 y1 y2 y3
 go_upto_region 6 with (go_at_call 126; (with_reducible refine (HSPA _).out.mono ?_); rintro e w3 ⟨v3, rfl, ho3, hb3⟩; have HO3 := hid ho3; have HB3 := hid (HB1.out.trans (hb3.mono HB1.out.size)); have HN3 := hid hb3; clear ho3 hb3)
 obtain ⟨x0, x1, x2, x3, y0, y1, y2, y3⟩ := HAA.out
 clear x0 x1 x2 x3 z0 z1 z2 z3 HAA
 have z0 := (HB3.out.cell (p := ⟨ga, 4, none⟩) hga).trans y0
 have z1 := (HB3.out.cell (p := ⟨ga, 5, none⟩) hga).trans y1
 have z2 := (HB3.out.cell (p := ⟨ga, 6, none⟩) hga).trans y2
 have z3 := (HB3.out.cell (p := ⟨ga, 7, none⟩) hga).trans y3
 clear y0 y1 y2 y3
 go_upto_region 10 with (first
  | (go_at_call 126; (with_reducible refine (HSPB _).out.mono ?_); rintro e w4 ⟨v4, rfl, ho4, hb4⟩; have HO4 := hid ho4; have HO34 := hid (own_below HO3.out hb4 (Nat.le_refl _)); have HB4 := hid (HB3.out.trans (hb4.mono HB3.out.size)); have HN4 := hid hb4; clear ho4 hb4)
  | (go_at_call 197; (first | (with_reducible refine (B0 _).out.mono ?_) | (with_reducible refine (B1 _).out.mono ?_) | (with_reducible refine (B2 _).out.mono ?_) | (with_reducible refine (B3 _).out.mono ?_) | (with_reducible refine (B4 _).out.mono ?_)); rintro e w5 ⟨rfl, rfl⟩))
 obtain ⟨g3, cap3, rfl⟩ := owned_at HO34.out (by decide)
 obtain ⟨g4, cap4, rfl⟩ := owned_at HO4.out (by decide)
 have HNW := hid (show ∀ j u, (fc 8 G)[j]? = some u → w4.cell? ((⟨g4, 0, none⟩ : Addr).add j) = some u by
  intro j u hj
  have hjc : j < 8 := by have := (List.getElem?_eq_some_iff.1 hj).1; rw [fc_length] at this; exact this
  rw [add_plain, Nat.zero_add, HO4.out.cellAt j (by omega), hj])
 have HLB := hid (Nat.le_trans HB1.out.size (Nat.le_trans HN3.out.size HN4.out.size))
 have HO35 := hid (own_mono HO34.out HB1.out.size)
 have hg34 : g3 ≠ g4 := by
  have e1 := (HO3.out.lt g3 rfl).2
  have e2 := (HO4.out.lt g4 rfl).1
  omega
 have hg4l := (HO4.out.lt g4 rfl).2
 have HO4b := hid (fun j (hj : j < 8) => (HO4.out.cellAt j (by omega)).trans (fc_get hj))
 clear HO3 HO34 HO4 HN3 HN4 HB3 HB1 z0 z1 z2 z3
 go_wp2_with (refine wpList_append_own _ rfl (.tmp 45) (.tmp 46) 40 rfl w.heap.size 22 i0 (.int .u64 0) 1 8 Tryz.underlying40 hi0 hz0 hz1 hz2 rfl (by decide) (.slice (some ⟨g3, 0, none⟩) 8 cap3) 8 (fc 8 F) rfl HO35.out ⟨g4, 0, none⟩ 8 cap4 (fc 8 G) rfl (by rw [fc_length]) HNW.out (fc_one 8 G) (by unfold maxLen; omega) (by omega) HLB.out ?_; intro v5 w5 ho5 hg5 _; have HO5 := hid ho5; have HG5 := hid hg5; clear ho5 hg5)
 have ho5 := HO5.out
 rw [HAP.out] at ho5
 have HL5 : Hid (RowAt w5 v5 16 (fun i => if i < 8 then F i else G (i - 8))) := RowAt.of_own ho5 (by decide)
 have HM5 := hid (show ∀ j, j < 8 → w5.cell? ⟨g4, j, none⟩ = some (.int .u64 (G j : Nat)) by
  intro j hj
  rw [World.cell?_of_block (w := w4) (HG5.out.block g4 hg4l (fun e => hg34 (Option.some.inj e).symm))]
  exact HO4b.out j hj)
 have HB5 := hid (HB4.out.grown HG5.out HLB.out (fun k hk => (HO35.out.lt k hk).1))
 have hg45 : g4 < w5.heap.size := Nat.lt_of_lt_of_le hg4l HG5.out.size
 clear ho5 HO5 HG5 HB4 HO35 HNW HLB HO4b hg34 hg4l HAP hga hca HSO HBI HSPA HSPB
 obtain ⟨gl, ol, cl, rfl, hgl, hcl, hatl⟩ := HL5.out
 have HLL := hid hatl
 clear hatl HL5
 go_loopw [12, 14] (fun vo vi wr => ∃ i : Nat, i ≤ 16 ∧ vi = .int .i64 i ∧ Hid (wr.ownsRow w5.heap.size 22 1 vo i (fc i R)) ∧ Hid (Below w5.heap.size w5 wr)) (fun _ vi _ => 16 - (intOf vi).toNat)
 case atStart => exact ⟨0, Nat.zero_le _, rfl, World.ownsRow_nil _ _ _ _, Below.refl _ _⟩
 case round =>
  obtain ⟨i, hin, rfl, HOW, HBW⟩ := hrel
  by_cases hlt : i < 16
  ·have k1 : wr.cell? ⟨gl, ol + i, none⟩ = some (.int .u64 ((if i < 8 then F i else G (i - 8)) : Nat)) := (HBW.out.cell (p := ⟨gl, ol + i, none⟩) hgl).trans (HLL.out i hlt).1
   have hm8 : i % 8 < 8 := Nat.mod_lt _ (by decide)
   have k2 := (HBW.out.cell (p := ⟨g4, i % 8, none⟩) hg45).trans (HM5.out (i % 8) hm8)
   have hxb : (if i < 8 then F i else G (i - 8)) < 2 ^ 16 := by split; exact HF.out _; exact HG.out _
   have hri := HR.out i
   have tmv : ((i : Int).tmod 8) = ((i % 8 : Nat) : Int) := by rw [Int.tmod_eq_emod_of_nonneg (by omega)]; rfl
   generalize (if i < 8 then F i else G (i - 8)) = x at *
   have HSN := hid (fc_snoc i R)
   have HSG : ∀ W, Hid (Calls Tryz.prog 143 #[.int .i64 16, .int .u64 (x : Nat)] W fun e w' => e = .returned (.int .i64 (sg 16 (x % 2 ^ 16))) ∧ W = w') := fun W => hid (RSigned_ok 16 (by decide) x (by omega) W)
   have HHE := fun W => hid (held_8_u (sg 16 (x % 2 ^ 16)) (sgn_range (.inl rfl) x).1 (sgn_range (.inl rfl) x).2 W)
   generalize sg 16 (x % 2 ^ 16) = z at *
   rw [← hri] at HHE
   have HXB := hid hxb
   clear HF HG HR hri hxb HLL HM5
   go_upto_region 24 with (go_at_call 197; (first | (with_reducible refine (B0 _).out.mono ?_) | (with_reducible refine (B1 _).out.mono ?_) | (with_reducible refine (B2 _).out.mono ?_) | (with_reducible refine (B3 _).out.mono ?_) | (with_reducible refine (B4 _).out.mono ?_)); rintro e w6 ⟨rfl, rfl⟩)
   have hwr := HBW.out.size
   clear k1 k2 tmv B0 B1 B2 B3 B4
   go_wp2_with (first
    | (go_at_call 143; (with_reducible refine (HSG _).out.mono ?_); rintro e w6 ⟨rfl, rfl⟩)
    | (go_at_call 198; (with_reducible refine (HHE _).out.mono ?_); rintro e w7 ⟨rfl, rfl⟩)
    | (at_builtin; refine append_u64 rfl _ _ rfl w5.heap.size _ _ _ (R i : Int) HOW.out hwr (by omega) rfl rfl ?_; intro v' w8 hown' hnx8 hsz8))
   rw [HSN.out] at hown'
   have HO8 := hid hown'
   have HB8 := hid (HBW.out.trans hnx8)
   clear hown' hnx8 hsz8
   go_roundw
   case rel => exact ⟨i + 1, hlt, rfl, HO8, HB8⟩
   case measure => (simp [intOf]; omega)
  ·have hE : i = 16 := by omega
   subst hE
   go_wp2
   go_ret
   exact ⟨_, rfl, own_mono HOW.out HB5.out.size, HB5.out.trans (HBW.out.mono HB5.out.size)⟩
set_option maxHeartbeats 4000000 in
theorem rnar_16_s (alo ahi blo bhi : Nat) (anl bnl : Bool) (h1 : alo < 18446744073709551616) (h2 : ahi < 18446744073709551616) (h3 : blo < 18446744073709551616) (h4 : bhi < 18446744073709551616) (w : World) (va : Value) (ha : AR w va [(123, alo, ahi, anl), (123, blo, bhi, bnl)]) :
  Calls Tryz.prog 130 #[.int .i64 16, .string (str [110, 97, 114, 114, 111, 119, 95, 105, 51, 50, 120, 52, 95, 115]), va] w (LPost w 8 (narF 32 16 true alo ahi blo bhi)) := by
 obtain ⟨i0, hi0, hz0, hz1, hz2⟩ := info_parts info22
 obtain ⟨sw, hsw⟩ : ∃ sw, sw = str [110, 97, 114, 114, 111, 119, 95, 105, 51, 50, 120, 52, 95, 115] := ⟨_, rfl⟩
 rw [← hsw]
 obtain ⟨sh, hsh⟩ : ∃ sh, sh = str [105, 51, 50, 120, 52] := ⟨_, rfl⟩
 have HSO : ∀ W, Hid (Calls Tryz.prog 128 #[.string sw] W fun e w' => e = .returned (.tuple #[.string sh, .bool true]) ∧ Below W.heap.size W w') := fun W => by rw [hsw, hsh]; exact hid (source_says [110, 97, 114, 114, 111, 119, 95, 105, 51, 50, 120, 52, 95, 115] (by decide) ([105, 51, 50, 120, 52], true) (by decide) W)
 have HBI : ∀ W, Hid (Calls Tryz.prog 123 #[.string sh] W fun e w' => e = .returned (.int .i64 32) ∧ W = w') := fun W => by rw [hsh]; exact hid (RBits_says [105, 51, 50, 120, 52] W)
 have B0 : ∀ W, Hid (Calls Tryz.prog 197 #[.string sw, .string ⟨#[110, 97, 114, 114, 111, 119]⟩] W fun e w' => e = .returned (.bool true) ∧ W = w') := fun W => by rw [hsw]; exact hid (begins_says [110, 97, 114, 114, 111, 119, 95, 105, 51, 50, 120, 52, 95, 115] [110, 97, 114, 114, 111, 119] (by decide) W)
 have B1 : ∀ W, Hid (Calls Tryz.prog 197 #[.string sw, .string ⟨#[101, 120, 116, 101, 110, 100, 95, 104, 105, 103, 104]⟩] W fun e w' => e = .returned (.bool false) ∧ W = w') := fun W => by rw [hsw]; exact hid (begins_says [110, 97, 114, 114, 111, 119, 95, 105, 51, 50, 120, 52, 95, 115] [101, 120, 116, 101, 110, 100, 95, 104, 105, 103, 104] (by decide) W)
 have B2 : ∀ W, Hid (Calls Tryz.prog 197 #[.string sw, .string ⟨#[101, 120, 116, 109, 117, 108, 95, 104, 105, 103, 104]⟩] W fun e w' => e = .returned (.bool false) ∧ W = w') := fun W => by rw [hsw]; exact hid (begins_says [110, 97, 114, 114, 111, 119, 95, 105, 51, 50, 120, 52, 95, 115] [101, 120, 116, 109, 117, 108, 95, 104, 105, 103, 104] (by decide) W)
 have B3 : ∀ W, Hid (Calls Tryz.prog 197 #[.string sw, .string ⟨#[101, 120, 116, 97, 100, 100]⟩] W fun e w' => e = .returned (.bool false) ∧ W = w') := fun W => by rw [hsw]; exact hid (begins_says [110, 97, 114, 114, 111, 119, 95, 105, 51, 50, 120, 52, 95, 115] [101, 120, 116, 97, 100, 100] (by decide) W)
 have B4 : ∀ W, Hid (Calls Tryz.prog 197 #[.string sw, .string ⟨#[100, 111, 116]⟩] W fun e w' => e = .returned (.bool false) ∧ W = w') := fun W => by rw [hsw]; exact hid (begins_says [110, 97, 114, 114, 111, 119, 95, 105, 51, 50, 120, 52, 95, 115] [100, 111, 116] (by decide) W)
 clear hsw hsh
 have hcf : cnt 32 = 4 := by decide
 have HSPA : ∀ W, Hid (Calls Tryz.prog 126 #[.int .i64 32, .agg #[.int .i64 123, .int .u64 (alo : Nat), .int .u64 (ahi : Nat), .bool anl]] W (LPost W 4 (splitF 32 alo ahi))) := fun W => hid (RSplit_says 32 (by decide) 123 alo ahi anl h1 h2 W)
 have HSPB : ∀ W, Hid (Calls Tryz.prog 126 #[.int .i64 32, .agg #[.int .i64 123, .int .u64 (blo : Nat), .int .u64 (bhi : Nat), .bool bnl]] W (LPost W 4 (splitF 32 blo bhi))) := fun W => hid (RSplit_says 32 (by decide) 123 blo bhi bnl h3 h4 W)
 obtain ⟨R, hR⟩ : ∃ R : Nat → Nat, R = narF 32 16 true alo ahi blo bhi := ⟨_, rfl⟩
 rw [← hR]
 have HF : Hid (∀ i, splitF 32 alo ahi i < 2 ^ 32) := hid (fun i => splitF_lt _ _ _ _)
 have HG : Hid (∀ i, splitF 32 blo bhi i < 2 ^ 32) := hid (fun i => splitF_lt _ _ _ _)
 have HR : Hid (∀ i, R i = toN 64 (clampZ (sg 32 ((if i < 4 then splitF 32 alo ahi i else splitF 32 blo bhi (i - 4)) % 2 ^ 32)) (-32768) 32767)) := hid (fun i => by rw [hR]; unfold narF; rw [hcf]; rfl)
 have HAP := hid (fc_append 4 4 (splitF 32 alo ahi) (splitF 32 blo bhi))
 clear hR hcf h1 h2 h3 h4
 obtain ⟨F, hFe⟩ : ∃ F, F = splitF 32 alo ahi := ⟨_, rfl⟩
 obtain ⟨G, hGe⟩ : ∃ G, G = splitF 32 blo bhi := ⟨_, rfl⟩
 rw [← hFe] at HSPA HF HR HAP
 rw [← hGe] at HSPB HG HR HAP
 clear hFe hGe
 obtain ⟨ga, ca, rfl, hga, hca, hata⟩ := ha
 obtain ⟨a0, a1, a2, a3⟩ := hata 0 (123, alo, ahi, anl) rfl
 obtain ⟨b0, b1, b2, b3⟩ := hata 1 (123, blo, bhi, bnl) rfl
 simp only [Nat.zero_mul, Nat.zero_add, Nat.one_mul] at a0 a1 a2 a3 b0 b1 b2 b3
 simp only [List.length_cons, List.length_nil] at hca ⊢
 have HAA := hid (And.intro a0 (And.intro a1 (And.intro a2 (And.intro a3 (And.intro b0 (And.intro b1 (And.intro b2 b3)))))))
 clear hata a0 a1 a2 a3 b0 b1 b2 b3
 go_enter Tryz.func130, Tryz.ntmps130
 go_upto_region 3 with (first
  | (go_at_call 128; (with_reducible refine (HSO _).out.mono ?_); rintro e w1 ⟨rfl, hb1⟩; have HB1 := hid hb1; clear hb1)
  | (go_at_call 123; (with_reducible refine (HBI _).out.mono ?_); rintro e w2 ⟨rfl, rfl⟩))
 obtain ⟨x0, x1, x2, x3, y0, y1, y2, y3⟩ := HAA.out
 have z0 := (HB1.out.cell (p := ⟨ga, 0, none⟩) hga).trans x0
 have z1 := (HB1.out.cell (p := ⟨ga, 1, none⟩) hga).trans x1
 have z2 := (HB1.out.cell (p := ⟨ga, 2, none⟩) hga).trans x2
 have z3 := (HB1.out.cell (p := ⟨ga, 3, none⟩) hga).trans x3
 clear x0 x1 x2 x3 y0 y1 y2 y3
 go_upto_region 6 with (go_at_call 126; (with_reducible refine (HSPA _).out.mono ?_); rintro e w3 ⟨v3, rfl, ho3, hb3⟩; have HO3 := hid ho3; have HB3 := hid (HB1.out.trans (hb3.mono HB1.out.size)); have HN3 := hid hb3; clear ho3 hb3)
 obtain ⟨x0, x1, x2, x3, y0, y1, y2, y3⟩ := HAA.out
 clear x0 x1 x2 x3 z0 z1 z2 z3 HAA
 have z0 := (HB3.out.cell (p := ⟨ga, 4, none⟩) hga).trans y0
 have z1 := (HB3.out.cell (p := ⟨ga, 5, none⟩) hga).trans y1
 have z2 := (HB3.out.cell (p := ⟨ga, 6, none⟩) hga).trans y2
 have z3 := (HB3.out.cell (p := ⟨ga, 7, none⟩) hga).trans y3
 clear y0 y1 y2 y3
 go_upto_region 10 with (first
  | (go_at_call 126; (with_reducible refine (HSPB _).out.mono ?_); rintro e w4 ⟨v4, rfl, ho4, hb4⟩; have HO4 := hid ho4; have HO34 := hid (own_below HO3.out hb4 (Nat.le_refl _)); have HB4 := hid (HB3.out.trans (hb4.mono HB3.out.size)); have HN4 := hid hb4; clear ho4 hb4)
  | (go_at_call 197; (first | (with_reducible refine (B0 _).out.mono ?_) | (with_reducible refine (B1 _).out.mono ?_) | (with_reducible refine (B2 _).out.mono ?_) | (with_reducible refine (B3 _).out.mono ?_) | (with_reducible refine (B4 _).out.mono ?_)); rintro e w5 ⟨rfl, rfl⟩))
 obtain ⟨g3, cap3, rfl⟩ := owned_at HO34.out (by decide)
 obtain ⟨g4, cap4, rfl⟩ := owned_at HO4.out (by decide)
 have HNW := hid (show ∀ j u, (fc 4 G)[j]? = some u → w4.cell? ((⟨g4, 0, none⟩ : Addr).add j) = some u by
  intro j u hj
  have hjc : j < 4 := by have := (List.getElem?_eq_some_iff.1 hj).1; rw [fc_length] at this; exact this
  rw [add_plain, Nat.zero_add, HO4.out.cellAt j (by omega), hj])
 have HLB := hid (Nat.le_trans HB1.out.size (Nat.le_trans HN3.out.size HN4.out.size))
 have HO35 := hid (own_mono HO34.out HB1.out.size)
 have hg34 : g3 ≠ g4 := by
  have e1 := (HO3.out.lt g3 rfl).2
  have e2 := (HO4.out.lt g4 rfl).1
  omega
 have hg4l := (HO4.out.lt g4 rfl).2
 have HO4b := hid (fun j (hj : j < 4) => (HO4.out.cellAt j (by omega)).trans (fc_get hj))
 clear HO3 HO34 HO4 HN3 HN4 HB3 HB1 z0 z1 z2 z3
 go_wp2_with (refine wpList_append_own _ rfl (.tmp 45) (.tmp 46) 40 rfl w.heap.size 22 i0 (.int .u64 0) 1 8 Tryz.underlying40 hi0 hz0 hz1 hz2 rfl (by decide) (.slice (some ⟨g3, 0, none⟩) 4 cap3) 4 (fc 4 F) rfl HO35.out ⟨g4, 0, none⟩ 4 cap4 (fc 4 G) rfl (by rw [fc_length]) HNW.out (fc_one 4 G) (by unfold maxLen; omega) (by omega) HLB.out ?_; intro v5 w5 ho5 hg5 _; have HO5 := hid ho5; have HG5 := hid hg5; clear ho5 hg5)
 have ho5 := HO5.out
 rw [HAP.out] at ho5
 have HL5 : Hid (RowAt w5 v5 8 (fun i => if i < 4 then F i else G (i - 4))) := RowAt.of_own ho5 (by decide)
 have HM5 := hid (show ∀ j, j < 4 → w5.cell? ⟨g4, j, none⟩ = some (.int .u64 (G j : Nat)) by
  intro j hj
  rw [World.cell?_of_block (w := w4) (HG5.out.block g4 hg4l (fun e => hg34 (Option.some.inj e).symm))]
  exact HO4b.out j hj)
 have HB5 := hid (HB4.out.grown HG5.out HLB.out (fun k hk => (HO35.out.lt k hk).1))
 have hg45 : g4 < w5.heap.size := Nat.lt_of_lt_of_le hg4l HG5.out.size
 clear ho5 HO5 HG5 HB4 HO35 HNW HLB HO4b hg34 hg4l HAP hga hca HSO HBI HSPA HSPB
 obtain ⟨gl, ol, cl, rfl, hgl, hcl, hatl⟩ := HL5.out
 have HLL := hid hatl
 clear hatl HL5
 go_loopw [12, 14] (fun vo vi wr => ∃ i : Nat, i ≤ 8 ∧ vi = .int .i64 i ∧ Hid (wr.ownsRow w5.heap.size 22 1 vo i (fc i R)) ∧ Hid (Below w5.heap.size w5 wr)) (fun _ vi _ => 8 - (intOf vi).toNat)
 case atStart => exact ⟨0, Nat.zero_le _, rfl, World.ownsRow_nil _ _ _ _, Below.refl _ _⟩
 case round =>
  obtain ⟨i, hin, rfl, HOW, HBW⟩ := hrel
  by_cases hlt : i < 8
  ·have k1 : wr.cell? ⟨gl, ol + i, none⟩ = some (.int .u64 ((if i < 4 then F i else G (i - 4)) : Nat)) := (HBW.out.cell (p := ⟨gl, ol + i, none⟩) hgl).trans (HLL.out i hlt).1
   have hm8 : i % 4 < 4 := Nat.mod_lt _ (by decide)
   have k2 := (HBW.out.cell (p := ⟨g4, i % 4, none⟩) hg45).trans (HM5.out (i % 4) hm8)
   have hxb : (if i < 4 then F i else G (i - 4)) < 2 ^ 32 := by split; exact HF.out _; exact HG.out _
   have hri := HR.out i
   have tmv : ((i : Int).tmod 4) = ((i % 4 : Nat) : Int) := by rw [Int.tmod_eq_emod_of_nonneg (by omega)]; rfl
   generalize (if i < 4 then F i else G (i - 4)) = x at *
   have HSN := hid (fc_snoc i R)
   have HSG : ∀ W, Hid (Calls Tryz.prog 143 #[.int .i64 32, .int .u64 (x : Nat)] W fun e w' => e = .returned (.int .i64 (sg 32 (x % 2 ^ 32))) ∧ W = w') := fun W => hid (RSigned_ok 32 (by decide) x (by omega) W)
   have HHE := fun W => hid (held_16_s (sg 32 (x % 2 ^ 32)) (sgn_range (.inr rfl) x).1 (sgn_range (.inr rfl) x).2 W)
   generalize sg 32 (x % 2 ^ 32) = z at *
   rw [← hri] at HHE
   have HXB := hid hxb
   clear HF HG HR hri hxb HLL HM5
   go_upto_region 24 with (go_at_call 197; (first | (with_reducible refine (B0 _).out.mono ?_) | (with_reducible refine (B1 _).out.mono ?_) | (with_reducible refine (B2 _).out.mono ?_) | (with_reducible refine (B3 _).out.mono ?_) | (with_reducible refine (B4 _).out.mono ?_)); rintro e w6 ⟨rfl, rfl⟩)
   have hwr := HBW.out.size
   clear k1 k2 tmv B0 B1 B2 B3 B4
   go_wp2_with (first
    | (go_at_call 143; (with_reducible refine (HSG _).out.mono ?_); rintro e w6 ⟨rfl, rfl⟩)
    | (go_at_call 198; (with_reducible refine (HHE _).out.mono ?_); rintro e w7 ⟨rfl, rfl⟩)
    | (at_builtin; refine append_u64 rfl _ _ rfl w5.heap.size _ _ _ (R i : Int) HOW.out hwr (by omega) rfl rfl ?_; intro v' w8 hown' hnx8 hsz8))
   rw [HSN.out] at hown'
   have HO8 := hid hown'
   have HB8 := hid (HBW.out.trans hnx8)
   clear hown' hnx8 hsz8
   go_roundw
   case rel => exact ⟨i + 1, hlt, rfl, HO8, HB8⟩
   case measure => (simp [intOf]; omega)
  ·have hE : i = 8 := by omega
   subst hE
   go_wp2
   go_ret
   exact ⟨_, rfl, own_mono HOW.out HB5.out.size, HB5.out.trans (HBW.out.mono HB5.out.size)⟩
set_option maxHeartbeats 4000000 in
theorem rnar_16_u (alo ahi blo bhi : Nat) (anl bnl : Bool) (h1 : alo < 18446744073709551616) (h2 : ahi < 18446744073709551616) (h3 : blo < 18446744073709551616) (h4 : bhi < 18446744073709551616) (w : World) (va : Value) (ha : AR w va [(123, alo, ahi, anl), (123, blo, bhi, bnl)]) :
  Calls Tryz.prog 130 #[.int .i64 16, .string (str [110, 97, 114, 114, 111, 119, 95, 105, 51, 50, 120, 52, 95, 117]), va] w (LPost w 8 (narF 32 16 false alo ahi blo bhi)) := by
 obtain ⟨i0, hi0, hz0, hz1, hz2⟩ := info_parts info22
 obtain ⟨sw, hsw⟩ : ∃ sw, sw = str [110, 97, 114, 114, 111, 119, 95, 105, 51, 50, 120, 52, 95, 117] := ⟨_, rfl⟩
 rw [← hsw]
 obtain ⟨sh, hsh⟩ : ∃ sh, sh = str [105, 51, 50, 120, 52] := ⟨_, rfl⟩
 have HSO : ∀ W, Hid (Calls Tryz.prog 128 #[.string sw] W fun e w' => e = .returned (.tuple #[.string sh, .bool false]) ∧ Below W.heap.size W w') := fun W => by rw [hsw, hsh]; exact hid (source_says [110, 97, 114, 114, 111, 119, 95, 105, 51, 50, 120, 52, 95, 117] (by decide) ([105, 51, 50, 120, 52], false) (by decide) W)
 have HBI : ∀ W, Hid (Calls Tryz.prog 123 #[.string sh] W fun e w' => e = .returned (.int .i64 32) ∧ W = w') := fun W => by rw [hsh]; exact hid (RBits_says [105, 51, 50, 120, 52] W)
 have B0 : ∀ W, Hid (Calls Tryz.prog 197 #[.string sw, .string ⟨#[110, 97, 114, 114, 111, 119]⟩] W fun e w' => e = .returned (.bool true) ∧ W = w') := fun W => by rw [hsw]; exact hid (begins_says [110, 97, 114, 114, 111, 119, 95, 105, 51, 50, 120, 52, 95, 117] [110, 97, 114, 114, 111, 119] (by decide) W)
 have B1 : ∀ W, Hid (Calls Tryz.prog 197 #[.string sw, .string ⟨#[101, 120, 116, 101, 110, 100, 95, 104, 105, 103, 104]⟩] W fun e w' => e = .returned (.bool false) ∧ W = w') := fun W => by rw [hsw]; exact hid (begins_says [110, 97, 114, 114, 111, 119, 95, 105, 51, 50, 120, 52, 95, 117] [101, 120, 116, 101, 110, 100, 95, 104, 105, 103, 104] (by decide) W)
 have B2 : ∀ W, Hid (Calls Tryz.prog 197 #[.string sw, .string ⟨#[101, 120, 116, 109, 117, 108, 95, 104, 105, 103, 104]⟩] W fun e w' => e = .returned (.bool false) ∧ W = w') := fun W => by rw [hsw]; exact hid (begins_says [110, 97, 114, 114, 111, 119, 95, 105, 51, 50, 120, 52, 95, 117] [101, 120, 116, 109, 117, 108, 95, 104, 105, 103, 104] (by decide) W)
 have B3 : ∀ W, Hid (Calls Tryz.prog 197 #[.string sw, .string ⟨#[101, 120, 116, 97, 100, 100]⟩] W fun e w' => e = .returned (.bool false) ∧ W = w') := fun W => by rw [hsw]; exact hid (begins_says [110, 97, 114, 114, 111, 119, 95, 105, 51, 50, 120, 52, 95, 117] [101, 120, 116, 97, 100, 100] (by decide) W)
 have B4 : ∀ W, Hid (Calls Tryz.prog 197 #[.string sw, .string ⟨#[100, 111, 116]⟩] W fun e w' => e = .returned (.bool false) ∧ W = w') := fun W => by rw [hsw]; exact hid (begins_says [110, 97, 114, 114, 111, 119, 95, 105, 51, 50, 120, 52, 95, 117] [100, 111, 116] (by decide) W)
 clear hsw hsh
 have hcf : cnt 32 = 4 := by decide
 have HSPA : ∀ W, Hid (Calls Tryz.prog 126 #[.int .i64 32, .agg #[.int .i64 123, .int .u64 (alo : Nat), .int .u64 (ahi : Nat), .bool anl]] W (LPost W 4 (splitF 32 alo ahi))) := fun W => hid (RSplit_says 32 (by decide) 123 alo ahi anl h1 h2 W)
 have HSPB : ∀ W, Hid (Calls Tryz.prog 126 #[.int .i64 32, .agg #[.int .i64 123, .int .u64 (blo : Nat), .int .u64 (bhi : Nat), .bool bnl]] W (LPost W 4 (splitF 32 blo bhi))) := fun W => hid (RSplit_says 32 (by decide) 123 blo bhi bnl h3 h4 W)
 obtain ⟨R, hR⟩ : ∃ R : Nat → Nat, R = narF 32 16 false alo ahi blo bhi := ⟨_, rfl⟩
 rw [← hR]
 have HF : Hid (∀ i, splitF 32 alo ahi i < 2 ^ 32) := hid (fun i => splitF_lt _ _ _ _)
 have HG : Hid (∀ i, splitF 32 blo bhi i < 2 ^ 32) := hid (fun i => splitF_lt _ _ _ _)
 have HR : Hid (∀ i, R i = toN 64 (clampZ (sg 32 ((if i < 4 then splitF 32 alo ahi i else splitF 32 blo bhi (i - 4)) % 2 ^ 32)) (0) 65535)) := hid (fun i => by rw [hR]; unfold narF; rw [hcf]; rfl)
 have HAP := hid (fc_append 4 4 (splitF 32 alo ahi) (splitF 32 blo bhi))
 clear hR hcf h1 h2 h3 h4
 obtain ⟨F, hFe⟩ : ∃ F, F = splitF 32 alo ahi := ⟨_, rfl⟩
 obtain ⟨G, hGe⟩ : ∃ G, G = splitF 32 blo bhi := ⟨_, rfl⟩
 rw [← hFe] at HSPA HF HR HAP
 rw [← hGe] at HSPB HG HR HAP
 clear hFe hGe
 obtain ⟨ga, ca, rfl, hga, hca, hata⟩ := ha
 obtain ⟨a0, a1, a2, a3⟩ := hata 0 (123, alo, ahi, anl) rfl
 obtain ⟨b0, b1, b2, b3⟩ := hata 1 (123, blo, bhi, bnl) rfl
 simp only [Nat.zero_mul, Nat.zero_add, Nat.one_mul] at a0 a1 a2 a3 b0 b1 b2 b3
 simp only [List.length_cons, List.length_nil] at hca ⊢
 have HAA := hid (And.intro a0 (And.intro a1 (And.intro a2 (And.intro a3 (And.intro b0 (And.intro b1 (And.intro b2 b3)))))))
 clear hata a0 a1 a2 a3 b0 b1 b2 b3
 go_enter Tryz.func130, Tryz.ntmps130
 go_upto_region 3 with (first
  | (go_at_call 128; (with_reducible refine (HSO _).out.mono ?_); rintro e w1 ⟨rfl, hb1⟩; have HB1 := hid hb1; clear hb1)
  | (go_at_call 123; (with_reducible refine (HBI _).out.mono ?_); rintro e w2 ⟨rfl, rfl⟩))
 obtain ⟨x0, x1, x2, x3, y0, y1, y2, y3⟩ := HAA.out
 have z0 := (HB1.out.cell (p := ⟨ga, 0, none⟩) hga).trans x0
 have z1 := (HB1.out.cell (p := ⟨ga, 1, none⟩) hga).trans x1
 have z2 := (HB1.out.cell (p := ⟨ga, 2, none⟩) hga).trans x2
 have z3 := (HB1.out.cell (p := ⟨ga, 3, none⟩) hga).trans x3
 clear x0 x1 x2 x3 y0 y1 y2 y3
 go_upto_region 6 with (go_at_call 126; (with_reducible refine (HSPA _).out.mono ?_); rintro e w3 ⟨v3, rfl, ho3, hb3⟩; have HO3 := hid ho3; have HB3 := hid (HB1.out.trans (hb3.mono HB1.out.size)); have HN3 := hid hb3; clear ho3 hb3)
 obtain ⟨x0, x1, x2, x3, y0, y1, y2, y3⟩ := HAA.out
 clear x0 x1 x2 x3 z0 z1 z2 z3 HAA
 have z0 := (HB3.out.cell (p := ⟨ga, 4, none⟩) hga).trans y0
 have z1 := (HB3.out.cell (p := ⟨ga, 5, none⟩) hga).trans y1
 have z2 := (HB3.out.cell (p := ⟨ga, 6, none⟩) hga).trans y2
 have z3 := (HB3.out.cell (p := ⟨ga, 7, none⟩) hga).trans y3
 clear y0 y1 y2 y3
 go_upto_region 10 with (first
  | (go_at_call 126; (with_reducible refine (HSPB _).out.mono ?_); rintro e w4 ⟨v4, rfl, ho4, hb4⟩; have HO4 := hid ho4; have HO34 := hid (own_below HO3.out hb4 (Nat.le_refl _)); have HB4 := hid (HB3.out.trans (hb4.mono HB3.out.size)); have HN4 := hid hb4; clear ho4 hb4)
  | (go_at_call 197; (first | (with_reducible refine (B0 _).out.mono ?_) | (with_reducible refine (B1 _).out.mono ?_) | (with_reducible refine (B2 _).out.mono ?_) | (with_reducible refine (B3 _).out.mono ?_) | (with_reducible refine (B4 _).out.mono ?_)); rintro e w5 ⟨rfl, rfl⟩))
 obtain ⟨g3, cap3, rfl⟩ := owned_at HO34.out (by decide)
 obtain ⟨g4, cap4, rfl⟩ := owned_at HO4.out (by decide)
 have HNW := hid (show ∀ j u, (fc 4 G)[j]? = some u → w4.cell? ((⟨g4, 0, none⟩ : Addr).add j) = some u by
  intro j u hj
  have hjc : j < 4 := by have := (List.getElem?_eq_some_iff.1 hj).1; rw [fc_length] at this; exact this
  rw [add_plain, Nat.zero_add, HO4.out.cellAt j (by omega), hj])
 have HLB := hid (Nat.le_trans HB1.out.size (Nat.le_trans HN3.out.size HN4.out.size))
 have HO35 := hid (own_mono HO34.out HB1.out.size)
 have hg34 : g3 ≠ g4 := by
  have e1 := (HO3.out.lt g3 rfl).2
  have e2 := (HO4.out.lt g4 rfl).1
  omega
 have hg4l := (HO4.out.lt g4 rfl).2
 have HO4b := hid (fun j (hj : j < 4) => (HO4.out.cellAt j (by omega)).trans (fc_get hj))
 clear HO3 HO34 HO4 HN3 HN4 HB3 HB1 z0 z1 z2 z3
 go_wp2_with (refine wpList_append_own _ rfl (.tmp 45) (.tmp 46) 40 rfl w.heap.size 22 i0 (.int .u64 0) 1 8 Tryz.underlying40 hi0 hz0 hz1 hz2 rfl (by decide) (.slice (some ⟨g3, 0, none⟩) 4 cap3) 4 (fc 4 F) rfl HO35.out ⟨g4, 0, none⟩ 4 cap4 (fc 4 G) rfl (by rw [fc_length]) HNW.out (fc_one 4 G) (by unfold maxLen; omega) (by omega) HLB.out ?_; intro v5 w5 ho5 hg5 _; have HO5 := hid ho5; have HG5 := hid hg5; clear ho5 hg5)
 have ho5 := HO5.out
 rw [HAP.out] at ho5
 have HL5 : Hid (RowAt w5 v5 8 (fun i => if i < 4 then F i else G (i - 4))) := RowAt.of_own ho5 (by decide)
 have HM5 := hid (show ∀ j, j < 4 → w5.cell? ⟨g4, j, none⟩ = some (.int .u64 (G j : Nat)) by
  intro j hj
  rw [World.cell?_of_block (w := w4) (HG5.out.block g4 hg4l (fun e => hg34 (Option.some.inj e).symm))]
  exact HO4b.out j hj)
 have HB5 := hid (HB4.out.grown HG5.out HLB.out (fun k hk => (HO35.out.lt k hk).1))
 have hg45 : g4 < w5.heap.size := Nat.lt_of_lt_of_le hg4l HG5.out.size
 clear ho5 HO5 HG5 HB4 HO35 HNW HLB HO4b hg34 hg4l HAP hga hca HSO HBI HSPA HSPB
 obtain ⟨gl, ol, cl, rfl, hgl, hcl, hatl⟩ := HL5.out
 have HLL := hid hatl
 clear hatl HL5
 go_loopw [12, 14] (fun vo vi wr => ∃ i : Nat, i ≤ 8 ∧ vi = .int .i64 i ∧ Hid (wr.ownsRow w5.heap.size 22 1 vo i (fc i R)) ∧ Hid (Below w5.heap.size w5 wr)) (fun _ vi _ => 8 - (intOf vi).toNat)
 case atStart => exact ⟨0, Nat.zero_le _, rfl, World.ownsRow_nil _ _ _ _, Below.refl _ _⟩
 case round =>
  obtain ⟨i, hin, rfl, HOW, HBW⟩ := hrel
  by_cases hlt : i < 8
  ·have k1 : wr.cell? ⟨gl, ol + i, none⟩ = some (.int .u64 ((if i < 4 then F i else G (i - 4)) : Nat)) := (HBW.out.cell (p := ⟨gl, ol + i, none⟩) hgl).trans (HLL.out i hlt).1
   have hm8 : i % 4 < 4 := Nat.mod_lt _ (by decide)
   have k2 := (HBW.out.cell (p := ⟨g4, i % 4, none⟩) hg45).trans (HM5.out (i % 4) hm8)
   have hxb : (if i < 4 then F i else G (i - 4)) < 2 ^ 32 := by split; exact HF.out _; exact HG.out _
   have hri := HR.out i
   have tmv : ((i : Int).tmod 4) = ((i % 4 : Nat) : Int) := by rw [Int.tmod_eq_emod_of_nonneg (by omega)]; rfl
   generalize (if i < 4 then F i else G (i - 4)) = x at *
   have HSN := hid (fc_snoc i R)
   have HSG : ∀ W, Hid (Calls Tryz.prog 143 #[.int .i64 32, .int .u64 (x : Nat)] W fun e w' => e = .returned (.int .i64 (sg 32 (x % 2 ^ 32))) ∧ W = w') := fun W => hid (RSigned_ok 32 (by decide) x (by omega) W)
   have HHE := fun W => hid (held_16_u (sg 32 (x % 2 ^ 32)) (sgn_range (.inr rfl) x).1 (sgn_range (.inr rfl) x).2 W)
   generalize sg 32 (x % 2 ^ 32) = z at *
   rw [← hri] at HHE
   have HXB := hid hxb
   clear HF HG HR hri hxb HLL HM5
   go_upto_region 24 with (go_at_call 197; (first | (with_reducible refine (B0 _).out.mono ?_) | (with_reducible refine (B1 _).out.mono ?_) | (with_reducible refine (B2 _).out.mono ?_) | (with_reducible refine (B3 _).out.mono ?_) | (with_reducible refine (B4 _).out.mono ?_)); rintro e w6 ⟨rfl, rfl⟩)
   have hwr := HBW.out.size
   clear k1 k2 tmv B0 B1 B2 B3 B4
   go_wp2_with (first
    | (go_at_call 143; (with_reducible refine (HSG _).out.mono ?_); rintro e w6 ⟨rfl, rfl⟩)
    | (go_at_call 198; (with_reducible refine (HHE _).out.mono ?_); rintro e w7 ⟨rfl, rfl⟩)
    | (at_builtin; refine append_u64 rfl _ _ rfl w5.heap.size _ _ _ (R i : Int) HOW.out hwr (by omega) rfl rfl ?_; intro v' w8 hown' hnx8 hsz8))
   rw [HSN.out] at hown'
   have HO8 := hid hown'
   have HB8 := hid (HBW.out.trans hnx8)
   clear hown' hnx8 hsz8
   go_roundw
   case rel => exact ⟨i + 1, hlt, rfl, HO8, HB8⟩
   case measure => (simp [intOf]; omega)
  ·have hE : i = 8 := by omega
   subst hE
   go_wp2
   go_ret
   exact ⟨_, rfl, own_mono HOW.out HB5.out.size, HB5.out.trans (HBW.out.mono HB5.out.size)⟩
end Go.Proofs.YtlhakbkdlgejpaaGreatDoor
