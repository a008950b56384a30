/-
  LCPick, LXDo, RPlM: merged, what the law does not reach left out (each text says what it holds where it lies in wip). No condition.
-/
import Derived.Test.YtlhakbkdlgejpaaGreatDoorH17
import Derived.Test.YtlhakbkdlgejpaaGreatDoorH11
import Derived.Test.YtlhakbkdlgejpaaGreatDoorH14
import Derived.Test.YtlhakbkdlgejpaaGreatDoorH10
import Derived.Test.YtlhakbkdlgejpaaGreatDoorH08
import Derived.Test.YtlhakbkdlgejpaaGreatDoorH06
set_option linter.unusedSimpArgs false
set_option linter.unusedVariables false
set_option maxRecDepth 100000
namespace Go.Proofs.YtlhakbkdlgejpaaGreatDoor
open Go.RowKit
set_option maxHeartbeats 8000000 in
theorem chosen_swiz (lo hi : Nat) (nl : Bool) (h1 : lo < 18446744073709551616) (h2 : hi < 18446744073709551616) (blo bhi : Nat) (bnl : Bool) (h3 : blo < 18446744073709551616) (h4 : bhi < 18446744073709551616) (vi : Value) (va : Value) (w : World) (ha : AR w va [(123, lo, hi, nl), (123, blo, bhi, bnl)]) :
    Calls Tryz.prog 125 #[.int .i64 8, .string (str [115, 119, 105, 122, 122, 108, 101]), vi, va] w fun e w' => e = .returned (vv 123 (loF 8 (fun i => if splitF 8 blo bhi i < 16 then splitF 8 lo hi (splitF 8 blo bhi i) else 0)) (hiF 8 (fun i => if splitF 8 blo bhi i < 16 then splitF 8 lo hi (splitF 8 blo bhi i) else 0)) false) ∧ Below w.heap.size w w' := by
  obtain ⟨sw, hsw⟩ : ∃ sw, sw = str [115, 119, 105, 122, 122, 108, 101] := ⟨_, rfl⟩
  rw [← hsw]
  have q0 : (sw.toList == [115, 112, 108, 97, 116]) = false := by rw [hsw, str_list]; decide
  have q1 : (sw.toList == [101, 120, 116, 114, 97, 99, 116, 95, 108, 97, 110, 101, 95, 115]) = false := by rw [hsw, str_list]; decide
  have q2 : (sw.toList == [101, 120, 116, 114, 97, 99, 116, 95, 108, 97, 110, 101]) = false := by rw [hsw, str_list]; decide
  have q3 : (sw.toList == [101, 120, 116, 114, 97, 99, 116, 95, 108, 97, 110, 101, 95, 117]) = false := by rw [hsw, str_list]; decide
  have q4 : (sw.toList == [114, 101, 112, 108, 97, 99, 101, 95, 108, 97, 110, 101]) = false := by rw [hsw, str_list]; decide
  have q9 : (sw.toList == [115, 104, 117, 102, 102, 108, 101]) = false := by rw [hsw, str_list]; decide
  clear hsw
  have HSPA : ∀ W, Hid (Calls Tryz.prog 126 #[.int .i64 8, .agg #[.int .i64 123, .int .u64 (lo : Nat), .int .u64 (hi : Nat), .bool nl]] W (LPost W 16 (splitF 8 lo hi))) := fun W => hid (RSplit_says 8 (by decide) 123 lo hi nl h1 h2 W)
  have HSPB : ∀ W, Hid (Calls Tryz.prog 126 #[.int .i64 8, .agg #[.int .i64 123, .int .u64 (blo : Nat), .int .u64 (bhi : Nat), .bool bnl]] W (LPost W 16 (splitF 8 blo bhi))) := fun W => hid (RSplit_says 8 (by decide) 123 blo bhi bnl h3 h4 W)
  have HFl := hid (fun i => splitF_lt 8 lo hi i)
  have HGl := hid (fun i => splitF_lt 8 blo bhi i)
  obtain ⟨R, hR⟩ : ∃ R : Nat → Nat, R = fun i => if splitF 8 blo bhi i < 16 then splitF 8 lo hi (splitF 8 blo bhi i) else 0 := ⟨_, rfl⟩
  rw [← hR]
  have HR := hid (fun i : Nat => congrFun hR i)
  have HRL : ∀ i, R i < 18446744073709551616 := fun i => by
    rw [HR.out i]
    have e1 := fun j => HFl.out j
    have e2 := fun j => HGl.out j
    show (if _ then _ else _) < _
    split
    · exact Nat.lt_of_lt_of_le (e1 _) (by decide)
    · decide
  have HVC : ∀ v W, RowAt W v 16 R → Hid (Calls Tryz.prog 129 #[.int .i64 8, v] W fun e w' => e = .returned (vv 123 (loF 8 R) (hiF 8 R) false) ∧ Below W.heap.size W w') := fun v W h => hid (RVector_says 8 (by decide) v 16 (by decide) (by decide) R W h (fun i _ => HRL i))
  generalize splitF 8 lo hi = F at *
  generalize splitF 8 blo bhi = G at *
  obtain ⟨l2, hl2⟩ : ∃ l2, l2 = loF 8 R := ⟨_, rfl⟩
  obtain ⟨h2', hh2⟩ : ∃ h2', h2' = hiF 8 R := ⟨_, rfl⟩
  rw [← hl2, ← hh2]
  rw [← hl2, ← hh2] at HVC
  unfold vv at HVC ⊢
  skip
  clear h1 h2 h3 h4 hl2 hh2 HRL hR
  go_enter Tryz.func125, Tryz.ntmps125
  go_upto_region 1 with fail
  have HC0 := hid (CA.new w #[.int .i64 0, .int .u64 0, .int .u64 0, .bool false] 24)
  have HB0 := hid ((Below.refl _ w).alloc (Nat.le_refl _) (.cells #[.int .i64 0, .int .u64 0, .int .u64 0, .bool false] 24))
  have HA0 := hid (ha.call HB0.out)
  skip
  skip
  clear ha
  generalize w.alloc (.cells #[.int .i64 0, .int .u64 0, .int .u64 0, .bool false] 24) = W0 at *
  obtain ⟨ga, ca, rfl, hga, hca, hata⟩ := HA0.out
  obtain ⟨a00, a01, a02, a03⟩ := hata 0 (123, lo, hi, nl) rfl
  obtain ⟨a10, a11, a12, a13⟩ := hata 1 (123, blo, bhi, bnl) rfl
  simp only [Nat.zero_mul, Nat.zero_add, Nat.one_mul, Nat.reduceMul, Nat.reduceAdd] at a00 a01 a02 a03 a10 a11 a12 a13
  simp only [List.length_cons, List.length_nil, Nat.zero_add, Nat.reduceAdd] at hca ⊢
  clear hata HA0
  go_upto_region 2 with (go_at_call 126; (with_reducible refine (HSPA _).out.mono ?_); rintro e w3 ⟨v3, rfl, ho3, hb3⟩; have HO3 := hid ho3; have HB3 := hid (HB0.out.trans (hb3.mono HB0.out.size)); have HC3 := hid (HC0.out.call hb3); have HN3 := hid hb3; clear hb3 ho3)
  have b0 := (HN3.out.cell (p := ⟨ga, 4, none⟩) hga).trans a10
  have b1 := (HN3.out.cell (p := ⟨ga, 5, none⟩) hga).trans a11
  have b2 := (HN3.out.cell (p := ⟨ga, 6, none⟩) hga).trans a12
  have b3 := (HN3.out.cell (p := ⟨ga, 7, none⟩) hga).trans a13
  clear a00 a01 a02 a03 a10 a11 a12 a13
  obtain ⟨g3, c3, rfl⟩ := owned_at HO3.out (by decide)
  go_upto_region 25 with (go_at_call 126; (with_reducible refine (HSPB _).out.mono ?_); rintro e w4 ⟨v4, rfl, ho4, hb4⟩; have HO4 := hid ho4; have HB4 := hid (HB3.out.trans (hb4.mono HB3.out.size)); have HC4 := hid (HC3.out.call hb4); have HO34 := hid (own_below HO3.out hb4 (Nat.le_refl _)); have HN4 := hid (HN3.out.trans (hb4.mono HN3.out.size)); clear hb4 ho4)
  obtain ⟨g4, c4, rfl⟩ := owned_at HO4.out (by decide)
  have hg3 := (HO34.out.lt g3 rfl).2
  have hg4 := (HO4.out.lt g4 rfl).2
  have HL := hid (fun j (hj : j < 16) => (HO34.out.cellAt j (by omega)).trans (fc_get hj))
  have HM := hid (fun j (hj : j < 16) => (HO4.out.cellAt j (by omega)).trans (fc_get hj))
  skip
  skip
  clear HSPA HSPB HB0 HC0 HB3 HC3 HO3 HO34 HO4 HN3 HN4 b0 b1 b2 b3
  generalize w4 = W3 at *
  go_wp2_with fail
  go_loopw [11, 15] (fun vo vi wr => ∃ i : Nat, i ≤ 16 ∧ vi = .int .i64 i ∧ Hid (wr.ownsRow W3.heap.size 22 1 vo i (fc i R)) ∧ Hid (Below W3.heap.size W3 wr)) (fun _ vi _ => 16 - (intOf vi).toNat)
  case atStart => exact ⟨0, Nat.zero_le _, rfl, World.ownsRow_nil _ _ _ _, Below.refl _ _⟩
  case round =>
    obtain ⟨i, hin, rfl, HOW, HBW⟩ := hrel
    by_cases hlt : i < 16
    · have km := (HBW.out.cell (p := ⟨g4, i, none⟩) hg4).trans (HM.out i hlt)
      have hgm : G i < 256 := HGl.out i
      have hwm : IntKind.i64.wrap ((G i : Nat) : Int) = ((G i : Nat) : Int) := by rw [IntKind.wrap_i64]; omega
      have hri := HR.out i
      have hwr := HBW.out.size
      by_cases hp : G i < 16
      · rw [if_pos hp] at hri
        have kl := (HBW.out.cell (p := ⟨g3, G i, none⟩) hg3).trans (HL.out (G i) hp)
        have hsn : fc i R ++ [Value.int .u64 (F (G i) : Int)] = fc (i + 1) R := by have h := fc_snoc i R; rw [hri] at h; exact h
        have HSN := hid hsn
        clear hsn HR HVC hri HL HM HFl HGl
        generalize F (G i) = x at *
        generalize G i = p at *
        go_wp2_with (at_builtin; refine append_u64 rfl _ _ rfl W3.heap.size _ _ _ (x : Int) HOW.out hwr (by omega) rfl rfl ?_; intro v' w8 hown' hnx8 hsz8)
        rw [HSN.out] at hown'
        have HO8 := hid hown'
        have HB8 := hid (HBW.out.trans hnx8)
        clear hown' hnx8 hsz8
        go_roundw
        case rel => exact ⟨i + 1, hlt, rfl, HO8, HB8⟩
        case measure => (simp [intOf]; omega)
      · rw [if_neg hp] at hri
        have hsn : fc i R ++ [Value.int .u64 (0 : Int)] = fc (i + 1) R := by have h := fc_snoc i R; rw [hri] at h; exact h
        have HSN := hid hsn
        clear hsn HR HVC hri HL HM HFl HGl
        generalize G i = p at *
        go_wp2_with (at_builtin; refine append_u64 rfl _ _ rfl W3.heap.size _ _ _ (0 : Int) HOW.out hwr (by omega) rfl rfl ?_; intro v' w8 hown' hnx8 hsz8)
        rw [HSN.out] at hown'
        have HO8 := hid hown'
        have HB8 := hid (HBW.out.trans hnx8)
        clear hown' hnx8 hsz8
        go_roundw
        case rel => exact ⟨i + 1, hlt, rfl, HO8, HB8⟩
        case measure => (simp [intOf]; omega)
    · obtain rfl : i = 16 := by omega
      have HRW := hid (RowAt.of_own HOW.out (by decide))
      have HBE := hid (HB4.out.trans (HBW.out.mono HB4.out.size))
      have HCC := hid (HC4.out.call HBW.out)
      go_wp2_with (go_at_call 129; (with_reducible refine (HVC _ _ HRW.out).out.mono ?_); rintro e w9 ⟨rfl, hb9⟩; have hC9 := HCC.out.call hb9; have HB9 := hid (HBE.out.trans (hb9.mono HBE.out.size)); have r0 := hC9.at (k := 0) (v := .int .i64 0) rfl; have r1 := hC9.at (k := 1) (v := .int .u64 0) rfl; have r2 := hC9.at (k := 2) (v := .int .u64 0) rfl; have r3 := hC9.at (k := 3) (v := .bool false) rfl; have f0 := hC9.free 0; have f1 := hC9.free 1; have f2 := hC9.free 2; have f3 := hC9.free 3; clear hb9 hC9)
      refine bodyPost_ret (v := .agg #[.int .i64 123, .int .u64 (l2 : Nat), .int .u64 (h2' : Nat), .bool false]) ?_ rfl ⟨rfl, (((HB9.out.setCell (p := ⟨w.heap.size, 0, none⟩) (Nat.le_refl _) _).setCell (p := ⟨w.heap.size, 1, none⟩) (Nat.le_refl _) _).setCell (p := ⟨w.heap.size, 2, none⟩) (Nat.le_refl _) _).setCell (p := ⟨w.heap.size, 3, none⟩) (Nat.le_refl _) _⟩
      simp [results, Tryz.results125, go_sem, r0, r1, r2, r3]
set_option maxHeartbeats 8000000 in
theorem chosen_shuf (lo hi : Nat) (nl : Bool) (h1 : lo < 18446744073709551616) (h2 : hi < 18446744073709551616) (blo bhi : Nat) (bnl : Bool) (h3 : blo < 18446744073709551616) (h4 : bhi < 18446744073709551616) (gi ci : Nat) (P : Nat → Nat) (va : Value) (w : World) (ha : AR w va [(123, lo, hi, nl), (123, blo, bhi, bnl)]) (hgl : gi < w.heap.size) (hP : ∀ i, i < 16 → w.cell? ⟨gi, i, none⟩ = some (.int .i64 (P i : Nat)) ∧ P i < 32) :
    Calls Tryz.prog 125 #[.int .i64 8, .string (str [115, 104, 117, 102, 102, 108, 101]), .slice (some ⟨gi, 0, none⟩) 16 ci, va] w fun e w' => e = .returned (vv 123 (loF 8 (fun i => if P i < 16 then splitF 8 lo hi (P i) else splitF 8 blo bhi (P i - 16))) (hiF 8 (fun i => if P i < 16 then splitF 8 lo hi (P i) else splitF 8 blo bhi (P i - 16))) false) ∧ Below w.heap.size w w' := by
  obtain ⟨sw, hsw⟩ : ∃ sw, sw = str [115, 104, 117, 102, 102, 108, 101] := ⟨_, rfl⟩
  rw [← hsw]
  have q0 : (sw.toList == [115, 112, 108, 97, 116]) = false := by rw [hsw, str_list]; decide
  have q1 : (sw.toList == [101, 120, 116, 114, 97, 99, 116, 95, 108, 97, 110, 101, 95, 115]) = false := by rw [hsw, str_list]; decide
  have q2 : (sw.toList == [101, 120, 116, 114, 97, 99, 116, 95, 108, 97, 110, 101]) = false := by rw [hsw, str_list]; decide
  have q3 : (sw.toList == [101, 120, 116, 114, 97, 99, 116, 95, 108, 97, 110, 101, 95, 117]) = false := by rw [hsw, str_list]; decide
  have q4 : (sw.toList == [114, 101, 112, 108, 97, 99, 101, 95, 108, 97, 110, 101]) = false := by rw [hsw, str_list]; decide
  have q9 : (sw.toList == [115, 104, 117, 102, 102, 108, 101]) = true := by rw [hsw, str_list]; decide
  clear hsw
  have HSPA : ∀ W, Hid (Calls Tryz.prog 126 #[.int .i64 8, .agg #[.int .i64 123, .int .u64 (lo : Nat), .int .u64 (hi : Nat), .bool nl]] W (LPost W 16 (splitF 8 lo hi))) := fun W => hid (RSplit_says 8 (by decide) 123 lo hi nl h1 h2 W)
  have HSPB : ∀ W, Hid (Calls Tryz.prog 126 #[.int .i64 8, .agg #[.int .i64 123, .int .u64 (blo : Nat), .int .u64 (bhi : Nat), .bool bnl]] W (LPost W 16 (splitF 8 blo bhi))) := fun W => hid (RSplit_says 8 (by decide) 123 blo bhi bnl h3 h4 W)
  have HFl := hid (fun i => splitF_lt 8 lo hi i)
  have HGl := hid (fun i => splitF_lt 8 blo bhi i)
  obtain ⟨R, hR⟩ : ∃ R : Nat → Nat, R = fun i => if P i < 16 then splitF 8 lo hi (P i) else splitF 8 blo bhi (P i - 16) := ⟨_, rfl⟩
  rw [← hR]
  have HR := hid (fun i : Nat => congrFun hR i)
  have HRL : ∀ i, R i < 18446744073709551616 := fun i => by
    rw [HR.out i]
    have e1 := fun j => HFl.out j
    have e2 := fun j => HGl.out j
    show (if _ then _ else _) < _
    split
    · exact Nat.lt_of_lt_of_le (e1 _) (by decide)
    · exact Nat.lt_of_lt_of_le (e2 _) (by decide)
  have HVC : ∀ v W, RowAt W v 16 R → Hid (Calls Tryz.prog 129 #[.int .i64 8, v] W fun e w' => e = .returned (vv 123 (loF 8 R) (hiF 8 R) false) ∧ Below W.heap.size W w') := fun v W h => hid (RVector_says 8 (by decide) v 16 (by decide) (by decide) R W h (fun i _ => HRL i))
  generalize splitF 8 lo hi = F at *
  generalize splitF 8 blo bhi = G at *
  obtain ⟨l2, hl2⟩ : ∃ l2, l2 = loF 8 R := ⟨_, rfl⟩
  obtain ⟨h2', hh2⟩ : ∃ h2', h2' = hiF 8 R := ⟨_, rfl⟩
  rw [← hl2, ← hh2]
  rw [← hl2, ← hh2] at HVC
  unfold vv at HVC ⊢
  have HP := hid hP
  clear h1 h2 h3 h4 hl2 hh2 HRL hR hP
  go_enter Tryz.func125, Tryz.ntmps125
  go_upto_region 1 with fail
  have HC0 := hid (CA.new w #[.int .i64 0, .int .u64 0, .int .u64 0, .bool false] 24)
  have HB0 := hid ((Below.refl _ w).alloc (Nat.le_refl _) (.cells #[.int .i64 0, .int .u64 0, .int .u64 0, .bool false] 24))
  have HA0 := hid (ha.call HB0.out)
  have HP0 := hid (show ∀ i, i < 16 → (w.alloc (.cells #[.int .i64 0, .int .u64 0, .int .u64 0, .bool false] 24)).cell? ⟨gi, i, none⟩ = some (.int .i64 (P i : Nat)) ∧ P i < 32 from fun i hi => ⟨(HB0.out.cell (p := ⟨gi, i, none⟩) hgl).trans (HP.out i hi).1, (HP.out i hi).2⟩)
  have hgl0 := Nat.lt_of_lt_of_le hgl HB0.out.size
  clear ha HP hgl
  generalize w.alloc (.cells #[.int .i64 0, .int .u64 0, .int .u64 0, .bool false] 24) = W0 at *
  obtain ⟨ga, ca, rfl, hga, hca, hata⟩ := HA0.out
  obtain ⟨a00, a01, a02, a03⟩ := hata 0 (123, lo, hi, nl) rfl
  obtain ⟨a10, a11, a12, a13⟩ := hata 1 (123, blo, bhi, bnl) rfl
  simp only [Nat.zero_mul, Nat.zero_add, Nat.one_mul, Nat.reduceMul, Nat.reduceAdd] at a00 a01 a02 a03 a10 a11 a12 a13
  simp only [List.length_cons, List.length_nil, Nat.zero_add, Nat.reduceAdd] at hca ⊢
  clear hata HA0
  go_upto_region 2 with (go_at_call 126; (with_reducible refine (HSPA _).out.mono ?_); rintro e w3 ⟨v3, rfl, ho3, hb3⟩; have HO3 := hid ho3; have HB3 := hid (HB0.out.trans (hb3.mono HB0.out.size)); have HC3 := hid (HC0.out.call hb3); have HN3 := hid hb3; clear hb3 ho3)
  have b0 := (HN3.out.cell (p := ⟨ga, 4, none⟩) hga).trans a10
  have b1 := (HN3.out.cell (p := ⟨ga, 5, none⟩) hga).trans a11
  have b2 := (HN3.out.cell (p := ⟨ga, 6, none⟩) hga).trans a12
  have b3 := (HN3.out.cell (p := ⟨ga, 7, none⟩) hga).trans a13
  clear a00 a01 a02 a03 a10 a11 a12 a13
  obtain ⟨g3, c3, rfl⟩ := owned_at HO3.out (by decide)
  go_upto_region 25 with (go_at_call 126; (with_reducible refine (HSPB _).out.mono ?_); rintro e w4 ⟨v4, rfl, ho4, hb4⟩; have HO4 := hid ho4; have HB4 := hid (HB3.out.trans (hb4.mono HB3.out.size)); have HC4 := hid (HC3.out.call hb4); have HO34 := hid (own_below HO3.out hb4 (Nat.le_refl _)); have HN4 := hid (HN3.out.trans (hb4.mono HN3.out.size)); clear hb4 ho4)
  obtain ⟨g4, c4, rfl⟩ := owned_at HO4.out (by decide)
  have hg3 := (HO34.out.lt g3 rfl).2
  have hg4 := (HO4.out.lt g4 rfl).2
  have HL := hid (fun j (hj : j < 16) => (HO34.out.cellAt j (by omega)).trans (fc_get hj))
  have HM := hid (fun j (hj : j < 16) => (HO4.out.cellAt j (by omega)).trans (fc_get hj))
  have HP4 := hid (show ∀ i, i < 16 → w4.cell? ⟨gi, i, none⟩ = some (.int .i64 (P i : Nat)) ∧ P i < 32 from fun i hi => ⟨(HN4.out.cell (p := ⟨gi, i, none⟩) hgl0).trans (HP0.out i hi).1, (HP0.out i hi).2⟩)
  have hgl4 := Nat.lt_of_lt_of_le hgl0 HN4.out.size
  clear HSPA HSPB HB0 HC0 HB3 HC3 HO3 HO34 HO4 HN3 HN4 b0 b1 b2 b3 HP0
  generalize w4 = W3 at *
  go_wp2_with fail
  go_loopw [11, 15] (fun vo vi wr => ∃ i : Nat, i ≤ 16 ∧ vi = .int .i64 i ∧ Hid (wr.ownsRow W3.heap.size 22 1 vo i (fc i R)) ∧ Hid (Below W3.heap.size W3 wr)) (fun _ vi _ => 16 - (intOf vi).toNat)
  case atStart => exact ⟨0, Nat.zero_le _, rfl, World.ownsRow_nil _ _ _ _, Below.refl _ _⟩
  case round =>
    obtain ⟨i, hin, rfl, HOW, HBW⟩ := hrel
    by_cases hlt : i < 16
    · have km := (HBW.out.cell (p := ⟨g4, i, none⟩) hg4).trans (HM.out i hlt)
      have hgm : G i < 256 := HGl.out i
      have hwm : IntKind.i64.wrap ((G i : Nat) : Int) = ((G i : Nat) : Int) := by rw [IntKind.wrap_i64]; omega
      have hri := HR.out i
      have hwr := HBW.out.size
      have kp := (HBW.out.cell (p := ⟨gi, i, none⟩) hgl4).trans (HP4.out i hlt).1
      have hp32 := (HP4.out i hlt).2
      by_cases hp : P i < 16
      · rw [if_pos hp] at hri
        have kl := (HBW.out.cell (p := ⟨g3, P i, none⟩) hg3).trans (HL.out (P i) hp)
        have hsn : fc i R ++ [Value.int .u64 (F (P i) : Int)] = fc (i + 1) R := by have h := fc_snoc i R; rw [hri] at h; exact h
        have HSN := hid hsn
        clear hsn HR HVC hri HL HM HP4 HFl HGl
        generalize F (P i) = x at *
        generalize P i = p at *
        generalize G i = y at *
        go_wp2_with (at_builtin; refine append_u64 rfl _ _ rfl W3.heap.size _ _ _ (x : Int) HOW.out hwr (by omega) rfl rfl ?_; intro v' w8 hown' hnx8 hsz8)
        rw [HSN.out] at hown'
        have HO8 := hid hown'
        have HB8 := hid (HBW.out.trans hnx8)
        clear hown' hnx8 hsz8
        go_roundw
        case rel => exact ⟨i + 1, hlt, rfl, HO8, HB8⟩
        case measure => (simp [intOf]; omega)
      · rw [if_neg hp] at hri
        obtain ⟨d, hd⟩ : ∃ d, d = P i - 16 := ⟨_, rfl⟩
        have hd16 : d < 16 := by omega
        have hdi : ((P i : Nat) : Int) - 16 = (d : Int) := by omega
        rw [← hd] at hri
        have kl := (HBW.out.cell (p := ⟨g4, d, none⟩) hg4).trans (HM.out d hd16)
        have hsn : fc i R ++ [Value.int .u64 (G d : Int)] = fc (i + 1) R := by have h := fc_snoc i R; rw [hri] at h; exact h
        have HSN := hid hsn
        clear hsn HR HVC hri HL HM HP4 HFl HGl hd
        generalize hxd : G d = x at *
        generalize P i = p at *
        generalize hyi : G i = y at *
        clear hxd hyi
        go_wp2_with (at_builtin; refine append_u64 rfl _ _ rfl W3.heap.size _ _ _ (x : Int) HOW.out hwr (by omega) rfl rfl ?_; intro v' w8 hown' hnx8 hsz8)
        rw [HSN.out] at hown'
        have HO8 := hid hown'
        have HB8 := hid (HBW.out.trans hnx8)
        clear hown' hnx8 hsz8
        go_roundw
        case rel => exact ⟨i + 1, hlt, rfl, HO8, HB8⟩
        case measure => (simp [intOf]; omega)
    · obtain rfl : i = 16 := by omega
      have HRW := hid (RowAt.of_own HOW.out (by decide))
      have HBE := hid (HB4.out.trans (HBW.out.mono HB4.out.size))
      have HCC := hid (HC4.out.call HBW.out)
      go_wp2_with (go_at_call 129; (with_reducible refine (HVC _ _ HRW.out).out.mono ?_); rintro e w9 ⟨rfl, hb9⟩; have hC9 := HCC.out.call hb9; have HB9 := hid (HBE.out.trans (hb9.mono HBE.out.size)); have r0 := hC9.at (k := 0) (v := .int .i64 0) rfl; have r1 := hC9.at (k := 1) (v := .int .u64 0) rfl; have r2 := hC9.at (k := 2) (v := .int .u64 0) rfl; have r3 := hC9.at (k := 3) (v := .bool false) rfl; have f0 := hC9.free 0; have f1 := hC9.free 1; have f2 := hC9.free 2; have f3 := hC9.free 3; clear hb9 hC9)
      refine bodyPost_ret (v := .agg #[.int .i64 123, .int .u64 (l2 : Nat), .int .u64 (h2' : Nat), .bool false]) ?_ rfl ⟨rfl, (((HB9.out.setCell (p := ⟨w.heap.size, 0, none⟩) (Nat.le_refl _) _).setCell (p := ⟨w.heap.size, 1, none⟩) (Nat.le_refl _) _).setCell (p := ⟨w.heap.size, 2, none⟩) (Nat.le_refl _) _).setCell (p := ⟨w.heap.size, 3, none⟩) (Nat.le_refl _) _⟩
      simp [results, Tryz.results125, go_sem, r0, r1, r2, r3]
end Go.Proofs.YtlhakbkdlgejpaaGreatDoor
namespace Go.Proofs.YtlhakbkdlgejpaaGreatDoor
open Go.RowKit
theorem store4 {g : Nat} {x0 x1 x2 x3 : Value} {T : TypeId} {W : World} (h : CA g #[x0, x1, x2, x3] T W) (a b c d : Value) : CA g #[a, b, c, d] T ((((W.setCell ⟨g, 0, none⟩ a).setCell ⟨g, 1, none⟩ b).setCell ⟨g, 2, none⟩ c).setCell ⟨g, 3, none⟩ d) :=
  (((h.set (k := 0) a).set (k := 1) b).set (k := 2) c).set (k := 3) d
set_option maxHeartbeats 4000000 in
theorem Do_num32 (op : Int) (nm : List UInt8) (hnm : (lineL op).1 = str nm) (vb : List UInt8) (ff : Bool) (fb : Int) (tf : Bool) (n : Int) (sg : Bool) (hpar : parV nm = insV vb ff fb tf n sg) (hn1 : nm.length ≤ 1000) (hok : ((xsL nm).2 == 0) = false → 0 ≤ laL6 nm) (hlb : lbL op = [127])
    (vi va : Value) (w : World) (hg : Glob w) (Hfit : ∀ W, Below w.heap.size w W → Calls Tryz.prog 30 #[.int .i64 op, vi, va] W fun e w' => e = .returned (.bool true) ∧ Below W.heap.size W w')
    (r : Nat) (hr : r < 18446744073709551616) (Hnum : ∀ W, Below w.heap.size w W → Calls Tryz.prog 36 #[insV vb ff fb tf n sg, vi, va] W fun e w' => e = .returned (.int .u64 (r : Nat)) ∧ Below W.heap.size W w') :
    Calls Tryz.prog 20 #[.int .i64 op, vi, va] w fun e w' => e = .returned (.tuple #[vv 127 (r % 2 ^ 32) 0 false, .int .i64 0]) ∧ Below w.heap.size w w' := by
  have HFI := fun W h => hid (Hfit W h)
  have HN := fun W => hid (Name_says op W)
  rw [hnm] at HN
  have HP := fun W => hid (parsed_says nm hn1 hok W)
  rw [hpar] at HP
  have HSG := fun W (h : Glob W) => hid (Sign_any op W h)
  rw [hlb] at HSG
  have HV := fun W h => hid (Hnum W h)
  have HCU := fun W => hid (lcut_any 32 (by right; right; left; rfl) r hr W)
  have hr2 : r % 2 ^ 32 < 18446744073709551616 := Nat.lt_of_le_of_lt (Nat.mod_le _ _) hr
  obtain ⟨rr, hr2e⟩ : ∃ rr, rr = r % 2 ^ 32 := ⟨_, rfl⟩
  rw [← hr2e] at HCU hr2 ⊢
  have HCU : ∀ W, Hid (Calls Tryz.prog 35 #[.int .i64 32, .int .u64 (r : Nat)] W fun e w' => e = .returned (.int .u64 (rr : Nat)) ∧ W = w') := HCU
  have HGL := hid hg
  unfold insV at HP HV
  unfold vv
  generalize laL op = la at *
  generalize fxB (lineL op) = fx at *
  generalize str nm = s at *
  generalize str vb = s2 at *
  clear hnm hpar hn1 hok hlb hg Hfit Hnum hr2e
  go_enter Tryz.func20, Tryz.ntmps20
  go_upto_region 5 with (first
    | (go_at_call 30; refine (HFI _ ((Below.refl _ w).alloc (Nat.le_refl _) _)).out.mono ?_; rintro e w1 ⟨rfl, hb1⟩; have HR1 := hid (below_new hb1); clear hb1)
    | (go_at_call 32; refine (HN _).out.mono ?_; rintro e w2 ⟨rfl, hb2⟩; have HR2 := hid (And.intro (HR1.out.1.call hb2) (HR1.out.2.trans (hb2.mono HR1.out.2.size))); clear hb2)
    | (go_at_call 31; refine (HP _).out.mono ?_; rintro e w3 ⟨rfl, hb3⟩; have HR3 := hid (And.intro (HR2.out.1.call hb3) (HR2.out.2.trans (hb3.mono HR2.out.2.size))); clear hb3)
    | (go_at_call 33; refine (HSG _ (HGL.out.next (HR3.out.2.alloc HR3.out.2.size _))).out.mono ?_; rintro e w5 ⟨v1, v2, B2, rfl, ho1, ho2, hB2, hsep, hb⟩; have HL := hid ho2; have HN5 := hid (below_new hb); clear hb ho1 ho2 hB2 hsep))
  obtain ⟨gt, ct, rfl⟩ : ∃ g cap, v2 = .slice (some ⟨g, 0, none⟩) 1 cap := owned_at HL.out (Nat.le_refl _)
  have k0 : w5.cell? ⟨gt, 0, none⟩ = some (.int .i64 127) := HL.out.cellAt 0 (by decide)
  have hX : CA w3.heap.size #[.string s2, .bool ff, .int .i64 fb, .bool tf, .int .i64 n, .bool sg] 50 w5 := HN5.out.1
  have hR : CA w.heap.size #[.int .i64 0, .int .u64 0, .int .u64 0, .bool false] 24 w5 := HR3.out.1.call HN5.out.2
  have hB : Below w.heap.size w w5 := HR3.out.2.trans (HN5.out.2.mono HR3.out.2.size)
  have hne : w.heap.size ≠ w3.heap.size := Nat.ne_of_lt HR3.out.1.lt
  generalize w3.heap.size = g8 at *
  clear HN5 HR3 HR2 HR1 HL HSG HP HN HFI
  have x0 := hX.at (k := 0) (v := .string s2) rfl
  have x1 := hX.at (k := 1) (v := .bool ff) rfl
  have x2 := hX.at (k := 2) (v := .int .i64 fb) rfl
  have x3 := hX.at (k := 3) (v := .bool tf) rfl
  have x4 := hX.at (k := 4) (v := .int .i64 n) rfl
  have x5 := hX.at (k := 5) (v := .bool sg) rfl
  have HB5 := hid hB
  have HR5 := hid hR
  clear hX hB hR
  go_wp2_with (first
    | (go_at_call 36; (with_reducible refine (HV _ HB5.out).out.mono ?_); rintro e w7 ⟨rfl, hb7⟩; have HB7 := hid (HB5.out.trans (hb7.mono HB5.out.size)); have HR7 := hid (HR5.out.call hb7); have r0 := HR7.out.at (k := 0) (v := .int .i64 0) rfl; have r1 := HR7.out.at (k := 1) (v := .int .u64 0) rfl; have r2 := HR7.out.at (k := 2) (v := .int .u64 0) rfl; have r3 := HR7.out.at (k := 3) (v := .bool false) rfl; have f0 := HR7.out.free 0; have f1 := HR7.out.free 1; have f2 := HR7.out.free 2; have f3 := HR7.out.free 3; clear hb7)
    | (go_at_call 35; (with_reducible refine (HCU _).out.mono ?_); rintro e w8 ⟨rfl, rfl⟩))
  have q := store4 HR7.out (.int .i64 127) (.int .u64 (rr : Nat)) (.int .u64 0) (.bool false)
  have hb9 := ((((HB7.out.setCell (p := ⟨w.heap.size, 0, none⟩) (Nat.le_refl _) (.int .i64 127)).setCell (p := ⟨w.heap.size, 1, none⟩) (Nat.le_refl _) (.int .u64 (rr : Nat))).setCell (p := ⟨w.heap.size, 2, none⟩) (Nat.le_refl _) (.int .u64 0)).setCell (p := ⟨w.heap.size, 3, none⟩) (Nat.le_refl _) (.bool false))
  clear r0 r1 r2 r3 f0 f1 f2 f3
  generalize (((w7.setCell ⟨w.heap.size, 0, none⟩ (.int .i64 127)).setCell ⟨w.heap.size, 1, none⟩ (.int .u64 (rr : Nat))).setCell ⟨w.heap.size, 2, none⟩ (.int .u64 0)).setCell ⟨w.heap.size, 3, none⟩ (.bool false) = W3 at *
  have r0 := q.at (k := 0) (v := .int .i64 127) rfl
  have r1 := q.at (k := 1) (v := .int .u64 (rr : Nat)) rfl
  have r2 := q.at (k := 2) (v := .int .u64 0) rfl
  have r3 := q.at (k := 3) (v := .bool false) rfl
  exact bodyPost_ret (v := .tuple #[.agg #[.int .i64 127, .int .u64 (rr : Nat), .int .u64 0, .bool false], .int .i64 0]) (by simp [results, Tryz.results20, go_sem, r0, r1, r2, r3]) rfl ⟨rfl, hb9⟩
theorem cell4 {W : World} {g gt : Nat} (hn : gt ≠ g) {v a b c d : Value} (h : W.cell? ⟨gt, 0, none⟩ = some v) : ((((W.setCell ⟨g, 0, none⟩ a).setCell ⟨g, 1, none⟩ b).setCell ⟨g, 2, none⟩ c).setCell ⟨g, 3, none⟩ d).cell? ⟨gt, 0, none⟩ = some v := by
  have e : ∀ o, (⟨g, o, none⟩ : Addr) ≠ ⟨gt, 0, none⟩ := fun o hh => hn (by have := congrArg Addr.block hh; exact this.symm)
  rw [World.cell?_setCell_other (h := e 3), World.cell?_setCell_other (h := e 2), World.cell?_setCell_other (h := e 1), World.cell?_setCell_other (h := e 0)]
  exact h
set_option maxHeartbeats 4000000 in
theorem Do_num64 (op : Int) (nm : List UInt8) (hnm : (lineL op).1 = str nm) (vb : List UInt8) (ff : Bool) (fb : Int) (tf : Bool) (n : Int) (sg : Bool) (hpar : parV nm = insV vb ff fb tf n sg) (hn1 : nm.length ≤ 1000) (hok : ((xsL nm).2 == 0) = false → 0 ≤ laL6 nm) (hlb : lbL op = [126])
    (vi va : Value) (w : World) (hg : Glob w) (Hfit : ∀ W, Below w.heap.size w W → Calls Tryz.prog 30 #[.int .i64 op, vi, va] W fun e w' => e = .returned (.bool true) ∧ Below W.heap.size W w')
    (r : Nat) (hr : r < 18446744073709551616) (Hnum : ∀ W, Below w.heap.size w W → Calls Tryz.prog 36 #[insV vb ff fb tf n sg, vi, va] W fun e w' => e = .returned (.int .u64 (r : Nat)) ∧ Below W.heap.size W w') :
    Calls Tryz.prog 20 #[.int .i64 op, vi, va] w fun e w' => e = .returned (.tuple #[vv 126 r 0 false, .int .i64 0]) ∧ Below w.heap.size w w' := by
  have HFI := fun W h => hid (Hfit W h)
  have HN := fun W => hid (Name_says op W)
  rw [hnm] at HN
  have HP := fun W => hid (parsed_says nm hn1 hok W)
  rw [hpar] at HP
  have HSG := fun W (h : Glob W) => hid (Sign_any op W h)
  rw [hlb] at HSG
  have HV := fun W h => hid (Hnum W h)
  have HGL := hid hg
  unfold insV at HP HV
  unfold vv
  generalize laL op = la at *
  generalize fxB (lineL op) = fx at *
  generalize str nm = s at *
  generalize str vb = s2 at *
  clear hnm hpar hn1 hok hlb hg Hfit Hnum
  go_enter Tryz.func20, Tryz.ntmps20
  go_upto_region 5 with (first
    | (go_at_call 30; refine (HFI _ ((Below.refl _ w).alloc (Nat.le_refl _) _)).out.mono ?_; rintro e w1 ⟨rfl, hb1⟩; have HR1 := hid (below_new hb1); clear hb1)
    | (go_at_call 32; refine (HN _).out.mono ?_; rintro e w2 ⟨rfl, hb2⟩; have HR2 := hid (And.intro (HR1.out.1.call hb2) (HR1.out.2.trans (hb2.mono HR1.out.2.size))); clear hb2)
    | (go_at_call 31; refine (HP _).out.mono ?_; rintro e w3 ⟨rfl, hb3⟩; have HR3 := hid (And.intro (HR2.out.1.call hb3) (HR2.out.2.trans (hb3.mono HR2.out.2.size))); clear hb3)
    | (go_at_call 33; refine (HSG _ (HGL.out.next (HR3.out.2.alloc HR3.out.2.size _))).out.mono ?_; rintro e w5 ⟨v1, v2, B2, rfl, ho1, ho2, hB2, hsep, hb⟩; have HL := hid ho2; have HJB := hid (Nat.lt_of_lt_of_le (HR3.out.1.alloc _).lt hB2); have HN5 := hid (below_new hb); clear hb ho1 ho2 hB2 hsep))
  obtain ⟨gt, ct, rfl⟩ : ∃ g cap, v2 = .slice (some ⟨g, 0, none⟩) 1 cap := owned_at HL.out (Nat.le_refl _)
  have hgtne : gt ≠ w.heap.size := Nat.ne_of_gt (Nat.lt_of_lt_of_le HJB.out (HL.out.lt gt rfl).1)
  have k0 : w5.cell? ⟨gt, 0, none⟩ = some (.int .i64 126) := HL.out.cellAt 0 (by decide)
  have hX : CA w3.heap.size #[.string s2, .bool ff, .int .i64 fb, .bool tf, .int .i64 n, .bool sg] 50 w5 := HN5.out.1
  have hR : CA w.heap.size #[.int .i64 0, .int .u64 0, .int .u64 0, .bool false] 24 w5 := HR3.out.1.call HN5.out.2
  have hB : Below w.heap.size w w5 := HR3.out.2.trans (HN5.out.2.mono HR3.out.2.size)
  have hne : w.heap.size ≠ w3.heap.size := Nat.ne_of_lt HR3.out.1.lt
  generalize w3.heap.size = g8 at *
  clear HN5 HR3 HR2 HR1 HL HSG HP HN HFI
  have hngt : gt ≠ w.heap.size := hgtne
  go_upto_region 10 with fail
  have hS : Below w.heap.size w w5.drew ∧ CA g8 #[.string s2, .bool ff, .int .i64 fb, .bool tf, .int .i64 n, .bool sg] 50 w5.drew ∧ w5.drew.cell? ⟨gt, 0, none⟩ = some (.int .i64 126) := ⟨hB.drew, hX.drew, k0⟩
  have HJW : CA w.heap.size #[.int .i64 0, .int .u64 0, .int .u64 0, .bool false] 24 w5.drew := hR.drew
  clear k0 hX hR hB
  refine wp_region_held_drew (S := fun W => Below w.heap.size w W ∧ CA g8 #[.string s2, .bool ff, .int .i64 fb, .bool tf, .int .i64 n, .bool sg] 50 W ∧ W.cell? ⟨gt, 0, none⟩ = some (.int .i64 126)) (by kernel_rfl) hS (fun _ => ?_)
  generalize w5.drew = W at *
  refine wpAnyH_take (oi := ⟨_, _, _, _, _, _⟩) (i := 0) (v := .slice (some ⟨gt, 0, none⟩) 1 ct) rfl (by kernel_rfl) (by kernel_rfl) (by kernel_rfl) (fun _ _ _ h => h) (Or.inl ⟨by rfl, ?_⟩) (by assumption) ?_
  · (intro W hSw; have x0 := hSw.2.1.at (k := 0) (v := .string s2) rfl; have x1 := hSw.2.1.at (k := 1) (v := .bool ff) rfl; have x2 := hSw.2.1.at (k := 2) (v := .int .i64 fb) rfl; have x3 := hSw.2.1.at (k := 3) (v := .bool tf) rfl; have x4 := hSw.2.1.at (k := 4) (v := .int .i64 n) rfl; have x5 := hSw.2.1.at (k := 5) (v := .bool sg) rfl; have y0 := hSw.2.2; go_simp; try (with_reducible rfl))
  try simp only [Act.put, List.setIfInBounds_toArray, List.set_cons_zero, List.set_cons_succ]
  refine wpAnyH_take (oi := ⟨_, _, _, _, _, _⟩) (i := 1) (v := .pointer (some ⟨gt, 0, none⟩)) rfl (by kernel_rfl) (by kernel_rfl) (by kernel_rfl) (fun _ _ _ h => h) (Or.inl ⟨by rfl, ?_⟩) (by assumption) ?_
  · (intro W hSw; have x0 := hSw.2.1.at (k := 0) (v := .string s2) rfl; have x1 := hSw.2.1.at (k := 1) (v := .bool ff) rfl; have x2 := hSw.2.1.at (k := 2) (v := .int .i64 fb) rfl; have x3 := hSw.2.1.at (k := 3) (v := .bool tf) rfl; have x4 := hSw.2.1.at (k := 4) (v := .int .i64 n) rfl; have x5 := hSw.2.1.at (k := 5) (v := .bool sg) rfl; have y0 := hSw.2.2; go_simp; try (with_reducible rfl))
  try simp only [Act.put, List.setIfInBounds_toArray, List.set_cons_zero, List.set_cons_succ]
  refine wpAnyH_take (oi := ⟨_, _, _, _, _, _⟩) (i := 2) (v := .int .i64 126) rfl (by kernel_rfl) (by kernel_rfl) (by kernel_rfl) (fun _ _ _ h => h) (Or.inl ⟨by rfl, ?_⟩) (by assumption) ?_
  · (intro W hSw; have x0 := hSw.2.1.at (k := 0) (v := .string s2) rfl; have x1 := hSw.2.1.at (k := 1) (v := .bool ff) rfl; have x2 := hSw.2.1.at (k := 2) (v := .int .i64 fb) rfl; have x3 := hSw.2.1.at (k := 3) (v := .bool tf) rfl; have x4 := hSw.2.1.at (k := 4) (v := .int .i64 n) rfl; have x5 := hSw.2.1.at (k := 5) (v := .bool sg) rfl; have y0 := hSw.2.2; go_simp; try (with_reducible rfl))
  try simp only [Act.put, List.setIfInBounds_toArray, List.set_cons_zero, List.set_cons_succ]
  refine wpAnyH_take (oi := ⟨_, _, _, _, _, _⟩) (i := 3) (v := .agg #[.string s2, .bool ff, .int .i64 fb, .bool tf, .int .i64 n, .bool sg]) rfl (by kernel_rfl) (by kernel_rfl) (by kernel_rfl) (fun _ _ _ h => h) (Or.inl ⟨by rfl, ?_⟩) (by assumption) ?_
  · (intro W hSw; have x0 := hSw.2.1.at (k := 0) (v := .string s2) rfl; have x1 := hSw.2.1.at (k := 1) (v := .bool ff) rfl; have x2 := hSw.2.1.at (k := 2) (v := .int .i64 fb) rfl; have x3 := hSw.2.1.at (k := 3) (v := .bool tf) rfl; have x4 := hSw.2.1.at (k := 4) (v := .int .i64 n) rfl; have x5 := hSw.2.1.at (k := 5) (v := .bool sg) rfl; have y0 := hSw.2.2; go_simp; try (with_reducible rfl))
  try simp only [Act.put, List.setIfInBounds_toArray, List.set_cons_zero, List.set_cons_succ]
  refine wpAnyH_take (oi := ⟨_, _, _, _, _, _⟩) (i := 4) (v := vi) rfl (by kernel_rfl) (by kernel_rfl) (by kernel_rfl) (fun _ _ _ h => h) (Or.inl ⟨by rfl, ?_⟩) (by assumption) ?_
  · (intro W hSw; have x0 := hSw.2.1.at (k := 0) (v := .string s2) rfl; have x1 := hSw.2.1.at (k := 1) (v := .bool ff) rfl; have x2 := hSw.2.1.at (k := 2) (v := .int .i64 fb) rfl; have x3 := hSw.2.1.at (k := 3) (v := .bool tf) rfl; have x4 := hSw.2.1.at (k := 4) (v := .int .i64 n) rfl; have x5 := hSw.2.1.at (k := 5) (v := .bool sg) rfl; have y0 := hSw.2.2; go_simp; try (with_reducible rfl))
  try simp only [Act.put, List.setIfInBounds_toArray, List.set_cons_zero, List.set_cons_succ]
  refine wpAnyH_take (oi := ⟨_, _, _, _, _, _⟩) (i := 5) (v := va) rfl (by kernel_rfl) (by kernel_rfl) (by kernel_rfl) (fun _ _ _ h => h) (Or.inl ⟨by rfl, ?_⟩) (by assumption) ?_
  · (intro W hSw; have x0 := hSw.2.1.at (k := 0) (v := .string s2) rfl; have x1 := hSw.2.1.at (k := 1) (v := .bool ff) rfl; have x2 := hSw.2.1.at (k := 2) (v := .int .i64 fb) rfl; have x3 := hSw.2.1.at (k := 3) (v := .bool tf) rfl; have x4 := hSw.2.1.at (k := 4) (v := .int .i64 n) rfl; have x5 := hSw.2.1.at (k := 5) (v := .bool sg) rfl; have y0 := hSw.2.2; go_simp; try (with_reducible rfl))
  try simp only [Act.put, List.setIfInBounds_toArray, List.set_cons_zero, List.set_cons_succ]
  refine wpAnyH_ready (rs := [6]) (by kernel_rfl) (by simp) ?_
  refine AllReadyH.cons (o := ⟨_, _, _, _, _, _⟩) rfl (fun K hK => ?_) ?_
  · go_simp
    go_at_call 36
    (with_reducible refine (HV _ hS.1).out.mono ?_)
    rintro e W1 ⟨rfl, hb⟩
    replace hS := And.intro (hS.1.trans (hb.mono hS.1.size)) (And.intro (hS.2.1.call hb) ((hb.cell (p := ⟨gt, 0, none⟩) (World.block_lt_of_cell? _ _ hS.2.2)).trans hS.2.2))
    replace HJW := HJW.call hb
    clear hb
    refine hK.out _ _ hS (fun _ => ?_)
    clear hK K
    try simp only [Act.put, List.setIfInBounds_toArray, List.set_cons_zero, List.set_cons_succ]
    refine wpAnyH_take (oi := ⟨_, _, _, _, _, _⟩) (i := 7) (v := .agg #[.int .i64 126, .int .u64 (r : Nat), .int .u64 0, .bool false]) rfl (by kernel_rfl) (by kernel_rfl) (by kernel_rfl) (fun _ _ _ h => h) (Or.inl ⟨by rfl, ?_⟩) (by assumption) ?_
    · (intro W hSw; have x0 := hSw.2.1.at (k := 0) (v := .string s2) rfl; have x1 := hSw.2.1.at (k := 1) (v := .bool ff) rfl; have x2 := hSw.2.1.at (k := 2) (v := .int .i64 fb) rfl; have x3 := hSw.2.1.at (k := 3) (v := .bool tf) rfl; have x4 := hSw.2.1.at (k := 4) (v := .int .i64 n) rfl; have x5 := hSw.2.1.at (k := 5) (v := .bool sg) rfl; have y0 := hSw.2.2; go_simp; try (with_reducible rfl))
    try simp only [Act.put, List.setIfInBounds_toArray, List.set_cons_zero, List.set_cons_succ]
    refine wpAnyH_ready (rs := [8]) (by kernel_rfl) (by simp) ?_
    refine AllReadyH.cons (o := ⟨_, _, _, _, _, _⟩) rfl (fun K hK => ?_) ?_
    · have r0 := HJW.at (k := 0) (v := .int .i64 0) rfl
      have r1 := HJW.at (k := 1) (v := .int .u64 0) rfl
      have r2 := HJW.at (k := 2) (v := .int .u64 0) rfl
      have r3 := HJW.at (k := 3) (v := .bool false) rfl
      have f0 := HJW.free 0
      have f1 := HJW.free 1
      have f2 := HJW.free 2
      have f3 := HJW.free 3
      go_simp
      clear r0 r1 r2 r3 f0 f1 f2 f3
      have hS2 := And.intro ((((hS.1.setCell (p := ⟨w.heap.size, 0, none⟩) (Nat.le_refl _) (.int .i64 126)).setCell (p := ⟨w.heap.size, 1, none⟩) (Nat.le_refl _) (.int .u64 (r : Nat))).setCell (p := ⟨w.heap.size, 2, none⟩) (Nat.le_refl _) (.int .u64 0)).setCell (p := ⟨w.heap.size, 3, none⟩) (Nat.le_refl _) (.bool false)) (And.intro ((((hS.2.1.far (o := 0) hne (.int .i64 126)).far (o := 1) hne (.int .u64 (r : Nat))).far (o := 2) hne (.int .u64 0)).far (o := 3) hne (.bool false)) (cell4 (a := .int .i64 126) (b := .int .u64 (r : Nat)) (c := .int .u64 0) (d := .bool false) hngt hS.2.2))
      have HJ2 := (((HJW.set (k := 0) (.int .i64 126)).set (k := 1) (.int .u64 (r : Nat))).set (k := 2) (.int .u64 0)).set (k := 3) (.bool false)
      clear hS HJW
      have hS := hS2
      have HJW := HJ2
      clear hS2 HJ2
      generalize (((W1.setCell ⟨w.heap.size, 0, none⟩ (.int .i64 126)).setCell ⟨w.heap.size, 1, none⟩ (.int .u64 (r : Nat))).setCell ⟨w.heap.size, 2, none⟩ (.int .u64 0)).setCell ⟨w.heap.size, 3, none⟩ (.bool false) = W3 at *
      refine hK.out _ _ hS (fun _ => ?_)
      clear hK K
      try simp only [Act.put, List.setIfInBounds_toArray, List.set_cons_zero, List.set_cons_succ]
      refine wpAnyH_take (oi := ⟨_, _, _, _, _, _⟩) (i := 9) (v := .int .i64 0) rfl (by kernel_rfl) (by kernel_rfl) (by kernel_rfl) (fun _ _ _ h => h) (Or.inl ⟨by rfl, ?_⟩) (by assumption) ?_
      · (intro W hSw; have x0 := hSw.2.1.at (k := 0) (v := .string s2) rfl; have x1 := hSw.2.1.at (k := 1) (v := .bool ff) rfl; have x2 := hSw.2.1.at (k := 2) (v := .int .i64 fb) rfl; have x3 := hSw.2.1.at (k := 3) (v := .bool tf) rfl; have x4 := hSw.2.1.at (k := 4) (v := .int .i64 n) rfl; have x5 := hSw.2.1.at (k := 5) (v := .bool sg) rfl; have y0 := hSw.2.2; go_simp; try (with_reducible rfl))
      try simp only [Act.put, List.setIfInBounds_toArray, List.set_cons_zero, List.set_cons_succ]
      refine wpAnyH_done (by kernel_rfl) ?_ _
      have r0 := HJW.at (k := 0) (v := .int .i64 126) rfl
      have r1 := HJW.at (k := 1) (v := .int .u64 (r : Nat)) rfl
      have r2 := HJW.at (k := 2) (v := .int .u64 0) rfl
      have r3 := HJW.at (k := 3) (v := .bool false) rfl
      go_wp2_with fail
      exact bodyPost_ret (v := .tuple #[.agg #[.int .i64 126, .int .u64 (r : Nat), .int .u64 0, .bool false], .int .i64 0]) (by simp [results, Tryz.results20, go_sem, r0, r1, r2, r3]) rfl ⟨rfl, hS.1⟩
    exact AllReadyH.nil
  exact AllReadyH.nil
end Go.Proofs.YtlhakbkdlgejpaaGreatDoor
namespace Go.Proofs.YtlhakbkdlgejpaaGreatDoor
open Go.RowKit
def LS : List (List UInt8) := [[108, 111, 97, 100, 56], [115, 116, 111, 114, 101, 56], [108, 111, 97, 100, 49, 54], [115, 116, 111, 114, 101, 49, 54], [108, 111, 97, 100, 51, 50], [115, 116, 111, 114, 101, 51, 50], [108, 111, 97, 100, 54, 52], [115, 116, 111, 114, 101, 54, 52]]
def SZ : List Int := [1, 1, 2, 2, 4, 4, 8, 8]
def firstOf (nm : List UInt8) (L : List (List UInt8)) : Nat → Nat → Option Nat
  | _, 0 => none
  | i, k + 1 => if hasL nm (L.getD i []) then some i else firstOf nm L (i + 1) k
def lastOf (nm : List UInt8) : Int := if nm.take 3 = [105, 54, 52] then 8 else if nm.take 3 = [102, 54, 52] then 8 else if nm.take 3 = [118, 49, 50] then 16 else 4
def bytesN (nm : List UInt8) : Int :=
  if hasL nm [56, 120, 56] || hasL nm [49, 54, 120, 52] || hasL nm [51, 50, 120, 50] then 8 else
    match firstOf nm LS 0 8 with
    | some i => SZ.getD i 0
    | none => lastOf nm
def bytesL (r : Rw) : Int := if r.1 < 0 then 0 else if r.2.2.1 ≠ 10 ∧ r.2.2.1 ≠ 26 then 0 else bytesN r.2.1
def refAlign (b : Int) : Int := if b = 1 then 0 else if b = 2 then 1 else if b = 4 then 2 else if b = 8 then 3 else if b = 16 then 4 else -1
def SH : List (List UInt8) := [[105, 56, 120, 49, 54], [105, 49, 54, 120, 56], [105, 51, 50, 120, 52], [105, 54, 52, 120, 50], [102, 51, 50, 120, 52], [102, 54, 52, 120, 50]]
def SN : List Int := [16, 8, 4, 2, 4, 2]
def refLanes (r : Rw) : Int :=
  if r.1 < 0 then 0 else if r.2.2.1 = 24 then 32 else if r.2.2.1 = 26 then Int.tdiv 16 (bytesL r) else if r.2.2.1 = 25 then
    (match firstOf r.2.1 SH 0 6 with
    | some i => SN.getD i 0
    | none => 0)
  else 0
theorem first_none (nm : List UInt8) (L : List (List UInt8)) : ∀ (k i : Nat), (∀ j, i ≤ j → j < i + k → hasL nm (L.getD j []) = false) → firstOf nm L i k = none
  | 0, _, _ => rfl
  | k + 1, i, h => by
    unfold firstOf
    rw [h i (Nat.le_refl _) (by omega)]
    exact first_none nm L k (i + 1) fun j h1 h2 => h j (by omega) (by omega)
theorem first_some (nm : List UInt8) (L : List (List UInt8)) : ∀ (k i n : Nat), i ≤ n → n < i + k → (∀ j, i ≤ j → j < n → hasL nm (L.getD j []) = false) → hasL nm (L.getD n []) = true → firstOf nm L i k = some n
  | 0, _, _, _, _, _, _ => by omega
  | k + 1, i, n, h0, h1, h, ht => by
    unfold firstOf
    by_cases e : i = n
    · subst e; rw [ht]; rfl
    · rw [h i (Nat.le_refl _) (by omega)]
      exact first_some nm L k (i + 1) n (by omega) (by omega) (fun j h1 h2 => h j (by omega) h2) ht
noncomputable def agreeP (op : Int) : Bool :=
  let r := ofL op
  (alignL op == refAlign (bytesL r)) && (lanesL op == refLanes r) && decide (r.2.1.length ≤ 100) && (decide (r.1 < 0) || !(r.2.2.1 == 10 || r.2.2.1 == 26) || decide (3 ≤ r.2.1.length)) && (decide (r.1 < 0) || !(r.2.2.1 == 26) || decide (0 < bytesL r))
set_option maxRecDepth 100000 in
theorem agreeP_all : (rangeOps.all agreeP) = true := by kernel_rfl
theorem agreeP_any (op : Int) : agreeP op = true := by
  by_cases h : op ∈ rangeOps
  · exact List.all_eq_true.1 agreeP_all op h
  · have e1 := lineL_out op h
    have e2 : ofL op = rw0 := by unfold ofL; rw [text_out op h]; rfl
    have e3 : alignL op = -1 := by unfold alignL; rw [e1]; rfl
    have e4 : lanesL op = 0 := by unfold lanesL; rw [e1]; rfl
    unfold agreeP
    rw [e3, e4, e2]
    rfl
theorem agreeP_parts (op : Int) {r : Rw} (h : ofL op = r) : alignL op = refAlign (bytesL r) ∧ lanesL op = refLanes r ∧ r.2.1.length ≤ 100 ∧ (0 ≤ r.1 → r.2.2.1 = 10 ∨ r.2.2.1 = 26 → 3 ≤ r.2.1.length) ∧ (0 ≤ r.1 → r.2.2.1 = 26 → 0 < bytesL r) := by
  have := agreeP_any op
  unfold agreeP at this
  rw [h] at this
  simp only [Bool.and_eq_true, decide_eq_true_eq, beq_iff_eq, Bool.or_eq_true, Bool.not_eq_true', Bool.or_eq_false_iff, beq_eq_false_iff_ne] at this
  obtain ⟨⟨⟨⟨h1, h2⟩, h3⟩, h4⟩, h5⟩ := this
  refine ⟨h1, h2, h3, fun h0 hi => ?_, fun h0 hi => ?_⟩
  · rcases h4 with (h4 | h4) | h4
    · omega
    · rcases hi with hi | hi
      · exact absurd hi h4.1
      · exact absurd hi h4.2
    · exact h4
  · rcases h5 with (h5 | h5) | h5
    · omega
    · exact absurd hi h5
    · exact h5
end Go.Proofs.YtlhakbkdlgejpaaGreatDoor
