/-
  LCRef: merged, what the law does not reach left out (each text says what it holds where it lies in wip). No condition.
-/
import Derived.Test.YtlhakbkdlgejpaaGreatDoorH14
import Derived.Test.YtlhakbkdlgejpaaGreatDoorH11
import Derived.Test.YtlhakbkdlgejpaaGreatDoorH13
import Derived.Test.YtlhakbkdlgejpaaGreatDoorH07
import Derived.Test.YtlhakbkdlgejpaaGreatDoorH12
import Derived.Test.YtlhakbkdlgejpaaGreatDoorH01
import Derived.Deep.QuietTactic
import Derived.BigQuiet
set_option linter.unusedSimpArgs false
set_option linter.unusedVariables false
set_option maxRecDepth 100000
namespace Go.Proofs.YtlhakbkdlgejpaaGreatDoor
open Go.RowKit
set_option maxHeartbeats 8000000 in
theorem chosen_xs (n : Nat) (hn : Okn n) (lo hi : Nat) (nl : Bool) (h1 : lo < 18446744073709551616) (h2 : hi < 18446744073709551616) (gi ci at_ : Nat) (hat : at_ < cnt n) (va : Value) (w : World) (ha : AR w va [(123, lo, hi, nl)]) (hgi : w.cell? ⟨gi, 0, none⟩ = some (.int .i64 at_)) :
    Calls Tryz.prog 125 #[.int .i64 n, .string (str [101, 120, 116, 114, 97, 99, 116, 95, 108, 97, 110, 101, 95, 115]), .slice (some ⟨gi, 0, none⟩) 1 ci, va] w fun e w' => e = .returned (vv 0 (extF n true (splitF n lo hi at_)) 0 false) ∧ Below w.heap.size w w' := by
  obtain ⟨sw, hsw⟩ : ∃ sw, sw = str [101, 120, 116, 114, 97, 99, 116, 95, 108, 97, 110, 101, 95, 115] := ⟨_, rfl⟩
  rw [← hsw]
  have q_splat : (sw.toList == [115, 112, 108, 97, 116]) = false := by rw [hsw, str_list]; decide
  have q_extract_lane_s : (sw.toList == [101, 120, 116, 114, 97, 99, 116, 95, 108, 97, 110, 101, 95, 115]) = true := by rw [hsw, str_list]; decide
  clear hsw
  have hnn := hn.cases
  obtain ⟨c, hc⟩ : ∃ c, c = cnt n := ⟨_, rfl⟩
  have hd1 : (128 : Int).tdiv (n : Int) = (c : Int) := by rcases hn with rfl | rfl | rfl | rfl <;> (rw [hc]; rfl)
  have hd2 : (128 : Int) / (n : Int) = (c : Int) := by rcases hn with rfl | rfl | rfl | rfl <;> (rw [hc]; rfl)
  have hn0 : ((n : Int) == 0) = false := by simp; omega
  have hn1 : ¬ ((n : Int) = 0) := by omega
  have hc1 : 1 ≤ c := by omega
  have hc16 : c ≤ 16 := by omega
  obtain ⟨F, hF⟩ : ∃ F, F = splitF n lo hi := ⟨_, rfl⟩
  have HSP : ∀ W, Hid (Calls Tryz.prog 126 #[.int .i64 n, .agg #[.int .i64 123, .int .u64 (lo : Nat), .int .u64 (hi : Nat), .bool nl]] W (LPost W c F)) := fun W => by rw [hc, hF]; exact hid (RSplit_says n hn 123 lo hi nl h1 h2 W)
  have hx64 : F at_ < 18446744073709551616 := by rw [hF]; exact splitF_u64 hn _ _ _
  rw [← hF]
  rw [← hc] at hat
  have HSG := fun W => hid (RSigned_ok n hn (F at_) hx64 W)
  have hz := (show IntKind.u64.wrap (sg n (F at_ % 2 ^ n)) = ((extF n true (F at_) : Nat) : Int) from u64_toN _)
  generalize extF n true (F at_) = ex at *
  generalize sg n (F at_ % 2 ^ n) = z at *
  have hgil := World.block_lt_of_cell? _ _ hgi
  unfold vv
  clear hn hnn hF hc hx64 h1 h2
  go_enter Tryz.func125, Tryz.ntmps125
  go_upto_region 1 with fail
  have HC0 := hid (CA.new w #[.int .i64 0, .int .u64 0, .int .u64 0, .bool false] 24)
  have HB0 := hid ((Below.refl _ w).alloc (Nat.le_refl _) (.cells #[.int .i64 0, .int .u64 0, .int .u64 0, .bool false] 24))
  have HA0 := hid (ha.call HB0.out)
  have hgi0 := (HB0.out.cell (p := ⟨gi, 0, none⟩) hgil).trans hgi
  have hgil0 := Nat.lt_of_lt_of_le hgil HB0.out.size
  clear ha hgi hgil
  generalize w.alloc (.cells #[.int .i64 0, .int .u64 0, .int .u64 0, .bool false] 24) = W0 at *
  obtain ⟨ga, ca, rfl, hga, hca, hata⟩ := HA0.out
  obtain ⟨a00, a01, a02, a03⟩ := hata 0 (123, lo, hi, nl) rfl
  simp only [Nat.zero_mul, Nat.zero_add, Nat.one_mul, Nat.reduceMul, Nat.reduceAdd] at a00 a01 a02 a03
  simp only [List.length_cons, List.length_nil, Nat.zero_add, Nat.reduceAdd] at hca ⊢
  clear hata HA0
  go_wp2_with (first
    | (go_at_call 126; (with_reducible refine (HSP _).out.mono ?_); rintro e w3 ⟨v3, rfl, ho3, hb3⟩; obtain ⟨g3, c3, rfl⟩ := owned_at ho3 hc1; have k3 : w3.cell? ⟨g3, at_, none⟩ = some (.int .u64 (F at_ : Nat)) := (ho3.cellAt at_ (by omega)).trans (fc_get hat); have hgi3 := (hb3.cell (p := ⟨gi, 0, none⟩) hgil0).trans hgi0; have hC := HC0.out.call hb3; have HB3 := hid (HB0.out.trans (hb3.mono HB0.out.size)); have r0 := hC.at (k := 0) (v := .int .i64 0) rfl; have r1 := hC.at (k := 1) (v := .int .u64 0) rfl; have r2 := hC.at (k := 2) (v := .int .u64 0) rfl; have r3 := hC.at (k := 3) (v := .bool false) rfl; have f0 := hC.free 0; have f1 := hC.free 1; have f2 := hC.free 2; have f3 := hC.free 3; clear hb3 ho3 hC)
    | (go_at_call 143; (with_reducible refine (HSG _).out.mono ?_); rintro e w4 ⟨rfl, rfl⟩))
  refine bodyPost_ret (v := .agg #[.int .i64 0, .int .u64 (ex : Nat), .int .u64 0, .bool false]) ?_ rfl ⟨rfl, (((HB3.out.setCell (p := ⟨w.heap.size, 0, none⟩) (Nat.le_refl _) _).setCell (p := ⟨w.heap.size, 1, none⟩) (Nat.le_refl _) _).setCell (p := ⟨w.heap.size, 2, none⟩) (Nat.le_refl _) _).setCell (p := ⟨w.heap.size, 3, none⟩) (Nat.le_refl _) _⟩
  simp [results, Tryz.results125, go_sem, r0, r1, r2, r3]
set_option maxHeartbeats 8000000 in
theorem chosen_x (n : Nat) (hn : Okn n) (lo hi : Nat) (nl : Bool) (h1 : lo < 18446744073709551616) (h2 : hi < 18446744073709551616) (gi ci at_ : Nat) (hat : at_ < cnt n) (va : Value) (w : World) (ha : AR w va [(123, lo, hi, nl)]) (hgi : w.cell? ⟨gi, 0, none⟩ = some (.int .i64 at_)) :
    Calls Tryz.prog 125 #[.int .i64 n, .string (str [101, 120, 116, 114, 97, 99, 116, 95, 108, 97, 110, 101]), .slice (some ⟨gi, 0, none⟩) 1 ci, va] w fun e w' => e = .returned (vv 0 (splitF n lo hi at_) 0 false) ∧ Below w.heap.size w w' := by
  obtain ⟨sw, hsw⟩ : ∃ sw, sw = str [101, 120, 116, 114, 97, 99, 116, 95, 108, 97, 110, 101] := ⟨_, rfl⟩
  rw [← hsw]
  have q_splat : (sw.toList == [115, 112, 108, 97, 116]) = false := by rw [hsw, str_list]; decide
  have q_extract_lane_s : (sw.toList == [101, 120, 116, 114, 97, 99, 116, 95, 108, 97, 110, 101, 95, 115]) = false := by rw [hsw, str_list]; decide
  have q_extract_lane : (sw.toList == [101, 120, 116, 114, 97, 99, 116, 95, 108, 97, 110, 101]) = true := by rw [hsw, str_list]; decide
  clear hsw
  have hnn := hn.cases
  obtain ⟨c, hc⟩ : ∃ c, c = cnt n := ⟨_, rfl⟩
  have hd1 : (128 : Int).tdiv (n : Int) = (c : Int) := by rcases hn with rfl | rfl | rfl | rfl <;> (rw [hc]; rfl)
  have hd2 : (128 : Int) / (n : Int) = (c : Int) := by rcases hn with rfl | rfl | rfl | rfl <;> (rw [hc]; rfl)
  have hn0 : ((n : Int) == 0) = false := by simp; omega
  have hn1 : ¬ ((n : Int) = 0) := by omega
  have hc1 : 1 ≤ c := by omega
  have hc16 : c ≤ 16 := by omega
  obtain ⟨F, hF⟩ : ∃ F, F = splitF n lo hi := ⟨_, rfl⟩
  have HSP : ∀ W, Hid (Calls Tryz.prog 126 #[.int .i64 n, .agg #[.int .i64 123, .int .u64 (lo : Nat), .int .u64 (hi : Nat), .bool nl]] W (LPost W c F)) := fun W => by rw [hc, hF]; exact hid (RSplit_says n hn 123 lo hi nl h1 h2 W)
  have hx64 : F at_ < 18446744073709551616 := by rw [hF]; exact splitF_u64 hn _ _ _
  rw [← hF]
  rw [← hc] at hat
  have hgil := World.block_lt_of_cell? _ _ hgi
  unfold vv
  clear hn hnn hF hc hx64 h1 h2
  go_enter Tryz.func125, Tryz.ntmps125
  go_upto_region 1 with fail
  have HC0 := hid (CA.new w #[.int .i64 0, .int .u64 0, .int .u64 0, .bool false] 24)
  have HB0 := hid ((Below.refl _ w).alloc (Nat.le_refl _) (.cells #[.int .i64 0, .int .u64 0, .int .u64 0, .bool false] 24))
  have HA0 := hid (ha.call HB0.out)
  have hgi0 := (HB0.out.cell (p := ⟨gi, 0, none⟩) hgil).trans hgi
  have hgil0 := Nat.lt_of_lt_of_le hgil HB0.out.size
  clear ha hgi hgil
  generalize w.alloc (.cells #[.int .i64 0, .int .u64 0, .int .u64 0, .bool false] 24) = W0 at *
  obtain ⟨ga, ca, rfl, hga, hca, hata⟩ := HA0.out
  obtain ⟨a00, a01, a02, a03⟩ := hata 0 (123, lo, hi, nl) rfl
  simp only [Nat.zero_mul, Nat.zero_add, Nat.one_mul, Nat.reduceMul, Nat.reduceAdd] at a00 a01 a02 a03
  simp only [List.length_cons, List.length_nil, Nat.zero_add, Nat.reduceAdd] at hca ⊢
  clear hata HA0
  go_wp2_with (first
    | (go_at_call 126; (with_reducible refine (HSP _).out.mono ?_); rintro e w3 ⟨v3, rfl, ho3, hb3⟩; obtain ⟨g3, c3, rfl⟩ := owned_at ho3 hc1; have k3 : w3.cell? ⟨g3, at_, none⟩ = some (.int .u64 (F at_ : Nat)) := (ho3.cellAt at_ (by omega)).trans (fc_get hat); have hgi3 := (hb3.cell (p := ⟨gi, 0, none⟩) hgil0).trans hgi0; have hC := HC0.out.call hb3; have HB3 := hid (HB0.out.trans (hb3.mono HB0.out.size)); have r0 := hC.at (k := 0) (v := .int .i64 0) rfl; have r1 := hC.at (k := 1) (v := .int .u64 0) rfl; have r2 := hC.at (k := 2) (v := .int .u64 0) rfl; have r3 := hC.at (k := 3) (v := .bool false) rfl; have f0 := hC.free 0; have f1 := hC.free 1; have f2 := hC.free 2; have f3 := hC.free 3; clear hb3 ho3 hC))
  refine bodyPost_ret (v := .agg #[.int .i64 0, .int .u64 (F at_ : Nat), .int .u64 0, .bool false]) ?_ rfl ⟨rfl, (((HB3.out.setCell (p := ⟨w.heap.size, 0, none⟩) (Nat.le_refl _) _).setCell (p := ⟨w.heap.size, 1, none⟩) (Nat.le_refl _) _).setCell (p := ⟨w.heap.size, 2, none⟩) (Nat.le_refl _) _).setCell (p := ⟨w.heap.size, 3, none⟩) (Nat.le_refl _) _⟩
  simp [results, Tryz.results125, go_sem, r0, r1, r2, r3]
set_option maxHeartbeats 8000000 in
theorem chosen_xu (n : Nat) (hn : Okn n) (lo hi : Nat) (nl : Bool) (h1 : lo < 18446744073709551616) (h2 : hi < 18446744073709551616) (gi ci at_ : Nat) (hat : at_ < cnt n) (va : Value) (w : World) (ha : AR w va [(123, lo, hi, nl)]) (hgi : w.cell? ⟨gi, 0, none⟩ = some (.int .i64 at_)) :
    Calls Tryz.prog 125 #[.int .i64 n, .string (str [101, 120, 116, 114, 97, 99, 116, 95, 108, 97, 110, 101, 95, 117]), .slice (some ⟨gi, 0, none⟩) 1 ci, va] w fun e w' => e = .returned (vv 0 (splitF n lo hi at_) 0 false) ∧ Below w.heap.size w w' := by
  obtain ⟨sw, hsw⟩ : ∃ sw, sw = str [101, 120, 116, 114, 97, 99, 116, 95, 108, 97, 110, 101, 95, 117] := ⟨_, rfl⟩
  rw [← hsw]
  have q_splat : (sw.toList == [115, 112, 108, 97, 116]) = false := by rw [hsw, str_list]; decide
  have q_extract_lane_s : (sw.toList == [101, 120, 116, 114, 97, 99, 116, 95, 108, 97, 110, 101, 95, 115]) = false := by rw [hsw, str_list]; decide
  have q_extract_lane : (sw.toList == [101, 120, 116, 114, 97, 99, 116, 95, 108, 97, 110, 101]) = false := by rw [hsw, str_list]; decide
  have q_extract_lane_u : (sw.toList == [101, 120, 116, 114, 97, 99, 116, 95, 108, 97, 110, 101, 95, 117]) = true := by rw [hsw, str_list]; decide
  clear hsw
  have hnn := hn.cases
  obtain ⟨c, hc⟩ : ∃ c, c = cnt n := ⟨_, rfl⟩
  have hd1 : (128 : Int).tdiv (n : Int) = (c : Int) := by rcases hn with rfl | rfl | rfl | rfl <;> (rw [hc]; rfl)
  have hd2 : (128 : Int) / (n : Int) = (c : Int) := by rcases hn with rfl | rfl | rfl | rfl <;> (rw [hc]; rfl)
  have hn0 : ((n : Int) == 0) = false := by simp; omega
  have hn1 : ¬ ((n : Int) = 0) := by omega
  have hc1 : 1 ≤ c := by omega
  have hc16 : c ≤ 16 := by omega
  obtain ⟨F, hF⟩ : ∃ F, F = splitF n lo hi := ⟨_, rfl⟩
  have HSP : ∀ W, Hid (Calls Tryz.prog 126 #[.int .i64 n, .agg #[.int .i64 123, .int .u64 (lo : Nat), .int .u64 (hi : Nat), .bool nl]] W (LPost W c F)) := fun W => by rw [hc, hF]; exact hid (RSplit_says n hn 123 lo hi nl h1 h2 W)
  have hx64 : F at_ < 18446744073709551616 := by rw [hF]; exact splitF_u64 hn _ _ _
  rw [← hF]
  rw [← hc] at hat
  have hgil := World.block_lt_of_cell? _ _ hgi
  unfold vv
  clear hn hnn hF hc hx64 h1 h2
  go_enter Tryz.func125, Tryz.ntmps125
  go_upto_region 1 with fail
  have HC0 := hid (CA.new w #[.int .i64 0, .int .u64 0, .int .u64 0, .bool false] 24)
  have HB0 := hid ((Below.refl _ w).alloc (Nat.le_refl _) (.cells #[.int .i64 0, .int .u64 0, .int .u64 0, .bool false] 24))
  have HA0 := hid (ha.call HB0.out)
  have hgi0 := (HB0.out.cell (p := ⟨gi, 0, none⟩) hgil).trans hgi
  have hgil0 := Nat.lt_of_lt_of_le hgil HB0.out.size
  clear ha hgi hgil
  generalize w.alloc (.cells #[.int .i64 0, .int .u64 0, .int .u64 0, .bool false] 24) = W0 at *
  obtain ⟨ga, ca, rfl, hga, hca, hata⟩ := HA0.out
  obtain ⟨a00, a01, a02, a03⟩ := hata 0 (123, lo, hi, nl) rfl
  simp only [Nat.zero_mul, Nat.zero_add, Nat.one_mul, Nat.reduceMul, Nat.reduceAdd] at a00 a01 a02 a03
  simp only [List.length_cons, List.length_nil, Nat.zero_add, Nat.reduceAdd] at hca ⊢
  clear hata HA0
  go_wp2_with (first
    | (go_at_call 126; (with_reducible refine (HSP _).out.mono ?_); rintro e w3 ⟨v3, rfl, ho3, hb3⟩; obtain ⟨g3, c3, rfl⟩ := owned_at ho3 hc1; have k3 : w3.cell? ⟨g3, at_, none⟩ = some (.int .u64 (F at_ : Nat)) := (ho3.cellAt at_ (by omega)).trans (fc_get hat); have hgi3 := (hb3.cell (p := ⟨gi, 0, none⟩) hgil0).trans hgi0; have hC := HC0.out.call hb3; have HB3 := hid (HB0.out.trans (hb3.mono HB0.out.size)); have r0 := hC.at (k := 0) (v := .int .i64 0) rfl; have r1 := hC.at (k := 1) (v := .int .u64 0) rfl; have r2 := hC.at (k := 2) (v := .int .u64 0) rfl; have r3 := hC.at (k := 3) (v := .bool false) rfl; have f0 := hC.free 0; have f1 := hC.free 1; have f2 := hC.free 2; have f3 := hC.free 3; clear hb3 ho3 hC))
  refine bodyPost_ret (v := .agg #[.int .i64 0, .int .u64 (F at_ : Nat), .int .u64 0, .bool false]) ?_ rfl ⟨rfl, (((HB3.out.setCell (p := ⟨w.heap.size, 0, none⟩) (Nat.le_refl _) _).setCell (p := ⟨w.heap.size, 1, none⟩) (Nat.le_refl _) _).setCell (p := ⟨w.heap.size, 2, none⟩) (Nat.le_refl _) _).setCell (p := ⟨w.heap.size, 3, none⟩) (Nat.le_refl _) _⟩
  simp [results, Tryz.results125, go_sem, r0, r1, r2, r3]
set_option maxHeartbeats 8000000 in
theorem chosen_splat (n : Nat) (hn : Okn n) (T : Int) (nn : Nat) (h1 : nn < 18446744073709551616) (h2 : 0 < 18446744073709551616) (vi : Value) (va : Value) (w : World) (ha : AR w va [(T, nn, 0, false)]) :
    Calls Tryz.prog 125 #[.int .i64 n, .string (str [115, 112, 108, 97, 116]), vi, va] w fun e w' => e = .returned (vv 123 (loF n (fun _ => nn)) (hiF n (fun _ => nn)) false) ∧ Below w.heap.size w w' := by
  obtain ⟨sw, hsw⟩ : ∃ sw, sw = str [115, 112, 108, 97, 116] := ⟨_, rfl⟩
  rw [← hsw]
  have q_splat : (sw.toList == [115, 112, 108, 97, 116]) = true := by rw [hsw, str_list]; decide
  clear hsw
  have hnn := hn.cases
  obtain ⟨c, hc⟩ : ∃ c, c = cnt n := ⟨_, rfl⟩
  have hd1 : (128 : Int).tdiv (n : Int) = (c : Int) := by rcases hn with rfl | rfl | rfl | rfl <;> (rw [hc]; rfl)
  have hd2 : (128 : Int) / (n : Int) = (c : Int) := by rcases hn with rfl | rfl | rfl | rfl <;> (rw [hc]; rfl)
  have hn0 : ((n : Int) == 0) = false := by simp; omega
  have hn1 : ¬ ((n : Int) = 0) := by omega
  have hc1 : 1 ≤ c := by omega
  have hc16 : c ≤ 16 := by omega
  obtain ⟨F, hF⟩ : ∃ F, F = splitF n nn 0 := ⟨_, rfl⟩
  have HSP : ∀ W, Hid (Calls Tryz.prog 126 #[.int .i64 n, .agg #[.int .i64 T, .int .u64 (nn : Nat), .int .u64 0, .bool false]] W (LPost W c F)) := fun W => by rw [hc, hF]; exact hid (RSplit_says n hn T nn 0 false h1 h2 W)
  have hFl : ∀ i, F i < 18446744073709551616 := fun i => by rw [hF]; exact splitF_u64 hn _ _ _
  obtain ⟨R, hR⟩ : ∃ R : Nat → Nat, R = fun _ => nn := ⟨_, rfl⟩
  rw [← hR]
  skip
  have HR := hid (fun i : Nat => congrFun hR i)
  have HRL : ∀ i, R i < 18446744073709551616 := fun i => by
    rw [HR.out i]
    exact h1
  have HVC : ∀ v W, RowAt W v c R → Hid (Calls Tryz.prog 129 #[.int .i64 n, v] W fun e w' => e = .returned (vv 123 (loF n R) (hiF n R) false) ∧ Below W.heap.size W w') := fun v W h => hid (RVector_says n hn v c (by omega) (by omega) R W h (fun i _ => HRL i))
  obtain ⟨l2, hl2⟩ : ∃ l2, l2 = loF n R := ⟨_, rfl⟩
  obtain ⟨h2', hh2⟩ : ∃ h2', h2' = hiF n R := ⟨_, rfl⟩
  rw [← hl2, ← hh2]
  rw [← hl2, ← hh2] at HVC
  unfold vv at HVC ⊢
  clear hn hnn hF hc h1 h2 hl2 hh2 HRL hFl hR
  go_enter Tryz.func125, Tryz.ntmps125
  go_upto_region 1 with fail
  have HC0 := hid (CA.new w #[.int .i64 0, .int .u64 0, .int .u64 0, .bool false] 24)
  have HB0 := hid ((Below.refl _ w).alloc (Nat.le_refl _) (.cells #[.int .i64 0, .int .u64 0, .int .u64 0, .bool false] 24))
  have HA0 := hid (ha.call HB0.out)
  clear ha
  generalize w.alloc (.cells #[.int .i64 0, .int .u64 0, .int .u64 0, .bool false] 24) = W0 at *
  obtain ⟨ga, ca, rfl, hga, hca, hata⟩ := HA0.out
  obtain ⟨a00, a01, a02, a03⟩ := hata 0 (T, nn, 0, false) rfl
  simp only [Nat.zero_mul, Nat.zero_add, Nat.one_mul, Nat.reduceMul, Nat.reduceAdd] at a00 a01 a02 a03
  simp only [List.length_cons, List.length_nil, Nat.zero_add, Nat.reduceAdd] at hca ⊢
  clear hata HA0
  go_upto_region 6 with (go_at_call 126; (with_reducible refine (HSP _).out.mono ?_); rintro e w3 ⟨v3, rfl, ho3, hb3⟩; have HB3 := hid (HB0.out.trans (hb3.mono HB0.out.size)); have HC3 := hid (HC0.out.call hb3); have k1 := (hb3.cell (p := ⟨ga, 1, none⟩) hga).trans a01; have hga3 := Nat.lt_of_lt_of_le hga hb3.size; clear hb3 ho3)
  generalize w3 = W3 at *
  clear HSP HB0 HC0
  go_wp2_with fail
  go_loopw [11, 12] (fun vo vi wr => ∃ i : Nat, i ≤ c ∧ vi = .int .i64 i ∧ Hid (wr.ownsRow W3.heap.size 22 1 vo i (fc i R)) ∧ Hid (Below W3.heap.size W3 wr)) (fun _ vi _ => c - (intOf vi).toNat)
  case atStart => exact ⟨0, Nat.zero_le _, rfl, World.ownsRow_nil _ _ _ _, Below.refl _ _⟩
  case round =>
    obtain ⟨i, hin, rfl, HOW, HBW⟩ := hrel
    by_cases hlt : i < c
    · have kk := (HBW.out.cell (p := ⟨ga, 1, none⟩) hga3).trans k1
      have hsn : fc i R ++ [Value.int .u64 (nn : Int)] = fc (i + 1) R := by have h := fc_snoc i R; rw [HR.out i] at h; exact h
      have HSN := hid hsn
      have hwr := HBW.out.size
      clear hsn HR HVC
      go_wp2_with (at_builtin; refine append_u64 rfl _ _ rfl W3.heap.size _ _ _ (nn : Int) HOW.out hwr (by omega) rfl rfl ?_; intro v' w8 hown' hnx8 hsz8)
      rw [HSN.out] at hown'
      have HO8 := hid hown'
      have HB8 := hid (HBW.out.trans hnx8)
      clear hown' hnx8 hsz8
      go_roundw
      case rel => exact ⟨i + 1, hlt, rfl, HO8, HB8⟩
      case measure => (simp [intOf]; omega)
    · obtain rfl : i = c := by omega
      have HRW := hid (RowAt.of_own HOW.out hc1)
      have HBE := hid (HB3.out.trans (HBW.out.mono HB3.out.size))
      have HCC := hid (HC3.out.call HBW.out)
      go_wp2_with (go_at_call 129; (with_reducible refine (HVC _ _ HRW.out).out.mono ?_); rintro e w9 ⟨rfl, hb9⟩; have hC9 := HCC.out.call hb9; have HB9 := hid (HBE.out.trans (hb9.mono HBE.out.size)); have r0 := hC9.at (k := 0) (v := .int .i64 0) rfl; have r1 := hC9.at (k := 1) (v := .int .u64 0) rfl; have r2 := hC9.at (k := 2) (v := .int .u64 0) rfl; have r3 := hC9.at (k := 3) (v := .bool false) rfl; have f0 := hC9.free 0; have f1 := hC9.free 1; have f2 := hC9.free 2; have f3 := hC9.free 3; clear hb9 hC9)
      refine bodyPost_ret (v := .agg #[.int .i64 123, .int .u64 (l2 : Nat), .int .u64 (h2' : Nat), .bool false]) ?_ rfl ⟨rfl, (((HB9.out.setCell (p := ⟨w.heap.size, 0, none⟩) (Nat.le_refl _) _).setCell (p := ⟨w.heap.size, 1, none⟩) (Nat.le_refl _) _).setCell (p := ⟨w.heap.size, 2, none⟩) (Nat.le_refl _) _).setCell (p := ⟨w.heap.size, 3, none⟩) (Nat.le_refl _) _⟩
      simp [results, Tryz.results125, go_sem, r0, r1, r2, r3]
set_option maxHeartbeats 8000000 in
theorem chosen_rep (n : Nat) (hn : Okn n) (lo hi : Nat) (nl : Bool) (h1 : lo < 18446744073709551616) (h2 : hi < 18446744073709551616) (T : Int) (nn : Nat) (h3 : nn < 18446744073709551616) (gi ci at_ : Nat) (hat : at_ < cnt n) (va : Value) (w : World) (ha : AR w va [(123, lo, hi, nl), (T, nn, 0, false)]) (hgi : w.cell? ⟨gi, 0, none⟩ = some (.int .i64 at_)) :
    Calls Tryz.prog 125 #[.int .i64 n, .string (str [114, 101, 112, 108, 97, 99, 101, 95, 108, 97, 110, 101]), .slice (some ⟨gi, 0, none⟩) 1 ci, va] w fun e w' => e = .returned (vv 123 (loF n (fun i => if i = at_ then nn else splitF n lo hi i)) (hiF n (fun i => if i = at_ then nn else splitF n lo hi i)) false) ∧ Below w.heap.size w w' := by
  obtain ⟨sw, hsw⟩ : ∃ sw, sw = str [114, 101, 112, 108, 97, 99, 101, 95, 108, 97, 110, 101] := ⟨_, rfl⟩
  rw [← hsw]
  have q_splat : (sw.toList == [115, 112, 108, 97, 116]) = false := by rw [hsw, str_list]; decide
  have q_extract_lane_s : (sw.toList == [101, 120, 116, 114, 97, 99, 116, 95, 108, 97, 110, 101, 95, 115]) = false := by rw [hsw, str_list]; decide
  have q_extract_lane : (sw.toList == [101, 120, 116, 114, 97, 99, 116, 95, 108, 97, 110, 101]) = false := by rw [hsw, str_list]; decide
  have q_extract_lane_u : (sw.toList == [101, 120, 116, 114, 97, 99, 116, 95, 108, 97, 110, 101, 95, 117]) = false := by rw [hsw, str_list]; decide
  have q_replace_lane : (sw.toList == [114, 101, 112, 108, 97, 99, 101, 95, 108, 97, 110, 101]) = true := by rw [hsw, str_list]; decide
  clear hsw
  have hnn := hn.cases
  obtain ⟨c, hc⟩ : ∃ c, c = cnt n := ⟨_, rfl⟩
  have hd1 : (128 : Int).tdiv (n : Int) = (c : Int) := by rcases hn with rfl | rfl | rfl | rfl <;> (rw [hc]; rfl)
  have hd2 : (128 : Int) / (n : Int) = (c : Int) := by rcases hn with rfl | rfl | rfl | rfl <;> (rw [hc]; rfl)
  have hn0 : ((n : Int) == 0) = false := by simp; omega
  have hn1 : ¬ ((n : Int) = 0) := by omega
  have hc1 : 1 ≤ c := by omega
  have hc16 : c ≤ 16 := by omega
  obtain ⟨F, hF⟩ : ∃ F, F = splitF n lo hi := ⟨_, rfl⟩
  have HSP : ∀ W, Hid (Calls Tryz.prog 126 #[.int .i64 n, .agg #[.int .i64 123, .int .u64 (lo : Nat), .int .u64 (hi : Nat), .bool nl]] W (LPost W c F)) := fun W => by rw [hc, hF]; exact hid (RSplit_says n hn 123 lo hi nl h1 h2 W)
  have hFl : ∀ i, F i < 18446744073709551616 := fun i => by rw [hF]; exact splitF_u64 hn _ _ _
  obtain ⟨R, hR⟩ : ∃ R : Nat → Nat, R = fun i => if i = at_ then nn else splitF n lo hi i := ⟨_, rfl⟩
  rw [← hR]
  rw [← hF] at hR
  have HR := hid (fun i : Nat => congrFun hR i)
  have HRL : ∀ i, R i < 18446744073709551616 := fun i => by
    rw [HR.out i]
    split; exact h3; exact hFl i
  have HVC : ∀ v W, RowAt W v c R → Hid (Calls Tryz.prog 129 #[.int .i64 n, v] W fun e w' => e = .returned (vv 123 (loF n R) (hiF n R) false) ∧ Below W.heap.size W w') := fun v W h => hid (RVector_says n hn v c (by omega) (by omega) R W h (fun i _ => HRL i))
  obtain ⟨l2, hl2⟩ : ∃ l2, l2 = loF n R := ⟨_, rfl⟩
  obtain ⟨h2', hh2⟩ : ∃ h2', h2' = hiF n R := ⟨_, rfl⟩
  rw [← hl2, ← hh2]
  rw [← hl2, ← hh2] at HVC
  unfold vv at HVC ⊢
  have hgil := World.block_lt_of_cell? _ _ hgi
  clear hn hnn hF hc h1 h2 h3 hl2 hh2 HRL hFl hR hat
  go_enter Tryz.func125, Tryz.ntmps125
  go_upto_region 1 with fail
  have HC0 := hid (CA.new w #[.int .i64 0, .int .u64 0, .int .u64 0, .bool false] 24)
  have HB0 := hid ((Below.refl _ w).alloc (Nat.le_refl _) (.cells #[.int .i64 0, .int .u64 0, .int .u64 0, .bool false] 24))
  have HA0 := hid (ha.call HB0.out)
  have hgi0 := (HB0.out.cell (p := ⟨gi, 0, none⟩) hgil).trans hgi
  have hgil0 := Nat.lt_of_lt_of_le hgil HB0.out.size
  clear ha hgi hgil
  generalize w.alloc (.cells #[.int .i64 0, .int .u64 0, .int .u64 0, .bool false] 24) = W0 at *
  obtain ⟨ga, ca, rfl, hga, hca, hata⟩ := HA0.out
  obtain ⟨a00, a01, a02, a03⟩ := hata 0 (123, lo, hi, nl) rfl
  obtain ⟨a10, a11, a12, a13⟩ := hata 1 (T, nn, 0, false) rfl
  simp only [Nat.zero_mul, Nat.zero_add, Nat.one_mul, Nat.reduceMul, Nat.reduceAdd] at a00 a01 a02 a03 a10 a11 a12 a13
  simp only [List.length_cons, List.length_nil, Nat.zero_add, Nat.reduceAdd] at hca ⊢
  clear hata HA0
  go_upto_region 17 with (go_at_call 126; (with_reducible refine (HSP _).out.mono ?_); rintro e w3 ⟨v3, rfl, ho3, hb3⟩; have HB3 := hid (HB0.out.trans (hb3.mono HB0.out.size)); have HC3 := hid (HC0.out.call hb3); have k1 := (hb3.cell (p := ⟨ga, 5, none⟩) hga).trans a11; have hga3 := Nat.lt_of_lt_of_le hga hb3.size; have kg := (hb3.cell (p := ⟨gi, 0, none⟩) hgil0).trans hgi0; have hgi3 := Nat.lt_of_lt_of_le hgil0 hb3.size; obtain ⟨g3, c3, rfl⟩ := owned_at ho3 hc1; have hg3 := (ho3.lt g3 rfl).2; have HL := hid (fun j (hj : j < c) => (ho3.cellAt j (by omega)).trans (fc_get hj)); clear hb3 ho3)
  generalize w3 = W3 at *
  clear HSP HB0 HC0
  go_wp2_with fail
  go_loopw [11, 13] (fun vo vi wr => ∃ i : Nat, i ≤ c ∧ vi = .int .i64 i ∧ Hid (wr.ownsRow W3.heap.size 22 1 vo i (fc i R)) ∧ Hid (Below W3.heap.size W3 wr)) (fun _ vi _ => c - (intOf vi).toNat)
  case atStart => exact ⟨0, Nat.zero_le _, rfl, World.ownsRow_nil _ _ _ _, Below.refl _ _⟩
  case round =>
    obtain ⟨i, hin, rfl, HOW, HBW⟩ := hrel
    by_cases hlt : i < c
    · have kk := (HBW.out.cell (p := ⟨ga, 5, none⟩) hga3).trans k1
      have kg' := (HBW.out.cell (p := ⟨gi, 0, none⟩) hgi3).trans kg
      have kl := (HBW.out.cell (p := ⟨g3, i, none⟩) hg3).trans (HL.out i hlt)
      have hri := HR.out i
      have hwr := HBW.out.size
      by_cases hia : i = at_
      · rw [if_pos hia] at hri
        have hsn : fc i R ++ [Value.int .u64 (nn : Int)] = fc (i + 1) R := by have h := fc_snoc i R; rw [hri] at h; exact h
        have HSN := hid hsn
        have heq : ((i : Int) = (at_ : Int)) := by omega
        have heq2 : ((i : Int) == (at_ : Int)) = true := by simpa using heq
        clear hsn HR HVC hri HL kl heq
        subst hia
        go_wp2_with (at_builtin; refine append_u64 rfl _ _ rfl W3.heap.size _ _ _ (nn : Int) HOW.out hwr (by omega) rfl rfl ?_; intro v' w8 hown' hnx8 hsz8)
        rw [HSN.out] at hown'
        have HO8 := hid hown'
        have HB8 := hid (HBW.out.trans hnx8)
        clear hown' hnx8 hsz8
        go_roundw
        case rel => exact ⟨i + 1, hlt, rfl, HO8, HB8⟩
        case measure => (simp [intOf]; omega)
      · rw [if_neg hia] at hri
        have hsn : fc i R ++ [Value.int .u64 (F i : Int)] = fc (i + 1) R := by have h := fc_snoc i R; rw [hri] at h; exact h
        have HSN := hid hsn
        have heq2 : ((i : Int) == (at_ : Int)) = false := by simp; omega
        clear hsn HR HVC hri HL
        generalize F i = x at *
        go_wp2_with (at_builtin; refine append_u64 rfl _ _ rfl W3.heap.size _ _ _ (x : Int) HOW.out hwr (by omega) rfl rfl ?_; intro v' w8 hown' hnx8 hsz8)
        rw [HSN.out] at hown'
        have HO8 := hid hown'
        have HB8 := hid (HBW.out.trans hnx8)
        clear hown' hnx8 hsz8
        go_roundw
        case rel => exact ⟨i + 1, hlt, rfl, HO8, HB8⟩
        case measure => (simp [intOf]; omega)
    · obtain rfl : i = c := by omega
      have HRW := hid (RowAt.of_own HOW.out hc1)
      have HBE := hid (HB3.out.trans (HBW.out.mono HB3.out.size))
      have HCC := hid (HC3.out.call HBW.out)
      go_wp2_with (go_at_call 129; (with_reducible refine (HVC _ _ HRW.out).out.mono ?_); rintro e w9 ⟨rfl, hb9⟩; have hC9 := HCC.out.call hb9; have HB9 := hid (HBE.out.trans (hb9.mono HBE.out.size)); have r0 := hC9.at (k := 0) (v := .int .i64 0) rfl; have r1 := hC9.at (k := 1) (v := .int .u64 0) rfl; have r2 := hC9.at (k := 2) (v := .int .u64 0) rfl; have r3 := hC9.at (k := 3) (v := .bool false) rfl; have f0 := hC9.free 0; have f1 := hC9.free 1; have f2 := hC9.free 2; have f3 := hC9.free 3; clear hb9 hC9)
      refine bodyPost_ret (v := .agg #[.int .i64 123, .int .u64 (l2 : Nat), .int .u64 (h2' : Nat), .bool false]) ?_ rfl ⟨rfl, (((HB9.out.setCell (p := ⟨w.heap.size, 0, none⟩) (Nat.le_refl _) _).setCell (p := ⟨w.heap.size, 1, none⟩) (Nat.le_refl _) _).setCell (p := ⟨w.heap.size, 2, none⟩) (Nat.le_refl _) _).setCell (p := ⟨w.heap.size, 3, none⟩) (Nat.le_refl _) _⟩
      simp [results, Tryz.results125, go_sem, r0, r1, r2, r3]
end Go.Proofs.YtlhakbkdlgejpaaGreatDoor
