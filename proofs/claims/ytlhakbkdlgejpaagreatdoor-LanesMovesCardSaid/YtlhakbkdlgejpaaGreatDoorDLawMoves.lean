/-
  The walk of the law LanesMoves. Condition: the tables; the arguments are of their types.
-/
import Derived.Test.YtlhakbkdlgejpaaGreatDoorL13
import Derived.Test.YtlhakbkdlgejpaaGreatDoorDLMAgree
import Derived.Test.YtlhakbkdlgejpaaGreatDoorDLMSome
set_option linter.unusedSimpArgs false
set_option linter.unusedVariables false
namespace Go.Proofs.YtlhakbkdlgejpaaGreatDoor
open Go.RowKit

set_option maxRecDepth 100000 in
theorem row_Moves (w : World) : ∀ j, j < LMoves.length → (w.alloc (.cells #[.int .i64 107, .int .i64 108, .int .i64 109, .int .i64 139, .int .i64 140, .int .i64 141, .int .i64 171, .int .i64 172, .int .i64 173, .int .i64 203, .int .i64 204, .int .i64 205] 3)).cell? ⟨w.heap.size, j, none⟩ = some (.int .i64 (LMoves.getD j 0)) := fun j hj => by
  have h := CA.new w #[.int .i64 107, .int .i64 108, .int .i64 109, .int .i64 139, .int .i64 140, .int .i64 141, .int .i64 171, .int .i64 172, .int .i64 173, .int .i64 203, .int .i64 204, .int .i64 205] 3
  have hj : j < 12 := hj
  have e : ∀ i : Fin 12, (#[.int .i64 107, .int .i64 108, .int .i64 109, .int .i64 139, .int .i64 140, .int .i64 141, .int .i64 171, .int .i64 172, .int .i64 173, .int .i64 203, .int .i64 204, .int .i64 205] : Array Value)[i.val]? = some (.int .i64 (LMoves.getD i.val 0)) := by
    intro i
    rcases i with ⟨i, hi⟩; rcases (show i = 0 ∨ i = 1 ∨ i = 2 ∨ i = 3 ∨ i = 4 ∨ i = 5 ∨ i = 6 ∨ i = 7 ∨ i = 8 ∨ i = 9 ∨ i = 10 ∨ i = 11 by omega) with rfl | rfl | rfl | rfl | rfl | rfl | rfl | rfl | rfl | rfl | rfl | rfl <;> rfl
  exact h.at (k := j) (e ⟨j, hj⟩)
set_option maxHeartbeats 4000000 in
set_option maxRecDepth 100000 in
theorem some_Moves (which : Int) (hw0 : -9223372036854775808 ≤ which) (hw1 : which ≤ 9223372036854775807) (ta tb tc : Int) (alo ahi blo bhi clo chi : Nat) (anl bnl cnl : Bool) (h1 : alo < 18446744073709551616) (h2 : ahi < 18446744073709551616) (h3 : blo < 18446744073709551616) (h4 : bhi < 18446744073709551616) (nn : Nat) (hnn : nn < 18446744073709551616) (w : World) (hg : Glob w) :
    Calls Tryz.prog 21 #[.slice (some ⟨w.heap.size, 0, none⟩) 12 12, .int .i64 which, vv ta alo ahi anl, vv tb blo bhi bnl, vv tc clo chi cnl, .int .u64 (nn : Nat)] (w.alloc (.cells #[.int .i64 107, .int .i64 108, .int .i64 109, .int .i64 139, .int .i64 140, .int .i64 141, .int .i64 171, .int .i64 172, .int .i64 173, .int .i64 203, .int .i64 204, .int .i64 205] 3)) fun e w' => e = .returned (.bool true) ∧ Below w.heap.size w w' := by
  obtain ⟨y, _, hy⟩ := and_1023 which
  have hi : y % LMoves.length < LMoves.length := Nat.mod_lt _ (by decide)
  have hmem : LMoves.getD (y % LMoves.length) 0 ∈ LMoves := by
    rw [List.getD_eq_getElem?_getD, List.getElem?_eq_getElem hi]
    exact List.getElem_mem hi
  have hchk : chkMov (64768 + LMoves.getD (y % LMoves.length) 0) = true := List.all_eq_true.1 moves_all _ hmem
  obtain ⟨op, hop⟩ : ∃ op, op = 64768 + LMoves.getD (y % LMoves.length) 0 := ⟨_, rfl⟩
  rw [← hop] at hchk
  have hb0 := (Below.refl _ w).alloc (Nat.le_refl _) (.cells #[.int .i64 107, .int .i64 108, .int .i64 109, .int .i64 139, .int .i64 140, .int .i64 141, .int .i64 171, .int .i64 172, .int .i64 173, .int .i64 203, .int .i64 204, .int .i64 205] 3)
  obtain ⟨lo, hi', HP, HR⟩ := agree_mov op hchk alo ahi nn anl h1 h2 hnn (w.alloc (.cells #[.int .i64 107, .int .i64 108, .int .i64 109, .int .i64 139, .int .i64 140, .int .i64 141, .int .i64 171, .int .i64 172, .int .i64 173, .int .i64 203, .int .i64 204, .int .i64 205] 3)) (hg.next hb0)
  obtain ⟨n, ro, tk, lv, fx, P⟩ := PCN_of op (chkMov_c op hchk).1 (chkMov_c op hchk).2
  have H := some_vn LMoves (by decide) (by decide) w.heap.size 12 which hw0 hw1 ta tb tc alo ahi blo bhi clo chi anl bnl cnl nn (w.alloc (.cells #[.int .i64 107, .int .i64 108, .int .i64 109, .int .i64 139, .int .i64 140, .int .i64 141, .int .i64 171, .int .i64 172, .int .i64 173, .int .i64 203, .int .i64 204, .int .i64 205] 3)) (by rw [size_al]; omega) (row_Moves w) y (y % LMoves.length) hy rfl hi op hop ⟨P.lo, P.hi⟩ ro (nmL op) tk lv fx P.of P.tk1 P.tk2 lo hi' HP HR
  exact H.mono fun e w' ⟨he, hb⟩ => ⟨he, hb0.trans (hb.mono hb0.size)⟩
set_option maxHeartbeats 4000000 in
set_option maxRecDepth 100000 in
theorem law_Moves (which : Int) (hw0 : -9223372036854775808 ≤ which) (hw1 : which ≤ 9223372036854775807) (ta tb tc : Int) (alo ahi blo bhi clo chi : Nat) (anl bnl cnl : Bool) (h1 : alo < 18446744073709551616) (h2 : ahi < 18446744073709551616) (h3 : blo < 18446744073709551616) (h4 : bhi < 18446744073709551616) (nn : Nat) (hnn : nn < 18446744073709551616) (w : World) (hg : Glob w) :
    Calls Tryz.prog 4 #[.int .i64 which, vv ta alo ahi anl, vv tb blo bhi bnl, vv tc clo chi cnl, .int .u64 (nn : Nat)] w fun e w' => e = .returned (.bool true) ∧ Below w.heap.size w w' := by
  have HA := fun W h => hid (awake_says W h)
  have HS := fun W h => hid (some_Moves which hw0 hw1 ta tb tc alo ahi blo bhi clo chi anl bnl cnl h1 h2 h3 h4 nn hnn W h)
  have HX := hid (Bx.start w #[.int .i64 ta, .int .u64 (alo : Nat), .int .u64 (ahi : Nat), .bool anl] #[.int .i64 tb, .int .u64 (blo : Nat), .int .u64 (bhi : Nat), .bool bnl] #[.int .i64 tc, .int .u64 (clo : Nat), .int .u64 (chi : Nat), .bool cnl])
  have HAA := HA _ (hg.next HX.out.below)
  have HG := hid hg
  unfold vv at HS ⊢
  clear hg h1 h2 h3 h4 hw0 hw1 hnn
  go_enter Tryz.func4, Tryz.ntmps4
  go_upto_region 2 with (go_at_call 19; (with_reducible refine HAA.out.mono ?_); rintro e w1 ⟨rfl, hb1⟩; have HX1 := hid (HX.out.to hb1); clear hb1)
  have HS1 := HS _ (HG.out.next HX1.out.below)
  have HB1 := hid HX1.out.below
  have hsz := HX1.out.below.size
  have a0 := fun o => (HX1.out.a.alloc o).at (k := 0) (v := .int .i64 ta) rfl
  have a1 := fun o => (HX1.out.a.alloc o).at (k := 1) (v := .int .u64 (alo : Nat)) rfl
  have a2 := fun o => (HX1.out.a.alloc o).at (k := 2) (v := .int .u64 (ahi : Nat)) rfl
  have a3 := fun o => (HX1.out.a.alloc o).at (k := 3) (v := .bool anl) rfl
  have b0 := fun o => (HX1.out.b.alloc o).at (k := 0) (v := .int .i64 tb) rfl
  have b1 := fun o => (HX1.out.b.alloc o).at (k := 1) (v := .int .u64 (blo : Nat)) rfl
  have b2 := fun o => (HX1.out.b.alloc o).at (k := 2) (v := .int .u64 (bhi : Nat)) rfl
  have b3 := fun o => (HX1.out.b.alloc o).at (k := 3) (v := .bool bnl) rfl
  have c0 := fun o => (HX1.out.c.alloc o).at (k := 0) (v := .int .i64 tc) rfl
  have c1 := fun o => (HX1.out.c.alloc o).at (k := 1) (v := .int .u64 (clo : Nat)) rfl
  have c2 := fun o => (HX1.out.c.alloc o).at (k := 2) (v := .int .u64 (chi : Nat)) rfl
  have c3 := fun o => (HX1.out.c.alloc o).at (k := 3) (v := .bool cnl) rfl
  clear HX HX1 HAA HA HS HG
  go_wp2_with (go_at_call 21; (with_reducible refine HS1.out.mono ?_); rintro e w2 ⟨rfl, hb2⟩; have HB2 := hid (HB1.out.trans (hb2.mono hsz)); clear hb2)
  go_ret
  exact ⟨rfl, HB2.out⟩
end Go.Proofs.YtlhakbkdlgejpaaGreatDoor
