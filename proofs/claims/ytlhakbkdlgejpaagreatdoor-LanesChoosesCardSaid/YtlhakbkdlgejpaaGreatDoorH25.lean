/-
  LawChooses: merged, what the law does not reach left out (each text says what it holds where it lies in wip). No condition.
-/
import Derived.Test.YtlhakbkdlgejpaaGreatDoorH14
import Derived.Test.YtlhakbkdlgejpaaGreatDoorH23
import Derived.Test.YtlhakbkdlgejpaaGreatDoorH24
set_option linter.unusedSimpArgs false
set_option linter.unusedVariables false
set_option maxRecDepth 100000
namespace Go.Proofs.YtlhakbkdlgejpaaGreatDoor
open Go.RowKit
noncomputable def chkCA (op : Int) : Bool := ((op == 64781) && (chkH op [123, 123] 123 [115, 104, 117, 102, 102, 108, 101] 8 false false 24 [115, 104, 117, 102, 102, 108, 101] && (lanesL op == (32 : Int)) && (refLanes (ofL op) == (32 : Int)))) || ((op == 64782) && (chkH op [123, 123] 123 [115, 119, 105, 122, 122, 108, 101] 8 false false 0 [115, 119, 105, 122, 122, 108, 101])) || ((op == 64783) && (chkH op [127] 123 [115, 112, 108, 97, 116] 8 false false 0 [115, 112, 108, 97, 116])) || ((op == 64784) && (chkH op [127] 123 [115, 112, 108, 97, 116] 16 false false 0 [115, 112, 108, 97, 116])) || ((op == 64785) && (chkH op [127] 123 [115, 112, 108, 97, 116] 32 false false 0 [115, 112, 108, 97, 116])) || ((op == 64786) && (chkH op [126] 123 [115, 112, 108, 97, 116] 64 false false 0 [115, 112, 108, 97, 116])) || ((op == 64787) && (chkH op [125] 123 [115, 112, 108, 97, 116] 32 true false 0 [115, 112, 108, 97, 116])) || ((op == 64788) && (chkH op [124] 123 [115, 112, 108, 97, 116] 64 true false 0 [115, 112, 108, 97, 116])) || ((op == 64789) && (chkH op [123] 127 [101, 120, 116, 114, 97, 99, 116, 95, 108, 97, 110, 101] 8 false true 25 [101, 120, 116, 114, 97, 99, 116, 95, 108, 97, 110, 101, 95, 115] && (lanesL op == ((cnt 8 : Nat) : Int)) && (refLanes (ofL op) == ((cnt 8 : Nat) : Int)))) || ((op == 64790) && (chkH op [123] 127 [101, 120, 116, 114, 97, 99, 116, 95, 108, 97, 110, 101] 8 false false 25 [101, 120, 116, 114, 97, 99, 116, 95, 108, 97, 110, 101, 95, 117] && (lanesL op == ((cnt 8 : Nat) : Int)) && (refLanes (ofL op) == ((cnt 8 : Nat) : Int)))) || ((op == 64792) && (chkH op [123] 127 [101, 120, 116, 114, 97, 99, 116, 95, 108, 97, 110, 101] 16 false true 25 [101, 120, 116, 114, 97, 99, 116, 95, 108, 97, 110, 101, 95, 115] && (lanesL op == ((cnt 16 : Nat) : Int)) && (refLanes (ofL op) == ((cnt 16 : Nat) : Int)))) || ((op == 64793) && (chkH op [123] 127 [101, 120, 116, 114, 97, 99, 116, 95, 108, 97, 110, 101] 16 false false 25 [101, 120, 116, 114, 97, 99, 116, 95, 108, 97, 110, 101, 95, 117] && (lanesL op == ((cnt 16 : Nat) : Int)) && (refLanes (ofL op) == ((cnt 16 : Nat) : Int)))) || ((op == 64795) && (chkH op [123] 127 [101, 120, 116, 114, 97, 99, 116, 95, 108, 97, 110, 101] 32 false false 25 [101, 120, 116, 114, 97, 99, 116, 95, 108, 97, 110, 101] && (lanesL op == ((cnt 32 : Nat) : Int)) && (refLanes (ofL op) == ((cnt 32 : Nat) : Int)))) || ((op == 64797) && (chkH op [123] 126 [101, 120, 116, 114, 97, 99, 116, 95, 108, 97, 110, 101] 64 false false 25 [101, 120, 116, 114, 97, 99, 116, 95, 108, 97, 110, 101] && (lanesL op == ((cnt 64 : Nat) : Int)) && (refLanes (ofL op) == ((cnt 64 : Nat) : Int)))) || ((op == 64799) && (chkH op [123] 125 [101, 120, 116, 114, 97, 99, 116, 95, 108, 97, 110, 101] 32 true false 25 [101, 120, 116, 114, 97, 99, 116, 95, 108, 97, 110, 101] && (lanesL op == ((cnt 32 : Nat) : Int)) && (refLanes (ofL op) == ((cnt 32 : Nat) : Int)))) || ((op == 64801) && (chkH op [123] 124 [101, 120, 116, 114, 97, 99, 116, 95, 108, 97, 110, 101] 64 true false 25 [101, 120, 116, 114, 97, 99, 116, 95, 108, 97, 110, 101] && (lanesL op == ((cnt 64 : Nat) : Int)) && (refLanes (ofL op) == ((cnt 64 : Nat) : Int)))) || ((op == 64791) && (chkH op [123, 127] 123 [114, 101, 112, 108, 97, 99, 101, 95, 108, 97, 110, 101] 8 false false 25 [114, 101, 112, 108, 97, 99, 101, 95, 108, 97, 110, 101] && (lanesL op == ((cnt 8 : Nat) : Int)) && (refLanes (ofL op) == ((cnt 8 : Nat) : Int)))) || ((op == 64794) && (chkH op [123, 127] 123 [114, 101, 112, 108, 97, 99, 101, 95, 108, 97, 110, 101] 16 false false 25 [114, 101, 112, 108, 97, 99, 101, 95, 108, 97, 110, 101] && (lanesL op == ((cnt 16 : Nat) : Int)) && (refLanes (ofL op) == ((cnt 16 : Nat) : Int)))) || ((op == 64796) && (chkH op [123, 127] 123 [114, 101, 112, 108, 97, 99, 101, 95, 108, 97, 110, 101] 32 false false 25 [114, 101, 112, 108, 97, 99, 101, 95, 108, 97, 110, 101] && (lanesL op == ((cnt 32 : Nat) : Int)) && (refLanes (ofL op) == ((cnt 32 : Nat) : Int)))) || ((op == 64798) && (chkH op [123, 126] 123 [114, 101, 112, 108, 97, 99, 101, 95, 108, 97, 110, 101] 64 false false 25 [114, 101, 112, 108, 97, 99, 101, 95, 108, 97, 110, 101] && (lanesL op == ((cnt 64 : Nat) : Int)) && (refLanes (ofL op) == ((cnt 64 : Nat) : Int)))) || ((op == 64800) && (chkH op [123, 125] 123 [114, 101, 112, 108, 97, 99, 101, 95, 108, 97, 110, 101] 32 true false 25 [114, 101, 112, 108, 97, 99, 101, 95, 108, 97, 110, 101] && (lanesL op == ((cnt 32 : Nat) : Int)) && (refLanes (ofL op) == ((cnt 32 : Nat) : Int)))) || ((op == 64802) && (chkH op [123, 124] 123 [114, 101, 112, 108, 97, 99, 101, 95, 108, 97, 110, 101] 64 true false 25 [114, 101, 112, 108, 97, 99, 101, 95, 108, 97, 110, 101] && (lanesL op == ((cnt 64 : Nat) : Int)) && (refLanes (ofL op) == ((cnt 64 : Nat) : Int))))
theorem chooses_all : (LChooses.all fun x => chkCA (64768 + x)) = true := by kernel_rfl
set_option maxRecDepth 100000 in
theorem row_Chooses (w : World) : ∀ j, j < LChooses.length → (w.alloc (.cells #[.int .i64 13, .int .i64 14, .int .i64 15, .int .i64 16, .int .i64 17, .int .i64 18, .int .i64 19, .int .i64 20, .int .i64 21, .int .i64 22, .int .i64 23, .int .i64 24, .int .i64 25, .int .i64 26, .int .i64 27, .int .i64 28, .int .i64 29, .int .i64 30, .int .i64 31, .int .i64 32, .int .i64 33, .int .i64 34] 3)).cell? ⟨w.heap.size, j, none⟩ = some (.int .i64 (LChooses.getD j 0)) := fun j hj => by
  have h := CA.new w #[.int .i64 13, .int .i64 14, .int .i64 15, .int .i64 16, .int .i64 17, .int .i64 18, .int .i64 19, .int .i64 20, .int .i64 21, .int .i64 22, .int .i64 23, .int .i64 24, .int .i64 25, .int .i64 26, .int .i64 27, .int .i64 28, .int .i64 29, .int .i64 30, .int .i64 31, .int .i64 32, .int .i64 33, .int .i64 34] 3
  have hj : j < 22 := hj
  have e : ∀ i : Fin 22, (#[.int .i64 13, .int .i64 14, .int .i64 15, .int .i64 16, .int .i64 17, .int .i64 18, .int .i64 19, .int .i64 20, .int .i64 21, .int .i64 22, .int .i64 23, .int .i64 24, .int .i64 25, .int .i64 26, .int .i64 27, .int .i64 28, .int .i64 29, .int .i64 30, .int .i64 31, .int .i64 32, .int .i64 33, .int .i64 34] : Array Value)[i.val]? = some (.int .i64 (LChooses.getD i.val 0)) := by
    intro i
    rcases i with ⟨i, hi⟩; rcases (show i = 0 ∨ i = 1 ∨ i = 2 ∨ i = 3 ∨ i = 4 ∨ i = 5 ∨ i = 6 ∨ i = 7 ∨ i = 8 ∨ i = 9 ∨ i = 10 ∨ i = 11 ∨ i = 12 ∨ i = 13 ∨ i = 14 ∨ i = 15 ∨ i = 16 ∨ i = 17 ∨ i = 18 ∨ i = 19 ∨ i = 20 ∨ i = 21 by omega) with rfl | rfl | rfl | rfl | rfl | rfl | rfl | rfl | rfl | rfl | rfl | rfl | rfl | rfl | rfl | rfl | rfl | rfl | rfl | rfl | rfl | rfl <;> rfl
  exact h.at (k := j) (e ⟨j, hj⟩)
set_option maxHeartbeats 4000000 in
set_option maxRecDepth 100000 in
theorem some_Chooses (which : Int) (hw0 : -9223372036854775808 ≤ which) (hw1 : which ≤ 9223372036854775807) (ta tb tc : Int) (alo ahi blo bhi clo chi : Nat) (anl bnl cnl : Bool) (h1 : alo < 18446744073709551616) (h2 : ahi < 18446744073709551616) (h3 : blo < 18446744073709551616) (h4 : bhi < 18446744073709551616) (nn : Nat) (hnn : nn < 18446744073709551616) (w : World) (hg : Glob w) :
    Calls Tryz.prog 21 #[.slice (some ⟨w.heap.size, 0, none⟩) 22 22, .int .i64 which, vv ta alo ahi anl, vv tb blo bhi bnl, vv tc clo chi cnl, .int .u64 (nn : Nat)] (w.alloc (.cells #[.int .i64 13, .int .i64 14, .int .i64 15, .int .i64 16, .int .i64 17, .int .i64 18, .int .i64 19, .int .i64 20, .int .i64 21, .int .i64 22, .int .i64 23, .int .i64 24, .int .i64 25, .int .i64 26, .int .i64 27, .int .i64 28, .int .i64 29, .int .i64 30, .int .i64 31, .int .i64 32, .int .i64 33, .int .i64 34] 3)) fun e w' => e = .returned (.bool true) ∧ Below w.heap.size w w' := by
  obtain ⟨y, _, hy⟩ := and_1023 which
  have hi : y % LChooses.length < LChooses.length := Nat.mod_lt _ (by decide)
  have hmem : LChooses.getD (y % LChooses.length) 0 ∈ LChooses := by
    rw [List.getD_eq_getElem?_getD, List.getElem?_eq_getElem hi]
    exact List.getElem_mem hi
  have hchk : chkCA (64768 + LChooses.getD (y % LChooses.length) 0) = true := List.all_eq_true.1 chooses_all _ hmem
  obtain ⟨op, hop⟩ : ∃ op, op = 64768 + LChooses.getD (y % LChooses.length) 0 := ⟨_, rfl⟩
  rw [← hop] at hchk
  have hb0 := (Below.refl _ w).alloc (Nat.le_refl _) (.cells #[.int .i64 13, .int .i64 14, .int .i64 15, .int .i64 16, .int .i64 17, .int .i64 18, .int .i64 19, .int .i64 20, .int .i64 21, .int .i64 22, .int .i64 23, .int .i64 24, .int .i64 25, .int .i64 26, .int .i64 27, .int .i64 28, .int .i64 29, .int .i64 30, .int .i64 31, .int .i64 32, .int .i64 33, .int .i64 34] 3)
  unfold chkCA at hchk
  rw [Bool.or_eq_true] at hchk
  rcases hchk with hchk | hx
  rotate_left
  · rw [Bool.and_eq_true] at hx
    replace hx := hx.2
    obtain ⟨y63, _, hyb⟩ := and_mask which hw0 hw1 63 (.inl rfl)
    obtain ⟨⟨ro, tk, lv, fx, P⟩, hrl, lo, hi', HP, HR⟩ := agree_rep op 64 (by decide) true 124 (by decide) (y63 % cnt 64) (Nat.mod_lt _ (by decide)) hx alo ahi anl h1 h2 nn hnn (w.alloc (.cells #[.int .i64 13, .int .i64 14, .int .i64 15, .int .i64 16, .int .i64 17, .int .i64 18, .int .i64 19, .int .i64 20, .int .i64 21, .int .i64 22, .int .i64 23, .int .i64 24, .int .i64 25, .int .i64 26, .int .i64 27, .int .i64 28, .int .i64 29, .int .i64 30, .int .i64 31, .int .i64 32, .int .i64 33, .int .i64 34] 3)) (hg.next hb0)
    have H := some_rl LChooses (by decide) (by decide) w.heap.size 22 which hw0 hw1 ta tb tc alo ahi blo bhi clo chi anl bnl cnl nn (w.alloc (.cells #[.int .i64 13, .int .i64 14, .int .i64 15, .int .i64 16, .int .i64 17, .int .i64 18, .int .i64 19, .int .i64 20, .int .i64 21, .int .i64 22, .int .i64 23, .int .i64 24, .int .i64 25, .int .i64 26, .int .i64 27, .int .i64 28, .int .i64 29, .int .i64 30, .int .i64 31, .int .i64 32, .int .i64 33, .int .i64 34] 3)) (by rw [size_al]; omega) (row_Chooses w) y (y % LChooses.length) hy rfl hi op hop ⟨P.lo, P.hi⟩ 124 (by decide) (y63 % cnt 64) y63 (cnt 64) hyb hrl (by decide) rfl ro (nmL op) tk lv fx P.of P.tk1 P.tk2 lo hi' HP HR
    exact H.mono fun e w' ⟨he, hb⟩ => ⟨he, hb0.trans (hb.mono hb0.size)⟩
  rw [Bool.or_eq_true] at hchk
  rcases hchk with hchk | hx
  rotate_left
  · rw [Bool.and_eq_true] at hx
    replace hx := hx.2
    obtain ⟨y63, _, hyb⟩ := and_mask which hw0 hw1 63 (.inl rfl)
    obtain ⟨⟨ro, tk, lv, fx, P⟩, hrl, lo, hi', HP, HR⟩ := agree_rep op 32 (by decide) true 125 (by decide) (y63 % cnt 32) (Nat.mod_lt _ (by decide)) hx alo ahi anl h1 h2 nn hnn (w.alloc (.cells #[.int .i64 13, .int .i64 14, .int .i64 15, .int .i64 16, .int .i64 17, .int .i64 18, .int .i64 19, .int .i64 20, .int .i64 21, .int .i64 22, .int .i64 23, .int .i64 24, .int .i64 25, .int .i64 26, .int .i64 27, .int .i64 28, .int .i64 29, .int .i64 30, .int .i64 31, .int .i64 32, .int .i64 33, .int .i64 34] 3)) (hg.next hb0)
    have H := some_rl LChooses (by decide) (by decide) w.heap.size 22 which hw0 hw1 ta tb tc alo ahi blo bhi clo chi anl bnl cnl nn (w.alloc (.cells #[.int .i64 13, .int .i64 14, .int .i64 15, .int .i64 16, .int .i64 17, .int .i64 18, .int .i64 19, .int .i64 20, .int .i64 21, .int .i64 22, .int .i64 23, .int .i64 24, .int .i64 25, .int .i64 26, .int .i64 27, .int .i64 28, .int .i64 29, .int .i64 30, .int .i64 31, .int .i64 32, .int .i64 33, .int .i64 34] 3)) (by rw [size_al]; omega) (row_Chooses w) y (y % LChooses.length) hy rfl hi op hop ⟨P.lo, P.hi⟩ 125 (by decide) (y63 % cnt 32) y63 (cnt 32) hyb hrl (by decide) rfl ro (nmL op) tk lv fx P.of P.tk1 P.tk2 lo hi' HP HR
    exact H.mono fun e w' ⟨he, hb⟩ => ⟨he, hb0.trans (hb.mono hb0.size)⟩
  rw [Bool.or_eq_true] at hchk
  rcases hchk with hchk | hx
  rotate_left
  · rw [Bool.and_eq_true] at hx
    replace hx := hx.2
    obtain ⟨y63, _, hyb⟩ := and_mask which hw0 hw1 63 (.inl rfl)
    obtain ⟨⟨ro, tk, lv, fx, P⟩, hrl, lo, hi', HP, HR⟩ := agree_rep op 64 (by decide) false 126 (by decide) (y63 % cnt 64) (Nat.mod_lt _ (by decide)) hx alo ahi anl h1 h2 nn hnn (w.alloc (.cells #[.int .i64 13, .int .i64 14, .int .i64 15, .int .i64 16, .int .i64 17, .int .i64 18, .int .i64 19, .int .i64 20, .int .i64 21, .int .i64 22, .int .i64 23, .int .i64 24, .int .i64 25, .int .i64 26, .int .i64 27, .int .i64 28, .int .i64 29, .int .i64 30, .int .i64 31, .int .i64 32, .int .i64 33, .int .i64 34] 3)) (hg.next hb0)
    have H := some_rl LChooses (by decide) (by decide) w.heap.size 22 which hw0 hw1 ta tb tc alo ahi blo bhi clo chi anl bnl cnl nn (w.alloc (.cells #[.int .i64 13, .int .i64 14, .int .i64 15, .int .i64 16, .int .i64 17, .int .i64 18, .int .i64 19, .int .i64 20, .int .i64 21, .int .i64 22, .int .i64 23, .int .i64 24, .int .i64 25, .int .i64 26, .int .i64 27, .int .i64 28, .int .i64 29, .int .i64 30, .int .i64 31, .int .i64 32, .int .i64 33, .int .i64 34] 3)) (by rw [size_al]; omega) (row_Chooses w) y (y % LChooses.length) hy rfl hi op hop ⟨P.lo, P.hi⟩ 126 (by decide) (y63 % cnt 64) y63 (cnt 64) hyb hrl (by decide) rfl ro (nmL op) tk lv fx P.of P.tk1 P.tk2 lo hi' HP HR
    exact H.mono fun e w' ⟨he, hb⟩ => ⟨he, hb0.trans (hb.mono hb0.size)⟩
  rw [Bool.or_eq_true] at hchk
  rcases hchk with hchk | hx
  rotate_left
  · rw [Bool.and_eq_true] at hx
    replace hx := hx.2
    obtain ⟨y63, _, hyb⟩ := and_mask which hw0 hw1 63 (.inl rfl)
    obtain ⟨⟨ro, tk, lv, fx, P⟩, hrl, lo, hi', HP, HR⟩ := agree_rep op 32 (by decide) false 127 (by decide) (y63 % cnt 32) (Nat.mod_lt _ (by decide)) hx alo ahi anl h1 h2 nn hnn (w.alloc (.cells #[.int .i64 13, .int .i64 14, .int .i64 15, .int .i64 16, .int .i64 17, .int .i64 18, .int .i64 19, .int .i64 20, .int .i64 21, .int .i64 22, .int .i64 23, .int .i64 24, .int .i64 25, .int .i64 26, .int .i64 27, .int .i64 28, .int .i64 29, .int .i64 30, .int .i64 31, .int .i64 32, .int .i64 33, .int .i64 34] 3)) (hg.next hb0)
    have H := some_rl LChooses (by decide) (by decide) w.heap.size 22 which hw0 hw1 ta tb tc alo ahi blo bhi clo chi anl bnl cnl nn (w.alloc (.cells #[.int .i64 13, .int .i64 14, .int .i64 15, .int .i64 16, .int .i64 17, .int .i64 18, .int .i64 19, .int .i64 20, .int .i64 21, .int .i64 22, .int .i64 23, .int .i64 24, .int .i64 25, .int .i64 26, .int .i64 27, .int .i64 28, .int .i64 29, .int .i64 30, .int .i64 31, .int .i64 32, .int .i64 33, .int .i64 34] 3)) (by rw [size_al]; omega) (row_Chooses w) y (y % LChooses.length) hy rfl hi op hop ⟨P.lo, P.hi⟩ 127 (by decide) (y63 % cnt 32) y63 (cnt 32) hyb hrl (by decide) rfl ro (nmL op) tk lv fx P.of P.tk1 P.tk2 lo hi' HP HR
    exact H.mono fun e w' ⟨he, hb⟩ => ⟨he, hb0.trans (hb.mono hb0.size)⟩
  rw [Bool.or_eq_true] at hchk
  rcases hchk with hchk | hx
  rotate_left
  · rw [Bool.and_eq_true] at hx
    replace hx := hx.2
    obtain ⟨y63, _, hyb⟩ := and_mask which hw0 hw1 63 (.inl rfl)
    obtain ⟨⟨ro, tk, lv, fx, P⟩, hrl, lo, hi', HP, HR⟩ := agree_rep op 16 (by decide) false 127 (by decide) (y63 % cnt 16) (Nat.mod_lt _ (by decide)) hx alo ahi anl h1 h2 nn hnn (w.alloc (.cells #[.int .i64 13, .int .i64 14, .int .i64 15, .int .i64 16, .int .i64 17, .int .i64 18, .int .i64 19, .int .i64 20, .int .i64 21, .int .i64 22, .int .i64 23, .int .i64 24, .int .i64 25, .int .i64 26, .int .i64 27, .int .i64 28, .int .i64 29, .int .i64 30, .int .i64 31, .int .i64 32, .int .i64 33, .int .i64 34] 3)) (hg.next hb0)
    have H := some_rl LChooses (by decide) (by decide) w.heap.size 22 which hw0 hw1 ta tb tc alo ahi blo bhi clo chi anl bnl cnl nn (w.alloc (.cells #[.int .i64 13, .int .i64 14, .int .i64 15, .int .i64 16, .int .i64 17, .int .i64 18, .int .i64 19, .int .i64 20, .int .i64 21, .int .i64 22, .int .i64 23, .int .i64 24, .int .i64 25, .int .i64 26, .int .i64 27, .int .i64 28, .int .i64 29, .int .i64 30, .int .i64 31, .int .i64 32, .int .i64 33, .int .i64 34] 3)) (by rw [size_al]; omega) (row_Chooses w) y (y % LChooses.length) hy rfl hi op hop ⟨P.lo, P.hi⟩ 127 (by decide) (y63 % cnt 16) y63 (cnt 16) hyb hrl (by decide) rfl ro (nmL op) tk lv fx P.of P.tk1 P.tk2 lo hi' HP HR
    exact H.mono fun e w' ⟨he, hb⟩ => ⟨he, hb0.trans (hb.mono hb0.size)⟩
  rw [Bool.or_eq_true] at hchk
  rcases hchk with hchk | hx
  rotate_left
  · rw [Bool.and_eq_true] at hx
    replace hx := hx.2
    obtain ⟨y63, _, hyb⟩ := and_mask which hw0 hw1 63 (.inl rfl)
    obtain ⟨⟨ro, tk, lv, fx, P⟩, hrl, lo, hi', HP, HR⟩ := agree_rep op 8 (by decide) false 127 (by decide) (y63 % cnt 8) (Nat.mod_lt _ (by decide)) hx alo ahi anl h1 h2 nn hnn (w.alloc (.cells #[.int .i64 13, .int .i64 14, .int .i64 15, .int .i64 16, .int .i64 17, .int .i64 18, .int .i64 19, .int .i64 20, .int .i64 21, .int .i64 22, .int .i64 23, .int .i64 24, .int .i64 25, .int .i64 26, .int .i64 27, .int .i64 28, .int .i64 29, .int .i64 30, .int .i64 31, .int .i64 32, .int .i64 33, .int .i64 34] 3)) (hg.next hb0)
    have H := some_rl LChooses (by decide) (by decide) w.heap.size 22 which hw0 hw1 ta tb tc alo ahi blo bhi clo chi anl bnl cnl nn (w.alloc (.cells #[.int .i64 13, .int .i64 14, .int .i64 15, .int .i64 16, .int .i64 17, .int .i64 18, .int .i64 19, .int .i64 20, .int .i64 21, .int .i64 22, .int .i64 23, .int .i64 24, .int .i64 25, .int .i64 26, .int .i64 27, .int .i64 28, .int .i64 29, .int .i64 30, .int .i64 31, .int .i64 32, .int .i64 33, .int .i64 34] 3)) (by rw [size_al]; omega) (row_Chooses w) y (y % LChooses.length) hy rfl hi op hop ⟨P.lo, P.hi⟩ 127 (by decide) (y63 % cnt 8) y63 (cnt 8) hyb hrl (by decide) rfl ro (nmL op) tk lv fx P.of P.tk1 P.tk2 lo hi' HP HR
    exact H.mono fun e w' ⟨he, hb⟩ => ⟨he, hb0.trans (hb.mono hb0.size)⟩
  rw [Bool.or_eq_true] at hchk
  rcases hchk with hchk | hx
  rotate_left
  · rw [Bool.and_eq_true] at hx
    replace hx := hx.2
    obtain ⟨y63, _, hyb⟩ := and_mask which hw0 hw1 63 (.inl rfl)
    obtain ⟨⟨ro, tk, lv, fx, P⟩, hrl, lo, hi', HP, HR⟩ := agree_x124 op 64 (by decide) true (y63 % cnt 64) (Nat.mod_lt _ (by decide)) hx alo ahi anl h1 h2 (w.alloc (.cells #[.int .i64 13, .int .i64 14, .int .i64 15, .int .i64 16, .int .i64 17, .int .i64 18, .int .i64 19, .int .i64 20, .int .i64 21, .int .i64 22, .int .i64 23, .int .i64 24, .int .i64 25, .int .i64 26, .int .i64 27, .int .i64 28, .int .i64 29, .int .i64 30, .int .i64 31, .int .i64 32, .int .i64 33, .int .i64 34] 3)) (hg.next hb0)
    have H := some_xl LChooses (by decide) (by decide) w.heap.size 22 which hw0 hw1 ta tb tc alo ahi blo bhi clo chi anl bnl cnl nn (w.alloc (.cells #[.int .i64 13, .int .i64 14, .int .i64 15, .int .i64 16, .int .i64 17, .int .i64 18, .int .i64 19, .int .i64 20, .int .i64 21, .int .i64 22, .int .i64 23, .int .i64 24, .int .i64 25, .int .i64 26, .int .i64 27, .int .i64 28, .int .i64 29, .int .i64 30, .int .i64 31, .int .i64 32, .int .i64 33, .int .i64 34] 3)) (by rw [size_al]; omega) (row_Chooses w) y (y % LChooses.length) hy rfl hi op hop ⟨P.lo, P.hi⟩ (y63 % cnt 64) y63 (cnt 64) hyb hrl (by decide) rfl ro (nmL op) tk lv fx P.of P.tk1 P.tk2 124 lo hi' HP HR
    exact H.mono fun e w' ⟨he, hb⟩ => ⟨he, hb0.trans (hb.mono hb0.size)⟩
  rw [Bool.or_eq_true] at hchk
  rcases hchk with hchk | hx
  rotate_left
  · rw [Bool.and_eq_true] at hx
    replace hx := hx.2
    obtain ⟨y63, _, hyb⟩ := and_mask which hw0 hw1 63 (.inl rfl)
    obtain ⟨⟨ro, tk, lv, fx, P⟩, hrl, lo, hi', HP, HR⟩ := agree_x125 op 32 (by decide) (by decide) true (y63 % cnt 32) (Nat.mod_lt _ (by decide)) hx alo ahi anl h1 h2 (w.alloc (.cells #[.int .i64 13, .int .i64 14, .int .i64 15, .int .i64 16, .int .i64 17, .int .i64 18, .int .i64 19, .int .i64 20, .int .i64 21, .int .i64 22, .int .i64 23, .int .i64 24, .int .i64 25, .int .i64 26, .int .i64 27, .int .i64 28, .int .i64 29, .int .i64 30, .int .i64 31, .int .i64 32, .int .i64 33, .int .i64 34] 3)) (hg.next hb0)
    have H := some_xl LChooses (by decide) (by decide) w.heap.size 22 which hw0 hw1 ta tb tc alo ahi blo bhi clo chi anl bnl cnl nn (w.alloc (.cells #[.int .i64 13, .int .i64 14, .int .i64 15, .int .i64 16, .int .i64 17, .int .i64 18, .int .i64 19, .int .i64 20, .int .i64 21, .int .i64 22, .int .i64 23, .int .i64 24, .int .i64 25, .int .i64 26, .int .i64 27, .int .i64 28, .int .i64 29, .int .i64 30, .int .i64 31, .int .i64 32, .int .i64 33, .int .i64 34] 3)) (by rw [size_al]; omega) (row_Chooses w) y (y % LChooses.length) hy rfl hi op hop ⟨P.lo, P.hi⟩ (y63 % cnt 32) y63 (cnt 32) hyb hrl (by decide) rfl ro (nmL op) tk lv fx P.of P.tk1 P.tk2 125 lo hi' HP HR
    exact H.mono fun e w' ⟨he, hb⟩ => ⟨he, hb0.trans (hb.mono hb0.size)⟩
  rw [Bool.or_eq_true] at hchk
  rcases hchk with hchk | hx
  rotate_left
  · rw [Bool.and_eq_true] at hx
    replace hx := hx.2
    obtain ⟨y63, _, hyb⟩ := and_mask which hw0 hw1 63 (.inl rfl)
    obtain ⟨⟨ro, tk, lv, fx, P⟩, hrl, lo, hi', HP, HR⟩ := agree_x126 op 64 (by decide) false (y63 % cnt 64) (Nat.mod_lt _ (by decide)) hx alo ahi anl h1 h2 (w.alloc (.cells #[.int .i64 13, .int .i64 14, .int .i64 15, .int .i64 16, .int .i64 17, .int .i64 18, .int .i64 19, .int .i64 20, .int .i64 21, .int .i64 22, .int .i64 23, .int .i64 24, .int .i64 25, .int .i64 26, .int .i64 27, .int .i64 28, .int .i64 29, .int .i64 30, .int .i64 31, .int .i64 32, .int .i64 33, .int .i64 34] 3)) (hg.next hb0)
    have H := some_xl LChooses (by decide) (by decide) w.heap.size 22 which hw0 hw1 ta tb tc alo ahi blo bhi clo chi anl bnl cnl nn (w.alloc (.cells #[.int .i64 13, .int .i64 14, .int .i64 15, .int .i64 16, .int .i64 17, .int .i64 18, .int .i64 19, .int .i64 20, .int .i64 21, .int .i64 22, .int .i64 23, .int .i64 24, .int .i64 25, .int .i64 26, .int .i64 27, .int .i64 28, .int .i64 29, .int .i64 30, .int .i64 31, .int .i64 32, .int .i64 33, .int .i64 34] 3)) (by rw [size_al]; omega) (row_Chooses w) y (y % LChooses.length) hy rfl hi op hop ⟨P.lo, P.hi⟩ (y63 % cnt 64) y63 (cnt 64) hyb hrl (by decide) rfl ro (nmL op) tk lv fx P.of P.tk1 P.tk2 126 lo hi' HP HR
    exact H.mono fun e w' ⟨he, hb⟩ => ⟨he, hb0.trans (hb.mono hb0.size)⟩
  rw [Bool.or_eq_true] at hchk
  rcases hchk with hchk | hx
  rotate_left
  · rw [Bool.and_eq_true] at hx
    replace hx := hx.2
    obtain ⟨y63, _, hyb⟩ := and_mask which hw0 hw1 63 (.inl rfl)
    obtain ⟨⟨ro, tk, lv, fx, P⟩, hrl, lo, hi', HP, HR⟩ := agree_x127 op 32 (by decide) false (y63 % cnt 32) (Nat.mod_lt _ (by decide)) hx alo ahi anl h1 h2 (w.alloc (.cells #[.int .i64 13, .int .i64 14, .int .i64 15, .int .i64 16, .int .i64 17, .int .i64 18, .int .i64 19, .int .i64 20, .int .i64 21, .int .i64 22, .int .i64 23, .int .i64 24, .int .i64 25, .int .i64 26, .int .i64 27, .int .i64 28, .int .i64 29, .int .i64 30, .int .i64 31, .int .i64 32, .int .i64 33, .int .i64 34] 3)) (hg.next hb0)
    have H := some_xl LChooses (by decide) (by decide) w.heap.size 22 which hw0 hw1 ta tb tc alo ahi blo bhi clo chi anl bnl cnl nn (w.alloc (.cells #[.int .i64 13, .int .i64 14, .int .i64 15, .int .i64 16, .int .i64 17, .int .i64 18, .int .i64 19, .int .i64 20, .int .i64 21, .int .i64 22, .int .i64 23, .int .i64 24, .int .i64 25, .int .i64 26, .int .i64 27, .int .i64 28, .int .i64 29, .int .i64 30, .int .i64 31, .int .i64 32, .int .i64 33, .int .i64 34] 3)) (by rw [size_al]; omega) (row_Chooses w) y (y % LChooses.length) hy rfl hi op hop ⟨P.lo, P.hi⟩ (y63 % cnt 32) y63 (cnt 32) hyb hrl (by decide) rfl ro (nmL op) tk lv fx P.of P.tk1 P.tk2 127 lo hi' HP HR
    exact H.mono fun e w' ⟨he, hb⟩ => ⟨he, hb0.trans (hb.mono hb0.size)⟩
  rw [Bool.or_eq_true] at hchk
  rcases hchk with hchk | hx
  rotate_left
  · rw [Bool.and_eq_true] at hx
    replace hx := hx.2
    obtain ⟨y63, _, hyb⟩ := and_mask which hw0 hw1 63 (.inl rfl)
    obtain ⟨⟨ro, tk, lv, fx, P⟩, hrl, lo, hi', HP, HR⟩ := agree_xu op 16 (by decide) false (y63 % cnt 16) (Nat.mod_lt _ (by decide)) hx alo ahi anl h1 h2 (w.alloc (.cells #[.int .i64 13, .int .i64 14, .int .i64 15, .int .i64 16, .int .i64 17, .int .i64 18, .int .i64 19, .int .i64 20, .int .i64 21, .int .i64 22, .int .i64 23, .int .i64 24, .int .i64 25, .int .i64 26, .int .i64 27, .int .i64 28, .int .i64 29, .int .i64 30, .int .i64 31, .int .i64 32, .int .i64 33, .int .i64 34] 3)) (hg.next hb0)
    have H := some_xl LChooses (by decide) (by decide) w.heap.size 22 which hw0 hw1 ta tb tc alo ahi blo bhi clo chi anl bnl cnl nn (w.alloc (.cells #[.int .i64 13, .int .i64 14, .int .i64 15, .int .i64 16, .int .i64 17, .int .i64 18, .int .i64 19, .int .i64 20, .int .i64 21, .int .i64 22, .int .i64 23, .int .i64 24, .int .i64 25, .int .i64 26, .int .i64 27, .int .i64 28, .int .i64 29, .int .i64 30, .int .i64 31, .int .i64 32, .int .i64 33, .int .i64 34] 3)) (by rw [size_al]; omega) (row_Chooses w) y (y % LChooses.length) hy rfl hi op hop ⟨P.lo, P.hi⟩ (y63 % cnt 16) y63 (cnt 16) hyb hrl (by decide) rfl ro (nmL op) tk lv fx P.of P.tk1 P.tk2 127 lo hi' HP HR
    exact H.mono fun e w' ⟨he, hb⟩ => ⟨he, hb0.trans (hb.mono hb0.size)⟩
  rw [Bool.or_eq_true] at hchk
  rcases hchk with hchk | hx
  rotate_left
  · rw [Bool.and_eq_true] at hx
    replace hx := hx.2
    obtain ⟨y63, _, hyb⟩ := and_mask which hw0 hw1 63 (.inl rfl)
    obtain ⟨⟨ro, tk, lv, fx, P⟩, hrl, lo, hi', HP, HR⟩ := agree_xs op 16 (by decide) false (y63 % cnt 16) (Nat.mod_lt _ (by decide)) hx alo ahi anl h1 h2 (w.alloc (.cells #[.int .i64 13, .int .i64 14, .int .i64 15, .int .i64 16, .int .i64 17, .int .i64 18, .int .i64 19, .int .i64 20, .int .i64 21, .int .i64 22, .int .i64 23, .int .i64 24, .int .i64 25, .int .i64 26, .int .i64 27, .int .i64 28, .int .i64 29, .int .i64 30, .int .i64 31, .int .i64 32, .int .i64 33, .int .i64 34] 3)) (hg.next hb0)
    have H := some_xl LChooses (by decide) (by decide) w.heap.size 22 which hw0 hw1 ta tb tc alo ahi blo bhi clo chi anl bnl cnl nn (w.alloc (.cells #[.int .i64 13, .int .i64 14, .int .i64 15, .int .i64 16, .int .i64 17, .int .i64 18, .int .i64 19, .int .i64 20, .int .i64 21, .int .i64 22, .int .i64 23, .int .i64 24, .int .i64 25, .int .i64 26, .int .i64 27, .int .i64 28, .int .i64 29, .int .i64 30, .int .i64 31, .int .i64 32, .int .i64 33, .int .i64 34] 3)) (by rw [size_al]; omega) (row_Chooses w) y (y % LChooses.length) hy rfl hi op hop ⟨P.lo, P.hi⟩ (y63 % cnt 16) y63 (cnt 16) hyb hrl (by decide) rfl ro (nmL op) tk lv fx P.of P.tk1 P.tk2 127 lo hi' HP HR
    exact H.mono fun e w' ⟨he, hb⟩ => ⟨he, hb0.trans (hb.mono hb0.size)⟩
  rw [Bool.or_eq_true] at hchk
  rcases hchk with hchk | hx
  rotate_left
  · rw [Bool.and_eq_true] at hx
    replace hx := hx.2
    obtain ⟨y63, _, hyb⟩ := and_mask which hw0 hw1 63 (.inl rfl)
    obtain ⟨⟨ro, tk, lv, fx, P⟩, hrl, lo, hi', HP, HR⟩ := agree_xu op 8 (by decide) false (y63 % cnt 8) (Nat.mod_lt _ (by decide)) hx alo ahi anl h1 h2 (w.alloc (.cells #[.int .i64 13, .int .i64 14, .int .i64 15, .int .i64 16, .int .i64 17, .int .i64 18, .int .i64 19, .int .i64 20, .int .i64 21, .int .i64 22, .int .i64 23, .int .i64 24, .int .i64 25, .int .i64 26, .int .i64 27, .int .i64 28, .int .i64 29, .int .i64 30, .int .i64 31, .int .i64 32, .int .i64 33, .int .i64 34] 3)) (hg.next hb0)
    have H := some_xl LChooses (by decide) (by decide) w.heap.size 22 which hw0 hw1 ta tb tc alo ahi blo bhi clo chi anl bnl cnl nn (w.alloc (.cells #[.int .i64 13, .int .i64 14, .int .i64 15, .int .i64 16, .int .i64 17, .int .i64 18, .int .i64 19, .int .i64 20, .int .i64 21, .int .i64 22, .int .i64 23, .int .i64 24, .int .i64 25, .int .i64 26, .int .i64 27, .int .i64 28, .int .i64 29, .int .i64 30, .int .i64 31, .int .i64 32, .int .i64 33, .int .i64 34] 3)) (by rw [size_al]; omega) (row_Chooses w) y (y % LChooses.length) hy rfl hi op hop ⟨P.lo, P.hi⟩ (y63 % cnt 8) y63 (cnt 8) hyb hrl (by decide) rfl ro (nmL op) tk lv fx P.of P.tk1 P.tk2 127 lo hi' HP HR
    exact H.mono fun e w' ⟨he, hb⟩ => ⟨he, hb0.trans (hb.mono hb0.size)⟩
  rw [Bool.or_eq_true] at hchk
  rcases hchk with hchk | hx
  rotate_left
  · rw [Bool.and_eq_true] at hx
    replace hx := hx.2
    obtain ⟨y63, _, hyb⟩ := and_mask which hw0 hw1 63 (.inl rfl)
    obtain ⟨⟨ro, tk, lv, fx, P⟩, hrl, lo, hi', HP, HR⟩ := agree_xs op 8 (by decide) false (y63 % cnt 8) (Nat.mod_lt _ (by decide)) hx alo ahi anl h1 h2 (w.alloc (.cells #[.int .i64 13, .int .i64 14, .int .i64 15, .int .i64 16, .int .i64 17, .int .i64 18, .int .i64 19, .int .i64 20, .int .i64 21, .int .i64 22, .int .i64 23, .int .i64 24, .int .i64 25, .int .i64 26, .int .i64 27, .int .i64 28, .int .i64 29, .int .i64 30, .int .i64 31, .int .i64 32, .int .i64 33, .int .i64 34] 3)) (hg.next hb0)
    have H := some_xl LChooses (by decide) (by decide) w.heap.size 22 which hw0 hw1 ta tb tc alo ahi blo bhi clo chi anl bnl cnl nn (w.alloc (.cells #[.int .i64 13, .int .i64 14, .int .i64 15, .int .i64 16, .int .i64 17, .int .i64 18, .int .i64 19, .int .i64 20, .int .i64 21, .int .i64 22, .int .i64 23, .int .i64 24, .int .i64 25, .int .i64 26, .int .i64 27, .int .i64 28, .int .i64 29, .int .i64 30, .int .i64 31, .int .i64 32, .int .i64 33, .int .i64 34] 3)) (by rw [size_al]; omega) (row_Chooses w) y (y % LChooses.length) hy rfl hi op hop ⟨P.lo, P.hi⟩ (y63 % cnt 8) y63 (cnt 8) hyb hrl (by decide) rfl ro (nmL op) tk lv fx P.of P.tk1 P.tk2 127 lo hi' HP HR
    exact H.mono fun e w' ⟨he, hb⟩ => ⟨he, hb0.trans (hb.mono hb0.size)⟩
  rw [Bool.or_eq_true] at hchk
  rcases hchk with hchk | hx
  rotate_left
  · rw [Bool.and_eq_true] at hx
    replace hx := hx.2
    obtain ⟨⟨ro, tk, lv, fx, P⟩, lo, hi', HP, HR⟩ := agree_splat op 64 (by decide) true 124 (by decide) hx nn hnn (w.alloc (.cells #[.int .i64 13, .int .i64 14, .int .i64 15, .int .i64 16, .int .i64 17, .int .i64 18, .int .i64 19, .int .i64 20, .int .i64 21, .int .i64 22, .int .i64 23, .int .i64 24, .int .i64 25, .int .i64 26, .int .i64 27, .int .i64 28, .int .i64 29, .int .i64 30, .int .i64 31, .int .i64 32, .int .i64 33, .int .i64 34] 3)) (hg.next hb0)
    have H := some_s LChooses (by decide) (by decide) w.heap.size 22 which hw0 hw1 ta tb tc alo ahi blo bhi clo chi anl bnl cnl nn (w.alloc (.cells #[.int .i64 13, .int .i64 14, .int .i64 15, .int .i64 16, .int .i64 17, .int .i64 18, .int .i64 19, .int .i64 20, .int .i64 21, .int .i64 22, .int .i64 23, .int .i64 24, .int .i64 25, .int .i64 26, .int .i64 27, .int .i64 28, .int .i64 29, .int .i64 30, .int .i64 31, .int .i64 32, .int .i64 33, .int .i64 34] 3)) (by rw [size_al]; omega) (row_Chooses w) y (y % LChooses.length) hy rfl hi op hop ⟨P.lo, P.hi⟩ 124 (by decide) ro (nmL op) tk lv fx P.of P.tk1 P.tk2 lo hi' HP HR
    exact H.mono fun e w' ⟨he, hb⟩ => ⟨he, hb0.trans (hb.mono hb0.size)⟩
  rw [Bool.or_eq_true] at hchk
  rcases hchk with hchk | hx
  rotate_left
  · rw [Bool.and_eq_true] at hx
    replace hx := hx.2
    obtain ⟨⟨ro, tk, lv, fx, P⟩, lo, hi', HP, HR⟩ := agree_splat op 32 (by decide) true 125 (by decide) hx nn hnn (w.alloc (.cells #[.int .i64 13, .int .i64 14, .int .i64 15, .int .i64 16, .int .i64 17, .int .i64 18, .int .i64 19, .int .i64 20, .int .i64 21, .int .i64 22, .int .i64 23, .int .i64 24, .int .i64 25, .int .i64 26, .int .i64 27, .int .i64 28, .int .i64 29, .int .i64 30, .int .i64 31, .int .i64 32, .int .i64 33, .int .i64 34] 3)) (hg.next hb0)
    have H := some_s LChooses (by decide) (by decide) w.heap.size 22 which hw0 hw1 ta tb tc alo ahi blo bhi clo chi anl bnl cnl nn (w.alloc (.cells #[.int .i64 13, .int .i64 14, .int .i64 15, .int .i64 16, .int .i64 17, .int .i64 18, .int .i64 19, .int .i64 20, .int .i64 21, .int .i64 22, .int .i64 23, .int .i64 24, .int .i64 25, .int .i64 26, .int .i64 27, .int .i64 28, .int .i64 29, .int .i64 30, .int .i64 31, .int .i64 32, .int .i64 33, .int .i64 34] 3)) (by rw [size_al]; omega) (row_Chooses w) y (y % LChooses.length) hy rfl hi op hop ⟨P.lo, P.hi⟩ 125 (by decide) ro (nmL op) tk lv fx P.of P.tk1 P.tk2 lo hi' HP HR
    exact H.mono fun e w' ⟨he, hb⟩ => ⟨he, hb0.trans (hb.mono hb0.size)⟩
  rw [Bool.or_eq_true] at hchk
  rcases hchk with hchk | hx
  rotate_left
  · rw [Bool.and_eq_true] at hx
    replace hx := hx.2
    obtain ⟨⟨ro, tk, lv, fx, P⟩, lo, hi', HP, HR⟩ := agree_splat op 64 (by decide) false 126 (by decide) hx nn hnn (w.alloc (.cells #[.int .i64 13, .int .i64 14, .int .i64 15, .int .i64 16, .int .i64 17, .int .i64 18, .int .i64 19, .int .i64 20, .int .i64 21, .int .i64 22, .int .i64 23, .int .i64 24, .int .i64 25, .int .i64 26, .int .i64 27, .int .i64 28, .int .i64 29, .int .i64 30, .int .i64 31, .int .i64 32, .int .i64 33, .int .i64 34] 3)) (hg.next hb0)
    have H := some_s LChooses (by decide) (by decide) w.heap.size 22 which hw0 hw1 ta tb tc alo ahi blo bhi clo chi anl bnl cnl nn (w.alloc (.cells #[.int .i64 13, .int .i64 14, .int .i64 15, .int .i64 16, .int .i64 17, .int .i64 18, .int .i64 19, .int .i64 20, .int .i64 21, .int .i64 22, .int .i64 23, .int .i64 24, .int .i64 25, .int .i64 26, .int .i64 27, .int .i64 28, .int .i64 29, .int .i64 30, .int .i64 31, .int .i64 32, .int .i64 33, .int .i64 34] 3)) (by rw [size_al]; omega) (row_Chooses w) y (y % LChooses.length) hy rfl hi op hop ⟨P.lo, P.hi⟩ 126 (by decide) ro (nmL op) tk lv fx P.of P.tk1 P.tk2 lo hi' HP HR
    exact H.mono fun e w' ⟨he, hb⟩ => ⟨he, hb0.trans (hb.mono hb0.size)⟩
  rw [Bool.or_eq_true] at hchk
  rcases hchk with hchk | hx
  rotate_left
  · rw [Bool.and_eq_true] at hx
    replace hx := hx.2
    obtain ⟨⟨ro, tk, lv, fx, P⟩, lo, hi', HP, HR⟩ := agree_splat op 32 (by decide) false 127 (by decide) hx nn hnn (w.alloc (.cells #[.int .i64 13, .int .i64 14, .int .i64 15, .int .i64 16, .int .i64 17, .int .i64 18, .int .i64 19, .int .i64 20, .int .i64 21, .int .i64 22, .int .i64 23, .int .i64 24, .int .i64 25, .int .i64 26, .int .i64 27, .int .i64 28, .int .i64 29, .int .i64 30, .int .i64 31, .int .i64 32, .int .i64 33, .int .i64 34] 3)) (hg.next hb0)
    have H := some_s LChooses (by decide) (by decide) w.heap.size 22 which hw0 hw1 ta tb tc alo ahi blo bhi clo chi anl bnl cnl nn (w.alloc (.cells #[.int .i64 13, .int .i64 14, .int .i64 15, .int .i64 16, .int .i64 17, .int .i64 18, .int .i64 19, .int .i64 20, .int .i64 21, .int .i64 22, .int .i64 23, .int .i64 24, .int .i64 25, .int .i64 26, .int .i64 27, .int .i64 28, .int .i64 29, .int .i64 30, .int .i64 31, .int .i64 32, .int .i64 33, .int .i64 34] 3)) (by rw [size_al]; omega) (row_Chooses w) y (y % LChooses.length) hy rfl hi op hop ⟨P.lo, P.hi⟩ 127 (by decide) ro (nmL op) tk lv fx P.of P.tk1 P.tk2 lo hi' HP HR
    exact H.mono fun e w' ⟨he, hb⟩ => ⟨he, hb0.trans (hb.mono hb0.size)⟩
  rw [Bool.or_eq_true] at hchk
  rcases hchk with hchk | hx
  rotate_left
  · rw [Bool.and_eq_true] at hx
    replace hx := hx.2
    obtain ⟨⟨ro, tk, lv, fx, P⟩, lo, hi', HP, HR⟩ := agree_splat op 16 (by decide) false 127 (by decide) hx nn hnn (w.alloc (.cells #[.int .i64 13, .int .i64 14, .int .i64 15, .int .i64 16, .int .i64 17, .int .i64 18, .int .i64 19, .int .i64 20, .int .i64 21, .int .i64 22, .int .i64 23, .int .i64 24, .int .i64 25, .int .i64 26, .int .i64 27, .int .i64 28, .int .i64 29, .int .i64 30, .int .i64 31, .int .i64 32, .int .i64 33, .int .i64 34] 3)) (hg.next hb0)
    have H := some_s LChooses (by decide) (by decide) w.heap.size 22 which hw0 hw1 ta tb tc alo ahi blo bhi clo chi anl bnl cnl nn (w.alloc (.cells #[.int .i64 13, .int .i64 14, .int .i64 15, .int .i64 16, .int .i64 17, .int .i64 18, .int .i64 19, .int .i64 20, .int .i64 21, .int .i64 22, .int .i64 23, .int .i64 24, .int .i64 25, .int .i64 26, .int .i64 27, .int .i64 28, .int .i64 29, .int .i64 30, .int .i64 31, .int .i64 32, .int .i64 33, .int .i64 34] 3)) (by rw [size_al]; omega) (row_Chooses w) y (y % LChooses.length) hy rfl hi op hop ⟨P.lo, P.hi⟩ 127 (by decide) ro (nmL op) tk lv fx P.of P.tk1 P.tk2 lo hi' HP HR
    exact H.mono fun e w' ⟨he, hb⟩ => ⟨he, hb0.trans (hb.mono hb0.size)⟩
  rw [Bool.or_eq_true] at hchk
  rcases hchk with hchk | hx
  rotate_left
  · rw [Bool.and_eq_true] at hx
    replace hx := hx.2
    obtain ⟨⟨ro, tk, lv, fx, P⟩, lo, hi', HP, HR⟩ := agree_splat op 8 (by decide) false 127 (by decide) hx nn hnn (w.alloc (.cells #[.int .i64 13, .int .i64 14, .int .i64 15, .int .i64 16, .int .i64 17, .int .i64 18, .int .i64 19, .int .i64 20, .int .i64 21, .int .i64 22, .int .i64 23, .int .i64 24, .int .i64 25, .int .i64 26, .int .i64 27, .int .i64 28, .int .i64 29, .int .i64 30, .int .i64 31, .int .i64 32, .int .i64 33, .int .i64 34] 3)) (hg.next hb0)
    have H := some_s LChooses (by decide) (by decide) w.heap.size 22 which hw0 hw1 ta tb tc alo ahi blo bhi clo chi anl bnl cnl nn (w.alloc (.cells #[.int .i64 13, .int .i64 14, .int .i64 15, .int .i64 16, .int .i64 17, .int .i64 18, .int .i64 19, .int .i64 20, .int .i64 21, .int .i64 22, .int .i64 23, .int .i64 24, .int .i64 25, .int .i64 26, .int .i64 27, .int .i64 28, .int .i64 29, .int .i64 30, .int .i64 31, .int .i64 32, .int .i64 33, .int .i64 34] 3)) (by rw [size_al]; omega) (row_Chooses w) y (y % LChooses.length) hy rfl hi op hop ⟨P.lo, P.hi⟩ 127 (by decide) ro (nmL op) tk lv fx P.of P.tk1 P.tk2 lo hi' HP HR
    exact H.mono fun e w' ⟨he, hb⟩ => ⟨he, hb0.trans (hb.mono hb0.size)⟩
  rw [Bool.or_eq_true] at hchk
  rcases hchk with hchk | hx
  rotate_left
  · rw [Bool.and_eq_true] at hx
    replace hx := hx.2
    obtain ⟨⟨ro, tk, lv, fx, P⟩, lo, hi', HP, HR⟩ := agree_swiz op hx alo ahi anl h1 h2 blo bhi bnl h3 h4 (w.alloc (.cells #[.int .i64 13, .int .i64 14, .int .i64 15, .int .i64 16, .int .i64 17, .int .i64 18, .int .i64 19, .int .i64 20, .int .i64 21, .int .i64 22, .int .i64 23, .int .i64 24, .int .i64 25, .int .i64 26, .int .i64 27, .int .i64 28, .int .i64 29, .int .i64 30, .int .i64 31, .int .i64 32, .int .i64 33, .int .i64 34] 3)) (hg.next hb0)
    have H := some_2 LChooses (by decide) (by decide) w.heap.size 22 which hw0 hw1 ta tb tc alo ahi blo bhi clo chi anl bnl cnl nn (w.alloc (.cells #[.int .i64 13, .int .i64 14, .int .i64 15, .int .i64 16, .int .i64 17, .int .i64 18, .int .i64 19, .int .i64 20, .int .i64 21, .int .i64 22, .int .i64 23, .int .i64 24, .int .i64 25, .int .i64 26, .int .i64 27, .int .i64 28, .int .i64 29, .int .i64 30, .int .i64 31, .int .i64 32, .int .i64 33, .int .i64 34] 3)) (by rw [size_al]; omega) (row_Chooses w) y (y % LChooses.length) hy rfl hi op hop ⟨P.lo, P.hi⟩ ro (nmL op) tk lv fx P.of P.tk1 P.tk2 lo hi' HP HR
    exact H.mono fun e w' ⟨he, hb⟩ => ⟨he, hb0.trans (hb.mono hb0.size)⟩
  have hx := hchk
  · rw [Bool.and_eq_true] at hx
    replace hx := hx.2
    obtain ⟨y31, hy31, hyb⟩ := and_mask which hw0 hw1 31 (.inr rfl)
    obtain ⟨⟨ro, tk, lv, fx, P⟩, hrl, lo, hi', HP, HR⟩ := agree_shuf op (fun i => (y31 + i * i) % 32) (fun i => Nat.mod_lt _ (by decide)) hx alo ahi anl h1 h2 blo bhi bnl h3 h4 (w.alloc (.cells #[.int .i64 13, .int .i64 14, .int .i64 15, .int .i64 16, .int .i64 17, .int .i64 18, .int .i64 19, .int .i64 20, .int .i64 21, .int .i64 22, .int .i64 23, .int .i64 24, .int .i64 25, .int .i64 26, .int .i64 27, .int .i64 28, .int .i64 29, .int .i64 30, .int .i64 31, .int .i64 32, .int .i64 33, .int .i64 34] 3)) (hg.next hb0)
    have H := some_sh LChooses (by decide) (by decide) w.heap.size 22 which hw0 hw1 ta tb tc alo ahi blo bhi clo chi anl bnl cnl nn (w.alloc (.cells #[.int .i64 13, .int .i64 14, .int .i64 15, .int .i64 16, .int .i64 17, .int .i64 18, .int .i64 19, .int .i64 20, .int .i64 21, .int .i64 22, .int .i64 23, .int .i64 24, .int .i64 25, .int .i64 26, .int .i64 27, .int .i64 28, .int .i64 29, .int .i64 30, .int .i64 31, .int .i64 32, .int .i64 33, .int .i64 34] 3)) (by rw [size_al]; omega) (row_Chooses w) y (y % LChooses.length) hy rfl hi op hop ⟨P.lo, P.hi⟩ (fun i => (y31 + i * i) % 32) y31 hy31 hyb (fun i => rfl) ro (nmL op) tk lv fx P.of P.tk1 P.tk2 lo hi' HP HR
    exact H.mono fun e w' ⟨he, hb⟩ => ⟨he, hb0.trans (hb.mono hb0.size)⟩
set_option maxHeartbeats 4000000 in
set_option maxRecDepth 100000 in
theorem law_Chooses (which : Int) (hw0 : -9223372036854775808 ≤ which) (hw1 : which ≤ 9223372036854775807) (ta tb tc : Int) (alo ahi blo bhi clo chi : Nat) (anl bnl cnl : Bool) (h1 : alo < 18446744073709551616) (h2 : ahi < 18446744073709551616) (h3 : blo < 18446744073709551616) (h4 : bhi < 18446744073709551616) (nn : Nat) (hnn : nn < 18446744073709551616) (w : World) (hg : Glob w) :
    Calls Tryz.prog 11 #[.int .i64 which, vv ta alo ahi anl, vv tb blo bhi bnl, vv tc clo chi cnl, .int .u64 (nn : Nat)] w fun e w' => e = .returned (.bool true) ∧ Below w.heap.size w w' := by
  have HA := fun W h => hid (awake_says W h)
  have HS := fun W h => hid (some_Chooses which hw0 hw1 ta tb tc alo ahi blo bhi clo chi anl bnl cnl h1 h2 h3 h4 nn hnn W h)
  have HX := hid (Bx.start w #[.int .i64 ta, .int .u64 (alo : Nat), .int .u64 (ahi : Nat), .bool anl] #[.int .i64 tb, .int .u64 (blo : Nat), .int .u64 (bhi : Nat), .bool bnl] #[.int .i64 tc, .int .u64 (clo : Nat), .int .u64 (chi : Nat), .bool cnl])
  have HAA := HA _ (hg.next HX.out.below)
  have HG := hid hg
  unfold vv at HS ⊢
  clear hg h1 h2 h3 h4 hnn hw0 hw1
  go_enter Tryz.func11, Tryz.ntmps11
  go_upto_region 2 with (go_at_call 19; (with_reducible refine HAA.out.mono ?_); rintro e w1 ⟨rfl, hb1⟩; have HX1 := hid (HX.out.to hb1); clear hb1)
  have HS1 := HS _ (HG.out.next HX1.out.below)
  have HB1 := hid HX1.out.below
  have hsz := HX1.out.below.size
  have a0 := fun o => (HX1.out.a.alloc o).at (k := 0) (v := .int .i64 ta) rfl
  have a1 := fun o => (HX1.out.a.alloc o).at (k := 1) (v := .int .u64 (alo : Nat)) rfl
  have a2 := fun o => (HX1.out.a.alloc o).at (k := 2) (v := .int .u64 (ahi : Nat)) rfl
  have a3 := fun o => (HX1.out.a.alloc o).at (k := 3) (v := .bool anl) rfl
  have b0 := fun o => (HX1.out.b.alloc o).at (k := 0) (v := .int .i64 tb) rfl
  have b1 := fun o => (HX1.out.b.alloc o).at (k := 1) (v := .int .u64 (blo : Nat)) rfl
  have b2 := fun o => (HX1.out.b.alloc o).at (k := 2) (v := .int .u64 (bhi : Nat)) rfl
  have b3 := fun o => (HX1.out.b.alloc o).at (k := 3) (v := .bool bnl) rfl
  have c0 := fun o => (HX1.out.c.alloc o).at (k := 0) (v := .int .i64 tc) rfl
  have c1 := fun o => (HX1.out.c.alloc o).at (k := 1) (v := .int .u64 (clo : Nat)) rfl
  have c2 := fun o => (HX1.out.c.alloc o).at (k := 2) (v := .int .u64 (chi : Nat)) rfl
  have c3 := fun o => (HX1.out.c.alloc o).at (k := 3) (v := .bool cnl) rfl
  clear HX HX1 HAA HA HS HG
  go_wp2_with (go_at_call 21; (with_reducible refine HS1.out.mono ?_); rintro e w2 ⟨rfl, hb2⟩; have HB2 := hid (HB1.out.trans (hb2.mono hsz)); clear hb2)
  go_ret
  exact ⟨rfl, HB2.out⟩
end Go.Proofs.YtlhakbkdlgejpaaGreatDoor
