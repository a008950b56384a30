/-
  LawBits, Laid, LVal: merged, what the law does not reach left out (each text says what it holds where it lies in wip). No condition.
-/
import Derived.Test.YtlhakbkdlgejpaaGreatDoorK23
import Derived.Test.YtlhakbkdlgejpaaGreatDoorK27
import Derived.Test.YtlhakbkdlgejpaaGreatDoorK28
import Derived.Test.YtlhakbkdlgejpaaGreatDoorK06
import Derived.Test.YtlhakbkdlgejpaaGreatDoorRows
import Derived.ProofKit
import Derived.LaidMore
import Derived.OpenShut
import Derived.Lib.LaidTab
import Derived.ChangeSame
import Derived.Stop.LaidErr
import Derived.Test.YtlhakbkdlgejpaaGreatDoorK11
import Derived.Test.YtlhakbkdlgejpaaGreatDoorK09
import Derived.ChangeArms
set_option linter.unusedSimpArgs false
set_option linter.unusedVariables false
set_option maxRecDepth 100000
namespace Go.Proofs.YtlhakbkdlgejpaaGreatDoor
open Go.RowKit
noncomputable def chkBA (op : Int) : Bool := ((op == 64845) && (chkB op [123] 123 [110, 111, 116] 64 0 && (plL WHO (tailC (nmL op) 46) 0 == 0) && ((tailC (nmL op) 46 == [97, 110, 121, 95, 116, 114, 117, 101]) == false))) || ((op == 64846) && (chkB op [123, 123] 123 [97, 110, 100] 64 0 && (plL WHO (tailC (nmL op) 46) 0 == 1) && ((tailC (nmL op) 46 == [97, 110, 121, 95, 116, 114, 117, 101]) == false))) || ((op == 64847) && (chkB op [123, 123] 123 [97, 110, 100, 110, 111, 116] 64 0 && (plL WHO (tailC (nmL op) 46) 0 == 2) && ((tailC (nmL op) 46 == [97, 110, 121, 95, 116, 114, 117, 101]) == false))) || ((op == 64848) && (chkB op [123, 123] 123 [111, 114] 64 0 && (plL WHO (tailC (nmL op) 46) 0 == 3) && ((tailC (nmL op) 46 == [97, 110, 121, 95, 116, 114, 117, 101]) == false))) || ((op == 64849) && (chkB op [123, 123] 123 [120, 111, 114] 64 0 && (plL WHO (tailC (nmL op) 46) 0 == 4) && ((tailC (nmL op) 46 == [97, 110, 121, 95, 116, 114, 117, 101]) == false))) || ((op == 64850) && (chkB op [123, 123, 123] 123 [98, 105, 116, 115, 101, 108, 101, 99, 116] 64 0 && (plL WHO (tailC (nmL op) 46) 0 == 5) && ((tailC (nmL op) 46 == [97, 110, 121, 95, 116, 114, 117, 101]) == false))) || ((op == 64851) && (chkB op [123] 127 [97, 110, 121, 95, 116, 114, 117, 101] 64 0 && ((plL WHO (tailC (nmL op) 46) 0 == 6) && ((tailC (nmL op) 46 == [97, 110, 121, 95, 116, 114, 117, 101]) == true)))) || ((op == 64867) && (chkB op [123] 127 [97, 108, 108, 95, 116, 114, 117, 101] 8 8 && (((tailC (nmL op) 46 == [115, 112, 108, 97, 116]) == false) && ((tailC (nmL op) 46 == [115, 119, 105, 122, 122, 108, 101]) == false) && ((tailC (nmL op) 46 == [97, 108, 108, 95, 116, 114, 117, 101]) == true) && ((tailC (nmL op) 46 == [98, 105, 116, 109, 97, 115, 107]) == false)))) || ((op == 64868) && (chkB op [123] 127 [98, 105, 116, 109, 97, 115, 107] 8 8 && (((tailC (nmL op) 46 == [115, 112, 108, 97, 116]) == false) && ((tailC (nmL op) 46 == [115, 119, 105, 122, 122, 108, 101]) == false) && ((tailC (nmL op) 46 == [97, 108, 108, 95, 116, 114, 117, 101]) == false) && ((tailC (nmL op) 46 == [98, 105, 116, 109, 97, 115, 107]) == true)))) || ((op == 64899) && (chkB op [123] 127 [97, 108, 108, 95, 116, 114, 117, 101] 16 16 && (((tailC (nmL op) 46 == [115, 112, 108, 97, 116]) == false) && ((tailC (nmL op) 46 == [115, 119, 105, 122, 122, 108, 101]) == false) && ((tailC (nmL op) 46 == [97, 108, 108, 95, 116, 114, 117, 101]) == true) && ((tailC (nmL op) 46 == [98, 105, 116, 109, 97, 115, 107]) == false)))) || ((op == 64900) && (chkB op [123] 127 [98, 105, 116, 109, 97, 115, 107] 16 16 && (((tailC (nmL op) 46 == [115, 112, 108, 97, 116]) == false) && ((tailC (nmL op) 46 == [115, 119, 105, 122, 122, 108, 101]) == false) && ((tailC (nmL op) 46 == [97, 108, 108, 95, 116, 114, 117, 101]) == false) && ((tailC (nmL op) 46 == [98, 105, 116, 109, 97, 115, 107]) == true)))) || ((op == 64931) && (chkB op [123] 127 [97, 108, 108, 95, 116, 114, 117, 101] 32 32 && (((tailC (nmL op) 46 == [115, 112, 108, 97, 116]) == false) && ((tailC (nmL op) 46 == [115, 119, 105, 122, 122, 108, 101]) == false) && ((tailC (nmL op) 46 == [97, 108, 108, 95, 116, 114, 117, 101]) == true) && ((tailC (nmL op) 46 == [98, 105, 116, 109, 97, 115, 107]) == false)))) || ((op == 64932) && (chkB op [123] 127 [98, 105, 116, 109, 97, 115, 107] 32 32 && (((tailC (nmL op) 46 == [115, 112, 108, 97, 116]) == false) && ((tailC (nmL op) 46 == [115, 119, 105, 122, 122, 108, 101]) == false) && ((tailC (nmL op) 46 == [97, 108, 108, 95, 116, 114, 117, 101]) == false) && ((tailC (nmL op) 46 == [98, 105, 116, 109, 97, 115, 107]) == true)))) || ((op == 64963) && (chkB op [123] 127 [97, 108, 108, 95, 116, 114, 117, 101] 64 64 && (((tailC (nmL op) 46 == [115, 112, 108, 97, 116]) == false) && ((tailC (nmL op) 46 == [115, 119, 105, 122, 122, 108, 101]) == false) && ((tailC (nmL op) 46 == [97, 108, 108, 95, 116, 114, 117, 101]) == true) && ((tailC (nmL op) 46 == [98, 105, 116, 109, 97, 115, 107]) == false)))) || ((op == 64964) && (chkB op [123] 127 [98, 105, 116, 109, 97, 115, 107] 64 64 && (((tailC (nmL op) 46 == [115, 112, 108, 97, 116]) == false) && ((tailC (nmL op) 46 == [115, 119, 105, 122, 122, 108, 101]) == false) && ((tailC (nmL op) 46 == [97, 108, 108, 95, 116, 114, 117, 101]) == false) && ((tailC (nmL op) 46 == [98, 105, 116, 109, 97, 115, 107]) == true))))
theorem bits_all : (LBits.all fun x => chkBA (64768 + x)) = true := by kernel_rfl
set_option maxRecDepth 100000 in
theorem row_Bits (w : World) : ∀ j, j < LBits.length → (w.alloc (.cells #[.int .i64 77, .int .i64 78, .int .i64 79, .int .i64 80, .int .i64 81, .int .i64 82, .int .i64 83, .int .i64 99, .int .i64 100, .int .i64 131, .int .i64 132, .int .i64 163, .int .i64 164, .int .i64 195, .int .i64 196] 3)).cell? ⟨w.heap.size, j, none⟩ = some (.int .i64 (LBits.getD j 0)) := fun j hj => by
  have h := CA.new w #[.int .i64 77, .int .i64 78, .int .i64 79, .int .i64 80, .int .i64 81, .int .i64 82, .int .i64 83, .int .i64 99, .int .i64 100, .int .i64 131, .int .i64 132, .int .i64 163, .int .i64 164, .int .i64 195, .int .i64 196] 3
  have hj : j < 15 := hj
  have e : ∀ i : Fin 15, (#[.int .i64 77, .int .i64 78, .int .i64 79, .int .i64 80, .int .i64 81, .int .i64 82, .int .i64 83, .int .i64 99, .int .i64 100, .int .i64 131, .int .i64 132, .int .i64 163, .int .i64 164, .int .i64 195, .int .i64 196] : Array Value)[i.val]? = some (.int .i64 (LBits.getD i.val 0)) := by
    intro i
    rcases i with ⟨i, hi⟩; rcases (show i = 0 ∨ i = 1 ∨ i = 2 ∨ i = 3 ∨ i = 4 ∨ i = 5 ∨ i = 6 ∨ i = 7 ∨ i = 8 ∨ i = 9 ∨ i = 10 ∨ i = 11 ∨ i = 12 ∨ i = 13 ∨ i = 14 by omega) with rfl | rfl | rfl | rfl | rfl | rfl | rfl | rfl | rfl | rfl | rfl | rfl | rfl | rfl | rfl <;> rfl
  exact h.at (k := j) (e ⟨j, hj⟩)
set_option maxHeartbeats 4000000 in
set_option maxRecDepth 100000 in
theorem some_Bits (which : Int) (hw0 : -9223372036854775808 ≤ which) (hw1 : which ≤ 9223372036854775807) (ta tb tc : Int) (alo ahi blo bhi clo chi : Nat) (anl bnl cnl : Bool) (h1 : alo < 18446744073709551616) (h2 : ahi < 18446744073709551616) (h3 : blo < 18446744073709551616) (h4 : bhi < 18446744073709551616) (h5 : clo < 18446744073709551616) (h6 : chi < 18446744073709551616) (nn : Nat) (w : World) (hg : Glob w) :
    Calls Tryz.prog 21 #[.slice (some ⟨w.heap.size, 0, none⟩) 15 15, .int .i64 which, vv ta alo ahi anl, vv tb blo bhi bnl, vv tc clo chi cnl, .int .u64 (nn : Nat)] (w.alloc (.cells #[.int .i64 77, .int .i64 78, .int .i64 79, .int .i64 80, .int .i64 81, .int .i64 82, .int .i64 83, .int .i64 99, .int .i64 100, .int .i64 131, .int .i64 132, .int .i64 163, .int .i64 164, .int .i64 195, .int .i64 196] 3)) fun e w' => e = .returned (.bool true) ∧ Below w.heap.size w w' := by
  obtain ⟨y, _, hy⟩ := and_1023 which
  have hi : y % LBits.length < LBits.length := Nat.mod_lt _ (by decide)
  have hmem : LBits.getD (y % LBits.length) 0 ∈ LBits := by
    rw [List.getD_eq_getElem?_getD, List.getElem?_eq_getElem hi]
    exact List.getElem_mem hi
  have hchk : chkBA (64768 + LBits.getD (y % LBits.length) 0) = true := List.all_eq_true.1 bits_all _ hmem
  obtain ⟨op, hop⟩ : ∃ op, op = 64768 + LBits.getD (y % LBits.length) 0 := ⟨_, rfl⟩
  rw [← hop] at hchk
  have hb0 := (Below.refl _ w).alloc (Nat.le_refl _) (.cells #[.int .i64 77, .int .i64 78, .int .i64 79, .int .i64 80, .int .i64 81, .int .i64 82, .int .i64 83, .int .i64 99, .int .i64 100, .int .i64 131, .int .i64 132, .int .i64 163, .int .i64 164, .int .i64 195, .int .i64 196] 3)
  unfold chkBA at hchk
  rw [Bool.or_eq_true] at hchk
  rcases hchk with hchk | hx
  rotate_left
  · rw [Bool.and_eq_true] at hx
    replace hx := hx.2
    obtain ⟨⟨ro, tk, lv, fx, P⟩, lo, hi', HP, HR⟩ := agree_bmask op 64 (by decide) hx alo ahi anl h1 h2 (w.alloc (.cells #[.int .i64 77, .int .i64 78, .int .i64 79, .int .i64 80, .int .i64 81, .int .i64 82, .int .i64 83, .int .i64 99, .int .i64 100, .int .i64 131, .int .i64 132, .int .i64 163, .int .i64 164, .int .i64 195, .int .i64 196] 3)) (hg.next hb0)
    have H := some_n1 LBits (by decide) (by decide) w.heap.size 15 which hw0 hw1 ta tb tc alo ahi blo bhi clo chi anl bnl cnl nn (w.alloc (.cells #[.int .i64 77, .int .i64 78, .int .i64 79, .int .i64 80, .int .i64 81, .int .i64 82, .int .i64 83, .int .i64 99, .int .i64 100, .int .i64 131, .int .i64 132, .int .i64 163, .int .i64 164, .int .i64 195, .int .i64 196] 3)) (by rw [size_al]; omega) (row_Bits w) y (y % LBits.length) hy rfl hi op hop ⟨P.lo, P.hi⟩ ro (nmL op) tk lv fx P.of P.tk1 P.tk2 lo hi' HP HR
    exact H.mono fun e w' ⟨he, hb⟩ => ⟨he, hb0.trans (hb.mono hb0.size)⟩
  rw [Bool.or_eq_true] at hchk
  rcases hchk with hchk | hx
  rotate_left
  · rw [Bool.and_eq_true] at hx
    replace hx := hx.2
    obtain ⟨⟨ro, tk, lv, fx, P⟩, lo, hi', HP, HR⟩ := agree_ball op 64 (by decide) hx alo ahi anl h1 h2 (w.alloc (.cells #[.int .i64 77, .int .i64 78, .int .i64 79, .int .i64 80, .int .i64 81, .int .i64 82, .int .i64 83, .int .i64 99, .int .i64 100, .int .i64 131, .int .i64 132, .int .i64 163, .int .i64 164, .int .i64 195, .int .i64 196] 3)) (hg.next hb0)
    have H := some_n1 LBits (by decide) (by decide) w.heap.size 15 which hw0 hw1 ta tb tc alo ahi blo bhi clo chi anl bnl cnl nn (w.alloc (.cells #[.int .i64 77, .int .i64 78, .int .i64 79, .int .i64 80, .int .i64 81, .int .i64 82, .int .i64 83, .int .i64 99, .int .i64 100, .int .i64 131, .int .i64 132, .int .i64 163, .int .i64 164, .int .i64 195, .int .i64 196] 3)) (by rw [size_al]; omega) (row_Bits w) y (y % LBits.length) hy rfl hi op hop ⟨P.lo, P.hi⟩ ro (nmL op) tk lv fx P.of P.tk1 P.tk2 lo hi' HP HR
    exact H.mono fun e w' ⟨he, hb⟩ => ⟨he, hb0.trans (hb.mono hb0.size)⟩
  rw [Bool.or_eq_true] at hchk
  rcases hchk with hchk | hx
  rotate_left
  · rw [Bool.and_eq_true] at hx
    replace hx := hx.2
    obtain ⟨⟨ro, tk, lv, fx, P⟩, lo, hi', HP, HR⟩ := agree_bmask op 32 (by decide) hx alo ahi anl h1 h2 (w.alloc (.cells #[.int .i64 77, .int .i64 78, .int .i64 79, .int .i64 80, .int .i64 81, .int .i64 82, .int .i64 83, .int .i64 99, .int .i64 100, .int .i64 131, .int .i64 132, .int .i64 163, .int .i64 164, .int .i64 195, .int .i64 196] 3)) (hg.next hb0)
    have H := some_n1 LBits (by decide) (by decide) w.heap.size 15 which hw0 hw1 ta tb tc alo ahi blo bhi clo chi anl bnl cnl nn (w.alloc (.cells #[.int .i64 77, .int .i64 78, .int .i64 79, .int .i64 80, .int .i64 81, .int .i64 82, .int .i64 83, .int .i64 99, .int .i64 100, .int .i64 131, .int .i64 132, .int .i64 163, .int .i64 164, .int .i64 195, .int .i64 196] 3)) (by rw [size_al]; omega) (row_Bits w) y (y % LBits.length) hy rfl hi op hop ⟨P.lo, P.hi⟩ ro (nmL op) tk lv fx P.of P.tk1 P.tk2 lo hi' HP HR
    exact H.mono fun e w' ⟨he, hb⟩ => ⟨he, hb0.trans (hb.mono hb0.size)⟩
  rw [Bool.or_eq_true] at hchk
  rcases hchk with hchk | hx
  rotate_left
  · rw [Bool.and_eq_true] at hx
    replace hx := hx.2
    obtain ⟨⟨ro, tk, lv, fx, P⟩, lo, hi', HP, HR⟩ := agree_ball op 32 (by decide) hx alo ahi anl h1 h2 (w.alloc (.cells #[.int .i64 77, .int .i64 78, .int .i64 79, .int .i64 80, .int .i64 81, .int .i64 82, .int .i64 83, .int .i64 99, .int .i64 100, .int .i64 131, .int .i64 132, .int .i64 163, .int .i64 164, .int .i64 195, .int .i64 196] 3)) (hg.next hb0)
    have H := some_n1 LBits (by decide) (by decide) w.heap.size 15 which hw0 hw1 ta tb tc alo ahi blo bhi clo chi anl bnl cnl nn (w.alloc (.cells #[.int .i64 77, .int .i64 78, .int .i64 79, .int .i64 80, .int .i64 81, .int .i64 82, .int .i64 83, .int .i64 99, .int .i64 100, .int .i64 131, .int .i64 132, .int .i64 163, .int .i64 164, .int .i64 195, .int .i64 196] 3)) (by rw [size_al]; omega) (row_Bits w) y (y % LBits.length) hy rfl hi op hop ⟨P.lo, P.hi⟩ ro (nmL op) tk lv fx P.of P.tk1 P.tk2 lo hi' HP HR
    exact H.mono fun e w' ⟨he, hb⟩ => ⟨he, hb0.trans (hb.mono hb0.size)⟩
  rw [Bool.or_eq_true] at hchk
  rcases hchk with hchk | hx
  rotate_left
  · rw [Bool.and_eq_true] at hx
    replace hx := hx.2
    obtain ⟨⟨ro, tk, lv, fx, P⟩, lo, hi', HP, HR⟩ := agree_bmask op 16 (by decide) hx alo ahi anl h1 h2 (w.alloc (.cells #[.int .i64 77, .int .i64 78, .int .i64 79, .int .i64 80, .int .i64 81, .int .i64 82, .int .i64 83, .int .i64 99, .int .i64 100, .int .i64 131, .int .i64 132, .int .i64 163, .int .i64 164, .int .i64 195, .int .i64 196] 3)) (hg.next hb0)
    have H := some_n1 LBits (by decide) (by decide) w.heap.size 15 which hw0 hw1 ta tb tc alo ahi blo bhi clo chi anl bnl cnl nn (w.alloc (.cells #[.int .i64 77, .int .i64 78, .int .i64 79, .int .i64 80, .int .i64 81, .int .i64 82, .int .i64 83, .int .i64 99, .int .i64 100, .int .i64 131, .int .i64 132, .int .i64 163, .int .i64 164, .int .i64 195, .int .i64 196] 3)) (by rw [size_al]; omega) (row_Bits w) y (y % LBits.length) hy rfl hi op hop ⟨P.lo, P.hi⟩ ro (nmL op) tk lv fx P.of P.tk1 P.tk2 lo hi' HP HR
    exact H.mono fun e w' ⟨he, hb⟩ => ⟨he, hb0.trans (hb.mono hb0.size)⟩
  rw [Bool.or_eq_true] at hchk
  rcases hchk with hchk | hx
  rotate_left
  · rw [Bool.and_eq_true] at hx
    replace hx := hx.2
    obtain ⟨⟨ro, tk, lv, fx, P⟩, lo, hi', HP, HR⟩ := agree_ball op 16 (by decide) hx alo ahi anl h1 h2 (w.alloc (.cells #[.int .i64 77, .int .i64 78, .int .i64 79, .int .i64 80, .int .i64 81, .int .i64 82, .int .i64 83, .int .i64 99, .int .i64 100, .int .i64 131, .int .i64 132, .int .i64 163, .int .i64 164, .int .i64 195, .int .i64 196] 3)) (hg.next hb0)
    have H := some_n1 LBits (by decide) (by decide) w.heap.size 15 which hw0 hw1 ta tb tc alo ahi blo bhi clo chi anl bnl cnl nn (w.alloc (.cells #[.int .i64 77, .int .i64 78, .int .i64 79, .int .i64 80, .int .i64 81, .int .i64 82, .int .i64 83, .int .i64 99, .int .i64 100, .int .i64 131, .int .i64 132, .int .i64 163, .int .i64 164, .int .i64 195, .int .i64 196] 3)) (by rw [size_al]; omega) (row_Bits w) y (y % LBits.length) hy rfl hi op hop ⟨P.lo, P.hi⟩ ro (nmL op) tk lv fx P.of P.tk1 P.tk2 lo hi' HP HR
    exact H.mono fun e w' ⟨he, hb⟩ => ⟨he, hb0.trans (hb.mono hb0.size)⟩
  rw [Bool.or_eq_true] at hchk
  rcases hchk with hchk | hx
  rotate_left
  · rw [Bool.and_eq_true] at hx
    replace hx := hx.2
    obtain ⟨⟨ro, tk, lv, fx, P⟩, lo, hi', HP, HR⟩ := agree_bmask op 8 (by decide) hx alo ahi anl h1 h2 (w.alloc (.cells #[.int .i64 77, .int .i64 78, .int .i64 79, .int .i64 80, .int .i64 81, .int .i64 82, .int .i64 83, .int .i64 99, .int .i64 100, .int .i64 131, .int .i64 132, .int .i64 163, .int .i64 164, .int .i64 195, .int .i64 196] 3)) (hg.next hb0)
    have H := some_n1 LBits (by decide) (by decide) w.heap.size 15 which hw0 hw1 ta tb tc alo ahi blo bhi clo chi anl bnl cnl nn (w.alloc (.cells #[.int .i64 77, .int .i64 78, .int .i64 79, .int .i64 80, .int .i64 81, .int .i64 82, .int .i64 83, .int .i64 99, .int .i64 100, .int .i64 131, .int .i64 132, .int .i64 163, .int .i64 164, .int .i64 195, .int .i64 196] 3)) (by rw [size_al]; omega) (row_Bits w) y (y % LBits.length) hy rfl hi op hop ⟨P.lo, P.hi⟩ ro (nmL op) tk lv fx P.of P.tk1 P.tk2 lo hi' HP HR
    exact H.mono fun e w' ⟨he, hb⟩ => ⟨he, hb0.trans (hb.mono hb0.size)⟩
  rw [Bool.or_eq_true] at hchk
  rcases hchk with hchk | hx
  rotate_left
  · rw [Bool.and_eq_true] at hx
    replace hx := hx.2
    obtain ⟨⟨ro, tk, lv, fx, P⟩, lo, hi', HP, HR⟩ := agree_ball op 8 (by decide) hx alo ahi anl h1 h2 (w.alloc (.cells #[.int .i64 77, .int .i64 78, .int .i64 79, .int .i64 80, .int .i64 81, .int .i64 82, .int .i64 83, .int .i64 99, .int .i64 100, .int .i64 131, .int .i64 132, .int .i64 163, .int .i64 164, .int .i64 195, .int .i64 196] 3)) (hg.next hb0)
    have H := some_n1 LBits (by decide) (by decide) w.heap.size 15 which hw0 hw1 ta tb tc alo ahi blo bhi clo chi anl bnl cnl nn (w.alloc (.cells #[.int .i64 77, .int .i64 78, .int .i64 79, .int .i64 80, .int .i64 81, .int .i64 82, .int .i64 83, .int .i64 99, .int .i64 100, .int .i64 131, .int .i64 132, .int .i64 163, .int .i64 164, .int .i64 195, .int .i64 196] 3)) (by rw [size_al]; omega) (row_Bits w) y (y % LBits.length) hy rfl hi op hop ⟨P.lo, P.hi⟩ ro (nmL op) tk lv fx P.of P.tk1 P.tk2 lo hi' HP HR
    exact H.mono fun e w' ⟨he, hb⟩ => ⟨he, hb0.trans (hb.mono hb0.size)⟩
  rw [Bool.or_eq_true] at hchk
  rcases hchk with hchk | hx
  rotate_left
  · rw [Bool.and_eq_true] at hx
    replace hx := hx.2
    obtain ⟨⟨ro, tk, lv, fx, P⟩, lo, hi', HP, HR⟩ := agree_bany op hx alo ahi anl h1 h2 (w.alloc (.cells #[.int .i64 77, .int .i64 78, .int .i64 79, .int .i64 80, .int .i64 81, .int .i64 82, .int .i64 83, .int .i64 99, .int .i64 100, .int .i64 131, .int .i64 132, .int .i64 163, .int .i64 164, .int .i64 195, .int .i64 196] 3)) (hg.next hb0)
    have H := some_n1 LBits (by decide) (by decide) w.heap.size 15 which hw0 hw1 ta tb tc alo ahi blo bhi clo chi anl bnl cnl nn (w.alloc (.cells #[.int .i64 77, .int .i64 78, .int .i64 79, .int .i64 80, .int .i64 81, .int .i64 82, .int .i64 83, .int .i64 99, .int .i64 100, .int .i64 131, .int .i64 132, .int .i64 163, .int .i64 164, .int .i64 195, .int .i64 196] 3)) (by rw [size_al]; omega) (row_Bits w) y (y % LBits.length) hy rfl hi op hop ⟨P.lo, P.hi⟩ ro (nmL op) tk lv fx P.of P.tk1 P.tk2 lo hi' HP HR
    exact H.mono fun e w' ⟨he, hb⟩ => ⟨he, hb0.trans (hb.mono hb0.size)⟩
  rw [Bool.or_eq_true] at hchk
  rcases hchk with hchk | hx
  rotate_left
  · rw [Bool.and_eq_true] at hx
    replace hx := hx.2
    obtain ⟨⟨ro, tk, lv, fx, P⟩, lo, hi', HP, HR⟩ := agree_bsel op hx alo ahi anl h1 h2 blo bhi bnl h3 h4 clo chi cnl h5 h6 (w.alloc (.cells #[.int .i64 77, .int .i64 78, .int .i64 79, .int .i64 80, .int .i64 81, .int .i64 82, .int .i64 83, .int .i64 99, .int .i64 100, .int .i64 131, .int .i64 132, .int .i64 163, .int .i64 164, .int .i64 195, .int .i64 196] 3)) (hg.next hb0)
    have H := some_3 LBits (by decide) (by decide) w.heap.size 15 which hw0 hw1 ta tb tc alo ahi blo bhi clo chi anl bnl cnl nn (w.alloc (.cells #[.int .i64 77, .int .i64 78, .int .i64 79, .int .i64 80, .int .i64 81, .int .i64 82, .int .i64 83, .int .i64 99, .int .i64 100, .int .i64 131, .int .i64 132, .int .i64 163, .int .i64 164, .int .i64 195, .int .i64 196] 3)) (by rw [size_al]; omega) (row_Bits w) y (y % LBits.length) hy rfl hi op hop ⟨P.lo, P.hi⟩ ro (nmL op) tk lv fx P.of P.tk1 P.tk2 lo hi' HP HR
    exact H.mono fun e w' ⟨he, hb⟩ => ⟨he, hb0.trans (hb.mono hb0.size)⟩
  rw [Bool.or_eq_true] at hchk
  rcases hchk with hchk | hx
  rotate_left
  · rw [Bool.and_eq_true] at hx
    replace hx := hx.2
    obtain ⟨⟨ro, tk, lv, fx, P⟩, lo, hi', HP, HR⟩ := agree_xor op hx alo ahi anl h1 h2 blo bhi bnl h3 h4 (w.alloc (.cells #[.int .i64 77, .int .i64 78, .int .i64 79, .int .i64 80, .int .i64 81, .int .i64 82, .int .i64 83, .int .i64 99, .int .i64 100, .int .i64 131, .int .i64 132, .int .i64 163, .int .i64 164, .int .i64 195, .int .i64 196] 3)) (hg.next hb0)
    have H := some_2 LBits (by decide) (by decide) w.heap.size 15 which hw0 hw1 ta tb tc alo ahi blo bhi clo chi anl bnl cnl nn (w.alloc (.cells #[.int .i64 77, .int .i64 78, .int .i64 79, .int .i64 80, .int .i64 81, .int .i64 82, .int .i64 83, .int .i64 99, .int .i64 100, .int .i64 131, .int .i64 132, .int .i64 163, .int .i64 164, .int .i64 195, .int .i64 196] 3)) (by rw [size_al]; omega) (row_Bits w) y (y % LBits.length) hy rfl hi op hop ⟨P.lo, P.hi⟩ ro (nmL op) tk lv fx P.of P.tk1 P.tk2 lo hi' HP HR
    exact H.mono fun e w' ⟨he, hb⟩ => ⟨he, hb0.trans (hb.mono hb0.size)⟩
  rw [Bool.or_eq_true] at hchk
  rcases hchk with hchk | hx
  rotate_left
  · rw [Bool.and_eq_true] at hx
    replace hx := hx.2
    obtain ⟨⟨ro, tk, lv, fx, P⟩, lo, hi', HP, HR⟩ := agree_or op hx alo ahi anl h1 h2 blo bhi bnl h3 h4 (w.alloc (.cells #[.int .i64 77, .int .i64 78, .int .i64 79, .int .i64 80, .int .i64 81, .int .i64 82, .int .i64 83, .int .i64 99, .int .i64 100, .int .i64 131, .int .i64 132, .int .i64 163, .int .i64 164, .int .i64 195, .int .i64 196] 3)) (hg.next hb0)
    have H := some_2 LBits (by decide) (by decide) w.heap.size 15 which hw0 hw1 ta tb tc alo ahi blo bhi clo chi anl bnl cnl nn (w.alloc (.cells #[.int .i64 77, .int .i64 78, .int .i64 79, .int .i64 80, .int .i64 81, .int .i64 82, .int .i64 83, .int .i64 99, .int .i64 100, .int .i64 131, .int .i64 132, .int .i64 163, .int .i64 164, .int .i64 195, .int .i64 196] 3)) (by rw [size_al]; omega) (row_Bits w) y (y % LBits.length) hy rfl hi op hop ⟨P.lo, P.hi⟩ ro (nmL op) tk lv fx P.of P.tk1 P.tk2 lo hi' HP HR
    exact H.mono fun e w' ⟨he, hb⟩ => ⟨he, hb0.trans (hb.mono hb0.size)⟩
  rw [Bool.or_eq_true] at hchk
  rcases hchk with hchk | hx
  rotate_left
  · rw [Bool.and_eq_true] at hx
    replace hx := hx.2
    obtain ⟨⟨ro, tk, lv, fx, P⟩, lo, hi', HP, HR⟩ := agree_andnot op hx alo ahi anl h1 h2 blo bhi bnl h3 h4 (w.alloc (.cells #[.int .i64 77, .int .i64 78, .int .i64 79, .int .i64 80, .int .i64 81, .int .i64 82, .int .i64 83, .int .i64 99, .int .i64 100, .int .i64 131, .int .i64 132, .int .i64 163, .int .i64 164, .int .i64 195, .int .i64 196] 3)) (hg.next hb0)
    have H := some_2 LBits (by decide) (by decide) w.heap.size 15 which hw0 hw1 ta tb tc alo ahi blo bhi clo chi anl bnl cnl nn (w.alloc (.cells #[.int .i64 77, .int .i64 78, .int .i64 79, .int .i64 80, .int .i64 81, .int .i64 82, .int .i64 83, .int .i64 99, .int .i64 100, .int .i64 131, .int .i64 132, .int .i64 163, .int .i64 164, .int .i64 195, .int .i64 196] 3)) (by rw [size_al]; omega) (row_Bits w) y (y % LBits.length) hy rfl hi op hop ⟨P.lo, P.hi⟩ ro (nmL op) tk lv fx P.of P.tk1 P.tk2 lo hi' HP HR
    exact H.mono fun e w' ⟨he, hb⟩ => ⟨he, hb0.trans (hb.mono hb0.size)⟩
  rw [Bool.or_eq_true] at hchk
  rcases hchk with hchk | hx
  rotate_left
  · rw [Bool.and_eq_true] at hx
    replace hx := hx.2
    obtain ⟨⟨ro, tk, lv, fx, P⟩, lo, hi', HP, HR⟩ := agree_and op hx alo ahi anl h1 h2 blo bhi bnl h3 h4 (w.alloc (.cells #[.int .i64 77, .int .i64 78, .int .i64 79, .int .i64 80, .int .i64 81, .int .i64 82, .int .i64 83, .int .i64 99, .int .i64 100, .int .i64 131, .int .i64 132, .int .i64 163, .int .i64 164, .int .i64 195, .int .i64 196] 3)) (hg.next hb0)
    have H := some_2 LBits (by decide) (by decide) w.heap.size 15 which hw0 hw1 ta tb tc alo ahi blo bhi clo chi anl bnl cnl nn (w.alloc (.cells #[.int .i64 77, .int .i64 78, .int .i64 79, .int .i64 80, .int .i64 81, .int .i64 82, .int .i64 83, .int .i64 99, .int .i64 100, .int .i64 131, .int .i64 132, .int .i64 163, .int .i64 164, .int .i64 195, .int .i64 196] 3)) (by rw [size_al]; omega) (row_Bits w) y (y % LBits.length) hy rfl hi op hop ⟨P.lo, P.hi⟩ ro (nmL op) tk lv fx P.of P.tk1 P.tk2 lo hi' HP HR
    exact H.mono fun e w' ⟨he, hb⟩ => ⟨he, hb0.trans (hb.mono hb0.size)⟩
  have hx := hchk
  rw [Bool.and_eq_true] at hx
  replace hx := hx.2
  obtain ⟨⟨ro, tk, lv, fx, P⟩, lo, hi', HP, HR⟩ := agree_not op hx alo ahi anl h1 h2 (w.alloc (.cells #[.int .i64 77, .int .i64 78, .int .i64 79, .int .i64 80, .int .i64 81, .int .i64 82, .int .i64 83, .int .i64 99, .int .i64 100, .int .i64 131, .int .i64 132, .int .i64 163, .int .i64 164, .int .i64 195, .int .i64 196] 3)) (hg.next hb0)
  have H := some_1 LBits (by decide) (by decide) w.heap.size 15 which hw0 hw1 ta tb tc alo ahi blo bhi clo chi anl bnl cnl nn (w.alloc (.cells #[.int .i64 77, .int .i64 78, .int .i64 79, .int .i64 80, .int .i64 81, .int .i64 82, .int .i64 83, .int .i64 99, .int .i64 100, .int .i64 131, .int .i64 132, .int .i64 163, .int .i64 164, .int .i64 195, .int .i64 196] 3)) (by rw [size_al]; omega) (row_Bits w) y (y % LBits.length) hy rfl hi op hop ⟨P.lo, P.hi⟩ ro (nmL op) tk lv fx P.of P.tk1 P.tk2 lo hi' HP HR
  exact H.mono fun e w' ⟨he, hb⟩ => ⟨he, hb0.trans (hb.mono hb0.size)⟩
set_option maxHeartbeats 4000000 in
set_option maxRecDepth 100000 in
theorem law_Bits (which : Int) (hw0 : -9223372036854775808 ≤ which) (hw1 : which ≤ 9223372036854775807) (ta tb tc : Int) (alo ahi blo bhi clo chi : Nat) (anl bnl cnl : Bool) (h1 : alo < 18446744073709551616) (h2 : ahi < 18446744073709551616) (h3 : blo < 18446744073709551616) (h4 : bhi < 18446744073709551616) (h5 : clo < 18446744073709551616) (h6 : chi < 18446744073709551616) (nn : Nat) (w : World) (hg : Glob w) :
    Calls Tryz.prog 12 #[.int .i64 which, vv ta alo ahi anl, vv tb blo bhi bnl, vv tc clo chi cnl, .int .u64 (nn : Nat)] w fun e w' => e = .returned (.bool true) ∧ Below w.heap.size w w' := by
  have HA := fun W h => hid (awake_says W h)
  have HS := fun W h => hid (some_Bits which hw0 hw1 ta tb tc alo ahi blo bhi clo chi anl bnl cnl h1 h2 h3 h4 h5 h6 nn W h)
  have HX := hid (Bx.start w #[.int .i64 ta, .int .u64 (alo : Nat), .int .u64 (ahi : Nat), .bool anl] #[.int .i64 tb, .int .u64 (blo : Nat), .int .u64 (bhi : Nat), .bool bnl] #[.int .i64 tc, .int .u64 (clo : Nat), .int .u64 (chi : Nat), .bool cnl])
  have HAA := HA _ (hg.next HX.out.below)
  have HG := hid hg
  unfold vv at HS ⊢
  clear hg h1 h2 h3 h4 h5 h6 hw0 hw1
  go_enter Tryz.func12, Tryz.ntmps12
  go_upto_region 2 with (go_at_call 19; (with_reducible refine HAA.out.mono ?_); rintro e w1 ⟨rfl, hb1⟩; have HX1 := hid (HX.out.to hb1); clear hb1)
  have HS1 := HS _ (HG.out.next HX1.out.below)
  have HB1 := hid HX1.out.below
  have hsz := HX1.out.below.size
  have a0 := fun o => (HX1.out.a.alloc o).at (k := 0) (v := .int .i64 ta) rfl
  have a1 := fun o => (HX1.out.a.alloc o).at (k := 1) (v := .int .u64 (alo : Nat)) rfl
  have a2 := fun o => (HX1.out.a.alloc o).at (k := 2) (v := .int .u64 (ahi : Nat)) rfl
  have a3 := fun o => (HX1.out.a.alloc o).at (k := 3) (v := .bool anl) rfl
  have b0 := fun o => (HX1.out.b.alloc o).at (k := 0) (v := .int .i64 tb) rfl
  have b1 := fun o => (HX1.out.b.alloc o).at (k := 1) (v := .int .u64 (blo : Nat)) rfl
  have b2 := fun o => (HX1.out.b.alloc o).at (k := 2) (v := .int .u64 (bhi : Nat)) rfl
  have b3 := fun o => (HX1.out.b.alloc o).at (k := 3) (v := .bool bnl) rfl
  have c0 := fun o => (HX1.out.c.alloc o).at (k := 0) (v := .int .i64 tc) rfl
  have c1 := fun o => (HX1.out.c.alloc o).at (k := 1) (v := .int .u64 (clo : Nat)) rfl
  have c2 := fun o => (HX1.out.c.alloc o).at (k := 2) (v := .int .u64 (chi : Nat)) rfl
  have c3 := fun o => (HX1.out.c.alloc o).at (k := 3) (v := .bool cnl) rfl
  clear HX HX1 HAA HA HS HG
  go_wp2_with (go_at_call 21; (with_reducible refine HS1.out.mono ?_); rintro e w2 ⟨rfl, hb2⟩; have HB2 := hid (HB1.out.trans (hb2.mono hsz)); clear hb2)
  go_ret
  exact ⟨rfl, HB2.out⟩
end Go.Proofs.YtlhakbkdlgejpaaGreatDoor
namespace Go.Proofs.YtlhakbkdlgejpaaGreatDoor
open Go.ChangeShapes Go.WideShapes Go.ChangeAt Go.WideMaps Go.WideElems Go.RowKit
theorem own : ownKnob Tryz.prog.godebug = none := by kernel_rfl
abbrev LAID : List (String × DataW Unit) := [("bodkin/ops.plainAligns", Rows.laid_bodkin_ops_plainAligns), ("bodkin/ops.vectorAligns", Rows.laid_bodkin_ops_vectorAligns), ("bodkin/ops.laneAligns", Rows.laid_bodkin_ops_laneAligns), ("bodkin/ops.laneCounts", Rows.laid_bodkin_ops_laneCounts), ("bodkin/ops.lists", Rows.laid_bodkin_ops_lists)]
set_option maxRecDepth 100000 in
theorem door_met (os : Os) (args : Array Value) : laidMetH Tryz.prog LAID ((World.doorLaid Tryz.prog 60 os).forCall (fun _ _ => 0) ⟨#[], args, []⟩).memory :=
  laidMetH_of_parts3 (fuel := 8) (laidMet_of_run' 8 (by kernel_rfl) (by kernel_rfl)) (by kernel_rfl) (by kernel_rfl)
theorem g0 : Tryz.prog.globalNamed "bodkin/ops.plainAligns" = some 3 := by kernel_rfl
theorem g1 : Tryz.prog.globalNamed "bodkin/ops.vectorAligns" = some 4 := by kernel_rfl
theorem g2 : Tryz.prog.globalNamed "bodkin/ops.laneAligns" = some 5 := by kernel_rfl
theorem g3 : Tryz.prog.globalNamed "bodkin/ops.laneCounts" = some 0 := by kernel_rfl
theorem g5 : Tryz.prog.globalNamed "bodkin/ops.lists" = some 1 := by kernel_rfl
theorem y0 : (Tryz.prog.globals[3]?).map (·.type) = some 131 := by kernel_rfl
theorem y1 : (Tryz.prog.globals[4]?).map (·.type) = some 132 := by kernel_rfl
theorem y2 : (Tryz.prog.globals[5]?).map (·.type) = some 133 := by kernel_rfl
theorem y3 : (Tryz.prog.globals[0]?).map (·.type) = some 106 := by kernel_rfl
theorem y5 : (Tryz.prog.globals[1]?).map (·.type) = some 108 := by kernel_rfl
theorem k3 : Tryz.prog.cellsOf 3 = 1 := by kernel_rfl
theorem k57 : Tryz.prog.cellsOf 107 = 3 := by kernel_rfl
section
variable {enc : TypeId × Value → Unit} {W : World} {base : Nat} {sp : Nat → Bool} {held : Bool}
theorem three_cells {fuel : Nat} {cs : List Value} {zs : List Int} {p : List MemPlace} (h : DataW.trod enc Tryz.prog W base sp held fuel 107 cs = some (Lib.tabData .i64 zs, p)) : cs = zs.map fun z => Value.int .i64 z :=
  Lib.cells_of_tab Tryz.underlying107 Tryz.underlying3 k3 k57 h
/-- A row of rows. -/
theorem arr_cells {T e : TypeId} {n c : Nat} (hT : Tryz.prog.underlying T = some (.array n e)) (hc : Tryz.prog.cellsOf e = c) (hTc : Tryz.prog.cellsOf T = n * c) {fuel : Nat} {cs : List Value} {rows : List (DataW Unit × List Value)} {p : List MemPlace}
    (hel : ∀ i, i < n → ∀ m cs' q d vs, rows[i]? = some (d, vs) → cs'.length = c → DataW.trod enc Tryz.prog W base sp held m e cs' = some (d, q) → cs' = vs)
    (h : DataW.trod enc Tryz.prog W base sp held fuel T cs = some (.agg (rows.map (·.1)), p)) : ∀ i, i < n → ∃ d vs, rows[i]? = some (d, vs) ∧ (cs.drop (i * c)).take c = vs := by
  intro i hi
  obtain ⟨xs, m, _, hx, hl, hxl, hat⟩ := DataW.trod_array hT h
  have h1 := hat i hi
  rw [hc] at h1
  rw [hTc] at hl
  simp only [Prod.mk.injEq, DataW.agg.injEq] at hx
  obtain ⟨y, hy⟩ : ∃ y, xs[i]? = some y := ⟨_, List.getElem?_eq_getElem (by omega)⟩
  have hr : (rows.map (·.1))[i]? = some y.1 := by rw [hx.1]; simp [hy]
  rw [List.getElem?_map] at hr
  obtain ⟨⟨d, vs⟩, hd, hdy⟩ := Option.map_eq_some_iff.1 hr
  refine ⟨d, vs, hd, hel i hi m _ y.2 d vs hd ?_ ?_⟩
  · rw [List.length_take, List.length_drop, hl]
    have : i * c + c ≤ n * c := by rw [← Nat.succ_mul]; exact Nat.mul_le_mul_right c hi
    omega
  · rw [h1, hy]
    have e : d = y.1 := hdy
    rw [e]
end
def listRows : List (DataW Unit × List Value) := (List.range 23).map fun k => (Lib.tabData .i64 ((glob5.drop (3 * k)).take 3), ((glob5.drop (3 * k)).take 3).map fun z => Value.int .i64 z)
theorem list_rows : (Rows.laid_bodkin_ops_lists : DataW Unit) = .agg (listRows.map (·.1)) := by kernel_rfl
theorem lists_flat (j : Nat) (h : j < 69) : (((glob5.drop (3 * (j / 3))).take 3).map fun z => Value.int .i64 z)[j % 3]? = some (.int .i64 (glob5.getD j 0)) := by
  have e : 3 * (j / 3) + j % 3 = j := by omega
  have hl : glob5.length = 69 := by decide
  rw [List.getElem?_map, List.getElem?_take_of_lt (by omega), List.getElem?_drop, e, List.getElem?_eq_getElem (by omega)]
  simp [List.getD_eq_getElem?_getD, List.getElem?_eq_getElem (show j < glob5.length by omega)]
theorem laid_flat {W : World} {name : String} {zs : List Int} {g n : Nat} {t : TypeId} {d : DataW Unit} (hg : Tryz.prog.globalNamed name = some g) (hty : (Tryz.prog.globals[g]?).map (·.type) = some t) (ht : Tryz.prog.underlying t = some (.array n 3)) (hct : Tryz.prog.cellsOf t = n)
    (hd : d = Lib.tabData .i64 zs) {rest : List (String × DataW Unit)} (h : laidMet Tryz.prog ((name, d) :: rest) W) (j : Nat) (hj : j < zs.length) : W.cell? ⟨g, j, none⟩ = some (.int .i64 (zs.getD j 0)) := by
  subst hd
  exact (Lib.tabIs_of_head hg hty ht Tryz.underlying3 k3 hct h).cell hg j hj
theorem of_laid {W : World} (h : laidMetH Tryz.prog LAID W) : Glob W := by
  rw [MakeChecks.laidMetH_plain _ _ _ (by kernel_rfl)] at h
  have H0 := h
  have H1 := H0.tail
  have H2 := H1.tail
  have H3 := H2.tail
  have H5 := H3.tail
  clear h
  have C5 : ∀ j, j < 69 → W.cell? ⟨1, j, none⟩ = some (.int .i64 (glob5.getD j 0)) := by
    obtain ⟨ps, ⟨g, t, cs, fuel, p, q, hg, ht, hv, hd, _, _⟩, _⟩ := H5
    obtain rfl := Option.some.inj (g5.symm.trans hg)
    obtain rfl := Option.some.inj (y5.symm.trans ht)
    rw [list_rows] at hd
    have := arr_cells Tryz.underlying108 k57 (by kernel_rfl) (rows := listRows) (fun i hi m cs' q d vs hr _ htr => by
      rw [listRows, List.getElem?_map, List.getElem?_range hi] at hr
      simp only [Option.map_some, Option.some.injEq, Prod.mk.injEq] at hr
      obtain ⟨rfl, rfl⟩ := hr
      exact three_cells htr) hd
    intro j hj
    obtain ⟨d, vs, hr, he⟩ := this (j / 3) (by omega)
    rw [listRows, List.getElem?_map, List.getElem?_range (by omega)] at hr
    simp only [Option.map_some, Option.some.injEq, Prod.mk.injEq] at hr
    have h3 := lists_flat j hj
    rw [hr.2, ← he, List.getElem?_take_of_lt (by omega), List.getElem?_drop, show j / 3 * 3 + j % 3 = j by omega] at h3
    have := World.var?_cell hg hv j
    rw [this]
    simpa using h3
  refine ⟨?_, fun j hj => laid_flat (zs := glob0) g0 y0 Tryz.underlying131 (by kernel_rfl) (by kernel_rfl) H0 j hj, fun j hj => laid_flat (zs := glob1) g1 y1 Tryz.underlying132 (by kernel_rfl) (by kernel_rfl) H1 j hj,
    fun j hj => laid_flat (zs := glob2) g2 y2 Tryz.underlying133 (by kernel_rfl) (by kernel_rfl) H2 j hj, fun j hj => laid_flat (zs := glob3) g3 y3 Tryz.underlying106 (by kernel_rfl) (by kernel_rfl) H3 j hj, C5⟩
  rcases Nat.lt_or_ge 5 W.heap.size with h | h
  · exact h
  · have := laid_flat (zs := glob2) g2 y2 Tryz.underlying133 (by kernel_rfl) (by kernel_rfl) H2 0 (by decide)
    rw [World.cell?, Array.getElem?_eq_none h] at this
    cases this
end Go.Proofs.YtlhakbkdlgejpaaGreatDoor
namespace Go.Proofs.YtlhakbkdlgejpaaGreatDoor
open Go.ChangeShapes Go.WideShapes Go.ChangeAt Go.WideMaps Go.WideElems Go.RowKit
theorem c24 : Tryz.prog.cellsOf 24 = 4 := by kernel_rfl
theorem c3 : Tryz.prog.cellsOf 3 = 1 := by kernel_rfl
theorem c22 : Tryz.prog.cellsOf 22 = 1 := by kernel_rfl
theorem c4 : Tryz.prog.cellsOf 4 = 1 := by kernel_rfl
theorem fields24 : ∃ f0 f1 f2 f3 : Field, Tryz.prog.underlying 24 = some (.struct #[f0, f1, f2, f3]) ∧ f0.type = 3 ∧ f1.type = 22 ∧ f2.type = 22 ∧ f3.type = 4 ∧ f0.offset = 0 ∧ f1.offset = 1 ∧ f2.offset = 2 ∧ f3.offset = 3 := ⟨_, _, _, _, Tryz.underlying24, rfl, rfl, rfl, rfl, rfl, rfl, rfl, rfl⟩
set_option maxRecDepth 100000 in
theorem open_val {H : Type} {enc : TypeId × Value → H} {W : World} {base b0 : Nat} {sp : Nat → Bool} {held : Bool} {r : Reach} {v : Value} {d : DataW H} {ps : List MemPlace}
    (hv : Value.okWide Tryz.prog W r b0 24 v) (hd : DataW.Trod enc Tryz.prog W base sp held 24 v d ps) :
    ∃ (ta : Int) (alo ahi : Nat) (anl : Bool), v = vv ta alo ahi anl ∧ alo < 18446744073709551616 ∧ ahi < 18446744073709551616 ∧ ps = [] ∧ ∀ W' sp', DataW.Trod enc Tryz.prog W' base sp' held 24 v d [] := by
  obtain ⟨f0, f1, f2, f3, hu, t0, t1, t2, t3, o0, o1, o2, o3⟩ := fields24
  obtain ⟨cs, rfl, hs⟩ := okWide_struct hu hv
  rw [c24] at hs
  obtain ⟨l, rfl⟩ : ∃ l : List Value, cs = l.toArray := ⟨cs.toList, by simp⟩
  have hs' : l.length = 4 := by simpa using hs
  obtain ⟨x0, x1, x2, x3, rfl⟩ : ∃ x0 x1 x2 x3, l = [x0, x1, x2, x3] := by
    match l, hs' with
    | [x0, x1, x2, x3], _ => exact ⟨_, _, _, _, rfl⟩
  obtain ⟨fuel, hf⟩ := hd
  have hf' : DataW.trod enc Tryz.prog W base sp held fuel 24 [x0, x1, x2, x3] = some (d, ps) := hf
  obtain ⟨xs, n, _, hx, hl, hlen, hat⟩ := DataW.trod_struct hu hf'
  obtain ⟨y0, y1, y2, y3, rfl⟩ : ∃ y0 y1 y2 y3, xs = [y0, y1, y2, y3] := by
    match xs, hlen with
    | [y0, y1, y2, y3], _ => exact ⟨_, _, _, _, rfl⟩
  have h0 := hat 0 f0 rfl
  have h1 := hat 1 f1 rfl
  have h2 := hat 2 f2 rfl
  have h3 := hat 3 f3 rfl
  rw [t0, o0, c3] at h0
  rw [t1, o1, c22] at h1
  rw [t2, o2, c22] at h2
  rw [t3, o3, c4] at h3
  obtain ⟨z0, e0, g0, w0⟩ := DataW.trod_int Tryz.underlying3 h0
  obtain ⟨z1, e1, g1, w1⟩ := DataW.trod_int Tryz.underlying22 h1
  obtain ⟨z2, e2, g2, w2⟩ := DataW.trod_int Tryz.underlying22 h2
  obtain ⟨z3, e3, g3⟩ := DataW.trod_bool Tryz.underlying4 h3
  obtain rfl : x0 = .int .i64 z0 := by simpa using e0
  obtain rfl : x1 = .int .u64 z1 := by simpa using e1
  obtain rfl : x2 = .int .u64 z2 := by simpa using e2
  obtain rfl : x3 = .bool z3 := by simpa using e3
  obtain ⟨b1, b2⟩ := bounds_u64 w1
  obtain ⟨b3, b4⟩ := bounds_u64 w2
  obtain ⟨alo, rfl⟩ := Int.eq_ofNat_of_zero_le b1
  obtain ⟨ahi, rfl⟩ := Int.eq_ofNat_of_zero_le b3
  subst g0 g1 g2 g3
  obtain ⟨rfl, rfl⟩ := Prod.mk.inj hx
  refine ⟨z0, alo, ahi, z3, rfl, by omega, by omega, rfl, fun W' sp' => ⟨2, ?_⟩⟩
  show DataW.trod enc Tryz.prog W' base sp' held 2 24 [.int .i64 z0, .int .u64 alo, .int .u64 ahi, .bool z3] = _
  refine trod_struct_mk (n := 1) (xs := [(.lit (.int .i64 z0), []), (.lit (.int .u64 alo), []), (.lit (.int .u64 ahi), []), (.lit (.bool z3), [])]) hu (by rw [c24]; rfl) ?_
  have k0 : DataW.trod enc Tryz.prog W' base sp' held 1 f0.type (([.int .i64 z0, .int .u64 alo, .int .u64 ahi, .bool z3].drop f0.offset).take (Tryz.prog.cellsOf f0.type)) = some (.lit (.int .i64 z0), []) := by
    rw [t0, o0, c3]; exact trod_int_mk 0 Tryz.underlying3 w0
  have k1 : DataW.trod enc Tryz.prog W' base sp' held 1 f1.type (([.int .i64 z0, .int .u64 alo, .int .u64 ahi, .bool z3].drop f1.offset).take (Tryz.prog.cellsOf f1.type)) = some (.lit (.int .u64 alo), []) := by
    rw [t1, o1, c22]; exact trod_int_mk 0 Tryz.underlying22 w1
  have k2 : DataW.trod enc Tryz.prog W' base sp' held 1 f2.type (([.int .i64 z0, .int .u64 alo, .int .u64 ahi, .bool z3].drop f2.offset).take (Tryz.prog.cellsOf f2.type)) = some (.lit (.int .u64 ahi), []) := by
    rw [t2, o2, c22]; exact trod_int_mk 0 Tryz.underlying22 w2
  have k3 : DataW.trod enc Tryz.prog W' base sp' held 1 f3.type (([.int .i64 z0, .int .u64 alo, .int .u64 ahi, .bool z3].drop f3.offset).take (Tryz.prog.cellsOf f3.type)) = some (.lit (.bool z3), []) := by
    rw [t3, o3, c4]; simp [DataW.trod, Tryz.underlying4]
  simp [k0, k1, k2, k3]
end Go.Proofs.YtlhakbkdlgejpaaGreatDoor
