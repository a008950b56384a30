/-
  FCConv: merged, what the law does not reach left out (each text says what it holds where it lies in wip). No condition.
-/
import Derived.Test.YtbbmbhcbncenaaaGreatDoorG26
import Derived.Test.YtbbmbhcbncenaaaGreatDoorG01
set_option linter.unusedSimpArgs false
set_option linter.unusedVariables false
set_option maxRecDepth 100000
namespace Go.Proofs.YtbbmbhcbncenaaaGreatDoor.Fl
open Go.RowKit
def ineg (n : Nat) (s : Bool) (a : Nat) : Bool := s && decide (2 ^ (n - 1) ≤ a % 2 ^ n)
def isize (n : Nat) (s : Bool) (a : Nat) : Nat := if ineg n s a then 2 ^ n - a % 2 ^ n else a % 2 ^ n
theorem iknown2_32 (w : World) : Say 75 #[.int .i64 32] w (.bool true) := by
 go_enter Tryz.func75,Tryz.ntmps75
 go_wp2
 go_ret
 exact ⟨rfl,Below.refl _ _⟩
theorem iknown2_64 (w : World) : Say 75 #[.int .i64 64] w (.bool true) := by
 go_enter Tryz.func75,Tryz.ntmps75
 go_wp2
 go_ret
 exact ⟨rfl,Below.refl _ _⟩
theorem Signed_32 (a : Nat) (ha : a < 18446744073709551616) (w : World) : ∃ z : Int,decide (z < 0) = decide (2147483648 ≤ a % 4294967296) ∧ Say 71 #[.int .i64 32,.int .u64 a] w (.int .i64 z) := by
 refine ⟨wrap64 (IntKind.u64.wrap ((a : Int) * 4294967296)) / 4294967296,?_,?_⟩
 ·refine decide_eq_decide.2 ?_
  rw [IntKind.wrap_u64]; unfold wrap64; omega
 ·go_enter Tryz.func71,Tryz.ntmps71
  go_wp2_with (go_at_call 75; refine (iknown2_32 _).mono ?_; rintro e w' ⟨rfl,hb⟩)
  go_ret
  exact ⟨rfl,hb⟩
theorem Signed_64 (a : Nat) (ha : a < 18446744073709551616) (w : World) : ∃ z : Int,decide (z < 0) = decide (9223372036854775808 ≤ a % 18446744073709551616) ∧ Say 71 #[.int .i64 64,.int .u64 a] w (.int .i64 z) := by
 refine ⟨wrap64 (a : Int),?_,?_⟩
 ·refine decide_eq_decide.2 ?_
  unfold wrap64; omega
 ·go_enter Tryz.func71,Tryz.ntmps71
  go_wp2_with (go_at_call 75; refine (iknown2_64 _).mono ?_; rintro e w' ⟨rfl,hb⟩)
  go_ret
  exact ⟨rfl,hb⟩
theorem Convert_32_walk (F : Int) (s : Bool) (a : Nat) (ha : a < 18446744073709551616) (X : Nat) (E : Int)
  (HR : ∀ W,Hid (Say 165 #[.int .i64 F,.bool (ineg 32 s a),.int .u64 ((isize 32 s a : Nat) : Int),.int .i64 0,.bool false] W (.tuple #[.int .u64 (X : Int),.int .i64 E]))) (w : World) :
  Say 137 #[.int .i64 32,.int .i64 F,.bool s,.int .u64 a] w (.tuple #[.int .u64 (X : Int),.int .i64 E]) := by
 have HI := fun W => hid (integerOf_32 s W)
 have HN := fun W => hid (iknown_32 s W)
 have hB : Below w.heap.size w w := Below.refl _ _
 cases s with
 | false =>
  have HC := fun W => hid (icut_32 false a ha W)
  have h1 : ineg 32 false a = false := rfl
  have h2 : isize 32 false a = a % 4294967296 := rfl
  rw [h1,h2] at HR
  obtain ⟨c,hc⟩ : ∃ c : Nat,c = a % 4294967296 := ⟨_,rfl⟩
  rw [← hc] at HC HR
  clear hc h1 h2 ha
  go_enter Tryz.func137,Tryz.ntmps137
  go_wp2_with (first
   | (go_at_call 141; ((with_reducible refine (HI _).out.mono ?_); rintro e w1 ⟨rfl,hb⟩; replace hB := bnext hB hb; clear hb))
   | (go_at_call 143; ((with_reducible refine (HN _).out.mono ?_); rintro e w3 ⟨rfl,hb⟩; have hS := (Si.new 32 false hB).call hb; obtain ⟨c0,c1⟩ := id hS.1; clear hb hB))
   | (go_at_call 147; ((with_reducible refine (HC _).out.mono ?_); rintro e w4 ⟨rfl,hb⟩; replace hS := hS.call hb; clear c0 c1 hb; obtain ⟨c0,c1⟩ := id hS.1))
   | (go_at_call 165; ((with_reducible refine (HR _).out.mono ?_); rintro e w4 ⟨rfl,hb⟩; replace hS := hS.call hb; clear c0 c1 hb; obtain ⟨c0,c1⟩ := id hS.1)))
  exact bodyPost_ret (v := .tuple #[.int .u64 (X : Int),.int .i64 E]) (by simp [results,Tryz.results137,go_sem]) rfl ⟨rfl,hS.2.2⟩
 | true =>
  have h1 : ineg 32 true a = decide (2147483648 ≤ a % 4294967296) := rfl
  by_cases hn : 2147483648 ≤ a % 4294967296
  ·have h3 : ineg 32 true a = true := by rw [h1]; exact decide_eq_true hn
   have h2 : isize 32 true a = 4294967296 - a % 4294967296 := by unfold isize; rw [h3,if_pos rfl]
   have hw := wrap_neg a ha
   obtain ⟨y,hy⟩ : ∃ y : Nat,y = (18446744073709551616 - a) % 18446744073709551616 := ⟨_,rfl⟩
   rw [← hy] at hw
   have hcut : y % 4294967296 = 4294967296 - a % 4294967296 := by clear hw HR; omega
   have HC := fun W => hid (icut_32 true y (by omega) W)
   obtain ⟨c,hc⟩ : ∃ c : Nat,c = 4294967296 - a % 4294967296 := ⟨_,rfl⟩
   rw [hcut,← hc] at HC
   rw [h3,h2,← hc] at HR
   have hzz : ∀ W,Calls Tryz.prog 71 #[.int .i64 32,.int .u64 a] W fun e w' => ∃ z : Int,decide (z < 0) = true ∧ e = .returned (.int .i64 z) ∧ Below W.heap.size W w' := fun W => by
    obtain ⟨z,hz,h⟩ := Signed_32 a ha W
    exact h.mono fun e w' h => ⟨z,hz.trans (decide_eq_true hn),h⟩
   have HZZ := hid hzz
   clear hzz
   clear hc hcut hy h2 h3 h1 hn ha
   go_enter Tryz.func137,Tryz.ntmps137
   go_wp2_with (first
    | (go_at_call 141; ((with_reducible refine (HI _).out.mono ?_); rintro e w1 ⟨rfl,hb⟩; replace hB := bnext hB hb; clear hb))
    | (go_at_call 143; ((with_reducible refine (HN _).out.mono ?_); rintro e w3 ⟨rfl,hb⟩; have hS := (Si.new 32 true hB).call hb; obtain ⟨c0,c1⟩ := id hS.1; clear hb hB))
    | (go_at_call 71; ((with_reducible refine (HZZ.out _).mono ?_); rintro e w4 ⟨z,hz,rfl,hb⟩; replace hS := hS.call hb; clear c0 c1 hb; obtain ⟨c0,c1⟩ := id hS.1))
    | (go_at_call 147; ((with_reducible refine (HC _).out.mono ?_); rintro e w4 ⟨rfl,hb⟩; replace hS := hS.call hb; clear c0 c1 hb; obtain ⟨c0,c1⟩ := id hS.1))
    | (go_at_call 165; ((with_reducible refine (HR _).out.mono ?_); rintro e w4 ⟨rfl,hb⟩; replace hS := hS.call hb; clear c0 c1 hb; obtain ⟨c0,c1⟩ := id hS.1)))
   exact bodyPost_ret (v := .tuple #[.int .u64 (X : Int),.int .i64 E]) (by simp [results,Tryz.results137,go_sem]) rfl ⟨rfl,hS.2.2⟩
  ·have h3 : ineg 32 true a = false := by rw [h1]; exact decide_eq_false hn
   have h2 : isize 32 true a = a % 4294967296 := by unfold isize; rw [h3,if_neg (by decide)]
   have HC := fun W => hid (icut_32 true a ha W)
   obtain ⟨c,hc⟩ : ∃ c : Nat,c = a % 4294967296 := ⟨_,rfl⟩
   rw [← hc] at HC
   rw [h3,h2,← hc] at HR
   have hzz : ∀ W,Calls Tryz.prog 71 #[.int .i64 32,.int .u64 a] W fun e w' => ∃ z : Int,decide (z < 0) = false ∧ e = .returned (.int .i64 z) ∧ Below W.heap.size W w' := fun W => by
    obtain ⟨z,hz,h⟩ := Signed_32 a ha W
    exact h.mono fun e w' h => ⟨z,hz.trans (decide_eq_false hn),h⟩
   have HZZ := hid hzz
   clear hzz
   clear hc h2 h3 h1 hn ha
   go_enter Tryz.func137,Tryz.ntmps137
   go_wp2_with (first
    | (go_at_call 141; ((with_reducible refine (HI _).out.mono ?_); rintro e w1 ⟨rfl,hb⟩; replace hB := bnext hB hb; clear hb))
    | (go_at_call 143; ((with_reducible refine (HN _).out.mono ?_); rintro e w3 ⟨rfl,hb⟩; have hS := (Si.new 32 true hB).call hb; obtain ⟨c0,c1⟩ := id hS.1; clear hb hB))
    | (go_at_call 71; ((with_reducible refine (HZZ.out _).mono ?_); rintro e w4 ⟨z,hz,rfl,hb⟩; replace hS := hS.call hb; clear c0 c1 hb; obtain ⟨c0,c1⟩ := id hS.1))
    | (go_at_call 147; ((with_reducible refine (HC _).out.mono ?_); rintro e w4 ⟨rfl,hb⟩; replace hS := hS.call hb; clear c0 c1 hb; obtain ⟨c0,c1⟩ := id hS.1))
    | (go_at_call 165; ((with_reducible refine (HR _).out.mono ?_); rintro e w4 ⟨rfl,hb⟩; replace hS := hS.call hb; clear c0 c1 hb; obtain ⟨c0,c1⟩ := id hS.1)))
   exact bodyPost_ret (v := .tuple #[.int .u64 (X : Int),.int .i64 E]) (by simp [results,Tryz.results137,go_sem]) rfl ⟨rfl,hS.2.2⟩
theorem isize_32 (s : Bool) (a : Nat) : isize 32 s a < 18446744073709551616 := by
 unfold isize
 have h : a % 4294967296 < 4294967296 := Nat.mod_lt _ (by decide)
 show (if ineg 32 s a then 4294967296 - a % 4294967296 else a % 4294967296) < 18446744073709551616
 cases hi : ineg 32 s a with
 | false => rw [if_neg (by decide)]; omega
 | true =>
  rw [if_pos rfl]
  unfold ineg at hi
  have h2 : 2147483648 ≤ a % 4294967296 := by cases s with
   | false => cases hi
   | true => exact of_decide_eq_true hi
  omega
theorem Convert_32_32 (s : Bool) (a : Nat) (ha : a < 18446744073709551616) (w : World) :
  Say 137 #[.int .i64 32,.int .i64 32,.bool s,.int .u64 a] w (.tuple #[.int .u64 ((Ieee.single.word (ineg 32 s a) (rungR Ieee.single (isize 32 s a) 0 false) : Nat) : Int),.int .i64 0]) :=
 Convert_32_walk 32 s a ha _ 0 (fun W => hid (by
  have := Round_32 (ineg 32 s a) (isize 32 s a) (isize_32 s a) 0 (by decide) (by decide) false W
  rw [if_neg (fun h => by cases h.1)] at this
  exact this)) w
theorem Convert_32_64 (s : Bool) (a : Nat) (ha : a < 18446744073709551616) (w : World) :
  Say 137 #[.int .i64 32,.int .i64 64,.bool s,.int .u64 a] w (.tuple #[.int .u64 ((Ieee.double.word (ineg 32 s a) (rungR Ieee.double (isize 32 s a) 0 false) : Nat) : Int),.int .i64 0]) :=
 Convert_32_walk 64 s a ha _ 0 (fun W => hid (by
  have := Round_64 (ineg 32 s a) (isize 32 s a) (isize_32 s a) 0 (by decide) (by decide) false W
  rw [if_neg (fun h => by cases h.1)] at this
  exact this)) w
theorem Convert_64_walk (F : Int) (s : Bool) (a : Nat) (ha : a < 18446744073709551616) (X : Nat) (E : Int)
  (HR : ∀ W,Hid (Say 165 #[.int .i64 F,.bool (ineg 64 s a),.int .u64 ((isize 64 s a : Nat) : Int),.int .i64 0,.bool false] W (.tuple #[.int .u64 (X : Int),.int .i64 E]))) (w : World) :
  Say 137 #[.int .i64 64,.int .i64 F,.bool s,.int .u64 a] w (.tuple #[.int .u64 (X : Int),.int .i64 E]) := by
 have HI := fun W => hid (integerOf_64 s W)
 have HN := fun W => hid (iknown_64 s W)
 have hB : Below w.heap.size w w := Below.refl _ _
 cases s with
 | false =>
  have HC := fun W => hid (icut_64 false a ha W)
  have h1 : ineg 64 false a = false := rfl
  have h2 : isize 64 false a = a % 18446744073709551616 := rfl
  rw [h1,h2] at HR
  obtain ⟨c,hc⟩ : ∃ c : Nat,c = a % 18446744073709551616 := ⟨_,rfl⟩
  rw [← hc] at HC HR
  clear hc h1 h2 ha
  go_enter Tryz.func137,Tryz.ntmps137
  go_wp2_with (first
   | (go_at_call 141; ((with_reducible refine (HI _).out.mono ?_); rintro e w1 ⟨rfl,hb⟩; replace hB := bnext hB hb; clear hb))
   | (go_at_call 143; ((with_reducible refine (HN _).out.mono ?_); rintro e w3 ⟨rfl,hb⟩; have hS := (Si.new 64 false hB).call hb; obtain ⟨c0,c1⟩ := id hS.1; clear hb hB))
   | (go_at_call 147; ((with_reducible refine (HC _).out.mono ?_); rintro e w4 ⟨rfl,hb⟩; replace hS := hS.call hb; clear c0 c1 hb; obtain ⟨c0,c1⟩ := id hS.1))
   | (go_at_call 165; ((with_reducible refine (HR _).out.mono ?_); rintro e w4 ⟨rfl,hb⟩; replace hS := hS.call hb; clear c0 c1 hb; obtain ⟨c0,c1⟩ := id hS.1)))
  exact bodyPost_ret (v := .tuple #[.int .u64 (X : Int),.int .i64 E]) (by simp [results,Tryz.results137,go_sem]) rfl ⟨rfl,hS.2.2⟩
 | true =>
  have h1 : ineg 64 true a = decide (9223372036854775808 ≤ a % 18446744073709551616) := rfl
  by_cases hn : 9223372036854775808 ≤ a % 18446744073709551616
  ·have h3 : ineg 64 true a = true := by rw [h1]; exact decide_eq_true hn
   have h2 : isize 64 true a = 18446744073709551616 - a % 18446744073709551616 := by unfold isize; rw [h3,if_pos rfl]
   have hw := wrap_neg a ha
   obtain ⟨y,hy⟩ : ∃ y : Nat,y = (18446744073709551616 - a) % 18446744073709551616 := ⟨_,rfl⟩
   rw [← hy] at hw
   have hcut : y % 18446744073709551616 = 18446744073709551616 - a % 18446744073709551616 := by clear hw HR; omega
   have HC := fun W => hid (icut_64 true y (by omega) W)
   obtain ⟨c,hc⟩ : ∃ c : Nat,c = 18446744073709551616 - a % 18446744073709551616 := ⟨_,rfl⟩
   rw [hcut,← hc] at HC
   rw [h3,h2,← hc] at HR
   have hzz : ∀ W,Calls Tryz.prog 71 #[.int .i64 64,.int .u64 a] W fun e w' => ∃ z : Int,decide (z < 0) = true ∧ e = .returned (.int .i64 z) ∧ Below W.heap.size W w' := fun W => by
    obtain ⟨z,hz,h⟩ := Signed_64 a ha W
    exact h.mono fun e w' h => ⟨z,hz.trans (decide_eq_true hn),h⟩
   have HZZ := hid hzz
   clear hzz
   clear hc hcut hy h2 h3 h1 hn ha
   go_enter Tryz.func137,Tryz.ntmps137
   go_wp2_with (first
    | (go_at_call 141; ((with_reducible refine (HI _).out.mono ?_); rintro e w1 ⟨rfl,hb⟩; replace hB := bnext hB hb; clear hb))
    | (go_at_call 143; ((with_reducible refine (HN _).out.mono ?_); rintro e w3 ⟨rfl,hb⟩; have hS := (Si.new 64 true hB).call hb; obtain ⟨c0,c1⟩ := id hS.1; clear hb hB))
    | (go_at_call 71; ((with_reducible refine (HZZ.out _).mono ?_); rintro e w4 ⟨z,hz,rfl,hb⟩; replace hS := hS.call hb; clear c0 c1 hb; obtain ⟨c0,c1⟩ := id hS.1))
    | (go_at_call 147; ((with_reducible refine (HC _).out.mono ?_); rintro e w4 ⟨rfl,hb⟩; replace hS := hS.call hb; clear c0 c1 hb; obtain ⟨c0,c1⟩ := id hS.1))
    | (go_at_call 165; ((with_reducible refine (HR _).out.mono ?_); rintro e w4 ⟨rfl,hb⟩; replace hS := hS.call hb; clear c0 c1 hb; obtain ⟨c0,c1⟩ := id hS.1)))
   exact bodyPost_ret (v := .tuple #[.int .u64 (X : Int),.int .i64 E]) (by simp [results,Tryz.results137,go_sem]) rfl ⟨rfl,hS.2.2⟩
  ·have h3 : ineg 64 true a = false := by rw [h1]; exact decide_eq_false hn
   have h2 : isize 64 true a = a % 18446744073709551616 := by unfold isize; rw [h3,if_neg (by decide)]
   have HC := fun W => hid (icut_64 true a ha W)
   obtain ⟨c,hc⟩ : ∃ c : Nat,c = a % 18446744073709551616 := ⟨_,rfl⟩
   rw [← hc] at HC
   rw [h3,h2,← hc] at HR
   have hzz : ∀ W,Calls Tryz.prog 71 #[.int .i64 64,.int .u64 a] W fun e w' => ∃ z : Int,decide (z < 0) = false ∧ e = .returned (.int .i64 z) ∧ Below W.heap.size W w' := fun W => by
    obtain ⟨z,hz,h⟩ := Signed_64 a ha W
    exact h.mono fun e w' h => ⟨z,hz.trans (decide_eq_false hn),h⟩
   have HZZ := hid hzz
   clear hzz
   clear hc h2 h3 h1 hn ha
   go_enter Tryz.func137,Tryz.ntmps137
   go_wp2_with (first
    | (go_at_call 141; ((with_reducible refine (HI _).out.mono ?_); rintro e w1 ⟨rfl,hb⟩; replace hB := bnext hB hb; clear hb))
    | (go_at_call 143; ((with_reducible refine (HN _).out.mono ?_); rintro e w3 ⟨rfl,hb⟩; have hS := (Si.new 64 true hB).call hb; obtain ⟨c0,c1⟩ := id hS.1; clear hb hB))
    | (go_at_call 71; ((with_reducible refine (HZZ.out _).mono ?_); rintro e w4 ⟨z,hz,rfl,hb⟩; replace hS := hS.call hb; clear c0 c1 hb; obtain ⟨c0,c1⟩ := id hS.1))
    | (go_at_call 147; ((with_reducible refine (HC _).out.mono ?_); rintro e w4 ⟨rfl,hb⟩; replace hS := hS.call hb; clear c0 c1 hb; obtain ⟨c0,c1⟩ := id hS.1))
    | (go_at_call 165; ((with_reducible refine (HR _).out.mono ?_); rintro e w4 ⟨rfl,hb⟩; replace hS := hS.call hb; clear c0 c1 hb; obtain ⟨c0,c1⟩ := id hS.1)))
   exact bodyPost_ret (v := .tuple #[.int .u64 (X : Int),.int .i64 E]) (by simp [results,Tryz.results137,go_sem]) rfl ⟨rfl,hS.2.2⟩
theorem isize_64 (s : Bool) (a : Nat) : isize 64 s a < 18446744073709551616 := by
 unfold isize
 have h : a % 18446744073709551616 < 18446744073709551616 := Nat.mod_lt _ (by decide)
 show (if ineg 64 s a then 18446744073709551616 - a % 18446744073709551616 else a % 18446744073709551616) < 18446744073709551616
 cases hi : ineg 64 s a with
 | false => rw [if_neg (by decide)]; omega
 | true =>
  rw [if_pos rfl]
  unfold ineg at hi
  have h2 : 9223372036854775808 ≤ a % 18446744073709551616 := by cases s with
   | false => cases hi
   | true => exact of_decide_eq_true hi
  omega
theorem Convert_64_32 (s : Bool) (a : Nat) (ha : a < 18446744073709551616) (w : World) :
  Say 137 #[.int .i64 64,.int .i64 32,.bool s,.int .u64 a] w (.tuple #[.int .u64 ((Ieee.single.word (ineg 64 s a) (rungR Ieee.single (isize 64 s a) 0 false) : Nat) : Int),.int .i64 0]) :=
 Convert_64_walk 32 s a ha _ 0 (fun W => hid (by
  have := Round_32 (ineg 64 s a) (isize 64 s a) (isize_64 s a) 0 (by decide) (by decide) false W
  rw [if_neg (fun h => by cases h.1)] at this
  exact this)) w
theorem Convert_64_64 (s : Bool) (a : Nat) (ha : a < 18446744073709551616) (w : World) :
  Say 137 #[.int .i64 64,.int .i64 64,.bool s,.int .u64 a] w (.tuple #[.int .u64 ((Ieee.double.word (ineg 64 s a) (rungR Ieee.double (isize 64 s a) 0 false) : Nat) : Int),.int .i64 0]) :=
 Convert_64_walk 64 s a ha _ 0 (fun W => hid (by
  have := Round_64 (ineg 64 s a) (isize 64 s a) (isize_64 s a) 0 (by decide) (by decide) false W
  rw [if_neg (fun h => by cases h.1)] at this
  exact this)) w
def resW (f : Ieee.Format) (CAN SB INF P : Nat) (low : Int) (c : Nat) : Nat := if INF < c % SB then CAN else f.word (decide (SB ≤ c)) (rungR f (wm SB INF P c) (we SB INF P low c) false)
theorem resized_NAN (F G a k C : Nat) (HK : ∀ W,Hid (Say 142 #[.int .i64 F,.int .u64 a] W (.int .i64 4))) (HC : ∀ W,Hid (Say 166 #[.int .i64 G] W (.int .u64 (C : Int)))) (w : World) :
  Say 138 #[.int .i64 F,.int .i64 G,.int .u64 a] w (.int .u64 (C : Int)) := by
 have hB : Below w.heap.size w w := Below.refl _ _
 go_enter Tryz.func138,Tryz.ntmps138
 go_wp2_with (first
  | (go_at_call 142; ((with_reducible refine (HK _).out.mono ?_); rintro e w1 ⟨rfl,hb⟩; replace hB := bnext hB hb; clear hb))
  | (go_at_call 166; ((with_reducible refine (HC _).out.mono ?_); rintro e w1 ⟨rfl,hb⟩; replace hB := bnext hB hb; clear hb)))
 go_ret
 exact ⟨rfl,hB⟩
theorem resized_num (F G a k m X : Nat) (neg : Bool) (e : Int) (hk : ((k : Int) == 4) = false) (HK : ∀ W,Hid (Say 142 #[.int .i64 F,.int .u64 a] W (.int .i64 (k : Int))))
  (HP : ∀ W,Hid (Say 144 #[.int .i64 F,.int .u64 a] W (.tuple #[.bool neg,.int .u64 (m : Int),.int .i64 e])))
  (HR : ∀ W,Hid (Say 165 #[.int .i64 G,.bool neg,.int .u64 (m : Int),.int .i64 e,.bool false] W (.tuple #[.int .u64 (X : Int),.int .i64 0]))) (w : World) :
  Say 138 #[.int .i64 F,.int .i64 G,.int .u64 a] w (.int .u64 (X : Int)) := by
 have hB : Below w.heap.size w w := Below.refl _ _
 go_enter Tryz.func138,Tryz.ntmps138
 go_wp2_with (first
  | (go_at_call 142; ((with_reducible refine (HK _).out.mono ?_); rintro e w1 ⟨rfl,hb⟩; replace hB := bnext hB hb; clear hb))
  | (go_at_call 144; ((with_reducible refine (HP _).out.mono ?_); rintro e w1 ⟨rfl,hb⟩; replace hB := bnext hB hb; clear hb))
  | (go_at_call 165; ((with_reducible refine (HR _).out.mono ?_); rintro e w1 ⟨rfl,hb⟩; replace hB := bnext hB hb; clear hb)))
 go_ret
 exact ⟨rfl,hB⟩
theorem resized_32 (a : Nat) (ha : a < 18446744073709551616) (w : World) :
  Say 138 #[.int .i64 32,.int .i64 64,.int .u64 a] w (.int .u64 ((resW Ieee.double 9221120237041090560 2147483648 2139095040 23 (-149) (a % 4294967296) : Nat) : Int)) := by
 have HK := fun W => hid (Kind_32 a ha W)
 by_cases hn : 2139095040 < a % 4294967296 % 2147483648
 ·rw [kind_4 hn] at HK
  rw [show resW Ieee.double 9221120237041090560 2147483648 2139095040 23 (-149) (a % 4294967296) = 9221120237041090560 by unfold resW; rw [if_pos hn]]
  exact resized_NAN 32 64 a 4 9221120237041090560 HK (fun W => hid (Canonical_64 W)) w
 ·have k4 : ((kindOf 2139095040 (a % 4294967296 % 2147483648) : Int) == 4) = false := by
   have := kind_not4 (Nat.le_of_not_lt hn)
   exact beq_eq_false_iff_ne.2 (by omega)
  rw [show resW Ieee.double 9221120237041090560 2147483648 2139095040 23 (-149) (a % 4294967296) = Ieee.double.word (decide (2147483648 ≤ a % 4294967296)) (rungR Ieee.double (wm 2147483648 2139095040 23 (a % 4294967296)) (we 2147483648 2139095040 23 (-149) (a % 4294967296)) false) by unfold resW; rw [if_neg hn]]
  by_cases hi : a % 4294967296 % 2147483648 = 2139095040
  ·rw [show wm 2147483648 2139095040 23 (a % 4294967296) = 1 by unfold wm; rw [if_pos hi],show we 2147483648 2139095040 23 (-149) (a % 4294967296) = 1024 by unfold we; rw [if_pos hi]]
   refine resized_num 32 64 a _ 1 _ _ 1024 k4 HK (fun W => hid (cparts_32_inf a ha hi W)) (fun W => hid ?_) w
   have := Round_64 (decide (2147483648 ≤ a % 4294967296)) 1 (by decide) 1024 (by decide) (by decide) false W
   rw [if_neg (fun h => by cases h.1)] at this
   exact this
  ·rw [show wm 2147483648 2139095040 23 (a % 4294967296) = pm 23 (a % 4294967296 % 2147483648) by unfold wm; rw [if_neg hi],show we 2147483648 2139095040 23 (-149) (a % 4294967296) = pe 23 (-149) (a % 4294967296 % 2147483648) by unfold we; rw [if_neg hi]]
   have hf : a % 4294967296 % 2147483648 < 2139095040 := by omega
   have hm := pm_lt 23 (a % 4294967296 % 2147483648)
   have he := pe_eq 23 (-149) (a % 4294967296 % 2147483648)
   have hq : a % 4294967296 % 2147483648 / 2 ^ 23 ≤ 2047 := by show a % 4294967296 % 2147483648 / 8388608 ≤ 2047; omega
   have HP := fun W => hid (cparts_32 a ha hf W)
   generalize decide (2147483648 ≤ a % 4294967296) = neg at *
   generalize pm 23 (a % 4294967296 % 2147483648) = m at *
   generalize a % 4294967296 % 2147483648 / 2 ^ 23 = q at *
   generalize pe 23 (-149) (a % 4294967296 % 2147483648) = e at *
   have hm2 : m < 18446744073709551616 := Nat.lt_trans hm (by decide)
   have he1 : -9223372036854775808 ≤ e := by clear hm2 hm HP HK k4; omega
   have he2 : e ≤ 9223372036854775807 := by clear hm2 hm HP HK k4; omega
   refine resized_num 32 64 a _ m _ _ e k4 HK HP (fun W => hid ?_) w
   have := Round_64 neg m hm2 e he1 he2 false W
   rw [if_neg (fun h => by cases h.1)] at this
   exact this
theorem Promote_any (a : Nat) (ha : a < 18446744073709551616) (w : World) :
  Say 74 #[.int .u64 a] w (.int .u64 ((resW Ieee.double 9221120237041090560 2147483648 2139095040 23 (-149) (a % 4294967296) : Nat) : Int)) := by
 have HR := fun W => hid (resized_32 a ha W)
 obtain ⟨x,hx⟩ : ∃ x : Nat,x = resW Ieee.double 9221120237041090560 2147483648 2139095040 23 (-149) (a % 4294967296) := ⟨_,rfl⟩
 rw [← hx] at HR ⊢
 clear hx ha
 go_enter Tryz.func74,Tryz.ntmps74
 go_wp2_with (first | (go_at_call 138; ((with_reducible refine (HR _).out.mono ?_); rintro e w1 ⟨rfl,hb⟩)))
 go_ret
 exact ⟨rfl,hb⟩
theorem resized_64 (a : Nat) (ha : a < 18446744073709551616) (w : World) :
  Say 138 #[.int .i64 64,.int .i64 32,.int .u64 a] w (.int .u64 ((resW Ieee.single 2143289344 9223372036854775808 9218868437227405312 52 (-1074) (a % 18446744073709551616) : Nat) : Int)) := by
 have HK := fun W => hid (Kind_64 a ha W)
 by_cases hn : 9218868437227405312 < a % 18446744073709551616 % 9223372036854775808
 ·rw [kind_4 hn] at HK
  rw [show resW Ieee.single 2143289344 9223372036854775808 9218868437227405312 52 (-1074) (a % 18446744073709551616) = 2143289344 by unfold resW; rw [if_pos hn]]
  exact resized_NAN 64 32 a 4 2143289344 HK (fun W => hid (Canonical_32 W)) w
 ·have k4 : ((kindOf 9218868437227405312 (a % 18446744073709551616 % 9223372036854775808) : Int) == 4) = false := by
   have := kind_not4 (Nat.le_of_not_lt hn)
   exact beq_eq_false_iff_ne.2 (by omega)
  rw [show resW Ieee.single 2143289344 9223372036854775808 9218868437227405312 52 (-1074) (a % 18446744073709551616) = Ieee.single.word (decide (9223372036854775808 ≤ a % 18446744073709551616)) (rungR Ieee.single (wm 9223372036854775808 9218868437227405312 52 (a % 18446744073709551616)) (we 9223372036854775808 9218868437227405312 52 (-1074) (a % 18446744073709551616)) false) by unfold resW; rw [if_neg hn]]
  by_cases hi : a % 18446744073709551616 % 9223372036854775808 = 9218868437227405312
  ·rw [show wm 9223372036854775808 9218868437227405312 52 (a % 18446744073709551616) = 1 by unfold wm; rw [if_pos hi],show we 9223372036854775808 9218868437227405312 52 (-1074) (a % 18446744073709551616) = 1024 by unfold we; rw [if_pos hi]]
   refine resized_num 64 32 a _ 1 _ _ 1024 k4 HK (fun W => hid (cparts_64_inf a ha hi W)) (fun W => hid ?_) w
   have := Round_32 (decide (9223372036854775808 ≤ a % 18446744073709551616)) 1 (by decide) 1024 (by decide) (by decide) false W
   rw [if_neg (fun h => by cases h.1)] at this
   exact this
  ·rw [show wm 9223372036854775808 9218868437227405312 52 (a % 18446744073709551616) = pm 52 (a % 18446744073709551616 % 9223372036854775808) by unfold wm; rw [if_neg hi],show we 9223372036854775808 9218868437227405312 52 (-1074) (a % 18446744073709551616) = pe 52 (-1074) (a % 18446744073709551616 % 9223372036854775808) by unfold we; rw [if_neg hi]]
   have hf : a % 18446744073709551616 % 9223372036854775808 < 9218868437227405312 := by omega
   have hm := pm_lt 52 (a % 18446744073709551616 % 9223372036854775808)
   have he := pe_eq 52 (-1074) (a % 18446744073709551616 % 9223372036854775808)
   have hq : a % 18446744073709551616 % 9223372036854775808 / 2 ^ 52 ≤ 2047 := by show a % 18446744073709551616 % 9223372036854775808 / 4503599627370496 ≤ 2047; omega
   have HP := fun W => hid (cparts_64 a ha hf W)
   generalize decide (9223372036854775808 ≤ a % 18446744073709551616) = neg at *
   generalize pm 52 (a % 18446744073709551616 % 9223372036854775808) = m at *
   generalize a % 18446744073709551616 % 9223372036854775808 / 2 ^ 52 = q at *
   generalize pe 52 (-1074) (a % 18446744073709551616 % 9223372036854775808) = e at *
   have hm2 : m < 18446744073709551616 := Nat.lt_trans hm (by decide)
   have he1 : -9223372036854775808 ≤ e := by clear hm2 hm HP HK k4; omega
   have he2 : e ≤ 9223372036854775807 := by clear hm2 hm HP HK k4; omega
   refine resized_num 64 32 a _ m _ _ e k4 HK HP (fun W => hid ?_) w
   have := Round_32 neg m hm2 e he1 he2 false W
   rw [if_neg (fun h => by cases h.1)] at this
   exact this
theorem Demote_any (a : Nat) (ha : a < 18446744073709551616) (w : World) :
  Say 73 #[.int .u64 a] w (.int .u64 ((resW Ieee.single 2143289344 9223372036854775808 9218868437227405312 52 (-1074) (a % 18446744073709551616) : Nat) : Int)) := by
 have HR := fun W => hid (resized_64 a ha W)
 obtain ⟨x,hx⟩ : ∃ x : Nat,x = resW Ieee.single 2143289344 9223372036854775808 9218868437227405312 52 (-1074) (a % 18446744073709551616) := ⟨_,rfl⟩
 rw [← hx] at HR ⊢
 clear hx ha
 go_enter Tryz.func73,Tryz.ntmps73
 go_wp2_with (first | (go_at_call 138; ((with_reducible refine (HR _).out.mono ?_); rintro e w1 ⟨rfl,hb⟩)))
 go_ret
 exact ⟨rfl,hb⟩
end Go.Proofs.YtbbmbhcbncenaaaGreatDoor.Fl
