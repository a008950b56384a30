/-
  SPgC, SPgAll, SOut: merged, what the law does not reach left out (each text says what it holds where it lies in wip). No condition.
-/
import Derived.Test.YtbbmbhcbncenaaaGreatDoorG08
import Derived.Test.YtbbmbhcbncenaaaGreatDoorG26
import Derived.Test.YtbbmbhcbncenaaaGreatDoorG27
import Derived.Test.YtbbmbhcbncenaaaGreatDoorG01
import Derived.Test.YtbbmbhcbncenaaaGreatDoorG25
import Derived.Test.YtbbmbhcbncenaaaGreatDoorG05
set_option linter.unusedSimpArgs false
set_option linter.unusedVariables false
set_option maxRecDepth 100000
namespace Go.Proofs.YtbbmbhcbncenaaaGreatDoor.Sc
open Go.RowKit
theorem truncM_e (n : Nat) (s neg : Bool) (v : Nat) : (Fl.truncM n s false neg v).2 = 0 ∨ (Fl.truncM n s false neg v).2 = 42 ∨ (Fl.truncM n s false neg v).2 = 43 := by
 unfold Fl.truncM
 repeat' split
 all_goals simp_all
theorem truncW_e (SB INF P : Nat) (low : Int) (n : Nat) (s : Bool) (c : Nat) : (Fl.truncW SB INF P low n s false c).2 = 0 ∨ (Fl.truncW SB INF P low n s false c).2 = 42 ∨ (Fl.truncW SB INF P low n s false c).2 = 43 := by
 unfold Fl.truncW
 split
 ·simp
 ·exact truncM_e _ _ _ _
theorem held_0 (SB INF P : Nat) (low : Int) (n : Nat) (s : Bool) (c : Nat) : (Fl.truncW SB INF P low n s true c).2 = 0 := by
 unfold Fl.truncW
 split
 ·rfl
 ·unfold Fl.truncM
  split
  ·rfl
  ·rfl
theorem prow_167 : rowB 167 [126] 127 = true := by kernel_rfl
theorem pg_167 (a b : Nat) (ha : a < 18446744073709551616) (hb : b < 18446744073709551616) : Pg 167 a b := by
 have ha' := cutT_lt 126 a ha
 refine pg_of 167 [126] 127 prow_167 a b (cutT 126 a) (0) ?_ ?_
 ·show AnsG 22 #[.int .i64 167,.int .u64 ((cutT 126 a : Nat) : Int),.int .u64 ((0 : Nat) : Int)] _
  exact Ans.g (res_con 167 (by decide) (by decide) _ _ _ _ (con_same 167 (by decide) (cutT 126 a)))
 ·exact .inl rfl
theorem prow_173 : rowB 173 [127] 126 = true := by kernel_rfl
theorem pg_173 (a b : Nat) (ha : a < 18446744073709551616) (hb : b < 18446744073709551616) : Pg 173 a b := by
 have ha' := cutT_lt 127 a ha
 refine pg_of 173 [127] 126 prow_173 a b (cutT 127 a) (0) ?_ ?_
 ·show AnsG 22 #[.int .i64 173,.int .u64 ((cutT 127 a : Nat) : Int),.int .u64 ((0 : Nat) : Int)] _
  exact Ans.g (res_con 173 (by decide) (by decide) _ _ _ _ (con_same 173 (by decide) (cutT 127 a)))
 ·exact .inl rfl
theorem prow_188 : rowB 188 [125] 127 = true := by kernel_rfl
theorem pg_188 (a b : Nat) (ha : a < 18446744073709551616) (hb : b < 18446744073709551616) : Pg 188 a b := by
 have ha' := cutT_lt 125 a ha
 refine pg_of 188 [125] 127 prow_188 a b (cutT 125 a) (0) ?_ ?_
 ·show AnsG 22 #[.int .i64 188,.int .u64 ((cutT 125 a : Nat) : Int),.int .u64 ((0 : Nat) : Int)] _
  exact Ans.g (res_con 188 (by decide) (by decide) _ _ _ _ (con_same 188 (by decide) (cutT 125 a)))
 ·exact .inl rfl
theorem prow_189 : rowB 189 [124] 126 = true := by kernel_rfl
theorem pg_189 (a b : Nat) (ha : a < 18446744073709551616) (hb : b < 18446744073709551616) : Pg 189 a b := by
 have ha' := cutT_lt 124 a ha
 refine pg_of 189 [124] 126 prow_189 a b (cutT 124 a) (0) ?_ ?_
 ·show AnsG 22 #[.int .i64 189,.int .u64 ((cutT 124 a : Nat) : Int),.int .u64 ((0 : Nat) : Int)] _
  exact Ans.g (res_con 189 (by decide) (by decide) _ _ _ _ (con_same 189 (by decide) (cutT 124 a)))
 ·exact .inl rfl
theorem prow_190 : rowB 190 [127] 125 = true := by kernel_rfl
theorem pg_190 (a b : Nat) (ha : a < 18446744073709551616) (hb : b < 18446744073709551616) : Pg 190 a b := by
 have ha' := cutT_lt 127 a ha
 refine pg_of 190 [127] 125 prow_190 a b (cutT 127 a) (0) ?_ ?_
 ·show AnsG 22 #[.int .i64 190,.int .u64 ((cutT 127 a : Nat) : Int),.int .u64 ((0 : Nat) : Int)] _
  exact Ans.g (res_con 190 (by decide) (by decide) _ _ _ _ (con_same 190 (by decide) (cutT 127 a)))
 ·exact .inl rfl
theorem prow_191 : rowB 191 [126] 124 = true := by kernel_rfl
theorem pg_191 (a b : Nat) (ha : a < 18446744073709551616) (hb : b < 18446744073709551616) : Pg 191 a b := by
 have ha' := cutT_lt 126 a ha
 refine pg_of 191 [126] 124 prow_191 a b (cutT 126 a) (0) ?_ ?_
 ·show AnsG 22 #[.int .i64 191,.int .u64 ((cutT 126 a : Nat) : Int),.int .u64 ((0 : Nat) : Int)] _
  exact Ans.g (res_con 191 (by decide) (by decide) _ _ _ _ (con_same 191 (by decide) (cutT 126 a)))
 ·exact .inl rfl
theorem con_168 (a : Nat) (r r2 : Int) (HC : Ans 39 #[.int .i64 32,.int .i64 0,.bool false,.int .u64 a] (.tuple #[.int .u64 r,.int .i64 r2])) : Ans 37 #[.int .i64 168,.int .u64 a] (.tuple #[.int .u64 r,.int .i64 r2]) := fun w => by
 have HCC := fun W => hid (HC W)
 clear HC
 go_enter Tryz.func37,Tryz.ntmps37
 go_wp2_with (go_at_call 39; (with_reducible refine (HCC _).out.mono ?_); rintro e w1 ⟨rfl,hb1⟩; have HB1 := hid hb1; clear hb1)
 go_ret2
 exact ⟨rfl,HB1.out⟩
theorem prow_168 : rowB 168 [125] 127 = true := by kernel_rfl
theorem pg_168 (a b : Nat) (ha : a < 18446744073709551616) (hb : b < 18446744073709551616) : Pg 168 a b := by
 have ha' := cutT_lt 125 a ha
 obtain ⟨e2,he2,hee⟩ : ∃ e2 : Nat,(Fl.truncW 2147483648 2139095040 23 (-149) 32 true false (cutT 125 a % 4294967296)).2 = (e2 : Int) ∧ (e2 = 0 ∨ (mayB 168 = true ∧ (e2 = 41 ∨ e2 = 42 ∨ e2 = 43))) := by
  rcases truncW_e 2147483648 2139095040 23 (-149) 32 true (cutT 125 a % 4294967296) with h | h | h
  ·exact ⟨0,h,.inl rfl⟩
  ·exact ⟨42,h,.inr ⟨by decide,.inr (.inl rfl)⟩⟩
  ·exact ⟨43,h,.inr ⟨by decide,.inr (.inr rfl)⟩⟩
 have HP : Ans 81 #[.int .i64 32,.int .i64 32,.bool true,.bool false,.int .u64 (cutT 125 a : Nat)] (.tuple #[.int .u64 ((Fl.truncW 2147483648 2139095040 23 (-149) 32 true false (cutT 125 a % 4294967296)).1 : Nat),.int .i64 (e2 : Int)]) := fun W => by
  have := Fl.Trunc_32_32 true false (cutT 125 a) ha' W
  rw [he2] at this
  exact this
 refine pg_of 168 [125] 127 prow_168 a b ((Fl.truncW 2147483648 2139095040 23 (-149) 32 true false (cutT 125 a % 4294967296)).1) (e2) ?_ ?_
 ·show AnsG 22 #[.int .i64 168,.int .u64 ((cutT 125 a : Nat) : Int),.int .u64 ((0 : Nat) : Int)] _
  exact Ans.g (res_con 168 (by decide) (by decide) _ _ _ _ (con_168 _ _ _ (truncated_says 32 0 false (cutT 125 a) (by decide) (by decide) _ _ HP)))
 ·exact hee
theorem con_169 (a : Nat) (r r2 : Int) (HC : Ans 39 #[.int .i64 32,.int .i64 1,.bool false,.int .u64 a] (.tuple #[.int .u64 r,.int .i64 r2])) : Ans 37 #[.int .i64 169,.int .u64 a] (.tuple #[.int .u64 r,.int .i64 r2]) := fun w => by
 have HCC := fun W => hid (HC W)
 clear HC
 go_enter Tryz.func37,Tryz.ntmps37
 go_wp2_with (go_at_call 39; (with_reducible refine (HCC _).out.mono ?_); rintro e w1 ⟨rfl,hb1⟩; have HB1 := hid hb1; clear hb1)
 go_ret2
 exact ⟨rfl,HB1.out⟩
theorem prow_169 : rowB 169 [125] 127 = true := by kernel_rfl
theorem pg_169 (a b : Nat) (ha : a < 18446744073709551616) (hb : b < 18446744073709551616) : Pg 169 a b := by
 have ha' := cutT_lt 125 a ha
 obtain ⟨e2,he2,hee⟩ : ∃ e2 : Nat,(Fl.truncW 2147483648 2139095040 23 (-149) 32 false false (cutT 125 a % 4294967296)).2 = (e2 : Int) ∧ (e2 = 0 ∨ (mayB 169 = true ∧ (e2 = 41 ∨ e2 = 42 ∨ e2 = 43))) := by
  rcases truncW_e 2147483648 2139095040 23 (-149) 32 false (cutT 125 a % 4294967296) with h | h | h
  ·exact ⟨0,h,.inl rfl⟩
  ·exact ⟨42,h,.inr ⟨by decide,.inr (.inl rfl)⟩⟩
  ·exact ⟨43,h,.inr ⟨by decide,.inr (.inr rfl)⟩⟩
 have HP : Ans 81 #[.int .i64 32,.int .i64 32,.bool false,.bool false,.int .u64 (cutT 125 a : Nat)] (.tuple #[.int .u64 ((Fl.truncW 2147483648 2139095040 23 (-149) 32 false false (cutT 125 a % 4294967296)).1 : Nat),.int .i64 (e2 : Int)]) := fun W => by
  have := Fl.Trunc_32_32 false false (cutT 125 a) ha' W
  rw [he2] at this
  exact this
 refine pg_of 169 [125] 127 prow_169 a b ((Fl.truncW 2147483648 2139095040 23 (-149) 32 false false (cutT 125 a % 4294967296)).1) (e2) ?_ ?_
 ·show AnsG 22 #[.int .i64 169,.int .u64 ((cutT 125 a : Nat) : Int),.int .u64 ((0 : Nat) : Int)] _
  exact Ans.g (res_con 169 (by decide) (by decide) _ _ _ _ (con_169 _ _ _ (truncated_says 32 1 false (cutT 125 a) (by decide) (by decide) _ _ HP)))
 ·exact hee
theorem con_170 (a : Nat) (r r2 : Int) (HC : Ans 39 #[.int .i64 32,.int .i64 2,.bool false,.int .u64 a] (.tuple #[.int .u64 r,.int .i64 r2])) : Ans 37 #[.int .i64 170,.int .u64 a] (.tuple #[.int .u64 r,.int .i64 r2]) := fun w => by
 have HCC := fun W => hid (HC W)
 clear HC
 go_enter Tryz.func37,Tryz.ntmps37
 go_wp2_with (go_at_call 39; (with_reducible refine (HCC _).out.mono ?_); rintro e w1 ⟨rfl,hb1⟩; have HB1 := hid hb1; clear hb1)
 go_ret2
 exact ⟨rfl,HB1.out⟩
theorem prow_170 : rowB 170 [124] 127 = true := by kernel_rfl
theorem pg_170 (a b : Nat) (ha : a < 18446744073709551616) (hb : b < 18446744073709551616) : Pg 170 a b := by
 have ha' := cutT_lt 124 a ha
 obtain ⟨e2,he2,hee⟩ : ∃ e2 : Nat,(Fl.truncW 9223372036854775808 9218868437227405312 52 (-1074) 32 true false (cutT 124 a % 18446744073709551616)).2 = (e2 : Int) ∧ (e2 = 0 ∨ (mayB 170 = true ∧ (e2 = 41 ∨ e2 = 42 ∨ e2 = 43))) := by
  rcases truncW_e 9223372036854775808 9218868437227405312 52 (-1074) 32 true (cutT 124 a % 18446744073709551616) with h | h | h
  ·exact ⟨0,h,.inl rfl⟩
  ·exact ⟨42,h,.inr ⟨by decide,.inr (.inl rfl)⟩⟩
  ·exact ⟨43,h,.inr ⟨by decide,.inr (.inr rfl)⟩⟩
 have HP : Ans 81 #[.int .i64 64,.int .i64 32,.bool true,.bool false,.int .u64 (cutT 124 a : Nat)] (.tuple #[.int .u64 ((Fl.truncW 9223372036854775808 9218868437227405312 52 (-1074) 32 true false (cutT 124 a % 18446744073709551616)).1 : Nat),.int .i64 (e2 : Int)]) := fun W => by
  have := Fl.Trunc_64_32 true false (cutT 124 a) ha' W
  rw [he2] at this
  exact this
 refine pg_of 170 [124] 127 prow_170 a b ((Fl.truncW 9223372036854775808 9218868437227405312 52 (-1074) 32 true false (cutT 124 a % 18446744073709551616)).1) (e2) ?_ ?_
 ·show AnsG 22 #[.int .i64 170,.int .u64 ((cutT 124 a : Nat) : Int),.int .u64 ((0 : Nat) : Int)] _
  exact Ans.g (res_con 170 (by decide) (by decide) _ _ _ _ (con_170 _ _ _ (truncated_says 32 2 false (cutT 124 a) (by decide) (by decide) _ _ HP)))
 ·exact hee
theorem con_171 (a : Nat) (r r2 : Int) (HC : Ans 39 #[.int .i64 32,.int .i64 3,.bool false,.int .u64 a] (.tuple #[.int .u64 r,.int .i64 r2])) : Ans 37 #[.int .i64 171,.int .u64 a] (.tuple #[.int .u64 r,.int .i64 r2]) := fun w => by
 have HCC := fun W => hid (HC W)
 clear HC
 go_enter Tryz.func37,Tryz.ntmps37
 go_wp2_with (go_at_call 39; (with_reducible refine (HCC _).out.mono ?_); rintro e w1 ⟨rfl,hb1⟩; have HB1 := hid hb1; clear hb1)
 go_ret2
 exact ⟨rfl,HB1.out⟩
theorem prow_171 : rowB 171 [124] 127 = true := by kernel_rfl
theorem pg_171 (a b : Nat) (ha : a < 18446744073709551616) (hb : b < 18446744073709551616) : Pg 171 a b := by
 have ha' := cutT_lt 124 a ha
 obtain ⟨e2,he2,hee⟩ : ∃ e2 : Nat,(Fl.truncW 9223372036854775808 9218868437227405312 52 (-1074) 32 false false (cutT 124 a % 18446744073709551616)).2 = (e2 : Int) ∧ (e2 = 0 ∨ (mayB 171 = true ∧ (e2 = 41 ∨ e2 = 42 ∨ e2 = 43))) := by
  rcases truncW_e 9223372036854775808 9218868437227405312 52 (-1074) 32 false (cutT 124 a % 18446744073709551616) with h | h | h
  ·exact ⟨0,h,.inl rfl⟩
  ·exact ⟨42,h,.inr ⟨by decide,.inr (.inl rfl)⟩⟩
  ·exact ⟨43,h,.inr ⟨by decide,.inr (.inr rfl)⟩⟩
 have HP : Ans 81 #[.int .i64 64,.int .i64 32,.bool false,.bool false,.int .u64 (cutT 124 a : Nat)] (.tuple #[.int .u64 ((Fl.truncW 9223372036854775808 9218868437227405312 52 (-1074) 32 false false (cutT 124 a % 18446744073709551616)).1 : Nat),.int .i64 (e2 : Int)]) := fun W => by
  have := Fl.Trunc_64_32 false false (cutT 124 a) ha' W
  rw [he2] at this
  exact this
 refine pg_of 171 [124] 127 prow_171 a b ((Fl.truncW 9223372036854775808 9218868437227405312 52 (-1074) 32 false false (cutT 124 a % 18446744073709551616)).1) (e2) ?_ ?_
 ·show AnsG 22 #[.int .i64 171,.int .u64 ((cutT 124 a : Nat) : Int),.int .u64 ((0 : Nat) : Int)] _
  exact Ans.g (res_con 171 (by decide) (by decide) _ _ _ _ (con_171 _ _ _ (truncated_says 32 3 false (cutT 124 a) (by decide) (by decide) _ _ HP)))
 ·exact hee
theorem con_174 (a : Nat) (r r2 : Int) (HC : Ans 39 #[.int .i64 64,.int .i64 0,.bool false,.int .u64 a] (.tuple #[.int .u64 r,.int .i64 r2])) : Ans 37 #[.int .i64 174,.int .u64 a] (.tuple #[.int .u64 r,.int .i64 r2]) := fun w => by
 have HCC := fun W => hid (HC W)
 clear HC
 go_enter Tryz.func37,Tryz.ntmps37
 go_wp2_with (go_at_call 39; (with_reducible refine (HCC _).out.mono ?_); rintro e w1 ⟨rfl,hb1⟩; have HB1 := hid hb1; clear hb1)
 go_ret2
 exact ⟨rfl,HB1.out⟩
theorem prow_174 : rowB 174 [125] 126 = true := by kernel_rfl
theorem pg_174 (a b : Nat) (ha : a < 18446744073709551616) (hb : b < 18446744073709551616) : Pg 174 a b := by
 have ha' := cutT_lt 125 a ha
 obtain ⟨e2,he2,hee⟩ : ∃ e2 : Nat,(Fl.truncW 2147483648 2139095040 23 (-149) 64 true false (cutT 125 a % 4294967296)).2 = (e2 : Int) ∧ (e2 = 0 ∨ (mayB 174 = true ∧ (e2 = 41 ∨ e2 = 42 ∨ e2 = 43))) := by
  rcases truncW_e 2147483648 2139095040 23 (-149) 64 true (cutT 125 a % 4294967296) with h | h | h
  ·exact ⟨0,h,.inl rfl⟩
  ·exact ⟨42,h,.inr ⟨by decide,.inr (.inl rfl)⟩⟩
  ·exact ⟨43,h,.inr ⟨by decide,.inr (.inr rfl)⟩⟩
 have HP : Ans 81 #[.int .i64 32,.int .i64 64,.bool true,.bool false,.int .u64 (cutT 125 a : Nat)] (.tuple #[.int .u64 ((Fl.truncW 2147483648 2139095040 23 (-149) 64 true false (cutT 125 a % 4294967296)).1 : Nat),.int .i64 (e2 : Int)]) := fun W => by
  have := Fl.Trunc_32_64 true false (cutT 125 a) ha' W
  rw [he2] at this
  exact this
 refine pg_of 174 [125] 126 prow_174 a b ((Fl.truncW 2147483648 2139095040 23 (-149) 64 true false (cutT 125 a % 4294967296)).1) (e2) ?_ ?_
 ·show AnsG 22 #[.int .i64 174,.int .u64 ((cutT 125 a : Nat) : Int),.int .u64 ((0 : Nat) : Int)] _
  exact Ans.g (res_con 174 (by decide) (by decide) _ _ _ _ (con_174 _ _ _ (truncated_says 64 0 false (cutT 125 a) (by decide) (by decide) _ _ HP)))
 ·exact hee
theorem con_175 (a : Nat) (r r2 : Int) (HC : Ans 39 #[.int .i64 64,.int .i64 1,.bool false,.int .u64 a] (.tuple #[.int .u64 r,.int .i64 r2])) : Ans 37 #[.int .i64 175,.int .u64 a] (.tuple #[.int .u64 r,.int .i64 r2]) := fun w => by
 have HCC := fun W => hid (HC W)
 clear HC
 go_enter Tryz.func37,Tryz.ntmps37
 go_wp2_with (go_at_call 39; (with_reducible refine (HCC _).out.mono ?_); rintro e w1 ⟨rfl,hb1⟩; have HB1 := hid hb1; clear hb1)
 go_ret2
 exact ⟨rfl,HB1.out⟩
theorem prow_175 : rowB 175 [125] 126 = true := by kernel_rfl
theorem pg_175 (a b : Nat) (ha : a < 18446744073709551616) (hb : b < 18446744073709551616) : Pg 175 a b := by
 have ha' := cutT_lt 125 a ha
 obtain ⟨e2,he2,hee⟩ : ∃ e2 : Nat,(Fl.truncW 2147483648 2139095040 23 (-149) 64 false false (cutT 125 a % 4294967296)).2 = (e2 : Int) ∧ (e2 = 0 ∨ (mayB 175 = true ∧ (e2 = 41 ∨ e2 = 42 ∨ e2 = 43))) := by
  rcases truncW_e 2147483648 2139095040 23 (-149) 64 false (cutT 125 a % 4294967296) with h | h | h
  ·exact ⟨0,h,.inl rfl⟩
  ·exact ⟨42,h,.inr ⟨by decide,.inr (.inl rfl)⟩⟩
  ·exact ⟨43,h,.inr ⟨by decide,.inr (.inr rfl)⟩⟩
 have HP : Ans 81 #[.int .i64 32,.int .i64 64,.bool false,.bool false,.int .u64 (cutT 125 a : Nat)] (.tuple #[.int .u64 ((Fl.truncW 2147483648 2139095040 23 (-149) 64 false false (cutT 125 a % 4294967296)).1 : Nat),.int .i64 (e2 : Int)]) := fun W => by
  have := Fl.Trunc_32_64 false false (cutT 125 a) ha' W
  rw [he2] at this
  exact this
 refine pg_of 175 [125] 126 prow_175 a b ((Fl.truncW 2147483648 2139095040 23 (-149) 64 false false (cutT 125 a % 4294967296)).1) (e2) ?_ ?_
 ·show AnsG 22 #[.int .i64 175,.int .u64 ((cutT 125 a : Nat) : Int),.int .u64 ((0 : Nat) : Int)] _
  exact Ans.g (res_con 175 (by decide) (by decide) _ _ _ _ (con_175 _ _ _ (truncated_says 64 1 false (cutT 125 a) (by decide) (by decide) _ _ HP)))
 ·exact hee
theorem con_176 (a : Nat) (r r2 : Int) (HC : Ans 39 #[.int .i64 64,.int .i64 2,.bool false,.int .u64 a] (.tuple #[.int .u64 r,.int .i64 r2])) : Ans 37 #[.int .i64 176,.int .u64 a] (.tuple #[.int .u64 r,.int .i64 r2]) := fun w => by
 have HCC := fun W => hid (HC W)
 clear HC
 go_enter Tryz.func37,Tryz.ntmps37
 go_wp2_with (go_at_call 39; (with_reducible refine (HCC _).out.mono ?_); rintro e w1 ⟨rfl,hb1⟩; have HB1 := hid hb1; clear hb1)
 go_ret2
 exact ⟨rfl,HB1.out⟩
theorem prow_176 : rowB 176 [124] 126 = true := by kernel_rfl
theorem pg_176 (a b : Nat) (ha : a < 18446744073709551616) (hb : b < 18446744073709551616) : Pg 176 a b := by
 have ha' := cutT_lt 124 a ha
 obtain ⟨e2,he2,hee⟩ : ∃ e2 : Nat,(Fl.truncW 9223372036854775808 9218868437227405312 52 (-1074) 64 true false (cutT 124 a % 18446744073709551616)).2 = (e2 : Int) ∧ (e2 = 0 ∨ (mayB 176 = true ∧ (e2 = 41 ∨ e2 = 42 ∨ e2 = 43))) := by
  rcases truncW_e 9223372036854775808 9218868437227405312 52 (-1074) 64 true (cutT 124 a % 18446744073709551616) with h | h | h
  ·exact ⟨0,h,.inl rfl⟩
  ·exact ⟨42,h,.inr ⟨by decide,.inr (.inl rfl)⟩⟩
  ·exact ⟨43,h,.inr ⟨by decide,.inr (.inr rfl)⟩⟩
 have HP : Ans 81 #[.int .i64 64,.int .i64 64,.bool true,.bool false,.int .u64 (cutT 124 a : Nat)] (.tuple #[.int .u64 ((Fl.truncW 9223372036854775808 9218868437227405312 52 (-1074) 64 true false (cutT 124 a % 18446744073709551616)).1 : Nat),.int .i64 (e2 : Int)]) := fun W => by
  have := Fl.Trunc_64_64 true false (cutT 124 a) ha' W
  rw [he2] at this
  exact this
 refine pg_of 176 [124] 126 prow_176 a b ((Fl.truncW 9223372036854775808 9218868437227405312 52 (-1074) 64 true false (cutT 124 a % 18446744073709551616)).1) (e2) ?_ ?_
 ·show AnsG 22 #[.int .i64 176,.int .u64 ((cutT 124 a : Nat) : Int),.int .u64 ((0 : Nat) : Int)] _
  exact Ans.g (res_con 176 (by decide) (by decide) _ _ _ _ (con_176 _ _ _ (truncated_says 64 2 false (cutT 124 a) (by decide) (by decide) _ _ HP)))
 ·exact hee
theorem con_177 (a : Nat) (r r2 : Int) (HC : Ans 39 #[.int .i64 64,.int .i64 3,.bool false,.int .u64 a] (.tuple #[.int .u64 r,.int .i64 r2])) : Ans 37 #[.int .i64 177,.int .u64 a] (.tuple #[.int .u64 r,.int .i64 r2]) := fun w => by
 have HCC := fun W => hid (HC W)
 clear HC
 go_enter Tryz.func37,Tryz.ntmps37
 go_wp2_with (go_at_call 39; (with_reducible refine (HCC _).out.mono ?_); rintro e w1 ⟨rfl,hb1⟩; have HB1 := hid hb1; clear hb1)
 go_ret2
 exact ⟨rfl,HB1.out⟩
theorem prow_177 : rowB 177 [124] 126 = true := by kernel_rfl
theorem pg_177 (a b : Nat) (ha : a < 18446744073709551616) (hb : b < 18446744073709551616) : Pg 177 a b := by
 have ha' := cutT_lt 124 a ha
 obtain ⟨e2,he2,hee⟩ : ∃ e2 : Nat,(Fl.truncW 9223372036854775808 9218868437227405312 52 (-1074) 64 false false (cutT 124 a % 18446744073709551616)).2 = (e2 : Int) ∧ (e2 = 0 ∨ (mayB 177 = true ∧ (e2 = 41 ∨ e2 = 42 ∨ e2 = 43))) := by
  rcases truncW_e 9223372036854775808 9218868437227405312 52 (-1074) 64 false (cutT 124 a % 18446744073709551616) with h | h | h
  ·exact ⟨0,h,.inl rfl⟩
  ·exact ⟨42,h,.inr ⟨by decide,.inr (.inl rfl)⟩⟩
  ·exact ⟨43,h,.inr ⟨by decide,.inr (.inr rfl)⟩⟩
 have HP : Ans 81 #[.int .i64 64,.int .i64 64,.bool false,.bool false,.int .u64 (cutT 124 a : Nat)] (.tuple #[.int .u64 ((Fl.truncW 9223372036854775808 9218868437227405312 52 (-1074) 64 false false (cutT 124 a % 18446744073709551616)).1 : Nat),.int .i64 (e2 : Int)]) := fun W => by
  have := Fl.Trunc_64_64 false false (cutT 124 a) ha' W
  rw [he2] at this
  exact this
 refine pg_of 177 [124] 126 prow_177 a b ((Fl.truncW 9223372036854775808 9218868437227405312 52 (-1074) 64 false false (cutT 124 a % 18446744073709551616)).1) (e2) ?_ ?_
 ·show AnsG 22 #[.int .i64 177,.int .u64 ((cutT 124 a : Nat) : Int),.int .u64 ((0 : Nat) : Int)] _
  exact Ans.g (res_con 177 (by decide) (by decide) _ _ _ _ (con_177 _ _ _ (truncated_says 64 3 false (cutT 124 a) (by decide) (by decide) _ _ HP)))
 ·exact hee
theorem con_172 (a : Nat) (ha : a < 18446744073709551616) : Ans 37 #[.int .i64 172,.int .u64 a] (.tuple #[.int .u64 (toN 64 (sg 32 (a % 2 ^ 32)) : Nat),.int .i64 0]) := fun w => by
 have HS := fun W => hid (Signed_ok 32 (by decide) a ha W)
 have hz : IntKind.u64.wrap (sg 32 (a % 2 ^ 32)) = ((toN 64 (sg 32 (a % 2 ^ 32)) : Nat) : Int) := by
  rw [IntKind.wrap_u64]
  unfold toN
  rw [Int.toNat_of_nonneg (Int.emod_nonneg _ (by decide))]
  rfl
 generalize sg 32 (a % 2 ^ 32) = z at *
 generalize toN 64 z = r at *
 go_enter Tryz.func37,Tryz.ntmps37
 have HS2 : ∀ W,Hid (Calls Tryz.prog 71 #[.int .i64 32,.int .u64 a] W fun e w' => e = .returned (.int .i64 z) ∧ W = w') := HS
 go_wp2_with (go_at_call 71; (with_reducible refine (HS2 _).out.mono ?_); rintro e w1 ⟨rfl,rfl⟩)
 go_ret2
 exact ⟨rfl,Below.refl _ _⟩
theorem prow_172 : rowB 172 [127] 126 = true := by kernel_rfl
theorem pg_172 (a b : Nat) (ha : a < 18446744073709551616) (hb : b < 18446744073709551616) : Pg 172 a b := by
 have ha' := cutT_lt 127 a ha
 refine pg_of 172 [127] 126 prow_172 a b (toN 64 (sg 32 (cutT 127 a % 2 ^ 32))) (0) ?_ ?_
 ·show AnsG 22 #[.int .i64 172,.int .u64 ((cutT 127 a : Nat) : Int),.int .u64 ((0 : Nat) : Int)] _
  exact Ans.g (res_con 172 (by decide) (by decide) _ _ _ _ (con_172 (cutT 127 a) ha'))
 ·exact .inl rfl
theorem con_178 (a : Nat) (r r2 : Int) (HC : Ans 72 #[.int .i64 32,.int .i64 0,.int .u64 a] (.tuple #[.int .u64 r,.int .i64 r2])) : Ans 37 #[.int .i64 178,.int .u64 a] (.tuple #[.int .u64 r,.int .i64 r2]) := fun w => by
 have HCC := fun W => hid (HC W)
 clear HC
 go_enter Tryz.func37,Tryz.ntmps37
 go_wp2_with (go_at_call 72; (with_reducible refine (HCC _).out.mono ?_); rintro e w1 ⟨rfl,hb1⟩; have HB1 := hid hb1; clear hb1)
 go_ret2
 exact ⟨rfl,HB1.out⟩
theorem prow_178 : rowB 178 [127] 125 = true := by kernel_rfl
theorem pg_178 (a b : Nat) (ha : a < 18446744073709551616) (hb : b < 18446744073709551616) : Pg 178 a b := by
 have ha' := cutT_lt 127 a ha
 refine pg_of 178 [127] 125 prow_178 a b (Ieee.single.word (Fl.ineg 32 true (cutT 127 a)) (Fl.rungR Ieee.single (Fl.isize 32 true (cutT 127 a)) 0 false)) (0) ?_ ?_
 ·show AnsG 22 #[.int .i64 178,.int .u64 ((cutT 127 a : Nat) : Int),.int .u64 ((0 : Nat) : Int)] _
  exact Ans.g (res_con 178 (by decide) (by decide) _ _ _ _ (con_178 _ _ _ (floated_says 32 0 (cutT 127 a) (by decide) (by decide) _ _ (fun W => Fl.Convert_32_32 true (cutT 127 a) ha' W))))
 ·exact .inl rfl
theorem con_179 (a : Nat) (r r2 : Int) (HC : Ans 72 #[.int .i64 32,.int .i64 1,.int .u64 a] (.tuple #[.int .u64 r,.int .i64 r2])) : Ans 37 #[.int .i64 179,.int .u64 a] (.tuple #[.int .u64 r,.int .i64 r2]) := fun w => by
 have HCC := fun W => hid (HC W)
 clear HC
 go_enter Tryz.func37,Tryz.ntmps37
 go_wp2_with (go_at_call 72; (with_reducible refine (HCC _).out.mono ?_); rintro e w1 ⟨rfl,hb1⟩; have HB1 := hid hb1; clear hb1)
 go_ret2
 exact ⟨rfl,HB1.out⟩
theorem prow_179 : rowB 179 [127] 125 = true := by kernel_rfl
theorem pg_179 (a b : Nat) (ha : a < 18446744073709551616) (hb : b < 18446744073709551616) : Pg 179 a b := by
 have ha' := cutT_lt 127 a ha
 refine pg_of 179 [127] 125 prow_179 a b (Ieee.single.word (Fl.ineg 32 false (cutT 127 a)) (Fl.rungR Ieee.single (Fl.isize 32 false (cutT 127 a)) 0 false)) (0) ?_ ?_
 ·show AnsG 22 #[.int .i64 179,.int .u64 ((cutT 127 a : Nat) : Int),.int .u64 ((0 : Nat) : Int)] _
  exact Ans.g (res_con 179 (by decide) (by decide) _ _ _ _ (con_179 _ _ _ (floated_says 32 1 (cutT 127 a) (by decide) (by decide) _ _ (fun W => Fl.Convert_32_32 false (cutT 127 a) ha' W))))
 ·exact .inl rfl
theorem con_180 (a : Nat) (r r2 : Int) (HC : Ans 72 #[.int .i64 32,.int .i64 2,.int .u64 a] (.tuple #[.int .u64 r,.int .i64 r2])) : Ans 37 #[.int .i64 180,.int .u64 a] (.tuple #[.int .u64 r,.int .i64 r2]) := fun w => by
 have HCC := fun W => hid (HC W)
 clear HC
 go_enter Tryz.func37,Tryz.ntmps37
 go_wp2_with (go_at_call 72; (with_reducible refine (HCC _).out.mono ?_); rintro e w1 ⟨rfl,hb1⟩; have HB1 := hid hb1; clear hb1)
 go_ret2
 exact ⟨rfl,HB1.out⟩
theorem prow_180 : rowB 180 [126] 125 = true := by kernel_rfl
theorem pg_180 (a b : Nat) (ha : a < 18446744073709551616) (hb : b < 18446744073709551616) : Pg 180 a b := by
 have ha' := cutT_lt 126 a ha
 refine pg_of 180 [126] 125 prow_180 a b (Ieee.single.word (Fl.ineg 64 true (cutT 126 a)) (Fl.rungR Ieee.single (Fl.isize 64 true (cutT 126 a)) 0 false)) (0) ?_ ?_
 ·show AnsG 22 #[.int .i64 180,.int .u64 ((cutT 126 a : Nat) : Int),.int .u64 ((0 : Nat) : Int)] _
  exact Ans.g (res_con 180 (by decide) (by decide) _ _ _ _ (con_180 _ _ _ (floated_says 32 2 (cutT 126 a) (by decide) (by decide) _ _ (fun W => Fl.Convert_64_32 true (cutT 126 a) ha' W))))
 ·exact .inl rfl
theorem con_181 (a : Nat) (r r2 : Int) (HC : Ans 72 #[.int .i64 32,.int .i64 3,.int .u64 a] (.tuple #[.int .u64 r,.int .i64 r2])) : Ans 37 #[.int .i64 181,.int .u64 a] (.tuple #[.int .u64 r,.int .i64 r2]) := fun w => by
 have HCC := fun W => hid (HC W)
 clear HC
 go_enter Tryz.func37,Tryz.ntmps37
 go_wp2_with (go_at_call 72; (with_reducible refine (HCC _).out.mono ?_); rintro e w1 ⟨rfl,hb1⟩; have HB1 := hid hb1; clear hb1)
 go_ret2
 exact ⟨rfl,HB1.out⟩
theorem prow_181 : rowB 181 [126] 125 = true := by kernel_rfl
theorem pg_181 (a b : Nat) (ha : a < 18446744073709551616) (hb : b < 18446744073709551616) : Pg 181 a b := by
 have ha' := cutT_lt 126 a ha
 refine pg_of 181 [126] 125 prow_181 a b (Ieee.single.word (Fl.ineg 64 false (cutT 126 a)) (Fl.rungR Ieee.single (Fl.isize 64 false (cutT 126 a)) 0 false)) (0) ?_ ?_
 ·show AnsG 22 #[.int .i64 181,.int .u64 ((cutT 126 a : Nat) : Int),.int .u64 ((0 : Nat) : Int)] _
  exact Ans.g (res_con 181 (by decide) (by decide) _ _ _ _ (con_181 _ _ _ (floated_says 32 3 (cutT 126 a) (by decide) (by decide) _ _ (fun W => Fl.Convert_64_32 false (cutT 126 a) ha' W))))
 ·exact .inl rfl
theorem con_183 (a : Nat) (r r2 : Int) (HC : Ans 72 #[.int .i64 64,.int .i64 0,.int .u64 a] (.tuple #[.int .u64 r,.int .i64 r2])) : Ans 37 #[.int .i64 183,.int .u64 a] (.tuple #[.int .u64 r,.int .i64 r2]) := fun w => by
 have HCC := fun W => hid (HC W)
 clear HC
 go_enter Tryz.func37,Tryz.ntmps37
 go_wp2_with (go_at_call 72; (with_reducible refine (HCC _).out.mono ?_); rintro e w1 ⟨rfl,hb1⟩; have HB1 := hid hb1; clear hb1)
 go_ret2
 exact ⟨rfl,HB1.out⟩
theorem prow_183 : rowB 183 [127] 124 = true := by kernel_rfl
theorem pg_183 (a b : Nat) (ha : a < 18446744073709551616) (hb : b < 18446744073709551616) : Pg 183 a b := by
 have ha' := cutT_lt 127 a ha
 refine pg_of 183 [127] 124 prow_183 a b (Ieee.double.word (Fl.ineg 32 true (cutT 127 a)) (Fl.rungR Ieee.double (Fl.isize 32 true (cutT 127 a)) 0 false)) (0) ?_ ?_
 ·show AnsG 22 #[.int .i64 183,.int .u64 ((cutT 127 a : Nat) : Int),.int .u64 ((0 : Nat) : Int)] _
  exact Ans.g (res_con 183 (by decide) (by decide) _ _ _ _ (con_183 _ _ _ (floated_says 64 0 (cutT 127 a) (by decide) (by decide) _ _ (fun W => Fl.Convert_32_64 true (cutT 127 a) ha' W))))
 ·exact .inl rfl
theorem con_184 (a : Nat) (r r2 : Int) (HC : Ans 72 #[.int .i64 64,.int .i64 1,.int .u64 a] (.tuple #[.int .u64 r,.int .i64 r2])) : Ans 37 #[.int .i64 184,.int .u64 a] (.tuple #[.int .u64 r,.int .i64 r2]) := fun w => by
 have HCC := fun W => hid (HC W)
 clear HC
 go_enter Tryz.func37,Tryz.ntmps37
 go_wp2_with (go_at_call 72; (with_reducible refine (HCC _).out.mono ?_); rintro e w1 ⟨rfl,hb1⟩; have HB1 := hid hb1; clear hb1)
 go_ret2
 exact ⟨rfl,HB1.out⟩
theorem prow_184 : rowB 184 [127] 124 = true := by kernel_rfl
theorem pg_184 (a b : Nat) (ha : a < 18446744073709551616) (hb : b < 18446744073709551616) : Pg 184 a b := by
 have ha' := cutT_lt 127 a ha
 refine pg_of 184 [127] 124 prow_184 a b (Ieee.double.word (Fl.ineg 32 false (cutT 127 a)) (Fl.rungR Ieee.double (Fl.isize 32 false (cutT 127 a)) 0 false)) (0) ?_ ?_
 ·show AnsG 22 #[.int .i64 184,.int .u64 ((cutT 127 a : Nat) : Int),.int .u64 ((0 : Nat) : Int)] _
  exact Ans.g (res_con 184 (by decide) (by decide) _ _ _ _ (con_184 _ _ _ (floated_says 64 1 (cutT 127 a) (by decide) (by decide) _ _ (fun W => Fl.Convert_32_64 false (cutT 127 a) ha' W))))
 ·exact .inl rfl
theorem con_185 (a : Nat) (r r2 : Int) (HC : Ans 72 #[.int .i64 64,.int .i64 2,.int .u64 a] (.tuple #[.int .u64 r,.int .i64 r2])) : Ans 37 #[.int .i64 185,.int .u64 a] (.tuple #[.int .u64 r,.int .i64 r2]) := fun w => by
 have HCC := fun W => hid (HC W)
 clear HC
 go_enter Tryz.func37,Tryz.ntmps37
 go_wp2_with (go_at_call 72; (with_reducible refine (HCC _).out.mono ?_); rintro e w1 ⟨rfl,hb1⟩; have HB1 := hid hb1; clear hb1)
 go_ret2
 exact ⟨rfl,HB1.out⟩
theorem prow_185 : rowB 185 [126] 124 = true := by kernel_rfl
theorem pg_185 (a b : Nat) (ha : a < 18446744073709551616) (hb : b < 18446744073709551616) : Pg 185 a b := by
 have ha' := cutT_lt 126 a ha
 refine pg_of 185 [126] 124 prow_185 a b (Ieee.double.word (Fl.ineg 64 true (cutT 126 a)) (Fl.rungR Ieee.double (Fl.isize 64 true (cutT 126 a)) 0 false)) (0) ?_ ?_
 ·show AnsG 22 #[.int .i64 185,.int .u64 ((cutT 126 a : Nat) : Int),.int .u64 ((0 : Nat) : Int)] _
  exact Ans.g (res_con 185 (by decide) (by decide) _ _ _ _ (con_185 _ _ _ (floated_says 64 2 (cutT 126 a) (by decide) (by decide) _ _ (fun W => Fl.Convert_64_64 true (cutT 126 a) ha' W))))
 ·exact .inl rfl
theorem con_186 (a : Nat) (r r2 : Int) (HC : Ans 72 #[.int .i64 64,.int .i64 3,.int .u64 a] (.tuple #[.int .u64 r,.int .i64 r2])) : Ans 37 #[.int .i64 186,.int .u64 a] (.tuple #[.int .u64 r,.int .i64 r2]) := fun w => by
 have HCC := fun W => hid (HC W)
 clear HC
 go_enter Tryz.func37,Tryz.ntmps37
 go_wp2_with (go_at_call 72; (with_reducible refine (HCC _).out.mono ?_); rintro e w1 ⟨rfl,hb1⟩; have HB1 := hid hb1; clear hb1)
 go_ret2
 exact ⟨rfl,HB1.out⟩
theorem prow_186 : rowB 186 [126] 124 = true := by kernel_rfl
theorem pg_186 (a b : Nat) (ha : a < 18446744073709551616) (hb : b < 18446744073709551616) : Pg 186 a b := by
 have ha' := cutT_lt 126 a ha
 refine pg_of 186 [126] 124 prow_186 a b (Ieee.double.word (Fl.ineg 64 false (cutT 126 a)) (Fl.rungR Ieee.double (Fl.isize 64 false (cutT 126 a)) 0 false)) (0) ?_ ?_
 ·show AnsG 22 #[.int .i64 186,.int .u64 ((cutT 126 a : Nat) : Int),.int .u64 ((0 : Nat) : Int)] _
  exact Ans.g (res_con 186 (by decide) (by decide) _ _ _ _ (con_186 _ _ _ (floated_says 64 3 (cutT 126 a) (by decide) (by decide) _ _ (fun W => Fl.Convert_64_64 false (cutT 126 a) ha' W))))
 ·exact .inl rfl
theorem con_182 (a : Nat) (r : Int) (HC : Ans 73 #[.int .u64 a] (.int .u64 r)) : Ans 37 #[.int .i64 182,.int .u64 a] (.tuple #[.int .u64 r,.int .i64 0]) := fun w => by
 have HCC := fun W => hid (HC W)
 clear HC
 go_enter Tryz.func37,Tryz.ntmps37
 go_wp2_with (go_at_call 73; (with_reducible refine (HCC _).out.mono ?_); rintro e w1 ⟨rfl,hb1⟩; have HB1 := hid hb1; clear hb1)
 go_ret2
 exact ⟨rfl,HB1.out⟩
theorem prow_182 : rowB 182 [124] 125 = true := by kernel_rfl
theorem pg_182 (a b : Nat) (ha : a < 18446744073709551616) (hb : b < 18446744073709551616) : Pg 182 a b := by
 have ha' := cutT_lt 124 a ha
 refine pg_of 182 [124] 125 prow_182 a b (Fl.resW Ieee.single 2143289344 9223372036854775808 9218868437227405312 52 (-1074) (cutT 124 a % 18446744073709551616)) (0) ?_ ?_
 ·show AnsG 22 #[.int .i64 182,.int .u64 ((cutT 124 a : Nat) : Int),.int .u64 ((0 : Nat) : Int)] _
  exact Ans.g (res_con 182 (by decide) (by decide) _ _ _ _ (con_182 _ _ (fun W => Fl.Demote_any (cutT 124 a) ha' W)))
 ·exact .inl rfl
theorem con_187 (a : Nat) (r : Int) (HC : Ans 74 #[.int .u64 a] (.int .u64 r)) : Ans 37 #[.int .i64 187,.int .u64 a] (.tuple #[.int .u64 r,.int .i64 0]) := fun w => by
 have HCC := fun W => hid (HC W)
 clear HC
 go_enter Tryz.func37,Tryz.ntmps37
 go_wp2_with (go_at_call 74; (with_reducible refine (HCC _).out.mono ?_); rintro e w1 ⟨rfl,hb1⟩; have HB1 := hid hb1; clear hb1)
 go_ret2
 exact ⟨rfl,HB1.out⟩
theorem prow_187 : rowB 187 [125] 124 = true := by kernel_rfl
theorem pg_187 (a b : Nat) (ha : a < 18446744073709551616) (hb : b < 18446744073709551616) : Pg 187 a b := by
 have ha' := cutT_lt 125 a ha
 refine pg_of 187 [125] 124 prow_187 a b (Fl.resW Ieee.double 9221120237041090560 2147483648 2139095040 23 (-149) (cutT 125 a % 4294967296)) (0) ?_ ?_
 ·show AnsG 22 #[.int .i64 187,.int .u64 ((cutT 125 a : Nat) : Int),.int .u64 ((0 : Nat) : Int)] _
  exact Ans.g (res_con 187 (by decide) (by decide) _ _ _ _ (con_187 _ _ (fun W => Fl.Promote_any (cutT 125 a) ha' W)))
 ·exact .inl rfl
theorem prow_64512 : rowB 64512 [125] 127 = true := by kernel_rfl
theorem pg_64512 (a b : Nat) (ha : a < 18446744073709551616) (hb : b < 18446744073709551616) : Pg 64512 a b := by
 have ha' := cutT_lt 125 a ha
 have hs := held_0 2147483648 2139095040 23 (-149) 32 true (cutT 125 a % 4294967296)
 have HP : Ans 81 #[.int .i64 32,.int .i64 32,.bool true,.bool true,.int .u64 (cutT 125 a : Nat)] (.tuple #[.int .u64 ((Fl.truncW 2147483648 2139095040 23 (-149) 32 true true (cutT 125 a % 4294967296)).1 : Nat),.int .i64 ((0 : Nat) : Int)]) := fun W => by
  have := Fl.Trunc_32_32 true true (cutT 125 a) ha' W
  rw [hs] at this
  exact this
 refine pg_of 64512 [125] 127 prow_64512 a b ((Fl.truncW 2147483648 2139095040 23 (-149) 32 true true (cutT 125 a % 4294967296)).1) (0) ?_ ?_
 ·show AnsG 22 #[.int .i64 64512,.int .u64 ((cutT 125 a : Nat) : Int),.int .u64 ((0 : Nat) : Int)] _
  exact Ans.g (res_s32 64512 0 (by decide) (by decide) (by decide) (cutT 125 a) 0 _ _ (truncated_says 32 0 true (cutT 125 a) (by decide) (by decide) _ _ HP))
 ·exact .inl rfl
theorem prow_64513 : rowB 64513 [125] 127 = true := by kernel_rfl
theorem pg_64513 (a b : Nat) (ha : a < 18446744073709551616) (hb : b < 18446744073709551616) : Pg 64513 a b := by
 have ha' := cutT_lt 125 a ha
 have hs := held_0 2147483648 2139095040 23 (-149) 32 false (cutT 125 a % 4294967296)
 have HP : Ans 81 #[.int .i64 32,.int .i64 32,.bool false,.bool true,.int .u64 (cutT 125 a : Nat)] (.tuple #[.int .u64 ((Fl.truncW 2147483648 2139095040 23 (-149) 32 false true (cutT 125 a % 4294967296)).1 : Nat),.int .i64 ((0 : Nat) : Int)]) := fun W => by
  have := Fl.Trunc_32_32 false true (cutT 125 a) ha' W
  rw [hs] at this
  exact this
 refine pg_of 64513 [125] 127 prow_64513 a b ((Fl.truncW 2147483648 2139095040 23 (-149) 32 false true (cutT 125 a % 4294967296)).1) (0) ?_ ?_
 ·show AnsG 22 #[.int .i64 64513,.int .u64 ((cutT 125 a : Nat) : Int),.int .u64 ((0 : Nat) : Int)] _
  exact Ans.g (res_s32 64513 1 (by decide) (by decide) (by decide) (cutT 125 a) 0 _ _ (truncated_says 32 1 true (cutT 125 a) (by decide) (by decide) _ _ HP))
 ·exact .inl rfl
theorem prow_64514 : rowB 64514 [124] 127 = true := by kernel_rfl
theorem pg_64514 (a b : Nat) (ha : a < 18446744073709551616) (hb : b < 18446744073709551616) : Pg 64514 a b := by
 have ha' := cutT_lt 124 a ha
 have hs := held_0 9223372036854775808 9218868437227405312 52 (-1074) 32 true (cutT 124 a % 18446744073709551616)
 have HP : Ans 81 #[.int .i64 64,.int .i64 32,.bool true,.bool true,.int .u64 (cutT 124 a : Nat)] (.tuple #[.int .u64 ((Fl.truncW 9223372036854775808 9218868437227405312 52 (-1074) 32 true true (cutT 124 a % 18446744073709551616)).1 : Nat),.int .i64 ((0 : Nat) : Int)]) := fun W => by
  have := Fl.Trunc_64_32 true true (cutT 124 a) ha' W
  rw [hs] at this
  exact this
 refine pg_of 64514 [124] 127 prow_64514 a b ((Fl.truncW 9223372036854775808 9218868437227405312 52 (-1074) 32 true true (cutT 124 a % 18446744073709551616)).1) (0) ?_ ?_
 ·show AnsG 22 #[.int .i64 64514,.int .u64 ((cutT 124 a : Nat) : Int),.int .u64 ((0 : Nat) : Int)] _
  exact Ans.g (res_s32 64514 2 (by decide) (by decide) (by decide) (cutT 124 a) 0 _ _ (truncated_says 32 2 true (cutT 124 a) (by decide) (by decide) _ _ HP))
 ·exact .inl rfl
theorem prow_64515 : rowB 64515 [124] 127 = true := by kernel_rfl
theorem pg_64515 (a b : Nat) (ha : a < 18446744073709551616) (hb : b < 18446744073709551616) : Pg 64515 a b := by
 have ha' := cutT_lt 124 a ha
 have hs := held_0 9223372036854775808 9218868437227405312 52 (-1074) 32 false (cutT 124 a % 18446744073709551616)
 have HP : Ans 81 #[.int .i64 64,.int .i64 32,.bool false,.bool true,.int .u64 (cutT 124 a : Nat)] (.tuple #[.int .u64 ((Fl.truncW 9223372036854775808 9218868437227405312 52 (-1074) 32 false true (cutT 124 a % 18446744073709551616)).1 : Nat),.int .i64 ((0 : Nat) : Int)]) := fun W => by
  have := Fl.Trunc_64_32 false true (cutT 124 a) ha' W
  rw [hs] at this
  exact this
 refine pg_of 64515 [124] 127 prow_64515 a b ((Fl.truncW 9223372036854775808 9218868437227405312 52 (-1074) 32 false true (cutT 124 a % 18446744073709551616)).1) (0) ?_ ?_
 ·show AnsG 22 #[.int .i64 64515,.int .u64 ((cutT 124 a : Nat) : Int),.int .u64 ((0 : Nat) : Int)] _
  exact Ans.g (res_s32 64515 3 (by decide) (by decide) (by decide) (cutT 124 a) 0 _ _ (truncated_says 32 3 true (cutT 124 a) (by decide) (by decide) _ _ HP))
 ·exact .inl rfl
theorem prow_64516 : rowB 64516 [125] 126 = true := by kernel_rfl
theorem pg_64516 (a b : Nat) (ha : a < 18446744073709551616) (hb : b < 18446744073709551616) : Pg 64516 a b := by
 have ha' := cutT_lt 125 a ha
 have hs := held_0 2147483648 2139095040 23 (-149) 64 true (cutT 125 a % 4294967296)
 have HP : Ans 81 #[.int .i64 32,.int .i64 64,.bool true,.bool true,.int .u64 (cutT 125 a : Nat)] (.tuple #[.int .u64 ((Fl.truncW 2147483648 2139095040 23 (-149) 64 true true (cutT 125 a % 4294967296)).1 : Nat),.int .i64 ((0 : Nat) : Int)]) := fun W => by
  have := Fl.Trunc_32_64 true true (cutT 125 a) ha' W
  rw [hs] at this
  exact this
 refine pg_of 64516 [125] 126 prow_64516 a b ((Fl.truncW 2147483648 2139095040 23 (-149) 64 true true (cutT 125 a % 4294967296)).1) (0) ?_ ?_
 ·show AnsG 22 #[.int .i64 64516,.int .u64 ((cutT 125 a : Nat) : Int),.int .u64 ((0 : Nat) : Int)] _
  exact Ans.g (res_s64 64516 0 (by decide) (by decide) (by decide) (cutT 125 a) 0 _ _ (truncated_says 64 0 true (cutT 125 a) (by decide) (by decide) _ _ HP))
 ·exact .inl rfl
theorem prow_64517 : rowB 64517 [125] 126 = true := by kernel_rfl
theorem pg_64517 (a b : Nat) (ha : a < 18446744073709551616) (hb : b < 18446744073709551616) : Pg 64517 a b := by
 have ha' := cutT_lt 125 a ha
 have hs := held_0 2147483648 2139095040 23 (-149) 64 false (cutT 125 a % 4294967296)
 have HP : Ans 81 #[.int .i64 32,.int .i64 64,.bool false,.bool true,.int .u64 (cutT 125 a : Nat)] (.tuple #[.int .u64 ((Fl.truncW 2147483648 2139095040 23 (-149) 64 false true (cutT 125 a % 4294967296)).1 : Nat),.int .i64 ((0 : Nat) : Int)]) := fun W => by
  have := Fl.Trunc_32_64 false true (cutT 125 a) ha' W
  rw [hs] at this
  exact this
 refine pg_of 64517 [125] 126 prow_64517 a b ((Fl.truncW 2147483648 2139095040 23 (-149) 64 false true (cutT 125 a % 4294967296)).1) (0) ?_ ?_
 ·show AnsG 22 #[.int .i64 64517,.int .u64 ((cutT 125 a : Nat) : Int),.int .u64 ((0 : Nat) : Int)] _
  exact Ans.g (res_s64 64517 1 (by decide) (by decide) (by decide) (cutT 125 a) 0 _ _ (truncated_says 64 1 true (cutT 125 a) (by decide) (by decide) _ _ HP))
 ·exact .inl rfl
theorem prow_64518 : rowB 64518 [124] 126 = true := by kernel_rfl
theorem pg_64518 (a b : Nat) (ha : a < 18446744073709551616) (hb : b < 18446744073709551616) : Pg 64518 a b := by
 have ha' := cutT_lt 124 a ha
 have hs := held_0 9223372036854775808 9218868437227405312 52 (-1074) 64 true (cutT 124 a % 18446744073709551616)
 have HP : Ans 81 #[.int .i64 64,.int .i64 64,.bool true,.bool true,.int .u64 (cutT 124 a : Nat)] (.tuple #[.int .u64 ((Fl.truncW 9223372036854775808 9218868437227405312 52 (-1074) 64 true true (cutT 124 a % 18446744073709551616)).1 : Nat),.int .i64 ((0 : Nat) : Int)]) := fun W => by
  have := Fl.Trunc_64_64 true true (cutT 124 a) ha' W
  rw [hs] at this
  exact this
 refine pg_of 64518 [124] 126 prow_64518 a b ((Fl.truncW 9223372036854775808 9218868437227405312 52 (-1074) 64 true true (cutT 124 a % 18446744073709551616)).1) (0) ?_ ?_
 ·show AnsG 22 #[.int .i64 64518,.int .u64 ((cutT 124 a : Nat) : Int),.int .u64 ((0 : Nat) : Int)] _
  exact Ans.g (res_s64 64518 2 (by decide) (by decide) (by decide) (cutT 124 a) 0 _ _ (truncated_says 64 2 true (cutT 124 a) (by decide) (by decide) _ _ HP))
 ·exact .inl rfl
theorem prow_64519 : rowB 64519 [124] 126 = true := by kernel_rfl
theorem pg_64519 (a b : Nat) (ha : a < 18446744073709551616) (hb : b < 18446744073709551616) : Pg 64519 a b := by
 have ha' := cutT_lt 124 a ha
 have hs := held_0 9223372036854775808 9218868437227405312 52 (-1074) 64 false (cutT 124 a % 18446744073709551616)
 have HP : Ans 81 #[.int .i64 64,.int .i64 64,.bool false,.bool true,.int .u64 (cutT 124 a : Nat)] (.tuple #[.int .u64 ((Fl.truncW 9223372036854775808 9218868437227405312 52 (-1074) 64 false true (cutT 124 a % 18446744073709551616)).1 : Nat),.int .i64 ((0 : Nat) : Int)]) := fun W => by
  have := Fl.Trunc_64_64 false true (cutT 124 a) ha' W
  rw [hs] at this
  exact this
 refine pg_of 64519 [124] 126 prow_64519 a b ((Fl.truncW 9223372036854775808 9218868437227405312 52 (-1074) 64 false true (cutT 124 a % 18446744073709551616)).1) (0) ?_ ?_
 ·show AnsG 22 #[.int .i64 64519,.int .u64 ((cutT 124 a : Nat) : Int),.int .u64 ((0 : Nat) : Int)] _
  exact Ans.g (res_s64 64519 3 (by decide) (by decide) (by decide) (cutT 124 a) 0 _ _ (truncated_says 64 3 true (cutT 124 a) (by decide) (by decide) _ _ HP))
 ·exact .inl rfl
end Go.Proofs.YtbbmbhcbncenaaaGreatDoor.Sc
namespace Go.Proofs.YtbbmbhcbncenaaaGreatDoor.Sc
open Go.RowKit
theorem pg_all (op : Int) (h : (69 ≤ op ∧ op ≤ 196) ∨ (64512 ≤ op ∧ op ≤ 64519)) (a b : Nat) (ha : a < 18446744073709551616) (hb : b < 18446744073709551616) : Pg op a b := by
 by_cases h70 : 69 ≤ op ∧ op < 70
 ·exact pg_ez32 op h70.1 h70.2 a b ha hb
 by_cases h80 : 70 ≤ op ∧ op < 80
 ·exact pg_iR32 op h80.1 h80.2 a b ha hb
 by_cases h81 : 80 ≤ op ∧ op < 81
 ·exact pg_ez64 op h81.1 h81.2 a b ha hb
 by_cases h91 : 81 ≤ op ∧ op < 91
 ·exact pg_iR64 op h91.1 h91.2 a b ha hb
 by_cases h97 : 91 ≤ op ∧ op < 97
 ·exact pg_fR32 op h97.1 h97.2 a b ha hb
 by_cases h103 : 97 ≤ op ∧ op < 103
 ·exact pg_fR64 op h103.1 h103.2 a b ha hb
 by_cases h106 : 103 ≤ op ∧ op < 106
 ·exact pg_iU32 op h106.1 h106.2 a b ha hb
 by_cases h121 : 106 ≤ op ∧ op < 121
 ·exact pg_iB32 op h121.1 h121.2 a b ha hb
 by_cases h124 : 121 ≤ op ∧ op < 124
 ·exact pg_iU64 op h124.1 h124.2 a b ha hb
 by_cases h139 : 124 ≤ op ∧ op < 139
 ·exact pg_iB64 op h139.1 h139.2 a b ha hb
 by_cases h146 : 139 ≤ op ∧ op < 146
 ·exact pg_fU32 op h146.1 h146.2 a b ha hb
 by_cases h153 : 146 ≤ op ∧ op < 153
 ·exact pg_fB32 op h153.1 h153.2 a b ha hb
 by_cases h160 : 153 ≤ op ∧ op < 160
 ·exact pg_fU64 op h160.1 h160.2 a b ha hb
 by_cases h167 : 160 ≤ op ∧ op < 167
 ·exact pg_fB64 op h167.1 h167.2 a b ha hb
 by_cases k1 : 192 ≤ op ∧ op < 194
 ·exact pg_iX32 op k1.1 k1.2 a b ha hb
 by_cases k2 : 194 ≤ op ∧ op < 197
 ·exact pg_iX64 op k2.1 k2.2 a b ha hb
 by_cases e167 : op = 167
 ·subst e167; exact pg_167 a b ha hb
 by_cases e168 : op = 168
 ·subst e168; exact pg_168 a b ha hb
 by_cases e169 : op = 169
 ·subst e169; exact pg_169 a b ha hb
 by_cases e170 : op = 170
 ·subst e170; exact pg_170 a b ha hb
 by_cases e171 : op = 171
 ·subst e171; exact pg_171 a b ha hb
 by_cases e172 : op = 172
 ·subst e172; exact pg_172 a b ha hb
 by_cases e173 : op = 173
 ·subst e173; exact pg_173 a b ha hb
 by_cases e174 : op = 174
 ·subst e174; exact pg_174 a b ha hb
 by_cases e175 : op = 175
 ·subst e175; exact pg_175 a b ha hb
 by_cases e176 : op = 176
 ·subst e176; exact pg_176 a b ha hb
 by_cases e177 : op = 177
 ·subst e177; exact pg_177 a b ha hb
 by_cases e178 : op = 178
 ·subst e178; exact pg_178 a b ha hb
 by_cases e179 : op = 179
 ·subst e179; exact pg_179 a b ha hb
 by_cases e180 : op = 180
 ·subst e180; exact pg_180 a b ha hb
 by_cases e181 : op = 181
 ·subst e181; exact pg_181 a b ha hb
 by_cases e182 : op = 182
 ·subst e182; exact pg_182 a b ha hb
 by_cases e183 : op = 183
 ·subst e183; exact pg_183 a b ha hb
 by_cases e184 : op = 184
 ·subst e184; exact pg_184 a b ha hb
 by_cases e185 : op = 185
 ·subst e185; exact pg_185 a b ha hb
 by_cases e186 : op = 186
 ·subst e186; exact pg_186 a b ha hb
 by_cases e187 : op = 187
 ·subst e187; exact pg_187 a b ha hb
 by_cases e188 : op = 188
 ·subst e188; exact pg_188 a b ha hb
 by_cases e189 : op = 189
 ·subst e189; exact pg_189 a b ha hb
 by_cases e190 : op = 190
 ·subst e190; exact pg_190 a b ha hb
 by_cases e191 : op = 191
 ·subst e191; exact pg_191 a b ha hb
 by_cases e64512 : op = 64512
 ·subst e64512; exact pg_64512 a b ha hb
 by_cases e64513 : op = 64513
 ·subst e64513; exact pg_64513 a b ha hb
 by_cases e64514 : op = 64514
 ·subst e64514; exact pg_64514 a b ha hb
 by_cases e64515 : op = 64515
 ·subst e64515; exact pg_64515 a b ha hb
 by_cases e64516 : op = 64516
 ·subst e64516; exact pg_64516 a b ha hb
 by_cases e64517 : op = 64517
 ·subst e64517; exact pg_64517 a b ha hb
 by_cases e64518 : op = 64518
 ·subst e64518; exact pg_64518 a b ha hb
 by_cases e64519 : op = 64519
 ·subst e64519; exact pg_64519 a b ha hb
 omega
end Go.Proofs.YtbbmbhcbncenaaaGreatDoor.Sc
namespace Go.Proofs.YtbbmbhcbncenaaaGreatDoor.Sc
open Go.RowKit
theorem Num_no (op : Int) (h : op < 64768) (hN : ¬((69 ≤ op ∧ op ≤ 196) ∨ (64512 ≤ op ∧ op ≤ 64519))) (w : World) : Calls Tryz.prog 6 #[.int .i64 op] w fun e w' => e = .returned (.bool false) ∧ w = w' := by
 have d0 : decide (op < 64768) = true := by simp; omega
 rcases (show op < 69 ∨ (196 < op ∧ op < 64512) ∨ 64519 < op by omega) with k | ⟨k,k2⟩ | k
 ·have d1 : decide (69 ≤ op) = false := by simp; omega
  have d2 : decide (64512 ≤ op) = false := by simp; omega
  clear h hN k
  go_enter Tryz.func6,Tryz.ntmps6
  go_wp2
  go_ret
  exact ⟨rfl,rfl⟩
 ·have d1 : decide (69 ≤ op) = true := by simp; omega
  have d2 : decide (op ≤ 196) = false := by simp; omega
  have d3 : decide (64512 ≤ op) = false := by simp; omega
  clear h hN k k2
  go_enter Tryz.func6,Tryz.ntmps6
  go_wp2
  go_ret
  exact ⟨rfl,rfl⟩
 ·have d1 : decide (69 ≤ op) = true := by simp; omega
  have d2 : decide (op ≤ 196) = false := by simp; omega
  have d3 : decide (64512 ≤ op) = true := by simp; omega
  have d4 : decide (op ≤ 64519) = false := by simp; omega
  clear h hN k
  go_enter Tryz.func6,Tryz.ntmps6
  go_wp2
  go_ret
  exact ⟨rfl,rfl⟩
set_option maxHeartbeats 4000000 in
theorem law_out (op : Int) (a b : Nat) (w : World) (hg : GlobF w) (h : (ofL op).1 < 0 ∨ 64768 ≤ op ∨ ¬((69 ≤ op ∧ op ≤ 196) ∨ (64512 ≤ op ∧ op ≤ 64519))) : Calls Tryz.prog 3 #[.int .i64 op,.int .u64 a,.int .u64 b] w fun e w' => e = .returned (.bool true) ∧ Below w.heap.size w w' := by
 have HAW := fun W h => hid (awake_says W h)
 obtain ⟨ro,nm,im,tk,lv,fx,hof⟩ : ∃ ro nm im tk lv fx,ofL op = (ro,nm,im,tk,lv,fx) := ⟨_,_,_,_,_,_,rfl⟩
 rw [hof] at h
 have HO := fun W => hid (Of_says op W)
 rw [hof] at HO
 unfold rwV at HO
 simp only [] at h
 generalize str nm = sn at *
 generalize str tk = stk at *
 generalize str lv = slv at *
 have HGL := hid hg
 by_cases h0 : ro < 0
 ·have d0 : decide (ro < 0) = true := by simpa using h0
  clear h h0 hof hg
  go_enter Tryz.func3,Tryz.ntmps3
  go_upto_region 5 with (first
   | (go_at_call 4; refine (HAW _ HGL.out).out.mono ?_; rintro e w1 ⟨rfl,hb1⟩; have HB1 := hid hb1; clear hb1)
   | (go_at_call 5; refine (HO _).out.mono ?_; rintro e w2 ⟨rfl,hb2⟩; have HB2 := hid (HB1.out.trans (hb2.mono HB1.out.size)); clear hb2))
  have HB3 := hid (HB2.out.alloc HB2.out.size (.cells #[.int .i64 ro,.string sn,.int .i64 im,.string stk,.string slv,.bool fx] 25))
  have HC3 := hid (CA.new w2 #[.int .i64 ro,.string sn,.int .i64 im,.string stk,.string slv,.bool fx] 25)
  generalize w2.alloc (.cells #[.int .i64 ro,.string sn,.int .i64 im,.string stk,.string slv,.bool fx] 25) = W3 at *
  generalize w2.heap.size = g8 at *
  have x0 := HC3.out.at (k := 0) (v := .int .i64 ro) rfl
  clear HB2 HB1
  go_wp2_with (go_at_call 6; refine (HN _).out.mono ?_; rintro e w4 ⟨rfl,rfl⟩)
  go_ret
  exact ⟨rfl,HB3.out⟩
 ·have d0 : decide (ro < 0) = false := by simpa using h0
  by_cases h1 : 64768 ≤ op
  ·have d1 : decide (64768 ≤ op) = true := by simpa using h1
   clear h h0 hof hg h1
   go_enter Tryz.func3,Tryz.ntmps3
   go_upto_region 5 with (first
    | (go_at_call 4; refine (HAW _ HGL.out).out.mono ?_; rintro e w1 ⟨rfl,hb1⟩; have HB1 := hid hb1; clear hb1)
    | (go_at_call 5; refine (HO _).out.mono ?_; rintro e w2 ⟨rfl,hb2⟩; have HB2 := hid (HB1.out.trans (hb2.mono HB1.out.size)); clear hb2))
   have HB3 := hid (HB2.out.alloc HB2.out.size (.cells #[.int .i64 ro,.string sn,.int .i64 im,.string stk,.string slv,.bool fx] 25))
   have HC3 := hid (CA.new w2 #[.int .i64 ro,.string sn,.int .i64 im,.string stk,.string slv,.bool fx] 25)
   generalize w2.alloc (.cells #[.int .i64 ro,.string sn,.int .i64 im,.string stk,.string slv,.bool fx] 25) = W3 at *
   generalize w2.heap.size = g8 at *
   have x0 := HC3.out.at (k := 0) (v := .int .i64 ro) rfl
   clear HB2 HB1
   go_wp2_with (go_at_call 6; refine (HN _).out.mono ?_; rintro e w4 ⟨rfl,rfl⟩)
   go_ret
   exact ⟨rfl,HB3.out⟩
  ·have d1 : decide (64768 ≤ op) = false := by simpa using h1
   have HN := fun W => hid (Num_no op (by omega) (by omega) W)
   clear h h0 hof hg h1
   go_enter Tryz.func3,Tryz.ntmps3
   go_upto_region 5 with (first
    | (go_at_call 4; refine (HAW _ HGL.out).out.mono ?_; rintro e w1 ⟨rfl,hb1⟩; have HB1 := hid hb1; clear hb1)
    | (go_at_call 5; refine (HO _).out.mono ?_; rintro e w2 ⟨rfl,hb2⟩; have HB2 := hid (HB1.out.trans (hb2.mono HB1.out.size)); clear hb2))
   have HB3 := hid (HB2.out.alloc HB2.out.size (.cells #[.int .i64 ro,.string sn,.int .i64 im,.string stk,.string slv,.bool fx] 25))
   have HC3 := hid (CA.new w2 #[.int .i64 ro,.string sn,.int .i64 im,.string stk,.string slv,.bool fx] 25)
   generalize w2.alloc (.cells #[.int .i64 ro,.string sn,.int .i64 im,.string stk,.string slv,.bool fx] 25) = W3 at *
   generalize w2.heap.size = g8 at *
   have x0 := HC3.out.at (k := 0) (v := .int .i64 ro) rfl
   clear HB2 HB1
   go_wp2_with (go_at_call 6; refine (HN _).out.mono ?_; rintro e w4 ⟨rfl,rfl⟩)
   go_ret
   exact ⟨rfl,HB3.out⟩
end Go.Proofs.YtbbmbhcbncenaaaGreatDoor.Sc
