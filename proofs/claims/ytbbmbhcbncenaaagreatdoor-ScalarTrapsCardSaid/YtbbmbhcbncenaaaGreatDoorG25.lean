/-
  SPgF, FCSmall: merged, what the law does not reach left out (each text says what it holds where it lies in wip). No condition.
-/
import Derived.Test.YtbbmbhcbncenaaaGreatDoorG08
import Derived.Test.YtbbmbhcbncenaaaGreatDoorG12
import Derived.Test.YtbbmbhcbncenaaaGreatDoorG19
import Derived.Test.YtbbmbhcbncenaaaGreatDoorG22
import Derived.Test.YtbbmbhcbncenaaaGreatDoorG23
import Derived.Test.YtbbmbhcbncenaaaGreatDoorG24
import Derived.Deep.DeepCutAuto
import Derived.Test.YtbbmbhcbncenaaaGreatDoorG01
set_option linter.unusedSimpArgs false
set_option linter.unusedVariables false
set_option maxRecDepth 100000
namespace Go.Proofs.YtbbmbhcbncenaaaGreatDoor.Sc
open Go.RowKit
theorem pB32 (q : Int) (h1 : 1 ≤ q) (h2 : q ≤ 7) (x y : Nat) (hx : x < 18446744073709551616) (hy : y < 18446744073709551616) : Ans 70 #[.int .i64 32,.int .i64 q,.int .u64 x,.int .u64 y] (.tuple #[.int .u64 ((Fl.binW Ieee.single 38 2147483648 2139095040 2143289344 23 (-149) q.toNat (x % 4294967296) (y % 4294967296)) : Nat),.int .i64 0]) := fun W => by
 rcases (show q = 1 ∨ q = 2 ∨ q = 3 ∨ q = 4 ∨ q = 5 ∨ q = 6 ∨ q = 7 by omega) with rfl | rfl | rfl | rfl | rfl | rfl | rfl
 ·exact Fl.Bin_32_1 x y hx hy W
 ·exact Fl.Bin_32_2 x y hx hy W
 ·exact Fl.Bin_32_3 x y hx hy W
 ·exact Fl.Bin_32_4 x y hx hy W
 ·exact Fl.Bin_32_5 x y hx hy W
 ·exact Fl.Bin_32_6 x y hx hy W
 ·exact Fl.Bin_32_7 x y hx hy W
theorem pU32 (q : Int) (h1 : 1 ≤ q) (h2 : q ≤ 7) (x : Nat) (hx : x < 18446744073709551616) : Ans 69 #[.int .i64 32,.int .i64 q,.int .u64 x] (.tuple #[.int .u64 ((Fl.unW Ieee.single 2147483648 2139095040 2143289344 q.toNat (x % 4294967296)) : Nat),.int .i64 0]) := fun W => by
 rcases (show q = 1 ∨ q = 2 ∨ q = 3 ∨ q = 4 ∨ q = 5 ∨ q = 6 ∨ q = 7 by omega) with rfl | rfl | rfl | rfl | rfl | rfl | rfl
 ·exact Fl.Un_32_1 x hx W
 ·exact Fl.Un_32_2 x hx W
 ·exact Fl.Un_32_3 x hx W
 ·exact Fl.Un_32_4 x hx W
 ·exact Fl.Un_32_5 x hx W
 ·exact Fl.Un_32_6 x hx W
 ·exact Fl.Un_32_7 x hx W
theorem tbl32 (op q : Int) (h0 : 139 ≤ op) (h1 : op < 146) (hq : q = glob6.getD (op - 139).toNat 0) : 1 ≤ q ∧ q ≤ 7 := by
 rcases (show op = 139 ∨ op = 140 ∨ op = 141 ∨ op = 142 ∨ op = 143 ∨ op = 144 ∨ op = 145 by omega) with rfl | rfl | rfl | rfl | rfl | rfl | rfl
 all_goals (subst hq; decide)
set_option maxHeartbeats 1000000 in
theorem com_fu32 (op q : Int) (hq : q = glob6.getD (op - 139).toNat 0) (h0 : 139 ≤ op) (h1 : op < 146) (a b : Nat) (r r2 : Int) (HC : Ans 69 #[.int .i64 32,.int .i64 q,.int .u64 a] (.tuple #[.int .u64 r,.int .i64 r2])) : AnsG 36 #[.int .i64 op,.int .u64 a,.int .u64 b] (.tuple #[.int .u64 r,.int .i64 r2]) := fun w hg => by
 have HCC := fun W => hid (HC W)
 clear HC
 rcases (show op = 139 ∨ op = 140 ∨ op = 141 ∨ op = 142 ∨ op = 143 ∨ op = 144 ∨ op = 145 by omega) with rfl | rfl | rfl | rfl | rfl | rfl | rfl
 ·obtain rfl : q = 1 := hq.trans (by decide)
  have hc : w.cell? ⟨1,0,none⟩ = some (.int .i64 1) := hg.c6 0 (by decide)
  clear hq h0 h1 hg
  go_enter Tryz.func36,Tryz.ntmps36
  go_wp2_with (go_at_call 69; (with_reducible refine (HCC _).out.mono ?_); rintro e w1 ⟨rfl,hb1⟩; have HB1 := hid hb1; clear hb1)
  go_ret2
  exact ⟨rfl,HB1.out⟩
 ·obtain rfl : q = 2 := hq.trans (by decide)
  have hc : w.cell? ⟨1,1,none⟩ = some (.int .i64 2) := hg.c6 1 (by decide)
  clear hq h0 h1 hg
  go_enter Tryz.func36,Tryz.ntmps36
  go_wp2_with (go_at_call 69; (with_reducible refine (HCC _).out.mono ?_); rintro e w1 ⟨rfl,hb1⟩; have HB1 := hid hb1; clear hb1)
  go_ret2
  exact ⟨rfl,HB1.out⟩
 ·obtain rfl : q = 4 := hq.trans (by decide)
  have hc : w.cell? ⟨1,2,none⟩ = some (.int .i64 4) := hg.c6 2 (by decide)
  clear hq h0 h1 hg
  go_enter Tryz.func36,Tryz.ntmps36
  go_wp2_with (go_at_call 69; (with_reducible refine (HCC _).out.mono ?_); rintro e w1 ⟨rfl,hb1⟩; have HB1 := hid hb1; clear hb1)
  go_ret2
  exact ⟨rfl,HB1.out⟩
 ·obtain rfl : q = 5 := hq.trans (by decide)
  have hc : w.cell? ⟨1,3,none⟩ = some (.int .i64 5) := hg.c6 3 (by decide)
  clear hq h0 h1 hg
  go_enter Tryz.func36,Tryz.ntmps36
  go_wp2_with (go_at_call 69; (with_reducible refine (HCC _).out.mono ?_); rintro e w1 ⟨rfl,hb1⟩; have HB1 := hid hb1; clear hb1)
  go_ret2
  exact ⟨rfl,HB1.out⟩
 ·obtain rfl : q = 6 := hq.trans (by decide)
  have hc : w.cell? ⟨1,4,none⟩ = some (.int .i64 6) := hg.c6 4 (by decide)
  clear hq h0 h1 hg
  go_enter Tryz.func36,Tryz.ntmps36
  go_wp2_with (go_at_call 69; (with_reducible refine (HCC _).out.mono ?_); rintro e w1 ⟨rfl,hb1⟩; have HB1 := hid hb1; clear hb1)
  go_ret2
  exact ⟨rfl,HB1.out⟩
 ·obtain rfl : q = 7 := hq.trans (by decide)
  have hc : w.cell? ⟨1,5,none⟩ = some (.int .i64 7) := hg.c6 5 (by decide)
  clear hq h0 h1 hg
  go_enter Tryz.func36,Tryz.ntmps36
  go_wp2_with (go_at_call 69; (with_reducible refine (HCC _).out.mono ?_); rintro e w1 ⟨rfl,hb1⟩; have HB1 := hid hb1; clear hb1)
  go_ret2
  exact ⟨rfl,HB1.out⟩
 ·obtain rfl : q = 3 := hq.trans (by decide)
  have hc : w.cell? ⟨1,6,none⟩ = some (.int .i64 3) := hg.c6 6 (by decide)
  clear hq h0 h1 hg
  go_enter Tryz.func36,Tryz.ntmps36
  go_wp2_with (go_at_call 69; (with_reducible refine (HCC _).out.mono ?_); rintro e w1 ⟨rfl,hb1⟩; have HB1 := hid hb1; clear hb1)
  go_ret2
  exact ⟨rfl,HB1.out⟩
theorem pB64 (q : Int) (h1 : 1 ≤ q) (h2 : q ≤ 7) (x y : Nat) (hx : x < 18446744073709551616) (hy : y < 18446744073709551616) : Ans 70 #[.int .i64 64,.int .i64 q,.int .u64 x,.int .u64 y] (.tuple #[.int .u64 ((Fl.binW Ieee.double 9 9223372036854775808 9218868437227405312 9221120237041090560 52 (-1074) q.toNat (x % 18446744073709551616) (y % 18446744073709551616)) : Nat),.int .i64 0]) := fun W => by
 rcases (show q = 1 ∨ q = 2 ∨ q = 3 ∨ q = 4 ∨ q = 5 ∨ q = 6 ∨ q = 7 by omega) with rfl | rfl | rfl | rfl | rfl | rfl | rfl
 ·exact Fl.Bin_64_1 x y hx hy W
 ·exact Fl.Bin_64_2 x y hx hy W
 ·exact Fl.Bin_64_3 x y hx hy W
 ·exact Fl.Bin_64_4 x y hx hy W
 ·exact Fl.Bin_64_5 x y hx hy W
 ·exact Fl.Bin_64_6 x y hx hy W
 ·exact Fl.Bin_64_7 x y hx hy W
theorem pU64 (q : Int) (h1 : 1 ≤ q) (h2 : q ≤ 7) (x : Nat) (hx : x < 18446744073709551616) : Ans 69 #[.int .i64 64,.int .i64 q,.int .u64 x] (.tuple #[.int .u64 ((Fl.unW Ieee.double 9223372036854775808 9218868437227405312 9221120237041090560 q.toNat (x % 18446744073709551616)) : Nat),.int .i64 0]) := fun W => by
 rcases (show q = 1 ∨ q = 2 ∨ q = 3 ∨ q = 4 ∨ q = 5 ∨ q = 6 ∨ q = 7 by omega) with rfl | rfl | rfl | rfl | rfl | rfl | rfl
 ·exact Fl.Un_64_1 x hx W
 ·exact Fl.Un_64_2 x hx W
 ·exact Fl.Un_64_3 x hx W
 ·exact Fl.Un_64_4 x hx W
 ·exact Fl.Un_64_5 x hx W
 ·exact Fl.Un_64_6 x hx W
 ·exact Fl.Un_64_7 x hx W
theorem tbl64 (op q : Int) (h0 : 153 ≤ op) (h1 : op < 160) (hq : q = glob6.getD (op - 153).toNat 0) : 1 ≤ q ∧ q ≤ 7 := by
 rcases (show op = 153 ∨ op = 154 ∨ op = 155 ∨ op = 156 ∨ op = 157 ∨ op = 158 ∨ op = 159 by omega) with rfl | rfl | rfl | rfl | rfl | rfl | rfl
 all_goals (subst hq; decide)
set_option maxHeartbeats 1000000 in
theorem com_fu64 (op q : Int) (hq : q = glob6.getD (op - 153).toNat 0) (h0 : 153 ≤ op) (h1 : op < 160) (a b : Nat) (r r2 : Int) (HC : Ans 69 #[.int .i64 64,.int .i64 q,.int .u64 a] (.tuple #[.int .u64 r,.int .i64 r2])) : AnsG 36 #[.int .i64 op,.int .u64 a,.int .u64 b] (.tuple #[.int .u64 r,.int .i64 r2]) := fun w hg => by
 have HCC := fun W => hid (HC W)
 clear HC
 rcases (show op = 153 ∨ op = 154 ∨ op = 155 ∨ op = 156 ∨ op = 157 ∨ op = 158 ∨ op = 159 by omega) with rfl | rfl | rfl | rfl | rfl | rfl | rfl
 ·obtain rfl : q = 1 := hq.trans (by decide)
  have hc : w.cell? ⟨1,0,none⟩ = some (.int .i64 1) := hg.c6 0 (by decide)
  clear hq h0 h1 hg
  go_enter Tryz.func36,Tryz.ntmps36
  go_wp2_with (go_at_call 69; (with_reducible refine (HCC _).out.mono ?_); rintro e w1 ⟨rfl,hb1⟩; have HB1 := hid hb1; clear hb1)
  go_ret2
  exact ⟨rfl,HB1.out⟩
 ·obtain rfl : q = 2 := hq.trans (by decide)
  have hc : w.cell? ⟨1,1,none⟩ = some (.int .i64 2) := hg.c6 1 (by decide)
  clear hq h0 h1 hg
  go_enter Tryz.func36,Tryz.ntmps36
  go_wp2_with (go_at_call 69; (with_reducible refine (HCC _).out.mono ?_); rintro e w1 ⟨rfl,hb1⟩; have HB1 := hid hb1; clear hb1)
  go_ret2
  exact ⟨rfl,HB1.out⟩
 ·obtain rfl : q = 4 := hq.trans (by decide)
  have hc : w.cell? ⟨1,2,none⟩ = some (.int .i64 4) := hg.c6 2 (by decide)
  clear hq h0 h1 hg
  go_enter Tryz.func36,Tryz.ntmps36
  go_wp2_with (go_at_call 69; (with_reducible refine (HCC _).out.mono ?_); rintro e w1 ⟨rfl,hb1⟩; have HB1 := hid hb1; clear hb1)
  go_ret2
  exact ⟨rfl,HB1.out⟩
 ·obtain rfl : q = 5 := hq.trans (by decide)
  have hc : w.cell? ⟨1,3,none⟩ = some (.int .i64 5) := hg.c6 3 (by decide)
  clear hq h0 h1 hg
  go_enter Tryz.func36,Tryz.ntmps36
  go_wp2_with (go_at_call 69; (with_reducible refine (HCC _).out.mono ?_); rintro e w1 ⟨rfl,hb1⟩; have HB1 := hid hb1; clear hb1)
  go_ret2
  exact ⟨rfl,HB1.out⟩
 ·obtain rfl : q = 6 := hq.trans (by decide)
  have hc : w.cell? ⟨1,4,none⟩ = some (.int .i64 6) := hg.c6 4 (by decide)
  clear hq h0 h1 hg
  go_enter Tryz.func36,Tryz.ntmps36
  go_wp2_with (go_at_call 69; (with_reducible refine (HCC _).out.mono ?_); rintro e w1 ⟨rfl,hb1⟩; have HB1 := hid hb1; clear hb1)
  go_ret2
  exact ⟨rfl,HB1.out⟩
 ·obtain rfl : q = 7 := hq.trans (by decide)
  have hc : w.cell? ⟨1,5,none⟩ = some (.int .i64 7) := hg.c6 5 (by decide)
  clear hq h0 h1 hg
  go_enter Tryz.func36,Tryz.ntmps36
  go_wp2_with (go_at_call 69; (with_reducible refine (HCC _).out.mono ?_); rintro e w1 ⟨rfl,hb1⟩; have HB1 := hid hb1; clear hb1)
  go_ret2
  exact ⟨rfl,HB1.out⟩
 ·obtain rfl : q = 3 := hq.trans (by decide)
  have hc : w.cell? ⟨1,6,none⟩ = some (.int .i64 3) := hg.c6 6 (by decide)
  clear hq h0 h1 hg
  go_enter Tryz.func36,Tryz.ntmps36
  go_wp2_with (go_at_call 69; (with_reducible refine (HCC _).out.mono ?_); rintro e w1 ⟨rfl,hb1⟩; have HB1 := hid hb1; clear hb1)
  go_ret2
  exact ⟨rfl,HB1.out⟩
theorem pR32 (q : Int) (h1 : 1 ≤ q) (h2 : q ≤ 6) (x y : Nat) (hx : x < 18446744073709551616) (hy : y < 18446744073709551616) : Ans 67 #[.int .i64 32,.int .i64 q,.int .u64 x,.int .u64 y] (.tuple #[.bool (Fl.relW 2147483648 2139095040 q.toNat (x % 4294967296) (y % 4294967296)),.int .i64 0]) := fun W => by
 obtain ⟨k,rfl⟩ : ∃ k : Nat,q = k := ⟨q.toNat,by omega⟩
 rw [Int.toNat_natCast]
 exact Fl.Rel_32 k (by omega) x y hx hy W
theorem pR64 (q : Int) (h1 : 1 ≤ q) (h2 : q ≤ 6) (x y : Nat) (hx : x < 18446744073709551616) (hy : y < 18446744073709551616) : Ans 67 #[.int .i64 64,.int .i64 q,.int .u64 x,.int .u64 y] (.tuple #[.bool (Fl.relW 9223372036854775808 9218868437227405312 q.toNat (x % 18446744073709551616) (y % 18446744073709551616)),.int .i64 0]) := fun W => by
 obtain ⟨k,rfl⟩ : ∃ k : Nat,q = k := ⟨q.toNat,by omega⟩
 rw [Int.toNat_natCast]
 exact Fl.Rel_64 k (by omega) x y hx hy W
theorem rows_fR32 : ((List.range 6).all fun k => rowB (91 + (k : Int)) [125,125] 127) = true := by kernel_rfl
theorem pg_fR32 (op : Int) (h1 : 91 ≤ op) (h2 : op < 97) (a b : Nat) (ha : a < 18446744073709551616) (hb : b < 18446744073709551616) : Pg op a b := by
 have hrow : rowB op [125,125] 127 = true := by
  have h := List.all_eq_true.1 rows_fR32 (op - 91).toNat (List.mem_range.2 (by omega))
  rw [show ((91 : Int) + ((op - 91).toNat : Int)) = op by omega] at h
  exact h
 have ha' := cutT_lt 125 a ha
 have hb' := cutT_lt 125 b hb
 obtain ⟨q,hq⟩ : ∃ q,q = op - 90 := ⟨_,rfl⟩
 refine pg_of op [125,125] 127 hrow a b (if Fl.relW 2147483648 2139095040 q.toNat ((cutT 125 a) % 4294967296) ((cutT 125 b) % 4294967296) then 1 else 0) (0) ?_ ?_
 ·show AnsG 22 #[.int .i64 op,.int .u64 ((cutT 125 a : Nat) : Int),.int .u64 (((cutT 125 b : Nat) : Nat) : Int)] _
  exact Ans.g (res_cmp op (by omega) (by omega) _ _ _ _ (cmp_f32 op q hq (by omega) (by omega) _ _ _ _ (pR32 q (by omega) (by omega) _ _ ha' hb')))
 ·exact .inl rfl
theorem rows_fB32 : ((List.range 7).all fun k => rowB (146 + (k : Int)) [125,125] 125) = true := by kernel_rfl
theorem pg_fB32 (op : Int) (h1 : 146 ≤ op) (h2 : op < 153) (a b : Nat) (ha : a < 18446744073709551616) (hb : b < 18446744073709551616) : Pg op a b := by
 have hrow : rowB op [125,125] 125 = true := by
  have h := List.all_eq_true.1 rows_fB32 (op - 146).toNat (List.mem_range.2 (by omega))
  rw [show ((146 : Int) + ((op - 146).toNat : Int)) = op by omega] at h
  exact h
 have ha' := cutT_lt 125 a ha
 have hb' := cutT_lt 125 b hb
 obtain ⟨q,hq⟩ : ∃ q,q = op - 145 := ⟨_,rfl⟩
 refine pg_of op [125,125] 125 hrow a b ((Fl.binW Ieee.single 38 2147483648 2139095040 2143289344 23 (-149) q.toNat ((cutT 125 a) % 4294967296) ((cutT 125 b) % 4294967296))) (0) ?_ ?_
 ·show AnsG 22 #[.int .i64 op,.int .u64 ((cutT 125 a : Nat) : Int),.int .u64 (((cutT 125 b : Nat) : Nat) : Int)] _
  exact Ans.g (res_com op (by omega) (by omega) _ _ _ _ (com_g32 op q hq (by omega) (by omega) _ _ _ _ (pB32 q (by omega) (by omega) _ _ ha' hb')))
 ·exact .inl rfl
theorem rows_fU32 : ((List.range 7).all fun k => rowB (139 + (k : Int)) [125] 125) = true := by kernel_rfl
theorem pg_fU32 (op : Int) (h1 : 139 ≤ op) (h2 : op < 146) (a b : Nat) (ha : a < 18446744073709551616) (hb : b < 18446744073709551616) : Pg op a b := by
 have hrow : rowB op [125] 125 = true := by
  have h := List.all_eq_true.1 rows_fU32 (op - 139).toNat (List.mem_range.2 (by omega))
  rw [show ((139 : Int) + ((op - 139).toNat : Int)) = op by omega] at h
  exact h
 have ha' := cutT_lt 125 a ha
 have hb' : 0 < 18446744073709551616 := by decide
 obtain ⟨q,hq⟩ : ∃ q,q = glob6.getD (op - 139).toNat 0 := ⟨_,rfl⟩
 refine pg_of op [125] 125 hrow a b ((Fl.unW Ieee.single 2147483648 2139095040 2143289344 q.toNat ((cutT 125 a) % 4294967296))) (0) ?_ ?_
 ·show AnsG 22 #[.int .i64 op,.int .u64 ((cutT 125 a : Nat) : Int),.int .u64 ((0 : Nat) : Int)] _
  exact res_comG op (by omega) (by omega) _ _ _ _ (com_fu32 op q hq (by omega) (by omega) _ _ _ _ (pU32 q (tbl32 op q h1 h2 hq).1 (tbl32 op q h1 h2 hq).2 _ ha'))
 ·exact .inl rfl
theorem rows_fR64 : ((List.range 6).all fun k => rowB (97 + (k : Int)) [124,124] 127) = true := by kernel_rfl
theorem pg_fR64 (op : Int) (h1 : 97 ≤ op) (h2 : op < 103) (a b : Nat) (ha : a < 18446744073709551616) (hb : b < 18446744073709551616) : Pg op a b := by
 have hrow : rowB op [124,124] 127 = true := by
  have h := List.all_eq_true.1 rows_fR64 (op - 97).toNat (List.mem_range.2 (by omega))
  rw [show ((97 : Int) + ((op - 97).toNat : Int)) = op by omega] at h
  exact h
 have ha' := cutT_lt 124 a ha
 have hb' := cutT_lt 124 b hb
 obtain ⟨q,hq⟩ : ∃ q,q = op - 96 := ⟨_,rfl⟩
 refine pg_of op [124,124] 127 hrow a b (if Fl.relW 9223372036854775808 9218868437227405312 q.toNat ((cutT 124 a) % 18446744073709551616) ((cutT 124 b) % 18446744073709551616) then 1 else 0) (0) ?_ ?_
 ·show AnsG 22 #[.int .i64 op,.int .u64 ((cutT 124 a : Nat) : Int),.int .u64 (((cutT 124 b : Nat) : Nat) : Int)] _
  exact Ans.g (res_cmp op (by omega) (by omega) _ _ _ _ (cmp_f64 op q hq (by omega) (by omega) _ _ _ _ (pR64 q (by omega) (by omega) _ _ ha' hb')))
 ·exact .inl rfl
theorem rows_fB64 : ((List.range 7).all fun k => rowB (160 + (k : Int)) [124,124] 124) = true := by kernel_rfl
theorem pg_fB64 (op : Int) (h1 : 160 ≤ op) (h2 : op < 167) (a b : Nat) (ha : a < 18446744073709551616) (hb : b < 18446744073709551616) : Pg op a b := by
 have hrow : rowB op [124,124] 124 = true := by
  have h := List.all_eq_true.1 rows_fB64 (op - 160).toNat (List.mem_range.2 (by omega))
  rw [show ((160 : Int) + ((op - 160).toNat : Int)) = op by omega] at h
  exact h
 have ha' := cutT_lt 124 a ha
 have hb' := cutT_lt 124 b hb
 obtain ⟨q,hq⟩ : ∃ q,q = op - 159 := ⟨_,rfl⟩
 refine pg_of op [124,124] 124 hrow a b ((Fl.binW Ieee.double 9 9223372036854775808 9218868437227405312 9221120237041090560 52 (-1074) q.toNat ((cutT 124 a) % 18446744073709551616) ((cutT 124 b) % 18446744073709551616))) (0) ?_ ?_
 ·show AnsG 22 #[.int .i64 op,.int .u64 ((cutT 124 a : Nat) : Int),.int .u64 (((cutT 124 b : Nat) : Nat) : Int)] _
  exact Ans.g (res_com op (by omega) (by omega) _ _ _ _ (com_g64 op q hq (by omega) (by omega) _ _ _ _ (pB64 q (by omega) (by omega) _ _ ha' hb')))
 ·exact .inl rfl
theorem rows_fU64 : ((List.range 7).all fun k => rowB (153 + (k : Int)) [124] 124) = true := by kernel_rfl
theorem pg_fU64 (op : Int) (h1 : 153 ≤ op) (h2 : op < 160) (a b : Nat) (ha : a < 18446744073709551616) (hb : b < 18446744073709551616) : Pg op a b := by
 have hrow : rowB op [124] 124 = true := by
  have h := List.all_eq_true.1 rows_fU64 (op - 153).toNat (List.mem_range.2 (by omega))
  rw [show ((153 : Int) + ((op - 153).toNat : Int)) = op by omega] at h
  exact h
 have ha' := cutT_lt 124 a ha
 have hb' : 0 < 18446744073709551616 := by decide
 obtain ⟨q,hq⟩ : ∃ q,q = glob6.getD (op - 153).toNat 0 := ⟨_,rfl⟩
 refine pg_of op [124] 124 hrow a b ((Fl.unW Ieee.double 9223372036854775808 9218868437227405312 9221120237041090560 q.toNat ((cutT 124 a) % 18446744073709551616))) (0) ?_ ?_
 ·show AnsG 22 #[.int .i64 op,.int .u64 ((cutT 124 a : Nat) : Int),.int .u64 ((0 : Nat) : Int)] _
  exact res_comG op (by omega) (by omega) _ _ _ _ (com_fu64 op q hq (by omega) (by omega) _ _ _ _ (pU64 q (tbl64 op q h1 h2 hq).1 (tbl64 op q h1 h2 hq).2 _ ha'))
 ·exact .inl rfl
end Go.Proofs.YtbbmbhcbncenaaaGreatDoor.Sc
namespace Go.Proofs.YtbbmbhcbncenaaaGreatDoor.Fl
open Go.RowKit
def bnd (n : Nat) (s neg : Bool) : Nat := if s then (if neg then 2 ^ (n - 1) else 2 ^ (n - 1) - 1) else (if neg then 0 else 2 ^ n - 1)
theorem shr_min (Y ap : Nat) (hY : Y < 18446744073709551616) : (Y : Int) / 2 ^ min ap 64 = ((Y / 2 ^ ap : Nat) : Int) := by
 by_cases h : ap ≤ 64
 ·rw [Nat.min_eq_left h,Int.natCast_ediv,Int.natCast_pow]; rfl
 ·rw [Nat.min_eq_right (by omega)]
  have h64 : (2 : Nat) ^ 64 = 18446744073709551616 := by decide
  have hle : (2 : Nat) ^ 64 ≤ 2 ^ ap := Nat.pow_le_pow_right (by decide) (by omega)
  rw [Nat.div_eq_of_lt (show Y < 2 ^ ap by omega),show (2 : Int) ^ 64 = 18446744073709551616 by decide]
  omega
theorem whole_neg (m k : Nat) (hm : m < 18446744073709551616) (hk0 : 0 < k) (hk : k ≤ 4000) (w : World) : Calls Tryz.prog 145 #[.int .u64 m,.int .i64 (-(k : Int))] w fun e w' => e = .returned (.tuple #[.int .u64 ((m / 2 ^ k : Nat) : Int),.bool true]) ∧ Below w.heap.size w w' := by
 obtain ⟨z,hz⟩ : ∃ z : Int,z = -(k : Int) := ⟨_,rfl⟩
 have c1 : decide (z < 0) = true := by simp; omega
 have c2 : wrap64 (-z) = (k : Int) := by unfold wrap64; omega
 have hs := fun W : World => shr_run (P := Tryz.prog) (w := W) m k hm
 obtain ⟨q,hq⟩ : ∃ q : Nat,q = m / 2 ^ k := ⟨_,rfl⟩
 have c4 : (m : Int) / 2 ^ min k 64 = (q : Int) := by
  rw [hq]; exact shr_min m k hm
 rw [← hz]
 rw [← hq] at hs ⊢
 clear hz hq hk0 hk
 go_enter Tryz.func145,Tryz.ntmps145
 go_wp2
 exact bodyPost_ret (v := .tuple #[.int .u64 (q : Int),.bool true]) (by simp [results,Tryz.results145,go_sem,c4]) rfl ⟨rfl,Below.refl _ _⟩
theorem whole_pos (m k : Nat) (hm : m < 18446744073709551616) (hk : k ≤ 4000) (w : World) : Calls Tryz.prog 145 #[.int .u64 m,.int .i64 (k : Int)] w fun e w' => e = .returned (.tuple #[.int .u64 ((m * 2 ^ k % 18446744073709551616 : Nat) : Int),.bool (decide (m * 2 ^ k % 18446744073709551616 / 2 ^ k = m))]) ∧ Below w.heap.size w w' := by
 have c1 : decide ((k : Int) < 0) = false := by simp
 have hs := fun W : World => shl_run (P := Tryz.prog) (w := W) m k
 obtain ⟨q,hq⟩ : ∃ q : Nat,q = m * 2 ^ k % 18446744073709551616 := ⟨_,rfl⟩
 have hr := fun W : World => shr_run (P := Tryz.prog) (w := W) q k (by omega)
 rw [← hq] at hs ⊢
 obtain ⟨r,hr'⟩ : ∃ r : Nat,r = q / 2 ^ k := ⟨_,rfl⟩
 rw [← hr'] at hr ⊢
 have c5 : (q : Int) / 2 ^ min k 64 = (r : Int) := by rw [hr']; exact shr_min q k (by omega)
 have c4 : IntKind.u64.wrap ((m : Int) * 2 ^ min k 64) = (q : Int) := by
  have := hs default
  unfold Op.shift at this
  rw [if_neg (by omega)] at this
  injection this with h1 h2
  injection h1
 obtain ⟨B,hB⟩ : ∃ B : Bool,B = decide (r = m) := ⟨_,rfl⟩
 have c2 : ((r : Int) == (m : Int)) = B := by
  rw [hB]; by_cases h : r = m
  ·subst h; simp
  ·have : (r : Int) ≠ (m : Int) := by omega
   simp [h,this]
 rw [← hB]
 clear hr' hq hk hB
 go_enter Tryz.func145,Tryz.ntmps145
 go_wp2
 go_quiet (fail)
 go_wp2
 exact bodyPost_ret (v := .tuple #[.int .u64 (q : Int),.bool B]) (by simp [results,Tryz.results145,go_sem,c2,c4,c5]) rfl ⟨rfl,below_drewN (Below.refl _ _) _⟩
theorem integerOf_32 (s : Bool) (w : World) : Calls Tryz.prog 141 #[.int .i64 32,.bool s] w fun e w' => e = .returned (.agg #[.int .i64 32,.bool s]) ∧ Below w.heap.size w w' := by
 go_enter Tryz.func141,Tryz.ntmps141
 go_wp2
 exact bodyPost_ret (v := .agg #[.int .i64 32,.bool s]) (by simp [results,Tryz.results141,go_sem]) rfl ⟨rfl,(Below.refl _ _).alloc (Nat.le_refl _) _⟩
theorem iknown_32 (s : Bool) (w : World) : Calls Tryz.prog 143 #[.agg #[.int .i64 32,.bool s]] w fun e w' => e = .returned (.bool true) ∧ Below w.heap.size w w' := by
 cases s <;>
 ·go_enter Tryz.func143,Tryz.ntmps143
  go_wp2
  go_ret
  exact ⟨rfl,(Below.refl _ _).alloc (Nat.le_refl _) _⟩
theorem icut_32 (s : Bool) (a : Nat) (ha : a < 18446744073709551616) (w : World) : Calls Tryz.prog 147 #[.agg #[.int .i64 32,.bool s],.int .u64 a] w fun e w' => e = .returned (.int .u64 ((a % 4294967296 : Nat) : Int)) ∧ Below w.heap.size w w' := by
 have hand : bits .and .u64 (a : Int) 4294967295 = ((a % 4294967296 : Nat) : Int) := by
  have := bits_and_u64_nat a 4294967295 ha (by decide)
  rw [show (4294967295 : Nat) = 2 ^ 32 - 1 by decide,Nat.and_two_pow_sub_one_eq_mod] at this
  exact this
 obtain ⟨c,hc⟩ : ∃ c : Nat,c = a % 4294967296 := ⟨_,rfl⟩
 rw [← hc] at hand ⊢
 clear hc ha
 have hand2 : bits .and .u64 (a : Int) (IntKind.u64.wrap (IntKind.u64.wrap 4294967296 - 1)) = (c : Int) := hand
 go_enter Tryz.func147,Tryz.ntmps147
 go_wp2
 go_ret
 exact ⟨by first | rfl | exact congrArg (fun x => Ending.returned (.int .u64 x)) hand2,(Below.refl _ _).alloc (Nat.le_refl _) _⟩
theorem bound_32 (s neg : Bool) (w : World) : Calls Tryz.prog 146 #[.agg #[.int .i64 32,.bool s],.bool neg] w fun e w' => e = .returned (.int .u64 ((bnd 32 s neg : Nat) : Int)) ∧ Below w.heap.size w w' := by
 cases s <;> cases neg
 ·rw [show bnd 32 false false = 4294967295 by decide]
  go_enter Tryz.func146,Tryz.ntmps146
  go_wp2
  go_ret
  exact ⟨rfl,(Below.refl _ _).alloc (Nat.le_refl _) _⟩
 ·rw [show bnd 32 false true = 0 by decide]
  go_enter Tryz.func146,Tryz.ntmps146
  go_wp2
  go_ret
  exact ⟨rfl,(Below.refl _ _).alloc (Nat.le_refl _) _⟩
 ·rw [show bnd 32 true false = 2147483647 by decide]
  go_enter Tryz.func146,Tryz.ntmps146
  go_wp2
  go_ret
  exact ⟨rfl,(Below.refl _ _).alloc (Nat.le_refl _) _⟩
 ·rw [show bnd 32 true true = 2147483648 by decide]
  go_enter Tryz.func146,Tryz.ntmps146
  go_wp2
  go_ret
  exact ⟨rfl,(Below.refl _ _).alloc (Nat.le_refl _) _⟩
theorem cparts_32 (a : Nat) (ha : a < 18446744073709551616) (hf : a % 4294967296 % 2147483648 < 2139095040) (w : World) :
  Calls Tryz.prog 144 #[.int .i64 32,.int .u64 a] w fun e w' => e = .returned (.tuple #[.bool (decide (2147483648 ≤ a % 4294967296)),.int .u64 ((pm 23 (a % 4294967296 % 2147483648) : Nat) : Int),.int .i64 (pe 23 (-149) (a % 4294967296 % 2147483648))]) ∧ Below w.heap.size w w' := by
 have HP := fun w => hid (Parts_32 a ha hf w)
 obtain ⟨n1,hn1⟩ : ∃ n1 : Bool,n1 = decide (2147483648 ≤ a % 4294967296) := ⟨_,rfl⟩
 obtain ⟨m1,hm1⟩ : ∃ m1 : Nat,m1 = pm 23 (a % 4294967296 % 2147483648) := ⟨_,rfl⟩
 obtain ⟨e1,he1⟩ : ∃ e1 : Int,e1 = pe 23 (-149) (a % 4294967296 % 2147483648) := ⟨_,rfl⟩
 rw [← hn1,← hm1,← he1] at HP ⊢
 clear hn1 hm1 he1 hf ha
 go_enter Tryz.func144,Tryz.ntmps144
 go_wp2_with (first | (go_at_call 167; ((with_reducible refine (HP _).out.mono ?_); rintro e w1 ⟨rfl,hb⟩)))
 exact bodyPost_ret (v := .tuple #[.bool n1,.int .u64 m1,.int .i64 e1]) (by simp [results,Tryz.results144,go_sem]) rfl ⟨rfl,hb⟩
theorem cparts_32_inf (a : Nat) (ha : a < 18446744073709551616) (hf : a % 4294967296 % 2147483648 = 2139095040) (w : World) :
  Calls Tryz.prog 144 #[.int .i64 32,.int .u64 a] w fun e w' => e = .returned (.tuple #[.bool (decide (2147483648 ≤ a % 4294967296)),.int .u64 1,.int .i64 1024]) ∧ Below w.heap.size w w' := by
 have HP := fun w => hid (Parts_32_no a ha (by omega) w)
 have hrel : relW 2147483648 2139095040 3 (a % 4294967296) (0 % 4294967296) = decide (2147483648 ≤ a % 4294967296) := by
  have hlt : a % 4294967296 < 4294967296 := Nat.mod_lt _ (by decide)
  unfold relW relI rankOf
  generalize a % 4294967296 = c at *
  rw [if_neg (by omega)]
  simp only [Nat.zero_mod,show (0 : Nat) % 2147483648 = 0 by decide]
  rw [if_neg (show ¬ 2147483648 ≤ 0 by decide)]
  by_cases h : 2147483648 ≤ c
  ·rw [if_pos h]; simp [h]; omega
  ·rw [if_neg h]; simp [h]; omega
 have HR : ∀ W,Hid (Calls Tryz.prog 67 #[.int .i64 32,.int .i64 3,.int .u64 a,.int .u64 0] W fun e w' => e = .returned (.tuple #[.bool (decide (2147483648 ≤ a % 4294967296)),.int .i64 0]) ∧ Below W.heap.size W w') := fun W => by
  have := Rel_32 3 (by decide) a 0 ha (by decide) W
  rw [hrel] at this
  exact this
 obtain ⟨n1,hn1⟩ : ∃ n1 : Bool,n1 = decide (2147483648 ≤ a % 4294967296) := ⟨_,rfl⟩
 rw [← hn1] at HR ⊢
 clear hn1 hf ha hrel
 go_enter Tryz.func144,Tryz.ntmps144
 go_wp2_with (first
  | (go_at_call 167; ((with_reducible refine (HP _).out.mono ?_); rintro e w1 ⟨rfl,hb⟩))
  | (go_at_call 67; ((with_reducible refine (HR _).out.mono ?_); rintro e w2 ⟨rfl,hb2⟩)))
 exact bodyPost_ret (v := .tuple #[.bool n1,.int .u64 1,.int .i64 1024]) (by simp [results,Tryz.results144,go_sem]) rfl ⟨rfl,bnext hb hb2⟩
theorem integerOf_64 (s : Bool) (w : World) : Calls Tryz.prog 141 #[.int .i64 64,.bool s] w fun e w' => e = .returned (.agg #[.int .i64 64,.bool s]) ∧ Below w.heap.size w w' := by
 go_enter Tryz.func141,Tryz.ntmps141
 go_wp2
 exact bodyPost_ret (v := .agg #[.int .i64 64,.bool s]) (by simp [results,Tryz.results141,go_sem]) rfl ⟨rfl,(Below.refl _ _).alloc (Nat.le_refl _) _⟩
theorem iknown_64 (s : Bool) (w : World) : Calls Tryz.prog 143 #[.agg #[.int .i64 64,.bool s]] w fun e w' => e = .returned (.bool true) ∧ Below w.heap.size w w' := by
 cases s <;>
 ·go_enter Tryz.func143,Tryz.ntmps143
  go_wp2
  go_ret
  exact ⟨rfl,(Below.refl _ _).alloc (Nat.le_refl _) _⟩
theorem icut_64 (s : Bool) (a : Nat) (ha : a < 18446744073709551616) (w : World) : Calls Tryz.prog 147 #[.agg #[.int .i64 64,.bool s],.int .u64 a] w fun e w' => e = .returned (.int .u64 ((a % 18446744073709551616 : Nat) : Int)) ∧ Below w.heap.size w w' := by
 have hand : bits .and .u64 (a : Int) 18446744073709551615 = ((a % 18446744073709551616 : Nat) : Int) := by
  have := bits_and_u64_nat a 18446744073709551615 ha (by decide)
  rw [show (18446744073709551615 : Nat) = 2 ^ 64 - 1 by decide,Nat.and_two_pow_sub_one_eq_mod] at this
  exact this
 obtain ⟨c,hc⟩ : ∃ c : Nat,c = a % 18446744073709551616 := ⟨_,rfl⟩
 rw [← hc] at hand ⊢
 clear hc ha
 have hand2 : bits .and .u64 (a : Int) (IntKind.u64.wrap (IntKind.u64.wrap 18446744073709551616 - 1)) = (c : Int) := hand
 go_enter Tryz.func147,Tryz.ntmps147
 go_wp2
 go_ret
 exact ⟨by first | rfl | exact congrArg (fun x => Ending.returned (.int .u64 x)) hand2,(Below.refl _ _).alloc (Nat.le_refl _) _⟩
theorem bound_64 (s neg : Bool) (w : World) : Calls Tryz.prog 146 #[.agg #[.int .i64 64,.bool s],.bool neg] w fun e w' => e = .returned (.int .u64 ((bnd 64 s neg : Nat) : Int)) ∧ Below w.heap.size w w' := by
 cases s <;> cases neg
 ·rw [show bnd 64 false false = 18446744073709551615 by decide]
  go_enter Tryz.func146,Tryz.ntmps146
  go_wp2
  go_ret
  exact ⟨rfl,(Below.refl _ _).alloc (Nat.le_refl _) _⟩
 ·rw [show bnd 64 false true = 0 by decide]
  go_enter Tryz.func146,Tryz.ntmps146
  go_wp2
  go_ret
  exact ⟨rfl,(Below.refl _ _).alloc (Nat.le_refl _) _⟩
 ·rw [show bnd 64 true false = 9223372036854775807 by decide]
  go_enter Tryz.func146,Tryz.ntmps146
  go_wp2
  go_ret
  exact ⟨rfl,(Below.refl _ _).alloc (Nat.le_refl _) _⟩
 ·rw [show bnd 64 true true = 9223372036854775808 by decide]
  go_enter Tryz.func146,Tryz.ntmps146
  go_wp2
  go_ret
  exact ⟨rfl,(Below.refl _ _).alloc (Nat.le_refl _) _⟩
theorem cparts_64 (a : Nat) (ha : a < 18446744073709551616) (hf : a % 18446744073709551616 % 9223372036854775808 < 9218868437227405312) (w : World) :
  Calls Tryz.prog 144 #[.int .i64 64,.int .u64 a] w fun e w' => e = .returned (.tuple #[.bool (decide (9223372036854775808 ≤ a % 18446744073709551616)),.int .u64 ((pm 52 (a % 18446744073709551616 % 9223372036854775808) : Nat) : Int),.int .i64 (pe 52 (-1074) (a % 18446744073709551616 % 9223372036854775808))]) ∧ Below w.heap.size w w' := by
 have HP := fun w => hid (Parts_64 a ha hf w)
 obtain ⟨n1,hn1⟩ : ∃ n1 : Bool,n1 = decide (9223372036854775808 ≤ a % 18446744073709551616) := ⟨_,rfl⟩
 obtain ⟨m1,hm1⟩ : ∃ m1 : Nat,m1 = pm 52 (a % 18446744073709551616 % 9223372036854775808) := ⟨_,rfl⟩
 obtain ⟨e1,he1⟩ : ∃ e1 : Int,e1 = pe 52 (-1074) (a % 18446744073709551616 % 9223372036854775808) := ⟨_,rfl⟩
 rw [← hn1,← hm1,← he1] at HP ⊢
 clear hn1 hm1 he1 hf ha
 go_enter Tryz.func144,Tryz.ntmps144
 go_wp2_with (first | (go_at_call 167; ((with_reducible refine (HP _).out.mono ?_); rintro e w1 ⟨rfl,hb⟩)))
 exact bodyPost_ret (v := .tuple #[.bool n1,.int .u64 m1,.int .i64 e1]) (by simp [results,Tryz.results144,go_sem]) rfl ⟨rfl,hb⟩
theorem cparts_64_inf (a : Nat) (ha : a < 18446744073709551616) (hf : a % 18446744073709551616 % 9223372036854775808 = 9218868437227405312) (w : World) :
  Calls Tryz.prog 144 #[.int .i64 64,.int .u64 a] w fun e w' => e = .returned (.tuple #[.bool (decide (9223372036854775808 ≤ a % 18446744073709551616)),.int .u64 1,.int .i64 1024]) ∧ Below w.heap.size w w' := by
 have HP := fun w => hid (Parts_64_no a ha (by omega) w)
 have hrel : relW 9223372036854775808 9218868437227405312 3 (a % 18446744073709551616) (0 % 18446744073709551616) = decide (9223372036854775808 ≤ a % 18446744073709551616) := by
  have hlt : a % 18446744073709551616 < 18446744073709551616 := Nat.mod_lt _ (by decide)
  unfold relW relI rankOf
  generalize a % 18446744073709551616 = c at *
  rw [if_neg (by omega)]
  simp only [Nat.zero_mod,show (0 : Nat) % 9223372036854775808 = 0 by decide]
  rw [if_neg (show ¬ 9223372036854775808 ≤ 0 by decide)]
  by_cases h : 9223372036854775808 ≤ c
  ·rw [if_pos h]; simp [h]; omega
  ·rw [if_neg h]; simp [h]; omega
 have HR : ∀ W,Hid (Calls Tryz.prog 67 #[.int .i64 64,.int .i64 3,.int .u64 a,.int .u64 0] W fun e w' => e = .returned (.tuple #[.bool (decide (9223372036854775808 ≤ a % 18446744073709551616)),.int .i64 0]) ∧ Below W.heap.size W w') := fun W => by
  have := Rel_64 3 (by decide) a 0 ha (by decide) W
  rw [hrel] at this
  exact this
 obtain ⟨n1,hn1⟩ : ∃ n1 : Bool,n1 = decide (9223372036854775808 ≤ a % 18446744073709551616) := ⟨_,rfl⟩
 rw [← hn1] at HR ⊢
 clear hn1 hf ha hrel
 go_enter Tryz.func144,Tryz.ntmps144
 go_wp2_with (first
  | (go_at_call 167; ((with_reducible refine (HP _).out.mono ?_); rintro e w1 ⟨rfl,hb⟩))
  | (go_at_call 67; ((with_reducible refine (HR _).out.mono ?_); rintro e w2 ⟨rfl,hb2⟩)))
 exact bodyPost_ret (v := .tuple #[.bool n1,.int .u64 1,.int .i64 1024]) (by simp [results,Tryz.results144,go_sem]) rfl ⟨rfl,bnext hb hb2⟩
end Go.Proofs.YtbbmbhcbncenaaaGreatDoor.Fl
