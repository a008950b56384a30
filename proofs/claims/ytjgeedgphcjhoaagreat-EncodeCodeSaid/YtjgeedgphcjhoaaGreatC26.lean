/-
  WIns1, WIns2: merged, what the law does not reach left out (each text says what it holds where it lies in wip). No condition.
-/
import Derived.Test.YtjgeedgphcjhoaaGreatC04
set_option linter.unusedSimpArgs false
set_option linter.unusedVariables false
set_option maxRecDepth 100000
namespace Go.Proofs.YtjgeedgphcjhoaaGreat
open Go.RowKit
set_option maxHeartbeats 4000000 in
theorem instr_0 (B g : Nat) (bs : List UInt8) (op a b : Int) (n h : Nat) (l : List Int) (pl pb pe : Option Addr) (nl cl nb cb ne ce : Nat) (ot : Bool) (w : World) (hw : WR B g bs w) (h0 : 0 ≤ op) (h1 : op < 65024) (hnn : n < 18446744073709551616) (hh : h < 18446744073709551616)
  (hi : ∀ W,Calls Tryz.prog 152 #[.int .i64 op] W fun e w' => e = .returned (.int .i64 0) ∧ Below W.heap.size W w') (hl : LT B g w (.slice pl nl cl) l) (hn : bs.length + 300 + 20 * l.length ≤ 140737488355000) :
  Calls Tryz.prog 230 #[.pointer (some ⟨g,0,none⟩),.agg #[.int .i64 op,.int .i64 a,.int .i64 b,.int .u64 (n : Nat),.int .u64 (h : Nat),.slice pl nl cl,.slice pb nb cb,.slice pe ne ce,.bool ot]] w fun e w' => e = .returned (.tuple #[]) ∧ WR B g (bs ++ opL op) w' ∧ FR B g w w' := by
 have HI := fun W => hid (hi W)
 have HW := hid hw
 have HLT := hid hl
 have Hn := hid hnn
 have Hh := hid hh
 have HS32 := hid (sgnN_in 32 n (.inl rfl))
 have HS64 := hid (sgnN_in 64 n (.inr rfl))
 have H0 := hid h0
 have H1 := hid h1
 have q1 := opL_len op
 have q2 := uI_len a
 have q3 := uI_len b
 have q4 := usL_len l
 have q5 := uI_len l.length
 have q6 := lowL_len 0 8 n
 have HN := hid (show bs.length + 20 ≤ 140737488355000 by omega)
 have hxg : w.heap.size ≠ g := by have := hw.lt; omega
 have HXG := hid hxg
 have hx0 := CA.new w #[.int .i64 op,.int .i64 a,.int .i64 b,.int .u64 (n : Nat),.int .u64 (h : Nat),.slice pl nl cl,.slice pb nb cb,.slice pe ne ce,.bool ot] 39
 have HX0 := hid hx0
 have y0 := HX0.out.at (k := 0) (v := .int .i64 op) rfl
 have y1 := HX0.out.at (k := 1) (v := .int .i64 a) rfl
 have y2 := HX0.out.at (k := 2) (v := .int .i64 b) rfl
 have y3 := HX0.out.at (k := 3) (v := .int .u64 (n : Nat)) rfl
 have y4 := HX0.out.at (k := 4) (v := .int .u64 (h : Nat)) rfl
 have y5 := HX0.out.at (k := 5) (v := .slice pl nl cl) rfl
 have y6 := HX0.out.at (k := 6) (v := .slice pb nb cb) rfl
 have y7 := HX0.out.at (k := 7) (v := .slice pe ne ce) rfl
 have y8 := HX0.out.at (k := 8) (v := .bool ot) rfl
 clear hw hl hn hi q1 q2 q3 q4 q5 q6 hxg hx0 h0 h1 hnn hh
 go_enter Tryz.func230,Tryz.ntmps230
 go_wp2_with (first
  | (go_at_call 240; (with_reducible refine (op_says B g bs op H0.out H1.out _ (HW.out.alloc _) HN.out).mono ?_); rintro e w1 ⟨rfl,hw1,hf1⟩; have HW1 := hid hw1; have HF1 := hid (((FR.refl B g w).alloc _).trans hf1); have HX1 := hid (HX0.out.fr hf1 (by decide) HXG.out); have y0 := HX1.out.at (k := 0) (v := .int .i64 op) rfl; have y1 := HX1.out.at (k := 1) (v := .int .i64 a) rfl; have y2 := HX1.out.at (k := 2) (v := .int .i64 b) rfl; have y3 := HX1.out.at (k := 3) (v := .int .u64 (n : Nat)) rfl; have y4 := HX1.out.at (k := 4) (v := .int .u64 (h : Nat)) rfl; have y5 := HX1.out.at (k := 5) (v := .slice pl nl cl) rfl; have y6 := HX1.out.at (k := 6) (v := .slice pb nb cb) rfl; have y7 := HX1.out.at (k := 7) (v := .slice pe ne ce) rfl; have y8 := HX1.out.at (k := 8) (v := .bool ot) rfl; clear hw1 hf1)
  | (go_at_call 152; (with_reducible refine (HI _).out.mono ?_); rintro e w2 ⟨rfl,hb⟩; have HWW1 := hid (HW1.out.call hb); have HFF1 := hid (HF1.out.trans (FR.of hb)); have HXX1 := hid (HX1.out.below hb HX1.out.lt); have y0 := HXX1.out.at (k := 0) (v := .int .i64 op) rfl; have y1 := HXX1.out.at (k := 1) (v := .int .i64 a) rfl; have y2 := HXX1.out.at (k := 2) (v := .int .i64 b) rfl; have y3 := HXX1.out.at (k := 3) (v := .int .u64 (n : Nat)) rfl; have y4 := HXX1.out.at (k := 4) (v := .int .u64 (h : Nat)) rfl; have y5 := HXX1.out.at (k := 5) (v := .slice pl nl cl) rfl; have y6 := HXX1.out.at (k := 6) (v := .slice pb nb cb) rfl; have y7 := HXX1.out.at (k := 7) (v := .slice pe ne ce) rfl; have y8 := HXX1.out.at (k := 8) (v := .bool ot) rfl; clear hb))
 (first | go_end0 | refine bodyPost_ret (results_none rfl _ _ _) rfl ?_)
 exact ⟨rfl,HWW1.out,HFF1.out⟩
set_option maxHeartbeats 4000000 in
theorem instr_2 (K : Int) (hK : K = 2 ∨ K = 4 ∨ K = 7 ∨ K = 8 ∨ K = 9 ∨ K = 18 ∨ K = 21) (B g : Nat) (bs : List UInt8) (op a b : Int) (n h : Nat) (l : List Int) (pl pb pe : Option Addr) (nl cl nb cb ne ce : Nat) (ot : Bool) (w : World) (hw : WR B g bs w) (h0 : 0 ≤ op) (h1 : op < 65024) (hnn : n < 18446744073709551616) (hh : h < 18446744073709551616)
  (hi : ∀ W,Calls Tryz.prog 152 #[.int .i64 op] W fun e w' => e = .returned (.int .i64 K) ∧ Below W.heap.size W w') (hl : LT B g w (.slice pl nl cl) l) (hn : bs.length + 300 + 20 * l.length ≤ 140737488355000) :
  Calls Tryz.prog 230 #[.pointer (some ⟨g,0,none⟩),.agg #[.int .i64 op,.int .i64 a,.int .i64 b,.int .u64 (n : Nat),.int .u64 (h : Nat),.slice pl nl cl,.slice pb nb cb,.slice pe ne ce,.bool ot]] w fun e w' => e = .returned (.tuple #[]) ∧ WR B g (bs ++ opL op ++ uI a) w' ∧ FR B g w w' := by
 rcases hK with rfl | rfl | rfl | rfl | rfl | rfl | rfl
 all_goals
  have HI := fun W => hid (hi W)
  have HW := hid hw
  have HLT := hid hl
  have Hn := hid hnn
  have Hh := hid hh
  have HS32 := hid (sgnN_in 32 n (.inl rfl))
  have HS64 := hid (sgnN_in 64 n (.inr rfl))
  have H0 := hid h0
  have H1 := hid h1
  have q1 := opL_len op
  have q2 := uI_len a
  have q3 := uI_len b
  have q4 := usL_len l
  have q5 := uI_len l.length
  have q6 := lowL_len 0 8 n
  have HN := hid (show bs.length + 20 ≤ 140737488355000 by omega)
  have HN1 := hid (show (bs ++ opL op).length + 10 ≤ 140737488355000 by simp only [List.length_append,List.length_map,List.length_cons,List.length_nil] at *; omega)
  have hxg : w.heap.size ≠ g := by have := hw.lt; omega
  have HXG := hid hxg
  have hx0 := CA.new w #[.int .i64 op,.int .i64 a,.int .i64 b,.int .u64 (n : Nat),.int .u64 (h : Nat),.slice pl nl cl,.slice pb nb cb,.slice pe ne ce,.bool ot] 39
  have HX0 := hid hx0
  have y0 := HX0.out.at (k := 0) (v := .int .i64 op) rfl
  have y1 := HX0.out.at (k := 1) (v := .int .i64 a) rfl
  have y2 := HX0.out.at (k := 2) (v := .int .i64 b) rfl
  have y3 := HX0.out.at (k := 3) (v := .int .u64 (n : Nat)) rfl
  have y4 := HX0.out.at (k := 4) (v := .int .u64 (h : Nat)) rfl
  have y5 := HX0.out.at (k := 5) (v := .slice pl nl cl) rfl
  have y6 := HX0.out.at (k := 6) (v := .slice pb nb cb) rfl
  have y7 := HX0.out.at (k := 7) (v := .slice pe ne ce) rfl
  have y8 := HX0.out.at (k := 8) (v := .bool ot) rfl
  clear hw hl hn hi q1 q2 q3 q4 q5 q6 hxg hx0 h0 h1 hnn hh
  go_enter Tryz.func230,Tryz.ntmps230
  go_wp2_with (first
   | (go_at_call 240; (with_reducible refine (op_says B g bs op H0.out H1.out _ (HW.out.alloc _) HN.out).mono ?_); rintro e w1 ⟨rfl,hw1,hf1⟩; have HW1 := hid hw1; have HF1 := hid (((FR.refl B g w).alloc _).trans hf1); have HX1 := hid (HX0.out.fr hf1 (by decide) HXG.out); have y0 := HX1.out.at (k := 0) (v := .int .i64 op) rfl; have y1 := HX1.out.at (k := 1) (v := .int .i64 a) rfl; have y2 := HX1.out.at (k := 2) (v := .int .i64 b) rfl; have y3 := HX1.out.at (k := 3) (v := .int .u64 (n : Nat)) rfl; have y4 := HX1.out.at (k := 4) (v := .int .u64 (h : Nat)) rfl; have y5 := HX1.out.at (k := 5) (v := .slice pl nl cl) rfl; have y6 := HX1.out.at (k := 6) (v := .slice pb nb cb) rfl; have y7 := HX1.out.at (k := 7) (v := .slice pe ne ce) rfl; have y8 := HX1.out.at (k := 8) (v := .bool ot) rfl; clear hw1 hf1)
   | (go_at_call 152; (with_reducible refine (HI _).out.mono ?_); rintro e w2 ⟨rfl,hb⟩; have HWW1 := hid (HW1.out.call hb); have HFF1 := hid (HF1.out.trans (FR.of hb)); have HXX1 := hid (HX1.out.below hb HX1.out.lt); have y0 := HXX1.out.at (k := 0) (v := .int .i64 op) rfl; have y1 := HXX1.out.at (k := 1) (v := .int .i64 a) rfl; have y2 := HXX1.out.at (k := 2) (v := .int .i64 b) rfl; have y3 := HXX1.out.at (k := 3) (v := .int .u64 (n : Nat)) rfl; have y4 := HXX1.out.at (k := 4) (v := .int .u64 (h : Nat)) rfl; have y5 := HXX1.out.at (k := 5) (v := .slice pl nl cl) rfl; have y6 := HXX1.out.at (k := 6) (v := .slice pb nb cb) rfl; have y7 := HXX1.out.at (k := 7) (v := .slice pe ne ce) rfl; have y8 := HXX1.out.at (k := 8) (v := .bool ot) rfl; clear hb)
   | (go_at_call 105; (with_reducible refine (u_says B g _ a _ HWW1.out.base HWW1.out HN1.out).mono ?_); rintro e w5 ⟨rfl,hw',hf⟩; have HV2 := hid hw'; have HG2 := hid (HFF1.out.trans hf); have HY2 := hid (HXX1.out.fr hf (by decide) HXG.out); have y0 := HY2.out.at (k := 0) (v := .int .i64 op) rfl; have y1 := HY2.out.at (k := 1) (v := .int .i64 a) rfl; have y2 := HY2.out.at (k := 2) (v := .int .i64 b) rfl; have y3 := HY2.out.at (k := 3) (v := .int .u64 (n : Nat)) rfl; have y4 := HY2.out.at (k := 4) (v := .int .u64 (h : Nat)) rfl; have y5 := HY2.out.at (k := 5) (v := .slice pl nl cl) rfl; have y6 := HY2.out.at (k := 6) (v := .slice pb nb cb) rfl; have y7 := HY2.out.at (k := 7) (v := .slice pe ne ce) rfl; have y8 := HY2.out.at (k := 8) (v := .bool ot) rfl; clear hw' hf))
  (first | go_end0 | refine bodyPost_ret (results_none rfl _ _ _) rfl ?_)
  exact ⟨rfl,HV2.out,HG2.out⟩
set_option maxHeartbeats 4000000 in
theorem instr_3 (B g : Nat) (bs : List UInt8) (op a b : Int) (n h : Nat) (l : List Int) (pl pb pe : Option Addr) (nl cl nb cb ne ce : Nat) (ot : Bool) (w : World) (hw : WR B g bs w) (h0 : 0 ≤ op) (h1 : op < 65024) (hnn : n < 18446744073709551616) (hh : h < 18446744073709551616)
  (hi : ∀ W,Calls Tryz.prog 152 #[.int .i64 op] W fun e w' => e = .returned (.int .i64 3) ∧ Below W.heap.size W w') (hl : LT B g w (.slice pl nl cl) l) (hn : bs.length + 300 + 20 * l.length ≤ 140737488355000) :
  Calls Tryz.prog 230 #[.pointer (some ⟨g,0,none⟩),.agg #[.int .i64 op,.int .i64 a,.int .i64 b,.int .u64 (n : Nat),.int .u64 (h : Nat),.slice pl nl cl,.slice pb nb cb,.slice pe ne ce,.bool ot]] w fun e w' => e = .returned (.tuple #[]) ∧ WR B g (bs ++ opL op ++ (uI l.length ++ usL l) ++ uI a) w' ∧ FR B g w w' := by
 have HI := fun W => hid (hi W)
 have HW := hid hw
 have HLT := hid hl
 have Hn := hid hnn
 have Hh := hid hh
 have HS32 := hid (sgnN_in 32 n (.inl rfl))
 have HS64 := hid (sgnN_in 64 n (.inr rfl))
 have H0 := hid h0
 have H1 := hid h1
 have q1 := opL_len op
 have q2 := uI_len a
 have q3 := uI_len b
 have q4 := usL_len l
 have q5 := uI_len l.length
 have q6 := lowL_len 0 8 n
 have HN := hid (show bs.length + 20 ≤ 140737488355000 by omega)
 have HN1 := hid (show (bs ++ opL op).length + 40 + 10 * l.length ≤ 140737488355000 by simp only [List.length_append,List.length_map,List.length_cons,List.length_nil] at *; omega)
 have HN2 := hid (show (bs ++ opL op ++ (uI l.length ++ usL l)).length + 10 ≤ 140737488355000 by simp only [List.length_append,List.length_map,List.length_cons,List.length_nil] at *; omega)
 have hxg : w.heap.size ≠ g := by have := hw.lt; omega
 have HXG := hid hxg
 have hx0 := CA.new w #[.int .i64 op,.int .i64 a,.int .i64 b,.int .u64 (n : Nat),.int .u64 (h : Nat),.slice pl nl cl,.slice pb nb cb,.slice pe ne ce,.bool ot] 39
 have HX0 := hid hx0
 have y0 := HX0.out.at (k := 0) (v := .int .i64 op) rfl
 have y1 := HX0.out.at (k := 1) (v := .int .i64 a) rfl
 have y2 := HX0.out.at (k := 2) (v := .int .i64 b) rfl
 have y3 := HX0.out.at (k := 3) (v := .int .u64 (n : Nat)) rfl
 have y4 := HX0.out.at (k := 4) (v := .int .u64 (h : Nat)) rfl
 have y5 := HX0.out.at (k := 5) (v := .slice pl nl cl) rfl
 have y6 := HX0.out.at (k := 6) (v := .slice pb nb cb) rfl
 have y7 := HX0.out.at (k := 7) (v := .slice pe ne ce) rfl
 have y8 := HX0.out.at (k := 8) (v := .bool ot) rfl
 clear hw hl hn hi q1 q2 q3 q4 q5 q6 hxg hx0 h0 h1 hnn hh
 go_enter Tryz.func230,Tryz.ntmps230
 go_wp2_with (first
  | (go_at_call 240; (with_reducible refine (op_says B g bs op H0.out H1.out _ (HW.out.alloc _) HN.out).mono ?_); rintro e w1 ⟨rfl,hw1,hf1⟩; have HW1 := hid hw1; have HF1 := hid (((FR.refl B g w).alloc _).trans hf1); have HX1 := hid (HX0.out.fr hf1 (by decide) HXG.out); have y0 := HX1.out.at (k := 0) (v := .int .i64 op) rfl; have y1 := HX1.out.at (k := 1) (v := .int .i64 a) rfl; have y2 := HX1.out.at (k := 2) (v := .int .i64 b) rfl; have y3 := HX1.out.at (k := 3) (v := .int .u64 (n : Nat)) rfl; have y4 := HX1.out.at (k := 4) (v := .int .u64 (h : Nat)) rfl; have y5 := HX1.out.at (k := 5) (v := .slice pl nl cl) rfl; have y6 := HX1.out.at (k := 6) (v := .slice pb nb cb) rfl; have y7 := HX1.out.at (k := 7) (v := .slice pe ne ce) rfl; have y8 := HX1.out.at (k := 8) (v := .bool ot) rfl; clear hw1 hf1)
  | (go_at_call 152; (with_reducible refine (HI _).out.mono ?_); rintro e w2 ⟨rfl,hb⟩; have HWW1 := hid (HW1.out.call hb); have HFF1 := hid (HF1.out.trans (FR.of hb)); have HXX1 := hid (HX1.out.below hb HX1.out.lt); have y0 := HXX1.out.at (k := 0) (v := .int .i64 op) rfl; have y1 := HXX1.out.at (k := 1) (v := .int .i64 a) rfl; have y2 := HXX1.out.at (k := 2) (v := .int .i64 b) rfl; have y3 := HXX1.out.at (k := 3) (v := .int .u64 (n : Nat)) rfl; have y4 := HXX1.out.at (k := 4) (v := .int .u64 (h : Nat)) rfl; have y5 := HXX1.out.at (k := 5) (v := .slice pl nl cl) rfl; have y6 := HXX1.out.at (k := 6) (v := .slice pb nb cb) rfl; have y7 := HXX1.out.at (k := 7) (v := .slice pe ne ce) rfl; have y8 := HXX1.out.at (k := 8) (v := .bool ot) rfl; clear hb)
  | (go_at_call 242; (with_reducible refine (indices_says B g _ l _ _ HWW1.out (HLT.out.fr HFF1.out) HN1.out).mono ?_); rintro e w5 ⟨rfl,hw',hf⟩; have HV2 := hid hw'; have HG2 := hid (HFF1.out.trans hf); have HY2 := hid (HXX1.out.fr hf (by decide) HXG.out); have y0 := HY2.out.at (k := 0) (v := .int .i64 op) rfl; have y1 := HY2.out.at (k := 1) (v := .int .i64 a) rfl; have y2 := HY2.out.at (k := 2) (v := .int .i64 b) rfl; have y3 := HY2.out.at (k := 3) (v := .int .u64 (n : Nat)) rfl; have y4 := HY2.out.at (k := 4) (v := .int .u64 (h : Nat)) rfl; have y5 := HY2.out.at (k := 5) (v := .slice pl nl cl) rfl; have y6 := HY2.out.at (k := 6) (v := .slice pb nb cb) rfl; have y7 := HY2.out.at (k := 7) (v := .slice pe ne ce) rfl; have y8 := HY2.out.at (k := 8) (v := .bool ot) rfl; clear hw' hf)
  | (go_at_call 105; (with_reducible refine (u_says B g _ a _ HV2.out.base HV2.out HN2.out).mono ?_); rintro e w6 ⟨rfl,hw',hf⟩; have HV3 := hid hw'; have HG3 := hid (HG2.out.trans hf); have HY3 := hid (HY2.out.fr hf (by decide) HXG.out); have y0 := HY3.out.at (k := 0) (v := .int .i64 op) rfl; have y1 := HY3.out.at (k := 1) (v := .int .i64 a) rfl; have y2 := HY3.out.at (k := 2) (v := .int .i64 b) rfl; have y3 := HY3.out.at (k := 3) (v := .int .u64 (n : Nat)) rfl; have y4 := HY3.out.at (k := 4) (v := .int .u64 (h : Nat)) rfl; have y5 := HY3.out.at (k := 5) (v := .slice pl nl cl) rfl; have y6 := HY3.out.at (k := 6) (v := .slice pb nb cb) rfl; have y7 := HY3.out.at (k := 7) (v := .slice pe ne ce) rfl; have y8 := HY3.out.at (k := 8) (v := .bool ot) rfl; clear hw' hf))
 (first | go_end0 | refine bodyPost_ret (results_none rfl _ _ _) rfl ?_)
 exact ⟨rfl,HV3.out,HG3.out⟩
set_option maxHeartbeats 4000000 in
theorem instr_5 (K : Int) (hK : K = 5 ∨ K = 10 ∨ K = 20 ∨ K = 22) (B g : Nat) (bs : List UInt8) (op a b : Int) (n h : Nat) (l : List Int) (pl pb pe : Option Addr) (nl cl nb cb ne ce : Nat) (ot : Bool) (w : World) (hw : WR B g bs w) (h0 : 0 ≤ op) (h1 : op < 65024) (hnn : n < 18446744073709551616) (hh : h < 18446744073709551616)
  (hi : ∀ W,Calls Tryz.prog 152 #[.int .i64 op] W fun e w' => e = .returned (.int .i64 K) ∧ Below W.heap.size W w') (hl : LT B g w (.slice pl nl cl) l) (hn : bs.length + 300 + 20 * l.length ≤ 140737488355000) :
  Calls Tryz.prog 230 #[.pointer (some ⟨g,0,none⟩),.agg #[.int .i64 op,.int .i64 a,.int .i64 b,.int .u64 (n : Nat),.int .u64 (h : Nat),.slice pl nl cl,.slice pb nb cb,.slice pe ne ce,.bool ot]] w fun e w' => e = .returned (.tuple #[]) ∧ WR B g (bs ++ opL op ++ uI a ++ uI b) w' ∧ FR B g w w' := by
 rcases hK with rfl | rfl | rfl | rfl
 all_goals
  have HI := fun W => hid (hi W)
  have HW := hid hw
  have HLT := hid hl
  have Hn := hid hnn
  have Hh := hid hh
  have HS32 := hid (sgnN_in 32 n (.inl rfl))
  have HS64 := hid (sgnN_in 64 n (.inr rfl))
  have H0 := hid h0
  have H1 := hid h1
  have q1 := opL_len op
  have q2 := uI_len a
  have q3 := uI_len b
  have q4 := usL_len l
  have q5 := uI_len l.length
  have q6 := lowL_len 0 8 n
  have HN := hid (show bs.length + 20 ≤ 140737488355000 by omega)
  have HN1 := hid (show (bs ++ opL op).length + 10 ≤ 140737488355000 by simp only [List.length_append,List.length_map,List.length_cons,List.length_nil] at *; omega)
  have HN2 := hid (show (bs ++ opL op ++ uI a).length + 10 ≤ 140737488355000 by simp only [List.length_append,List.length_map,List.length_cons,List.length_nil] at *; omega)
  have hxg : w.heap.size ≠ g := by have := hw.lt; omega
  have HXG := hid hxg
  have hx0 := CA.new w #[.int .i64 op,.int .i64 a,.int .i64 b,.int .u64 (n : Nat),.int .u64 (h : Nat),.slice pl nl cl,.slice pb nb cb,.slice pe ne ce,.bool ot] 39
  have HX0 := hid hx0
  have y0 := HX0.out.at (k := 0) (v := .int .i64 op) rfl
  have y1 := HX0.out.at (k := 1) (v := .int .i64 a) rfl
  have y2 := HX0.out.at (k := 2) (v := .int .i64 b) rfl
  have y3 := HX0.out.at (k := 3) (v := .int .u64 (n : Nat)) rfl
  have y4 := HX0.out.at (k := 4) (v := .int .u64 (h : Nat)) rfl
  have y5 := HX0.out.at (k := 5) (v := .slice pl nl cl) rfl
  have y6 := HX0.out.at (k := 6) (v := .slice pb nb cb) rfl
  have y7 := HX0.out.at (k := 7) (v := .slice pe ne ce) rfl
  have y8 := HX0.out.at (k := 8) (v := .bool ot) rfl
  clear hw hl hn hi q1 q2 q3 q4 q5 q6 hxg hx0 h0 h1 hnn hh
  go_enter Tryz.func230,Tryz.ntmps230
  go_wp2_with (first
   | (go_at_call 240; (with_reducible refine (op_says B g bs op H0.out H1.out _ (HW.out.alloc _) HN.out).mono ?_); rintro e w1 ⟨rfl,hw1,hf1⟩; have HW1 := hid hw1; have HF1 := hid (((FR.refl B g w).alloc _).trans hf1); have HX1 := hid (HX0.out.fr hf1 (by decide) HXG.out); have y0 := HX1.out.at (k := 0) (v := .int .i64 op) rfl; have y1 := HX1.out.at (k := 1) (v := .int .i64 a) rfl; have y2 := HX1.out.at (k := 2) (v := .int .i64 b) rfl; have y3 := HX1.out.at (k := 3) (v := .int .u64 (n : Nat)) rfl; have y4 := HX1.out.at (k := 4) (v := .int .u64 (h : Nat)) rfl; have y5 := HX1.out.at (k := 5) (v := .slice pl nl cl) rfl; have y6 := HX1.out.at (k := 6) (v := .slice pb nb cb) rfl; have y7 := HX1.out.at (k := 7) (v := .slice pe ne ce) rfl; have y8 := HX1.out.at (k := 8) (v := .bool ot) rfl; clear hw1 hf1)
   | (go_at_call 152; (with_reducible refine (HI _).out.mono ?_); rintro e w2 ⟨rfl,hb⟩; have HWW1 := hid (HW1.out.call hb); have HFF1 := hid (HF1.out.trans (FR.of hb)); have HXX1 := hid (HX1.out.below hb HX1.out.lt); have y0 := HXX1.out.at (k := 0) (v := .int .i64 op) rfl; have y1 := HXX1.out.at (k := 1) (v := .int .i64 a) rfl; have y2 := HXX1.out.at (k := 2) (v := .int .i64 b) rfl; have y3 := HXX1.out.at (k := 3) (v := .int .u64 (n : Nat)) rfl; have y4 := HXX1.out.at (k := 4) (v := .int .u64 (h : Nat)) rfl; have y5 := HXX1.out.at (k := 5) (v := .slice pl nl cl) rfl; have y6 := HXX1.out.at (k := 6) (v := .slice pb nb cb) rfl; have y7 := HXX1.out.at (k := 7) (v := .slice pe ne ce) rfl; have y8 := HXX1.out.at (k := 8) (v := .bool ot) rfl; clear hb)
   | (go_at_call 105; (with_reducible refine (u_says B g _ a _ HWW1.out.base HWW1.out HN1.out).mono ?_); rintro e w5 ⟨rfl,hw',hf⟩; have HV2 := hid hw'; have HG2 := hid (HFF1.out.trans hf); have HY2 := hid (HXX1.out.fr hf (by decide) HXG.out); have y0 := HY2.out.at (k := 0) (v := .int .i64 op) rfl; have y1 := HY2.out.at (k := 1) (v := .int .i64 a) rfl; have y2 := HY2.out.at (k := 2) (v := .int .i64 b) rfl; have y3 := HY2.out.at (k := 3) (v := .int .u64 (n : Nat)) rfl; have y4 := HY2.out.at (k := 4) (v := .int .u64 (h : Nat)) rfl; have y5 := HY2.out.at (k := 5) (v := .slice pl nl cl) rfl; have y6 := HY2.out.at (k := 6) (v := .slice pb nb cb) rfl; have y7 := HY2.out.at (k := 7) (v := .slice pe ne ce) rfl; have y8 := HY2.out.at (k := 8) (v := .bool ot) rfl; clear hw' hf)
   | (go_at_call 105; (with_reducible refine (u_says B g _ b _ HV2.out.base HV2.out HN2.out).mono ?_); rintro e w6 ⟨rfl,hw',hf⟩; have HV3 := hid hw'; have HG3 := hid (HG2.out.trans hf); have HY3 := hid (HY2.out.fr hf (by decide) HXG.out); have y0 := HY3.out.at (k := 0) (v := .int .i64 op) rfl; have y1 := HY3.out.at (k := 1) (v := .int .i64 a) rfl; have y2 := HY3.out.at (k := 2) (v := .int .i64 b) rfl; have y3 := HY3.out.at (k := 3) (v := .int .u64 (n : Nat)) rfl; have y4 := HY3.out.at (k := 4) (v := .int .u64 (h : Nat)) rfl; have y5 := HY3.out.at (k := 5) (v := .slice pl nl cl) rfl; have y6 := HY3.out.at (k := 6) (v := .slice pb nb cb) rfl; have y7 := HY3.out.at (k := 7) (v := .slice pe ne ce) rfl; have y8 := HY3.out.at (k := 8) (v := .bool ot) rfl; clear hw' hf))
  (first | go_end0 | refine bodyPost_ret (results_none rfl _ _ _) rfl ?_)
  exact ⟨rfl,HV3.out,HG3.out⟩
end Go.Proofs.YtjgeedgphcjhoaaGreat
namespace Go.Proofs.YtjgeedgphcjhoaaGreat
open Go.RowKit
set_option maxHeartbeats 4000000 in
theorem instr_6 (B g : Nat) (bs : List UInt8) (op a b : Int) (n h : Nat) (l : List Int) (pl pb pe : Option Addr) (nl cl nb cb ne ce : Nat) (ot : Bool) (w : World) (hw : WR B g bs w) (h0 : 0 ≤ op) (h1 : op < 65024) (hnn : n < 18446744073709551616) (hh : h < 18446744073709551616)
  (hi : ∀ W,Calls Tryz.prog 152 #[.int .i64 op] W fun e w' => e = .returned (.int .i64 6) ∧ Below W.heap.size W w') (hl : LT B g w (.slice pl nl cl) l) (hn : bs.length + 300 + 20 * l.length ≤ 140737488355000) :
  Calls Tryz.prog 230 #[.pointer (some ⟨g,0,none⟩),.agg #[.int .i64 op,.int .i64 a,.int .i64 b,.int .u64 (n : Nat),.int .u64 (h : Nat),.slice pl nl cl,.slice pb nb cb,.slice pe ne ce,.bool ot]] w fun e w' => e = .returned (.tuple #[]) ∧ WR B g (bs ++ opL op ++ (uI l.length ++ List.map byI l)) w' ∧ FR B g w w' := by
 have HI := fun W => hid (hi W)
 have HW := hid hw
 have HLT := hid hl
 have Hn := hid hnn
 have Hh := hid hh
 have HS32 := hid (sgnN_in 32 n (.inl rfl))
 have HS64 := hid (sgnN_in 64 n (.inr rfl))
 have H0 := hid h0
 have H1 := hid h1
 have q1 := opL_len op
 have q2 := uI_len a
 have q3 := uI_len b
 have q4 := usL_len l
 have q5 := uI_len l.length
 have q6 := lowL_len 0 8 n
 have HN := hid (show bs.length + 20 ≤ 140737488355000 by omega)
 have HN1 := hid (show (bs ++ opL op).length + 40 + 10 * l.length ≤ 140737488355000 by simp only [List.length_append,List.length_map,List.length_cons,List.length_nil] at *; omega)
 have hxg : w.heap.size ≠ g := by have := hw.lt; omega
 have HXG := hid hxg
 have hx0 := CA.new w #[.int .i64 op,.int .i64 a,.int .i64 b,.int .u64 (n : Nat),.int .u64 (h : Nat),.slice pl nl cl,.slice pb nb cb,.slice pe ne ce,.bool ot] 39
 have HX0 := hid hx0
 have y0 := HX0.out.at (k := 0) (v := .int .i64 op) rfl
 have y1 := HX0.out.at (k := 1) (v := .int .i64 a) rfl
 have y2 := HX0.out.at (k := 2) (v := .int .i64 b) rfl
 have y3 := HX0.out.at (k := 3) (v := .int .u64 (n : Nat)) rfl
 have y4 := HX0.out.at (k := 4) (v := .int .u64 (h : Nat)) rfl
 have y5 := HX0.out.at (k := 5) (v := .slice pl nl cl) rfl
 have y6 := HX0.out.at (k := 6) (v := .slice pb nb cb) rfl
 have y7 := HX0.out.at (k := 7) (v := .slice pe ne ce) rfl
 have y8 := HX0.out.at (k := 8) (v := .bool ot) rfl
 clear hw hl hn hi q1 q2 q3 q4 q5 q6 hxg hx0 h0 h1 hnn hh
 go_enter Tryz.func230,Tryz.ntmps230
 go_wp2_with (first
  | (go_at_call 240; (with_reducible refine (op_says B g bs op H0.out H1.out _ (HW.out.alloc _) HN.out).mono ?_); rintro e w1 ⟨rfl,hw1,hf1⟩; have HW1 := hid hw1; have HF1 := hid (((FR.refl B g w).alloc _).trans hf1); have HX1 := hid (HX0.out.fr hf1 (by decide) HXG.out); have y0 := HX1.out.at (k := 0) (v := .int .i64 op) rfl; have y1 := HX1.out.at (k := 1) (v := .int .i64 a) rfl; have y2 := HX1.out.at (k := 2) (v := .int .i64 b) rfl; have y3 := HX1.out.at (k := 3) (v := .int .u64 (n : Nat)) rfl; have y4 := HX1.out.at (k := 4) (v := .int .u64 (h : Nat)) rfl; have y5 := HX1.out.at (k := 5) (v := .slice pl nl cl) rfl; have y6 := HX1.out.at (k := 6) (v := .slice pb nb cb) rfl; have y7 := HX1.out.at (k := 7) (v := .slice pe ne ce) rfl; have y8 := HX1.out.at (k := 8) (v := .bool ot) rfl; clear hw1 hf1)
  | (go_at_call 152; (with_reducible refine (HI _).out.mono ?_); rintro e w2 ⟨rfl,hb⟩; have HWW1 := hid (HW1.out.call hb); have HFF1 := hid (HF1.out.trans (FR.of hb)); have HXX1 := hid (HX1.out.below hb HX1.out.lt); have y0 := HXX1.out.at (k := 0) (v := .int .i64 op) rfl; have y1 := HXX1.out.at (k := 1) (v := .int .i64 a) rfl; have y2 := HXX1.out.at (k := 2) (v := .int .i64 b) rfl; have y3 := HXX1.out.at (k := 3) (v := .int .u64 (n : Nat)) rfl; have y4 := HXX1.out.at (k := 4) (v := .int .u64 (h : Nat)) rfl; have y5 := HXX1.out.at (k := 5) (v := .slice pl nl cl) rfl; have y6 := HXX1.out.at (k := 6) (v := .slice pb nb cb) rfl; have y7 := HXX1.out.at (k := 7) (v := .slice pe ne ce) rfl; have y8 := HXX1.out.at (k := 8) (v := .bool ot) rfl; clear hb)
  | (go_at_call 170; (with_reducible refine (wtypes_says B g _ l _ _ HWW1.out (HLT.out.fr HFF1.out) HN1.out).mono ?_); rintro e w5 ⟨rfl,hw',hf⟩; have HV2 := hid hw'; have HG2 := hid (HFF1.out.trans hf); have HY2 := hid (HXX1.out.fr hf (by decide) HXG.out); have y0 := HY2.out.at (k := 0) (v := .int .i64 op) rfl; have y1 := HY2.out.at (k := 1) (v := .int .i64 a) rfl; have y2 := HY2.out.at (k := 2) (v := .int .i64 b) rfl; have y3 := HY2.out.at (k := 3) (v := .int .u64 (n : Nat)) rfl; have y4 := HY2.out.at (k := 4) (v := .int .u64 (h : Nat)) rfl; have y5 := HY2.out.at (k := 5) (v := .slice pl nl cl) rfl; have y6 := HY2.out.at (k := 6) (v := .slice pb nb cb) rfl; have y7 := HY2.out.at (k := 7) (v := .slice pe ne ce) rfl; have y8 := HY2.out.at (k := 8) (v := .bool ot) rfl; clear hw' hf))
 (first | go_end0 | refine bodyPost_ret (results_none rfl _ _ _) rfl ?_)
 exact ⟨rfl,HV2.out,HG2.out⟩
set_option maxHeartbeats 4000000 in
theorem instr_11 (B g : Nat) (bs : List UInt8) (op a b : Int) (n h : Nat) (l : List Int) (pl pb pe : Option Addr) (nl cl nb cb ne ce : Nat) (ot : Bool) (w : World) (hw : WR B g bs w) (h0 : 0 ≤ op) (h1 : op < 65024) (hnn : n < 18446744073709551616) (hh : h < 18446744073709551616)
  (hi : ∀ W,Calls Tryz.prog 152 #[.int .i64 op] W fun e w' => e = .returned (.int .i64 11) ∧ Below W.heap.size W w') (hl : LT B g w (.slice pl nl cl) l) (hn : bs.length + 300 + 20 * l.length ≤ 140737488355000) :
  Calls Tryz.prog 230 #[.pointer (some ⟨g,0,none⟩),.agg #[.int .i64 op,.int .i64 a,.int .i64 b,.int .u64 (n : Nat),.int .u64 (h : Nat),.slice pl nl cl,.slice pb nb cb,.slice pe ne ce,.bool ot]] w fun e w' => e = .returned (.tuple #[]) ∧ WR B g (bs ++ opL op ++ List.map byI [0]) w' ∧ FR B g w w' := by
 have HI := fun W => hid (hi W)
 have HW := hid hw
 have HLT := hid hl
 have Hn := hid hnn
 have Hh := hid hh
 have HS32 := hid (sgnN_in 32 n (.inl rfl))
 have HS64 := hid (sgnN_in 64 n (.inr rfl))
 have H0 := hid h0
 have H1 := hid h1
 have q1 := opL_len op
 have q2 := uI_len a
 have q3 := uI_len b
 have q4 := usL_len l
 have q5 := uI_len l.length
 have q6 := lowL_len 0 8 n
 have HN := hid (show bs.length + 20 ≤ 140737488355000 by omega)
 have HN1 := hid (show (bs ++ opL op).length + ([0] : List Int).length ≤ 140737488355000 by simp only [List.length_append,List.length_map,List.length_cons,List.length_nil] at *; omega)
 have hxg : w.heap.size ≠ g := by have := hw.lt; omega
 have HXG := hid hxg
 have hx0 := CA.new w #[.int .i64 op,.int .i64 a,.int .i64 b,.int .u64 (n : Nat),.int .u64 (h : Nat),.slice pl nl cl,.slice pb nb cb,.slice pe ne ce,.bool ot] 39
 have HX0 := hid hx0
 have y0 := HX0.out.at (k := 0) (v := .int .i64 op) rfl
 have y1 := HX0.out.at (k := 1) (v := .int .i64 a) rfl
 have y2 := HX0.out.at (k := 2) (v := .int .i64 b) rfl
 have y3 := HX0.out.at (k := 3) (v := .int .u64 (n : Nat)) rfl
 have y4 := HX0.out.at (k := 4) (v := .int .u64 (h : Nat)) rfl
 have y5 := HX0.out.at (k := 5) (v := .slice pl nl cl) rfl
 have y6 := HX0.out.at (k := 6) (v := .slice pb nb cb) rfl
 have y7 := HX0.out.at (k := 7) (v := .slice pe ne ce) rfl
 have y8 := HX0.out.at (k := 8) (v := .bool ot) rfl
 clear hw hl hn hi q1 q2 q3 q4 q5 q6 hxg hx0 h0 h1 hnn hh
 go_enter Tryz.func230,Tryz.ntmps230
 go_wp2_with (first
  | (go_at_call 240; (with_reducible refine (op_says B g bs op H0.out H1.out _ (HW.out.alloc _) HN.out).mono ?_); rintro e w1 ⟨rfl,hw1,hf1⟩; have HW1 := hid hw1; have HF1 := hid (((FR.refl B g w).alloc _).trans hf1); have HX1 := hid (HX0.out.fr hf1 (by decide) HXG.out); have y0 := HX1.out.at (k := 0) (v := .int .i64 op) rfl; have y1 := HX1.out.at (k := 1) (v := .int .i64 a) rfl; have y2 := HX1.out.at (k := 2) (v := .int .i64 b) rfl; have y3 := HX1.out.at (k := 3) (v := .int .u64 (n : Nat)) rfl; have y4 := HX1.out.at (k := 4) (v := .int .u64 (h : Nat)) rfl; have y5 := HX1.out.at (k := 5) (v := .slice pl nl cl) rfl; have y6 := HX1.out.at (k := 6) (v := .slice pb nb cb) rfl; have y7 := HX1.out.at (k := 7) (v := .slice pe ne ce) rfl; have y8 := HX1.out.at (k := 8) (v := .bool ot) rfl; clear hw1 hf1)
  | (go_at_call 152; (with_reducible refine (HI _).out.mono ?_); rintro e w2 ⟨rfl,hb⟩; have HWW1 := hid (HW1.out.call hb); have HFF1 := hid (HF1.out.trans (FR.of hb)); have HXX1 := hid (HX1.out.below hb HX1.out.lt); have y0 := HXX1.out.at (k := 0) (v := .int .i64 op) rfl; have y1 := HXX1.out.at (k := 1) (v := .int .i64 a) rfl; have y2 := HXX1.out.at (k := 2) (v := .int .i64 b) rfl; have y3 := HXX1.out.at (k := 3) (v := .int .u64 (n : Nat)) rfl; have y4 := HXX1.out.at (k := 4) (v := .int .u64 (h : Nat)) rfl; have y5 := HXX1.out.at (k := 5) (v := .slice pl nl cl) rfl; have y6 := HXX1.out.at (k := 6) (v := .slice pb nb cb) rfl; have y7 := HXX1.out.at (k := 7) (v := .slice pe ne ce) rfl; have y8 := HXX1.out.at (k := 8) (v := .bool ot) rfl; clear hb)
  | (go_at_call 169; (with_reducible refine (bytes_says B g _ [0] _ _ (HWW1.out.alloc _) (LT.one 0 1 HWW1.out.lt) HN1.out).mono ?_); rintro e w5 ⟨rfl,hw',hf⟩; have HV2 := hid hw'; have HG2 := hid ((HFF1.out.alloc _).trans hf); have HY2 := hid ((HXX1.out.alloc _).fr hf (by decide) HXG.out); have y0 := HY2.out.at (k := 0) (v := .int .i64 op) rfl; have y1 := HY2.out.at (k := 1) (v := .int .i64 a) rfl; have y2 := HY2.out.at (k := 2) (v := .int .i64 b) rfl; have y3 := HY2.out.at (k := 3) (v := .int .u64 (n : Nat)) rfl; have y4 := HY2.out.at (k := 4) (v := .int .u64 (h : Nat)) rfl; have y5 := HY2.out.at (k := 5) (v := .slice pl nl cl) rfl; have y6 := HY2.out.at (k := 6) (v := .slice pb nb cb) rfl; have y7 := HY2.out.at (k := 7) (v := .slice pe ne ce) rfl; have y8 := HY2.out.at (k := 8) (v := .bool ot) rfl; clear hw' hf))
 (first | go_end0 | refine bodyPost_ret (results_none rfl _ _ _) rfl ?_)
 exact ⟨rfl,HV2.out,HG2.out⟩
set_option maxHeartbeats 4000000 in
theorem instr_12 (B g : Nat) (bs : List UInt8) (op a b : Int) (n h : Nat) (l : List Int) (pl pb pe : Option Addr) (nl cl nb cb ne ce : Nat) (ot : Bool) (w : World) (hw : WR B g bs w) (h0 : 0 ≤ op) (h1 : op < 65024) (hnn : n < 18446744073709551616) (hh : h < 18446744073709551616)
  (hi : ∀ W,Calls Tryz.prog 152 #[.int .i64 op] W fun e w' => e = .returned (.int .i64 12) ∧ Below W.heap.size W w') (hl : LT B g w (.slice pl nl cl) l) (hn : bs.length + 300 + 20 * l.length ≤ 140737488355000) :
  Calls Tryz.prog 230 #[.pointer (some ⟨g,0,none⟩),.agg #[.int .i64 op,.int .i64 a,.int .i64 b,.int .u64 (n : Nat),.int .u64 (h : Nat),.slice pl nl cl,.slice pb nb cb,.slice pe ne ce,.bool ot]] w fun e w' => e = .returned (.tuple #[]) ∧ WR B g (bs ++ opL op ++ slist (sgnN 32 n)) w' ∧ FR B g w w' := by
 have HI := fun W => hid (hi W)
 have HW := hid hw
 have HLT := hid hl
 have Hn := hid hnn
 have Hh := hid hh
 have HS32 := hid (sgnN_in 32 n (.inl rfl))
 have HS64 := hid (sgnN_in 64 n (.inr rfl))
 have H0 := hid h0
 have H1 := hid h1
 have q1 := opL_len op
 have q2 := uI_len a
 have q3 := uI_len b
 have q4 := usL_len l
 have q5 := uI_len l.length
 have q6 := lowL_len 0 8 n
 have HN := hid (show bs.length + 20 ≤ 140737488355000 by omega)
 have HN1 := hid (show (bs ++ opL op).length + 10 ≤ 140737488355000 by simp only [List.length_append,List.length_map,List.length_cons,List.length_nil] at *; omega)
 have hxg : w.heap.size ≠ g := by have := hw.lt; omega
 have HXG := hid hxg
 have hx0 := CA.new w #[.int .i64 op,.int .i64 a,.int .i64 b,.int .u64 (n : Nat),.int .u64 (h : Nat),.slice pl nl cl,.slice pb nb cb,.slice pe ne ce,.bool ot] 39
 have HX0 := hid hx0
 have y0 := HX0.out.at (k := 0) (v := .int .i64 op) rfl
 have y1 := HX0.out.at (k := 1) (v := .int .i64 a) rfl
 have y2 := HX0.out.at (k := 2) (v := .int .i64 b) rfl
 have y3 := HX0.out.at (k := 3) (v := .int .u64 (n : Nat)) rfl
 have y4 := HX0.out.at (k := 4) (v := .int .u64 (h : Nat)) rfl
 have y5 := HX0.out.at (k := 5) (v := .slice pl nl cl) rfl
 have y6 := HX0.out.at (k := 6) (v := .slice pb nb cb) rfl
 have y7 := HX0.out.at (k := 7) (v := .slice pe ne ce) rfl
 have y8 := HX0.out.at (k := 8) (v := .bool ot) rfl
 clear hw hl hn hi q1 q2 q3 q4 q5 q6 hxg hx0 h0 h1 hnn hh
 go_enter Tryz.func230,Tryz.ntmps230
 go_wp2_with (first
  | (go_at_call 240; (with_reducible refine (op_says B g bs op H0.out H1.out _ (HW.out.alloc _) HN.out).mono ?_); rintro e w1 ⟨rfl,hw1,hf1⟩; have HW1 := hid hw1; have HF1 := hid (((FR.refl B g w).alloc _).trans hf1); have HX1 := hid (HX0.out.fr hf1 (by decide) HXG.out); have y0 := HX1.out.at (k := 0) (v := .int .i64 op) rfl; have y1 := HX1.out.at (k := 1) (v := .int .i64 a) rfl; have y2 := HX1.out.at (k := 2) (v := .int .i64 b) rfl; have y3 := HX1.out.at (k := 3) (v := .int .u64 (n : Nat)) rfl; have y4 := HX1.out.at (k := 4) (v := .int .u64 (h : Nat)) rfl; have y5 := HX1.out.at (k := 5) (v := .slice pl nl cl) rfl; have y6 := HX1.out.at (k := 6) (v := .slice pb nb cb) rfl; have y7 := HX1.out.at (k := 7) (v := .slice pe ne ce) rfl; have y8 := HX1.out.at (k := 8) (v := .bool ot) rfl; clear hw1 hf1)
  | (go_at_call 152; (with_reducible refine (HI _).out.mono ?_); rintro e w2 ⟨rfl,hb⟩; have HWW1 := hid (HW1.out.call hb); have HFF1 := hid (HF1.out.trans (FR.of hb)); have HXX1 := hid (HX1.out.below hb HX1.out.lt); have y0 := HXX1.out.at (k := 0) (v := .int .i64 op) rfl; have y1 := HXX1.out.at (k := 1) (v := .int .i64 a) rfl; have y2 := HXX1.out.at (k := 2) (v := .int .i64 b) rfl; have y3 := HXX1.out.at (k := 3) (v := .int .u64 (n : Nat)) rfl; have y4 := HXX1.out.at (k := 4) (v := .int .u64 (h : Nat)) rfl; have y5 := HXX1.out.at (k := 5) (v := .slice pl nl cl) rfl; have y6 := HXX1.out.at (k := 6) (v := .slice pb nb cb) rfl; have y7 := HXX1.out.at (k := 7) (v := .slice pe ne ce) rfl; have y8 := HXX1.out.at (k := 8) (v := .bool ot) rfl; clear hb)
  | (go_at_call 244; (with_reducible refine (Signed_32 n Hn.out _).mono ?_); rintro e w3 ⟨rfl,rfl⟩)
  | (go_at_call 243; (with_reducible refine (s_says B g _ (sgnN 32 n) (HS32.out).1 (HS32.out).2 _ HWW1.out.base HWW1.out HN1.out).mono ?_); rintro e w5 ⟨rfl,hw',hf⟩; have HV2 := hid hw'; have HG2 := hid (HFF1.out.trans hf); have HY2 := hid (HXX1.out.fr hf (by decide) HXG.out); have y0 := HY2.out.at (k := 0) (v := .int .i64 op) rfl; have y1 := HY2.out.at (k := 1) (v := .int .i64 a) rfl; have y2 := HY2.out.at (k := 2) (v := .int .i64 b) rfl; have y3 := HY2.out.at (k := 3) (v := .int .u64 (n : Nat)) rfl; have y4 := HY2.out.at (k := 4) (v := .int .u64 (h : Nat)) rfl; have y5 := HY2.out.at (k := 5) (v := .slice pl nl cl) rfl; have y6 := HY2.out.at (k := 6) (v := .slice pb nb cb) rfl; have y7 := HY2.out.at (k := 7) (v := .slice pe ne ce) rfl; have y8 := HY2.out.at (k := 8) (v := .bool ot) rfl; clear hw' hf))
 (first | go_end0 | refine bodyPost_ret (results_none rfl _ _ _) rfl ?_)
 exact ⟨rfl,HV2.out,HG2.out⟩
set_option maxHeartbeats 4000000 in
theorem instr_13 (B g : Nat) (bs : List UInt8) (op a b : Int) (n h : Nat) (l : List Int) (pl pb pe : Option Addr) (nl cl nb cb ne ce : Nat) (ot : Bool) (w : World) (hw : WR B g bs w) (h0 : 0 ≤ op) (h1 : op < 65024) (hnn : n < 18446744073709551616) (hh : h < 18446744073709551616)
  (hi : ∀ W,Calls Tryz.prog 152 #[.int .i64 op] W fun e w' => e = .returned (.int .i64 13) ∧ Below W.heap.size W w') (hl : LT B g w (.slice pl nl cl) l) (hn : bs.length + 300 + 20 * l.length ≤ 140737488355000) :
  Calls Tryz.prog 230 #[.pointer (some ⟨g,0,none⟩),.agg #[.int .i64 op,.int .i64 a,.int .i64 b,.int .u64 (n : Nat),.int .u64 (h : Nat),.slice pl nl cl,.slice pb nb cb,.slice pe ne ce,.bool ot]] w fun e w' => e = .returned (.tuple #[]) ∧ WR B g (bs ++ opL op ++ slist (sgnN 64 n)) w' ∧ FR B g w w' := by
 have HI := fun W => hid (hi W)
 have HW := hid hw
 have HLT := hid hl
 have Hn := hid hnn
 have Hh := hid hh
 have HS32 := hid (sgnN_in 32 n (.inl rfl))
 have HS64 := hid (sgnN_in 64 n (.inr rfl))
 have H0 := hid h0
 have H1 := hid h1
 have q1 := opL_len op
 have q2 := uI_len a
 have q3 := uI_len b
 have q4 := usL_len l
 have q5 := uI_len l.length
 have q6 := lowL_len 0 8 n
 have HN := hid (show bs.length + 20 ≤ 140737488355000 by omega)
 have HN1 := hid (show (bs ++ opL op).length + 10 ≤ 140737488355000 by simp only [List.length_append,List.length_map,List.length_cons,List.length_nil] at *; omega)
 have hxg : w.heap.size ≠ g := by have := hw.lt; omega
 have HXG := hid hxg
 have hx0 := CA.new w #[.int .i64 op,.int .i64 a,.int .i64 b,.int .u64 (n : Nat),.int .u64 (h : Nat),.slice pl nl cl,.slice pb nb cb,.slice pe ne ce,.bool ot] 39
 have HX0 := hid hx0
 have y0 := HX0.out.at (k := 0) (v := .int .i64 op) rfl
 have y1 := HX0.out.at (k := 1) (v := .int .i64 a) rfl
 have y2 := HX0.out.at (k := 2) (v := .int .i64 b) rfl
 have y3 := HX0.out.at (k := 3) (v := .int .u64 (n : Nat)) rfl
 have y4 := HX0.out.at (k := 4) (v := .int .u64 (h : Nat)) rfl
 have y5 := HX0.out.at (k := 5) (v := .slice pl nl cl) rfl
 have y6 := HX0.out.at (k := 6) (v := .slice pb nb cb) rfl
 have y7 := HX0.out.at (k := 7) (v := .slice pe ne ce) rfl
 have y8 := HX0.out.at (k := 8) (v := .bool ot) rfl
 clear hw hl hn hi q1 q2 q3 q4 q5 q6 hxg hx0 h0 h1 hnn hh
 go_enter Tryz.func230,Tryz.ntmps230
 go_wp2_with (first
  | (go_at_call 240; (with_reducible refine (op_says B g bs op H0.out H1.out _ (HW.out.alloc _) HN.out).mono ?_); rintro e w1 ⟨rfl,hw1,hf1⟩; have HW1 := hid hw1; have HF1 := hid (((FR.refl B g w).alloc _).trans hf1); have HX1 := hid (HX0.out.fr hf1 (by decide) HXG.out); have y0 := HX1.out.at (k := 0) (v := .int .i64 op) rfl; have y1 := HX1.out.at (k := 1) (v := .int .i64 a) rfl; have y2 := HX1.out.at (k := 2) (v := .int .i64 b) rfl; have y3 := HX1.out.at (k := 3) (v := .int .u64 (n : Nat)) rfl; have y4 := HX1.out.at (k := 4) (v := .int .u64 (h : Nat)) rfl; have y5 := HX1.out.at (k := 5) (v := .slice pl nl cl) rfl; have y6 := HX1.out.at (k := 6) (v := .slice pb nb cb) rfl; have y7 := HX1.out.at (k := 7) (v := .slice pe ne ce) rfl; have y8 := HX1.out.at (k := 8) (v := .bool ot) rfl; clear hw1 hf1)
  | (go_at_call 152; (with_reducible refine (HI _).out.mono ?_); rintro e w2 ⟨rfl,hb⟩; have HWW1 := hid (HW1.out.call hb); have HFF1 := hid (HF1.out.trans (FR.of hb)); have HXX1 := hid (HX1.out.below hb HX1.out.lt); have y0 := HXX1.out.at (k := 0) (v := .int .i64 op) rfl; have y1 := HXX1.out.at (k := 1) (v := .int .i64 a) rfl; have y2 := HXX1.out.at (k := 2) (v := .int .i64 b) rfl; have y3 := HXX1.out.at (k := 3) (v := .int .u64 (n : Nat)) rfl; have y4 := HXX1.out.at (k := 4) (v := .int .u64 (h : Nat)) rfl; have y5 := HXX1.out.at (k := 5) (v := .slice pl nl cl) rfl; have y6 := HXX1.out.at (k := 6) (v := .slice pb nb cb) rfl; have y7 := HXX1.out.at (k := 7) (v := .slice pe ne ce) rfl; have y8 := HXX1.out.at (k := 8) (v := .bool ot) rfl; clear hb)
  | (go_at_call 244; (with_reducible refine (Signed_64 n Hn.out _).mono ?_); rintro e w3 ⟨rfl,rfl⟩)
  | (go_at_call 243; (with_reducible refine (s_says B g _ (sgnN 64 n) (HS64.out).1 (HS64.out).2 _ HWW1.out.base HWW1.out HN1.out).mono ?_); rintro e w5 ⟨rfl,hw',hf⟩; have HV2 := hid hw'; have HG2 := hid (HFF1.out.trans hf); have HY2 := hid (HXX1.out.fr hf (by decide) HXG.out); have y0 := HY2.out.at (k := 0) (v := .int .i64 op) rfl; have y1 := HY2.out.at (k := 1) (v := .int .i64 a) rfl; have y2 := HY2.out.at (k := 2) (v := .int .i64 b) rfl; have y3 := HY2.out.at (k := 3) (v := .int .u64 (n : Nat)) rfl; have y4 := HY2.out.at (k := 4) (v := .int .u64 (h : Nat)) rfl; have y5 := HY2.out.at (k := 5) (v := .slice pl nl cl) rfl; have y6 := HY2.out.at (k := 6) (v := .slice pb nb cb) rfl; have y7 := HY2.out.at (k := 7) (v := .slice pe ne ce) rfl; have y8 := HY2.out.at (k := 8) (v := .bool ot) rfl; clear hw' hf))
 (first | go_end0 | refine bodyPost_ret (results_none rfl _ _ _) rfl ?_)
 exact ⟨rfl,HV2.out,HG2.out⟩
end Go.Proofs.YtjgeedgphcjhoaaGreat
