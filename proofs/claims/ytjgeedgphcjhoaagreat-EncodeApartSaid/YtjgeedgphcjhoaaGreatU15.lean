/-
  WIns4: merged, what the law does not reach left out (each text says what it holds where it lies in wip). No condition.
-/
import Derived.Test.YtjgeedgphcjhoaaGreatU14
import Derived.Test.YtjgeedgphcjhoaaGreatU01
set_option linter.unusedSimpArgs false
set_option linter.unusedVariables false
set_option maxRecDepth 100000
namespace Go.Proofs.YtjgeedgphcjhoaaGreat
open Go.RowKit
set_option maxHeartbeats 4000000 in
theorem instr_19 (B g : Nat) (bs : List UInt8) (op a b : Int) (n h : Nat) (l : List Int) (pl pb pe : Option Addr) (nl cl nb cb ne ce : Nat) (ot : Bool) (w : World) (hw : WR B g bs w) (h0 : 0 ≤ op) (h1 : op < 65024) (hnn : n < 18446744073709551616) (hh : h < 18446744073709551616)
  (hi : ∀ W,Calls Tryz.prog 152 #[.int .i64 op] W fun e w' => e = .returned (.int .i64 19) ∧ Below W.heap.size W w') (hl : LT B g w (.slice pl nl cl) l) (hn : bs.length + 300 + 20 * l.length ≤ 140737488355000) :
  Calls Tryz.prog 230 #[.pointer (some ⟨g,0,none⟩),.agg #[.int .i64 op,.int .i64 a,.int .i64 b,.int .u64 n,.int .u64 h,.slice pl nl cl,.slice pb nb cb,.slice pe ne ce,.bool ot]] w fun e w' => e = .returned (.tuple #[]) ∧ WR B g (bs ++ opL op ++ List.map byI [0,0]) w' ∧ FR B g w w' := by
 have HI := fun W => hid (hi W)
 have HW := hid hw
 have HLT := hid hl
 have Hn := hid hnn
 have Hh := hid hh
 have HS32 := hid (sgnN_in 32 n (.inl rfl))
 have HS64 := hid (sgnN_in 64 n (.inr rfl))
 have H0 := hid h0
 have H1 := hid h1
 have q1 := opL_len op
 have q2 := uI_len a
 have q3 := uI_len b
 have q4 := usL_len l
 have q5 := uI_len l.length
 have q6 := lowL_len 0 8 n
 have HN := hid (show bs.length + 20 ≤ 140737488355000 by omega)
 have HN1 := hid (show (bs ++ opL op).length + ([0,0] : List Int).length ≤ 140737488355000 by simp only [List.length_append,List.length_map,List.length_cons,List.length_nil] at *; omega)
 have hxg : w.heap.size ≠ g := by have := hw.lt; omega
 have HXG := hid hxg
 have hx0 := CA.new w #[.int .i64 op,.int .i64 a,.int .i64 b,.int .u64 n,.int .u64 h,.slice pl nl cl,.slice pb nb cb,.slice pe ne ce,.bool ot] 39
 have HX0 := hid hx0
 obtain ⟨y0,y1,y2,y3,y4,y5,y6,y7,y8⟩ := ca9 HX0.out
 clear hw hl hn hi q1 q2 q3 q4 q5 q6 hxg hx0 h0 h1 hnn hh
 go_enter Tryz.func230,Tryz.ntmps230
 go_wp2_with (first
  | (go_at_call 240; (with_reducible refine (op_says B g bs op H0.out H1.out _ (HW.out.alloc _) HN.out).mono ?_); rintro e w1 ⟨rfl,hw1,hf1⟩; have HW1 := hid hw1; have HF1 := hid (((FR.refl B g w).alloc _).trans hf1); have HX1 := hid (HX0.out.fr hf1 (by decide) HXG.out); obtain ⟨y0,y1,y2,y3,y4,y5,y6,y7,y8⟩ := ca9 HX1.out; clear hw1 hf1)
  | (go_at_call 152; (with_reducible refine (HI _).out.mono ?_); rintro e w2 ⟨rfl,hb⟩; have HWW1 := hid (HW1.out.call hb); have HFF1 := hid (HF1.out.trans (FR.of hb)); have HXX1 := hid (HX1.out.below hb HX1.out.lt); obtain ⟨y0,y1,y2,y3,y4,y5,y6,y7,y8⟩ := ca9 HXX1.out; clear hb)
  | (go_at_call 169; (with_reducible refine (bytes_says B g _ [0,0] _ _ (HWW1.out.alloc _) (LT.two 0 0 2 HWW1.out.lt) HN1.out).mono ?_); rintro e w5 ⟨rfl,hw',hf⟩; have HV2 := hid hw'; have HG2 := hid ((HFF1.out.alloc _).trans hf); have HY2 := hid ((HXX1.out.alloc _).fr hf (by decide) HXG.out); obtain ⟨y0,y1,y2,y3,y4,y5,y6,y7,y8⟩ := ca9 HY2.out; clear hw' hf))
 (first | go_end0 | refine bodyPost_ret (results_none rfl _ _ _) rfl ?_)
 exact ⟨rfl,HV2.out,HG2.out⟩
set_option maxHeartbeats 4000000 in
theorem instr_23 (B g : Nat) (bs : List UInt8) (op a b : Int) (n h : Nat) (l : List Int) (pl pb pe : Option Addr) (nl cl nb cb ne ce : Nat) (ot : Bool) (w : World) (hw : WR B g bs w) (h0 : 0 ≤ op) (h1 : op < 65024) (hnn : n < 18446744073709551616) (hh : h < 18446744073709551616)
  (hi : ∀ W,Calls Tryz.prog 152 #[.int .i64 op] W fun e w' => e = .returned (.int .i64 23) ∧ Below W.heap.size W w') (hl : LT B g w (.slice pl nl cl) l) (hn : bs.length + 300 + 20 * l.length ≤ 140737488355000) :
  Calls Tryz.prog 230 #[.pointer (some ⟨g,0,none⟩),.agg #[.int .i64 op,.int .i64 a,.int .i64 b,.int .u64 n,.int .u64 h,.slice pl nl cl,.slice pb nb cb,.slice pe ne ce,.bool ot]] w fun e w' => e = .returned (.tuple #[]) ∧ WR B g (bs ++ opL op ++ lowL 8 n ++ lowL 8 h) w' ∧ FR B g w w' := by
 have HI := fun W => hid (hi W)
 have HW := hid hw
 have HLT := hid hl
 have Hn := hid hnn
 have Hh := hid hh
 have HS32 := hid (sgnN_in 32 n (.inl rfl))
 have HS64 := hid (sgnN_in 64 n (.inr rfl))
 have H0 := hid h0
 have H1 := hid h1
 have q1 := opL_len op
 have q2 := uI_len a
 have q3 := uI_len b
 have q4 := usL_len l
 have q5 := uI_len l.length
 have q6 := lowL_len 0 8 n
 have HN := hid (show bs.length + 20 ≤ 140737488355000 by omega)
 have HN1 := hid (show (bs ++ opL op).length + 120 ≤ 140737488355000 by simp only [List.length_append,List.length_map,List.length_cons,List.length_nil] at *; omega)
 have HN2 := hid (show (bs ++ opL op ++ lowL 8 n).length + 120 ≤ 140737488355000 by simp only [List.length_append,List.length_map,List.length_cons,List.length_nil] at *; omega)
 have hxg : w.heap.size ≠ g := by have := hw.lt; omega
 have HXG := hid hxg
 have hx0 := CA.new w #[.int .i64 op,.int .i64 a,.int .i64 b,.int .u64 n,.int .u64 h,.slice pl nl cl,.slice pb nb cb,.slice pe ne ce,.bool ot] 39
 have HX0 := hid hx0
 obtain ⟨y0,y1,y2,y3,y4,y5,y6,y7,y8⟩ := ca9 HX0.out
 clear hw hl hn hi q1 q2 q3 q4 q5 q6 hxg hx0 h0 h1 hnn hh
 go_enter Tryz.func230,Tryz.ntmps230
 go_wp2_with (first
  | (go_at_call 240; (with_reducible refine (op_says B g bs op H0.out H1.out _ (HW.out.alloc _) HN.out).mono ?_); rintro e w1 ⟨rfl,hw1,hf1⟩; have HW1 := hid hw1; have HF1 := hid (((FR.refl B g w).alloc _).trans hf1); have HX1 := hid (HX0.out.fr hf1 (by decide) HXG.out); obtain ⟨y0,y1,y2,y3,y4,y5,y6,y7,y8⟩ := ca9 HX1.out; clear hw1 hf1)
  | (go_at_call 152; (with_reducible refine (HI _).out.mono ?_); rintro e w2 ⟨rfl,hb⟩; have HWW1 := hid (HW1.out.call hb); have HFF1 := hid (HF1.out.trans (FR.of hb)); have HXX1 := hid (HX1.out.below hb HX1.out.lt); obtain ⟨y0,y1,y2,y3,y4,y5,y6,y7,y8⟩ := ca9 HXX1.out; clear hb)
  | (go_at_call 245; (with_reducible refine (little_8 B g _ n Hn.out _ HWW1.out HN1.out).mono ?_); rintro e w5 ⟨rfl,hw',hf⟩; have HV2 := hid hw'; have HG2 := hid (HFF1.out.trans hf); have HY2 := hid (HXX1.out.fr hf (by decide) HXG.out); obtain ⟨y0,y1,y2,y3,y4,y5,y6,y7,y8⟩ := ca9 HY2.out; clear hw' hf)
  | (go_at_call 245; (with_reducible refine (little_8 B g _ h Hh.out _ HV2.out HN2.out).mono ?_); rintro e w6 ⟨rfl,hw',hf⟩; have HV3 := hid hw'; have HG3 := hid (HG2.out.trans hf); have HY3 := hid (HY2.out.fr hf (by decide) HXG.out); obtain ⟨y0,y1,y2,y3,y4,y5,y6,y7,y8⟩ := ca9 HY3.out; clear hw' hf))
 (first | go_end0 | refine bodyPost_ret (results_none rfl _ _ _) rfl ?_)
 exact ⟨rfl,HV3.out,HG3.out⟩
set_option maxHeartbeats 4000000 in
theorem instr_24 (B g : Nat) (bs : List UInt8) (op a b : Int) (n h : Nat) (l : List Int) (pl pb pe : Option Addr) (nl cl nb cb ne ce : Nat) (ot : Bool) (w : World) (hw : WR B g bs w) (h0 : 0 ≤ op) (h1 : op < 65024) (hnn : n < 18446744073709551616) (hh : h < 18446744073709551616)
  (hi : ∀ W,Calls Tryz.prog 152 #[.int .i64 op] W fun e w' => e = .returned (.int .i64 24) ∧ Below W.heap.size W w') (hl : LT B g w (.slice pl nl cl) l) (hn : bs.length + 300 + 20 * l.length ≤ 140737488355000) :
  Calls Tryz.prog 230 #[.pointer (some ⟨g,0,none⟩),.agg #[.int .i64 op,.int .i64 a,.int .i64 b,.int .u64 n,.int .u64 h,.slice pl nl cl,.slice pb nb cb,.slice pe ne ce,.bool ot]] w fun e w' => e = .returned (.tuple #[]) ∧ WR B g (bs ++ opL op ++ List.map byI l) w' ∧ FR B g w w' := by
 have HI := fun W => hid (hi W)
 have HW := hid hw
 have HLT := hid hl
 have Hn := hid hnn
 have Hh := hid hh
 have HS32 := hid (sgnN_in 32 n (.inl rfl))
 have HS64 := hid (sgnN_in 64 n (.inr rfl))
 have H0 := hid h0
 have H1 := hid h1
 have q1 := opL_len op
 have q2 := uI_len a
 have q3 := uI_len b
 have q4 := usL_len l
 have q5 := uI_len l.length
 have q6 := lowL_len 0 8 n
 have HN := hid (show bs.length + 20 ≤ 140737488355000 by omega)
 have HN1 := hid (show (bs ++ opL op).length + l.length ≤ 140737488355000 by simp only [List.length_append,List.length_map,List.length_cons,List.length_nil] at *; omega)
 have hxg : w.heap.size ≠ g := by have := hw.lt; omega
 have HXG := hid hxg
 have hx0 := CA.new w #[.int .i64 op,.int .i64 a,.int .i64 b,.int .u64 n,.int .u64 h,.slice pl nl cl,.slice pb nb cb,.slice pe ne ce,.bool ot] 39
 have HX0 := hid hx0
 obtain ⟨y0,y1,y2,y3,y4,y5,y6,y7,y8⟩ := ca9 HX0.out
 clear hw hl hn hi q1 q2 q3 q4 q5 q6 hxg hx0 h0 h1 hnn hh
 go_enter Tryz.func230,Tryz.ntmps230
 go_wp2_with (first
  | (go_at_call 240; (with_reducible refine (op_says B g bs op H0.out H1.out _ (HW.out.alloc _) HN.out).mono ?_); rintro e w1 ⟨rfl,hw1,hf1⟩; have HW1 := hid hw1; have HF1 := hid (((FR.refl B g w).alloc _).trans hf1); have HX1 := hid (HX0.out.fr hf1 (by decide) HXG.out); obtain ⟨y0,y1,y2,y3,y4,y5,y6,y7,y8⟩ := ca9 HX1.out; clear hw1 hf1)
  | (go_at_call 152; (with_reducible refine (HI _).out.mono ?_); rintro e w2 ⟨rfl,hb⟩; have HWW1 := hid (HW1.out.call hb); have HFF1 := hid (HF1.out.trans (FR.of hb)); have HXX1 := hid (HX1.out.below hb HX1.out.lt); obtain ⟨y0,y1,y2,y3,y4,y5,y6,y7,y8⟩ := ca9 HXX1.out; clear hb)
  | (go_at_call 169; (with_reducible refine (bytes_says B g _ l _ _ HWW1.out (HLT.out.fr HFF1.out) HN1.out).mono ?_); rintro e w5 ⟨rfl,hw',hf⟩; have HV2 := hid hw'; have HG2 := hid (HFF1.out.trans hf); have HY2 := hid (HXX1.out.fr hf (by decide) HXG.out); obtain ⟨y0,y1,y2,y3,y4,y5,y6,y7,y8⟩ := ca9 HY2.out; clear hw' hf))
 (first | go_end0 | refine bodyPost_ret (results_none rfl _ _ _) rfl ?_)
 exact ⟨rfl,HV2.out,HG2.out⟩
set_option maxHeartbeats 4000000 in
theorem instr_26 (B g : Nat) (bs : List UInt8) (op a b : Int) (n h : Nat) (l : List Int) (pl pb pe : Option Addr) (nl cl nb cb ne ce : Nat) (ot : Bool) (w : World) (hw : WR B g bs w) (h0 : 0 ≤ op) (h1 : op < 65024) (hnn : n < 18446744073709551616) (hh : h < 18446744073709551616)
  (hi : ∀ W,Calls Tryz.prog 152 #[.int .i64 op] W fun e w' => e = .returned (.int .i64 26) ∧ Below W.heap.size W w') (hl : LT B g w (.slice pl nl cl) l) (hn : bs.length + 300 + 20 * l.length ≤ 140737488355000) :
  Calls Tryz.prog 230 #[.pointer (some ⟨g,0,none⟩),.agg #[.int .i64 op,.int .i64 a,.int .i64 b,.int .u64 n,.int .u64 h,.slice pl nl cl,.slice pb nb cb,.slice pe ne ce,.bool ot]] w fun e w' => e = .returned (.tuple #[]) ∧ WR B g (bs ++ opL op ++ uI a ++ uI b ++ List.map byI l) w' ∧ FR B g w w' := by
 have HI := fun W => hid (hi W)
 have HW := hid hw
 have HLT := hid hl
 have Hn := hid hnn
 have Hh := hid hh
 have HS32 := hid (sgnN_in 32 n (.inl rfl))
 have HS64 := hid (sgnN_in 64 n (.inr rfl))
 have H0 := hid h0
 have H1 := hid h1
 have q1 := opL_len op
 have q2 := uI_len a
 have q3 := uI_len b
 have q4 := usL_len l
 have q5 := uI_len l.length
 have q6 := lowL_len 0 8 n
 have HN := hid (show bs.length + 20 ≤ 140737488355000 by omega)
 have HN1 := hid (show (bs ++ opL op).length + 10 ≤ 140737488355000 by simp only [List.length_append,List.length_map,List.length_cons,List.length_nil] at *; omega)
 have HN2 := hid (show (bs ++ opL op ++ uI a).length + 10 ≤ 140737488355000 by simp only [List.length_append,List.length_map,List.length_cons,List.length_nil] at *; omega)
 have HN3 := hid (show (bs ++ opL op ++ uI a ++ uI b).length + l.length ≤ 140737488355000 by simp only [List.length_append,List.length_map,List.length_cons,List.length_nil] at *; omega)
 have hxg : w.heap.size ≠ g := by have := hw.lt; omega
 have HXG := hid hxg
 have hx0 := CA.new w #[.int .i64 op,.int .i64 a,.int .i64 b,.int .u64 n,.int .u64 h,.slice pl nl cl,.slice pb nb cb,.slice pe ne ce,.bool ot] 39
 have HX0 := hid hx0
 obtain ⟨y0,y1,y2,y3,y4,y5,y6,y7,y8⟩ := ca9 HX0.out
 clear hw hl hn hi q1 q2 q3 q4 q5 q6 hxg hx0 h0 h1 hnn hh
 go_enter Tryz.func230,Tryz.ntmps230
 go_wp2_with (first
  | (go_at_call 240; (with_reducible refine (op_says B g bs op H0.out H1.out _ (HW.out.alloc _) HN.out).mono ?_); rintro e w1 ⟨rfl,hw1,hf1⟩; have HW1 := hid hw1; have HF1 := hid (((FR.refl B g w).alloc _).trans hf1); have HX1 := hid (HX0.out.fr hf1 (by decide) HXG.out); obtain ⟨y0,y1,y2,y3,y4,y5,y6,y7,y8⟩ := ca9 HX1.out; clear hw1 hf1)
  | (go_at_call 152; (with_reducible refine (HI _).out.mono ?_); rintro e w2 ⟨rfl,hb⟩; have HWW1 := hid (HW1.out.call hb); have HFF1 := hid (HF1.out.trans (FR.of hb)); have HXX1 := hid (HX1.out.below hb HX1.out.lt); obtain ⟨y0,y1,y2,y3,y4,y5,y6,y7,y8⟩ := ca9 HXX1.out; clear hb)
  | (go_at_call 105; (with_reducible refine (u_says B g _ a _ HWW1.out.base HWW1.out HN1.out).mono ?_); rintro e w5 ⟨rfl,hw',hf⟩; have HV2 := hid hw'; have HG2 := hid (HFF1.out.trans hf); have HY2 := hid (HXX1.out.fr hf (by decide) HXG.out); obtain ⟨y0,y1,y2,y3,y4,y5,y6,y7,y8⟩ := ca9 HY2.out; clear hw' hf)
  | (go_at_call 105; (with_reducible refine (u_says B g _ b _ HV2.out.base HV2.out HN2.out).mono ?_); rintro e w6 ⟨rfl,hw',hf⟩; have HV3 := hid hw'; have HG3 := hid (HG2.out.trans hf); have HY3 := hid (HY2.out.fr hf (by decide) HXG.out); obtain ⟨y0,y1,y2,y3,y4,y5,y6,y7,y8⟩ := ca9 HY3.out; clear hw' hf)
  | (go_at_call 169; (with_reducible refine (bytes_says B g _ l _ _ HV3.out (HLT.out.fr HG3.out) HN3.out).mono ?_); rintro e w7 ⟨rfl,hw',hf⟩; have HV4 := hid hw'; have HG4 := hid (HG3.out.trans hf); have HY4 := hid (HY3.out.fr hf (by decide) HXG.out); obtain ⟨y0,y1,y2,y3,y4,y5,y6,y7,y8⟩ := ca9 HY4.out; clear hw' hf))
 (first | go_end0 | refine bodyPost_ret (results_none rfl _ _ _) rfl ?_)
 exact ⟨rfl,HV4.out,HG4.out⟩
end Go.Proofs.YtjgeedgphcjhoaaGreat
