/-
  WTypes, WIns1, WIns2, WIns3: merged, what the law does not reach left out (each text says what it holds where it lies in wip). No condition.
-/
import Derived.Test.YtjgeedgphcjhoaaGreatU13
import Derived.Test.YtjgeedgphcjhoaaGreatU01
set_option linter.unusedSimpArgs false
set_option linter.unusedVariables false
set_option maxRecDepth 100000
namespace Go.Proofs.YtjgeedgphcjhoaaGreat
open Go.RowKit
theorem cl_types (B g b : Nat) (hbg : b ≠ g) (bs : List UInt8) (x : Int) (W : World) (hw : WR B g bs W) (hb : CA b #[.pointer (some ⟨g,0,none⟩)] 135 W) (hn : bs.length + 20 ≤ 140737488355000) :
  Calls Tryz.prog 227 #[.int .i64 x,.pointer (some ⟨b,0,none⟩)] W fun e w' => e = .returned (.tuple #[]) ∧ WR B g (bs ++ [byI x]) w' ∧ FR B g W w' := by
 have y0 := hb.at (k := 0) (v := .pointer (some ⟨g,0,none⟩)) rfl
 have HW := hid hw
 have HN1 := fun x : Int => hid (show bs.length + [x].length ≤ 140737488355000 by simp; omega)
 clear hw hb hn hbg
 go_enter Tryz.func227,Tryz.ntmps227
 go_wp2_with (go_at_call 169; (with_reducible refine (bytes_says B g bs [x] _ _ (HW.out.alloc _) (LT.one x 1 HW.out.lt) (HN1 _).out).mono ?_); rintro e w1 ⟨rfl,hw1,hf1⟩; have HW1 := hid hw1; have HF1 := hid (((FR.refl B g W).alloc _).trans hf1); clear hw1 hf1)
 (first | go_end0 | refine bodyPost_ret (results_none rfl _ _ _) rfl ?_)
 exact ⟨rfl,HW1.out,HF1.out⟩
theorem cl_indices (B g b : Nat) (hbg : b ≠ g) (bs : List UInt8) (x : Int) (W : World) (hw : WR B g bs W) (hb : CA b #[.pointer (some ⟨g,0,none⟩)] 135 W) (hn : bs.length + 20 ≤ 140737488355000) :
  Calls Tryz.prog 266 #[.int .i64 x,.pointer (some ⟨b,0,none⟩)] W fun e w' => e = .returned (.tuple #[]) ∧ WR B g (bs ++ uI x) w' ∧ FR B g W w' := by
 have y0 := hb.at (k := 0) (v := .pointer (some ⟨g,0,none⟩)) rfl
 have HW := hid hw
 have HN1 := hid (show bs.length + 10 ≤ 140737488355000 by omega)
 clear hw hb hn hbg
 go_enter Tryz.func266,Tryz.ntmps266
 go_wp2_with (go_at_call 105; (with_reducible refine (u_says B g bs x _ HW.out.base HW.out HN1.out).mono ?_); rintro e w1 ⟨rfl,hw1,hf1⟩; have HW1 := hid hw1; have HF1 := hid hf1; clear hw1 hf1)
 (first | go_end0 | refine bodyPost_ret (results_none rfl _ _ _) rfl ?_)
 exact ⟨rfl,HW1.out,HF1.out⟩
set_option maxHeartbeats 1000000 in
theorem wtypes_says (B g : Nat) (bs : List UInt8) (l : List Int) (v : Value) (w : World) (hw : WR B g bs w) (hl : LT B g w v l) (hn : bs.length + 40 + 10 * l.length ≤ 140737488355000) :
  Calls Tryz.prog 170 #[.pointer (some ⟨g,0,none⟩),v] w fun e w' => e = .returned (.tuple #[]) ∧ WR B g (bs ++ (uI l.length ++ l.map byI)) w' ∧ FR B g w w' := by
 have hmf : ∀ (fn : Fn) (first cap : Array Value) (w : World),(Instr.makeFunc fn first cap).run Tryz.prog w = .ok (.func fn first cap) w := fun _ _ _ _ => rfl
 have hbg : w.heap.size ≠ g := by have := hw.lt; omega
 have hc0 := CA.new w #[.pointer (some ⟨g,0,none⟩)] 135
 have y0 := hc0.at (k := 0) (v := .pointer (some ⟨g,0,none⟩)) rfl
 have HF0 := hid ((FR.refl B g w).alloc (.cells #[.pointer (some ⟨g,0,none⟩)] 135))
 have HL := hid (list_int B g w.heap.size 227 (fun _ _ => rfl) (fun x => [byI x]) (fun _ => by simp) bs l v _ hbg hc0 (fun bs x W h1 h2 h3 => cl_types B g _ hbg bs x W h1 h2 h3) (hw.alloc (.cells #[.pointer (some ⟨g,0,none⟩)] 135)) (hl.fr HF0.out) hn)
 obtain ⟨p,c,rfl,_,_⟩ := hl
 rw [flL_by] at HL
 clear hw hc0 hn
 go_enter Tryz.func170,Tryz.ntmps170
 go_wp2_with (go_at_call 226; (with_reducible refine HL.out.mono ?_); rintro e w1 ⟨rfl,hw1,hf1⟩; have HW1 := hid hw1; have HF1 := hid (HF0.out.trans hf1); clear hw1 hf1)
 (first | go_end0 | refine bodyPost_ret (results_none rfl _ _ _) rfl ?_)
 exact ⟨rfl,by rw [← List.append_assoc]; exact HW1.out,HF1.out⟩
set_option maxHeartbeats 1000000 in
theorem indices_says (B g : Nat) (bs : List UInt8) (l : List Int) (v : Value) (w : World) (hw : WR B g bs w) (hl : LT B g w v l) (hn : bs.length + 40 + 10 * l.length ≤ 140737488355000) :
  Calls Tryz.prog 242 #[.pointer (some ⟨g,0,none⟩),v] w fun e w' => e = .returned (.tuple #[]) ∧ WR B g (bs ++ (uI l.length ++ usL l)) w' ∧ FR B g w w' := by
 have hmf : ∀ (fn : Fn) (first cap : Array Value) (w : World),(Instr.makeFunc fn first cap).run Tryz.prog w = .ok (.func fn first cap) w := fun _ _ _ _ => rfl
 have hbg : w.heap.size ≠ g := by have := hw.lt; omega
 have hc0 := CA.new w #[.pointer (some ⟨g,0,none⟩)] 135
 have y0 := hc0.at (k := 0) (v := .pointer (some ⟨g,0,none⟩)) rfl
 have HF0 := hid ((FR.refl B g w).alloc (.cells #[.pointer (some ⟨g,0,none⟩)] 135))
 have HL := hid (list_int B g w.heap.size 266 (fun _ _ => rfl) uI uI_len bs l v _ hbg hc0 (fun bs x W h1 h2 h3 => cl_indices B g _ hbg bs x W h1 h2 h3) (hw.alloc (.cells #[.pointer (some ⟨g,0,none⟩)] 135)) (hl.fr HF0.out) hn)
 obtain ⟨p,c,rfl,_,_⟩ := hl
 rw [flL_us] at HL
 clear hw hc0 hn
 go_enter Tryz.func242,Tryz.ntmps242
 go_wp2_with (go_at_call 226; (with_reducible refine HL.out.mono ?_); rintro e w1 ⟨rfl,hw1,hf1⟩; have HW1 := hid hw1; have HF1 := hid (HF0.out.trans hf1); clear hw1 hf1)
 (first | go_end0 | refine bodyPost_ret (results_none rfl _ _ _) rfl ?_)
 exact ⟨rfl,by rw [← List.append_assoc]; exact HW1.out,HF1.out⟩
theorem known_32 (w : World) : Calls Tryz.prog 268 #[.int .i64 32] w fun e w' => e = .returned (.bool true) ∧ w = w' := by
 go_enter Tryz.func268,Tryz.ntmps268
 go_wp2
 go_ret
 exact ⟨rfl,rfl⟩
theorem known_64 (w : World) : Calls Tryz.prog 268 #[.int .i64 64] w fun e w' => e = .returned (.bool true) ∧ w = w' := by
 go_enter Tryz.func268,Tryz.ntmps268
 go_wp2
 go_ret
 exact ⟨rfl,rfl⟩
theorem ret_int {k : IntKind} {a b : Int} (h : a = b) : Ending.returned (.int k a) = .returned (.int k b) := by rw [h]
theorem Signed_32 (a : Nat) (ha : a < 18446744073709551616) (w : World) : Calls Tryz.prog 244 #[.int .i64 32,.int .u64 (a : Nat)] w fun e w' => e = .returned (.int .i64 (sgnN 32 a)) ∧ w = w' := by
 have HK := fun W => hid (known_32 W)
 have ha0 : 0 ≤ (a : Int) := by omega
 have ha1 : (a : Int) < 18446744073709551616 := by omega
 go_enter Tryz.func244,Tryz.ntmps244
 go_wp2_with (go_at_call 268; (with_reducible refine (HK _).out.mono ?_); rintro e w' ⟨rfl,rfl⟩)
 go_ret
 exact ⟨ret_int (by simp only [sgnN,IntKind.wrap_u64,wrap64]; simp; omega),rfl⟩
theorem Signed_64 (a : Nat) (ha : a < 18446744073709551616) (w : World) : Calls Tryz.prog 244 #[.int .i64 64,.int .u64 (a : Nat)] w fun e w' => e = .returned (.int .i64 (sgnN 64 a)) ∧ w = w' := by
 have HK := fun W => hid (known_64 W)
 have ha0 : 0 ≤ (a : Int) := by omega
 have ha1 : (a : Int) < 18446744073709551616 := by omega
 go_enter Tryz.func244,Tryz.ntmps244
 go_wp2_with (go_at_call 268; (with_reducible refine (HK _).out.mono ?_); rintro e w' ⟨rfl,rfl⟩)
 go_ret
 exact ⟨ret_int (by simp only [sgnN,wrap64]; simp; omega),rfl⟩
end Go.Proofs.YtjgeedgphcjhoaaGreat
namespace Go.Proofs.YtjgeedgphcjhoaaGreat
open Go.RowKit
set_option maxHeartbeats 4000000 in
theorem instr_0 (B g : Nat) (bs : List UInt8) (op a b : Int) (n h : Nat) (l : List Int) (pl pb pe : Option Addr) (nl cl nb cb ne ce : Nat) (ot : Bool) (w : World) (hw : WR B g bs w) (h0 : 0 ≤ op) (h1 : op < 65024) (hnn : n < 18446744073709551616) (hh : h < 18446744073709551616)
  (hi : ∀ W,Calls Tryz.prog 152 #[.int .i64 op] W fun e w' => e = .returned (.int .i64 0) ∧ Below W.heap.size W w') (hl : LT B g w (.slice pl nl cl) l) (hn : bs.length + 300 + 20 * l.length ≤ 140737488355000) :
  Calls Tryz.prog 230 #[.pointer (some ⟨g,0,none⟩),.agg #[.int .i64 op,.int .i64 a,.int .i64 b,.int .u64 n,.int .u64 h,.slice pl nl cl,.slice pb nb cb,.slice pe ne ce,.bool ot]] w fun e w' => e = .returned (.tuple #[]) ∧ WR B g (bs ++ opL op) w' ∧ FR B g w w' := by
 have HI := fun W => hid (hi W)
 have HW := hid hw
 have HLT := hid hl
 have Hn := hid hnn
 have Hh := hid hh
 have HS32 := hid (sgnN_in 32 n (.inl rfl))
 have HS64 := hid (sgnN_in 64 n (.inr rfl))
 have H0 := hid h0
 have H1 := hid h1
 have q1 := opL_len op
 have q2 := uI_len a
 have q3 := uI_len b
 have q4 := usL_len l
 have q5 := uI_len l.length
 have q6 := lowL_len 0 8 n
 have HN := hid (show bs.length + 20 ≤ 140737488355000 by omega)
 have hxg : w.heap.size ≠ g := by have := hw.lt; omega
 have HXG := hid hxg
 have hx0 := CA.new w #[.int .i64 op,.int .i64 a,.int .i64 b,.int .u64 n,.int .u64 h,.slice pl nl cl,.slice pb nb cb,.slice pe ne ce,.bool ot] 39
 have HX0 := hid hx0
 obtain ⟨y0,y1,y2,y3,y4,y5,y6,y7,y8⟩ := ca9 HX0.out
 clear hw hl hn hi q1 q2 q3 q4 q5 q6 hxg hx0 h0 h1 hnn hh
 go_enter Tryz.func230,Tryz.ntmps230
 go_wp2_with (first
  | (go_at_call 240; (with_reducible refine (op_says B g bs op H0.out H1.out _ (HW.out.alloc _) HN.out).mono ?_); rintro e w1 ⟨rfl,hw1,hf1⟩; have HW1 := hid hw1; have HF1 := hid (((FR.refl B g w).alloc _).trans hf1); have HX1 := hid (HX0.out.fr hf1 (by decide) HXG.out); obtain ⟨y0,y1,y2,y3,y4,y5,y6,y7,y8⟩ := ca9 HX1.out; clear hw1 hf1)
  | (go_at_call 152; (with_reducible refine (HI _).out.mono ?_); rintro e w2 ⟨rfl,hb⟩; have HWW1 := hid (HW1.out.call hb); have HFF1 := hid (HF1.out.trans (FR.of hb)); have HXX1 := hid (HX1.out.below hb HX1.out.lt); obtain ⟨y0,y1,y2,y3,y4,y5,y6,y7,y8⟩ := ca9 HXX1.out; clear hb))
 (first | go_end0 | refine bodyPost_ret (results_none rfl _ _ _) rfl ?_)
 exact ⟨rfl,HWW1.out,HFF1.out⟩
set_option maxHeartbeats 4000000 in
theorem instr_2 (K : Int) (hK : K = 2 ∨ K = 4 ∨ K = 7 ∨ K = 8 ∨ K = 9 ∨ K = 18 ∨ K = 21) (B g : Nat) (bs : List UInt8) (op a b : Int) (n h : Nat) (l : List Int) (pl pb pe : Option Addr) (nl cl nb cb ne ce : Nat) (ot : Bool) (w : World) (hw : WR B g bs w) (h0 : 0 ≤ op) (h1 : op < 65024) (hnn : n < 18446744073709551616) (hh : h < 18446744073709551616)
  (hi : ∀ W,Calls Tryz.prog 152 #[.int .i64 op] W fun e w' => e = .returned (.int .i64 K) ∧ Below W.heap.size W w') (hl : LT B g w (.slice pl nl cl) l) (hn : bs.length + 300 + 20 * l.length ≤ 140737488355000) :
  Calls Tryz.prog 230 #[.pointer (some ⟨g,0,none⟩),.agg #[.int .i64 op,.int .i64 a,.int .i64 b,.int .u64 n,.int .u64 h,.slice pl nl cl,.slice pb nb cb,.slice pe ne ce,.bool ot]] w fun e w' => e = .returned (.tuple #[]) ∧ WR B g (bs ++ opL op ++ uI a) w' ∧ FR B g w w' := by
 rcases hK with rfl | rfl | rfl | rfl | rfl | rfl | rfl
 all_goals
  have HI := fun W => hid (hi W)
  have HW := hid hw
  have HLT := hid hl
  have Hn := hid hnn
  have Hh := hid hh
  have HS32 := hid (sgnN_in 32 n (.inl rfl))
  have HS64 := hid (sgnN_in 64 n (.inr rfl))
  have H0 := hid h0
  have H1 := hid h1
  have q1 := opL_len op
  have q2 := uI_len a
  have q3 := uI_len b
  have q4 := usL_len l
  have q5 := uI_len l.length
  have q6 := lowL_len 0 8 n
  have HN := hid (show bs.length + 20 ≤ 140737488355000 by omega)
  have HN1 := hid (show (bs ++ opL op).length + 10 ≤ 140737488355000 by simp only [List.length_append,List.length_map,List.length_cons,List.length_nil] at *; omega)
  have hxg : w.heap.size ≠ g := by have := hw.lt; omega
  have HXG := hid hxg
  have hx0 := CA.new w #[.int .i64 op,.int .i64 a,.int .i64 b,.int .u64 n,.int .u64 h,.slice pl nl cl,.slice pb nb cb,.slice pe ne ce,.bool ot] 39
  have HX0 := hid hx0
  obtain ⟨y0,y1,y2,y3,y4,y5,y6,y7,y8⟩ := ca9 HX0.out
  clear hw hl hn hi q1 q2 q3 q4 q5 q6 hxg hx0 h0 h1 hnn hh
  go_enter Tryz.func230,Tryz.ntmps230
  go_wp2_with (first
   | (go_at_call 240; (with_reducible refine (op_says B g bs op H0.out H1.out _ (HW.out.alloc _) HN.out).mono ?_); rintro e w1 ⟨rfl,hw1,hf1⟩; have HW1 := hid hw1; have HF1 := hid (((FR.refl B g w).alloc _).trans hf1); have HX1 := hid (HX0.out.fr hf1 (by decide) HXG.out); obtain ⟨y0,y1,y2,y3,y4,y5,y6,y7,y8⟩ := ca9 HX1.out; clear hw1 hf1)
   | (go_at_call 152; (with_reducible refine (HI _).out.mono ?_); rintro e w2 ⟨rfl,hb⟩; have HWW1 := hid (HW1.out.call hb); have HFF1 := hid (HF1.out.trans (FR.of hb)); have HXX1 := hid (HX1.out.below hb HX1.out.lt); obtain ⟨y0,y1,y2,y3,y4,y5,y6,y7,y8⟩ := ca9 HXX1.out; clear hb)
   | (go_at_call 105; (with_reducible refine (u_says B g _ a _ HWW1.out.base HWW1.out HN1.out).mono ?_); rintro e w5 ⟨rfl,hw',hf⟩; have HV2 := hid hw'; have HG2 := hid (HFF1.out.trans hf); have HY2 := hid (HXX1.out.fr hf (by decide) HXG.out); obtain ⟨y0,y1,y2,y3,y4,y5,y6,y7,y8⟩ := ca9 HY2.out; clear hw' hf))
  (first | go_end0 | refine bodyPost_ret (results_none rfl _ _ _) rfl ?_)
  exact ⟨rfl,HV2.out,HG2.out⟩
set_option maxHeartbeats 4000000 in
theorem instr_3 (B g : Nat) (bs : List UInt8) (op a b : Int) (n h : Nat) (l : List Int) (pl pb pe : Option Addr) (nl cl nb cb ne ce : Nat) (ot : Bool) (w : World) (hw : WR B g bs w) (h0 : 0 ≤ op) (h1 : op < 65024) (hnn : n < 18446744073709551616) (hh : h < 18446744073709551616)
  (hi : ∀ W,Calls Tryz.prog 152 #[.int .i64 op] W fun e w' => e = .returned (.int .i64 3) ∧ Below W.heap.size W w') (hl : LT B g w (.slice pl nl cl) l) (hn : bs.length + 300 + 20 * l.length ≤ 140737488355000) :
  Calls Tryz.prog 230 #[.pointer (some ⟨g,0,none⟩),.agg #[.int .i64 op,.int .i64 a,.int .i64 b,.int .u64 n,.int .u64 h,.slice pl nl cl,.slice pb nb cb,.slice pe ne ce,.bool ot]] w fun e w' => e = .returned (.tuple #[]) ∧ WR B g (bs ++ opL op ++ (uI l.length ++ usL l) ++ uI a) w' ∧ FR B g w w' := by
 have HI := fun W => hid (hi W)
 have HW := hid hw
 have HLT := hid hl
 have Hn := hid hnn
 have Hh := hid hh
 have HS32 := hid (sgnN_in 32 n (.inl rfl))
 have HS64 := hid (sgnN_in 64 n (.inr rfl))
 have H0 := hid h0
 have H1 := hid h1
 have q1 := opL_len op
 have q2 := uI_len a
 have q3 := uI_len b
 have q4 := usL_len l
 have q5 := uI_len l.length
 have q6 := lowL_len 0 8 n
 have HN := hid (show bs.length + 20 ≤ 140737488355000 by omega)
 have HN1 := hid (show (bs ++ opL op).length + 40 + 10 * l.length ≤ 140737488355000 by simp only [List.length_append,List.length_map,List.length_cons,List.length_nil] at *; omega)
 have HN2 := hid (show (bs ++ opL op ++ (uI l.length ++ usL l)).length + 10 ≤ 140737488355000 by simp only [List.length_append,List.length_map,List.length_cons,List.length_nil] at *; omega)
 have hxg : w.heap.size ≠ g := by have := hw.lt; omega
 have HXG := hid hxg
 have hx0 := CA.new w #[.int .i64 op,.int .i64 a,.int .i64 b,.int .u64 n,.int .u64 h,.slice pl nl cl,.slice pb nb cb,.slice pe ne ce,.bool ot] 39
 have HX0 := hid hx0
 obtain ⟨y0,y1,y2,y3,y4,y5,y6,y7,y8⟩ := ca9 HX0.out
 clear hw hl hn hi q1 q2 q3 q4 q5 q6 hxg hx0 h0 h1 hnn hh
 go_enter Tryz.func230,Tryz.ntmps230
 go_wp2_with (first
  | (go_at_call 240; (with_reducible refine (op_says B g bs op H0.out H1.out _ (HW.out.alloc _) HN.out).mono ?_); rintro e w1 ⟨rfl,hw1,hf1⟩; have HW1 := hid hw1; have HF1 := hid (((FR.refl B g w).alloc _).trans hf1); have HX1 := hid (HX0.out.fr hf1 (by decide) HXG.out); obtain ⟨y0,y1,y2,y3,y4,y5,y6,y7,y8⟩ := ca9 HX1.out; clear hw1 hf1)
  | (go_at_call 152; (with_reducible refine (HI _).out.mono ?_); rintro e w2 ⟨rfl,hb⟩; have HWW1 := hid (HW1.out.call hb); have HFF1 := hid (HF1.out.trans (FR.of hb)); have HXX1 := hid (HX1.out.below hb HX1.out.lt); obtain ⟨y0,y1,y2,y3,y4,y5,y6,y7,y8⟩ := ca9 HXX1.out; clear hb)
  | (go_at_call 242; (with_reducible refine (indices_says B g _ l _ _ HWW1.out (HLT.out.fr HFF1.out) HN1.out).mono ?_); rintro e w5 ⟨rfl,hw',hf⟩; have HV2 := hid hw'; have HG2 := hid (HFF1.out.trans hf); have HY2 := hid (HXX1.out.fr hf (by decide) HXG.out); obtain ⟨y0,y1,y2,y3,y4,y5,y6,y7,y8⟩ := ca9 HY2.out; clear hw' hf)
  | (go_at_call 105; (with_reducible refine (u_says B g _ a _ HV2.out.base HV2.out HN2.out).mono ?_); rintro e w6 ⟨rfl,hw',hf⟩; have HV3 := hid hw'; have HG3 := hid (HG2.out.trans hf); have HY3 := hid (HY2.out.fr hf (by decide) HXG.out); obtain ⟨y0,y1,y2,y3,y4,y5,y6,y7,y8⟩ := ca9 HY3.out; clear hw' hf))
 (first | go_end0 | refine bodyPost_ret (results_none rfl _ _ _) rfl ?_)
 exact ⟨rfl,HV3.out,HG3.out⟩
set_option maxHeartbeats 4000000 in
theorem instr_5 (K : Int) (hK : K = 5 ∨ K = 10 ∨ K = 20 ∨ K = 22) (B g : Nat) (bs : List UInt8) (op a b : Int) (n h : Nat) (l : List Int) (pl pb pe : Option Addr) (nl cl nb cb ne ce : Nat) (ot : Bool) (w : World) (hw : WR B g bs w) (h0 : 0 ≤ op) (h1 : op < 65024) (hnn : n < 18446744073709551616) (hh : h < 18446744073709551616)
  (hi : ∀ W,Calls Tryz.prog 152 #[.int .i64 op] W fun e w' => e = .returned (.int .i64 K) ∧ Below W.heap.size W w') (hl : LT B g w (.slice pl nl cl) l) (hn : bs.length + 300 + 20 * l.length ≤ 140737488355000) :
  Calls Tryz.prog 230 #[.pointer (some ⟨g,0,none⟩),.agg #[.int .i64 op,.int .i64 a,.int .i64 b,.int .u64 n,.int .u64 h,.slice pl nl cl,.slice pb nb cb,.slice pe ne ce,.bool ot]] w fun e w' => e = .returned (.tuple #[]) ∧ WR B g (bs ++ opL op ++ uI a ++ uI b) w' ∧ FR B g w w' := by
 rcases hK with rfl | rfl | rfl | rfl
 all_goals
  have HI := fun W => hid (hi W)
  have HW := hid hw
  have HLT := hid hl
  have Hn := hid hnn
  have Hh := hid hh
  have HS32 := hid (sgnN_in 32 n (.inl rfl))
  have HS64 := hid (sgnN_in 64 n (.inr rfl))
  have H0 := hid h0
  have H1 := hid h1
  have q1 := opL_len op
  have q2 := uI_len a
  have q3 := uI_len b
  have q4 := usL_len l
  have q5 := uI_len l.length
  have q6 := lowL_len 0 8 n
  have HN := hid (show bs.length + 20 ≤ 140737488355000 by omega)
  have HN1 := hid (show (bs ++ opL op).length + 10 ≤ 140737488355000 by simp only [List.length_append,List.length_map,List.length_cons,List.length_nil] at *; omega)
  have HN2 := hid (show (bs ++ opL op ++ uI a).length + 10 ≤ 140737488355000 by simp only [List.length_append,List.length_map,List.length_cons,List.length_nil] at *; omega)
  have hxg : w.heap.size ≠ g := by have := hw.lt; omega
  have HXG := hid hxg
  have hx0 := CA.new w #[.int .i64 op,.int .i64 a,.int .i64 b,.int .u64 n,.int .u64 h,.slice pl nl cl,.slice pb nb cb,.slice pe ne ce,.bool ot] 39
  have HX0 := hid hx0
  obtain ⟨y0,y1,y2,y3,y4,y5,y6,y7,y8⟩ := ca9 HX0.out
  clear hw hl hn hi q1 q2 q3 q4 q5 q6 hxg hx0 h0 h1 hnn hh
  go_enter Tryz.func230,Tryz.ntmps230
  go_wp2_with (first
   | (go_at_call 240; (with_reducible refine (op_says B g bs op H0.out H1.out _ (HW.out.alloc _) HN.out).mono ?_); rintro e w1 ⟨rfl,hw1,hf1⟩; have HW1 := hid hw1; have HF1 := hid (((FR.refl B g w).alloc _).trans hf1); have HX1 := hid (HX0.out.fr hf1 (by decide) HXG.out); obtain ⟨y0,y1,y2,y3,y4,y5,y6,y7,y8⟩ := ca9 HX1.out; clear hw1 hf1)
   | (go_at_call 152; (with_reducible refine (HI _).out.mono ?_); rintro e w2 ⟨rfl,hb⟩; have HWW1 := hid (HW1.out.call hb); have HFF1 := hid (HF1.out.trans (FR.of hb)); have HXX1 := hid (HX1.out.below hb HX1.out.lt); obtain ⟨y0,y1,y2,y3,y4,y5,y6,y7,y8⟩ := ca9 HXX1.out; clear hb)
   | (go_at_call 105; (with_reducible refine (u_says B g _ a _ HWW1.out.base HWW1.out HN1.out).mono ?_); rintro e w5 ⟨rfl,hw',hf⟩; have HV2 := hid hw'; have HG2 := hid (HFF1.out.trans hf); have HY2 := hid (HXX1.out.fr hf (by decide) HXG.out); obtain ⟨y0,y1,y2,y3,y4,y5,y6,y7,y8⟩ := ca9 HY2.out; clear hw' hf)
   | (go_at_call 105; (with_reducible refine (u_says B g _ b _ HV2.out.base HV2.out HN2.out).mono ?_); rintro e w6 ⟨rfl,hw',hf⟩; have HV3 := hid hw'; have HG3 := hid (HG2.out.trans hf); have HY3 := hid (HY2.out.fr hf (by decide) HXG.out); obtain ⟨y0,y1,y2,y3,y4,y5,y6,y7,y8⟩ := ca9 HY3.out; clear hw' hf))
  (first | go_end0 | refine bodyPost_ret (results_none rfl _ _ _) rfl ?_)
  exact ⟨rfl,HV3.out,HG3.out⟩
end Go.Proofs.YtjgeedgphcjhoaaGreat
namespace Go.Proofs.YtjgeedgphcjhoaaGreat
open Go.RowKit
set_option maxHeartbeats 4000000 in
theorem instr_6 (B g : Nat) (bs : List UInt8) (op a b : Int) (n h : Nat) (l : List Int) (pl pb pe : Option Addr) (nl cl nb cb ne ce : Nat) (ot : Bool) (w : World) (hw : WR B g bs w) (h0 : 0 ≤ op) (h1 : op < 65024) (hnn : n < 18446744073709551616) (hh : h < 18446744073709551616)
  (hi : ∀ W,Calls Tryz.prog 152 #[.int .i64 op] W fun e w' => e = .returned (.int .i64 6) ∧ Below W.heap.size W w') (hl : LT B g w (.slice pl nl cl) l) (hn : bs.length + 300 + 20 * l.length ≤ 140737488355000) :
  Calls Tryz.prog 230 #[.pointer (some ⟨g,0,none⟩),.agg #[.int .i64 op,.int .i64 a,.int .i64 b,.int .u64 n,.int .u64 h,.slice pl nl cl,.slice pb nb cb,.slice pe ne ce,.bool ot]] w fun e w' => e = .returned (.tuple #[]) ∧ WR B g (bs ++ opL op ++ (uI l.length ++ List.map byI l)) w' ∧ FR B g w w' := by
 have HI := fun W => hid (hi W)
 have HW := hid hw
 have HLT := hid hl
 have Hn := hid hnn
 have Hh := hid hh
 have HS32 := hid (sgnN_in 32 n (.inl rfl))
 have HS64 := hid (sgnN_in 64 n (.inr rfl))
 have H0 := hid h0
 have H1 := hid h1
 have q1 := opL_len op
 have q2 := uI_len a
 have q3 := uI_len b
 have q4 := usL_len l
 have q5 := uI_len l.length
 have q6 := lowL_len 0 8 n
 have HN := hid (show bs.length + 20 ≤ 140737488355000 by omega)
 have HN1 := hid (show (bs ++ opL op).length + 40 + 10 * l.length ≤ 140737488355000 by simp only [List.length_append,List.length_map,List.length_cons,List.length_nil] at *; omega)
 have hxg : w.heap.size ≠ g := by have := hw.lt; omega
 have HXG := hid hxg
 have hx0 := CA.new w #[.int .i64 op,.int .i64 a,.int .i64 b,.int .u64 n,.int .u64 h,.slice pl nl cl,.slice pb nb cb,.slice pe ne ce,.bool ot] 39
 have HX0 := hid hx0
 obtain ⟨y0,y1,y2,y3,y4,y5,y6,y7,y8⟩ := ca9 HX0.out
 clear hw hl hn hi q1 q2 q3 q4 q5 q6 hxg hx0 h0 h1 hnn hh
 go_enter Tryz.func230,Tryz.ntmps230
 go_wp2_with (first
  | (go_at_call 240; (with_reducible refine (op_says B g bs op H0.out H1.out _ (HW.out.alloc _) HN.out).mono ?_); rintro e w1 ⟨rfl,hw1,hf1⟩; have HW1 := hid hw1; have HF1 := hid (((FR.refl B g w).alloc _).trans hf1); have HX1 := hid (HX0.out.fr hf1 (by decide) HXG.out); obtain ⟨y0,y1,y2,y3,y4,y5,y6,y7,y8⟩ := ca9 HX1.out; clear hw1 hf1)
  | (go_at_call 152; (with_reducible refine (HI _).out.mono ?_); rintro e w2 ⟨rfl,hb⟩; have HWW1 := hid (HW1.out.call hb); have HFF1 := hid (HF1.out.trans (FR.of hb)); have HXX1 := hid (HX1.out.below hb HX1.out.lt); obtain ⟨y0,y1,y2,y3,y4,y5,y6,y7,y8⟩ := ca9 HXX1.out; clear hb)
  | (go_at_call 170; (with_reducible refine (wtypes_says B g _ l _ _ HWW1.out (HLT.out.fr HFF1.out) HN1.out).mono ?_); rintro e w5 ⟨rfl,hw',hf⟩; have HV2 := hid hw'; have HG2 := hid (HFF1.out.trans hf); have HY2 := hid (HXX1.out.fr hf (by decide) HXG.out); obtain ⟨y0,y1,y2,y3,y4,y5,y6,y7,y8⟩ := ca9 HY2.out; clear hw' hf))
 (first | go_end0 | refine bodyPost_ret (results_none rfl _ _ _) rfl ?_)
 exact ⟨rfl,HV2.out,HG2.out⟩
set_option maxHeartbeats 4000000 in
theorem instr_11 (B g : Nat) (bs : List UInt8) (op a b : Int) (n h : Nat) (l : List Int) (pl pb pe : Option Addr) (nl cl nb cb ne ce : Nat) (ot : Bool) (w : World) (hw : WR B g bs w) (h0 : 0 ≤ op) (h1 : op < 65024) (hnn : n < 18446744073709551616) (hh : h < 18446744073709551616)
  (hi : ∀ W,Calls Tryz.prog 152 #[.int .i64 op] W fun e w' => e = .returned (.int .i64 11) ∧ Below W.heap.size W w') (hl : LT B g w (.slice pl nl cl) l) (hn : bs.length + 300 + 20 * l.length ≤ 140737488355000) :
  Calls Tryz.prog 230 #[.pointer (some ⟨g,0,none⟩),.agg #[.int .i64 op,.int .i64 a,.int .i64 b,.int .u64 n,.int .u64 h,.slice pl nl cl,.slice pb nb cb,.slice pe ne ce,.bool ot]] w fun e w' => e = .returned (.tuple #[]) ∧ WR B g (bs ++ opL op ++ List.map byI [0]) w' ∧ FR B g w w' := by
 have HI := fun W => hid (hi W)
 have HW := hid hw
 have HLT := hid hl
 have Hn := hid hnn
 have Hh := hid hh
 have HS32 := hid (sgnN_in 32 n (.inl rfl))
 have HS64 := hid (sgnN_in 64 n (.inr rfl))
 have H0 := hid h0
 have H1 := hid h1
 have q1 := opL_len op
 have q2 := uI_len a
 have q3 := uI_len b
 have q4 := usL_len l
 have q5 := uI_len l.length
 have q6 := lowL_len 0 8 n
 have HN := hid (show bs.length + 20 ≤ 140737488355000 by omega)
 have HN1 := hid (show (bs ++ opL op).length + ([0] : List Int).length ≤ 140737488355000 by simp only [List.length_append,List.length_map,List.length_cons,List.length_nil] at *; omega)
 have hxg : w.heap.size ≠ g := by have := hw.lt; omega
 have HXG := hid hxg
 have hx0 := CA.new w #[.int .i64 op,.int .i64 a,.int .i64 b,.int .u64 n,.int .u64 h,.slice pl nl cl,.slice pb nb cb,.slice pe ne ce,.bool ot] 39
 have HX0 := hid hx0
 obtain ⟨y0,y1,y2,y3,y4,y5,y6,y7,y8⟩ := ca9 HX0.out
 clear hw hl hn hi q1 q2 q3 q4 q5 q6 hxg hx0 h0 h1 hnn hh
 go_enter Tryz.func230,Tryz.ntmps230
 go_wp2_with (first
  | (go_at_call 240; (with_reducible refine (op_says B g bs op H0.out H1.out _ (HW.out.alloc _) HN.out).mono ?_); rintro e w1 ⟨rfl,hw1,hf1⟩; have HW1 := hid hw1; have HF1 := hid (((FR.refl B g w).alloc _).trans hf1); have HX1 := hid (HX0.out.fr hf1 (by decide) HXG.out); obtain ⟨y0,y1,y2,y3,y4,y5,y6,y7,y8⟩ := ca9 HX1.out; clear hw1 hf1)
  | (go_at_call 152; (with_reducible refine (HI _).out.mono ?_); rintro e w2 ⟨rfl,hb⟩; have HWW1 := hid (HW1.out.call hb); have HFF1 := hid (HF1.out.trans (FR.of hb)); have HXX1 := hid (HX1.out.below hb HX1.out.lt); obtain ⟨y0,y1,y2,y3,y4,y5,y6,y7,y8⟩ := ca9 HXX1.out; clear hb)
  | (go_at_call 169; (with_reducible refine (bytes_says B g _ [0] _ _ (HWW1.out.alloc _) (LT.one 0 1 HWW1.out.lt) HN1.out).mono ?_); rintro e w5 ⟨rfl,hw',hf⟩; have HV2 := hid hw'; have HG2 := hid ((HFF1.out.alloc _).trans hf); have HY2 := hid ((HXX1.out.alloc _).fr hf (by decide) HXG.out); obtain ⟨y0,y1,y2,y3,y4,y5,y6,y7,y8⟩ := ca9 HY2.out; clear hw' hf))
 (first | go_end0 | refine bodyPost_ret (results_none rfl _ _ _) rfl ?_)
 exact ⟨rfl,HV2.out,HG2.out⟩
set_option maxHeartbeats 4000000 in
theorem instr_12 (B g : Nat) (bs : List UInt8) (op a b : Int) (n h : Nat) (l : List Int) (pl pb pe : Option Addr) (nl cl nb cb ne ce : Nat) (ot : Bool) (w : World) (hw : WR B g bs w) (h0 : 0 ≤ op) (h1 : op < 65024) (hnn : n < 18446744073709551616) (hh : h < 18446744073709551616)
  (hi : ∀ W,Calls Tryz.prog 152 #[.int .i64 op] W fun e w' => e = .returned (.int .i64 12) ∧ Below W.heap.size W w') (hl : LT B g w (.slice pl nl cl) l) (hn : bs.length + 300 + 20 * l.length ≤ 140737488355000) :
  Calls Tryz.prog 230 #[.pointer (some ⟨g,0,none⟩),.agg #[.int .i64 op,.int .i64 a,.int .i64 b,.int .u64 n,.int .u64 h,.slice pl nl cl,.slice pb nb cb,.slice pe ne ce,.bool ot]] w fun e w' => e = .returned (.tuple #[]) ∧ WR B g (bs ++ opL op ++ slist (sgnN 32 n)) w' ∧ FR B g w w' := by
 have HI := fun W => hid (hi W)
 have HW := hid hw
 have HLT := hid hl
 have Hn := hid hnn
 have Hh := hid hh
 have HS32 := hid (sgnN_in 32 n (.inl rfl))
 have HS64 := hid (sgnN_in 64 n (.inr rfl))
 have H0 := hid h0
 have H1 := hid h1
 have q1 := opL_len op
 have q2 := uI_len a
 have q3 := uI_len b
 have q4 := usL_len l
 have q5 := uI_len l.length
 have q6 := lowL_len 0 8 n
 have HN := hid (show bs.length + 20 ≤ 140737488355000 by omega)
 have HN1 := hid (show (bs ++ opL op).length + 10 ≤ 140737488355000 by simp only [List.length_append,List.length_map,List.length_cons,List.length_nil] at *; omega)
 have hxg : w.heap.size ≠ g := by have := hw.lt; omega
 have HXG := hid hxg
 have hx0 := CA.new w #[.int .i64 op,.int .i64 a,.int .i64 b,.int .u64 n,.int .u64 h,.slice pl nl cl,.slice pb nb cb,.slice pe ne ce,.bool ot] 39
 have HX0 := hid hx0
 obtain ⟨y0,y1,y2,y3,y4,y5,y6,y7,y8⟩ := ca9 HX0.out
 clear hw hl hn hi q1 q2 q3 q4 q5 q6 hxg hx0 h0 h1 hnn hh
 go_enter Tryz.func230,Tryz.ntmps230
 go_wp2_with (first
  | (go_at_call 240; (with_reducible refine (op_says B g bs op H0.out H1.out _ (HW.out.alloc _) HN.out).mono ?_); rintro e w1 ⟨rfl,hw1,hf1⟩; have HW1 := hid hw1; have HF1 := hid (((FR.refl B g w).alloc _).trans hf1); have HX1 := hid (HX0.out.fr hf1 (by decide) HXG.out); obtain ⟨y0,y1,y2,y3,y4,y5,y6,y7,y8⟩ := ca9 HX1.out; clear hw1 hf1)
  | (go_at_call 152; (with_reducible refine (HI _).out.mono ?_); rintro e w2 ⟨rfl,hb⟩; have HWW1 := hid (HW1.out.call hb); have HFF1 := hid (HF1.out.trans (FR.of hb)); have HXX1 := hid (HX1.out.below hb HX1.out.lt); obtain ⟨y0,y1,y2,y3,y4,y5,y6,y7,y8⟩ := ca9 HXX1.out; clear hb)
  | (go_at_call 244; (with_reducible refine (Signed_32 n Hn.out _).mono ?_); rintro e w3 ⟨rfl,rfl⟩)
  | (go_at_call 243; (with_reducible refine (s_says B g _ (sgnN 32 n) (HS32.out).1 (HS32.out).2 _ HWW1.out.base HWW1.out HN1.out).mono ?_); rintro e w5 ⟨rfl,hw',hf⟩; have HV2 := hid hw'; have HG2 := hid (HFF1.out.trans hf); have HY2 := hid (HXX1.out.fr hf (by decide) HXG.out); obtain ⟨y0,y1,y2,y3,y4,y5,y6,y7,y8⟩ := ca9 HY2.out; clear hw' hf))
 (first | go_end0 | refine bodyPost_ret (results_none rfl _ _ _) rfl ?_)
 exact ⟨rfl,HV2.out,HG2.out⟩
set_option maxHeartbeats 4000000 in
theorem instr_13 (B g : Nat) (bs : List UInt8) (op a b : Int) (n h : Nat) (l : List Int) (pl pb pe : Option Addr) (nl cl nb cb ne ce : Nat) (ot : Bool) (w : World) (hw : WR B g bs w) (h0 : 0 ≤ op) (h1 : op < 65024) (hnn : n < 18446744073709551616) (hh : h < 18446744073709551616)
  (hi : ∀ W,Calls Tryz.prog 152 #[.int .i64 op] W fun e w' => e = .returned (.int .i64 13) ∧ Below W.heap.size W w') (hl : LT B g w (.slice pl nl cl) l) (hn : bs.length + 300 + 20 * l.length ≤ 140737488355000) :
  Calls Tryz.prog 230 #[.pointer (some ⟨g,0,none⟩),.agg #[.int .i64 op,.int .i64 a,.int .i64 b,.int .u64 n,.int .u64 h,.slice pl nl cl,.slice pb nb cb,.slice pe ne ce,.bool ot]] w fun e w' => e = .returned (.tuple #[]) ∧ WR B g (bs ++ opL op ++ slist (sgnN 64 n)) w' ∧ FR B g w w' := by
 have HI := fun W => hid (hi W)
 have HW := hid hw
 have HLT := hid hl
 have Hn := hid hnn
 have Hh := hid hh
 have HS32 := hid (sgnN_in 32 n (.inl rfl))
 have HS64 := hid (sgnN_in 64 n (.inr rfl))
 have H0 := hid h0
 have H1 := hid h1
 have q1 := opL_len op
 have q2 := uI_len a
 have q3 := uI_len b
 have q4 := usL_len l
 have q5 := uI_len l.length
 have q6 := lowL_len 0 8 n
 have HN := hid (show bs.length + 20 ≤ 140737488355000 by omega)
 have HN1 := hid (show (bs ++ opL op).length + 10 ≤ 140737488355000 by simp only [List.length_append,List.length_map,List.length_cons,List.length_nil] at *; omega)
 have hxg : w.heap.size ≠ g := by have := hw.lt; omega
 have HXG := hid hxg
 have hx0 := CA.new w #[.int .i64 op,.int .i64 a,.int .i64 b,.int .u64 n,.int .u64 h,.slice pl nl cl,.slice pb nb cb,.slice pe ne ce,.bool ot] 39
 have HX0 := hid hx0
 obtain ⟨y0,y1,y2,y3,y4,y5,y6,y7,y8⟩ := ca9 HX0.out
 clear hw hl hn hi q1 q2 q3 q4 q5 q6 hxg hx0 h0 h1 hnn hh
 go_enter Tryz.func230,Tryz.ntmps230
 go_wp2_with (first
  | (go_at_call 240; (with_reducible refine (op_says B g bs op H0.out H1.out _ (HW.out.alloc _) HN.out).mono ?_); rintro e w1 ⟨rfl,hw1,hf1⟩; have HW1 := hid hw1; have HF1 := hid (((FR.refl B g w).alloc _).trans hf1); have HX1 := hid (HX0.out.fr hf1 (by decide) HXG.out); obtain ⟨y0,y1,y2,y3,y4,y5,y6,y7,y8⟩ := ca9 HX1.out; clear hw1 hf1)
  | (go_at_call 152; (with_reducible refine (HI _).out.mono ?_); rintro e w2 ⟨rfl,hb⟩; have HWW1 := hid (HW1.out.call hb); have HFF1 := hid (HF1.out.trans (FR.of hb)); have HXX1 := hid (HX1.out.below hb HX1.out.lt); obtain ⟨y0,y1,y2,y3,y4,y5,y6,y7,y8⟩ := ca9 HXX1.out; clear hb)
  | (go_at_call 244; (with_reducible refine (Signed_64 n Hn.out _).mono ?_); rintro e w3 ⟨rfl,rfl⟩)
  | (go_at_call 243; (with_reducible refine (s_says B g _ (sgnN 64 n) (HS64.out).1 (HS64.out).2 _ HWW1.out.base HWW1.out HN1.out).mono ?_); rintro e w5 ⟨rfl,hw',hf⟩; have HV2 := hid hw'; have HG2 := hid (HFF1.out.trans hf); have HY2 := hid (HXX1.out.fr hf (by decide) HXG.out); obtain ⟨y0,y1,y2,y3,y4,y5,y6,y7,y8⟩ := ca9 HY2.out; clear hw' hf))
 (first | go_end0 | refine bodyPost_ret (results_none rfl _ _ _) rfl ?_)
 exact ⟨rfl,HV2.out,HG2.out⟩
end Go.Proofs.YtjgeedgphcjhoaaGreat
namespace Go.Proofs.YtjgeedgphcjhoaaGreat
open Go.RowKit
set_option maxHeartbeats 4000000 in
theorem instr_14 (B g : Nat) (bs : List UInt8) (op a b : Int) (n h : Nat) (l : List Int) (pl pb pe : Option Addr) (nl cl nb cb ne ce : Nat) (ot : Bool) (w : World) (hw : WR B g bs w) (h0 : 0 ≤ op) (h1 : op < 65024) (hnn : n < 18446744073709551616) (hh : h < 18446744073709551616)
  (hi : ∀ W,Calls Tryz.prog 152 #[.int .i64 op] W fun e w' => e = .returned (.int .i64 14) ∧ Below W.heap.size W w') (hl : LT B g w (.slice pl nl cl) l) (hn : bs.length + 300 + 20 * l.length ≤ 140737488355000) :
  Calls Tryz.prog 230 #[.pointer (some ⟨g,0,none⟩),.agg #[.int .i64 op,.int .i64 a,.int .i64 b,.int .u64 n,.int .u64 h,.slice pl nl cl,.slice pb nb cb,.slice pe ne ce,.bool ot]] w fun e w' => e = .returned (.tuple #[]) ∧ WR B g (bs ++ opL op ++ lowL 4 n) w' ∧ FR B g w w' := by
 have HI := fun W => hid (hi W)
 have HW := hid hw
 have HLT := hid hl
 have Hn := hid hnn
 have Hh := hid hh
 have HS32 := hid (sgnN_in 32 n (.inl rfl))
 have HS64 := hid (sgnN_in 64 n (.inr rfl))
 have H0 := hid h0
 have H1 := hid h1
 have q1 := opL_len op
 have q2 := uI_len a
 have q3 := uI_len b
 have q4 := usL_len l
 have q5 := uI_len l.length
 have q6 := lowL_len 0 8 n
 have HN := hid (show bs.length + 20 ≤ 140737488355000 by omega)
 have HN1 := hid (show (bs ++ opL op).length + 120 ≤ 140737488355000 by simp only [List.length_append,List.length_map,List.length_cons,List.length_nil] at *; omega)
 have hxg : w.heap.size ≠ g := by have := hw.lt; omega
 have HXG := hid hxg
 have hx0 := CA.new w #[.int .i64 op,.int .i64 a,.int .i64 b,.int .u64 n,.int .u64 h,.slice pl nl cl,.slice pb nb cb,.slice pe ne ce,.bool ot] 39
 have HX0 := hid hx0
 obtain ⟨y0,y1,y2,y3,y4,y5,y6,y7,y8⟩ := ca9 HX0.out
 clear hw hl hn hi q1 q2 q3 q4 q5 q6 hxg hx0 h0 h1 hnn hh
 go_enter Tryz.func230,Tryz.ntmps230
 go_wp2_with (first
  | (go_at_call 240; (with_reducible refine (op_says B g bs op H0.out H1.out _ (HW.out.alloc _) HN.out).mono ?_); rintro e w1 ⟨rfl,hw1,hf1⟩; have HW1 := hid hw1; have HF1 := hid (((FR.refl B g w).alloc _).trans hf1); have HX1 := hid (HX0.out.fr hf1 (by decide) HXG.out); obtain ⟨y0,y1,y2,y3,y4,y5,y6,y7,y8⟩ := ca9 HX1.out; clear hw1 hf1)
  | (go_at_call 152; (with_reducible refine (HI _).out.mono ?_); rintro e w2 ⟨rfl,hb⟩; have HWW1 := hid (HW1.out.call hb); have HFF1 := hid (HF1.out.trans (FR.of hb)); have HXX1 := hid (HX1.out.below hb HX1.out.lt); obtain ⟨y0,y1,y2,y3,y4,y5,y6,y7,y8⟩ := ca9 HXX1.out; clear hb)
  | (go_at_call 245; (with_reducible refine (little_4 B g _ n Hn.out _ HWW1.out HN1.out).mono ?_); rintro e w5 ⟨rfl,hw',hf⟩; have HV2 := hid hw'; have HG2 := hid (HFF1.out.trans hf); have HY2 := hid (HXX1.out.fr hf (by decide) HXG.out); obtain ⟨y0,y1,y2,y3,y4,y5,y6,y7,y8⟩ := ca9 HY2.out; clear hw' hf))
 (first | go_end0 | refine bodyPost_ret (results_none rfl _ _ _) rfl ?_)
 exact ⟨rfl,HV2.out,HG2.out⟩
set_option maxHeartbeats 4000000 in
theorem instr_15 (B g : Nat) (bs : List UInt8) (op a b : Int) (n h : Nat) (l : List Int) (pl pb pe : Option Addr) (nl cl nb cb ne ce : Nat) (ot : Bool) (w : World) (hw : WR B g bs w) (h0 : 0 ≤ op) (h1 : op < 65024) (hnn : n < 18446744073709551616) (hh : h < 18446744073709551616)
  (hi : ∀ W,Calls Tryz.prog 152 #[.int .i64 op] W fun e w' => e = .returned (.int .i64 15) ∧ Below W.heap.size W w') (hl : LT B g w (.slice pl nl cl) l) (hn : bs.length + 300 + 20 * l.length ≤ 140737488355000) :
  Calls Tryz.prog 230 #[.pointer (some ⟨g,0,none⟩),.agg #[.int .i64 op,.int .i64 a,.int .i64 b,.int .u64 n,.int .u64 h,.slice pl nl cl,.slice pb nb cb,.slice pe ne ce,.bool ot]] w fun e w' => e = .returned (.tuple #[]) ∧ WR B g (bs ++ opL op ++ lowL 8 n) w' ∧ FR B g w w' := by
 have HI := fun W => hid (hi W)
 have HW := hid hw
 have HLT := hid hl
 have Hn := hid hnn
 have Hh := hid hh
 have HS32 := hid (sgnN_in 32 n (.inl rfl))
 have HS64 := hid (sgnN_in 64 n (.inr rfl))
 have H0 := hid h0
 have H1 := hid h1
 have q1 := opL_len op
 have q2 := uI_len a
 have q3 := uI_len b
 have q4 := usL_len l
 have q5 := uI_len l.length
 have q6 := lowL_len 0 8 n
 have HN := hid (show bs.length + 20 ≤ 140737488355000 by omega)
 have HN1 := hid (show (bs ++ opL op).length + 120 ≤ 140737488355000 by simp only [List.length_append,List.length_map,List.length_cons,List.length_nil] at *; omega)
 have hxg : w.heap.size ≠ g := by have := hw.lt; omega
 have HXG := hid hxg
 have hx0 := CA.new w #[.int .i64 op,.int .i64 a,.int .i64 b,.int .u64 n,.int .u64 h,.slice pl nl cl,.slice pb nb cb,.slice pe ne ce,.bool ot] 39
 have HX0 := hid hx0
 obtain ⟨y0,y1,y2,y3,y4,y5,y6,y7,y8⟩ := ca9 HX0.out
 clear hw hl hn hi q1 q2 q3 q4 q5 q6 hxg hx0 h0 h1 hnn hh
 go_enter Tryz.func230,Tryz.ntmps230
 go_wp2_with (first
  | (go_at_call 240; (with_reducible refine (op_says B g bs op H0.out H1.out _ (HW.out.alloc _) HN.out).mono ?_); rintro e w1 ⟨rfl,hw1,hf1⟩; have HW1 := hid hw1; have HF1 := hid (((FR.refl B g w).alloc _).trans hf1); have HX1 := hid (HX0.out.fr hf1 (by decide) HXG.out); obtain ⟨y0,y1,y2,y3,y4,y5,y6,y7,y8⟩ := ca9 HX1.out; clear hw1 hf1)
  | (go_at_call 152; (with_reducible refine (HI _).out.mono ?_); rintro e w2 ⟨rfl,hb⟩; have HWW1 := hid (HW1.out.call hb); have HFF1 := hid (HF1.out.trans (FR.of hb)); have HXX1 := hid (HX1.out.below hb HX1.out.lt); obtain ⟨y0,y1,y2,y3,y4,y5,y6,y7,y8⟩ := ca9 HXX1.out; clear hb)
  | (go_at_call 245; (with_reducible refine (little_8 B g _ n Hn.out _ HWW1.out HN1.out).mono ?_); rintro e w5 ⟨rfl,hw',hf⟩; have HV2 := hid hw'; have HG2 := hid (HFF1.out.trans hf); have HY2 := hid (HXX1.out.fr hf (by decide) HXG.out); obtain ⟨y0,y1,y2,y3,y4,y5,y6,y7,y8⟩ := ca9 HY2.out; clear hw' hf))
 (first | go_end0 | refine bodyPost_ret (results_none rfl _ _ _) rfl ?_)
 exact ⟨rfl,HV2.out,HG2.out⟩
set_option maxHeartbeats 4000000 in
theorem instr_16 (K : Int) (hK : K = 16 ∨ K = 25) (B g : Nat) (bs : List UInt8) (op a b : Int) (n h : Nat) (l : List Int) (pl pb pe : Option Addr) (nl cl nb cb ne ce : Nat) (ot : Bool) (w : World) (hw : WR B g bs w) (h0 : 0 ≤ op) (h1 : op < 65024) (hnn : n < 18446744073709551616) (hh : h < 18446744073709551616)
  (hi : ∀ W,Calls Tryz.prog 152 #[.int .i64 op] W fun e w' => e = .returned (.int .i64 K) ∧ Below W.heap.size W w') (hl : LT B g w (.slice pl nl cl) l) (hn : bs.length + 300 + 20 * l.length ≤ 140737488355000) :
  Calls Tryz.prog 230 #[.pointer (some ⟨g,0,none⟩),.agg #[.int .i64 op,.int .i64 a,.int .i64 b,.int .u64 n,.int .u64 h,.slice pl nl cl,.slice pb nb cb,.slice pe ne ce,.bool ot]] w fun e w' => e = .returned (.tuple #[]) ∧ WR B g (bs ++ opL op ++ List.map byI [a]) w' ∧ FR B g w w' := by
 rcases hK with rfl | rfl
 all_goals
  have HI := fun W => hid (hi W)
  have HW := hid hw
  have HLT := hid hl
  have Hn := hid hnn
  have Hh := hid hh
  have HS32 := hid (sgnN_in 32 n (.inl rfl))
  have HS64 := hid (sgnN_in 64 n (.inr rfl))
  have H0 := hid h0
  have H1 := hid h1
  have q1 := opL_len op
  have q2 := uI_len a
  have q3 := uI_len b
  have q4 := usL_len l
  have q5 := uI_len l.length
  have q6 := lowL_len 0 8 n
  have HN := hid (show bs.length + 20 ≤ 140737488355000 by omega)
  have HN1 := hid (show (bs ++ opL op).length + ([a] : List Int).length ≤ 140737488355000 by simp only [List.length_append,List.length_map,List.length_cons,List.length_nil] at *; omega)
  have hxg : w.heap.size ≠ g := by have := hw.lt; omega
  have HXG := hid hxg
  have hx0 := CA.new w #[.int .i64 op,.int .i64 a,.int .i64 b,.int .u64 n,.int .u64 h,.slice pl nl cl,.slice pb nb cb,.slice pe ne ce,.bool ot] 39
  have HX0 := hid hx0
  obtain ⟨y0,y1,y2,y3,y4,y5,y6,y7,y8⟩ := ca9 HX0.out
  clear hw hl hn hi q1 q2 q3 q4 q5 q6 hxg hx0 h0 h1 hnn hh
  go_enter Tryz.func230,Tryz.ntmps230
  go_wp2_with (first
   | (go_at_call 240; (with_reducible refine (op_says B g bs op H0.out H1.out _ (HW.out.alloc _) HN.out).mono ?_); rintro e w1 ⟨rfl,hw1,hf1⟩; have HW1 := hid hw1; have HF1 := hid (((FR.refl B g w).alloc _).trans hf1); have HX1 := hid (HX0.out.fr hf1 (by decide) HXG.out); obtain ⟨y0,y1,y2,y3,y4,y5,y6,y7,y8⟩ := ca9 HX1.out; clear hw1 hf1)
   | (go_at_call 152; (with_reducible refine (HI _).out.mono ?_); rintro e w2 ⟨rfl,hb⟩; have HWW1 := hid (HW1.out.call hb); have HFF1 := hid (HF1.out.trans (FR.of hb)); have HXX1 := hid (HX1.out.below hb HX1.out.lt); obtain ⟨y0,y1,y2,y3,y4,y5,y6,y7,y8⟩ := ca9 HXX1.out; clear hb)
   | (go_at_call 169; (with_reducible refine (bytes_says B g _ [a] _ _ (HWW1.out.alloc _) (LT.one a 1 HWW1.out.lt) HN1.out).mono ?_); rintro e w5 ⟨rfl,hw',hf⟩; have HV2 := hid hw'; have HG2 := hid ((HFF1.out.alloc _).trans hf); have HY2 := hid ((HXX1.out.alloc _).fr hf (by decide) HXG.out); obtain ⟨y0,y1,y2,y3,y4,y5,y6,y7,y8⟩ := ca9 HY2.out; clear hw' hf))
  (first | go_end0 | refine bodyPost_ret (results_none rfl _ _ _) rfl ?_)
  exact ⟨rfl,HV2.out,HG2.out⟩
set_option maxHeartbeats 4000000 in
theorem instr_17 (B g : Nat) (bs : List UInt8) (op a b : Int) (n h : Nat) (l : List Int) (pl pb pe : Option Addr) (nl cl nb cb ne ce : Nat) (ot : Bool) (w : World) (hw : WR B g bs w) (h0 : 0 ≤ op) (h1 : op < 65024) (hnn : n < 18446744073709551616) (hh : h < 18446744073709551616)
  (hi : ∀ W,Calls Tryz.prog 152 #[.int .i64 op] W fun e w' => e = .returned (.int .i64 17) ∧ Below W.heap.size W w') (hl : LT B g w (.slice pl nl cl) l) (hn : bs.length + 300 + 20 * l.length ≤ 140737488355000) :
  Calls Tryz.prog 230 #[.pointer (some ⟨g,0,none⟩),.agg #[.int .i64 op,.int .i64 a,.int .i64 b,.int .u64 n,.int .u64 h,.slice pl nl cl,.slice pb nb cb,.slice pe ne ce,.bool ot]] w fun e w' => e = .returned (.tuple #[]) ∧ WR B g (bs ++ opL op ++ uI a ++ List.map byI [0]) w' ∧ FR B g w w' := by
 have HI := fun W => hid (hi W)
 have HW := hid hw
 have HLT := hid hl
 have Hn := hid hnn
 have Hh := hid hh
 have HS32 := hid (sgnN_in 32 n (.inl rfl))
 have HS64 := hid (sgnN_in 64 n (.inr rfl))
 have H0 := hid h0
 have H1 := hid h1
 have q1 := opL_len op
 have q2 := uI_len a
 have q3 := uI_len b
 have q4 := usL_len l
 have q5 := uI_len l.length
 have q6 := lowL_len 0 8 n
 have HN := hid (show bs.length + 20 ≤ 140737488355000 by omega)
 have HN1 := hid (show (bs ++ opL op).length + 10 ≤ 140737488355000 by simp only [List.length_append,List.length_map,List.length_cons,List.length_nil] at *; omega)
 have HN2 := hid (show (bs ++ opL op ++ uI a).length + ([0] : List Int).length ≤ 140737488355000 by simp only [List.length_append,List.length_map,List.length_cons,List.length_nil] at *; omega)
 have hxg : w.heap.size ≠ g := by have := hw.lt; omega
 have HXG := hid hxg
 have hx0 := CA.new w #[.int .i64 op,.int .i64 a,.int .i64 b,.int .u64 n,.int .u64 h,.slice pl nl cl,.slice pb nb cb,.slice pe ne ce,.bool ot] 39
 have HX0 := hid hx0
 obtain ⟨y0,y1,y2,y3,y4,y5,y6,y7,y8⟩ := ca9 HX0.out
 clear hw hl hn hi q1 q2 q3 q4 q5 q6 hxg hx0 h0 h1 hnn hh
 go_enter Tryz.func230,Tryz.ntmps230
 go_wp2_with (first
  | (go_at_call 240; (with_reducible refine (op_says B g bs op H0.out H1.out _ (HW.out.alloc _) HN.out).mono ?_); rintro e w1 ⟨rfl,hw1,hf1⟩; have HW1 := hid hw1; have HF1 := hid (((FR.refl B g w).alloc _).trans hf1); have HX1 := hid (HX0.out.fr hf1 (by decide) HXG.out); obtain ⟨y0,y1,y2,y3,y4,y5,y6,y7,y8⟩ := ca9 HX1.out; clear hw1 hf1)
  | (go_at_call 152; (with_reducible refine (HI _).out.mono ?_); rintro e w2 ⟨rfl,hb⟩; have HWW1 := hid (HW1.out.call hb); have HFF1 := hid (HF1.out.trans (FR.of hb)); have HXX1 := hid (HX1.out.below hb HX1.out.lt); obtain ⟨y0,y1,y2,y3,y4,y5,y6,y7,y8⟩ := ca9 HXX1.out; clear hb)
  | (go_at_call 105; (with_reducible refine (u_says B g _ a _ HWW1.out.base HWW1.out HN1.out).mono ?_); rintro e w5 ⟨rfl,hw',hf⟩; have HV2 := hid hw'; have HG2 := hid (HFF1.out.trans hf); have HY2 := hid (HXX1.out.fr hf (by decide) HXG.out); obtain ⟨y0,y1,y2,y3,y4,y5,y6,y7,y8⟩ := ca9 HY2.out; clear hw' hf)
  | (go_at_call 169; (with_reducible refine (bytes_says B g _ [0] _ _ (HV2.out.alloc _) (LT.one 0 1 HV2.out.lt) HN2.out).mono ?_); rintro e w6 ⟨rfl,hw',hf⟩; have HV3 := hid hw'; have HG3 := hid ((HG2.out.alloc _).trans hf); have HY3 := hid ((HY2.out.alloc _).fr hf (by decide) HXG.out); obtain ⟨y0,y1,y2,y3,y4,y5,y6,y7,y8⟩ := ca9 HY3.out; clear hw' hf))
 (first | go_end0 | refine bodyPost_ret (results_none rfl _ _ _) rfl ?_)
 exact ⟨rfl,HV3.out,HG3.out⟩
end Go.Proofs.YtjgeedgphcjhoaaGreat
