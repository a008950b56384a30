/-
  WBlock: merged, what the law does not reach left out (each text says what it holds where it lies in wip). No condition.
-/
import Derived.Test.YtjgeedgphcjhoaaGreatU14
import Derived.Test.YtjgeedgphcjhoaaGreatU01
set_option linter.unusedSimpArgs false
set_option linter.unusedVariables false
set_option maxRecDepth 100000
namespace Go.Proofs.YtjgeedgphcjhoaaGreat
open Go.RowKit
def Wrote (B g : Nat) (w : World) (v : Value) (E : List UInt8) (sz : Nat) : Prop :=
 ∀ bs W,Below (lo B g) w W → WR B g bs W → bs.length + sz ≤ 140737488355000 → Calls Tryz.prog 208 #[.pointer (some ⟨g,0,none⟩),v] W fun e w' => e = .returned (.tuple #[]) ∧ WR B g (bs ++ E) w' ∧ FR B g W w'
set_option maxHeartbeats 4000000 in
theorem block_0f (B g : Nat) (bs : List UInt8) (op b : Int) (n h : Nat) (pl pb pe : Option Addr) (nl cl nb cb ne ce : Nat) (w : World) (hw : WR B g bs w) (hb : i64C b) (eb ee : List UInt8) (sb se : Nat)
  (h1 : Wrote B g w (.slice pb nb cb) eb sb) (h2 : Wrote B g w (.slice pe ne ce) ee se) (hn : bs.length + 100 + sb + se ≤ 140737488355000) (he1 : eb.length ≤ sb) (he2 : ee.length ≤ se) :
  Calls Tryz.prog 241 #[.pointer (some ⟨g,0,none⟩),.agg #[.int .i64 op,.int .i64 0,.int .i64 b,.int .u64 n,.int .u64 h,.slice pl nl cl,.slice pb nb cb,.slice pe ne ce,.bool false]] w fun e w' => e = .returned (.tuple #[]) ∧ WR B g (bs ++ List.map byI [64] ++ eb ++ List.map byI [11]) w' ∧ FR B g w w' := by
 have HB := fun bs W a b c => hid (h1 bs W a b c)
 have HE := fun bs W a b c => hid (h2 bs W a b c)
 have HW := hid hw
 have HBG := hid hw.1
 have HBW := hid (WR.base hw)
 have HR := hid hb
 have HS := hid (show -9223372036854775808 ≤ b ∧ b ≤ 9223372036854775807 from ⟨hb.1,by have := hb.2; omega⟩)
 have q1 := slist_len b HS.out
 have HN0 := hid (show (bs).length + ([64] : List Int).length ≤ 140737488355000 by (try simp only [List.length_append,List.length_map,List.length_cons,List.length_nil] at *); omega)
 have HN1 := hid (show (bs ++ List.map byI [64]).length + sb ≤ 140737488355000 by (try simp only [List.length_append,List.length_map,List.length_cons,List.length_nil] at *); omega)
 have HN2 := hid (show (bs ++ List.map byI [64] ++ eb).length + ([11] : List Int).length ≤ 140737488355000 by (try simp only [List.length_append,List.length_map,List.length_cons,List.length_nil] at *); omega)
 have hxg : w.heap.size ≠ g := by have := hw.lt; omega
 have HXG := hid hxg
 have hx0 := CA.new w #[.int .i64 op,.int .i64 0,.int .i64 b,.int .u64 n,.int .u64 h,.slice pl nl cl,.slice pb nb cb,.slice pe ne ce,.bool false] 39
 have HX0 := hid hx0
 have HW0 := hid (hw.alloc (.cells #[.int .i64 op,.int .i64 0,.int .i64 b,.int .u64 n,.int .u64 h,.slice pl nl cl,.slice pb nb cb,.slice pe ne ce,.bool false] 39))
 have HF0 := hid ((FR.refl B g w).alloc (.cells #[.int .i64 op,.int .i64 0,.int .i64 b,.int .u64 n,.int .u64 h,.slice pl nl cl,.slice pb nb cb,.slice pe ne ce,.bool false] 39))
 have HL0 : Hid (LT B g ((w.alloc (.cells #[.int .i64 op,.int .i64 0,.int .i64 b,.int .u64 n,.int .u64 h,.slice pl nl cl,.slice pb nb cb,.slice pe ne ce,.bool false] 39)).alloc (.cells #[.int .i64 64] 3)) (.slice (some ⟨w.heap.size + 1,0,none⟩) 1 1) [64]) := by
  have := LT.one (B := B) (w := w.alloc (.cells #[.int .i64 op,.int .i64 0,.int .i64 b,.int .u64 n,.int .u64 h,.slice pl nl cl,.slice pb nb cb,.slice pe ne ce,.bool false] 39)) 64 1 HW0.out.lt
  rw [size_al] at this
  exact this
 obtain ⟨y0,y1,y2,y3,y4,y5,y6,y7,y8⟩ := ca9 HX0.out
 clear hw hn h1 h2 hb q1 hxg hx0 he1 he2
 go_enter Tryz.func241,Tryz.ntmps241
 go_wp2_with (first
  | (go_at_call 169; (with_reducible refine (bytes_says B g _ [64] _ _ (HW0.out.alloc _) HL0.out HN0.out).mono ?_); rintro e w1 ⟨rfl,hw',hf⟩; have HV0 := hid hw'; have HG0 := hid ((HF0.out.alloc _).trans hf); have HY0 := hid ((HX0.out.alloc _).fr hf (by decide) HXG.out); obtain ⟨y0,y1,y2,y3,y4,y5,y6,y7,y8⟩ := ca9 HY0.out; clear hw' hf)
  | (go_at_call 208; (with_reducible refine ((HB _ _ (HG0.out.belowL HBW.out) HV0.out HN1.out).out).mono ?_); rintro e w2 ⟨rfl,hw',hf⟩; have HV1 := hid hw'; have HG1 := hid (HG0.out.trans hf); have HY1 := hid (HY0.out.fr hf (by decide) HXG.out); obtain ⟨y0,y1,y2,y3,y4,y5,y6,y7,y8⟩ := ca9 HY1.out; clear hw' hf)
  | (go_at_call 169; (with_reducible refine (bytes_says B g _ [11] _ _ (HV1.out.alloc _) (LT.one 11 1 HV1.out.lt) HN2.out).mono ?_); rintro e w3 ⟨rfl,hw',hf⟩; have HV2 := hid hw'; have HG2 := hid ((HG1.out.alloc _).trans hf); have HY2 := hid ((HY1.out.alloc _).fr hf (by decide) HXG.out); obtain ⟨y0,y1,y2,y3,y4,y5,y6,y7,y8⟩ := ca9 HY2.out; clear hw' hf))
 (first | go_end0 | refine bodyPost_ret (results_none rfl _ _ _) rfl ?_)
 exact ⟨rfl,HV2.out,HG2.out⟩
set_option maxHeartbeats 4000000 in
theorem block_0t (B g : Nat) (bs : List UInt8) (op b : Int) (n h : Nat) (pl pb pe : Option Addr) (nl cl nb cb ne ce : Nat) (w : World) (hw : WR B g bs w) (hb : i64C b) (eb ee : List UInt8) (sb se : Nat)
  (h1 : Wrote B g w (.slice pb nb cb) eb sb) (h2 : Wrote B g w (.slice pe ne ce) ee se) (hn : bs.length + 100 + sb + se ≤ 140737488355000) (he1 : eb.length ≤ sb) (he2 : ee.length ≤ se) :
  Calls Tryz.prog 241 #[.pointer (some ⟨g,0,none⟩),.agg #[.int .i64 op,.int .i64 0,.int .i64 b,.int .u64 n,.int .u64 h,.slice pl nl cl,.slice pb nb cb,.slice pe ne ce,.bool true]] w fun e w' => e = .returned (.tuple #[]) ∧ WR B g (bs ++ List.map byI [64] ++ eb ++ List.map byI [5] ++ ee ++ List.map byI [11]) w' ∧ FR B g w w' := by
 have HB := fun bs W a b c => hid (h1 bs W a b c)
 have HE := fun bs W a b c => hid (h2 bs W a b c)
 have HW := hid hw
 have HBG := hid hw.1
 have HBW := hid (WR.base hw)
 have HR := hid hb
 have HS := hid (show -9223372036854775808 ≤ b ∧ b ≤ 9223372036854775807 from ⟨hb.1,by have := hb.2; omega⟩)
 have q1 := slist_len b HS.out
 have HN0 := hid (show (bs).length + ([64] : List Int).length ≤ 140737488355000 by (try simp only [List.length_append,List.length_map,List.length_cons,List.length_nil] at *); omega)
 have HN1 := hid (show (bs ++ List.map byI [64]).length + sb ≤ 140737488355000 by (try simp only [List.length_append,List.length_map,List.length_cons,List.length_nil] at *); omega)
 have HN2 := hid (show (bs ++ List.map byI [64] ++ eb).length + ([5] : List Int).length ≤ 140737488355000 by (try simp only [List.length_append,List.length_map,List.length_cons,List.length_nil] at *); omega)
 have HN3 := hid (show (bs ++ List.map byI [64] ++ eb ++ List.map byI [5]).length + se ≤ 140737488355000 by (try simp only [List.length_append,List.length_map,List.length_cons,List.length_nil] at *); omega)
 have HN4 := hid (show (bs ++ List.map byI [64] ++ eb ++ List.map byI [5] ++ ee).length + ([11] : List Int).length ≤ 140737488355000 by (try simp only [List.length_append,List.length_map,List.length_cons,List.length_nil] at *); omega)
 have hxg : w.heap.size ≠ g := by have := hw.lt; omega
 have HXG := hid hxg
 have hx0 := CA.new w #[.int .i64 op,.int .i64 0,.int .i64 b,.int .u64 n,.int .u64 h,.slice pl nl cl,.slice pb nb cb,.slice pe ne ce,.bool true] 39
 have HX0 := hid hx0
 have HW0 := hid (hw.alloc (.cells #[.int .i64 op,.int .i64 0,.int .i64 b,.int .u64 n,.int .u64 h,.slice pl nl cl,.slice pb nb cb,.slice pe ne ce,.bool true] 39))
 have HF0 := hid ((FR.refl B g w).alloc (.cells #[.int .i64 op,.int .i64 0,.int .i64 b,.int .u64 n,.int .u64 h,.slice pl nl cl,.slice pb nb cb,.slice pe ne ce,.bool true] 39))
 have HL0 : Hid (LT B g ((w.alloc (.cells #[.int .i64 op,.int .i64 0,.int .i64 b,.int .u64 n,.int .u64 h,.slice pl nl cl,.slice pb nb cb,.slice pe ne ce,.bool true] 39)).alloc (.cells #[.int .i64 64] 3)) (.slice (some ⟨w.heap.size + 1,0,none⟩) 1 1) [64]) := by
  have := LT.one (B := B) (w := w.alloc (.cells #[.int .i64 op,.int .i64 0,.int .i64 b,.int .u64 n,.int .u64 h,.slice pl nl cl,.slice pb nb cb,.slice pe ne ce,.bool true] 39)) 64 1 HW0.out.lt
  rw [size_al] at this
  exact this
 obtain ⟨y0,y1,y2,y3,y4,y5,y6,y7,y8⟩ := ca9 HX0.out
 clear hw hn h1 h2 hb q1 hxg hx0 he1 he2
 go_enter Tryz.func241,Tryz.ntmps241
 go_wp2_with (first
  | (go_at_call 169; (with_reducible refine (bytes_says B g _ [64] _ _ (HW0.out.alloc _) HL0.out HN0.out).mono ?_); rintro e w1 ⟨rfl,hw',hf⟩; have HV0 := hid hw'; have HG0 := hid ((HF0.out.alloc _).trans hf); have HY0 := hid ((HX0.out.alloc _).fr hf (by decide) HXG.out); obtain ⟨y0,y1,y2,y3,y4,y5,y6,y7,y8⟩ := ca9 HY0.out; clear hw' hf)
  | (go_at_call 208; (with_reducible refine ((HB _ _ (HG0.out.belowL HBW.out) HV0.out HN1.out).out).mono ?_); rintro e w2 ⟨rfl,hw',hf⟩; have HV1 := hid hw'; have HG1 := hid (HG0.out.trans hf); have HY1 := hid (HY0.out.fr hf (by decide) HXG.out); obtain ⟨y0,y1,y2,y3,y4,y5,y6,y7,y8⟩ := ca9 HY1.out; clear hw' hf)
  | (go_at_call 169; (with_reducible refine (bytes_says B g _ [5] _ _ (HV1.out.alloc _) (LT.one 5 1 HV1.out.lt) HN2.out).mono ?_); rintro e w3 ⟨rfl,hw',hf⟩; have HV2 := hid hw'; have HG2 := hid ((HG1.out.alloc _).trans hf); have HY2 := hid ((HY1.out.alloc _).fr hf (by decide) HXG.out); obtain ⟨y0,y1,y2,y3,y4,y5,y6,y7,y8⟩ := ca9 HY2.out; clear hw' hf)
  | (go_at_call 208; (with_reducible refine ((HE _ _ (HG2.out.belowL HBW.out) HV2.out HN3.out).out).mono ?_); rintro e w4 ⟨rfl,hw',hf⟩; have HV3 := hid hw'; have HG3 := hid (HG2.out.trans hf); have HY3 := hid (HY2.out.fr hf (by decide) HXG.out); obtain ⟨y0,y1,y2,y3,y4,y5,y6,y7,y8⟩ := ca9 HY3.out; clear hw' hf)
  | (go_at_call 169; (with_reducible refine (bytes_says B g _ [11] _ _ (HV3.out.alloc _) (LT.one 11 1 HV3.out.lt) HN4.out).mono ?_); rintro e w5 ⟨rfl,hw',hf⟩; have HV4 := hid hw'; have HG4 := hid ((HG3.out.alloc _).trans hf); have HY4 := hid ((HY3.out.alloc _).fr hf (by decide) HXG.out); obtain ⟨y0,y1,y2,y3,y4,y5,y6,y7,y8⟩ := ca9 HY4.out; clear hw' hf))
 (first | go_end0 | refine bodyPost_ret (results_none rfl _ _ _) rfl ?_)
 exact ⟨rfl,HV4.out,HG4.out⟩
set_option maxHeartbeats 4000000 in
theorem block_1f (B g : Nat) (bs : List UInt8) (op b : Int) (n h : Nat) (pl pb pe : Option Addr) (nl cl nb cb ne ce : Nat) (w : World) (hw : WR B g bs w) (hb : i64C b) (eb ee : List UInt8) (sb se : Nat)
  (h1 : Wrote B g w (.slice pb nb cb) eb sb) (h2 : Wrote B g w (.slice pe ne ce) ee se) (hn : bs.length + 100 + sb + se ≤ 140737488355000) (he1 : eb.length ≤ sb) (he2 : ee.length ≤ se) :
  Calls Tryz.prog 241 #[.pointer (some ⟨g,0,none⟩),.agg #[.int .i64 op,.int .i64 1,.int .i64 b,.int .u64 n,.int .u64 h,.slice pl nl cl,.slice pb nb cb,.slice pe ne ce,.bool false]] w fun e w' => e = .returned (.tuple #[]) ∧ WR B g (bs ++ List.map byI [b] ++ eb ++ List.map byI [11]) w' ∧ FR B g w w' := by
 have HB := fun bs W a b c => hid (h1 bs W a b c)
 have HE := fun bs W a b c => hid (h2 bs W a b c)
 have HW := hid hw
 have HBG := hid hw.1
 have HBW := hid (WR.base hw)
 have HR := hid hb
 have HS := hid (show -9223372036854775808 ≤ b ∧ b ≤ 9223372036854775807 from ⟨hb.1,by have := hb.2; omega⟩)
 have q1 := slist_len b HS.out
 have HN0 := hid (show (bs).length + ([b] : List Int).length ≤ 140737488355000 by (try simp only [List.length_append,List.length_map,List.length_cons,List.length_nil] at *); omega)
 have HN1 := hid (show (bs ++ List.map byI [b]).length + sb ≤ 140737488355000 by (try simp only [List.length_append,List.length_map,List.length_cons,List.length_nil] at *); omega)
 have HN2 := hid (show (bs ++ List.map byI [b] ++ eb).length + ([11] : List Int).length ≤ 140737488355000 by (try simp only [List.length_append,List.length_map,List.length_cons,List.length_nil] at *); omega)
 have hxg : w.heap.size ≠ g := by have := hw.lt; omega
 have HXG := hid hxg
 have hx0 := CA.new w #[.int .i64 op,.int .i64 1,.int .i64 b,.int .u64 n,.int .u64 h,.slice pl nl cl,.slice pb nb cb,.slice pe ne ce,.bool false] 39
 have HX0 := hid hx0
 have HW0 := hid (hw.alloc (.cells #[.int .i64 op,.int .i64 1,.int .i64 b,.int .u64 n,.int .u64 h,.slice pl nl cl,.slice pb nb cb,.slice pe ne ce,.bool false] 39))
 have HF0 := hid ((FR.refl B g w).alloc (.cells #[.int .i64 op,.int .i64 1,.int .i64 b,.int .u64 n,.int .u64 h,.slice pl nl cl,.slice pb nb cb,.slice pe ne ce,.bool false] 39))
 have HL0 : Hid (LT B g ((w.alloc (.cells #[.int .i64 op,.int .i64 1,.int .i64 b,.int .u64 n,.int .u64 h,.slice pl nl cl,.slice pb nb cb,.slice pe ne ce,.bool false] 39)).alloc (.cells #[.int .i64 b] 3)) (.slice (some ⟨w.heap.size + 1,0,none⟩) 1 1) [b]) := by
  have := LT.one (B := B) (w := w.alloc (.cells #[.int .i64 op,.int .i64 1,.int .i64 b,.int .u64 n,.int .u64 h,.slice pl nl cl,.slice pb nb cb,.slice pe ne ce,.bool false] 39)) b 1 HW0.out.lt
  rw [size_al] at this
  exact this
 obtain ⟨y0,y1,y2,y3,y4,y5,y6,y7,y8⟩ := ca9 HX0.out
 clear hw hn h1 h2 hb q1 hxg hx0 he1 he2
 go_enter Tryz.func241,Tryz.ntmps241
 go_wp2_with (first
  | (go_at_call 169; (with_reducible refine (bytes_says B g _ [b] _ _ (HW0.out.alloc _) HL0.out HN0.out).mono ?_); rintro e w1 ⟨rfl,hw',hf⟩; have HV0 := hid hw'; have HG0 := hid ((HF0.out.alloc _).trans hf); have HY0 := hid ((HX0.out.alloc _).fr hf (by decide) HXG.out); obtain ⟨y0,y1,y2,y3,y4,y5,y6,y7,y8⟩ := ca9 HY0.out; clear hw' hf)
  | (go_at_call 208; (with_reducible refine ((HB _ _ (HG0.out.belowL HBW.out) HV0.out HN1.out).out).mono ?_); rintro e w2 ⟨rfl,hw',hf⟩; have HV1 := hid hw'; have HG1 := hid (HG0.out.trans hf); have HY1 := hid (HY0.out.fr hf (by decide) HXG.out); obtain ⟨y0,y1,y2,y3,y4,y5,y6,y7,y8⟩ := ca9 HY1.out; clear hw' hf)
  | (go_at_call 169; (with_reducible refine (bytes_says B g _ [11] _ _ (HV1.out.alloc _) (LT.one 11 1 HV1.out.lt) HN2.out).mono ?_); rintro e w3 ⟨rfl,hw',hf⟩; have HV2 := hid hw'; have HG2 := hid ((HG1.out.alloc _).trans hf); have HY2 := hid ((HY1.out.alloc _).fr hf (by decide) HXG.out); obtain ⟨y0,y1,y2,y3,y4,y5,y6,y7,y8⟩ := ca9 HY2.out; clear hw' hf))
 (first | go_end0 | refine bodyPost_ret (results_none rfl _ _ _) rfl ?_)
 exact ⟨rfl,HV2.out,HG2.out⟩
set_option maxHeartbeats 4000000 in
theorem block_1t (B g : Nat) (bs : List UInt8) (op b : Int) (n h : Nat) (pl pb pe : Option Addr) (nl cl nb cb ne ce : Nat) (w : World) (hw : WR B g bs w) (hb : i64C b) (eb ee : List UInt8) (sb se : Nat)
  (h1 : Wrote B g w (.slice pb nb cb) eb sb) (h2 : Wrote B g w (.slice pe ne ce) ee se) (hn : bs.length + 100 + sb + se ≤ 140737488355000) (he1 : eb.length ≤ sb) (he2 : ee.length ≤ se) :
  Calls Tryz.prog 241 #[.pointer (some ⟨g,0,none⟩),.agg #[.int .i64 op,.int .i64 1,.int .i64 b,.int .u64 n,.int .u64 h,.slice pl nl cl,.slice pb nb cb,.slice pe ne ce,.bool true]] w fun e w' => e = .returned (.tuple #[]) ∧ WR B g (bs ++ List.map byI [b] ++ eb ++ List.map byI [5] ++ ee ++ List.map byI [11]) w' ∧ FR B g w w' := by
 have HB := fun bs W a b c => hid (h1 bs W a b c)
 have HE := fun bs W a b c => hid (h2 bs W a b c)
 have HW := hid hw
 have HBG := hid hw.1
 have HBW := hid (WR.base hw)
 have HR := hid hb
 have HS := hid (show -9223372036854775808 ≤ b ∧ b ≤ 9223372036854775807 from ⟨hb.1,by have := hb.2; omega⟩)
 have q1 := slist_len b HS.out
 have HN0 := hid (show (bs).length + ([b] : List Int).length ≤ 140737488355000 by (try simp only [List.length_append,List.length_map,List.length_cons,List.length_nil] at *); omega)
 have HN1 := hid (show (bs ++ List.map byI [b]).length + sb ≤ 140737488355000 by (try simp only [List.length_append,List.length_map,List.length_cons,List.length_nil] at *); omega)
 have HN2 := hid (show (bs ++ List.map byI [b] ++ eb).length + ([5] : List Int).length ≤ 140737488355000 by (try simp only [List.length_append,List.length_map,List.length_cons,List.length_nil] at *); omega)
 have HN3 := hid (show (bs ++ List.map byI [b] ++ eb ++ List.map byI [5]).length + se ≤ 140737488355000 by (try simp only [List.length_append,List.length_map,List.length_cons,List.length_nil] at *); omega)
 have HN4 := hid (show (bs ++ List.map byI [b] ++ eb ++ List.map byI [5] ++ ee).length + ([11] : List Int).length ≤ 140737488355000 by (try simp only [List.length_append,List.length_map,List.length_cons,List.length_nil] at *); omega)
 have hxg : w.heap.size ≠ g := by have := hw.lt; omega
 have HXG := hid hxg
 have hx0 := CA.new w #[.int .i64 op,.int .i64 1,.int .i64 b,.int .u64 n,.int .u64 h,.slice pl nl cl,.slice pb nb cb,.slice pe ne ce,.bool true] 39
 have HX0 := hid hx0
 have HW0 := hid (hw.alloc (.cells #[.int .i64 op,.int .i64 1,.int .i64 b,.int .u64 n,.int .u64 h,.slice pl nl cl,.slice pb nb cb,.slice pe ne ce,.bool true] 39))
 have HF0 := hid ((FR.refl B g w).alloc (.cells #[.int .i64 op,.int .i64 1,.int .i64 b,.int .u64 n,.int .u64 h,.slice pl nl cl,.slice pb nb cb,.slice pe ne ce,.bool true] 39))
 have HL0 : Hid (LT B g ((w.alloc (.cells #[.int .i64 op,.int .i64 1,.int .i64 b,.int .u64 n,.int .u64 h,.slice pl nl cl,.slice pb nb cb,.slice pe ne ce,.bool true] 39)).alloc (.cells #[.int .i64 b] 3)) (.slice (some ⟨w.heap.size + 1,0,none⟩) 1 1) [b]) := by
  have := LT.one (B := B) (w := w.alloc (.cells #[.int .i64 op,.int .i64 1,.int .i64 b,.int .u64 n,.int .u64 h,.slice pl nl cl,.slice pb nb cb,.slice pe ne ce,.bool true] 39)) b 1 HW0.out.lt
  rw [size_al] at this
  exact this
 obtain ⟨y0,y1,y2,y3,y4,y5,y6,y7,y8⟩ := ca9 HX0.out
 clear hw hn h1 h2 hb q1 hxg hx0 he1 he2
 go_enter Tryz.func241,Tryz.ntmps241
 go_wp2_with (first
  | (go_at_call 169; (with_reducible refine (bytes_says B g _ [b] _ _ (HW0.out.alloc _) HL0.out HN0.out).mono ?_); rintro e w1 ⟨rfl,hw',hf⟩; have HV0 := hid hw'; have HG0 := hid ((HF0.out.alloc _).trans hf); have HY0 := hid ((HX0.out.alloc _).fr hf (by decide) HXG.out); obtain ⟨y0,y1,y2,y3,y4,y5,y6,y7,y8⟩ := ca9 HY0.out; clear hw' hf)
  | (go_at_call 208; (with_reducible refine ((HB _ _ (HG0.out.belowL HBW.out) HV0.out HN1.out).out).mono ?_); rintro e w2 ⟨rfl,hw',hf⟩; have HV1 := hid hw'; have HG1 := hid (HG0.out.trans hf); have HY1 := hid (HY0.out.fr hf (by decide) HXG.out); obtain ⟨y0,y1,y2,y3,y4,y5,y6,y7,y8⟩ := ca9 HY1.out; clear hw' hf)
  | (go_at_call 169; (with_reducible refine (bytes_says B g _ [5] _ _ (HV1.out.alloc _) (LT.one 5 1 HV1.out.lt) HN2.out).mono ?_); rintro e w3 ⟨rfl,hw',hf⟩; have HV2 := hid hw'; have HG2 := hid ((HG1.out.alloc _).trans hf); have HY2 := hid ((HY1.out.alloc _).fr hf (by decide) HXG.out); obtain ⟨y0,y1,y2,y3,y4,y5,y6,y7,y8⟩ := ca9 HY2.out; clear hw' hf)
  | (go_at_call 208; (with_reducible refine ((HE _ _ (HG2.out.belowL HBW.out) HV2.out HN3.out).out).mono ?_); rintro e w4 ⟨rfl,hw',hf⟩; have HV3 := hid hw'; have HG3 := hid (HG2.out.trans hf); have HY3 := hid (HY2.out.fr hf (by decide) HXG.out); obtain ⟨y0,y1,y2,y3,y4,y5,y6,y7,y8⟩ := ca9 HY3.out; clear hw' hf)
  | (go_at_call 169; (with_reducible refine (bytes_says B g _ [11] _ _ (HV3.out.alloc _) (LT.one 11 1 HV3.out.lt) HN4.out).mono ?_); rintro e w5 ⟨rfl,hw',hf⟩; have HV4 := hid hw'; have HG4 := hid ((HG3.out.alloc _).trans hf); have HY4 := hid ((HY3.out.alloc _).fr hf (by decide) HXG.out); obtain ⟨y0,y1,y2,y3,y4,y5,y6,y7,y8⟩ := ca9 HY4.out; clear hw' hf))
 (first | go_end0 | refine bodyPost_ret (results_none rfl _ _ _) rfl ?_)
 exact ⟨rfl,HV4.out,HG4.out⟩
set_option maxHeartbeats 4000000 in
theorem block_2f (B g : Nat) (bs : List UInt8) (op b : Int) (n h : Nat) (pl pb pe : Option Addr) (nl cl nb cb ne ce : Nat) (w : World) (hw : WR B g bs w) (hb : i64C b) (eb ee : List UInt8) (sb se : Nat)
  (h1 : Wrote B g w (.slice pb nb cb) eb sb) (h2 : Wrote B g w (.slice pe ne ce) ee se) (hn : bs.length + 100 + sb + se ≤ 140737488355000) (he1 : eb.length ≤ sb) (he2 : ee.length ≤ se) :
  Calls Tryz.prog 241 #[.pointer (some ⟨g,0,none⟩),.agg #[.int .i64 op,.int .i64 2,.int .i64 b,.int .u64 n,.int .u64 h,.slice pl nl cl,.slice pb nb cb,.slice pe ne ce,.bool false]] w fun e w' => e = .returned (.tuple #[]) ∧ WR B g (bs ++ slist b ++ eb ++ List.map byI [11]) w' ∧ FR B g w w' := by
 have HB := fun bs W a b c => hid (h1 bs W a b c)
 have HE := fun bs W a b c => hid (h2 bs W a b c)
 have HW := hid hw
 have HBG := hid hw.1
 have HBW := hid (WR.base hw)
 have HR := hid hb
 have HS := hid (show -9223372036854775808 ≤ b ∧ b ≤ 9223372036854775807 from ⟨hb.1,by have := hb.2; omega⟩)
 have q1 := slist_len b HS.out
 have HN0 := hid (show (bs).length + 10 ≤ 140737488355000 by (try simp only [List.length_append,List.length_map,List.length_cons,List.length_nil] at *); omega)
 have HN1 := hid (show (bs ++ slist b).length + sb ≤ 140737488355000 by (try simp only [List.length_append,List.length_map,List.length_cons,List.length_nil] at *); omega)
 have HN2 := hid (show (bs ++ slist b ++ eb).length + ([11] : List Int).length ≤ 140737488355000 by (try simp only [List.length_append,List.length_map,List.length_cons,List.length_nil] at *); omega)
 have hxg : w.heap.size ≠ g := by have := hw.lt; omega
 have HXG := hid hxg
 have hx0 := CA.new w #[.int .i64 op,.int .i64 2,.int .i64 b,.int .u64 n,.int .u64 h,.slice pl nl cl,.slice pb nb cb,.slice pe ne ce,.bool false] 39
 have HX0 := hid hx0
 have HW0 := hid (hw.alloc (.cells #[.int .i64 op,.int .i64 2,.int .i64 b,.int .u64 n,.int .u64 h,.slice pl nl cl,.slice pb nb cb,.slice pe ne ce,.bool false] 39))
 have HF0 := hid ((FR.refl B g w).alloc (.cells #[.int .i64 op,.int .i64 2,.int .i64 b,.int .u64 n,.int .u64 h,.slice pl nl cl,.slice pb nb cb,.slice pe ne ce,.bool false] 39))
 have HL0 : Hid (LT B g ((w.alloc (.cells #[.int .i64 op,.int .i64 2,.int .i64 b,.int .u64 n,.int .u64 h,.slice pl nl cl,.slice pb nb cb,.slice pe ne ce,.bool false] 39)).alloc (.cells #[.int .i64 b] 3)) (.slice (some ⟨w.heap.size + 1,0,none⟩) 1 1) [b]) := by
  have := LT.one (B := B) (w := w.alloc (.cells #[.int .i64 op,.int .i64 2,.int .i64 b,.int .u64 n,.int .u64 h,.slice pl nl cl,.slice pb nb cb,.slice pe ne ce,.bool false] 39)) b 1 HW0.out.lt
  rw [size_al] at this
  exact this
 obtain ⟨y0,y1,y2,y3,y4,y5,y6,y7,y8⟩ := ca9 HX0.out
 clear hw hn h1 h2 hb q1 hxg hx0 he1 he2
 go_enter Tryz.func241,Tryz.ntmps241
 go_wp2_with (first
  | (go_at_call 243; (with_reducible refine (s_says B g _ b HS.out.1 HS.out.2 _ HW0.out.base HW0.out HN0.out).mono ?_); rintro e w1 ⟨rfl,hw',hf⟩; have HV0 := hid hw'; have HG0 := hid (HF0.out.trans hf); have HY0 := hid (HX0.out.fr hf (by decide) HXG.out); obtain ⟨y0,y1,y2,y3,y4,y5,y6,y7,y8⟩ := ca9 HY0.out; clear hw' hf)
  | (go_at_call 208; (with_reducible refine ((HB _ _ (HG0.out.belowL HBW.out) HV0.out HN1.out).out).mono ?_); rintro e w2 ⟨rfl,hw',hf⟩; have HV1 := hid hw'; have HG1 := hid (HG0.out.trans hf); have HY1 := hid (HY0.out.fr hf (by decide) HXG.out); obtain ⟨y0,y1,y2,y3,y4,y5,y6,y7,y8⟩ := ca9 HY1.out; clear hw' hf)
  | (go_at_call 169; (with_reducible refine (bytes_says B g _ [11] _ _ (HV1.out.alloc _) (LT.one 11 1 HV1.out.lt) HN2.out).mono ?_); rintro e w3 ⟨rfl,hw',hf⟩; have HV2 := hid hw'; have HG2 := hid ((HG1.out.alloc _).trans hf); have HY2 := hid ((HY1.out.alloc _).fr hf (by decide) HXG.out); obtain ⟨y0,y1,y2,y3,y4,y5,y6,y7,y8⟩ := ca9 HY2.out; clear hw' hf))
 (first | go_end0 | refine bodyPost_ret (results_none rfl _ _ _) rfl ?_)
 exact ⟨rfl,HV2.out,HG2.out⟩
set_option maxHeartbeats 4000000 in
theorem block_2t (B g : Nat) (bs : List UInt8) (op b : Int) (n h : Nat) (pl pb pe : Option Addr) (nl cl nb cb ne ce : Nat) (w : World) (hw : WR B g bs w) (hb : i64C b) (eb ee : List UInt8) (sb se : Nat)
  (h1 : Wrote B g w (.slice pb nb cb) eb sb) (h2 : Wrote B g w (.slice pe ne ce) ee se) (hn : bs.length + 100 + sb + se ≤ 140737488355000) (he1 : eb.length ≤ sb) (he2 : ee.length ≤ se) :
  Calls Tryz.prog 241 #[.pointer (some ⟨g,0,none⟩),.agg #[.int .i64 op,.int .i64 2,.int .i64 b,.int .u64 n,.int .u64 h,.slice pl nl cl,.slice pb nb cb,.slice pe ne ce,.bool true]] w fun e w' => e = .returned (.tuple #[]) ∧ WR B g (bs ++ slist b ++ eb ++ List.map byI [5] ++ ee ++ List.map byI [11]) w' ∧ FR B g w w' := by
 have HB := fun bs W a b c => hid (h1 bs W a b c)
 have HE := fun bs W a b c => hid (h2 bs W a b c)
 have HW := hid hw
 have HBG := hid hw.1
 have HBW := hid (WR.base hw)
 have HR := hid hb
 have HS := hid (show -9223372036854775808 ≤ b ∧ b ≤ 9223372036854775807 from ⟨hb.1,by have := hb.2; omega⟩)
 have q1 := slist_len b HS.out
 have HN0 := hid (show (bs).length + 10 ≤ 140737488355000 by (try simp only [List.length_append,List.length_map,List.length_cons,List.length_nil] at *); omega)
 have HN1 := hid (show (bs ++ slist b).length + sb ≤ 140737488355000 by (try simp only [List.length_append,List.length_map,List.length_cons,List.length_nil] at *); omega)
 have HN2 := hid (show (bs ++ slist b ++ eb).length + ([5] : List Int).length ≤ 140737488355000 by (try simp only [List.length_append,List.length_map,List.length_cons,List.length_nil] at *); omega)
 have HN3 := hid (show (bs ++ slist b ++ eb ++ List.map byI [5]).length + se ≤ 140737488355000 by (try simp only [List.length_append,List.length_map,List.length_cons,List.length_nil] at *); omega)
 have HN4 := hid (show (bs ++ slist b ++ eb ++ List.map byI [5] ++ ee).length + ([11] : List Int).length ≤ 140737488355000 by (try simp only [List.length_append,List.length_map,List.length_cons,List.length_nil] at *); omega)
 have hxg : w.heap.size ≠ g := by have := hw.lt; omega
 have HXG := hid hxg
 have hx0 := CA.new w #[.int .i64 op,.int .i64 2,.int .i64 b,.int .u64 n,.int .u64 h,.slice pl nl cl,.slice pb nb cb,.slice pe ne ce,.bool true] 39
 have HX0 := hid hx0
 have HW0 := hid (hw.alloc (.cells #[.int .i64 op,.int .i64 2,.int .i64 b,.int .u64 n,.int .u64 h,.slice pl nl cl,.slice pb nb cb,.slice pe ne ce,.bool true] 39))
 have HF0 := hid ((FR.refl B g w).alloc (.cells #[.int .i64 op,.int .i64 2,.int .i64 b,.int .u64 n,.int .u64 h,.slice pl nl cl,.slice pb nb cb,.slice pe ne ce,.bool true] 39))
 have HL0 : Hid (LT B g ((w.alloc (.cells #[.int .i64 op,.int .i64 2,.int .i64 b,.int .u64 n,.int .u64 h,.slice pl nl cl,.slice pb nb cb,.slice pe ne ce,.bool true] 39)).alloc (.cells #[.int .i64 b] 3)) (.slice (some ⟨w.heap.size + 1,0,none⟩) 1 1) [b]) := by
  have := LT.one (B := B) (w := w.alloc (.cells #[.int .i64 op,.int .i64 2,.int .i64 b,.int .u64 n,.int .u64 h,.slice pl nl cl,.slice pb nb cb,.slice pe ne ce,.bool true] 39)) b 1 HW0.out.lt
  rw [size_al] at this
  exact this
 obtain ⟨y0,y1,y2,y3,y4,y5,y6,y7,y8⟩ := ca9 HX0.out
 clear hw hn h1 h2 hb q1 hxg hx0 he1 he2
 go_enter Tryz.func241,Tryz.ntmps241
 go_wp2_with (first
  | (go_at_call 243; (with_reducible refine (s_says B g _ b HS.out.1 HS.out.2 _ HW0.out.base HW0.out HN0.out).mono ?_); rintro e w1 ⟨rfl,hw',hf⟩; have HV0 := hid hw'; have HG0 := hid (HF0.out.trans hf); have HY0 := hid (HX0.out.fr hf (by decide) HXG.out); obtain ⟨y0,y1,y2,y3,y4,y5,y6,y7,y8⟩ := ca9 HY0.out; clear hw' hf)
  | (go_at_call 208; (with_reducible refine ((HB _ _ (HG0.out.belowL HBW.out) HV0.out HN1.out).out).mono ?_); rintro e w2 ⟨rfl,hw',hf⟩; have HV1 := hid hw'; have HG1 := hid (HG0.out.trans hf); have HY1 := hid (HY0.out.fr hf (by decide) HXG.out); obtain ⟨y0,y1,y2,y3,y4,y5,y6,y7,y8⟩ := ca9 HY1.out; clear hw' hf)
  | (go_at_call 169; (with_reducible refine (bytes_says B g _ [5] _ _ (HV1.out.alloc _) (LT.one 5 1 HV1.out.lt) HN2.out).mono ?_); rintro e w3 ⟨rfl,hw',hf⟩; have HV2 := hid hw'; have HG2 := hid ((HG1.out.alloc _).trans hf); have HY2 := hid ((HY1.out.alloc _).fr hf (by decide) HXG.out); obtain ⟨y0,y1,y2,y3,y4,y5,y6,y7,y8⟩ := ca9 HY2.out; clear hw' hf)
  | (go_at_call 208; (with_reducible refine ((HE _ _ (HG2.out.belowL HBW.out) HV2.out HN3.out).out).mono ?_); rintro e w4 ⟨rfl,hw',hf⟩; have HV3 := hid hw'; have HG3 := hid (HG2.out.trans hf); have HY3 := hid (HY2.out.fr hf (by decide) HXG.out); obtain ⟨y0,y1,y2,y3,y4,y5,y6,y7,y8⟩ := ca9 HY3.out; clear hw' hf)
  | (go_at_call 169; (with_reducible refine (bytes_says B g _ [11] _ _ (HV3.out.alloc _) (LT.one 11 1 HV3.out.lt) HN4.out).mono ?_); rintro e w5 ⟨rfl,hw',hf⟩; have HV4 := hid hw'; have HG4 := hid ((HG3.out.alloc _).trans hf); have HY4 := hid ((HY3.out.alloc _).fr hf (by decide) HXG.out); obtain ⟨y0,y1,y2,y3,y4,y5,y6,y7,y8⟩ := ca9 HY4.out; clear hw' hf))
 (first | go_end0 | refine bodyPost_ret (results_none rfl _ _ _) rfl ?_)
 exact ⟨rfl,HV4.out,HG4.out⟩
theorem block_says (B g : Nat) (bs : List UInt8) (op a b : Int) (n h : Nat) (pl pb pe : Option Addr) (nl cl nb cb ne ce : Nat) (ot : Bool) (w : World) (hw : WR B g bs w) (ha : a = 0 ∨ a = 1 ∨ a = 2) (hb : i64C b) (eb ee : List UInt8) (sb se : Nat)
  (h1 : Wrote B g w (.slice pb nb cb) eb sb) (h2 : Wrote B g w (.slice pe ne ce) ee se) (hn : bs.length + 100 + sb + se ≤ 140737488355000) (he1 : eb.length ≤ sb) (he2 : ee.length ≤ se) :
  Calls Tryz.prog 241 #[.pointer (some ⟨g,0,none⟩),.agg #[.int .i64 op,.int .i64 a,.int .i64 b,.int .u64 n,.int .u64 h,.slice pl nl cl,.slice pb nb cb,.slice pe ne ce,.bool ot]] w fun e w' => e = .returned (.tuple #[]) ∧ WR B g (bs ++ (blL a b ++ eb ++ (if ot = true then 5 :: ee else []) ++ [11])) w' ∧ FR B g w w' := by
 have e0 : blL 0 b = [64] := rfl
 have e1 : blL 1 b = [byI b] := rfl
 have e2 : blL 2 b = slist b := rfl
 have m64 : List.map byI [64] = [64] := rfl
 have m5 : List.map byI [5] = [5] := rfl
 have m11 : List.map byI [11] = [11] := rfl
 have mb : List.map byI [b] = [byI b] := rfl
 rcases ha with rfl | rfl | rfl
 all_goals cases ot
 ·have := block_0f B g bs op b n h pl pb pe nl cl nb cb ne ce w hw hb eb ee sb se h1 h2 hn he1 he2
  simpa [e0,m64,m11,List.append_assoc] using this
 ·have := block_0t B g bs op b n h pl pb pe nl cl nb cb ne ce w hw hb eb ee sb se h1 h2 hn he1 he2
  simpa [e0,m64,m5,m11,List.append_assoc] using this
 ·have := block_1f B g bs op b n h pl pb pe nl cl nb cb ne ce w hw hb eb ee sb se h1 h2 hn he1 he2
  simpa [e1,mb,m11,List.append_assoc] using this
 ·have := block_1t B g bs op b n h pl pb pe nl cl nb cb ne ce w hw hb eb ee sb se h1 h2 hn he1 he2
  simpa [e1,mb,m5,m11,List.append_assoc] using this
 ·have := block_2f B g bs op b n h pl pb pe nl cl nb cb ne ce w hw hb eb ee sb se h1 h2 hn he1 he2
  simpa [e2,m11,List.append_assoc] using this
 have := block_2t B g bs op b n h pl pb pe nl cl nb cb ne ce w hw hb eb ee sb se h1 h2 hn he1 he2
 simpa [e2,m5,m11,List.append_assoc] using this
theorem Wrote.mono {B g : Nat} {w W : World} {v : Value} {E : List UInt8} {sz : Nat} (h : Wrote B g w v E sz) (hb : Below (lo B g) w W) : Wrote B g W v E sz := fun bs W' h1 h2 h3 => h bs W' (hb.trans h1) h2 h3
set_option maxHeartbeats 4000000 in
theorem instr_1 (B g : Nat) (bs : List UInt8) (op a b : Int) (n h : Nat) (pl pb pe : Option Addr) (nl cl nb cb ne ce : Nat) (ot : Bool) (w : World) (hw : WR B g bs w) (h0 : 0 ≤ op) (h1 : op < 65024) (ha : a = 0 ∨ a = 1 ∨ a = 2) (hb : i64C b) (eb ee : List UInt8) (sb se : Nat)
  (hi : ∀ W,Calls Tryz.prog 152 #[.int .i64 op] W fun e w' => e = .returned (.int .i64 1) ∧ Below W.heap.size W w')
  (hr1 : Wrote B g w (.slice pb nb cb) eb sb) (hr2 : Wrote B g w (.slice pe ne ce) ee se) (hn : bs.length + 200 + sb + se ≤ 140737488355000) (he1 : eb.length ≤ sb) (he2 : ee.length ≤ se) :
  Calls Tryz.prog 230 #[.pointer (some ⟨g,0,none⟩),.agg #[.int .i64 op,.int .i64 a,.int .i64 b,.int .u64 n,.int .u64 h,.slice pl nl cl,.slice pb nb cb,.slice pe ne ce,.bool ot]] w fun e w' => e = .returned (.tuple #[]) ∧ WR B g (bs ++ opL op ++ (blL a b ++ eb ++ (if ot = true then 5 :: ee else []) ++ [11])) w' ∧ FR B g w w' := by
 have HI := fun W => hid (hi W)
 have HW := hid hw
 have HBG := hid hw.1
 have HBW := hid (WR.base hw)
 have H0 := hid h0
 have H1 := hid h1
 have HA := hid ha
 have HB := hid hb
 have HR1 := hid hr1
 have HR2 := hid hr2
 have q1 := opL_len op
 have HN := hid (show bs.length + 20 ≤ 140737488355000 by omega)
 have HN1 := hid (show (bs ++ opL op).length + 100 + sb + se ≤ 140737488355000 by simp only [List.length_append]; omega)
 have hxg : w.heap.size ≠ g := by have := hw.lt; omega
 have HXG := hid hxg
 have hx0 := CA.new w #[.int .i64 op,.int .i64 a,.int .i64 b,.int .u64 n,.int .u64 h,.slice pl nl cl,.slice pb nb cb,.slice pe ne ce,.bool ot] 39
 have HX0 := hid hx0
 obtain ⟨y0,y1,y2,y3,y4,y5,y6,y7,y8⟩ := ca9 HX0.out
 have HBK := fun bs W q1 q2 q3 q4 q5 q6 => hid (block_says B g bs op a b n h pl pb pe nl cl nb cb ne ce ot W q1 q2 q3 eb ee sb se q4 q5 q6 he1 he2)
 obtain ⟨E,hE⟩ : ∃ E,E = blL a b ++ eb ++ (if ot = true then 5 :: ee else []) ++ [11] := ⟨_,rfl⟩
 rw [← hE] at HBK ⊢
 clear hw hn hi q1 hxg hx0 h0 h1 ha hb hr1 hr2 hE he1 he2
 go_enter Tryz.func230,Tryz.ntmps230
 go_wp2_with (first
  | (go_at_call 240; (with_reducible refine (op_says B g bs op H0.out H1.out _ (HW.out.alloc _) HN.out).mono ?_); rintro e w1 ⟨rfl,hw1,hf1⟩; have HW1 := hid hw1; have HF1 := hid (((FR.refl B g w).alloc _).trans hf1); have HX1 := hid (HX0.out.fr hf1 (by decide) HXG.out); obtain ⟨y0,y1,y2,y3,y4,y5,y6,y7,y8⟩ := ca9 HX1.out; clear hw1 hf1)
  | (go_at_call 152; (with_reducible refine (HI _).out.mono ?_); rintro e w2 ⟨rfl,hb⟩; have HWW1 := hid (HW1.out.call hb); have HFF1 := hid (HF1.out.trans (FR.of hb)); have HXX1 := hid (HX1.out.below hb HX1.out.lt); obtain ⟨y0,y1,y2,y3,y4,y5,y6,y7,y8⟩ := ca9 HXX1.out; clear hb)
  | (go_at_call 241; (with_reducible refine (HBK _ _ HWW1.out HA.out HB.out (HR1.out.mono (HFF1.out.belowL HBW.out)) (HR2.out.mono (HFF1.out.belowL HBW.out)) HN1.out).out.mono ?_); rintro e w3 ⟨rfl,hw',hf⟩; have HV := hid hw'; have HG := hid (HFF1.out.trans hf); clear hw' hf))
 (first | go_end0 | refine bodyPost_ret (results_none rfl _ _ _) rfl ?_)
 exact ⟨rfl,HV.out,HG.out⟩
end Go.Proofs.YtjgeedgphcjhoaaGreat
