/-
  WMeth: merged, what the law does not reach left out (each text says what it holds where it lies in wip). No condition.
-/
import Derived.Test.YtjgeedgphcjhoaaGreatU20
import Derived.Test.YtjgeedgphcjhoaaGreatU14
import Derived.Test.YtjgeedgphcjhoaaGreatU01
set_option linter.unusedSimpArgs false
set_option linter.unusedVariables false
set_option maxRecDepth 100000
namespace Go.Proofs.YtjgeedgphcjhoaaGreat
open Go.RowKit
theorem by_96 : byI 96 = 96 := rfl
theorem flag_says (B g : Nat) (bs : List UInt8) (b : Bool) (w : World) (hw : WR B g bs w) (hn : bs.length + 10 ≤ 140737488355000) :
  Calls Tryz.prog 182 #[.pointer (some ⟨g,0,none⟩),.bool b] w fun e w' => e = .returned (.tuple #[]) ∧ WR B g (bs ++ [if b = true then 1 else 0]) w' ∧ FR B g w w' := by
 have HW0 := hid hw
 have HF0 := hid (FR.refl B g w)
 have HNa := hid (show bs.length + ([0] : List Int).length ≤ 140737488355000 by simp only [List.length_cons,List.length_nil]; omega)
 have HNb := hid (show bs.length + ([1] : List Int).length ≤ 140737488355000 by simp only [List.length_cons,List.length_nil]; omega)
 clear hw hn
 cases b with
 | false =>
  go_enter Tryz.func182,Tryz.ntmps182
  go_wp2_with (go_at_call 169; (with_reducible refine (bytes_says B g _ [0] _ _ (HW0.out.alloc _) (LT.one (0) 1 HW0.out.lt) HNa.out).mono ?_); rintro e w1 ⟨rfl,hw',hf⟩; have HW1 := hid hw'; have HF1 := hid ((HF0.out.alloc _).trans hf); clear hw' hf)
  (first | go_end0 | refine bodyPost_ret (results_none rfl _ _ _) rfl ?_)
  exact ⟨rfl,HW1.out,HF1.out⟩
 | true =>
  go_enter Tryz.func182,Tryz.ntmps182
  go_wp2_with (go_at_call 169; (with_reducible refine (bytes_says B g _ [1] _ _ (HW0.out.alloc _) (LT.one (1) 1 HW0.out.lt) HNb.out).mono ?_); rintro e w1 ⟨rfl,hw',hf⟩; have HW1 := hid hw'; have HF1 := hid ((HF0.out.alloc _).trans hf); clear hw' hf)
  (first | go_end0 | refine bodyPost_ret (results_none rfl _ _ _) rfl ?_)
  exact ⟨rfl,HW1.out,HF1.out⟩
set_option maxHeartbeats 4000000 in
theorem limits_false (B g : Nat) (bs : List UInt8) (mn mx : Int) (w : World) (hw : WR B g bs w) (hn : bs.length ≤ 100000000000000) :
  Calls Tryz.prog 111 #[.pointer (some ⟨g,0,none⟩),.agg #[.int .i64 mn,.int .i64 mx,.bool false]] w fun e w' => e = .returned (.tuple #[]) ∧ WR B g (bs ++ (limL mn mx false)) w' ∧ FR B g w w' := by
 have HW0 := hid (hw.alloc (.cells #[.int .i64 mn,.int .i64 mx,.bool false] 70))
 have HF0 := hid ((FR.refl B g w).alloc (.cells #[.int .i64 mn,.int .i64 mx,.bool false] 70))
 have HX0 := hid (CA.new w #[.int .i64 mn,.int .i64 mx,.bool false] 70)
 have HNE := hid (show w.heap.size ≠ g by have := hw.lt; omega)
 have y0 := HX0.out.at (k := 0) (v := .int .i64 mn) rfl
 have y1 := HX0.out.at (k := 1) (v := .int .i64 mx) rfl
 have y2 := HX0.out.at (k := 2) (v := .bool false) rfl
 have HN0 := hid (show (bs).length + 10 ≤ 140737488355000 by
  have q_6864222 := uI_len (mn)
  have q_32811179 := uI_len (mx)
  (try simp only [List.length_append,List.length_cons,List.length_nil,List.length_map])
  omega)
 have HN1 := hid (show (bs ++ [if false = true then 1 else 0]).length + 10 ≤ 140737488355000 by
  have q_6864222 := uI_len (mn)
  have q_32811179 := uI_len (mx)
  (try simp only [List.length_append,List.length_cons,List.length_nil,List.length_map])
  omega)
 clear hw hn
 go_enter Tryz.func111,Tryz.ntmps111
 go_upto_region 1 with fail
 generalize w.alloc (.cells #[.int .i64 mn,.int .i64 mx,.bool false] 70) = w0 at *
 generalize w.heap.size = gx at *
 go_wp2_with (first
  | (go_at_call 182; (with_reducible refine (flag_says B g _ false _ HW0.out HN0.out).mono ?_); rintro e w1 ⟨rfl,hw',hf⟩; have HW1 := hid hw'; have HF1 := hid ((HF0.out).trans hf); have HX1 := hid ((HX0.out).fr hf (by decide) HNE.out); clear y0 y1 y2; have y0 := HX1.out.at (k := 0) (v := .int .i64 mn) rfl; have y1 := HX1.out.at (k := 1) (v := .int .i64 mx) rfl; have y2 := HX1.out.at (k := 2) (v := .bool false) rfl; clear hw' hf)
  | (go_at_call 105; (with_reducible refine (u_says B g _ (mn) _ HW1.out.base HW1.out HN1.out).mono ?_); rintro e w2 ⟨rfl,hw',hf⟩; have HW2 := hid hw'; have HF2 := hid ((HF1.out).trans hf); have HX2 := hid ((HX1.out).fr hf (by decide) HNE.out); clear y0 y1 y2; have y0 := HX2.out.at (k := 0) (v := .int .i64 mn) rfl; have y1 := HX2.out.at (k := 1) (v := .int .i64 mx) rfl; have y2 := HX2.out.at (k := 2) (v := .bool false) rfl; clear hw' hf))
 (first | go_end0 | refine bodyPost_ret (results_none rfl _ _ _) rfl ?_)
 refine ⟨rfl,?_,HF2.out⟩
 have := HW2.out
 simpa [limL] using this
set_option maxHeartbeats 4000000 in
theorem limits_true (B g : Nat) (bs : List UInt8) (mn mx : Int) (w : World) (hw : WR B g bs w) (hn : bs.length ≤ 100000000000000) :
  Calls Tryz.prog 111 #[.pointer (some ⟨g,0,none⟩),.agg #[.int .i64 mn,.int .i64 mx,.bool true]] w fun e w' => e = .returned (.tuple #[]) ∧ WR B g (bs ++ (limL mn mx true)) w' ∧ FR B g w w' := by
 have HW0 := hid (hw.alloc (.cells #[.int .i64 mn,.int .i64 mx,.bool true] 70))
 have HF0 := hid ((FR.refl B g w).alloc (.cells #[.int .i64 mn,.int .i64 mx,.bool true] 70))
 have HX0 := hid (CA.new w #[.int .i64 mn,.int .i64 mx,.bool true] 70)
 have HNE := hid (show w.heap.size ≠ g by have := hw.lt; omega)
 have y0 := HX0.out.at (k := 0) (v := .int .i64 mn) rfl
 have y1 := HX0.out.at (k := 1) (v := .int .i64 mx) rfl
 have y2 := HX0.out.at (k := 2) (v := .bool true) rfl
 have HN0 := hid (show (bs).length + 10 ≤ 140737488355000 by
  have q_6864222 := uI_len (mn)
  have q_32811179 := uI_len (mx)
  (try simp only [List.length_append,List.length_cons,List.length_nil,List.length_map])
  omega)
 have HN1 := hid (show (bs ++ [if true = true then 1 else 0]).length + 10 ≤ 140737488355000 by
  have q_6864222 := uI_len (mn)
  have q_32811179 := uI_len (mx)
  (try simp only [List.length_append,List.length_cons,List.length_nil,List.length_map])
  omega)
 have HN2 := hid (show (bs ++ [if true = true then 1 else 0] ++ uI mn).length + 10 ≤ 140737488355000 by
  have q_6864222 := uI_len (mn)
  have q_32811179 := uI_len (mx)
  (try simp only [List.length_append,List.length_cons,List.length_nil,List.length_map])
  omega)
 clear hw hn
 go_enter Tryz.func111,Tryz.ntmps111
 go_upto_region 1 with fail
 generalize w.alloc (.cells #[.int .i64 mn,.int .i64 mx,.bool true] 70) = w0 at *
 generalize w.heap.size = gx at *
 go_wp2_with (first
  | (go_at_call 182; (with_reducible refine (flag_says B g _ true _ HW0.out HN0.out).mono ?_); rintro e w1 ⟨rfl,hw',hf⟩; have HW1 := hid hw'; have HF1 := hid ((HF0.out).trans hf); have HX1 := hid ((HX0.out).fr hf (by decide) HNE.out); clear y0 y1 y2; have y0 := HX1.out.at (k := 0) (v := .int .i64 mn) rfl; have y1 := HX1.out.at (k := 1) (v := .int .i64 mx) rfl; have y2 := HX1.out.at (k := 2) (v := .bool true) rfl; clear hw' hf)
  | (go_at_call 105; (with_reducible refine (u_says B g _ (mn) _ HW1.out.base HW1.out HN1.out).mono ?_); rintro e w2 ⟨rfl,hw',hf⟩; have HW2 := hid hw'; have HF2 := hid ((HF1.out).trans hf); have HX2 := hid ((HX1.out).fr hf (by decide) HNE.out); clear y0 y1 y2; have y0 := HX2.out.at (k := 0) (v := .int .i64 mn) rfl; have y1 := HX2.out.at (k := 1) (v := .int .i64 mx) rfl; have y2 := HX2.out.at (k := 2) (v := .bool true) rfl; clear hw' hf)
  | (go_at_call 105; (with_reducible refine (u_says B g _ (mx) _ HW2.out.base HW2.out HN2.out).mono ?_); rintro e w3 ⟨rfl,hw',hf⟩; have HW3 := hid hw'; have HF3 := hid ((HF2.out).trans hf); have HX3 := hid ((HX2.out).fr hf (by decide) HNE.out); clear y0 y1 y2; have y0 := HX3.out.at (k := 0) (v := .int .i64 mn) rfl; have y1 := HX3.out.at (k := 1) (v := .int .i64 mx) rfl; have y2 := HX3.out.at (k := 2) (v := .bool true) rfl; clear hw' hf))
 (first | go_end0 | refine bodyPost_ret (results_none rfl _ _ _) rfl ?_)
 refine ⟨rfl,?_,HF3.out⟩
 have := HW3.out
 simpa [limL] using this
theorem limits_says (B g : Nat) (bs : List UInt8) (mn mx : Int) (h : Bool) (w : World) (hw : WR B g bs w) (hn : bs.length ≤ 100000000000000) :
  Calls Tryz.prog 111 #[.pointer (some ⟨g,0,none⟩),.agg #[.int .i64 mn,.int .i64 mx,.bool h]] w fun e w' => e = .returned (.tuple #[]) ∧ WR B g (bs ++ limL mn mx h) w' ∧ FR B g w w' := by
 cases h
 ·exact limits_false B g bs mn mx w hw hn
 exact limits_true B g bs mn mx w hw hn
theorem limL_len (mn mx : Int) (h : Bool) : (limL mn mx h).length ≤ 21 := by
 have h1 := uI_len mn
 have h2 := uI_len mx
 unfold limL
 split <;> simp only [List.length_cons,List.length_append] <;> omega
set_option maxHeartbeats 4000000 in
theorem ttype_says (B g : Nat) (bs : List UInt8) (r mn mx : Int) (h : Bool) (w : World) (hw : WR B g bs w) (hn : bs.length ≤ 50000000000000) :
  Calls Tryz.prog 108 #[.pointer (some ⟨g,0,none⟩),.agg #[.int .i64 r,.int .i64 mn,.int .i64 mx,.bool h]] w fun e w' => e = .returned (.tuple #[]) ∧ WR B g (bs ++ (tabL r mn mx h)) w' ∧ FR B g w w' := by
 have HW0 := hid (hw.alloc (.cells #[.int .i64 r,.int .i64 mn,.int .i64 mx,.bool h] 72))
 have HF0 := hid ((FR.refl B g w).alloc (.cells #[.int .i64 r,.int .i64 mn,.int .i64 mx,.bool h] 72))
 have HX0 := hid (CA.new w #[.int .i64 r,.int .i64 mn,.int .i64 mx,.bool h] 72)
 have HNE := hid (show w.heap.size ≠ g by have := hw.lt; omega)
 have y0 := HX0.out.at (k := 0) (v := .int .i64 r) rfl
 have y1 := HX0.out.at (k := 1) (v := .int .i64 mn) rfl
 have y2 := HX0.out.at (k := 2) (v := .int .i64 mx) rfl
 have y3 := HX0.out.at (k := 3) (v := .bool h) rfl
 have HN0 := hid (show (bs).length + ([r] : List Int).length ≤ 140737488355000 by
  (try simp only [List.length_append,List.length_cons,List.length_nil,List.length_map])
  omega)
 have HN1 := hid (show (bs ++ List.map byI [r]).length ≤ 100000000000000 by
  (try simp only [List.length_append,List.length_cons,List.length_nil,List.length_map])
  omega)
 clear hw hn
 go_enter Tryz.func108,Tryz.ntmps108
 go_upto_region 1 with fail
 generalize w.alloc (.cells #[.int .i64 r,.int .i64 mn,.int .i64 mx,.bool h] 72) = w0 at *
 generalize w.heap.size = gx at *
 go_wp2_with (first
  | (go_at_call 169; (with_reducible refine (bytes_says B g _ [r] _ _ (HW0.out.alloc _) (LT.one (r) 1 HW0.out.lt) HN0.out).mono ?_); rintro e w1 ⟨rfl,hw',hf⟩; have HW1 := hid hw'; have HF1 := hid ((HF0.out.alloc _).trans hf); have HX1 := hid ((HX0.out.alloc _).fr hf (by decide) HNE.out); clear y0 y1 y2 y3; have y0 := HX1.out.at (k := 0) (v := .int .i64 r) rfl; have y1 := HX1.out.at (k := 1) (v := .int .i64 mn) rfl; have y2 := HX1.out.at (k := 2) (v := .int .i64 mx) rfl; have y3 := HX1.out.at (k := 3) (v := .bool h) rfl; clear hw' hf)
  | (go_at_call 111; (with_reducible refine (limits_says B g _ mn mx h _ HW1.out HN1.out).mono ?_); rintro e w2 ⟨rfl,hw',hf⟩; have HW2 := hid hw'; have HF2 := hid ((HF1.out).trans hf); have HX2 := hid ((HX1.out).fr hf (by decide) HNE.out); clear y0 y1 y2 y3; have y0 := HX2.out.at (k := 0) (v := .int .i64 r) rfl; have y1 := HX2.out.at (k := 1) (v := .int .i64 mn) rfl; have y2 := HX2.out.at (k := 2) (v := .int .i64 mx) rfl; have y3 := HX2.out.at (k := 3) (v := .bool h) rfl; clear hw' hf))
 (first | go_end0 | refine bodyPost_ret (results_none rfl _ _ _) rfl ?_)
 refine ⟨rfl,?_,HF2.out⟩
 have := HW2.out
 simpa [tabL] using this
set_option maxHeartbeats 4000000 in
theorem gtype_says (B g : Nat) (bs : List UInt8) (t : Int) (m : Bool) (w : World) (hw : WR B g bs w) (hn : bs.length ≤ 100000000000000) :
  Calls Tryz.prog 174 #[.pointer (some ⟨g,0,none⟩),.agg #[.int .i64 t,.bool m]] w fun e w' => e = .returned (.tuple #[]) ∧ WR B g (bs ++ (gloL t m)) w' ∧ FR B g w w' := by
 have HW0 := hid (hw.alloc (.cells #[.int .i64 t,.bool m] 44))
 have HF0 := hid ((FR.refl B g w).alloc (.cells #[.int .i64 t,.bool m] 44))
 have HX0 := hid (CA.new w #[.int .i64 t,.bool m] 44)
 have HNE := hid (show w.heap.size ≠ g by have := hw.lt; omega)
 have y0 := HX0.out.at (k := 0) (v := .int .i64 t) rfl
 have y1 := HX0.out.at (k := 1) (v := .bool m) rfl
 have HN0 := hid (show (bs).length + ([t] : List Int).length ≤ 140737488355000 by
  (try simp only [List.length_append,List.length_cons,List.length_nil,List.length_map])
  omega)
 have HN1 := hid (show (bs ++ List.map byI [t]).length + 10 ≤ 140737488355000 by
  (try simp only [List.length_append,List.length_cons,List.length_nil,List.length_map])
  omega)
 clear hw hn
 go_enter Tryz.func174,Tryz.ntmps174
 go_upto_region 1 with fail
 generalize w.alloc (.cells #[.int .i64 t,.bool m] 44) = w0 at *
 generalize w.heap.size = gx at *
 go_wp2_with (first
  | (go_at_call 169; (with_reducible refine (bytes_says B g _ [t] _ _ (HW0.out.alloc _) (LT.one (t) 1 HW0.out.lt) HN0.out).mono ?_); rintro e w1 ⟨rfl,hw',hf⟩; have HW1 := hid hw'; have HF1 := hid ((HF0.out.alloc _).trans hf); have HX1 := hid ((HX0.out.alloc _).fr hf (by decide) HNE.out); clear y0 y1; have y0 := HX1.out.at (k := 0) (v := .int .i64 t) rfl; have y1 := HX1.out.at (k := 1) (v := .bool m) rfl; clear hw' hf)
  | (go_at_call 182; (with_reducible refine (flag_says B g _ m _ HW1.out HN1.out).mono ?_); rintro e w2 ⟨rfl,hw',hf⟩; have HW2 := hid hw'; have HF2 := hid ((HF1.out).trans hf); have HX2 := hid ((HX1.out).fr hf (by decide) HNE.out); clear y0 y1; have y0 := HX2.out.at (k := 0) (v := .int .i64 t) rfl; have y1 := HX2.out.at (k := 1) (v := .bool m) rfl; clear hw' hf))
 (first | go_end0 | refine bodyPost_ret (results_none rfl _ _ _) rfl ?_)
 refine ⟨rfl,?_,HF2.out⟩
 have := HW2.out
 simpa [gloL] using this
set_option maxHeartbeats 4000000 in
theorem ftype_says (B g : Nat) (bs : List UInt8) (a b : List Int) (pa pb : Option Addr) (ca cb L : Nat) (w : World) (hL : L ≤ lo B g) (ha : LI L w (.slice pa a.length ca) a) (hb : LI L w (.slice pb b.length cb) b) (ha0 : a.length ≤ 1000) (hb0 : b.length ≤ 1000) (hw : WR B g bs w) (hn : bs.length ≤ 3000000000000) :
  Calls Tryz.prog 99 #[.pointer (some ⟨g,0,none⟩),.agg #[.slice pa a.length ca,.slice pb b.length cb]] w fun e w' => e = .returned (.tuple #[]) ∧ WR B g (bs ++ (mtL ⟨a,pa,ca,b,pb,cb⟩)) w' ∧ FR B g w w' := by
 have HTA := hid (fun (W : World) (h : FR B g w W) => (LT.of ha hL hw.1).fr h)
 have HTB := hid (fun (W : World) (h : FR B g w W) => (LT.of hb hL hw.1).fr h)
 have HLA := hid ha0
 have HLB := hid hb0
 have HW0 := hid (hw.alloc (.cells #[.slice pa a.length ca,.slice pb b.length cb] 67))
 have HF0 := hid ((FR.refl B g w).alloc (.cells #[.slice pa a.length ca,.slice pb b.length cb] 67))
 have HX0 := hid (CA.new w #[.slice pa a.length ca,.slice pb b.length cb] 67)
 have HNE := hid (show w.heap.size ≠ g by have := hw.lt; omega)
 have y0 := HX0.out.at (k := 0) (v := .slice pa a.length ca) rfl
 have y1 := HX0.out.at (k := 1) (v := .slice pb b.length cb) rfl
 have HN0 := hid (show (bs).length + ([96] : List Int).length ≤ 140737488355000 by
  have q_55068697 := uI_len (a.length)
  have q_47754713 := uI_len (b.length)
  have h1 := HLA.out
  have h2 := HLB.out
  (try simp only [List.length_append,List.length_cons,List.length_nil,List.length_map])
  omega)
 have HN1 := hid (show (bs ++ List.map byI [96]).length + 40 + 10 * a.length ≤ 140737488355000 by
  have q_55068697 := uI_len (a.length)
  have q_47754713 := uI_len (b.length)
  have h1 := HLA.out
  have h2 := HLB.out
  (try simp only [List.length_append,List.length_cons,List.length_nil,List.length_map])
  omega)
 have HN2 := hid (show (bs ++ List.map byI [96] ++ (uI a.length ++ a.map byI)).length + 40 + 10 * b.length ≤ 140737488355000 by
  have q_55068697 := uI_len (a.length)
  have q_47754713 := uI_len (b.length)
  have h1 := HLA.out
  have h2 := HLB.out
  (try simp only [List.length_append,List.length_cons,List.length_nil,List.length_map])
  omega)
 clear hw hn ha hb ha0 hb0
 go_enter Tryz.func99,Tryz.ntmps99
 go_upto_region 1 with fail
 generalize w.alloc (.cells #[.slice pa a.length ca,.slice pb b.length cb] 67) = w0 at *
 generalize w.heap.size = gx at *
 go_wp2_with (first
  | (go_at_call 169; (with_reducible refine (bytes_says B g _ [96] _ _ (HW0.out.alloc _) (LT.one (96) 1 HW0.out.lt) HN0.out).mono ?_); rintro e w1 ⟨rfl,hw',hf⟩; have HW1 := hid hw'; have HF1 := hid ((HF0.out.alloc _).trans hf); have HX1 := hid ((HX0.out.alloc _).fr hf (by decide) HNE.out); clear y0 y1; have y0 := HX1.out.at (k := 0) (v := .slice pa a.length ca) rfl; have y1 := HX1.out.at (k := 1) (v := .slice pb b.length cb) rfl; clear hw' hf)
  | (go_at_call 170; (with_reducible refine (wtypes_says B g _ a _ _ HW1.out (HTA.out _ HF1.out) HN1.out).mono ?_); rintro e w2 ⟨rfl,hw',hf⟩; have HW2 := hid hw'; have HF2 := hid ((HF1.out).trans hf); have HX2 := hid ((HX1.out).fr hf (by decide) HNE.out); clear y0 y1; have y0 := HX2.out.at (k := 0) (v := .slice pa a.length ca) rfl; have y1 := HX2.out.at (k := 1) (v := .slice pb b.length cb) rfl; clear hw' hf)
  | (go_at_call 170; (with_reducible refine (wtypes_says B g _ b _ _ HW2.out (HTB.out _ HF2.out) HN2.out).mono ?_); rintro e w3 ⟨rfl,hw',hf⟩; have HW3 := hid hw'; have HF3 := hid ((HF2.out).trans hf); have HX3 := hid ((HX2.out).fr hf (by decide) HNE.out); clear y0 y1; have y0 := HX3.out.at (k := 0) (v := .slice pa a.length ca) rfl; have y1 := HX3.out.at (k := 1) (v := .slice pb b.length cb) rfl; clear hw' hf))
 (first | go_end0 | refine bodyPost_ret (results_none rfl _ _ _) rfl ?_)
 refine ⟨rfl,?_,HF3.out⟩
 have := HW3.out
 simpa [mtL,lsL,by_96] using this
set_option maxHeartbeats 4000000 in
theorem export_says (B g : Nat) (bs : List UInt8) (s : ByteArray) (k ix : Int) (w : World) (hs : s.size ≤ 1000) (hw : WR B g bs w) (hn : bs.length ≤ 3000000000000) :
  Calls Tryz.prog 117 #[.pointer (some ⟨g,0,none⟩),.agg #[.string s,.int .i64 k,.int .i64 ix]] w fun e w' => e = .returned (.tuple #[]) ∧ WR B g (bs ++ (mxL ⟨s,k,ix⟩)) w' ∧ FR B g w w' := by
 have HS := hid hs
 have HW0 := hid (hw.alloc (.cells #[.string s,.int .i64 k,.int .i64 ix] 76))
 have HF0 := hid ((FR.refl B g w).alloc (.cells #[.string s,.int .i64 k,.int .i64 ix] 76))
 have HX0 := hid (CA.new w #[.string s,.int .i64 k,.int .i64 ix] 76)
 have HNE := hid (show w.heap.size ≠ g by have := hw.lt; omega)
 have y0 := HX0.out.at (k := 0) (v := .string s) rfl
 have y1 := HX0.out.at (k := 1) (v := .int .i64 k) rfl
 have y2 := HX0.out.at (k := 2) (v := .int .i64 ix) rfl
 have HN0 := hid (show (bs).length ≤ 130737488355000 by
  have h1 := strL_len s
  have h2 := HS.out
  (try simp only [List.length_append,List.length_cons,List.length_nil,List.length_map])
  omega)
 have HN1 := hid (show (bs ++ strL s).length + ([k] : List Int).length ≤ 140737488355000 by
  have h1 := strL_len s
  have h2 := HS.out
  (try simp only [List.length_append,List.length_cons,List.length_nil,List.length_map])
  omega)
 have HN2 := hid (show (bs ++ strL s ++ List.map byI [k]).length + 10 ≤ 140737488355000 by
  have h1 := strL_len s
  have h2 := HS.out
  (try simp only [List.length_append,List.length_cons,List.length_nil,List.length_map])
  omega)
 clear hw hn
 go_enter Tryz.func117,Tryz.ntmps117
 go_upto_region 1 with fail
 generalize w.alloc (.cells #[.string s,.int .i64 k,.int .i64 ix] 76) = w0 at *
 generalize w.heap.size = gx at *
 go_wp2_with (first
  | (go_at_call 173; (with_reducible refine (name_says B g _ s _ HS.out HW0.out HN0.out).mono ?_); rintro e w1 ⟨rfl,hw',hf⟩; have HW1 := hid hw'; have HF1 := hid ((HF0.out).trans hf); have HX1 := hid ((HX0.out).fr hf (by decide) HNE.out); clear y0 y1 y2; have y0 := HX1.out.at (k := 0) (v := .string s) rfl; have y1 := HX1.out.at (k := 1) (v := .int .i64 k) rfl; have y2 := HX1.out.at (k := 2) (v := .int .i64 ix) rfl; clear hw' hf)
  | (go_at_call 169; (with_reducible refine (bytes_says B g _ [k] _ _ (HW1.out.alloc _) (LT.one (k) 1 HW1.out.lt) HN1.out).mono ?_); rintro e w2 ⟨rfl,hw',hf⟩; have HW2 := hid hw'; have HF2 := hid ((HF1.out.alloc _).trans hf); have HX2 := hid ((HX1.out.alloc _).fr hf (by decide) HNE.out); clear y0 y1 y2; have y0 := HX2.out.at (k := 0) (v := .string s) rfl; have y1 := HX2.out.at (k := 1) (v := .int .i64 k) rfl; have y2 := HX2.out.at (k := 2) (v := .int .i64 ix) rfl; clear hw' hf)
  | (go_at_call 105; (with_reducible refine (u_says B g _ (ix) _ HW2.out.base HW2.out HN2.out).mono ?_); rintro e w3 ⟨rfl,hw',hf⟩; have HW3 := hid hw'; have HF3 := hid ((HF2.out).trans hf); have HX3 := hid ((HX2.out).fr hf (by decide) HNE.out); clear y0 y1 y2; have y0 := HX3.out.at (k := 0) (v := .string s) rfl; have y1 := HX3.out.at (k := 1) (v := .int .i64 k) rfl; have y2 := HX3.out.at (k := 2) (v := .int .i64 ix) rfl; clear hw' hf))
 (first | go_end0 | refine bodyPost_ret (results_none rfl _ _ _) rfl ?_)
 refine ⟨rfl,?_,HF3.out⟩
 have := HW3.out
 simpa [mxL] using this
set_option maxHeartbeats 4000000 in
theorem global_says (B g : Nat) (bs : List UInt8) (t : Int) (m : Bool) (f : Fo) (pf : Option Addr) (cf : Nat) (w : World) (hct : f.cnt < 9223372036854775806) (hok : okE f) (hsz : f.siz ≤ 61200000) (hs : SA (lo B g) w (.slice pf f.len cf) f) (hw : WR B g bs w) (hn : bs.length ≤ 3000000000000) :
  Calls Tryz.prog 114 #[.pointer (some ⟨g,0,none⟩),.agg #[.int .i64 t,.bool m,.slice pf f.len cf]] w fun e w' => e = .returned (.tuple #[]) ∧ WR B g (bs ++ (mgL ⟨t,m,f,pf,cf⟩)) w' ∧ FR B g w w' := by
 have HCT := hid hct
 have HOK := hid hok
 have HSZ := hid hsz
 have HSA := hid (fun (W : World) (h : FR B g w W) => (SA.below hs (h.belowL hw.1)))
 have HW0 := hid (hw.alloc (.cells #[.int .i64 t,.bool m,.slice pf f.len cf] 46))
 have HF0 := hid ((FR.refl B g w).alloc (.cells #[.int .i64 t,.bool m,.slice pf f.len cf] 46))
 have HX0 := hid (CA.new w #[.int .i64 t,.bool m,.slice pf f.len cf] 46)
 have HNE := hid (show w.heap.size ≠ g by have := hw.lt; omega)
 have y0 := HX0.out.at (k := 0) (v := .int .i64 t) rfl
 have y1 := HX0.out.at (k := 1) (v := .bool m) rfl
 have y2 := HX0.out.at (k := 2) (v := .slice pf f.len cf) rfl
 have HN0 := hid (show (bs).length ≤ 100000000000000 by
  have h1 := HSZ.out
  have h2 : (gloL t m).length = 2 := rfl
  (try simp only [List.length_append,List.length_cons,List.length_nil,List.length_map])
  omega)
 have HN1 := hid (show (bs ++ gloL t m).length + 20 + f.siz ≤ 140737488355000 by
  have h1 := HSZ.out
  have h2 : (gloL t m).length = 2 := rfl
  (try simp only [List.length_append,List.length_cons,List.length_nil,List.length_map])
  omega)
 clear hw hn hct hok hsz hs
 go_enter Tryz.func114,Tryz.ntmps114
 go_upto_region 1 with fail
 generalize w.alloc (.cells #[.int .i64 t,.bool m,.slice pf f.len cf] 46) = w0 at *
 generalize w.heap.size = gx at *
 go_wp2_with (first
  | (go_at_call 174; (with_reducible refine (gtype_says B g _ t m _ HW0.out HN0.out).mono ?_); rintro e w1 ⟨rfl,hw',hf⟩; have HW1 := hid hw'; have HF1 := hid ((HF0.out).trans hf); have HX1 := hid ((HX0.out).fr hf (by decide) HNE.out); clear y0 y1 y2; have y0 := HX1.out.at (k := 0) (v := .int .i64 t) rfl; have y1 := HX1.out.at (k := 1) (v := .bool m) rfl; have y2 := HX1.out.at (k := 2) (v := .slice pf f.len cf) rfl; clear hw' hf)
  | (go_at_call 136; (with_reducible refine (code_says B g f HCT.out HOK.out _ _ _ HW1.out (HSA.out _ HF1.out) HN1.out).mono ?_); rintro e w2 ⟨rfl,hw',hf⟩; have HW2 := hid hw'; have HF2 := hid ((HF1.out).trans hf); have HX2 := hid ((HX1.out).fr hf (by decide) HNE.out); clear y0 y1 y2; have y0 := HX2.out.at (k := 0) (v := .int .i64 t) rfl; have y1 := HX2.out.at (k := 1) (v := .bool m) rfl; have y2 := HX2.out.at (k := 2) (v := .slice pf f.len cf) rfl; clear hw' hf))
 (first | go_end0 | refine bodyPost_ret (results_none rfl _ _ _) rfl ?_)
 refine ⟨rfl,?_,HF2.out⟩
 have := HW2.out
 simpa [mgL,codL] using this
end Go.Proofs.YtjgeedgphcjhoaaGreat
