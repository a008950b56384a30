/-
  WMeth2: merged, what the law does not reach left out (each text says what it holds where it lies in wip). No condition.
-/
import Derived.Test.YtjgeedgphcjhoaaGreatU21
import Derived.Test.YtjgeedgphcjhoaaGreatU01
set_option linter.unusedSimpArgs false
set_option linter.unusedVariables false
set_option maxRecDepth 100000
namespace Go.Proofs.YtjgeedgphcjhoaaGreat
open Go.RowKit
set_option maxHeartbeats 4000000 in
theorem import_0 (B g : Nat) (bs : List UInt8) (s0 s1 : ByteArray) (ty tr tmn tmx : Int) (th : Bool) (mmn mmx : Int) (mh : Bool) (gt : Int) (gm : Bool) (w : World) (hs0 : s0.size ≤ 1000) (hs1 : s1.size ≤ 1000) (hw : WR B g bs w) (hn : bs.length ≤ 3000000000000) :
  Calls Tryz.prog 102 #[.pointer (some ⟨g,0,none⟩),.agg #[.string s0,.string s1,.int .i64 0,.int .i64 ty,.int .i64 tr,.int .i64 tmn,.int .i64 tmx,.bool th,.int .i64 mmn,.int .i64 mmx,.bool mh,.int .i64 gt,.bool gm]] w fun e w' => e = .returned (.tuple #[]) ∧ WR B g (bs ++ (miL ⟨s0,s1,0,ty,tr,tmn,tmx,th,mmn,mmx,mh,gt,gm⟩)) w' ∧ FR B g w w' := by
 have HS0 := hid hs0
 have HS1 := hid hs1
 have HW0 := hid (hw.alloc (.cells #[.string s0,.string s1,.int .i64 0,.int .i64 ty,.int .i64 tr,.int .i64 tmn,.int .i64 tmx,.bool th,.int .i64 mmn,.int .i64 mmx,.bool mh,.int .i64 gt,.bool gm] 74))
 have HF0 := hid ((FR.refl B g w).alloc (.cells #[.string s0,.string s1,.int .i64 0,.int .i64 ty,.int .i64 tr,.int .i64 tmn,.int .i64 tmx,.bool th,.int .i64 mmn,.int .i64 mmx,.bool mh,.int .i64 gt,.bool gm] 74))
 have HX0 := hid (CA.new w #[.string s0,.string s1,.int .i64 0,.int .i64 ty,.int .i64 tr,.int .i64 tmn,.int .i64 tmx,.bool th,.int .i64 mmn,.int .i64 mmx,.bool mh,.int .i64 gt,.bool gm] 74)
 have HNE := hid (show w.heap.size ≠ g by have := hw.lt; omega)
 obtain ⟨y0,y1,y2,y3,y4,y5,y6,y7,y8,y9,y10,y11,y12⟩ := ca13 HX0.out
 have HN0 := hid (show (bs).length ≤ 130737488355000 by
  have h1 := strL_len s0
  have h2 := strL_len s1
  have h3 := HS0.out
  have h4 := HS1.out
  (try simp only [List.length_append,List.length_cons,List.length_nil,List.length_map])
  omega)
 have HN1 := hid (show (bs ++ strL s0).length ≤ 130737488355000 by
  have h1 := strL_len s0
  have h2 := strL_len s1
  have h3 := HS0.out
  have h4 := HS1.out
  (try simp only [List.length_append,List.length_cons,List.length_nil,List.length_map])
  omega)
 have HN2 := hid (show (bs ++ strL s0 ++ strL s1).length + ([0] : List Int).length ≤ 140737488355000 by
  have h1 := strL_len s0
  have h2 := strL_len s1
  have h3 := HS0.out
  have h4 := HS1.out
  (try simp only [List.length_append,List.length_cons,List.length_nil,List.length_map])
  omega)
 have HN3 := hid (show (bs ++ strL s0 ++ strL s1 ++ List.map byI [0]).length + 10 ≤ 140737488355000 by
  have h1 := strL_len s0
  have h2 := strL_len s1
  have h3 := HS0.out
  have h4 := HS1.out
  (try simp only [List.length_append,List.length_cons,List.length_nil,List.length_map])
  omega)
 clear hw hn
 go_enter Tryz.func102,Tryz.ntmps102
 go_upto_region 1 with fail
 generalize w.alloc (.cells #[.string s0,.string s1,.int .i64 0,.int .i64 ty,.int .i64 tr,.int .i64 tmn,.int .i64 tmx,.bool th,.int .i64 mmn,.int .i64 mmx,.bool mh,.int .i64 gt,.bool gm] 74) = w0 at *
 generalize w.heap.size = gx at *
 go_wp2_with (first
  | (go_at_call 173; (with_reducible refine (name_says B g _ s0 _ HS0.out HW0.out HN0.out).mono ?_); rintro e w1 ⟨rfl,hw',hf⟩; have HW1 := hid hw'; have HF1 := hid ((HF0.out).trans hf); have HX1 := hid ((HX0.out).fr hf (by decide) HNE.out); clear y0 y1 y2 y3 y4 y5 y6 y7 y8 y9 y10 y11 y12; obtain ⟨y0,y1,y2,y3,y4,y5,y6,y7,y8,y9,y10,y11,y12⟩ := ca13 HX1.out; clear hw' hf)
  | (go_at_call 173; (with_reducible refine (name_says B g _ s1 _ HS1.out HW1.out HN1.out).mono ?_); rintro e w2 ⟨rfl,hw',hf⟩; have HW2 := hid hw'; have HF2 := hid ((HF1.out).trans hf); have HX2 := hid ((HX1.out).fr hf (by decide) HNE.out); clear y0 y1 y2 y3 y4 y5 y6 y7 y8 y9 y10 y11 y12; obtain ⟨y0,y1,y2,y3,y4,y5,y6,y7,y8,y9,y10,y11,y12⟩ := ca13 HX2.out; clear hw' hf)
  | (go_at_call 169; (with_reducible refine (bytes_says B g _ [0] _ _ (HW2.out.alloc _) (LT.one (0) 1 HW2.out.lt) HN2.out).mono ?_); rintro e w3 ⟨rfl,hw',hf⟩; have HW3 := hid hw'; have HF3 := hid ((HF2.out.alloc _).trans hf); have HX3 := hid ((HX2.out.alloc _).fr hf (by decide) HNE.out); clear y0 y1 y2 y3 y4 y5 y6 y7 y8 y9 y10 y11 y12; obtain ⟨y0,y1,y2,y3,y4,y5,y6,y7,y8,y9,y10,y11,y12⟩ := ca13 HX3.out; clear hw' hf)
  | (go_at_call 105; (with_reducible refine (u_says B g _ (ty) _ HW3.out.base HW3.out HN3.out).mono ?_); rintro e w4 ⟨rfl,hw',hf⟩; have HW4 := hid hw'; have HF4 := hid ((HF3.out).trans hf); have HX4 := hid ((HX3.out).fr hf (by decide) HNE.out); clear y0 y1 y2 y3 y4 y5 y6 y7 y8 y9 y10 y11 y12; obtain ⟨y0,y1,y2,y3,y4,y5,y6,y7,y8,y9,y10,y11,y12⟩ := ca13 HX4.out; clear hw' hf))
 (first | go_end0 | refine bodyPost_ret (results_none rfl _ _ _) rfl ?_)
 refine ⟨rfl,?_,HF4.out⟩
 have := HW4.out
 simpa [miL] using this
set_option maxHeartbeats 4000000 in
theorem import_1 (B g : Nat) (bs : List UInt8) (s0 s1 : ByteArray) (ty tr tmn tmx : Int) (th : Bool) (mmn mmx : Int) (mh : Bool) (gt : Int) (gm : Bool) (w : World) (hs0 : s0.size ≤ 1000) (hs1 : s1.size ≤ 1000) (hw : WR B g bs w) (hn : bs.length ≤ 3000000000000) :
  Calls Tryz.prog 102 #[.pointer (some ⟨g,0,none⟩),.agg #[.string s0,.string s1,.int .i64 1,.int .i64 ty,.int .i64 tr,.int .i64 tmn,.int .i64 tmx,.bool th,.int .i64 mmn,.int .i64 mmx,.bool mh,.int .i64 gt,.bool gm]] w fun e w' => e = .returned (.tuple #[]) ∧ WR B g (bs ++ (miL ⟨s0,s1,1,ty,tr,tmn,tmx,th,mmn,mmx,mh,gt,gm⟩)) w' ∧ FR B g w w' := by
 have HS0 := hid hs0
 have HS1 := hid hs1
 have HW0 := hid (hw.alloc (.cells #[.string s0,.string s1,.int .i64 1,.int .i64 ty,.int .i64 tr,.int .i64 tmn,.int .i64 tmx,.bool th,.int .i64 mmn,.int .i64 mmx,.bool mh,.int .i64 gt,.bool gm] 74))
 have HF0 := hid ((FR.refl B g w).alloc (.cells #[.string s0,.string s1,.int .i64 1,.int .i64 ty,.int .i64 tr,.int .i64 tmn,.int .i64 tmx,.bool th,.int .i64 mmn,.int .i64 mmx,.bool mh,.int .i64 gt,.bool gm] 74))
 have HX0 := hid (CA.new w #[.string s0,.string s1,.int .i64 1,.int .i64 ty,.int .i64 tr,.int .i64 tmn,.int .i64 tmx,.bool th,.int .i64 mmn,.int .i64 mmx,.bool mh,.int .i64 gt,.bool gm] 74)
 have HNE := hid (show w.heap.size ≠ g by have := hw.lt; omega)
 obtain ⟨y0,y1,y2,y3,y4,y5,y6,y7,y8,y9,y10,y11,y12⟩ := ca13 HX0.out
 have HN0 := hid (show (bs).length ≤ 130737488355000 by
  have h1 := strL_len s0
  have h2 := strL_len s1
  have h3 := HS0.out
  have h4 := HS1.out
  (try simp only [List.length_append,List.length_cons,List.length_nil,List.length_map])
  omega)
 have HN1 := hid (show (bs ++ strL s0).length ≤ 130737488355000 by
  have h1 := strL_len s0
  have h2 := strL_len s1
  have h3 := HS0.out
  have h4 := HS1.out
  (try simp only [List.length_append,List.length_cons,List.length_nil,List.length_map])
  omega)
 have HN2 := hid (show (bs ++ strL s0 ++ strL s1).length + ([1] : List Int).length ≤ 140737488355000 by
  have h1 := strL_len s0
  have h2 := strL_len s1
  have h3 := HS0.out
  have h4 := HS1.out
  (try simp only [List.length_append,List.length_cons,List.length_nil,List.length_map])
  omega)
 have HN3 := hid (show (bs ++ strL s0 ++ strL s1 ++ List.map byI [1]).length ≤ 50000000000000 by
  have h1 := strL_len s0
  have h2 := strL_len s1
  have h3 := HS0.out
  have h4 := HS1.out
  (try simp only [List.length_append,List.length_cons,List.length_nil,List.length_map])
  omega)
 clear hw hn
 go_enter Tryz.func102,Tryz.ntmps102
 go_upto_region 1 with fail
 generalize w.alloc (.cells #[.string s0,.string s1,.int .i64 1,.int .i64 ty,.int .i64 tr,.int .i64 tmn,.int .i64 tmx,.bool th,.int .i64 mmn,.int .i64 mmx,.bool mh,.int .i64 gt,.bool gm] 74) = w0 at *
 generalize w.heap.size = gx at *
 go_wp2_with (first
  | (go_at_call 173; (with_reducible refine (name_says B g _ s0 _ HS0.out HW0.out HN0.out).mono ?_); rintro e w1 ⟨rfl,hw',hf⟩; have HW1 := hid hw'; have HF1 := hid ((HF0.out).trans hf); have HX1 := hid ((HX0.out).fr hf (by decide) HNE.out); clear y0 y1 y2 y3 y4 y5 y6 y7 y8 y9 y10 y11 y12; obtain ⟨y0,y1,y2,y3,y4,y5,y6,y7,y8,y9,y10,y11,y12⟩ := ca13 HX1.out; clear hw' hf)
  | (go_at_call 173; (with_reducible refine (name_says B g _ s1 _ HS1.out HW1.out HN1.out).mono ?_); rintro e w2 ⟨rfl,hw',hf⟩; have HW2 := hid hw'; have HF2 := hid ((HF1.out).trans hf); have HX2 := hid ((HX1.out).fr hf (by decide) HNE.out); clear y0 y1 y2 y3 y4 y5 y6 y7 y8 y9 y10 y11 y12; obtain ⟨y0,y1,y2,y3,y4,y5,y6,y7,y8,y9,y10,y11,y12⟩ := ca13 HX2.out; clear hw' hf)
  | (go_at_call 169; (with_reducible refine (bytes_says B g _ [1] _ _ (HW2.out.alloc _) (LT.one (1) 1 HW2.out.lt) HN2.out).mono ?_); rintro e w3 ⟨rfl,hw',hf⟩; have HW3 := hid hw'; have HF3 := hid ((HF2.out.alloc _).trans hf); have HX3 := hid ((HX2.out.alloc _).fr hf (by decide) HNE.out); clear y0 y1 y2 y3 y4 y5 y6 y7 y8 y9 y10 y11 y12; obtain ⟨y0,y1,y2,y3,y4,y5,y6,y7,y8,y9,y10,y11,y12⟩ := ca13 HX3.out; clear hw' hf)
  | (go_at_call 108; (with_reducible refine (ttype_says B g _ tr tmn tmx th _ HW3.out HN3.out).mono ?_); rintro e w4 ⟨rfl,hw',hf⟩; have HW4 := hid hw'; have HF4 := hid ((HF3.out).trans hf); have HX4 := hid ((HX3.out).fr hf (by decide) HNE.out); clear y0 y1 y2 y3 y4 y5 y6 y7 y8 y9 y10 y11 y12; obtain ⟨y0,y1,y2,y3,y4,y5,y6,y7,y8,y9,y10,y11,y12⟩ := ca13 HX4.out; clear hw' hf))
 (first | go_end0 | refine bodyPost_ret (results_none rfl _ _ _) rfl ?_)
 refine ⟨rfl,?_,HF4.out⟩
 have := HW4.out
 simpa [miL] using this
set_option maxHeartbeats 4000000 in
theorem import_2 (B g : Nat) (bs : List UInt8) (s0 s1 : ByteArray) (ty tr tmn tmx : Int) (th : Bool) (mmn mmx : Int) (mh : Bool) (gt : Int) (gm : Bool) (w : World) (hs0 : s0.size ≤ 1000) (hs1 : s1.size ≤ 1000) (hw : WR B g bs w) (hn : bs.length ≤ 3000000000000) :
  Calls Tryz.prog 102 #[.pointer (some ⟨g,0,none⟩),.agg #[.string s0,.string s1,.int .i64 2,.int .i64 ty,.int .i64 tr,.int .i64 tmn,.int .i64 tmx,.bool th,.int .i64 mmn,.int .i64 mmx,.bool mh,.int .i64 gt,.bool gm]] w fun e w' => e = .returned (.tuple #[]) ∧ WR B g (bs ++ (miL ⟨s0,s1,2,ty,tr,tmn,tmx,th,mmn,mmx,mh,gt,gm⟩)) w' ∧ FR B g w w' := by
 have HS0 := hid hs0
 have HS1 := hid hs1
 have HW0 := hid (hw.alloc (.cells #[.string s0,.string s1,.int .i64 2,.int .i64 ty,.int .i64 tr,.int .i64 tmn,.int .i64 tmx,.bool th,.int .i64 mmn,.int .i64 mmx,.bool mh,.int .i64 gt,.bool gm] 74))
 have HF0 := hid ((FR.refl B g w).alloc (.cells #[.string s0,.string s1,.int .i64 2,.int .i64 ty,.int .i64 tr,.int .i64 tmn,.int .i64 tmx,.bool th,.int .i64 mmn,.int .i64 mmx,.bool mh,.int .i64 gt,.bool gm] 74))
 have HX0 := hid (CA.new w #[.string s0,.string s1,.int .i64 2,.int .i64 ty,.int .i64 tr,.int .i64 tmn,.int .i64 tmx,.bool th,.int .i64 mmn,.int .i64 mmx,.bool mh,.int .i64 gt,.bool gm] 74)
 have HNE := hid (show w.heap.size ≠ g by have := hw.lt; omega)
 obtain ⟨y0,y1,y2,y3,y4,y5,y6,y7,y8,y9,y10,y11,y12⟩ := ca13 HX0.out
 have HN0 := hid (show (bs).length ≤ 130737488355000 by
  have h1 := strL_len s0
  have h2 := strL_len s1
  have h3 := HS0.out
  have h4 := HS1.out
  (try simp only [List.length_append,List.length_cons,List.length_nil,List.length_map])
  omega)
 have HN1 := hid (show (bs ++ strL s0).length ≤ 130737488355000 by
  have h1 := strL_len s0
  have h2 := strL_len s1
  have h3 := HS0.out
  have h4 := HS1.out
  (try simp only [List.length_append,List.length_cons,List.length_nil,List.length_map])
  omega)
 have HN2 := hid (show (bs ++ strL s0 ++ strL s1).length + ([2] : List Int).length ≤ 140737488355000 by
  have h1 := strL_len s0
  have h2 := strL_len s1
  have h3 := HS0.out
  have h4 := HS1.out
  (try simp only [List.length_append,List.length_cons,List.length_nil,List.length_map])
  omega)
 have HN3 := hid (show (bs ++ strL s0 ++ strL s1 ++ List.map byI [2]).length ≤ 100000000000000 by
  have h1 := strL_len s0
  have h2 := strL_len s1
  have h3 := HS0.out
  have h4 := HS1.out
  (try simp only [List.length_append,List.length_cons,List.length_nil,List.length_map])
  omega)
 clear hw hn
 go_enter Tryz.func102,Tryz.ntmps102
 go_upto_region 1 with fail
 generalize w.alloc (.cells #[.string s0,.string s1,.int .i64 2,.int .i64 ty,.int .i64 tr,.int .i64 tmn,.int .i64 tmx,.bool th,.int .i64 mmn,.int .i64 mmx,.bool mh,.int .i64 gt,.bool gm] 74) = w0 at *
 generalize w.heap.size = gx at *
 go_wp2_with (first
  | (go_at_call 173; (with_reducible refine (name_says B g _ s0 _ HS0.out HW0.out HN0.out).mono ?_); rintro e w1 ⟨rfl,hw',hf⟩; have HW1 := hid hw'; have HF1 := hid ((HF0.out).trans hf); have HX1 := hid ((HX0.out).fr hf (by decide) HNE.out); clear y0 y1 y2 y3 y4 y5 y6 y7 y8 y9 y10 y11 y12; obtain ⟨y0,y1,y2,y3,y4,y5,y6,y7,y8,y9,y10,y11,y12⟩ := ca13 HX1.out; clear hw' hf)
  | (go_at_call 173; (with_reducible refine (name_says B g _ s1 _ HS1.out HW1.out HN1.out).mono ?_); rintro e w2 ⟨rfl,hw',hf⟩; have HW2 := hid hw'; have HF2 := hid ((HF1.out).trans hf); have HX2 := hid ((HX1.out).fr hf (by decide) HNE.out); clear y0 y1 y2 y3 y4 y5 y6 y7 y8 y9 y10 y11 y12; obtain ⟨y0,y1,y2,y3,y4,y5,y6,y7,y8,y9,y10,y11,y12⟩ := ca13 HX2.out; clear hw' hf)
  | (go_at_call 169; (with_reducible refine (bytes_says B g _ [2] _ _ (HW2.out.alloc _) (LT.one (2) 1 HW2.out.lt) HN2.out).mono ?_); rintro e w3 ⟨rfl,hw',hf⟩; have HW3 := hid hw'; have HF3 := hid ((HF2.out.alloc _).trans hf); have HX3 := hid ((HX2.out.alloc _).fr hf (by decide) HNE.out); clear y0 y1 y2 y3 y4 y5 y6 y7 y8 y9 y10 y11 y12; obtain ⟨y0,y1,y2,y3,y4,y5,y6,y7,y8,y9,y10,y11,y12⟩ := ca13 HX3.out; clear hw' hf)
  | (go_at_call 111; (with_reducible refine (limits_says B g _ mmn mmx mh _ HW3.out HN3.out).mono ?_); rintro e w4 ⟨rfl,hw',hf⟩; have HW4 := hid hw'; have HF4 := hid ((HF3.out).trans hf); have HX4 := hid ((HX3.out).fr hf (by decide) HNE.out); clear y0 y1 y2 y3 y4 y5 y6 y7 y8 y9 y10 y11 y12; obtain ⟨y0,y1,y2,y3,y4,y5,y6,y7,y8,y9,y10,y11,y12⟩ := ca13 HX4.out; clear hw' hf))
 (first | go_end0 | refine bodyPost_ret (results_none rfl _ _ _) rfl ?_)
 refine ⟨rfl,?_,HF4.out⟩
 have := HW4.out
 simpa [miL] using this
set_option maxHeartbeats 4000000 in
theorem import_3 (B g : Nat) (bs : List UInt8) (s0 s1 : ByteArray) (ty tr tmn tmx : Int) (th : Bool) (mmn mmx : Int) (mh : Bool) (gt : Int) (gm : Bool) (w : World) (hs0 : s0.size ≤ 1000) (hs1 : s1.size ≤ 1000) (hw : WR B g bs w) (hn : bs.length ≤ 3000000000000) :
  Calls Tryz.prog 102 #[.pointer (some ⟨g,0,none⟩),.agg #[.string s0,.string s1,.int .i64 3,.int .i64 ty,.int .i64 tr,.int .i64 tmn,.int .i64 tmx,.bool th,.int .i64 mmn,.int .i64 mmx,.bool mh,.int .i64 gt,.bool gm]] w fun e w' => e = .returned (.tuple #[]) ∧ WR B g (bs ++ (miL ⟨s0,s1,3,ty,tr,tmn,tmx,th,mmn,mmx,mh,gt,gm⟩)) w' ∧ FR B g w w' := by
 have HS0 := hid hs0
 have HS1 := hid hs1
 have HW0 := hid (hw.alloc (.cells #[.string s0,.string s1,.int .i64 3,.int .i64 ty,.int .i64 tr,.int .i64 tmn,.int .i64 tmx,.bool th,.int .i64 mmn,.int .i64 mmx,.bool mh,.int .i64 gt,.bool gm] 74))
 have HF0 := hid ((FR.refl B g w).alloc (.cells #[.string s0,.string s1,.int .i64 3,.int .i64 ty,.int .i64 tr,.int .i64 tmn,.int .i64 tmx,.bool th,.int .i64 mmn,.int .i64 mmx,.bool mh,.int .i64 gt,.bool gm] 74))
 have HX0 := hid (CA.new w #[.string s0,.string s1,.int .i64 3,.int .i64 ty,.int .i64 tr,.int .i64 tmn,.int .i64 tmx,.bool th,.int .i64 mmn,.int .i64 mmx,.bool mh,.int .i64 gt,.bool gm] 74)
 have HNE := hid (show w.heap.size ≠ g by have := hw.lt; omega)
 obtain ⟨y0,y1,y2,y3,y4,y5,y6,y7,y8,y9,y10,y11,y12⟩ := ca13 HX0.out
 have HN0 := hid (show (bs).length ≤ 130737488355000 by
  have h1 := strL_len s0
  have h2 := strL_len s1
  have h3 := HS0.out
  have h4 := HS1.out
  (try simp only [List.length_append,List.length_cons,List.length_nil,List.length_map])
  omega)
 have HN1 := hid (show (bs ++ strL s0).length ≤ 130737488355000 by
  have h1 := strL_len s0
  have h2 := strL_len s1
  have h3 := HS0.out
  have h4 := HS1.out
  (try simp only [List.length_append,List.length_cons,List.length_nil,List.length_map])
  omega)
 have HN2 := hid (show (bs ++ strL s0 ++ strL s1).length + ([3] : List Int).length ≤ 140737488355000 by
  have h1 := strL_len s0
  have h2 := strL_len s1
  have h3 := HS0.out
  have h4 := HS1.out
  (try simp only [List.length_append,List.length_cons,List.length_nil,List.length_map])
  omega)
 have HN3 := hid (show (bs ++ strL s0 ++ strL s1 ++ List.map byI [3]).length ≤ 100000000000000 by
  have h1 := strL_len s0
  have h2 := strL_len s1
  have h3 := HS0.out
  have h4 := HS1.out
  (try simp only [List.length_append,List.length_cons,List.length_nil,List.length_map])
  omega)
 clear hw hn
 go_enter Tryz.func102,Tryz.ntmps102
 go_upto_region 1 with fail
 generalize w.alloc (.cells #[.string s0,.string s1,.int .i64 3,.int .i64 ty,.int .i64 tr,.int .i64 tmn,.int .i64 tmx,.bool th,.int .i64 mmn,.int .i64 mmx,.bool mh,.int .i64 gt,.bool gm] 74) = w0 at *
 generalize w.heap.size = gx at *
 go_wp2_with (first
  | (go_at_call 173; (with_reducible refine (name_says B g _ s0 _ HS0.out HW0.out HN0.out).mono ?_); rintro e w1 ⟨rfl,hw',hf⟩; have HW1 := hid hw'; have HF1 := hid ((HF0.out).trans hf); have HX1 := hid ((HX0.out).fr hf (by decide) HNE.out); clear y0 y1 y2 y3 y4 y5 y6 y7 y8 y9 y10 y11 y12; obtain ⟨y0,y1,y2,y3,y4,y5,y6,y7,y8,y9,y10,y11,y12⟩ := ca13 HX1.out; clear hw' hf)
  | (go_at_call 173; (with_reducible refine (name_says B g _ s1 _ HS1.out HW1.out HN1.out).mono ?_); rintro e w2 ⟨rfl,hw',hf⟩; have HW2 := hid hw'; have HF2 := hid ((HF1.out).trans hf); have HX2 := hid ((HX1.out).fr hf (by decide) HNE.out); clear y0 y1 y2 y3 y4 y5 y6 y7 y8 y9 y10 y11 y12; obtain ⟨y0,y1,y2,y3,y4,y5,y6,y7,y8,y9,y10,y11,y12⟩ := ca13 HX2.out; clear hw' hf)
  | (go_at_call 169; (with_reducible refine (bytes_says B g _ [3] _ _ (HW2.out.alloc _) (LT.one (3) 1 HW2.out.lt) HN2.out).mono ?_); rintro e w3 ⟨rfl,hw',hf⟩; have HW3 := hid hw'; have HF3 := hid ((HF2.out.alloc _).trans hf); have HX3 := hid ((HX2.out.alloc _).fr hf (by decide) HNE.out); clear y0 y1 y2 y3 y4 y5 y6 y7 y8 y9 y10 y11 y12; obtain ⟨y0,y1,y2,y3,y4,y5,y6,y7,y8,y9,y10,y11,y12⟩ := ca13 HX3.out; clear hw' hf)
  | (go_at_call 174; (with_reducible refine (gtype_says B g _ gt gm _ HW3.out HN3.out).mono ?_); rintro e w4 ⟨rfl,hw',hf⟩; have HW4 := hid hw'; have HF4 := hid ((HF3.out).trans hf); have HX4 := hid ((HX3.out).fr hf (by decide) HNE.out); clear y0 y1 y2 y3 y4 y5 y6 y7 y8 y9 y10 y11 y12; obtain ⟨y0,y1,y2,y3,y4,y5,y6,y7,y8,y9,y10,y11,y12⟩ := ca13 HX4.out; clear hw' hf))
 (first | go_end0 | refine bodyPost_ret (results_none rfl _ _ _) rfl ?_)
 refine ⟨rfl,?_,HF4.out⟩
 have := HW4.out
 simpa [miL] using this
theorem import_says (B g : Nat) (bs : List UInt8) (s0 s1 : ByteArray) (kd ty tr tmn tmx : Int) (th : Bool) (mmn mmx : Int) (mh : Bool) (gt : Int) (gm : Bool) (w : World) (hk : kindB kd = true) (hs0 : s0.size ≤ 1000) (hs1 : s1.size ≤ 1000) (hw : WR B g bs w) (hn : bs.length ≤ 3000000000000) :
  Calls Tryz.prog 102 #[.pointer (some ⟨g,0,none⟩),.agg #[.string s0,.string s1,.int .i64 kd,.int .i64 ty,.int .i64 tr,.int .i64 tmn,.int .i64 tmx,.bool th,.int .i64 mmn,.int .i64 mmx,.bool mh,.int .i64 gt,.bool gm]] w fun e w' => e = .returned (.tuple #[]) ∧ WR B g (bs ++ miL ⟨s0,s1,kd,ty,tr,tmn,tmx,th,mmn,mmx,mh,gt,gm⟩) w' ∧ FR B g w w' := by
 have hk' : kd = 0 ∨ kd = 1 ∨ kd = 2 ∨ kd = 3 := by
  unfold kindB at hk
  simp only [Bool.or_eq_true,beq_iff_eq] at hk
  omega
 rcases hk' with rfl | rfl | rfl | rfl
 ·exact import_0 B g bs s0 s1 ty tr tmn tmx th mmn mmx mh gt gm w hs0 hs1 hw hn
 ·exact import_1 B g bs s0 s1 ty tr tmn tmx th mmn mmx mh gt gm w hs0 hs1 hw hn
 ·exact import_2 B g bs s0 s1 ty tr tmn tmx th mmn mmx mh gt gm w hs0 hs1 hw hn
 exact import_3 B g bs s0 s1 ty tr tmn tmx th mmn mmx mh gt gm w hs0 hs1 hw hn
set_option maxHeartbeats 2000000 in
theorem mc_Typ (B g b : Nat) (bs : List UInt8) (a b0 : List Int) (pa pb : Option Addr) (ca cb L : Nat) (w : World) (hL : L ≤ lo B g) (ha : LI L w (.slice pa a.length ca) a) (hb0 : LI L w (.slice pb b0.length cb) b0) (ha0 : a.length ≤ 1000) (hb1 : b0.length ≤ 1000) (hbg : b ≠ g) (hb : CA b #[.pointer (some ⟨g,0,none⟩)] 135 w) (hw : WR B g bs w) (hn : bs.length ≤ 3000000000000) :
  Calls Tryz.prog 98 #[.agg #[.slice pa a.length ca,.slice pb b0.length cb],.pointer (some ⟨b,0,none⟩)] w fun e w' => e = .returned (.tuple #[]) ∧ WR B g (bs ++ mtL ⟨a,pa,ca,b0,pb,cb⟩) w' ∧ FR B g w w' := by
 have HX0 := hid (CA.new w #[.slice pa a.length ca,.slice pb b0.length cb] 67)
 have HB0 := hid (hb.alloc (.cells #[.slice pa a.length ca,.slice pb b0.length cb] 67))
 have HF0 := hid ((FR.refl B g w).alloc (.cells #[.slice pa a.length ca,.slice pb b0.length cb] 67))
 have hba := (Below.refl w.heap.size w).alloc (Nat.le_refl _) (.cells #[.slice pa a.length ca,.slice pb b0.length cb] 67)
 have HC := hid (ftype_says B g bs a b0 pa pb ca cb L (w.alloc (.cells #[.slice pa a.length ca,.slice pb b0.length cb] 67)) hL (ha.below (hba.mono (by have := hw.1; have := lo_B B g; omega))) (hb0.below (hba.mono (by have := hw.1; have := lo_B B g; omega))) ha0 hb1 (hw.alloc (.cells #[.slice pa a.length ca,.slice pb b0.length cb] 67)) hn)
 clear hb hw hn hba ha hb0 ha0 hb1
 go_enter Tryz.func98,Tryz.ntmps98
 go_upto_region 1 with fail
 generalize w.alloc (.cells #[.slice pa a.length ca,.slice pb b0.length cb] 67) = w0 at *
 generalize w.heap.size = gx at *
 have y0 := HB0.out.at (k := 0) (v := .pointer (some ⟨g,0,none⟩)) rfl
 have x0 := HX0.out.at (k := 0) (v := .slice pa a.length ca) rfl
 have x1 := HX0.out.at (k := 1) (v := .slice pb b0.length cb) rfl
 go_wp2_with (go_at_call 99; (with_reducible refine HC.out.mono ?_); rintro e w1 ⟨rfl,hw',hf⟩; have HW1 := hid hw'; have HF1 := hid (HF0.out.trans hf); clear hw' hf)
 (first | go_end0 | refine bodyPost_ret (results_none rfl _ _ _) rfl ?_)
 exact ⟨rfl,HW1.out,HF1.out⟩
set_option maxHeartbeats 2000000 in
theorem mc_Imp (B g b : Nat) (bs : List UInt8) (s0 s1 : ByteArray) (kd ty tr tmn tmx : Int) (th : Bool) (mmn mmx : Int) (mh : Bool) (gt : Int) (gm : Bool) (w : World) (hk : kindB kd = true) (hs0 : s0.size ≤ 1000) (hs1 : s1.size ≤ 1000) (hbg : b ≠ g) (hb : CA b #[.pointer (some ⟨g,0,none⟩)] 135 w) (hw : WR B g bs w) (hn : bs.length ≤ 3000000000000) :
  Calls Tryz.prog 101 #[.agg #[.string s0,.string s1,.int .i64 kd,.int .i64 ty,.int .i64 tr,.int .i64 tmn,.int .i64 tmx,.bool th,.int .i64 mmn,.int .i64 mmx,.bool mh,.int .i64 gt,.bool gm],.pointer (some ⟨b,0,none⟩)] w fun e w' => e = .returned (.tuple #[]) ∧ WR B g (bs ++ miL ⟨s0,s1,kd,ty,tr,tmn,tmx,th,mmn,mmx,mh,gt,gm⟩) w' ∧ FR B g w w' := by
 have HX0 := hid (CA.new w #[.string s0,.string s1,.int .i64 kd,.int .i64 ty,.int .i64 tr,.int .i64 tmn,.int .i64 tmx,.bool th,.int .i64 mmn,.int .i64 mmx,.bool mh,.int .i64 gt,.bool gm] 74)
 have HB0 := hid (hb.alloc (.cells #[.string s0,.string s1,.int .i64 kd,.int .i64 ty,.int .i64 tr,.int .i64 tmn,.int .i64 tmx,.bool th,.int .i64 mmn,.int .i64 mmx,.bool mh,.int .i64 gt,.bool gm] 74))
 have HF0 := hid ((FR.refl B g w).alloc (.cells #[.string s0,.string s1,.int .i64 kd,.int .i64 ty,.int .i64 tr,.int .i64 tmn,.int .i64 tmx,.bool th,.int .i64 mmn,.int .i64 mmx,.bool mh,.int .i64 gt,.bool gm] 74))
 have hba := (Below.refl w.heap.size w).alloc (Nat.le_refl _) (.cells #[.string s0,.string s1,.int .i64 kd,.int .i64 ty,.int .i64 tr,.int .i64 tmn,.int .i64 tmx,.bool th,.int .i64 mmn,.int .i64 mmx,.bool mh,.int .i64 gt,.bool gm] 74)
 have HC := hid (import_says B g bs s0 s1 kd ty tr tmn tmx th mmn mmx mh gt gm (w.alloc (.cells #[.string s0,.string s1,.int .i64 kd,.int .i64 ty,.int .i64 tr,.int .i64 tmn,.int .i64 tmx,.bool th,.int .i64 mmn,.int .i64 mmx,.bool mh,.int .i64 gt,.bool gm] 74)) hk hs0 hs1 (hw.alloc (.cells #[.string s0,.string s1,.int .i64 kd,.int .i64 ty,.int .i64 tr,.int .i64 tmn,.int .i64 tmx,.bool th,.int .i64 mmn,.int .i64 mmx,.bool mh,.int .i64 gt,.bool gm] 74)) hn)
 clear hb hw hn hba hk hs0 hs1
 go_enter Tryz.func101,Tryz.ntmps101
 go_upto_region 1 with fail
 generalize w.alloc (.cells #[.string s0,.string s1,.int .i64 kd,.int .i64 ty,.int .i64 tr,.int .i64 tmn,.int .i64 tmx,.bool th,.int .i64 mmn,.int .i64 mmx,.bool mh,.int .i64 gt,.bool gm] 74) = w0 at *
 generalize w.heap.size = gx at *
 have y0 := HB0.out.at (k := 0) (v := .pointer (some ⟨g,0,none⟩)) rfl
 obtain ⟨x0,x1,x2,x3,x4,x5,x6,x7,x8,x9,x10,x11,x12⟩ := ca13 HX0.out
 go_wp2_with (go_at_call 102; (with_reducible refine HC.out.mono ?_); rintro e w1 ⟨rfl,hw',hf⟩; have HW1 := hid hw'; have HF1 := hid (HF0.out.trans hf); clear hw' hf)
 (first | go_end0 | refine bodyPost_ret (results_none rfl _ _ _) rfl ?_)
 exact ⟨rfl,HW1.out,HF1.out⟩
set_option maxHeartbeats 2000000 in
theorem mc_FunT (B g b : Nat) (bs : List UInt8) (ty : Int) (pl pf : Option Addr) (nl cl nf cf : Nat) (w : World) (hbg : b ≠ g) (hb : CA b #[.pointer (some ⟨g,0,none⟩)] 135 w) (hw : WR B g bs w) (hn : bs.length ≤ 3000000000000) :
  Calls Tryz.prog 104 #[.agg #[.int .i64 ty,.slice pl nl cl,.slice pf nf cf],.pointer (some ⟨b,0,none⟩)] w fun e w' => e = .returned (.tuple #[]) ∧ WR B g (bs ++ uI ty) w' ∧ FR B g w w' := by
 have HX0 := hid (CA.new w #[.int .i64 ty,.slice pl nl cl,.slice pf nf cf] 42)
 have HB0 := hid (hb.alloc (.cells #[.int .i64 ty,.slice pl nl cl,.slice pf nf cf] 42))
 have HF0 := hid ((FR.refl B g w).alloc (.cells #[.int .i64 ty,.slice pl nl cl,.slice pf nf cf] 42))
 have hba := (Below.refl w.heap.size w).alloc (Nat.le_refl _) (.cells #[.int .i64 ty,.slice pl nl cl,.slice pf nf cf] 42)
 have HC := hid (u_says B g bs ty (w.alloc (.cells #[.int .i64 ty,.slice pl nl cl,.slice pf nf cf] 42)) (hw.alloc (.cells #[.int .i64 ty,.slice pl nl cl,.slice pf nf cf] 42)).1 (hw.alloc (.cells #[.int .i64 ty,.slice pl nl cl,.slice pf nf cf] 42)) (by omega))
 clear hb hw hn hba
 go_enter Tryz.func104,Tryz.ntmps104
 go_upto_region 1 with fail
 generalize w.alloc (.cells #[.int .i64 ty,.slice pl nl cl,.slice pf nf cf] 42) = w0 at *
 generalize w.heap.size = gx at *
 have y0 := HB0.out.at (k := 0) (v := .pointer (some ⟨g,0,none⟩)) rfl
 have x0 := HX0.out.at (k := 0) (v := .int .i64 ty) rfl
 have x1 := HX0.out.at (k := 1) (v := .slice pl nl cl) rfl
 have x2 := HX0.out.at (k := 2) (v := .slice pf nf cf) rfl
 go_wp2_with (go_at_call 105; (with_reducible refine HC.out.mono ?_); rintro e w1 ⟨rfl,hw',hf⟩; have HW1 := hid hw'; have HF1 := hid (HF0.out.trans hf); clear hw' hf)
 (first | go_end0 | refine bodyPost_ret (results_none rfl _ _ _) rfl ?_)
 exact ⟨rfl,HW1.out,HF1.out⟩
set_option maxHeartbeats 2000000 in
theorem mc_Tab (B g b : Nat) (bs : List UInt8) (r mn mx : Int) (h : Bool) (w : World) (hbg : b ≠ g) (hb : CA b #[.pointer (some ⟨g,0,none⟩)] 135 w) (hw : WR B g bs w) (hn : bs.length ≤ 3000000000000) :
  Calls Tryz.prog 107 #[.agg #[.int .i64 r,.int .i64 mn,.int .i64 mx,.bool h],.pointer (some ⟨b,0,none⟩)] w fun e w' => e = .returned (.tuple #[]) ∧ WR B g (bs ++ tabL r mn mx h) w' ∧ FR B g w w' := by
 have HX0 := hid (CA.new w #[.int .i64 r,.int .i64 mn,.int .i64 mx,.bool h] 72)
 have HB0 := hid (hb.alloc (.cells #[.int .i64 r,.int .i64 mn,.int .i64 mx,.bool h] 72))
 have HF0 := hid ((FR.refl B g w).alloc (.cells #[.int .i64 r,.int .i64 mn,.int .i64 mx,.bool h] 72))
 have hba := (Below.refl w.heap.size w).alloc (Nat.le_refl _) (.cells #[.int .i64 r,.int .i64 mn,.int .i64 mx,.bool h] 72)
 have HC := hid (ttype_says B g bs r mn mx h (w.alloc (.cells #[.int .i64 r,.int .i64 mn,.int .i64 mx,.bool h] 72)) (hw.alloc (.cells #[.int .i64 r,.int .i64 mn,.int .i64 mx,.bool h] 72)) (by omega))
 clear hb hw hn hba
 go_enter Tryz.func107,Tryz.ntmps107
 go_upto_region 1 with fail
 generalize w.alloc (.cells #[.int .i64 r,.int .i64 mn,.int .i64 mx,.bool h] 72) = w0 at *
 generalize w.heap.size = gx at *
 have y0 := HB0.out.at (k := 0) (v := .pointer (some ⟨g,0,none⟩)) rfl
 have x0 := HX0.out.at (k := 0) (v := .int .i64 r) rfl
 have x1 := HX0.out.at (k := 1) (v := .int .i64 mn) rfl
 have x2 := HX0.out.at (k := 2) (v := .int .i64 mx) rfl
 have x3 := HX0.out.at (k := 3) (v := .bool h) rfl
 go_wp2_with (go_at_call 108; (with_reducible refine HC.out.mono ?_); rintro e w1 ⟨rfl,hw',hf⟩; have HW1 := hid hw'; have HF1 := hid (HF0.out.trans hf); clear hw' hf)
 (first | go_end0 | refine bodyPost_ret (results_none rfl _ _ _) rfl ?_)
 exact ⟨rfl,HW1.out,HF1.out⟩
set_option maxHeartbeats 2000000 in
theorem mc_Lim (B g b : Nat) (bs : List UInt8) (mn mx : Int) (h : Bool) (w : World) (hbg : b ≠ g) (hb : CA b #[.pointer (some ⟨g,0,none⟩)] 135 w) (hw : WR B g bs w) (hn : bs.length ≤ 3000000000000) :
  Calls Tryz.prog 110 #[.agg #[.int .i64 mn,.int .i64 mx,.bool h],.pointer (some ⟨b,0,none⟩)] w fun e w' => e = .returned (.tuple #[]) ∧ WR B g (bs ++ limL mn mx h) w' ∧ FR B g w w' := by
 have HX0 := hid (CA.new w #[.int .i64 mn,.int .i64 mx,.bool h] 70)
 have HB0 := hid (hb.alloc (.cells #[.int .i64 mn,.int .i64 mx,.bool h] 70))
 have HF0 := hid ((FR.refl B g w).alloc (.cells #[.int .i64 mn,.int .i64 mx,.bool h] 70))
 have hba := (Below.refl w.heap.size w).alloc (Nat.le_refl _) (.cells #[.int .i64 mn,.int .i64 mx,.bool h] 70)
 have HC := hid (limits_says B g bs mn mx h (w.alloc (.cells #[.int .i64 mn,.int .i64 mx,.bool h] 70)) (hw.alloc (.cells #[.int .i64 mn,.int .i64 mx,.bool h] 70)) (by omega))
 clear hb hw hn hba
 go_enter Tryz.func110,Tryz.ntmps110
 go_upto_region 1 with fail
 generalize w.alloc (.cells #[.int .i64 mn,.int .i64 mx,.bool h] 70) = w0 at *
 generalize w.heap.size = gx at *
 have y0 := HB0.out.at (k := 0) (v := .pointer (some ⟨g,0,none⟩)) rfl
 have x0 := HX0.out.at (k := 0) (v := .int .i64 mn) rfl
 have x1 := HX0.out.at (k := 1) (v := .int .i64 mx) rfl
 have x2 := HX0.out.at (k := 2) (v := .bool h) rfl
 go_wp2_with (go_at_call 111; (with_reducible refine HC.out.mono ?_); rintro e w1 ⟨rfl,hw',hf⟩; have HW1 := hid hw'; have HF1 := hid (HF0.out.trans hf); clear hw' hf)
 (first | go_end0 | refine bodyPost_ret (results_none rfl _ _ _) rfl ?_)
 exact ⟨rfl,HW1.out,HF1.out⟩
set_option maxHeartbeats 2000000 in
theorem mc_Glo (B g b : Nat) (bs : List UInt8) (t : Int) (m : Bool) (f : Fo) (pf : Option Addr) (cf : Nat) (w : World) (hct : f.cnt < 9223372036854775806) (hok : okE f) (hsz : f.siz ≤ 61200000) (hs : SA (lo B g) w (.slice pf f.len cf) f) (hbg : b ≠ g) (hb : CA b #[.pointer (some ⟨g,0,none⟩)] 135 w) (hw : WR B g bs w) (hn : bs.length ≤ 3000000000000) :
  Calls Tryz.prog 113 #[.agg #[.int .i64 t,.bool m,.slice pf f.len cf],.pointer (some ⟨b,0,none⟩)] w fun e w' => e = .returned (.tuple #[]) ∧ WR B g (bs ++ mgL ⟨t,m,f,pf,cf⟩) w' ∧ FR B g w w' := by
 have HX0 := hid (CA.new w #[.int .i64 t,.bool m,.slice pf f.len cf] 46)
 have HB0 := hid (hb.alloc (.cells #[.int .i64 t,.bool m,.slice pf f.len cf] 46))
 have HF0 := hid ((FR.refl B g w).alloc (.cells #[.int .i64 t,.bool m,.slice pf f.len cf] 46))
 have hba := (Below.refl w.heap.size w).alloc (Nat.le_refl _) (.cells #[.int .i64 t,.bool m,.slice pf f.len cf] 46)
 have HC := hid (global_says B g bs t m f pf cf (w.alloc (.cells #[.int .i64 t,.bool m,.slice pf f.len cf] 46)) hct hok hsz (SA.below hs (hba.mono (by have := hw.1; have := lo_B B g; omega))) (hw.alloc (.cells #[.int .i64 t,.bool m,.slice pf f.len cf] 46)) hn)
 clear hb hw hn hba hct hok hsz hs
 go_enter Tryz.func113,Tryz.ntmps113
 go_upto_region 1 with fail
 generalize w.alloc (.cells #[.int .i64 t,.bool m,.slice pf f.len cf] 46) = w0 at *
 generalize w.heap.size = gx at *
 have y0 := HB0.out.at (k := 0) (v := .pointer (some ⟨g,0,none⟩)) rfl
 have x0 := HX0.out.at (k := 0) (v := .int .i64 t) rfl
 have x1 := HX0.out.at (k := 1) (v := .bool m) rfl
 have x2 := HX0.out.at (k := 2) (v := .slice pf f.len cf) rfl
 go_wp2_with (go_at_call 114; (with_reducible refine HC.out.mono ?_); rintro e w1 ⟨rfl,hw',hf⟩; have HW1 := hid hw'; have HF1 := hid (HF0.out.trans hf); clear hw' hf)
 (first | go_end0 | refine bodyPost_ret (results_none rfl _ _ _) rfl ?_)
 exact ⟨rfl,HW1.out,HF1.out⟩
set_option maxHeartbeats 2000000 in
theorem mc_Exp (B g b : Nat) (bs : List UInt8) (s : ByteArray) (k ix : Int) (w : World) (hs : s.size ≤ 1000) (hbg : b ≠ g) (hb : CA b #[.pointer (some ⟨g,0,none⟩)] 135 w) (hw : WR B g bs w) (hn : bs.length ≤ 3000000000000) :
  Calls Tryz.prog 116 #[.agg #[.string s,.int .i64 k,.int .i64 ix],.pointer (some ⟨b,0,none⟩)] w fun e w' => e = .returned (.tuple #[]) ∧ WR B g (bs ++ mxL ⟨s,k,ix⟩) w' ∧ FR B g w w' := by
 have HX0 := hid (CA.new w #[.string s,.int .i64 k,.int .i64 ix] 76)
 have HB0 := hid (hb.alloc (.cells #[.string s,.int .i64 k,.int .i64 ix] 76))
 have HF0 := hid ((FR.refl B g w).alloc (.cells #[.string s,.int .i64 k,.int .i64 ix] 76))
 have hba := (Below.refl w.heap.size w).alloc (Nat.le_refl _) (.cells #[.string s,.int .i64 k,.int .i64 ix] 76)
 have HC := hid (export_says B g bs s k ix (w.alloc (.cells #[.string s,.int .i64 k,.int .i64 ix] 76)) hs (hw.alloc (.cells #[.string s,.int .i64 k,.int .i64 ix] 76)) hn)
 clear hb hw hn hba hs
 go_enter Tryz.func116,Tryz.ntmps116
 go_upto_region 1 with fail
 generalize w.alloc (.cells #[.string s,.int .i64 k,.int .i64 ix] 76) = w0 at *
 generalize w.heap.size = gx at *
 have y0 := HB0.out.at (k := 0) (v := .pointer (some ⟨g,0,none⟩)) rfl
 have x0 := HX0.out.at (k := 0) (v := .string s) rfl
 have x1 := HX0.out.at (k := 1) (v := .int .i64 k) rfl
 have x2 := HX0.out.at (k := 2) (v := .int .i64 ix) rfl
 go_wp2_with (go_at_call 117; (with_reducible refine HC.out.mono ?_); rintro e w1 ⟨rfl,hw',hf⟩; have HW1 := hid hw'; have HF1 := hid (HF0.out.trans hf); clear hw' hf)
 (first | go_end0 | refine bodyPost_ret (results_none rfl _ _ _) rfl ?_)
 exact ⟨rfl,HW1.out,HF1.out⟩
end Go.Proofs.YtjgeedgphcjhoaaGreat
