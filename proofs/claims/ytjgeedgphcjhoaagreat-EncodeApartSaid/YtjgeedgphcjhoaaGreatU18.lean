/-
  EIn2, SEq: merged, what the law does not reach left out (each text says what it holds where it lies in wip). No condition.
-/
import Derived.Test.YtjgeedgphcjhoaaGreatU03
import Derived.Test.YtjgeedgphcjhoaaGreatU17
import Derived.Test.YtjgeedgphcjhoaaGreatU07
import Derived.Test.YtjgeedgphcjhoaaGreatU01
set_option linter.unusedSimpArgs false
set_option linter.unusedVariables false
set_option maxRecDepth 100000
namespace Go.Proofs.YtjgeedgphcjhoaaGreat
open Go.RowKit
theorem kn_210 : (lineL 210).2.1 = 4 := by kernel_rfl
theorem kn_all : (rangeOps.all fun op => !knB (lineL op) || (op != 5 && op != 11)) = true := by kernel_rfl
theorem kn_in (op : Int) (h : knB (lineL op) = true) : (0 ≤ op ∧ op < 211 ∧ op ≠ 5 ∧ op ≠ 11) ∨ (64512 ≤ op ∧ op < 64530) ∨ (64768 ≤ op ∧ op < 65024) := by
 by_cases hin : op ∈ rangeOps
 ·have h2 := List.all_eq_true.1 kn_all op hin
  rw [h] at h2
  simp at h2
  rw [mem_rangeOps] at hin
  omega
 rw [lineL_out op hin,show knB ln0 = false by kernel_rfl] at h
 cases h
theorem idxB_in {a : Int} (h : i64B a) (hb : idxB a = true) : uR a ∧ a ≤ 4294967295 := by
 unfold idxB at hb
 rw [IntKind.wrap_u64,decide_eq_true_eq] at hb
 unfold i64B at h
 unfold uR
 omega
theorem refB_in {a : Int} (h : refB a = true) : a = 112 ∨ a = 111 := by simpa [refB] using h
theorem valB_in {a : Int} (h : valB a = true) : a = 127 ∨ a = 126 ∨ a = 125 ∨ a = 124 ∨ a = 123 ∨ a = 112 ∨ a = 111 := by
 simp only [valB,refB,Bool.or_eq_true,beq_iff_eq] at h
 omega
theorem valB_bR {a : Int} (h : valB a = true) : bR a := by
 have := valB_in h
 unfold bR
 omega
theorem refB_bR {a : Int} (h : refB a = true) : bR a := by
 have := refB_in h
 unfold bR
 omega
theorem byteB_bR {a : Int} (h : byteB a = true) : bR a := by
 simp only [byteB,Bool.and_eq_true,decide_eq_true_eq] at h
 unfold bR
 omega
theorem unB_in {a b : Int} {n h : Nat} {ot : Bool} {nl nb ne : Nat} (e : unB a b n h ot nl nb ne = true) : a = 0 ∧ b = 0 ∧ n = 0 ∧ h = 0 ∧ ot = false ∧ nl = 0 ∧ nb = 0 ∧ ne = 0 := by
 simp only [unB,Bool.and_eq_true,beq_iff_eq,Bool.not_eq_true'] at e
 obtain ⟨⟨⟨⟨⟨⟨⟨h1,h2⟩,h3⟩,h4⟩,h5⟩,h6⟩,h7⟩,h8⟩ := e
 exact ⟨h1,h2,by omega,by omega,h5,by omega,by omega,by omega⟩
theorem len_nil {f : Fo} (h : f.len = 0) : f = .nil := by
 cases f with
 | nil => rfl
 | cons => simp [Fo.len] at h
theorem lst_nil {l : List Int} (h : l.length = 0) : l = [] := List.length_eq_zero_iff.1 h
theorem sgn32_inj {n m : Nat} (hn : n ≤ 4294967295) (hm : m ≤ 4294967295) (h : sgnN 32 n = sgnN 32 m) : n = m := by
 unfold sgnN at h
 simp only [show (2 : Nat) ^ 32 = 4294967296 from rfl,show (2 : Nat) ^ (32 - 1) = 2147483648 from rfl] at h
 split at h <;> split at h <;> omega
theorem sgn64_inj {n m : Nat} (hn : n < 18446744073709551616) (hm : m < 18446744073709551616) (h : sgnN 64 n = sgnN 64 m) : n = m := by
 unfold sgnN at h
 simp only [show (2 : Nat) ^ 64 = 18446744073709551616 from rfl,show (2 : Nat) ^ (64 - 1) = 9223372036854775808 from rfl] at h
 split at h <;> split at h <;> omega
def Tells (k : Int) : Prop := ∀ (op a b : Int) (n h : Nat) (l : List Int) (ot : Bool) (body els : Fo) (a2 b2 : Int) (n2 h2 : Nat) (l2 : List Int) (ot2 : Bool) (body2 els2 : Fo) (eb ee eb2 ee2 X Y : List UInt8),
 okB k op a b n h l ot body.len els.len = true → okB k op a2 b2 n2 h2 l2 ot2 body2.len els2.len = true →
 i64B a → i64B b → (∀ x ∈ l,i64B x) → n < 18446744073709551616 → h < 18446744073709551616 → l.length < 9223372036854775807 →
 i64B a2 → i64B b2 → (∀ x ∈ l2,i64B x) → n2 < 18446744073709551616 → h2 < 18446744073709551616 → l2.length < 9223372036854775807 →
 behL k a b n h l ot eb ee ++ X = behL k a2 b2 n2 h2 l2 ot2 eb2 ee2 ++ Y → (a = a2 ∧ b = b2 ∧ n = n2 ∧ h = h2 ∧ l = l2 ∧ ot = ot2 ∧ body = body2 ∧ els = els2) ∧ X = Y
theorem tells_0 : Tells 0 := by
 intro op a b n h l ot body els a2 b2 n2 h2 l2 ot2 body2 els2 eb ee eb2 ee2 X Y o1 o2 ra rb rl rn rh rll ra2 rb2 rl2 rn2 rh2 rll2 e
 change (unB a b n h ot l.length body.len els.len) = true at o1
 change (unB a2 b2 n2 h2 ot2 l2.length body2.len els2.len) = true at o2
 change ([] : List UInt8) ++ X = ([] : List UInt8) ++ Y at e
 try simp only [Bool.and_eq_true,decide_eq_true_eq,beq_iff_eq,List.all_eq_true] at o1 o2
 obtain ⟨x1,x2,x3,x4,x5,x6,x7,x8⟩ := unB_in o1
 obtain ⟨y1,y2,y3,y4,y5,y6,y7,y8⟩ := unB_in o2
 have eX : X = Y := by simpa using e
 exact ⟨⟨by rw [x1,y1],by rw [x2,y2],by rw [x3,y3],by rw [x4,y4],by rw [lst_nil x6,lst_nil y6],by rw [x5,y5],by rw [len_nil x7,len_nil y7],by rw [len_nil x8,len_nil y8]⟩,eX⟩
theorem tells_11 : Tells 11 := by
 intro op a b n h l ot body els a2 b2 n2 h2 l2 ot2 body2 els2 eb ee eb2 ee2 X Y o1 o2 ra rb rl rn rh rll ra2 rb2 rl2 rn2 rh2 rll2 e
 change (unB a b n h ot l.length body.len els.len) = true at o1
 change (unB a2 b2 n2 h2 ot2 l2.length body2.len els2.len) = true at o2
 change ([0] : List UInt8) ++ X = ([0] : List UInt8) ++ Y at e
 try simp only [Bool.and_eq_true,decide_eq_true_eq,beq_iff_eq,List.all_eq_true] at o1 o2
 obtain ⟨x1,x2,x3,x4,x5,x6,x7,x8⟩ := unB_in o1
 obtain ⟨y1,y2,y3,y4,y5,y6,y7,y8⟩ := unB_in o2
 have eX : X = Y := by simpa using e
 exact ⟨⟨by rw [x1,y1],by rw [x2,y2],by rw [x3,y3],by rw [x4,y4],by rw [lst_nil x6,lst_nil y6],by rw [x5,y5],by rw [len_nil x7,len_nil y7],by rw [len_nil x8,len_nil y8]⟩,eX⟩
theorem tells_19 : Tells 19 := by
 intro op a b n h l ot body els a2 b2 n2 h2 l2 ot2 body2 els2 eb ee eb2 ee2 X Y o1 o2 ra rb rl rn rh rll ra2 rb2 rl2 rn2 rh2 rll2 e
 change (unB a b n h ot l.length body.len els.len) = true at o1
 change (unB a2 b2 n2 h2 ot2 l2.length body2.len els2.len) = true at o2
 change ([0,0] : List UInt8) ++ X = ([0,0] : List UInt8) ++ Y at e
 try simp only [Bool.and_eq_true,decide_eq_true_eq,beq_iff_eq,List.all_eq_true] at o1 o2
 obtain ⟨x1,x2,x3,x4,x5,x6,x7,x8⟩ := unB_in o1
 obtain ⟨y1,y2,y3,y4,y5,y6,y7,y8⟩ := unB_in o2
 have eX : X = Y := by simpa using e
 exact ⟨⟨by rw [x1,y1],by rw [x2,y2],by rw [x3,y3],by rw [x4,y4],by rw [lst_nil x6,lst_nil y6],by rw [x5,y5],by rw [len_nil x7,len_nil y7],by rw [len_nil x8,len_nil y8]⟩,eX⟩
theorem tells_g2 {k : Int} (hk : k = 2 ∨ k = 4 ∨ k = 7 ∨ k = 8 ∨ k = 9 ∨ k = 18 ∨ k = 21) : Tells k := by
 rcases hk with rfl | rfl | rfl | rfl | rfl | rfl | rfl
 all_goals
  intro op a b n h l ot body els a2 b2 n2 h2 l2 ot2 body2 els2 eb ee eb2 ee2 X Y o1 o2 ra rb rl rn rh rll ra2 rb2 rl2 rn2 rh2 rll2 e
  change (idxB a && unB 0 b n h ot l.length body.len els.len) = true at o1
  change (idxB a2 && unB 0 b2 n2 h2 ot2 l2.length body2.len els2.len) = true at o2
  change uI a ++ X = uI a2 ++ Y at e
  try simp only [Bool.and_eq_true,decide_eq_true_eq,beq_iff_eq,List.all_eq_true] at o1 o2
  obtain ⟨i1,o1⟩ := o1
  obtain ⟨i2,o2⟩ := o2
  obtain ⟨x1,x2,x3,x4,x5,x6,x7,x8⟩ := unB_in o1
  obtain ⟨y1,y2,y3,y4,y5,y6,y7,y8⟩ := unB_in o2
  obtain ⟨ea,eX⟩ := uI_inj (idxB_in ra i1).1 (idxB_in ra2 i2).1 e
  exact ⟨⟨ea,by rw [x2,y2],by rw [x3,y3],by rw [x4,y4],by rw [lst_nil x6,lst_nil y6],by rw [x5,y5],by rw [len_nil x7,len_nil y7],by rw [len_nil x8,len_nil y8]⟩,eX⟩
theorem tells_17 : Tells 17 := by
 intro op a b n h l ot body els a2 b2 n2 h2 l2 ot2 body2 els2 eb ee eb2 ee2 X Y o1 o2 ra rb rl rn rh rll ra2 rb2 rl2 rn2 rh2 rll2 e
 change (idxB a && unB 0 b n h ot l.length body.len els.len) = true at o1
 change (idxB a2 && unB 0 b2 n2 h2 ot2 l2.length body2.len els2.len) = true at o2
 change (uI a ++ [0]) ++ X = (uI a2 ++ [0]) ++ Y at e
 try simp only [Bool.and_eq_true,decide_eq_true_eq,beq_iff_eq,List.all_eq_true] at o1 o2
 obtain ⟨i1,o1⟩ := o1
 obtain ⟨i2,o2⟩ := o2
 obtain ⟨x1,x2,x3,x4,x5,x6,x7,x8⟩ := unB_in o1
 obtain ⟨y1,y2,y3,y4,y5,y6,y7,y8⟩ := unB_in o2
 simp only [List.append_assoc] at e
 obtain ⟨ea,eX⟩ := uI_inj (idxB_in ra i1).1 (idxB_in ra2 i2).1 e
 have eX : X = Y := by simpa using eX
 exact ⟨⟨ea,by rw [x2,y2],by rw [x3,y3],by rw [x4,y4],by rw [lst_nil x6,lst_nil y6],by rw [x5,y5],by rw [len_nil x7,len_nil y7],by rw [len_nil x8,len_nil y8]⟩,eX⟩
theorem tells_g5 {k : Int} (hk : k = 5 ∨ k = 20 ∨ k = 22 ∨ k = 10) : Tells k := by
 rcases hk with rfl | rfl | rfl | rfl
 all_goals
  intro op a b n h l ot body els a2 b2 n2 h2 l2 ot2 body2 els2 eb ee eb2 ee2 X Y o1 o2 ra rb rl rn rh rll ra2 rb2 rl2 rn2 rh2 rll2 e
  change ((idxB a && idxB b) && unB 0 0 n h ot l.length body.len els.len) = true at o1
  change ((idxB a2 && idxB b2) && unB 0 0 n2 h2 ot2 l2.length body2.len els2.len) = true at o2
  change (uI a ++ uI b) ++ X = (uI a2 ++ uI b2) ++ Y at e
  try simp only [Bool.and_eq_true,decide_eq_true_eq,beq_iff_eq,List.all_eq_true] at o1 o2
  obtain ⟨⟨i1,j1⟩,o1⟩ := o1
  obtain ⟨⟨i2,j2⟩,o2⟩ := o2
  obtain ⟨x1,x2,x3,x4,x5,x6,x7,x8⟩ := unB_in o1
  obtain ⟨y1,y2,y3,y4,y5,y6,y7,y8⟩ := unB_in o2
  simp only [List.append_assoc] at e
  obtain ⟨ea,e⟩ := uI_inj (idxB_in ra i1).1 (idxB_in ra2 i2).1 e
  obtain ⟨eb,eX⟩ := uI_inj (idxB_in rb j1).1 (idxB_in rb2 j2).1 e
  exact ⟨⟨ea,eb,by rw [x3,y3],by rw [x4,y4],by rw [lst_nil x6,lst_nil y6],by rw [x5,y5],by rw [len_nil x7,len_nil y7],by rw [len_nil x8,len_nil y8]⟩,eX⟩
theorem tells_3 : Tells 3 := by
 intro op a b n h l ot body els a2 b2 n2 h2 l2 ot2 body2 els2 eb ee eb2 ee2 X Y o1 o2 ra rb rl rn rh rll ra2 rb2 rl2 rn2 rh2 rll2 e
 change ((idxB a && l.all idxB) && unB 0 b n h ot 0 body.len els.len) = true at o1
 change ((idxB a2 && l2.all idxB) && unB 0 b2 n2 h2 ot2 0 body2.len els2.len) = true at o2
 change (uI l.length ++ usL l ++ uI a) ++ X = (uI l2.length ++ usL l2 ++ uI a2) ++ Y at e
 try simp only [Bool.and_eq_true,decide_eq_true_eq,beq_iff_eq,List.all_eq_true] at o1 o2
 obtain ⟨⟨i1,j1⟩,o1⟩ := o1
 obtain ⟨⟨i2,j2⟩,o2⟩ := o2
 obtain ⟨x1,x2,x3,x4,x5,x6,x7,x8⟩ := unB_in o1
 obtain ⟨y1,y2,y3,y4,y5,y6,y7,y8⟩ := unB_in o2
 simp only [List.append_assoc] at e
 obtain ⟨en,e⟩ := uI_inj (x := (l.length : Int)) (y := (l2.length : Int)) ⟨by omega,by omega⟩ ⟨by omega,by omega⟩ e
 obtain ⟨el,e⟩ := usL_inj l l2 _ _ (by omega) (fun x hx => (idxB_in (rl x hx) (j1 x hx)).1) (fun x hx => (idxB_in (rl2 x hx) (j2 x hx)).1) e
 obtain ⟨ea,eX⟩ := uI_inj (idxB_in ra i1).1 (idxB_in ra2 i2).1 e
 exact ⟨⟨ea,by rw [x2,y2],by rw [x3,y3],by rw [x4,y4],el,by rw [x5,y5],by rw [len_nil x7,len_nil y7],by rw [len_nil x8,len_nil y8]⟩,eX⟩
theorem tells_6 : Tells 6 := by
 intro op a b n h l ot body els a2 b2 n2 h2 l2 ot2 body2 els2 eb ee eb2 ee2 X Y o1 o2 ra rb rl rn rh rll ra2 rb2 rl2 rn2 rh2 rll2 e
 change (l.all valB && unB a b n h ot 0 body.len els.len) = true at o1
 change (l2.all valB && unB a2 b2 n2 h2 ot2 0 body2.len els2.len) = true at o2
 change (uI l.length ++ l.map byI) ++ X = (uI l2.length ++ l2.map byI) ++ Y at e
 try simp only [Bool.and_eq_true,decide_eq_true_eq,beq_iff_eq,List.all_eq_true] at o1 o2
 obtain ⟨j1,o1⟩ := o1
 obtain ⟨j2,o2⟩ := o2
 obtain ⟨x1,x2,x3,x4,x5,x6,x7,x8⟩ := unB_in o1
 obtain ⟨y1,y2,y3,y4,y5,y6,y7,y8⟩ := unB_in o2
 simp only [List.append_assoc] at e
 obtain ⟨en,e⟩ := uI_inj (x := (l.length : Int)) (y := (l2.length : Int)) ⟨by omega,by omega⟩ ⟨by omega,by omega⟩ e
 obtain ⟨el,eX⟩ := bys_inj l l2 _ _ (by omega) (fun x hx => valB_bR (j1 x hx)) (fun x hx => valB_bR (j2 x hx)) e
 exact ⟨⟨by rw [x1,y1],by rw [x2,y2],by rw [x3,y3],by rw [x4,y4],el,by rw [x5,y5],by rw [len_nil x7,len_nil y7],by rw [len_nil x8,len_nil y8]⟩,eX⟩
theorem tells_26 : Tells 26 := by
 intro op a b n h l ot body els a2 b2 n2 h2 l2 ot2 body2 els2 eb ee eb2 ee2 X Y o1 o2 ra rb rl rn rh rll ra2 rb2 rl2 rn2 rh2 rll2 e
 change ((idxB a && idxB b && ((l.length : Int) == 1) && byteB (l.headD 0)) && unB 0 0 n h ot 0 body.len els.len) = true at o1
 change ((idxB a2 && idxB b2 && ((l2.length : Int) == 1) && byteB (l2.headD 0)) && unB 0 0 n2 h2 ot2 0 body2.len els2.len) = true at o2
 change (uI a ++ uI b ++ l.map byI) ++ X = (uI a2 ++ uI b2 ++ l2.map byI) ++ Y at e
 try simp only [Bool.and_eq_true,decide_eq_true_eq,beq_iff_eq,List.all_eq_true] at o1 o2
 obtain ⟨⟨⟨⟨i1,j1⟩,l1⟩,b1⟩,o1⟩ := o1
 obtain ⟨⟨⟨⟨i2,j2⟩,l9⟩,b9⟩,o2⟩ := o2
 obtain ⟨x1,x2,x3,x4,x5,x6,x7,x8⟩ := unB_in o1
 obtain ⟨y1,y2,y3,y4,y5,y6,y7,y8⟩ := unB_in o2
 simp only [List.append_assoc] at e
 obtain ⟨ea,e⟩ := uI_inj (idxB_in ra i1).1 (idxB_in ra2 i2).1 e
 obtain ⟨eb,e⟩ := uI_inj (idxB_in rb j1).1 (idxB_in rb2 j2).1 e
 have one : ∀ q : List Int,(q.length : Int) = 1 → byteB (q.headD 0) = true → ∀ x ∈ q,bR x := by
  intro q hq hb x hx
  match q,hq,hb,hx with
  | [z],_,hb,hx =>
   obtain rfl : x = z := by simpa using hx
   exact byteB_bR hb
 obtain ⟨el,eX⟩ := bys_inj l l2 _ _ (by omega) (one l l1 b1) (one l2 l9 b9) e
 exact ⟨⟨ea,eb,by rw [x3,y3],by rw [x4,y4],el,by rw [x5,y5],by rw [len_nil x7,len_nil y7],by rw [len_nil x8,len_nil y8]⟩,eX⟩
theorem tells_12 : Tells 12 := by
 intro op a b n h l ot body els a2 b2 n2 h2 l2 ot2 body2 els2 eb ee eb2 ee2 X Y o1 o2 ra rb rl rn rh rll ra2 rb2 rl2 rn2 rh2 rll2 e
 change (decide ((n : Int) ≤ 4294967295) && unB a b 0 h ot l.length body.len els.len) = true at o1
 change (decide ((n2 : Int) ≤ 4294967295) && unB a2 b2 0 h2 ot2 l2.length body2.len els2.len) = true at o2
 change slist (sgnN 32 n) ++ X = slist (sgnN 32 n2) ++ Y at e
 try simp only [Bool.and_eq_true,decide_eq_true_eq,beq_iff_eq,List.all_eq_true] at o1 o2
 obtain ⟨j1,o1⟩ := o1
 obtain ⟨j2,o2⟩ := o2
 obtain ⟨x1,x2,x3,x4,x5,x6,x7,x8⟩ := unB_in o1
 obtain ⟨y1,y2,y3,y4,y5,y6,y7,y8⟩ := unB_in o2
 obtain ⟨en,eX⟩ := sI_inj e
 exact ⟨⟨by rw [x1,y1],by rw [x2,y2],sgn32_inj (by omega) (by omega) en,by rw [x4,y4],by rw [lst_nil x6,lst_nil y6],by rw [x5,y5],by rw [len_nil x7,len_nil y7],by rw [len_nil x8,len_nil y8]⟩,eX⟩
theorem tells_14 : Tells 14 := by
 intro op a b n h l ot body els a2 b2 n2 h2 l2 ot2 body2 els2 eb ee eb2 ee2 X Y o1 o2 ra rb rl rn rh rll ra2 rb2 rl2 rn2 rh2 rll2 e
 change (decide ((n : Int) ≤ 4294967295) && unB a b 0 h ot l.length body.len els.len) = true at o1
 change (decide ((n2 : Int) ≤ 4294967295) && unB a2 b2 0 h2 ot2 l2.length body2.len els2.len) = true at o2
 change lowL 4 n ++ X = lowL 4 n2 ++ Y at e
 try simp only [Bool.and_eq_true,decide_eq_true_eq,beq_iff_eq,List.all_eq_true] at o1 o2
 obtain ⟨j1,o1⟩ := o1
 obtain ⟨j2,o2⟩ := o2
 obtain ⟨x1,x2,x3,x4,x5,x6,x7,x8⟩ := unB_in o1
 obtain ⟨y1,y2,y3,y4,y5,y6,y7,y8⟩ := unB_in o2
 obtain ⟨en,eX⟩ := lowL_inj 4 n n2 X Y (by omega) (by omega) e
 exact ⟨⟨by rw [x1,y1],by rw [x2,y2],en,by rw [x4,y4],by rw [lst_nil x6,lst_nil y6],by rw [x5,y5],by rw [len_nil x7,len_nil y7],by rw [len_nil x8,len_nil y8]⟩,eX⟩
theorem tells_13 : Tells 13 := by
 intro op a b n h l ot body els a2 b2 n2 h2 l2 ot2 body2 els2 eb ee eb2 ee2 X Y o1 o2 ra rb rl rn rh rll ra2 rb2 rl2 rn2 rh2 rll2 e
 change (unB a b 0 h ot l.length body.len els.len) = true at o1
 change (unB a2 b2 0 h2 ot2 l2.length body2.len els2.len) = true at o2
 change slist (sgnN 64 n) ++ X = slist (sgnN 64 n2) ++ Y at e
 try simp only [Bool.and_eq_true,decide_eq_true_eq,beq_iff_eq,List.all_eq_true] at o1 o2
 obtain ⟨x1,x2,x3,x4,x5,x6,x7,x8⟩ := unB_in o1
 obtain ⟨y1,y2,y3,y4,y5,y6,y7,y8⟩ := unB_in o2
 obtain ⟨en,eX⟩ := sI_inj e
 exact ⟨⟨by rw [x1,y1],by rw [x2,y2],sgn64_inj rn rn2 en,by rw [x4,y4],by rw [lst_nil x6,lst_nil y6],by rw [x5,y5],by rw [len_nil x7,len_nil y7],by rw [len_nil x8,len_nil y8]⟩,eX⟩
theorem tells_15 : Tells 15 := by
 intro op a b n h l ot body els a2 b2 n2 h2 l2 ot2 body2 els2 eb ee eb2 ee2 X Y o1 o2 ra rb rl rn rh rll ra2 rb2 rl2 rn2 rh2 rll2 e
 change (unB a b 0 h ot l.length body.len els.len) = true at o1
 change (unB a2 b2 0 h2 ot2 l2.length body2.len els2.len) = true at o2
 change lowL 8 n ++ X = lowL 8 n2 ++ Y at e
 try simp only [Bool.and_eq_true,decide_eq_true_eq,beq_iff_eq,List.all_eq_true] at o1 o2
 obtain ⟨x1,x2,x3,x4,x5,x6,x7,x8⟩ := unB_in o1
 obtain ⟨y1,y2,y3,y4,y5,y6,y7,y8⟩ := unB_in o2
 obtain ⟨en,eX⟩ := lowL_inj 8 n n2 X Y (by omega) (by omega) e
 exact ⟨⟨by rw [x1,y1],by rw [x2,y2],en,by rw [x4,y4],by rw [lst_nil x6,lst_nil y6],by rw [x5,y5],by rw [len_nil x7,len_nil y7],by rw [len_nil x8,len_nil y8]⟩,eX⟩
theorem tells_23 : Tells 23 := by
 intro op a b n h l ot body els a2 b2 n2 h2 l2 ot2 body2 els2 eb ee eb2 ee2 X Y o1 o2 ra rb rl rn rh rll ra2 rb2 rl2 rn2 rh2 rll2 e
 change (unB a b 0 0 ot l.length body.len els.len) = true at o1
 change (unB a2 b2 0 0 ot2 l2.length body2.len els2.len) = true at o2
 change (lowL 8 n ++ lowL 8 h) ++ X = (lowL 8 n2 ++ lowL 8 h2) ++ Y at e
 try simp only [Bool.and_eq_true,decide_eq_true_eq,beq_iff_eq,List.all_eq_true] at o1 o2
 obtain ⟨x1,x2,x3,x4,x5,x6,x7,x8⟩ := unB_in o1
 obtain ⟨y1,y2,y3,y4,y5,y6,y7,y8⟩ := unB_in o2
 simp only [List.append_assoc] at e
 obtain ⟨en,e⟩ := lowL_inj 8 n n2 _ _ (by omega) (by omega) e
 obtain ⟨eh,eX⟩ := lowL_inj 8 h h2 X Y (by omega) (by omega) e
 exact ⟨⟨by rw [x1,y1],by rw [x2,y2],en,eh,by rw [lst_nil x6,lst_nil y6],by rw [x5,y5],by rw [len_nil x7,len_nil y7],by rw [len_nil x8,len_nil y8]⟩,eX⟩
theorem tells_16 : Tells 16 := by
 intro op a b n h l ot body els a2 b2 n2 h2 l2 ot2 body2 els2 eb ee eb2 ee2 X Y o1 o2 ra rb rl rn rh rll ra2 rb2 rl2 rn2 rh2 rll2 e
 change (refB a && unB 0 b n h ot l.length body.len els.len) = true at o1
 change (refB a2 && unB 0 b2 n2 h2 ot2 l2.length body2.len els2.len) = true at o2
 change ([byI a] : List UInt8) ++ X = ([byI a2] : List UInt8) ++ Y at e
 try simp only [Bool.and_eq_true,decide_eq_true_eq,beq_iff_eq,List.all_eq_true] at o1 o2
 obtain ⟨i1,o1⟩ := o1
 obtain ⟨i2,o2⟩ := o2
 obtain ⟨x1,x2,x3,x4,x5,x6,x7,x8⟩ := unB_in o1
 obtain ⟨y1,y2,y3,y4,y5,y6,y7,y8⟩ := unB_in o2
 simp only [List.cons_append,List.nil_append,List.cons.injEq] at e
 have ea := byI_inj (refB_bR i1) (refB_bR i2) e.1
 have eX := e.2
 exact ⟨⟨ea,by rw [x2,y2],by rw [x3,y3],by rw [x4,y4],by rw [lst_nil x6,lst_nil y6],by rw [x5,y5],by rw [len_nil x7,len_nil y7],by rw [len_nil x8,len_nil y8]⟩,eX⟩
theorem tells_25 : Tells 25 := by
 intro op a b n h l ot body els a2 b2 n2 h2 l2 ot2 body2 els2 eb ee eb2 ee2 X Y o1 o2 ra rb rl rn rh rll ra2 rb2 rl2 rn2 rh2 rll2 e
 change (byteB a && unB 0 b n h ot l.length body.len els.len) = true at o1
 change (byteB a2 && unB 0 b2 n2 h2 ot2 l2.length body2.len els2.len) = true at o2
 change ([byI a] : List UInt8) ++ X = ([byI a2] : List UInt8) ++ Y at e
 try simp only [Bool.and_eq_true,decide_eq_true_eq,beq_iff_eq,List.all_eq_true] at o1 o2
 obtain ⟨i1,o1⟩ := o1
 obtain ⟨i2,o2⟩ := o2
 obtain ⟨x1,x2,x3,x4,x5,x6,x7,x8⟩ := unB_in o1
 obtain ⟨y1,y2,y3,y4,y5,y6,y7,y8⟩ := unB_in o2
 simp only [List.cons_append,List.nil_append,List.cons.injEq] at e
 have ea := byI_inj (byteB_bR i1) (byteB_bR i2) e.1
 have eX := e.2
 exact ⟨⟨ea,by rw [x2,y2],by rw [x3,y3],by rw [x4,y4],by rw [lst_nil x6,lst_nil y6],by rw [x5,y5],by rw [len_nil x7,len_nil y7],by rw [len_nil x8,len_nil y8]⟩,eX⟩
theorem tells_24 : Tells 24 := by
 intro op a b n h l ot body els a2 b2 n2 h2 l2 ot2 body2 els2 eb ee eb2 ee2 X Y o1 o2 ra rb rl rn rh rll ra2 rb2 rl2 rn2 rh2 rll2 e
 change ((((l.length : Int) == 16) && l.all byteB) && unB a b n h ot 0 body.len els.len) = true at o1
 change ((((l2.length : Int) == 16) && l2.all byteB) && unB a2 b2 n2 h2 ot2 0 body2.len els2.len) = true at o2
 change l.map byI ++ X = l2.map byI ++ Y at e
 try simp only [Bool.and_eq_true,decide_eq_true_eq,beq_iff_eq,List.all_eq_true] at o1 o2
 obtain ⟨⟨i1,j1⟩,o1⟩ := o1
 obtain ⟨⟨i2,j2⟩,o2⟩ := o2
 obtain ⟨x1,x2,x3,x4,x5,x6,x7,x8⟩ := unB_in o1
 obtain ⟨y1,y2,y3,y4,y5,y6,y7,y8⟩ := unB_in o2
 obtain ⟨el,eX⟩ := bys_inj l l2 _ _ (by omega) (fun x hx => byteB_bR (j1 x hx)) (fun x hx => byteB_bR (j2 x hx)) e
 exact ⟨⟨by rw [x1,y1],by rw [x2,y2],by rw [x3,y3],by rw [x4,y4],el,by rw [x5,y5],by rw [len_nil x7,len_nil y7],by rw [len_nil x8,len_nil y8]⟩,eX⟩
theorem tells_any (k : Int) (h0 : 0 ≤ k) (h1 : k ≤ 26) (hk : k ≠ 1) : Tells k := by
 rcases (show k = 0 ∨ k = 2 ∨ k = 3 ∨ k = 4 ∨ k = 5 ∨ k = 6 ∨ k = 7 ∨ k = 8 ∨ k = 9 ∨ k = 10 ∨ k = 11 ∨ k = 12 ∨ k = 13 ∨ k = 14 ∨ k = 15 ∨ k = 16 ∨ k = 17 ∨ k = 18 ∨ k = 19 ∨ k = 20 ∨ k = 21 ∨ k = 22 ∨ k = 23 ∨ k = 24 ∨ k = 25 ∨ k = 26 by omega) with rfl | rfl | rfl | rfl | rfl | rfl | rfl | rfl | rfl | rfl | rfl | rfl | rfl | rfl | rfl | rfl | rfl | rfl | rfl | rfl | rfl | rfl | rfl | rfl | rfl | rfl
 ·exact tells_0
 ·exact tells_g2 (by decide)
 ·exact tells_3
 ·exact tells_g2 (by decide)
 ·exact tells_g5 (by decide)
 ·exact tells_6
 ·exact tells_g2 (by decide)
 ·exact tells_g2 (by decide)
 ·exact tells_g2 (by decide)
 ·exact tells_g5 (by decide)
 ·exact tells_11
 ·exact tells_12
 ·exact tells_13
 ·exact tells_14
 ·exact tells_15
 ·exact tells_16
 ·exact tells_17
 ·exact tells_g2 (by decide)
 ·exact tells_19
 ·exact tells_g5 (by decide)
 ·exact tells_g2 (by decide)
 ·exact tells_g5 (by decide)
 ·exact tells_23
 ·exact tells_24
 ·exact tells_25
 exact tells_26
def blOk (a b : Int) : Bool := if a = 0 then b == 0 else if a = 1 then valB b else if a = 2 then idxB b else false
theorem slist_head {b : Int} (h0 : 0 ≤ b) : ∃ t Z,slist b = t :: Z ∧ (t.toNat < 64 ∨ 128 ≤ t.toNat) := by
 by_cases h : -64 ≤ b ∧ b < 64
 ·rw [slist_small h]
  refine ⟨_,_,rfl,.inl ?_⟩
  simp only [Nat.toUInt8_eq,UInt8.toNat_ofNat']
  omega
 rw [slist_big h]
 refine ⟨_,_,rfl,.inr ?_⟩
 simp only [Nat.toUInt8_eq,UInt8.toNat_ofNat']
 omega
theorem byI_natE {b : Int} (h : bR b) : ((byI b).toNat : Int) = b := by
 unfold bR at h
 unfold byI
 simp only [Nat.toUInt8_eq,UInt8.toNat_ofNat']
 omega
theorem blL_cls {a b : Int} (h : blOk a b = true) (hb : i64B b) : (a = 0 ∧ b = 0 ∧ blL a b = [64]) ∨ (a = 1 ∧ bR b ∧ (111 ≤ b ∧ b ≤ 127) ∧ blL a b = [byI b]) ∨ (a = 2 ∧ 0 ≤ b ∧ blL a b = slist b) := by
 unfold blOk at h
 by_cases h0 : a = 0
 ·rw [if_pos h0] at h
  subst h0
  exact .inl ⟨rfl,by simpa using h,rfl⟩
 rw [if_neg h0] at h
 by_cases h1 : a = 1
 ·rw [if_pos h1] at h
  subst h1
  have := valB_in h
  exact .inr (.inl ⟨rfl,valB_bR h,by omega,rfl⟩)
 rw [if_neg h1] at h
 by_cases h2 : a = 2
 ·rw [if_pos h2] at h
  subst h2
  exact .inr (.inr ⟨rfl,(idxB_in hb h).1.1,rfl⟩)
 rw [if_neg h2] at h
 cases h
theorem blL_inj {a b a2 b2 : Int} {X Y : List UInt8} (h1 : blOk a b = true) (h2 : blOk a2 b2 = true) (r1 : i64B b) (r2 : i64B b2) (e : blL a b ++ X = blL a2 b2 ++ Y) : a = a2 ∧ b = b2 ∧ X = Y := by
 have n64 : (64 : UInt8).toNat = 64 := rfl
 rcases blL_cls h1 r1 with ⟨rfl,rfl,e1⟩ | ⟨rfl,q1,w1,e1⟩ | ⟨rfl,q1,e1⟩ <;> rcases blL_cls h2 r2 with ⟨rfl,rfl,e2⟩ | ⟨rfl,q2,w2,e2⟩ | ⟨rfl,q2,e2⟩ <;> rw [e1] at e <;> try rw [e2] at e
 ·simp only [List.cons_append,List.nil_append,List.cons.injEq] at e
  exact ⟨rfl,rfl,e.2⟩
 ·simp only [List.cons_append,List.nil_append,List.cons.injEq] at e
  have := congrArg UInt8.toNat e.1
  have := byI_natE q2
  omega
 ·obtain ⟨t,Z,ht,hc⟩ := slist_head q2
  rw [ht] at e
  simp only [List.cons_append,List.nil_append,List.cons.injEq] at e
  rw [← e.1] at hc
  omega
 ·simp only [List.cons_append,List.nil_append,List.cons.injEq] at e
  have := congrArg UInt8.toNat e.1
  have := byI_natE q1
  omega
 ·simp only [List.cons_append,List.nil_append,List.cons.injEq] at e
  exact ⟨rfl,byI_inj q1 q2 e.1,e.2⟩
 ·obtain ⟨t,Z,ht,hc⟩ := slist_head q2
  rw [ht] at e
  simp only [List.cons_append,List.nil_append,List.cons.injEq] at e
  have h5 := byI_natE q1
  rw [e.1] at h5
  unfold bR at q1
  omega
 ·obtain ⟨t,Z,ht,hc⟩ := slist_head q1
  rw [ht] at e
  simp only [List.cons_append,List.nil_append,List.cons.injEq] at e
  rw [e.1] at hc
  omega
 ·obtain ⟨t,Z,ht,hc⟩ := slist_head q1
  rw [ht] at e
  simp only [List.cons_append,List.nil_append,List.cons.injEq] at e
  have h5 := byI_natE q2
  rw [← e.1] at h5
  unfold bR at q2
  omega
 obtain ⟨h5,h6⟩ := sI_inj e
 exact ⟨rfl,h5,h6⟩
theorem blB_in {op a b : Int} {n h : Nat} {ot : Bool} {nl nb ne : Nat} (e : blB op a b n h ot nl nb ne = true) : blOk a b = true ∧ n = 0 ∧ h = 0 ∧ nl = 0 ∧ (ot = false → ne = 0) := by
 unfold blB at e
 rw [Bool.and_eq_true] at e
 refine ⟨e.1,?_⟩
 have e2 := e.2
 split at e2
 ·rename_i hq
  obtain ⟨x1,x2,x3,x4,x5,x6,x7,x8⟩ := unB_in e2
  exact ⟨x3,x4,x6,fun hf => by rw [hf] at hq; cases hq.2⟩
 obtain ⟨x1,x2,x3,x4,x5,x6,x7,x8⟩ := unB_in e2
 exact ⟨x3,x4,x6,fun _ => x8⟩
def EndsB (X : List UInt8) : Prop := ∃ t Z,X = t :: Z ∧ (t = 11 ∨ t = 5)
theorem ends_11 (Z : List UInt8) : EndsB (11 :: Z) := ⟨11,Z,rfl,.inl rfl⟩
theorem ends_5 (Z : List UInt8) : EndsB (5 :: Z) := ⟨5,Z,rfl,.inr rfl⟩
theorem opL_head {op : Int} (h : knB (lineL op) = true) : oR op ∧ ∃ t Z,opL op = t :: Z ∧ ¬ (t = 11 ∨ t = 5) := by
 have hk := kn_in op h
 refine ⟨by unfold oR; omega,?_⟩
 have n11 : (11 : UInt8).toNat = 11 := rfl
 have n5 : (5 : UInt8).toNat = 5 := rfl
 unfold opL
 by_cases h1 : 64768 ≤ op
 ·rw [if_pos h1]
  exact ⟨_,_,rfl,by decide⟩
 rw [if_neg h1]
 by_cases h2 : 64512 ≤ op
 ·rw [if_pos h2]
  exact ⟨_,_,rfl,by decide⟩
 rw [if_neg h2]
 refine ⟨_,_,rfl,?_⟩
 have := byI_natE (b := op) ⟨by omega,by omega⟩
 rintro (e | e)
 ·rw [e] at this
  omega
 rw [e] at this
 omega
theorem ev_cons {op a b : Int} {n h : Nat} {l : List Int} {ot : Bool} {body els rest : Fo} {d : Int} (e : (evF codeSt (.cons op a b n h l ot body els rest) d ()).1 = true) :
  insB op a b n h l ot body.len els.len = true ∧ (evF codeSt body (d + 1) ()).1 = true ∧ (evF codeSt els (d + 1) ()).1 = true ∧ (evF codeSt rest d ()).1 = true := by
 simp only [evF] at e
 split at e
 ·rename_i h1
  split at e
  ·rename_i h2
   split at e
   ·rename_i h3
    simp only [codeSt,Bool.and_eq_true] at h1
    exact ⟨h1.2,h2,h3,e⟩
   cases e
  cases e
 cases e
def LnS : Fo → Prop
 | .nil => True
 | .cons _ _ _ _ _ l _ body els rest => l.length < 9223372036854775807 ∧ LnS body ∧ LnS els ∧ LnS rest
theorem enc_inj : ∀ (f g : Fo) (d e : Int) (X Y : List UInt8),(evF codeSt f d ()).1 = true → (evF codeSt g e ()).1 = true → RN f → RN g → LnS f → LnS g → EndsB X → EndsB Y → f.enc ++ X = g.enc ++ Y → f = g ∧ X = Y := by
 intro f
 induction f with
 | nil =>
  intro g d e X Y _ hg _ _ _ _ hX _ he
  cases g with
  | nil => exact ⟨rfl,he⟩
  | cons op a b n h l ot body els rest =>
   obtain ⟨h1,_⟩ := ev_cons hg
   rw [insB,Bool.and_eq_true] at h1
   obtain ⟨_,t,Z,ht,hn⟩ := opL_head h1.1
   obtain ⟨u,V,rfl,hu⟩ := hX
   simp only [Fo.enc,List.nil_append,ht,List.cons_append,List.append_assoc,List.cons.injEq] at he
   rw [← he.1] at hn
   exact absurd hu hn
 | cons op a b n h l ot body els rest ihb ihe ihr =>
  intro g d e X Y hf hg rf rg lf lg hX hY he
  obtain ⟨h1,h2,h3,h4⟩ := ev_cons hf
  rw [insB,Bool.and_eq_true] at h1
  obtain ⟨o1,t,Z,ht,hn⟩ := opL_head h1.1
  cases g with
  | nil =>
   obtain ⟨u,V,rfl,hu⟩ := hY
   simp only [Fo.enc,List.nil_append,ht,List.cons_append,List.append_assoc,List.cons.injEq] at he
   rw [he.1] at hn
   exact absurd hu hn
  | cons op2 a2 b2 n2 h2' l2 ot2 body2 els2 rest2 =>
   obtain ⟨g1,g2,g3,g4⟩ := ev_cons hg
   rw [insB,Bool.and_eq_true] at g1
   obtain ⟨o2,_⟩ := opL_head g1.1
   obtain ⟨p1,p2,p3,p4,p5,p6,p7,p8⟩ := rf
   obtain ⟨q1,q2,q3,q4,q5,q6,q7,q8⟩ := rg
   obtain ⟨l1,l4,l5,l6⟩ := lf
   obtain ⟨m1,m4,m5,m6⟩ := lg
   simp only [Fo.enc,List.append_assoc] at he
   obtain ⟨rfl,heA⟩ := opL_inj o1 o2 he
   have hk := line_ok op
   by_cases hk1 : (lineL op).2.1 = 1
   ·have i1 := h1.2
    have i2 := g1.2
    rw [hk1] at i1 i2 heA
    obtain ⟨b1,rfl,rfl,x6,x8⟩ := blB_in (show blB op a b n h ot l.length body.len els.len = true from i1)
    obtain ⟨b9,rfl,rfl,y6,y8⟩ := blB_in (show blB op a2 b2 n2 h2' ot2 l2.length body2.len els2.len = true from i2)
    obtain rfl := lst_nil x6
    obtain rfl := lst_nil y6
    change (blL a b ++ body.enc ++ (if ot = true then 5 :: els.enc else []) ++ [11]) ++ (rest.enc ++ X) = (blL a2 b2 ++ body2.enc ++ (if ot2 = true then 5 :: els2.enc else []) ++ [11]) ++ (rest2.enc ++ Y) at heA
    simp only [List.append_assoc] at heA
    obtain ⟨rfl,rfl,heB⟩ := blL_inj b1 b9 p2 q2 heA
    have eX : ∀ (o : Bool) (E R : List UInt8),EndsB ((if o = true then 5 :: E else []) ++ ([11] ++ R)) := by
     intro o E R
     cases o
     ·exact ends_11 _
     exact ends_5 _
    obtain ⟨rfl,heC⟩ := ihb body2 _ _ _ _ h2 g2 p4 q4 l4 m4 (eX _ _ _) (eX _ _ _) heB
    have last : ∀ R R2 : List UInt8,([11] ++ R : List UInt8) = [11] ++ R2 → R = R2 := by
     intro R R2 h
     simpa using h
    cases ot <;> cases ot2
    ·obtain rfl := len_nil (x8 rfl)
     obtain rfl := len_nil (y8 rfl)
     obtain ⟨rfl,rfl⟩ := ihr rest2 _ _ _ _ h4 g4 p6 q6 l6 m6 hX hY (last _ _ heC)
     exact ⟨rfl,rfl⟩
    ·simp at heC
    ·simp at heC
    simp only [if_true,List.cons_append,List.cons.injEq,true_and] at heC
    obtain ⟨rfl,heD⟩ := ihe els2 _ _ _ _ h3 g3 p5 q5 l5 m5 (ends_11 _) (ends_11 _) heC
    obtain ⟨rfl,rfl⟩ := ihr rest2 _ _ _ _ h4 g4 p6 q6 l6 m6 hX hY (last _ _ heD)
    exact ⟨rfl,rfl⟩
   obtain ⟨⟨rfl,rfl,rfl,rfl,rfl,rfl,rfl,rfl⟩,he2⟩ := tells_any _ hk.1 hk.2.1 hk1 op a b n h l ot body els a2 b2 n2 h2' l2 ot2 body2 els2 _ _ _ _ _ _ h1.2 g1.2 p1 p2 p3 p7 p8 l1 q1 q2 q3 q7 q8 m1 heA
   obtain ⟨rfl,rfl⟩ := ihr rest2 _ _ _ _ h4 g4 p6 q6 l6 m6 hX hY he2
   exact ⟨rfl,rfl⟩
theorem codL_inj {f g : Fo} {X Y : List UInt8} (hf : codeB f = true) (hg : codeB g = true) (rf : RN f) (rg : RN g) (lf : LnS f) (lg : LnS g) (he : codL f ++ X = codL g ++ Y) : f = g ∧ X = Y := by
 simp only [codL,List.append_assoc] at he
 obtain ⟨h1,h2⟩ := enc_inj f g 1 1 _ _ hf hg rf rg lf lg (ends_11 _) (ends_11 _) he
 exact ⟨h1,by simpa using h2⟩
end Go.Proofs.YtjgeedgphcjhoaaGreat
namespace Go.Proofs.YtjgeedgphcjhoaaGreat
open Go.RowKit
instance lawB : LawfulBEq ByteArray where
 eq_of_beq {a b} h := by
  cases a; cases b
  have : (_ : Array UInt8) = _ := eq_of_beq (α := Array UInt8) h
  simp_all
 rfl {a} := by
  cases a
  exact beq_self_eq_true (α := Array UInt8) _
def Fo.beq : Fo → Fo → Bool
 | .nil,.nil => true
 | .cons op a b n h l ot body els rest,.cons op2 a2 b2 n2 h2 l2 ot2 body2 els2 rest2 =>
  (op == op2) && (a == a2) && (b == b2) && (n == n2) && (h == h2) && (ot == ot2) && (l == l2) && body.beq body2 && els.beq els2 && rest.beq rest2
 | _,_ => false
theorem Fo.beq_iff : ∀ (f g : Fo),f.beq g = true ↔ f = g := by
 intro f
 induction f with
 | nil => intro g; cases g <;> simp [Fo.beq]
 | cons op a b n h l ot body els rest ihb ihe ihr =>
  intro g
  cases g with
  | nil => simp [Fo.beq]
  | cons op2 a2 b2 n2 h2 l2 ot2 body2 els2 rest2 =>
   simp only [Fo.beq,Bool.and_eq_true,beq_iff_eq,ihb,ihe,ihr,Fo.cons.injEq]
   grind
theorem Fo.beq_refl (f : Fo) : f.beq f = true := (f.beq_iff f).2 rfl
theorem Fo.beq_len {f g : Fo} (h : f.beq g = true) : f.len = g.len := by rw [(f.beq_iff g).1 h]
def eqL (n m : Nat) (P : Nat → Bool) : Bool := (n == m) && (List.range n).all P
theorem eqL_iff (n m : Nat) (P : Nat → Bool) : eqL n m P = true ↔ n = m ∧ ∀ i,i < n → P i = true := by
 simp [eqL]
def ETyp.eq (x y : ETyp) : Bool := (x.a == y.a) && (x.b == y.b)
def ETab.eq (x y : ETab) : Bool := (x.r == y.r) && (x.mn == y.mn) && (x.mx == y.mx) && (x.h == y.h)
def ELim.eq (x y : ELim) : Bool := (x.mn == y.mn) && (x.mx == y.mx) && (x.h == y.h)
def EImp.eq (x y : EImp) : Bool := (x.s0 == y.s0) && (x.s1 == y.s1) && (x.kd == y.kd) && (x.ty == y.ty) && (x.tr == y.tr) && (x.tmn == y.tmn) && (x.tmx == y.tmx) && (x.th == y.th) && (x.mmn == y.mmn) && (x.mmx == y.mmx) && (x.mh == y.mh) && (x.gt == y.gt) && (x.gm == y.gm)
def EFun.eq (x y : EFun) : Bool := (x.ty == y.ty) && (x.l == y.l) && x.f.beq y.f
def EGlo.eq (x y : EGlo) : Bool := (x.t == y.t) && (x.m == y.m) && x.f.beq y.f
def EExp.eq (x y : EExp) : Bool := (x.s == y.s) && (x.k == y.k) && (x.ix == y.ix)
def EElm.eq (x y : EElm) : Bool := (x.r == y.r) && (x.m == y.m) && (x.t == y.t) && x.f.beq y.f && eqL x.ng y.ng (fun k => (x.g k).beq (y.g k))
def EDat.eq (x y : EDat) : Bool := (x.m == y.m) && (x.t == y.t) && x.f.beq y.f && (x.b == y.b)
def MD.eq (A B : MD) : Bool :=
 eqL A.tn B.tn (fun i => (A.t i).eq (B.t i)) && (eqL A.imn B.imn (fun i => (A.im i).eq (B.im i)) && (eqL A.fn B.fn (fun i => (A.f i).eq (B.f i)) && (eqL A.tbn B.tbn (fun i => (A.tb i).eq (B.tb i)) && (eqL A.mn B.mn (fun i => (A.m i).eq (B.m i)) && (eqL A.gn B.gn (fun i => (A.g i).eq (B.g i)) && (eqL A.xn B.xn (fun i => (A.x i).eq (B.x i)) && ((A.st == B.st) && (eqL A.en B.en (fun i => (A.e i).eq (B.e i)) && (eqL A.dn B.dn (fun i => (A.d i).eq (B.d i)) && (A.cnt == B.cnt))))))))))
end Go.Proofs.YtjgeedgphcjhoaaGreat
