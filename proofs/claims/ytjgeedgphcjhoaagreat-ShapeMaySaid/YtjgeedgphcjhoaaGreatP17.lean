/-
  OneS, Ref1: merged, what the law does not reach left out (each text says what it holds where it lies in wip). No condition.
-/
import Derived.Test.YtjgeedgphcjhoaaGreatP05
import Derived.Test.YtjgeedgphcjhoaaGreatP06
import Derived.Test.YtjgeedgphcjhoaaGreatP07
import Derived.Test.YtjgeedgphcjhoaaGreatP08
import Derived.Test.YtjgeedgphcjhoaaGreatP09
import Derived.Test.YtjgeedgphcjhoaaGreatP10
import Derived.Test.YtjgeedgphcjhoaaGreatP11
import Derived.Test.YtjgeedgphcjhoaaGreatP12
import Derived.Test.YtjgeedgphcjhoaaGreatP16
import Derived.Test.YtjgeedgphcjhoaaGreatP02
set_option linter.unusedSimpArgs false
set_option linter.unusedVariables false
set_option maxRecDepth 100000
namespace Go.Proofs.YtjgeedgphcjhoaaGreat
open Go.RowKit
theorem agree_any (op : Int) : agree op = true := by
 by_cases h : op ∈ rangeOps
 ·exact List.all_eq_true.1 agree_all op h
 ·have e1 := lineL_out op h
  have e2 : ofL op = rw0 := by unfold ofL; rw [text_out op h]; rfl
  unfold agree
  rw [e1,e2]
  simp only [rw0]
  rw [Bool.and_eq_true]
  refine ⟨by kernel_rfl,rfl⟩
theorem agree_two (op : Int) {o : Int} {nm : List UInt8} {im : Int} {tk lv : List UInt8} {fx : Bool} (h : ofL op = (o,nm,im,tk,lv,fx)) : knB (lineL op) = decide (0 ≤ o) ∧ (lineL op).2.1 = im := by
 have := agree_any op
 unfold agree at this
 rw [h] at this
 simp only [Bool.and_eq_true,decide_eq_true_eq,beq_iff_eq,Bool.or_eq_true] at this
 obtain ⟨⟨⟨⟨⟨⟨⟨⟨h1,h2⟩,h3⟩,h4⟩,h5⟩,h6⟩,h7⟩,h8⟩,h9⟩ := this
 exact ⟨h1,h3⟩
/-- An integer of the machine. -/
def i64B (a : Int) : Prop := -9223372036854775808 ≤ a ∧ a < 9223372036854775808
theorem all_idx : ∀ (l : List Int),(∀ x ∈ l,i64B x) → l.all idxB = l.all (inR 4294967296)
 | [],_ => rfl
 | x :: l,h => by
  rw [List.all_cons,List.all_cons,all_idx l fun y hy => h y (List.mem_cons_of_mem _ hy),idx_eq x (h x (List.mem_cons_self ..)).1 (h x (List.mem_cons_self ..)).2]
  rfl
theorem all_byte (l : List Int) : l.all byteB = l.all (inR 256) := by rw [show byteB = inR 256 from funext byte_eq]
theorem one_byte (l : List Int) : (((l.length : Int) == 1) && byteB (l.headD 0)) = (((l.length : Int) == 1) && l.all (inR 256)) := by
 match l with
 | [] => rfl
 | [x] => simp [byte_eq]
 | x :: y :: l =>
  have : (((x :: y :: l).length : Int) == 1) = false := by simp; omega
  rw [this]; rfl
theorem n32_eq (n : Nat) : decide ((n : Int) ≤ 4294967295) = decide ((n : Int) < 4294967296) := decide_eq_decide.2 (by omega)
theorem ok_0 (op a b : Int) (n h : Nat) (l : List Int) (ot : Bool) (nb ne : Nat) (ha : i64B a) (hb : i64B b) (hl : ∀ x ∈ l,i64B x) : (!(decide (0 < nb) || decide (0 < ne) || ot) && (((l.length : Int) == 0) && (a == 0) && (b == 0) && ((n : Int) == 0) && ((h : Int) == 0))) = okB 0 op a b n h l ot nb ne := by
 rw [Bool.eq_iff_iff]
 have e1 := idx_eq a ha.1 ha.2
 have e2 := idx_eq b hb.1 hb.2
 have e3 := byte_eq a
 have e4 := all_idx l hl
 have e5 := all_byte l
 have e6 := one_byte l
 have e7 := n32_eq n
 simp [okB,unB,e1,e2,e3,e4,e5,e7,inR]
 grind
theorem ok_1 (op a b : Int) (n h : Nat) (l : List Int) (ot : Bool) (nb ne : Nat) (ha : i64B a) (hb : i64B b) (hl : ∀ x ∈ l,i64B x) : (((l.length : Int) == 0) && (((a == 0) && (b == 0)) || ((a == 1) && valB b) || ((a == 2) && idxR b)) && ((op == 4) || !ot) && (ot || ((ne : Int) == 0)) && ((n : Int) == 0) && ((h : Int) == 0)) = okB 1 op a b n h l ot nb ne := by
 rw [Bool.eq_iff_iff]
 have e1 := idx_eq a ha.1 ha.2
 have e2 := idx_eq b hb.1 hb.2
 have e3 := byte_eq a
 have e4 := all_idx l hl
 have e5 := all_byte l
 have e6 := one_byte l
 have e7 := n32_eq n
 simp [okB,unB,e1,e2,e3,e4,e5,e7,inR,blB]
 grind
theorem ok_2 (op a b : Int) (n h : Nat) (l : List Int) (ot : Bool) (nb ne : Nat) (ha : i64B a) (hb : i64B b) (hl : ∀ x ∈ l,i64B x) : (!(decide (0 < nb) || decide (0 < ne) || ot) && (idxR a && ((l.length : Int) == 0) && (b == 0) && ((n : Int) == 0) && ((h : Int) == 0))) = okB 2 op a b n h l ot nb ne := by
 rw [Bool.eq_iff_iff]
 have e1 := idx_eq a ha.1 ha.2
 have e2 := idx_eq b hb.1 hb.2
 have e3 := byte_eq a
 have e4 := all_idx l hl
 have e5 := all_byte l
 have e6 := one_byte l
 have e7 := n32_eq n
 simp [okB,unB,e1,e2,e3,e4,e5,e7,inR]
 grind
theorem ok_3 (op a b : Int) (n h : Nat) (l : List Int) (ot : Bool) (nb ne : Nat) (ha : i64B a) (hb : i64B b) (hl : ∀ x ∈ l,i64B x) : (!(decide (0 < nb) || decide (0 < ne) || ot) && (idxR a && l.all (inR 4294967296) && (b == 0) && ((n : Int) == 0) && ((h : Int) == 0))) = okB 3 op a b n h l ot nb ne := by
 rw [Bool.eq_iff_iff]
 have e1 := idx_eq a ha.1 ha.2
 have e2 := idx_eq b hb.1 hb.2
 have e3 := byte_eq a
 have e4 := all_idx l hl
 have e5 := all_byte l
 have e6 := one_byte l
 have e7 := n32_eq n
 simp [okB,unB,e1,e2,e3,e4,e5,e7,inR]
 grind
theorem ok_4 (op a b : Int) (n h : Nat) (l : List Int) (ot : Bool) (nb ne : Nat) (ha : i64B a) (hb : i64B b) (hl : ∀ x ∈ l,i64B x) : (!(decide (0 < nb) || decide (0 < ne) || ot) && (idxR a && ((l.length : Int) == 0) && (b == 0) && ((n : Int) == 0) && ((h : Int) == 0))) = okB 4 op a b n h l ot nb ne := by
 rw [Bool.eq_iff_iff]
 have e1 := idx_eq a ha.1 ha.2
 have e2 := idx_eq b hb.1 hb.2
 have e3 := byte_eq a
 have e4 := all_idx l hl
 have e5 := all_byte l
 have e6 := one_byte l
 have e7 := n32_eq n
 simp [okB,unB,e1,e2,e3,e4,e5,e7,inR]
 grind
theorem ok_5 (op a b : Int) (n h : Nat) (l : List Int) (ot : Bool) (nb ne : Nat) (ha : i64B a) (hb : i64B b) (hl : ∀ x ∈ l,i64B x) : (!(decide (0 < nb) || decide (0 < ne) || ot) && (idxR a && idxR b && ((l.length : Int) == 0) && ((n : Int) == 0) && ((h : Int) == 0))) = okB 5 op a b n h l ot nb ne := by
 rw [Bool.eq_iff_iff]
 have e1 := idx_eq a ha.1 ha.2
 have e2 := idx_eq b hb.1 hb.2
 have e3 := byte_eq a
 have e4 := all_idx l hl
 have e5 := all_byte l
 have e6 := one_byte l
 have e7 := n32_eq n
 simp [okB,unB,e1,e2,e3,e4,e5,e7,inR]
 grind
theorem ok_6 (op a b : Int) (n h : Nat) (l : List Int) (ot : Bool) (nb ne : Nat) (ha : i64B a) (hb : i64B b) (hl : ∀ x ∈ l,i64B x) : (!(decide (0 < nb) || decide (0 < ne) || ot) && (l.all valB && (a == 0) && (b == 0) && ((n : Int) == 0) && ((h : Int) == 0))) = okB 6 op a b n h l ot nb ne := by
 rw [Bool.eq_iff_iff]
 have e1 := idx_eq a ha.1 ha.2
 have e2 := idx_eq b hb.1 hb.2
 have e3 := byte_eq a
 have e4 := all_idx l hl
 have e5 := all_byte l
 have e6 := one_byte l
 have e7 := n32_eq n
 simp [okB,unB,e1,e2,e3,e4,e5,e7,inR]
 grind
theorem ok_7 (op a b : Int) (n h : Nat) (l : List Int) (ot : Bool) (nb ne : Nat) (ha : i64B a) (hb : i64B b) (hl : ∀ x ∈ l,i64B x) : (!(decide (0 < nb) || decide (0 < ne) || ot) && (idxR a && ((l.length : Int) == 0) && (b == 0) && ((n : Int) == 0) && ((h : Int) == 0))) = okB 7 op a b n h l ot nb ne := by
 rw [Bool.eq_iff_iff]
 have e1 := idx_eq a ha.1 ha.2
 have e2 := idx_eq b hb.1 hb.2
 have e3 := byte_eq a
 have e4 := all_idx l hl
 have e5 := all_byte l
 have e6 := one_byte l
 have e7 := n32_eq n
 simp [okB,unB,e1,e2,e3,e4,e5,e7,inR]
 grind
theorem ok_8 (op a b : Int) (n h : Nat) (l : List Int) (ot : Bool) (nb ne : Nat) (ha : i64B a) (hb : i64B b) (hl : ∀ x ∈ l,i64B x) : (!(decide (0 < nb) || decide (0 < ne) || ot) && (idxR a && ((l.length : Int) == 0) && (b == 0) && ((n : Int) == 0) && ((h : Int) == 0))) = okB 8 op a b n h l ot nb ne := by
 rw [Bool.eq_iff_iff]
 have e1 := idx_eq a ha.1 ha.2
 have e2 := idx_eq b hb.1 hb.2
 have e3 := byte_eq a
 have e4 := all_idx l hl
 have e5 := all_byte l
 have e6 := one_byte l
 have e7 := n32_eq n
 simp [okB,unB,e1,e2,e3,e4,e5,e7,inR]
 grind
theorem ok_9 (op a b : Int) (n h : Nat) (l : List Int) (ot : Bool) (nb ne : Nat) (ha : i64B a) (hb : i64B b) (hl : ∀ x ∈ l,i64B x) : (!(decide (0 < nb) || decide (0 < ne) || ot) && (idxR a && ((l.length : Int) == 0) && (b == 0) && ((n : Int) == 0) && ((h : Int) == 0))) = okB 9 op a b n h l ot nb ne := by
 rw [Bool.eq_iff_iff]
 have e1 := idx_eq a ha.1 ha.2
 have e2 := idx_eq b hb.1 hb.2
 have e3 := byte_eq a
 have e4 := all_idx l hl
 have e5 := all_byte l
 have e6 := one_byte l
 have e7 := n32_eq n
 simp [okB,unB,e1,e2,e3,e4,e5,e7,inR]
 grind
theorem ok_10 (op a b : Int) (n h : Nat) (l : List Int) (ot : Bool) (nb ne : Nat) (ha : i64B a) (hb : i64B b) (hl : ∀ x ∈ l,i64B x) : (!(decide (0 < nb) || decide (0 < ne) || ot) && (idxR a && idxR b && ((l.length : Int) == 0) && ((n : Int) == 0) && ((h : Int) == 0))) = okB 10 op a b n h l ot nb ne := by
 rw [Bool.eq_iff_iff]
 have e1 := idx_eq a ha.1 ha.2
 have e2 := idx_eq b hb.1 hb.2
 have e3 := byte_eq a
 have e4 := all_idx l hl
 have e5 := all_byte l
 have e6 := one_byte l
 have e7 := n32_eq n
 simp [okB,unB,e1,e2,e3,e4,e5,e7,inR]
 grind
theorem ok_11 (op a b : Int) (n h : Nat) (l : List Int) (ot : Bool) (nb ne : Nat) (ha : i64B a) (hb : i64B b) (hl : ∀ x ∈ l,i64B x) : (!(decide (0 < nb) || decide (0 < ne) || ot) && (((l.length : Int) == 0) && (a == 0) && (b == 0) && ((n : Int) == 0) && ((h : Int) == 0))) = okB 11 op a b n h l ot nb ne := by
 rw [Bool.eq_iff_iff]
 have e1 := idx_eq a ha.1 ha.2
 have e2 := idx_eq b hb.1 hb.2
 have e3 := byte_eq a
 have e4 := all_idx l hl
 have e5 := all_byte l
 have e6 := one_byte l
 have e7 := n32_eq n
 simp [okB,unB,e1,e2,e3,e4,e5,e7,inR]
 grind
theorem ok_12 (op a b : Int) (n h : Nat) (l : List Int) (ot : Bool) (nb ne : Nat) (ha : i64B a) (hb : i64B b) (hl : ∀ x ∈ l,i64B x) : (!(decide (0 < nb) || decide (0 < ne) || ot) && (decide ((n : Int) < 4294967296) && ((l.length : Int) == 0) && (a == 0) && (b == 0) && ((h : Int) == 0))) = okB 12 op a b n h l ot nb ne := by
 rw [Bool.eq_iff_iff]
 have e1 := idx_eq a ha.1 ha.2
 have e2 := idx_eq b hb.1 hb.2
 have e3 := byte_eq a
 have e4 := all_idx l hl
 have e5 := all_byte l
 have e6 := one_byte l
 have e7 := n32_eq n
 simp [okB,unB,e1,e2,e3,e4,e5,e7,inR]
 grind
theorem ok_13 (op a b : Int) (n h : Nat) (l : List Int) (ot : Bool) (nb ne : Nat) (ha : i64B a) (hb : i64B b) (hl : ∀ x ∈ l,i64B x) : (!(decide (0 < nb) || decide (0 < ne) || ot) && (((l.length : Int) == 0) && (a == 0) && (b == 0) && ((h : Int) == 0))) = okB 13 op a b n h l ot nb ne := by
 rw [Bool.eq_iff_iff]
 have e1 := idx_eq a ha.1 ha.2
 have e2 := idx_eq b hb.1 hb.2
 have e3 := byte_eq a
 have e4 := all_idx l hl
 have e5 := all_byte l
 have e6 := one_byte l
 have e7 := n32_eq n
 simp [okB,unB,e1,e2,e3,e4,e5,e7,inR]
 grind
theorem ok_14 (op a b : Int) (n h : Nat) (l : List Int) (ot : Bool) (nb ne : Nat) (ha : i64B a) (hb : i64B b) (hl : ∀ x ∈ l,i64B x) : (!(decide (0 < nb) || decide (0 < ne) || ot) && (decide ((n : Int) < 4294967296) && ((l.length : Int) == 0) && (a == 0) && (b == 0) && ((h : Int) == 0))) = okB 14 op a b n h l ot nb ne := by
 rw [Bool.eq_iff_iff]
 have e1 := idx_eq a ha.1 ha.2
 have e2 := idx_eq b hb.1 hb.2
 have e3 := byte_eq a
 have e4 := all_idx l hl
 have e5 := all_byte l
 have e6 := one_byte l
 have e7 := n32_eq n
 simp [okB,unB,e1,e2,e3,e4,e5,e7,inR]
 grind
theorem ok_15 (op a b : Int) (n h : Nat) (l : List Int) (ot : Bool) (nb ne : Nat) (ha : i64B a) (hb : i64B b) (hl : ∀ x ∈ l,i64B x) : (!(decide (0 < nb) || decide (0 < ne) || ot) && (((l.length : Int) == 0) && (a == 0) && (b == 0) && ((h : Int) == 0))) = okB 15 op a b n h l ot nb ne := by
 rw [Bool.eq_iff_iff]
 have e1 := idx_eq a ha.1 ha.2
 have e2 := idx_eq b hb.1 hb.2
 have e3 := byte_eq a
 have e4 := all_idx l hl
 have e5 := all_byte l
 have e6 := one_byte l
 have e7 := n32_eq n
 simp [okB,unB,e1,e2,e3,e4,e5,e7,inR]
 grind
theorem ok_16 (op a b : Int) (n h : Nat) (l : List Int) (ot : Bool) (nb ne : Nat) (ha : i64B a) (hb : i64B b) (hl : ∀ x ∈ l,i64B x) : (!(decide (0 < nb) || decide (0 < ne) || ot) && (refB a && ((l.length : Int) == 0) && (b == 0) && ((n : Int) == 0) && ((h : Int) == 0))) = okB 16 op a b n h l ot nb ne := by
 rw [Bool.eq_iff_iff]
 have e1 := idx_eq a ha.1 ha.2
 have e2 := idx_eq b hb.1 hb.2
 have e3 := byte_eq a
 have e4 := all_idx l hl
 have e5 := all_byte l
 have e6 := one_byte l
 have e7 := n32_eq n
 simp [okB,unB,e1,e2,e3,e4,e5,e7,inR]
 grind
theorem ok_17 (op a b : Int) (n h : Nat) (l : List Int) (ot : Bool) (nb ne : Nat) (ha : i64B a) (hb : i64B b) (hl : ∀ x ∈ l,i64B x) : (!(decide (0 < nb) || decide (0 < ne) || ot) && (idxR a && ((l.length : Int) == 0) && (b == 0) && ((n : Int) == 0) && ((h : Int) == 0))) = okB 17 op a b n h l ot nb ne := by
 rw [Bool.eq_iff_iff]
 have e1 := idx_eq a ha.1 ha.2
 have e2 := idx_eq b hb.1 hb.2
 have e3 := byte_eq a
 have e4 := all_idx l hl
 have e5 := all_byte l
 have e6 := one_byte l
 have e7 := n32_eq n
 simp [okB,unB,e1,e2,e3,e4,e5,e7,inR]
 grind
theorem ok_18 (op a b : Int) (n h : Nat) (l : List Int) (ot : Bool) (nb ne : Nat) (ha : i64B a) (hb : i64B b) (hl : ∀ x ∈ l,i64B x) : (!(decide (0 < nb) || decide (0 < ne) || ot) && (idxR a && ((l.length : Int) == 0) && (b == 0) && ((n : Int) == 0) && ((h : Int) == 0))) = okB 18 op a b n h l ot nb ne := by
 rw [Bool.eq_iff_iff]
 have e1 := idx_eq a ha.1 ha.2
 have e2 := idx_eq b hb.1 hb.2
 have e3 := byte_eq a
 have e4 := all_idx l hl
 have e5 := all_byte l
 have e6 := one_byte l
 have e7 := n32_eq n
 simp [okB,unB,e1,e2,e3,e4,e5,e7,inR]
 grind
theorem ok_19 (op a b : Int) (n h : Nat) (l : List Int) (ot : Bool) (nb ne : Nat) (ha : i64B a) (hb : i64B b) (hl : ∀ x ∈ l,i64B x) : (!(decide (0 < nb) || decide (0 < ne) || ot) && (((l.length : Int) == 0) && (a == 0) && (b == 0) && ((n : Int) == 0) && ((h : Int) == 0))) = okB 19 op a b n h l ot nb ne := by
 rw [Bool.eq_iff_iff]
 have e1 := idx_eq a ha.1 ha.2
 have e2 := idx_eq b hb.1 hb.2
 have e3 := byte_eq a
 have e4 := all_idx l hl
 have e5 := all_byte l
 have e6 := one_byte l
 have e7 := n32_eq n
 simp [okB,unB,e1,e2,e3,e4,e5,e7,inR]
 grind
theorem ok_20 (op a b : Int) (n h : Nat) (l : List Int) (ot : Bool) (nb ne : Nat) (ha : i64B a) (hb : i64B b) (hl : ∀ x ∈ l,i64B x) : (!(decide (0 < nb) || decide (0 < ne) || ot) && (idxR a && idxR b && ((l.length : Int) == 0) && ((n : Int) == 0) && ((h : Int) == 0))) = okB 20 op a b n h l ot nb ne := by
 rw [Bool.eq_iff_iff]
 have e1 := idx_eq a ha.1 ha.2
 have e2 := idx_eq b hb.1 hb.2
 have e3 := byte_eq a
 have e4 := all_idx l hl
 have e5 := all_byte l
 have e6 := one_byte l
 have e7 := n32_eq n
 simp [okB,unB,e1,e2,e3,e4,e5,e7,inR]
 grind
theorem ok_21 (op a b : Int) (n h : Nat) (l : List Int) (ot : Bool) (nb ne : Nat) (ha : i64B a) (hb : i64B b) (hl : ∀ x ∈ l,i64B x) : (!(decide (0 < nb) || decide (0 < ne) || ot) && (idxR a && ((l.length : Int) == 0) && (b == 0) && ((n : Int) == 0) && ((h : Int) == 0))) = okB 21 op a b n h l ot nb ne := by
 rw [Bool.eq_iff_iff]
 have e1 := idx_eq a ha.1 ha.2
 have e2 := idx_eq b hb.1 hb.2
 have e3 := byte_eq a
 have e4 := all_idx l hl
 have e5 := all_byte l
 have e6 := one_byte l
 have e7 := n32_eq n
 simp [okB,unB,e1,e2,e3,e4,e5,e7,inR]
 grind
theorem ok_22 (op a b : Int) (n h : Nat) (l : List Int) (ot : Bool) (nb ne : Nat) (ha : i64B a) (hb : i64B b) (hl : ∀ x ∈ l,i64B x) : (!(decide (0 < nb) || decide (0 < ne) || ot) && (idxR a && idxR b && ((l.length : Int) == 0) && ((n : Int) == 0) && ((h : Int) == 0))) = okB 22 op a b n h l ot nb ne := by
 rw [Bool.eq_iff_iff]
 have e1 := idx_eq a ha.1 ha.2
 have e2 := idx_eq b hb.1 hb.2
 have e3 := byte_eq a
 have e4 := all_idx l hl
 have e5 := all_byte l
 have e6 := one_byte l
 have e7 := n32_eq n
 simp [okB,unB,e1,e2,e3,e4,e5,e7,inR]
 grind
theorem ok_23 (op a b : Int) (n h : Nat) (l : List Int) (ot : Bool) (nb ne : Nat) (ha : i64B a) (hb : i64B b) (hl : ∀ x ∈ l,i64B x) : (!(decide (0 < nb) || decide (0 < ne) || ot) && (((l.length : Int) == 0) && (a == 0) && (b == 0))) = okB 23 op a b n h l ot nb ne := by
 rw [Bool.eq_iff_iff]
 have e1 := idx_eq a ha.1 ha.2
 have e2 := idx_eq b hb.1 hb.2
 have e3 := byte_eq a
 have e4 := all_idx l hl
 have e5 := all_byte l
 have e6 := one_byte l
 have e7 := n32_eq n
 simp [okB,unB,e1,e2,e3,e4,e5,e7,inR]
 grind
theorem ok_24 (op a b : Int) (n h : Nat) (l : List Int) (ot : Bool) (nb ne : Nat) (ha : i64B a) (hb : i64B b) (hl : ∀ x ∈ l,i64B x) : (!(decide (0 < nb) || decide (0 < ne) || ot) && (((l.length : Int) == 16) && l.all (inR 256) && (a == 0) && (b == 0) && ((n : Int) == 0) && ((h : Int) == 0))) = okB 24 op a b n h l ot nb ne := by
 rw [Bool.eq_iff_iff]
 have e1 := idx_eq a ha.1 ha.2
 have e2 := idx_eq b hb.1 hb.2
 have e3 := byte_eq a
 have e4 := all_idx l hl
 have e5 := all_byte l
 have e6 := one_byte l
 have e7 := n32_eq n
 simp [okB,unB,e1,e2,e3,e4,e5,e7,inR]
 grind
theorem ok_25 (op a b : Int) (n h : Nat) (l : List Int) (ot : Bool) (nb ne : Nat) (ha : i64B a) (hb : i64B b) (hl : ∀ x ∈ l,i64B x) : (!(decide (0 < nb) || decide (0 < ne) || ot) && (decide (0 ≤ a) && decide (a < 256) && ((l.length : Int) == 0) && (b == 0) && ((n : Int) == 0) && ((h : Int) == 0))) = okB 25 op a b n h l ot nb ne := by
 rw [Bool.eq_iff_iff]
 have e1 := idx_eq a ha.1 ha.2
 have e2 := idx_eq b hb.1 hb.2
 have e3 := byte_eq a
 have e4 := all_idx l hl
 have e5 := all_byte l
 have e6 := one_byte l
 have e7 := n32_eq n
 simp [okB,unB,e1,e2,e3,e4,e5,e7,inR]
 grind
theorem ok_26 (op a b : Int) (n h : Nat) (l : List Int) (ot : Bool) (nb ne : Nat) (ha : i64B a) (hb : i64B b) (hl : ∀ x ∈ l,i64B x) : (!(decide (0 < nb) || decide (0 < ne) || ot) && (idxR a && idxR b && ((l.length : Int) == 1) && l.all (inR 256) && ((n : Int) == 0) && ((h : Int) == 0))) = okB 26 op a b n h l ot nb ne := by
 have e1 := idx_eq a ha.1 ha.2
 have e2 := idx_eq b hb.1 hb.2
 have e6 := one_byte l
 have e8 : okB 26 op a b n h l ot nb ne = ((idxB a && idxB b && (((l.length : Int) == 1) && byteB (l.headD 0))) && unB 0 0 n h ot 0 nb ne) := by simp [okB,Bool.and_assoc]
 rw [e8,e1,e2,e6]
 generalize l.all (inR 256) = t
 generalize ((l.length : Int) == 1) = u
 rw [Bool.eq_iff_iff]
 simp [unB]
 grind
set_option maxHeartbeats 4000000 in
theorem one_unknown (op : Int) (a b : Int) (n h : Nat) (nl : Nat) (pl pb pe : Option Addr) (cl nb cb ne ce : Nat) (ot : Bool) (w : World)
  (c0 : Int) (v1 v3 v4 : List UInt8) (v5 : Bool) (k : Int) (hc0 : decide (c0 < 0) = true) (hk : ∀ W,Calls Tryz.prog 153 #[.int .i64 op] W fun e w' => e = .returned (.agg #[.int .i64 c0,.string (str v1),.int .i64 k,.string (str v3),.string (str v4),.bool v5]) ∧ Below W.heap.size W w') :
  Calls Tryz.prog 209 #[.agg #[.int .i64 op,.int .i64 a,.int .i64 b,.int .u64 (n : Nat),.int .u64 (h : Nat),.slice pl nl cl,.slice pb nb cb,.slice pe ne ce,.bool ot]] w fun e w' => e = .returned (.bool false) ∧ Below w.heap.size w w' := by
 have HK := fun W => hid (hk W)
 have HBX := hid ((Below.refl w.heap.size w).alloc (Nat.le_refl _) (.cells #[.int .i64 op,.int .i64 a,.int .i64 b,.int .u64 (n : Nat),.int .u64 (h : Nat),.slice pl nl cl,.slice pb nb cb,.slice pe ne ce,.bool ot] 39))
 clear hk
 go_enter Tryz.func209,Tryz.ntmps209
 go_upto_region 2 with (go_at_call 153; (with_reducible refine (HK _).out.mono ?_); rintro e w1 ⟨rfl,hb1⟩; have HB1 := hid (HBX.out.trans (hb1.mono HBX.out.size)); clear hb1)
 have HR2 := hid (CA.new w1 #[.int .i64 c0,.string (str v1),.int .i64 k,.string (str v3),.string (str v4),.bool v5] 172)
 have HB2 := hid (HB1.out.alloc HB1.out.size (.cells #[.int .i64 c0,.string (str v1),.int .i64 k,.string (str v3),.string (str v4),.bool v5] 172))
 generalize w1.alloc (.cells #[.int .i64 c0,.string (str v1),.int .i64 k,.string (str v3),.string (str v4),.bool v5] 172) = W2 at *
 have r0 := HR2.out.at (k := 0) (v := .int .i64 c0) rfl
 go_wp2
 go_ret
 exact ⟨rfl,HB2.out⟩
theorem One_says (op a b : Int) (n h : Nat) (l : List Int) (nl : Nat) (hnl : nl = l.length) (pl pb pe : Option Addr) (cl nb cb ne ce : Nat) (ot : Bool) (B : Nat) (w : World) (hB : B ≤ w.heap.size) (hl : LI B w (.slice pl nl cl) l) (ha : i64B a) (hb : i64B b) (hli : ∀ x ∈ l,i64B x) :
  Calls Tryz.prog 209 #[.agg #[.int .i64 op,.int .i64 a,.int .i64 b,.int .u64 (n : Nat),.int .u64 (h : Nat),.slice pl nl cl,.slice pb nb cb,.slice pe ne ce,.bool ot]] w fun e w' => e = .returned (.bool (insB op a b n h l ot nb ne)) ∧ Below w.heap.size w w' := by
 obtain ⟨o,nm,k,tk,lv,fx,hof⟩ : ∃ o nm k tk lv fx,ofL op = (o,nm,k,tk,lv,fx) := ⟨_,_,_,_,_,_,rfl⟩
 have hk := fun W => Of_says op W
 rw [hof] at hk
 obtain ⟨g1,g2⟩ := agree_two op hof
 obtain ⟨h0,h1,_⟩ := line_ok op
 rw [g2] at h0 h1
 unfold insB
 rw [g1,g2]
 by_cases hn : o < 0
 ·rw [show decide (0 ≤ o) = false by simp; omega,Bool.false_and]
  exact one_unknown op a b n h nl pl pb pe cl nb cb ne ce ot w o nm tk lv fx k (by simp; omega) hk
 ·have hc0 : decide (o < 0) = false := by simp; omega
  rw [show decide (0 ≤ o) = true by simp; omega,Bool.true_and]
  clear g1 g2 hof hn
  subst hnl
  rcases (show k = 0 ∨ k = 1 ∨ k = 2 ∨ k = 3 ∨ k = 4 ∨ k = 5 ∨ k = 6 ∨ k = 7 ∨ k = 8 ∨ k = 9 ∨ k = 10 ∨ k = 11 ∨ k = 12 ∨ k = 13 ∨ k = 14 ∨ k = 15 ∨ k = 16 ∨ k = 17 ∨ k = 18 ∨ k = 19 ∨ k = 20 ∨ k = 21 ∨ k = 22 ∨ k = 23 ∨ k = 24 ∨ k = 25 ∨ k = 26 by omega) with rfl | rfl | rfl | rfl | rfl | rfl | rfl | rfl | rfl | rfl | rfl | rfl | rfl | rfl | rfl | rfl | rfl | rfl | rfl | rfl | rfl | rfl | rfl | rfl | rfl | rfl | rfl
  ·have := one_0 op a b n h l l.length rfl pl pb pe cl nb cb ne ce ot B w hB hl o nm tk lv fx hc0 hk
   rw [ok_0 op a b n h l ot nb ne ha hb hli] at this
   exact this
  ·have := one_1 op a b n h l l.length rfl pl pb pe cl nb cb ne ce ot B w hB hl o nm tk lv fx hc0 hk
   rw [ok_1 op a b n h l ot nb ne ha hb hli] at this
   exact this
  ·have := one_2 op a b n h l l.length rfl pl pb pe cl nb cb ne ce ot B w hB hl o nm tk lv fx hc0 hk
   rw [ok_2 op a b n h l ot nb ne ha hb hli] at this
   exact this
  ·have := one_3 op a b n h l l.length rfl pl pb pe cl nb cb ne ce ot B w hB hl o nm tk lv fx hc0 hk
   rw [ok_3 op a b n h l ot nb ne ha hb hli] at this
   exact this
  ·have := one_4 op a b n h l l.length rfl pl pb pe cl nb cb ne ce ot B w hB hl o nm tk lv fx hc0 hk
   rw [ok_4 op a b n h l ot nb ne ha hb hli] at this
   exact this
  ·have := one_5 op a b n h l l.length rfl pl pb pe cl nb cb ne ce ot B w hB hl o nm tk lv fx hc0 hk
   rw [ok_5 op a b n h l ot nb ne ha hb hli] at this
   exact this
  ·have := one_6 op a b n h l l.length rfl pl pb pe cl nb cb ne ce ot B w hB hl o nm tk lv fx hc0 hk
   rw [ok_6 op a b n h l ot nb ne ha hb hli] at this
   exact this
  ·have := one_7 op a b n h l l.length rfl pl pb pe cl nb cb ne ce ot B w hB hl o nm tk lv fx hc0 hk
   rw [ok_7 op a b n h l ot nb ne ha hb hli] at this
   exact this
  ·have := one_8 op a b n h l l.length rfl pl pb pe cl nb cb ne ce ot B w hB hl o nm tk lv fx hc0 hk
   rw [ok_8 op a b n h l ot nb ne ha hb hli] at this
   exact this
  ·have := one_9 op a b n h l l.length rfl pl pb pe cl nb cb ne ce ot B w hB hl o nm tk lv fx hc0 hk
   rw [ok_9 op a b n h l ot nb ne ha hb hli] at this
   exact this
  ·have := one_10 op a b n h l l.length rfl pl pb pe cl nb cb ne ce ot B w hB hl o nm tk lv fx hc0 hk
   rw [ok_10 op a b n h l ot nb ne ha hb hli] at this
   exact this
  ·have := one_11 op a b n h l l.length rfl pl pb pe cl nb cb ne ce ot B w hB hl o nm tk lv fx hc0 hk
   rw [ok_11 op a b n h l ot nb ne ha hb hli] at this
   exact this
  ·have := one_12 op a b n h l l.length rfl pl pb pe cl nb cb ne ce ot B w hB hl o nm tk lv fx hc0 hk
   rw [ok_12 op a b n h l ot nb ne ha hb hli] at this
   exact this
  ·have := one_13 op a b n h l l.length rfl pl pb pe cl nb cb ne ce ot B w hB hl o nm tk lv fx hc0 hk
   rw [ok_13 op a b n h l ot nb ne ha hb hli] at this
   exact this
  ·have := one_14 op a b n h l l.length rfl pl pb pe cl nb cb ne ce ot B w hB hl o nm tk lv fx hc0 hk
   rw [ok_14 op a b n h l ot nb ne ha hb hli] at this
   exact this
  ·have := one_15 op a b n h l l.length rfl pl pb pe cl nb cb ne ce ot B w hB hl o nm tk lv fx hc0 hk
   rw [ok_15 op a b n h l ot nb ne ha hb hli] at this
   exact this
  ·have := one_16 op a b n h l l.length rfl pl pb pe cl nb cb ne ce ot B w hB hl o nm tk lv fx hc0 hk
   rw [ok_16 op a b n h l ot nb ne ha hb hli] at this
   exact this
  ·have := one_17 op a b n h l l.length rfl pl pb pe cl nb cb ne ce ot B w hB hl o nm tk lv fx hc0 hk
   rw [ok_17 op a b n h l ot nb ne ha hb hli] at this
   exact this
  ·have := one_18 op a b n h l l.length rfl pl pb pe cl nb cb ne ce ot B w hB hl o nm tk lv fx hc0 hk
   rw [ok_18 op a b n h l ot nb ne ha hb hli] at this
   exact this
  ·have := one_19 op a b n h l l.length rfl pl pb pe cl nb cb ne ce ot B w hB hl o nm tk lv fx hc0 hk
   rw [ok_19 op a b n h l ot nb ne ha hb hli] at this
   exact this
  ·have := one_20 op a b n h l l.length rfl pl pb pe cl nb cb ne ce ot B w hB hl o nm tk lv fx hc0 hk
   rw [ok_20 op a b n h l ot nb ne ha hb hli] at this
   exact this
  ·have := one_21 op a b n h l l.length rfl pl pb pe cl nb cb ne ce ot B w hB hl o nm tk lv fx hc0 hk
   rw [ok_21 op a b n h l ot nb ne ha hb hli] at this
   exact this
  ·have := one_22 op a b n h l l.length rfl pl pb pe cl nb cb ne ce ot B w hB hl o nm tk lv fx hc0 hk
   rw [ok_22 op a b n h l ot nb ne ha hb hli] at this
   exact this
  ·have := one_23 op a b n h l l.length rfl pl pb pe cl nb cb ne ce ot B w hB hl o nm tk lv fx hc0 hk
   rw [ok_23 op a b n h l ot nb ne ha hb hli] at this
   exact this
  ·have := one_24 op a b n h l l.length rfl pl pb pe cl nb cb ne ce ot B w hB hl o nm tk lv fx hc0 hk
   rw [ok_24 op a b n h l ot nb ne ha hb hli] at this
   exact this
  ·have := one_25 op a b n h l l.length rfl pl pb pe cl nb cb ne ce ot B w hB hl o nm tk lv fx hc0 hk
   rw [ok_25 op a b n h l ot nb ne ha hb hli] at this
   exact this
  ·have := one_26 op a b n h l l.length rfl pl pb pe cl nb cb ne ce ot B w hB hl o nm tk lv fx hc0 hk
   rw [ok_26 op a b n h l ot nb ne ha hb hli] at this
   exact this
end Go.Proofs.YtjgeedgphcjhoaaGreat
namespace Go.Proofs.YtjgeedgphcjhoaaGreat
open Go.RowKit
/-- How many more instructions there may be, behind these. -/
def wg : Fo → Int → Int → Int
 | .nil,_,left => left
 | .cons _ _ _ _ _ l _ body els rest,d,left =>
  if 0 ≤ left then
   wg rest d (if 1000 < l.length then -1 else (if 0 ≤ (if 600 < d + 1 then -1 else wg body (d + 1) (left - 1)) then (if 600 < d + 1 then -1 else wg els (d + 1) (if 600 < d + 1 then -1 else wg body (d + 1) (left - 1))) else (if 600 < d + 1 then -1 else wg body (d + 1) (left - 1))))
  else left
def wgT (f : Fo) (d left : Int) : Int := if 600 < d then -1 else wg f d left
theorem wg_cons (op a b : Int) (n h : Nat) (l : List Int) (ot : Bool) (body els rest : Fo) (d left : Int) (h0 : 0 ≤ left) (A : Int) (hA : wgT body (d + 1) (left - 1) = A) (E : Int) (hE : wgT els (d + 1) A = E) :
  wg (.cons op a b n h l ot body els rest) d left = wg rest d (if 1000 < l.length then -1 else if 0 ≤ A then E else A) := by
 unfold wgT at hA hE
 rw [wg,if_pos h0,hA,hE]
theorem wg_neg : ∀ (f : Fo) (d left : Int),left < 0 → wg f d left = left
 | .nil,_,_,_ => rfl
 | .cons _ _ _ _ _ _ _ _ _ _,d,left,h => by rw [wg,if_neg (by omega)]
theorem wg_bound : ∀ (f : Fo) (d left : Int),-1 ≤ left → -1 ≤ wg f d left ∧ wg f d left ≤ left ∧ (0 ≤ wg f d left → (f.cnt : Int) ≤ left - wg f d left)
 | .nil,_,left,h => ⟨h,Int.le_refl _,fun _ => by simp [wg,Fo.cnt]⟩
 | .cons op a b n hh l ot body els rest,d,left,h => by
  by_cases h0 : 0 ≤ left
  ·have b1 := wg_bound body (d + 1) (left - 1) (by omega)
   have hA : ∃ A,wgT body (d + 1) (left - 1) = A ∧ -1 ≤ A ∧ A ≤ left - 1 ∧ (0 ≤ A → (body.cnt : Int) ≤ left - 1 - A) := by
    unfold wgT
    split
    ·exact ⟨-1,rfl,by omega,by omega,by omega⟩
    ·exact ⟨_,rfl,b1⟩
   obtain ⟨A,hA,a1,a2,a3⟩ := hA
   have b2 := wg_bound els (d + 1) A a1
   have hE : ∃ E,wgT els (d + 1) A = E ∧ -1 ≤ E ∧ E ≤ A ∧ (0 ≤ E → (els.cnt : Int) ≤ A - E) := by
    unfold wgT
    split
    ·exact ⟨-1,rfl,by omega,by omega,by omega⟩
    ·exact ⟨_,rfl,b2⟩
   obtain ⟨E,hE,e1,e2,e3⟩ := hE
   rw [wg_cons op a b n hh l ot body els rest d left h0 A hA E hE]
   obtain ⟨C,hC⟩ : ∃ C,C = (if 1000 < l.length then -1 else if 0 ≤ A then E else A) := ⟨_,rfl⟩
   have hc : -1 ≤ C ∧ C ≤ left - 1 ∧ (0 ≤ C → (body.cnt : Int) + els.cnt ≤ left - 1 - C) := by
    rw [hC]
    split
    ·omega
    ·split
     ·refine ⟨by omega,by omega,fun hc => ?_⟩
      have := a3 (by omega)
      have := e3 hc
      omega
     ·omega
   rw [← hC]
   have b3 := wg_bound rest d C hc.1
   refine ⟨b3.1,by omega,fun hr => ?_⟩
   have := b3.2.2 hr
   have := hc.2.2 (by omega)
   simp only [Fo.cnt]
   omega
  ·rw [wg_neg _ _ _ (by omega)]
   exact ⟨h,Int.le_refl _,fun hr => absurd hr h0⟩
theorem wgT_bound (f : Fo) (d left : Int) (h : -1 ≤ left) : -1 ≤ wgT f d left ∧ (wgT f d left ≤ left ∨ wgT f d left = -1) := by
 unfold wgT
 split
 ·exact ⟨by omega,.inr rfl⟩
 ·have := wg_bound f d left h
  exact ⟨this.1,.inl this.2.1⟩
set_option maxHeartbeats 8000000 in
theorem weigh_says (B : Nat) (w : World) (hB : B ≤ w.heap.size) : ∀ (N : Nat) (f : Fo),f.cnt < N → Lens f → f.len < 9223372036854775807 → ∀ (d left : Int) (v : Value),0 ≤ d → d ≤ 601 → -1 ≤ left → left ≤ 3000 → SA B w v f →
  Calls Tryz.prog 59 #[v,.int .i64 d,.int .i64 left] w fun e w' => e = .returned (.int .i64 (wgT f d left)) ∧ w = w' := by
 intro N
 induction N with
 | zero => intro f h; omega
 | succ N ih =>
  intro f hf hL hlen d left v hd hd1 hl0 hl1 hs
  by_cases h600 : 600 < d
  ·have dd : decide (600 < d) = true := by simpa using h600
   have hr : wgT f d left = -1 := by unfold wgT; rw [if_pos h600]
   rw [hr]
   clear hr h600 hs ih
   go_enter Tryz.func59,Tryz.ntmps59
   go_wp2
   go_ret
   exact ⟨rfl,rfl⟩
  ·have dd : decide (600 < d) = false := by simpa using h600
   have hr : wgT f d left = wg f d left := by unfold wgT; rw [if_neg h600]
   rw [hr]
   obtain ⟨p,c,g0,o0,rfl,hp,hfa⟩ := hs
   obtain ⟨R,hR⟩ : ∃ R,R = wg f d left := ⟨_,rfl⟩
   rw [← hR]
   obtain ⟨m,hm⟩ : ∃ m,m = f.len := ⟨_,rfl⟩
   rw [← hm] at hp hlen ⊢
   have HIH := hid ih
   have HP := hid hp
   have HS : Hid (0 + f.len = m ∧ f.cnt < N + 1 ∧ FA B w f g0 (o0 + 0 * 9) ∧ R = wg f d left ∧ Lens f) := ⟨by rw [hm]; omega,hf,by simpa using hfa,hR,hL⟩
   have hm62 : (m : Int) < 9223372036854775807 := by omega
   have hdw : wrap64 (d + 1) = d + 1 := by unfold wrap64; omega
   have HD := hid hd
   have HD1 := hid (show d ≤ 600 by omega)
   have HLL := hid (And.intro hl0 hl1)
   clear ih hp hR hm hfa hf hL hr h600 hlen hd hd1 hl0 hl1
   go_enter Tryz.func59,Tryz.ntmps59
   go_wp2
   go_loop [2,7] (fun vl vi => ∃ (i : Nat) (fi : Fo) (li : Int),i ≤ m ∧ vi = .int .i64 i ∧ vl = .int .i64 li ∧ Hid (-1 ≤ li ∧ li ≤ 3000) ∧ Hid (i + fi.len = m ∧ fi.cnt < N + 1 ∧ FA B w fi g0 (o0 + i * 9) ∧ R = wg fi d li ∧ Lens fi)) (fun _ vi => m - (intOf vi).toNat)
   case atStart => exact ⟨0,f,left,Nat.zero_le _,rfl,rfl,HLL,HS⟩
   case round =>
    obtain ⟨i,fi,li,him,rfl,rfl,HLI,HI⟩ := hrel
    by_cases hli : 0 ≤ li
    ·have dl : decide (0 ≤ li) = true := by simpa using hli
     cases fi with
     | nil =>
      have hi : i = m := HI.out.1
      subst hi
      have HE : Hid (R = li) := HI.out.2.2.2.1
      go_wp2
      go_ret
      exact ⟨by rw [HE.out]; rfl,rfl⟩
     | cons op a b n h l ot body els rest =>
      obtain ⟨hg,⟨vl,vb,ve,x0,x1,x2,x3,x4,x5,x6,x7,x8,hl,hbo,hel⟩,hrest⟩ := HI.out.2.2.1
      obtain ⟨pl,cl,evl,_⟩ := id hl
      obtain ⟨nl,hnl⟩ : ∃ x,x = l.length := ⟨_,rfl⟩
      rw [← hnl] at evl
      subst evl
      have hlt : i < m := by have := HI.out.1; simp only [Fo.len] at this; omega
      obtain rfl := HP.out (by omega)
      obtain ⟨q1,q2,q3,q4,q5⟩ := HI.out.2.2.2.2
      have hcn := HI.out.2.1
      simp only [Fo.cnt] at hcn
      obtain ⟨A,hA⟩ : ∃ A,wgT body (d + 1) (li - 1) = A := ⟨_,rfl⟩
      obtain ⟨E,hE⟩ : ∃ E,wgT els (d + 1) A = E := ⟨_,rfl⟩
      have hev := HI.out.2.2.2.1
      rw [wg_cons op a b n h l ot body els rest d li hli A hA E hE,← hnl] at hev
      have bA := wgT_bound body (d + 1) (li - 1) (by omega)
      rw [hA] at bA
      have hA3 : A ≤ 3000 := by have := HLI.out.2; omega
      have bE := wgT_bound els (d + 1) A bA.1
      rw [hE] at bE
      have hE3 : E ≤ 3000 := by omega
      have hsw : wrap64 (li - 1) = li - 1 := by unfold wrap64; have := HLI.out.2; omega
      have KB := hid (HIH.out body (by omega) q3 q1 (d + 1) (li - 1) vb (by have := HD.out; omega) (by have := HD1.out; omega) (by omega) (by have := HLI.out.2; omega) hbo)
      have KE := hid (HIH.out els (by omega) q4 q2 (d + 1) A ve (by have := HD.out; omega) (by have := HD1.out; omega) bA.1 hA3 hel)
      rw [hA] at KB
      rw [hE] at KE
      have HEV := hid hev
      have HLE := hid (show i + 1 + rest.len = m ∧ rest.cnt < N + 1 by have h1 := HI.out.1; simp only [Fo.len] at h1; omega)
      have HRS := hid (show FA B w rest g0 (o0 + (i + 1) * 9) by (have h9 : o0 + (i + 1) * 9 = o0 + i * 9 + 9 := by omega); rw [h9]; exact hrest)
      have HLR := hid q5
      have HBA := hid (And.intro bA.1 hA3)
      have HBE := hid (And.intro bE.1 hE3)
      clear hl hbo hel hrest HI hg hcn hA hE hev bA bE hA3 hE3 q1 q2 q3 q4 q5 hnl x0 x1 x2 x3 x4 x8
      rcases (show (0 ≤ A ∨ A < 0) ∧ (1000 < nl ∨ ¬ 1000 < nl) by omega) with ⟨ha | ha,hn | hn⟩
      ·have da : decide (0 ≤ A) = true := by simp; omega
       have dn : decide (1000 < (nl : Int)) = true := by simp; omega
       have HF : Hid (R = wg rest d (-1)) := by
        have := HEV.out
        rw [if_pos hn] at this
        exact this
       clear ha hn HEV
       go_wp2_with (first | (go_at_call 59; (with_reducible refine KB.out.mono ?_); rintro e w2 ⟨rfl,rfl⟩) | (go_at_call 59; (with_reducible refine KE.out.mono ?_); rintro e w3 ⟨rfl,rfl⟩))
       go_round
       case rel => exact ⟨i + 1,rest,(-1),hlt,by go_num,rfl,⟨by omega,by omega⟩,HLE.out.1,HLE.out.2,HRS.out,HF.out,HLR.out⟩
       case measure => simp [intOf]; omega
      ·have da : decide (0 ≤ A) = true := by simp; omega
       have dn : decide (1000 < (nl : Int)) = false := by simp; omega
       have HF : Hid (R = wg rest d E) := by
        have := HEV.out
        rw [if_neg hn,if_pos ha] at this
        exact this
       clear ha hn HEV
       go_wp2_with (first | (go_at_call 59; (with_reducible refine KB.out.mono ?_); rintro e w2 ⟨rfl,rfl⟩) | (go_at_call 59; (with_reducible refine KE.out.mono ?_); rintro e w3 ⟨rfl,rfl⟩))
       go_round
       case rel => exact ⟨i + 1,rest,E,hlt,by go_num,rfl,HBE,HLE.out.1,HLE.out.2,HRS.out,HF.out,HLR.out⟩
       case measure => simp [intOf]; omega
      ·have da : decide (0 ≤ A) = false := by simp; omega
       have dn : decide (1000 < (nl : Int)) = true := by simp; omega
       have HF : Hid (R = wg rest d (-1)) := by
        have := HEV.out
        rw [if_pos hn] at this
        exact this
       clear ha hn HEV
       go_wp2_with (go_at_call 59; (with_reducible refine KB.out.mono ?_); rintro e w2 ⟨rfl,rfl⟩)
       go_round
       case rel => exact ⟨i + 1,rest,(-1),hlt,by go_num,rfl,⟨by omega,by omega⟩,HLE.out.1,HLE.out.2,HRS.out,HF.out,HLR.out⟩
       case measure => simp [intOf]; omega
      ·have da : decide (0 ≤ A) = false := by simp; omega
       have dn : decide (1000 < (nl : Int)) = false := by simp; omega
       have HF : Hid (R = wg rest d A) := by
        have := HEV.out
        rw [if_neg hn,if_neg (by omega)] at this
        exact this
       clear ha hn HEV
       go_wp2_with (go_at_call 59; (with_reducible refine KB.out.mono ?_); rintro e w2 ⟨rfl,rfl⟩)
       go_round
       case rel => exact ⟨i + 1,rest,A,hlt,by go_num,rfl,HBA,HLE.out.1,HLE.out.2,HRS.out,HF.out,HLR.out⟩
       case measure => simp [intOf]; omega
    ·have dl : decide (0 ≤ li) = false := by simpa using hli
     have HE : Hid (R = li) := by rw [HI.out.2.2.2.1]; exact wg_neg _ _ _ (by omega)
     have hlt : i < m ∨ i = m := by omega
     clear hli HI
     rcases hlt with hlt | rfl
     ·go_wp2
      go_ret
      exact ⟨by rw [HE.out]; rfl,rfl⟩
     ·go_wp2
      go_ret
      exact ⟨by rw [HE.out]; rfl,rfl⟩
theorem Few_says (f : Fo) (v : Value) (w : World) (hL : Lens f) (hlen : f.len < 9223372036854775807) (hs : SA w.heap.size w v f) : Calls Tryz.prog 17 #[v] w fun e w' => e = .returned (.bool (decide (0 ≤ wg f 0 3000))) ∧ w = w' := by
 have H := hid (weigh_says w.heap.size w (Nat.le_refl _) (f.cnt + 1) f (Nat.lt_succ_self _) hL hlen 0 3000 v (by decide) (by decide) (by decide) (by decide) hs)
 rw [show wgT f 0 3000 = wg f 0 3000 from if_neg (by decide)] at H
 generalize wg f 0 3000 = r at *
 clear hL hs hlen
 go_enter Tryz.func17,Tryz.ntmps17
 go_wp2_with (go_at_call 59; (with_reducible refine H.out.mono ?_); rintro e w2 ⟨rfl,rfl⟩)
 go_ret
 exact ⟨rfl,rfl⟩
theorem few_cnt (f : Fo) (h : 0 ≤ wg f 0 3000) : f.cnt ≤ 3000 := by
 have := (wg_bound f 0 3000 (by decide)).2.2 h
 omega
end Go.Proofs.YtjgeedgphcjhoaaGreat
