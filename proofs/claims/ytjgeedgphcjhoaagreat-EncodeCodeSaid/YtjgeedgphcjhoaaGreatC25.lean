/-
  OneS: merged, what the law does not reach left out (each text says what it holds where it lies in wip). No condition.
-/
import Derived.Test.YtjgeedgphcjhoaaGreatC12
import Derived.Test.YtjgeedgphcjhoaaGreatC13
import Derived.Test.YtjgeedgphcjhoaaGreatC14
import Derived.Test.YtjgeedgphcjhoaaGreatC15
import Derived.Test.YtjgeedgphcjhoaaGreatC16
import Derived.Test.YtjgeedgphcjhoaaGreatC17
import Derived.Test.YtjgeedgphcjhoaaGreatC18
import Derived.Test.YtjgeedgphcjhoaaGreatC19
import Derived.Test.YtjgeedgphcjhoaaGreatC24
set_option linter.unusedSimpArgs false
set_option linter.unusedVariables false
set_option maxRecDepth 100000
namespace Go.Proofs.YtjgeedgphcjhoaaGreat
open Go.RowKit
theorem agree_any (op : Int) : agree op = true := by
 by_cases h : op ∈ rangeOps
 ·exact List.all_eq_true.1 agree_all op h
 ·have e1 := lineL_out op h
  have e2 : ofL op = rw0 := by unfold ofL; rw [text_out op h]; rfl
  unfold agree
  rw [e1,e2]
  simp only [rw0]
  rw [Bool.and_eq_true]
  refine ⟨by kernel_rfl,rfl⟩
theorem agree_two (op : Int) {o : Int} {nm : List UInt8} {im : Int} {tk lv : List UInt8} {fx : Bool} (h : ofL op = (o,nm,im,tk,lv,fx)) : knB (lineL op) = decide (0 ≤ o) ∧ (lineL op).2.1 = im := by
 have := agree_any op
 unfold agree at this
 rw [h] at this
 simp only [Bool.and_eq_true,decide_eq_true_eq,beq_iff_eq,Bool.or_eq_true] at this
 obtain ⟨⟨⟨⟨⟨⟨⟨⟨h1,h2⟩,h3⟩,h4⟩,h5⟩,h6⟩,h7⟩,h8⟩,h9⟩ := this
 exact ⟨h1,h3⟩
/-- An integer of the machine. -/
def i64B (a : Int) : Prop := -9223372036854775808 ≤ a ∧ a < 9223372036854775808
theorem all_idx : ∀ (l : List Int),(∀ x ∈ l,i64B x) → l.all idxB = l.all (inR 4294967296)
 | [],_ => rfl
 | x :: l,h => by
  rw [List.all_cons,List.all_cons,all_idx l fun y hy => h y (List.mem_cons_of_mem _ hy),idx_eq x (h x (List.mem_cons_self ..)).1 (h x (List.mem_cons_self ..)).2]
  rfl
theorem all_byte (l : List Int) : l.all byteB = l.all (inR 256) := by rw [show byteB = inR 256 from funext byte_eq]
theorem one_byte (l : List Int) : (((l.length : Int) == 1) && byteB (l.headD 0)) = (((l.length : Int) == 1) && l.all (inR 256)) := by
 match l with
 | [] => rfl
 | [x] => simp [byte_eq]
 | x :: y :: l =>
  have : (((x :: y :: l).length : Int) == 1) = false := by simp; omega
  rw [this]; rfl
theorem n32_eq (n : Nat) : decide ((n : Int) ≤ 4294967295) = decide ((n : Int) < 4294967296) := decide_eq_decide.2 (by omega)
theorem ok_0 (op a b : Int) (n h : Nat) (l : List Int) (ot : Bool) (nb ne : Nat) (ha : i64B a) (hb : i64B b) (hl : ∀ x ∈ l,i64B x) : (!(decide (0 < nb) || decide (0 < ne) || ot) && (((l.length : Int) == 0) && (a == 0) && (b == 0) && ((n : Int) == 0) && ((h : Int) == 0))) = okB 0 op a b n h l ot nb ne := by
 rw [Bool.eq_iff_iff]
 have e1 := idx_eq a ha.1 ha.2
 have e2 := idx_eq b hb.1 hb.2
 have e3 := byte_eq a
 have e4 := all_idx l hl
 have e5 := all_byte l
 have e6 := one_byte l
 have e7 := n32_eq n
 simp [okB,unB,e1,e2,e3,e4,e5,e7,inR]
 grind
theorem ok_1 (op a b : Int) (n h : Nat) (l : List Int) (ot : Bool) (nb ne : Nat) (ha : i64B a) (hb : i64B b) (hl : ∀ x ∈ l,i64B x) : (((l.length : Int) == 0) && (((a == 0) && (b == 0)) || ((a == 1) && valB b) || ((a == 2) && idxR b)) && ((op == 4) || !ot) && (ot || ((ne : Int) == 0)) && ((n : Int) == 0) && ((h : Int) == 0)) = okB 1 op a b n h l ot nb ne := by
 rw [Bool.eq_iff_iff]
 have e1 := idx_eq a ha.1 ha.2
 have e2 := idx_eq b hb.1 hb.2
 have e3 := byte_eq a
 have e4 := all_idx l hl
 have e5 := all_byte l
 have e6 := one_byte l
 have e7 := n32_eq n
 simp [okB,unB,e1,e2,e3,e4,e5,e7,inR,blB]
 grind
theorem ok_2 (op a b : Int) (n h : Nat) (l : List Int) (ot : Bool) (nb ne : Nat) (ha : i64B a) (hb : i64B b) (hl : ∀ x ∈ l,i64B x) : (!(decide (0 < nb) || decide (0 < ne) || ot) && (idxR a && ((l.length : Int) == 0) && (b == 0) && ((n : Int) == 0) && ((h : Int) == 0))) = okB 2 op a b n h l ot nb ne := by
 rw [Bool.eq_iff_iff]
 have e1 := idx_eq a ha.1 ha.2
 have e2 := idx_eq b hb.1 hb.2
 have e3 := byte_eq a
 have e4 := all_idx l hl
 have e5 := all_byte l
 have e6 := one_byte l
 have e7 := n32_eq n
 simp [okB,unB,e1,e2,e3,e4,e5,e7,inR]
 grind
theorem ok_3 (op a b : Int) (n h : Nat) (l : List Int) (ot : Bool) (nb ne : Nat) (ha : i64B a) (hb : i64B b) (hl : ∀ x ∈ l,i64B x) : (!(decide (0 < nb) || decide (0 < ne) || ot) && (idxR a && l.all (inR 4294967296) && (b == 0) && ((n : Int) == 0) && ((h : Int) == 0))) = okB 3 op a b n h l ot nb ne := by
 rw [Bool.eq_iff_iff]
 have e1 := idx_eq a ha.1 ha.2
 have e2 := idx_eq b hb.1 hb.2
 have e3 := byte_eq a
 have e4 := all_idx l hl
 have e5 := all_byte l
 have e6 := one_byte l
 have e7 := n32_eq n
 simp [okB,unB,e1,e2,e3,e4,e5,e7,inR]
 grind
theorem ok_4 (op a b : Int) (n h : Nat) (l : List Int) (ot : Bool) (nb ne : Nat) (ha : i64B a) (hb : i64B b) (hl : ∀ x ∈ l,i64B x) : (!(decide (0 < nb) || decide (0 < ne) || ot) && (idxR a && ((l.length : Int) == 0) && (b == 0) && ((n : Int) == 0) && ((h : Int) == 0))) = okB 4 op a b n h l ot nb ne := by
 rw [Bool.eq_iff_iff]
 have e1 := idx_eq a ha.1 ha.2
 have e2 := idx_eq b hb.1 hb.2
 have e3 := byte_eq a
 have e4 := all_idx l hl
 have e5 := all_byte l
 have e6 := one_byte l
 have e7 := n32_eq n
 simp [okB,unB,e1,e2,e3,e4,e5,e7,inR]
 grind
theorem ok_5 (op a b : Int) (n h : Nat) (l : List Int) (ot : Bool) (nb ne : Nat) (ha : i64B a) (hb : i64B b) (hl : ∀ x ∈ l,i64B x) : (!(decide (0 < nb) || decide (0 < ne) || ot) && (idxR a && idxR b && ((l.length : Int) == 0) && ((n : Int) == 0) && ((h : Int) == 0))) = okB 5 op a b n h l ot nb ne := by
 rw [Bool.eq_iff_iff]
 have e1 := idx_eq a ha.1 ha.2
 have e2 := idx_eq b hb.1 hb.2
 have e3 := byte_eq a
 have e4 := all_idx l hl
 have e5 := all_byte l
 have e6 := one_byte l
 have e7 := n32_eq n
 simp [okB,unB,e1,e2,e3,e4,e5,e7,inR]
 grind
theorem ok_6 (op a b : Int) (n h : Nat) (l : List Int) (ot : Bool) (nb ne : Nat) (ha : i64B a) (hb : i64B b) (hl : ∀ x ∈ l,i64B x) : (!(decide (0 < nb) || decide (0 < ne) || ot) && (l.all valB && (a == 0) && (b == 0) && ((n : Int) == 0) && ((h : Int) == 0))) = okB 6 op a b n h l ot nb ne := by
 rw [Bool.eq_iff_iff]
 have e1 := idx_eq a ha.1 ha.2
 have e2 := idx_eq b hb.1 hb.2
 have e3 := byte_eq a
 have e4 := all_idx l hl
 have e5 := all_byte l
 have e6 := one_byte l
 have e7 := n32_eq n
 simp [okB,unB,e1,e2,e3,e4,e5,e7,inR]
 grind
theorem ok_7 (op a b : Int) (n h : Nat) (l : List Int) (ot : Bool) (nb ne : Nat) (ha : i64B a) (hb : i64B b) (hl : ∀ x ∈ l,i64B x) : (!(decide (0 < nb) || decide (0 < ne) || ot) && (idxR a && ((l.length : Int) == 0) && (b == 0) && ((n : Int) == 0) && ((h : Int) == 0))) = okB 7 op a b n h l ot nb ne := by
 rw [Bool.eq_iff_iff]
 have e1 := idx_eq a ha.1 ha.2
 have e2 := idx_eq b hb.1 hb.2
 have e3 := byte_eq a
 have e4 := all_idx l hl
 have e5 := all_byte l
 have e6 := one_byte l
 have e7 := n32_eq n
 simp [okB,unB,e1,e2,e3,e4,e5,e7,inR]
 grind
theorem ok_8 (op a b : Int) (n h : Nat) (l : List Int) (ot : Bool) (nb ne : Nat) (ha : i64B a) (hb : i64B b) (hl : ∀ x ∈ l,i64B x) : (!(decide (0 < nb) || decide (0 < ne) || ot) && (idxR a && ((l.length : Int) == 0) && (b == 0) && ((n : Int) == 0) && ((h : Int) == 0))) = okB 8 op a b n h l ot nb ne := by
 rw [Bool.eq_iff_iff]
 have e1 := idx_eq a ha.1 ha.2
 have e2 := idx_eq b hb.1 hb.2
 have e3 := byte_eq a
 have e4 := all_idx l hl
 have e5 := all_byte l
 have e6 := one_byte l
 have e7 := n32_eq n
 simp [okB,unB,e1,e2,e3,e4,e5,e7,inR]
 grind
theorem ok_9 (op a b : Int) (n h : Nat) (l : List Int) (ot : Bool) (nb ne : Nat) (ha : i64B a) (hb : i64B b) (hl : ∀ x ∈ l,i64B x) : (!(decide (0 < nb) || decide (0 < ne) || ot) && (idxR a && ((l.length : Int) == 0) && (b == 0) && ((n : Int) == 0) && ((h : Int) == 0))) = okB 9 op a b n h l ot nb ne := by
 rw [Bool.eq_iff_iff]
 have e1 := idx_eq a ha.1 ha.2
 have e2 := idx_eq b hb.1 hb.2
 have e3 := byte_eq a
 have e4 := all_idx l hl
 have e5 := all_byte l
 have e6 := one_byte l
 have e7 := n32_eq n
 simp [okB,unB,e1,e2,e3,e4,e5,e7,inR]
 grind
theorem ok_10 (op a b : Int) (n h : Nat) (l : List Int) (ot : Bool) (nb ne : Nat) (ha : i64B a) (hb : i64B b) (hl : ∀ x ∈ l,i64B x) : (!(decide (0 < nb) || decide (0 < ne) || ot) && (idxR a && idxR b && ((l.length : Int) == 0) && ((n : Int) == 0) && ((h : Int) == 0))) = okB 10 op a b n h l ot nb ne := by
 rw [Bool.eq_iff_iff]
 have e1 := idx_eq a ha.1 ha.2
 have e2 := idx_eq b hb.1 hb.2
 have e3 := byte_eq a
 have e4 := all_idx l hl
 have e5 := all_byte l
 have e6 := one_byte l
 have e7 := n32_eq n
 simp [okB,unB,e1,e2,e3,e4,e5,e7,inR]
 grind
theorem ok_11 (op a b : Int) (n h : Nat) (l : List Int) (ot : Bool) (nb ne : Nat) (ha : i64B a) (hb : i64B b) (hl : ∀ x ∈ l,i64B x) : (!(decide (0 < nb) || decide (0 < ne) || ot) && (((l.length : Int) == 0) && (a == 0) && (b == 0) && ((n : Int) == 0) && ((h : Int) == 0))) = okB 11 op a b n h l ot nb ne := by
 rw [Bool.eq_iff_iff]
 have e1 := idx_eq a ha.1 ha.2
 have e2 := idx_eq b hb.1 hb.2
 have e3 := byte_eq a
 have e4 := all_idx l hl
 have e5 := all_byte l
 have e6 := one_byte l
 have e7 := n32_eq n
 simp [okB,unB,e1,e2,e3,e4,e5,e7,inR]
 grind
theorem ok_12 (op a b : Int) (n h : Nat) (l : List Int) (ot : Bool) (nb ne : Nat) (ha : i64B a) (hb : i64B b) (hl : ∀ x ∈ l,i64B x) : (!(decide (0 < nb) || decide (0 < ne) || ot) && (decide ((n : Int) < 4294967296) && ((l.length : Int) == 0) && (a == 0) && (b == 0) && ((h : Int) == 0))) = okB 12 op a b n h l ot nb ne := by
 rw [Bool.eq_iff_iff]
 have e1 := idx_eq a ha.1 ha.2
 have e2 := idx_eq b hb.1 hb.2
 have e3 := byte_eq a
 have e4 := all_idx l hl
 have e5 := all_byte l
 have e6 := one_byte l
 have e7 := n32_eq n
 simp [okB,unB,e1,e2,e3,e4,e5,e7,inR]
 grind
theorem ok_13 (op a b : Int) (n h : Nat) (l : List Int) (ot : Bool) (nb ne : Nat) (ha : i64B a) (hb : i64B b) (hl : ∀ x ∈ l,i64B x) : (!(decide (0 < nb) || decide (0 < ne) || ot) && (((l.length : Int) == 0) && (a == 0) && (b == 0) && ((h : Int) == 0))) = okB 13 op a b n h l ot nb ne := by
 rw [Bool.eq_iff_iff]
 have e1 := idx_eq a ha.1 ha.2
 have e2 := idx_eq b hb.1 hb.2
 have e3 := byte_eq a
 have e4 := all_idx l hl
 have e5 := all_byte l
 have e6 := one_byte l
 have e7 := n32_eq n
 simp [okB,unB,e1,e2,e3,e4,e5,e7,inR]
 grind
theorem ok_14 (op a b : Int) (n h : Nat) (l : List Int) (ot : Bool) (nb ne : Nat) (ha : i64B a) (hb : i64B b) (hl : ∀ x ∈ l,i64B x) : (!(decide (0 < nb) || decide (0 < ne) || ot) && (decide ((n : Int) < 4294967296) && ((l.length : Int) == 0) && (a == 0) && (b == 0) && ((h : Int) == 0))) = okB 14 op a b n h l ot nb ne := by
 rw [Bool.eq_iff_iff]
 have e1 := idx_eq a ha.1 ha.2
 have e2 := idx_eq b hb.1 hb.2
 have e3 := byte_eq a
 have e4 := all_idx l hl
 have e5 := all_byte l
 have e6 := one_byte l
 have e7 := n32_eq n
 simp [okB,unB,e1,e2,e3,e4,e5,e7,inR]
 grind
theorem ok_15 (op a b : Int) (n h : Nat) (l : List Int) (ot : Bool) (nb ne : Nat) (ha : i64B a) (hb : i64B b) (hl : ∀ x ∈ l,i64B x) : (!(decide (0 < nb) || decide (0 < ne) || ot) && (((l.length : Int) == 0) && (a == 0) && (b == 0) && ((h : Int) == 0))) = okB 15 op a b n h l ot nb ne := by
 rw [Bool.eq_iff_iff]
 have e1 := idx_eq a ha.1 ha.2
 have e2 := idx_eq b hb.1 hb.2
 have e3 := byte_eq a
 have e4 := all_idx l hl
 have e5 := all_byte l
 have e6 := one_byte l
 have e7 := n32_eq n
 simp [okB,unB,e1,e2,e3,e4,e5,e7,inR]
 grind
theorem ok_16 (op a b : Int) (n h : Nat) (l : List Int) (ot : Bool) (nb ne : Nat) (ha : i64B a) (hb : i64B b) (hl : ∀ x ∈ l,i64B x) : (!(decide (0 < nb) || decide (0 < ne) || ot) && (refB a && ((l.length : Int) == 0) && (b == 0) && ((n : Int) == 0) && ((h : Int) == 0))) = okB 16 op a b n h l ot nb ne := by
 rw [Bool.eq_iff_iff]
 have e1 := idx_eq a ha.1 ha.2
 have e2 := idx_eq b hb.1 hb.2
 have e3 := byte_eq a
 have e4 := all_idx l hl
 have e5 := all_byte l
 have e6 := one_byte l
 have e7 := n32_eq n
 simp [okB,unB,e1,e2,e3,e4,e5,e7,inR]
 grind
theorem ok_17 (op a b : Int) (n h : Nat) (l : List Int) (ot : Bool) (nb ne : Nat) (ha : i64B a) (hb : i64B b) (hl : ∀ x ∈ l,i64B x) : (!(decide (0 < nb) || decide (0 < ne) || ot) && (idxR a && ((l.length : Int) == 0) && (b == 0) && ((n : Int) == 0) && ((h : Int) == 0))) = okB 17 op a b n h l ot nb ne := by
 rw [Bool.eq_iff_iff]
 have e1 := idx_eq a ha.1 ha.2
 have e2 := idx_eq b hb.1 hb.2
 have e3 := byte_eq a
 have e4 := all_idx l hl
 have e5 := all_byte l
 have e6 := one_byte l
 have e7 := n32_eq n
 simp [okB,unB,e1,e2,e3,e4,e5,e7,inR]
 grind
theorem ok_18 (op a b : Int) (n h : Nat) (l : List Int) (ot : Bool) (nb ne : Nat) (ha : i64B a) (hb : i64B b) (hl : ∀ x ∈ l,i64B x) : (!(decide (0 < nb) || decide (0 < ne) || ot) && (idxR a && ((l.length : Int) == 0) && (b == 0) && ((n : Int) == 0) && ((h : Int) == 0))) = okB 18 op a b n h l ot nb ne := by
 rw [Bool.eq_iff_iff]
 have e1 := idx_eq a ha.1 ha.2
 have e2 := idx_eq b hb.1 hb.2
 have e3 := byte_eq a
 have e4 := all_idx l hl
 have e5 := all_byte l
 have e6 := one_byte l
 have e7 := n32_eq n
 simp [okB,unB,e1,e2,e3,e4,e5,e7,inR]
 grind
theorem ok_19 (op a b : Int) (n h : Nat) (l : List Int) (ot : Bool) (nb ne : Nat) (ha : i64B a) (hb : i64B b) (hl : ∀ x ∈ l,i64B x) : (!(decide (0 < nb) || decide (0 < ne) || ot) && (((l.length : Int) == 0) && (a == 0) && (b == 0) && ((n : Int) == 0) && ((h : Int) == 0))) = okB 19 op a b n h l ot nb ne := by
 rw [Bool.eq_iff_iff]
 have e1 := idx_eq a ha.1 ha.2
 have e2 := idx_eq b hb.1 hb.2
 have e3 := byte_eq a
 have e4 := all_idx l hl
 have e5 := all_byte l
 have e6 := one_byte l
 have e7 := n32_eq n
 simp [okB,unB,e1,e2,e3,e4,e5,e7,inR]
 grind
theorem ok_20 (op a b : Int) (n h : Nat) (l : List Int) (ot : Bool) (nb ne : Nat) (ha : i64B a) (hb : i64B b) (hl : ∀ x ∈ l,i64B x) : (!(decide (0 < nb) || decide (0 < ne) || ot) && (idxR a && idxR b && ((l.length : Int) == 0) && ((n : Int) == 0) && ((h : Int) == 0))) = okB 20 op a b n h l ot nb ne := by
 rw [Bool.eq_iff_iff]
 have e1 := idx_eq a ha.1 ha.2
 have e2 := idx_eq b hb.1 hb.2
 have e3 := byte_eq a
 have e4 := all_idx l hl
 have e5 := all_byte l
 have e6 := one_byte l
 have e7 := n32_eq n
 simp [okB,unB,e1,e2,e3,e4,e5,e7,inR]
 grind
theorem ok_21 (op a b : Int) (n h : Nat) (l : List Int) (ot : Bool) (nb ne : Nat) (ha : i64B a) (hb : i64B b) (hl : ∀ x ∈ l,i64B x) : (!(decide (0 < nb) || decide (0 < ne) || ot) && (idxR a && ((l.length : Int) == 0) && (b == 0) && ((n : Int) == 0) && ((h : Int) == 0))) = okB 21 op a b n h l ot nb ne := by
 rw [Bool.eq_iff_iff]
 have e1 := idx_eq a ha.1 ha.2
 have e2 := idx_eq b hb.1 hb.2
 have e3 := byte_eq a
 have e4 := all_idx l hl
 have e5 := all_byte l
 have e6 := one_byte l
 have e7 := n32_eq n
 simp [okB,unB,e1,e2,e3,e4,e5,e7,inR]
 grind
theorem ok_22 (op a b : Int) (n h : Nat) (l : List Int) (ot : Bool) (nb ne : Nat) (ha : i64B a) (hb : i64B b) (hl : ∀ x ∈ l,i64B x) : (!(decide (0 < nb) || decide (0 < ne) || ot) && (idxR a && idxR b && ((l.length : Int) == 0) && ((n : Int) == 0) && ((h : Int) == 0))) = okB 22 op a b n h l ot nb ne := by
 rw [Bool.eq_iff_iff]
 have e1 := idx_eq a ha.1 ha.2
 have e2 := idx_eq b hb.1 hb.2
 have e3 := byte_eq a
 have e4 := all_idx l hl
 have e5 := all_byte l
 have e6 := one_byte l
 have e7 := n32_eq n
 simp [okB,unB,e1,e2,e3,e4,e5,e7,inR]
 grind
theorem ok_23 (op a b : Int) (n h : Nat) (l : List Int) (ot : Bool) (nb ne : Nat) (ha : i64B a) (hb : i64B b) (hl : ∀ x ∈ l,i64B x) : (!(decide (0 < nb) || decide (0 < ne) || ot) && (((l.length : Int) == 0) && (a == 0) && (b == 0))) = okB 23 op a b n h l ot nb ne := by
 rw [Bool.eq_iff_iff]
 have e1 := idx_eq a ha.1 ha.2
 have e2 := idx_eq b hb.1 hb.2
 have e3 := byte_eq a
 have e4 := all_idx l hl
 have e5 := all_byte l
 have e6 := one_byte l
 have e7 := n32_eq n
 simp [okB,unB,e1,e2,e3,e4,e5,e7,inR]
 grind
theorem ok_24 (op a b : Int) (n h : Nat) (l : List Int) (ot : Bool) (nb ne : Nat) (ha : i64B a) (hb : i64B b) (hl : ∀ x ∈ l,i64B x) : (!(decide (0 < nb) || decide (0 < ne) || ot) && (((l.length : Int) == 16) && l.all (inR 256) && (a == 0) && (b == 0) && ((n : Int) == 0) && ((h : Int) == 0))) = okB 24 op a b n h l ot nb ne := by
 rw [Bool.eq_iff_iff]
 have e1 := idx_eq a ha.1 ha.2
 have e2 := idx_eq b hb.1 hb.2
 have e3 := byte_eq a
 have e4 := all_idx l hl
 have e5 := all_byte l
 have e6 := one_byte l
 have e7 := n32_eq n
 simp [okB,unB,e1,e2,e3,e4,e5,e7,inR]
 grind
theorem ok_25 (op a b : Int) (n h : Nat) (l : List Int) (ot : Bool) (nb ne : Nat) (ha : i64B a) (hb : i64B b) (hl : ∀ x ∈ l,i64B x) : (!(decide (0 < nb) || decide (0 < ne) || ot) && (decide (0 ≤ a) && decide (a < 256) && ((l.length : Int) == 0) && (b == 0) && ((n : Int) == 0) && ((h : Int) == 0))) = okB 25 op a b n h l ot nb ne := by
 rw [Bool.eq_iff_iff]
 have e1 := idx_eq a ha.1 ha.2
 have e2 := idx_eq b hb.1 hb.2
 have e3 := byte_eq a
 have e4 := all_idx l hl
 have e5 := all_byte l
 have e6 := one_byte l
 have e7 := n32_eq n
 simp [okB,unB,e1,e2,e3,e4,e5,e7,inR]
 grind
theorem ok_26 (op a b : Int) (n h : Nat) (l : List Int) (ot : Bool) (nb ne : Nat) (ha : i64B a) (hb : i64B b) (hl : ∀ x ∈ l,i64B x) : (!(decide (0 < nb) || decide (0 < ne) || ot) && (idxR a && idxR b && ((l.length : Int) == 1) && l.all (inR 256) && ((n : Int) == 0) && ((h : Int) == 0))) = okB 26 op a b n h l ot nb ne := by
 have e1 := idx_eq a ha.1 ha.2
 have e2 := idx_eq b hb.1 hb.2
 have e6 := one_byte l
 have e8 : okB 26 op a b n h l ot nb ne = ((idxB a && idxB b && (((l.length : Int) == 1) && byteB (l.headD 0))) && unB 0 0 n h ot 0 nb ne) := by simp [okB,Bool.and_assoc]
 rw [e8,e1,e2,e6]
 generalize l.all (inR 256) = t
 generalize ((l.length : Int) == 1) = u
 rw [Bool.eq_iff_iff]
 simp [unB]
 grind
set_option maxHeartbeats 4000000 in
theorem one_unknown (op : Int) (a b : Int) (n h : Nat) (nl : Nat) (pl pb pe : Option Addr) (cl nb cb ne ce : Nat) (ot : Bool) (w : World)
  (c0 : Int) (v1 v3 v4 : List UInt8) (v5 : Bool) (k : Int) (hc0 : decide (c0 < 0) = true) (hk : ∀ W,Calls Tryz.prog 153 #[.int .i64 op] W fun e w' => e = .returned (.agg #[.int .i64 c0,.string (str v1),.int .i64 k,.string (str v3),.string (str v4),.bool v5]) ∧ Below W.heap.size W w') :
  Calls Tryz.prog 209 #[.agg #[.int .i64 op,.int .i64 a,.int .i64 b,.int .u64 (n : Nat),.int .u64 (h : Nat),.slice pl nl cl,.slice pb nb cb,.slice pe ne ce,.bool ot]] w fun e w' => e = .returned (.bool false) ∧ Below w.heap.size w w' := by
 have HK := fun W => hid (hk W)
 have HBX := hid ((Below.refl w.heap.size w).alloc (Nat.le_refl _) (.cells #[.int .i64 op,.int .i64 a,.int .i64 b,.int .u64 (n : Nat),.int .u64 (h : Nat),.slice pl nl cl,.slice pb nb cb,.slice pe ne ce,.bool ot] 39))
 clear hk
 go_enter Tryz.func209,Tryz.ntmps209
 go_upto_region 2 with (go_at_call 153; (with_reducible refine (HK _).out.mono ?_); rintro e w1 ⟨rfl,hb1⟩; have HB1 := hid (HBX.out.trans (hb1.mono HBX.out.size)); clear hb1)
 have HR2 := hid (CA.new w1 #[.int .i64 c0,.string (str v1),.int .i64 k,.string (str v3),.string (str v4),.bool v5] 172)
 have HB2 := hid (HB1.out.alloc HB1.out.size (.cells #[.int .i64 c0,.string (str v1),.int .i64 k,.string (str v3),.string (str v4),.bool v5] 172))
 generalize w1.alloc (.cells #[.int .i64 c0,.string (str v1),.int .i64 k,.string (str v3),.string (str v4),.bool v5] 172) = W2 at *
 have r0 := HR2.out.at (k := 0) (v := .int .i64 c0) rfl
 go_wp2
 go_ret
 exact ⟨rfl,HB2.out⟩
theorem One_says (op a b : Int) (n h : Nat) (l : List Int) (nl : Nat) (hnl : nl = l.length) (pl pb pe : Option Addr) (cl nb cb ne ce : Nat) (ot : Bool) (B : Nat) (w : World) (hB : B ≤ w.heap.size) (hl : LI B w (.slice pl nl cl) l) (ha : i64B a) (hb : i64B b) (hli : ∀ x ∈ l,i64B x) :
  Calls Tryz.prog 209 #[.agg #[.int .i64 op,.int .i64 a,.int .i64 b,.int .u64 (n : Nat),.int .u64 (h : Nat),.slice pl nl cl,.slice pb nb cb,.slice pe ne ce,.bool ot]] w fun e w' => e = .returned (.bool (insB op a b n h l ot nb ne)) ∧ Below w.heap.size w w' := by
 obtain ⟨o,nm,k,tk,lv,fx,hof⟩ : ∃ o nm k tk lv fx,ofL op = (o,nm,k,tk,lv,fx) := ⟨_,_,_,_,_,_,rfl⟩
 have hk := fun W => Of_says op W
 rw [hof] at hk
 obtain ⟨g1,g2⟩ := agree_two op hof
 obtain ⟨h0,h1,_⟩ := line_ok op
 rw [g2] at h0 h1
 unfold insB
 rw [g1,g2]
 by_cases hn : o < 0
 ·rw [show decide (0 ≤ o) = false by simp; omega,Bool.false_and]
  exact one_unknown op a b n h nl pl pb pe cl nb cb ne ce ot w o nm tk lv fx k (by simp; omega) hk
 ·have hc0 : decide (o < 0) = false := by simp; omega
  rw [show decide (0 ≤ o) = true by simp; omega,Bool.true_and]
  clear g1 g2 hof hn
  subst hnl
  rcases (show k = 0 ∨ k = 1 ∨ k = 2 ∨ k = 3 ∨ k = 4 ∨ k = 5 ∨ k = 6 ∨ k = 7 ∨ k = 8 ∨ k = 9 ∨ k = 10 ∨ k = 11 ∨ k = 12 ∨ k = 13 ∨ k = 14 ∨ k = 15 ∨ k = 16 ∨ k = 17 ∨ k = 18 ∨ k = 19 ∨ k = 20 ∨ k = 21 ∨ k = 22 ∨ k = 23 ∨ k = 24 ∨ k = 25 ∨ k = 26 by omega) with rfl | rfl | rfl | rfl | rfl | rfl | rfl | rfl | rfl | rfl | rfl | rfl | rfl | rfl | rfl | rfl | rfl | rfl | rfl | rfl | rfl | rfl | rfl | rfl | rfl | rfl | rfl
  ·have := one_0 op a b n h l l.length rfl pl pb pe cl nb cb ne ce ot B w hB hl o nm tk lv fx hc0 hk
   rw [ok_0 op a b n h l ot nb ne ha hb hli] at this
   exact this
  ·have := one_1 op a b n h l l.length rfl pl pb pe cl nb cb ne ce ot B w hB hl o nm tk lv fx hc0 hk
   rw [ok_1 op a b n h l ot nb ne ha hb hli] at this
   exact this
  ·have := one_2 op a b n h l l.length rfl pl pb pe cl nb cb ne ce ot B w hB hl o nm tk lv fx hc0 hk
   rw [ok_2 op a b n h l ot nb ne ha hb hli] at this
   exact this
  ·have := one_3 op a b n h l l.length rfl pl pb pe cl nb cb ne ce ot B w hB hl o nm tk lv fx hc0 hk
   rw [ok_3 op a b n h l ot nb ne ha hb hli] at this
   exact this
  ·have := one_4 op a b n h l l.length rfl pl pb pe cl nb cb ne ce ot B w hB hl o nm tk lv fx hc0 hk
   rw [ok_4 op a b n h l ot nb ne ha hb hli] at this
   exact this
  ·have := one_5 op a b n h l l.length rfl pl pb pe cl nb cb ne ce ot B w hB hl o nm tk lv fx hc0 hk
   rw [ok_5 op a b n h l ot nb ne ha hb hli] at this
   exact this
  ·have := one_6 op a b n h l l.length rfl pl pb pe cl nb cb ne ce ot B w hB hl o nm tk lv fx hc0 hk
   rw [ok_6 op a b n h l ot nb ne ha hb hli] at this
   exact this
  ·have := one_7 op a b n h l l.length rfl pl pb pe cl nb cb ne ce ot B w hB hl o nm tk lv fx hc0 hk
   rw [ok_7 op a b n h l ot nb ne ha hb hli] at this
   exact this
  ·have := one_8 op a b n h l l.length rfl pl pb pe cl nb cb ne ce ot B w hB hl o nm tk lv fx hc0 hk
   rw [ok_8 op a b n h l ot nb ne ha hb hli] at this
   exact this
  ·have := one_9 op a b n h l l.length rfl pl pb pe cl nb cb ne ce ot B w hB hl o nm tk lv fx hc0 hk
   rw [ok_9 op a b n h l ot nb ne ha hb hli] at this
   exact this
  ·have := one_10 op a b n h l l.length rfl pl pb pe cl nb cb ne ce ot B w hB hl o nm tk lv fx hc0 hk
   rw [ok_10 op a b n h l ot nb ne ha hb hli] at this
   exact this
  ·have := one_11 op a b n h l l.length rfl pl pb pe cl nb cb ne ce ot B w hB hl o nm tk lv fx hc0 hk
   rw [ok_11 op a b n h l ot nb ne ha hb hli] at this
   exact this
  ·have := one_12 op a b n h l l.length rfl pl pb pe cl nb cb ne ce ot B w hB hl o nm tk lv fx hc0 hk
   rw [ok_12 op a b n h l ot nb ne ha hb hli] at this
   exact this
  ·have := one_13 op a b n h l l.length rfl pl pb pe cl nb cb ne ce ot B w hB hl o nm tk lv fx hc0 hk
   rw [ok_13 op a b n h l ot nb ne ha hb hli] at this
   exact this
  ·have := one_14 op a b n h l l.length rfl pl pb pe cl nb cb ne ce ot B w hB hl o nm tk lv fx hc0 hk
   rw [ok_14 op a b n h l ot nb ne ha hb hli] at this
   exact this
  ·have := one_15 op a b n h l l.length rfl pl pb pe cl nb cb ne ce ot B w hB hl o nm tk lv fx hc0 hk
   rw [ok_15 op a b n h l ot nb ne ha hb hli] at this
   exact this
  ·have := one_16 op a b n h l l.length rfl pl pb pe cl nb cb ne ce ot B w hB hl o nm tk lv fx hc0 hk
   rw [ok_16 op a b n h l ot nb ne ha hb hli] at this
   exact this
  ·have := one_17 op a b n h l l.length rfl pl pb pe cl nb cb ne ce ot B w hB hl o nm tk lv fx hc0 hk
   rw [ok_17 op a b n h l ot nb ne ha hb hli] at this
   exact this
  ·have := one_18 op a b n h l l.length rfl pl pb pe cl nb cb ne ce ot B w hB hl o nm tk lv fx hc0 hk
   rw [ok_18 op a b n h l ot nb ne ha hb hli] at this
   exact this
  ·have := one_19 op a b n h l l.length rfl pl pb pe cl nb cb ne ce ot B w hB hl o nm tk lv fx hc0 hk
   rw [ok_19 op a b n h l ot nb ne ha hb hli] at this
   exact this
  ·have := one_20 op a b n h l l.length rfl pl pb pe cl nb cb ne ce ot B w hB hl o nm tk lv fx hc0 hk
   rw [ok_20 op a b n h l ot nb ne ha hb hli] at this
   exact this
  ·have := one_21 op a b n h l l.length rfl pl pb pe cl nb cb ne ce ot B w hB hl o nm tk lv fx hc0 hk
   rw [ok_21 op a b n h l ot nb ne ha hb hli] at this
   exact this
  ·have := one_22 op a b n h l l.length rfl pl pb pe cl nb cb ne ce ot B w hB hl o nm tk lv fx hc0 hk
   rw [ok_22 op a b n h l ot nb ne ha hb hli] at this
   exact this
  ·have := one_23 op a b n h l l.length rfl pl pb pe cl nb cb ne ce ot B w hB hl o nm tk lv fx hc0 hk
   rw [ok_23 op a b n h l ot nb ne ha hb hli] at this
   exact this
  ·have := one_24 op a b n h l l.length rfl pl pb pe cl nb cb ne ce ot B w hB hl o nm tk lv fx hc0 hk
   rw [ok_24 op a b n h l ot nb ne ha hb hli] at this
   exact this
  ·have := one_25 op a b n h l l.length rfl pl pb pe cl nb cb ne ce ot B w hB hl o nm tk lv fx hc0 hk
   rw [ok_25 op a b n h l ot nb ne ha hb hli] at this
   exact this
  ·have := one_26 op a b n h l l.length rfl pl pb pe cl nb cb ne ce ot B w hB hl o nm tk lv fx hc0 hk
   rw [ok_26 op a b n h l ot nb ne ha hb hli] at this
   exact this
end Go.Proofs.YtjgeedgphcjhoaaGreat
