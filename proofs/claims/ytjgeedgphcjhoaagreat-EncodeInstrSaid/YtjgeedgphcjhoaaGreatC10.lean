/-
  RDig, Types, RTypes, ROfM, RWords: merged, what the law does not reach left out (each text says what it holds where it lies in wip). No condition.
-/
import Derived.Test.YtjgeedgphcjhoaaGreatC09
import Derived.Test.YtjgeedgphcjhoaaGreatC02
import Derived.Laws.AppendOwnNone
import Derived.RegionTactic
set_option linter.unusedSimpArgs false
set_option linter.unusedVariables false
set_option maxRecDepth 100000
namespace Go.Proofs.YtjgeedgphcjhoaaGreat
open Go.RowKit
/-- A row of the reference's table: the number, the name, what stands behind, what it takes, what it leaves, is that fixed? -/
abbrev Rw := Int × List UInt8 × Int × List UInt8 × List UInt8 × Bool
def rw0 : Rw := (-1,[],0,[],[],false)
def rwV (r : Rw) : Value := .agg #[.int .i64 r.1,.string (str r.2.1),.int .i64 r.2.2.1,.string (str r.2.2.2.1),.string (str r.2.2.2.2.1),.bool r.2.2.2.2.2]
theorem none_says (w : World) : Calls Tryz.prog 220 #[] w fun e w' => e = .returned (rwV rw0) ∧ Below w.heap.size w w' := by
 go_enter Tryz.func220,Tryz.ntmps220
 go_wp2
 exact bodyPost_ret (v := rwV rw0) (by simp [results,Tryz.results220,go_sem,rwV,rw0,str]) rfl ⟨rfl,(Below.refl _ _).alloc (Nat.le_refl _) _⟩
def digF (n : Int) (c : UInt8) : Int := n * 10 + (c.toNat : Int) - 48
def digL (l : List UInt8) : Int := l.foldl digF 0
theorem dig_succ (l : List UInt8) (n : Nat) (h : n < l.length) : digL (l.take (n + 1)) = digL (l.take n) * 10 + (l[n].toNat : Int) - 48 := by
 rw [List.take_add_one,List.getElem?_eq_getElem h]
 unfold digL
 rw [List.foldl_append]
 rfl
theorem dig_bound (l : List UInt8) : ∀ n,n ≤ l.length → -(1000 ^ n : Int) ≤ digL (l.take n) ∧ digL (l.take n) ≤ 1000 ^ n
 | 0,_ => by simp [digL]
 | n + 1,h => by
  have ih := dig_bound l n (by omega)
  have hc := (l[n]'(by omega)).toNat_lt
  rw [dig_succ l n (by omega),Int.pow_succ]
  have hp : (1 : Int) ≤ 1000 ^ n := by have := Int.pow_pos (n := 1000) (m := n) (by decide); omega
  generalize (1000 : Int) ^ n = p at ih hp ⊢
  omega
set_option maxHeartbeats 4000000 in
theorem digits_says (l : List UInt8) (hl : l.length ≤ 4) (w : World) : Calls Tryz.prog 221 #[.string (str l)] w fun e w' => e = .returned (.int .i64 (digL l)) ∧ Below w.heap.size w w' := by
 obtain ⟨s,hs⟩ : ∃ s,s = str l := ⟨_,rfl⟩
 have hsz : s.size = l.length := by rw [hs,str_size]
 rw [← hs]
 have HS := hid hs
 clear hs
 obtain ⟨L,hL⟩ : ∃ L,L = l.length := ⟨_,rfl⟩
 rw [← hL] at hsz hl
 have HL := hid hL
 clear hL
 go_enter Tryz.func221,Tryz.ntmps221
 go_wp2
 go_loopw [3,4] (fun vn vi wr => ∃ n : Nat,Hid (n ≤ L) ∧ vi = .int .i64 n ∧ vn = .int .i64 (digL (l.take n)) ∧ Hid (Below w.heap.size w wr)) (fun _ vi _ => 5 - (intOf vi).toNat)
 case atStart => exact ⟨0,Nat.zero_le _,rfl,rfl,Below.refl _ _⟩
 case round =>
  obtain ⟨n,hn,rfl,rfl,HR⟩ := hrel
  by_cases hlt : n < L
  ·have hn1 := hid (show n + 1 ≤ L by omega)
   have hnll : n < l.length := by rw [← HL.out]; exact hlt
   obtain ⟨c,hc⟩ : ∃ c,c = l[n]'hnll := ⟨_,rfl⟩
   have hget : ∀ h : n < s.size,(s[n]'h) = c := fun h => by
    have e := HS.out
    subst e
    exact (str_get l n hnll _).trans hc.symm
   have HD := hid (dig_succ l n hnll)
   rw [← hc] at HD
   have hb := dig_bound l n (Nat.le_of_lt hnll)
   obtain ⟨q,hq⟩ : ∃ q,q = digL (l.take n) := ⟨_,rfl⟩
   rw [← hq] at hb HD ⊢
   have hcl := c.toNat_lt
   have hb2 : -1000000000000 ≤ q ∧ q ≤ 1000000000000 := by
    have hn4 : n = 0 ∨ n = 1 ∨ n = 2 ∨ n = 3 := by omega
    rcases hn4 with rfl | rfl | rfl | rfl <;> simp at hb <;> omega
   have e1 : wrap64 (q * 10) = q * 10 := by unfold wrap64; omega
   have e2 : wrap64 (q * 10 + (c.toNat : Int)) = q * 10 + (c.toNat : Int) := by unfold wrap64; omega
   have e3 : wrap64 (q * 10 + (c.toNat : Int) - 48) = q * 10 + (c.toNat : Int) - 48 := by unfold wrap64; omega
   have e4 : wrap64 (c.toNat : Int) = (c.toNat : Int) := by unfold wrap64; omega
   clear hb hb2 hcl hc hq
   go_wp2
   go_roundw
   case rel => exact ⟨n + 1,hn1.out,by go_num,by rw [HD.out,e3],HR.out⟩
   case measure => (first | (simp [intOf]; done) | (simp [intOf]; omega))
  ·obtain rfl : n = L := by have := hn.out; omega
   rw [show l.take n = l by rw [HL.out,List.take_length]]
   obtain ⟨q,hq⟩ : ∃ q,q = digL l := ⟨_,rfl⟩
   rw [← hq]
   go_wp2
   go_ret
   exact ⟨by rw [← hq]; rfl,HR.out⟩
end Go.Proofs.YtjgeedgphcjhoaaGreat
namespace Go.Proofs.YtjgeedgphcjhoaaGreat
open Go.RowKit
/-- The types of a list. -/
def typesL (t : Nat) : List Int := ((glob5.drop (3 * t)).take 3).takeWhile fun z => z != 0
end Go.Proofs.YtjgeedgphcjhoaaGreat
namespace Go.Proofs.YtjgeedgphcjhoaaGreat
open Go.RowKit
def tyOf (c : UInt8) : Option Int := if c = 105 then some 127 else if c = 108 then some 126 else if c = 102 then some 125 else if c = 100 then some 124 else if c = 118 then some 123 else if c = 110 then some 112 else none
def tyL (l : List UInt8) : List Int := l.filterMap tyOf
end Go.Proofs.YtjgeedgphcjhoaaGreat
namespace Go.Proofs.YtjgeedgphcjhoaaGreat
open Go.RowKit
/-- The text of a number's row. -/
noncomputable def textOf (op : Int) : List UInt8 :=
 if 0 ≤ op ∧ op < 211 then tabOne.getD op.toNat [] else if 64512 ≤ op ∧ op < 64530 then tabTwo.getD (op - 64512).toNat [] else if 64768 ≤ op ∧ op < 65024 then tabThree.getD (op - 64768).toNat [] else []
/-- A step over a letter of what is taken and left. -/
def stepS (p : Bool × List UInt8 × List UInt8) (c : UInt8) : Bool × List UInt8 × List UInt8 :=
 match p with
 | (b,t,l) => if c = 62 then (true,t,l) else if b then (b,t,l ++ [c]) else (b,t ++ [c],l)
def sst (l : List UInt8) (n : Nat) : Bool × List UInt8 × List UInt8 := (l.take n).foldl stepS (false,[],[])
def ofText (op : Int) (t : List UInt8) : Rw :=
 match wordsL t with
 | [a,b,c] => if c = [63] then (op,a,digL b,[],[],false) else (op,a,digL b,(sst c c.length).2.1,(sst c c.length).2.2,true)
 | _ => rw0
noncomputable def ofL (op : Int) : Rw := ofText op (textOf op)
def okText (t : List UInt8) : Bool := decide (t.length ≤ 100) && (match wordsL t with | [a,b,c] => decide (b.length ≤ 4) && decide (c.length ≤ 100) | _ => true)
theorem texts_ok : (rangeOps.all fun op => okText (textOf op)) = true := by kernel_rfl
theorem text_out (op : Int) (h : ¬ op ∈ rangeOps) : textOf op = [] := by
 rw [mem_rangeOps] at h
 unfold textOf
 rw [if_neg (by omega),if_neg (by omega),if_neg (by omega)]
theorem text_ok (op : Int) : okText (textOf op) = true := by
 by_cases h : op ∈ rangeOps
 ·exact List.all_eq_true.1 texts_ok op h
 ·rw [text_out op h]; rfl
/-- The program's line and the reference's row say the same. -/
noncomputable def agree (op : Int) : Bool :=
 let r := ofL op
 let l := lineL op
 (knB l == decide (0 ≤ r.1)) && (l.1.data.toList == r.2.1) && (l.2.1 == r.2.2.1) && (fxB l == r.2.2.2.2.2) &&
 ((if fxB l then typesL l.2.2.1.toNat else []) == tyL r.2.2.2.1) && ((if fxB l then typesL l.2.2.2.toNat else []) == tyL r.2.2.2.2.1) && decide (r.2.2.2.1.length ≤ 100) && decide (r.2.2.2.2.1.length ≤ 100) &&
 (r.1 == -1 || r.1 == op)
theorem agree_all : (rangeOps.all agree) = true := by kernel_rfl
end Go.Proofs.YtjgeedgphcjhoaaGreat
namespace Go.Proofs.YtjgeedgphcjhoaaGreat
open Go.RowKit
def WordsPost (w : World) (l : List UInt8) (e : Ending) (w' : World) : Prop :=
 ∃ v,e = .returned v ∧ w'.ownsRow w.heap.size 9 1 v (wordsL l).length (sc (wordsL l)) ∧ Below w.heap.size w w'
def WRel (w : World) (l : List UInt8) (n : Nat) (vo vw : Value) (wr : World) : Prop :=
 vw = .string (str (wst l n).2) ∧ wr.ownsRow w.heap.size 9 1 vo (wst l n).1.length (sc (wst l n).1) ∧ Below w.heap.size w wr
theorem beq_str_empty (x : List UInt8) : (str x).toList.isEmpty = decide (x = []) := by rw [str_list]; cases x <;> simp
theorem rel_sp0 {w wr : World} {l : List UInt8} {n : Nat} {o : List (List UInt8)} {x : List UInt8} {vo : Value} (hp : wst l n = (o,x)) (hC : wst l (n + 1) = stepW (wst l n) 32) (hx : x = [])
  (hown : wr.ownsRow w.heap.size 9 1 vo o.length (sc o)) (hb : Below w.heap.size w wr) : WRel w l (n + 1) vo (.string ⟨#[]⟩) wr := by
 unfold WRel
 rw [hC,hp]
 subst hx
 exact ⟨rfl,hown,hb⟩
theorem rel_sp1 {w wr : World} {l : List UInt8} {n : Nat} {o : List (List UInt8)} {x : List UInt8} {vo : Value} (hp : wst l n = (o,x)) (hC : wst l (n + 1) = stepW (wst l n) 32) (hx : ¬ x = [])
  (hown : wr.ownsRow w.heap.size 9 1 vo (o.length + 1) (sc o ++ [.string (str x)])) (hb : Below w.heap.size w wr) : WRel w l (n + 1) vo (.string ⟨#[]⟩) wr := by
 unfold WRel
 rw [hC,hp]
 have e : stepW (o,x) 32 = (o ++ [x],[]) := by simp [stepW,hx]
 rw [e]
 refine ⟨rfl,?_,hb⟩
 simpa [sc] using hown
theorem rel_ch {w wr : World} {l : List UInt8} {n : Nat} {c : UInt8} {o : List (List UInt8)} {x : List UInt8} {vo : Value} (hp : wst l n = (o,x)) (hC : wst l (n + 1) = stepW (wst l n) c) (hc : ¬ c = 32)
  (hown : wr.ownsRow w.heap.size 9 1 vo o.length (sc o)) (hb : Below w.heap.size w wr) : WRel w l (n + 1) vo (.string (str (x ++ [c]))) wr := by
 unfold WRel
 rw [hC,hp]
 have e : stepW (o,x) c = (o,x ++ [c]) := by simp [stepW,hc]
 rw [e]
 exact ⟨rfl,hown,hb⟩
set_option maxHeartbeats 4000000 in
theorem words_says (l : List UInt8) (hl : l.length ≤ 100) (w : World) : Calls Tryz.prog 219 #[.string (str l)] w (WordsPost w l) := by
 obtain ⟨s,hs⟩ : ∃ s,s = str l := ⟨_,rfl⟩
 have hsz : s.size = l.length := by rw [hs,str_size]
 rw [← hs]
 have HS := hid hs
 clear hs
 obtain ⟨L,hL⟩ : ∃ L,L = l.length := ⟨_,rfl⟩
 rw [← hL] at hsz hl
 have HL := hid hL
 clear hL
 go_enter Tryz.func219,Tryz.ntmps219
 go_wp2
 go_loopw [3,4,5] (fun vo vw vi wr => ∃ n : Nat,Hid (n ≤ L + 1) ∧ vi = .int .i64 n ∧ Hid (WRel w l n vo vw wr)) (fun _ _ vi _ => 101 - (intOf vi).toNat)
 case atStart => exact ⟨0,Nat.zero_le _,rfl,rfl,World.ownsRow_nil w w.heap.size 9 1,Below.refl _ _⟩
 case round =>
  obtain ⟨n,hn,rfl,HR⟩ := hrel
  obtain ⟨o,x,hp⟩ : ∃ o x,wst l n = (o,x) := ⟨_,_,rfl⟩
  have hlen := wst_len l n
  rw [hp] at hlen
  have hrel := HR.out
  unfold WRel at hrel
  rw [hp] at hrel
  obtain ⟨rfl,hown,hb⟩ := hrel
  dsimp only at hown hlen
  by_cases hlt : n ≤ L
  ·have hn1 := hid (show n + 1 ≤ L + 1 by omega)
   have hlenH := hid hlen
   have HO := hid hown
   have HB := hid hb
   have hsz2 := hb.size
   have HP := hid hp
   clear hown hb hp hlen
   have hxe := beq_str_empty x
   by_cases hnL : n = L
   ·subst hnL
    have HC := hid (wst_succ l n 32 (by rw [List.getElem?_append_right (by rw [HL.out]; exact Nat.le_refl _)]; simp [HL.out]))
    by_cases hx : x = []
    ·have hx2 := hid hx
     rw [decide_eq_true hx] at hxe
     obtain ⟨xs,hxs⟩ : ∃ xs,xs = str x := ⟨_,rfl⟩
     rw [← hxs] at hxe ⊢
     clear hx hxs
     go_wp2
     go_roundw
     case rel => exact ⟨n + 1,hn1.out,by go_num,rel_sp0 HP.out HC.out hx2.out HO.out HB.out⟩
     case measure => (first | (simp [intOf]; done) | (simp [intOf]; omega))
    ·have hx2 := hid hx
     rw [decide_eq_false hx] at hxe
     obtain ⟨xs,hxs⟩ : ∃ xs,xs = str x := ⟨_,rfl⟩
     rw [← hxs] at hxe ⊢
     have hxsH := hid hxs
     clear hx hxs
     go_wp2_with (at_builtin; refine append_str rfl _ _ rfl w.heap.size _ _ _ xs HO.out hsz2 (by have := hlenH.out; have := hn.out; omega) rfl rfl ?_; intro v' w3 hown' hnx3 hsz3)
     go_roundw
     case rel => exact ⟨n + 1,hn1.out,by go_num,rel_sp1 HP.out HC.out hx2.out (by rw [← hxsH.out]; exact hown') (HB.out.trans hnx3)⟩
     case measure => (first | (simp [intOf]; done) | (simp [intOf]; omega))
   ·have hnl : n < L := by omega
    have hnll : n < l.length := by rw [← HL.out]; exact hnl
    obtain ⟨c,hc⟩ : ∃ c,c = l[n]'hnll := ⟨_,rfl⟩
    have HC := hid (wst_succ l n c (by rw [List.getElem?_append_left hnll,List.getElem?_eq_getElem hnll,hc]))
    have hget : ∀ h : n < s.size,(s[n]'h) = c := fun h => by
     have e := HS.out
     subst e
     exact (str_get l n hnll _).trans hc.symm
    by_cases hc32 : c = 32
    ·have hcn : (c.toNat : Int) = 32 := by rw [hc32]; rfl
     have HC := hid (show wst l (n + 1) = stepW (wst l n) 32 by rw [← hc32]; exact HC.out)
     clear hc32 hc
     by_cases hx : x = []
     ·have hx2 := hid hx
      rw [decide_eq_true hx] at hxe
      obtain ⟨xs,hxs⟩ : ∃ xs,xs = str x := ⟨_,rfl⟩
      rw [← hxs] at hxe ⊢
      clear hx hxs
      go_wp2
      go_roundw
      case rel => exact ⟨n + 1,hn1.out,by go_num,rel_sp0 HP.out HC.out hx2.out HO.out HB.out⟩
      case measure => (first | (simp [intOf]; done) | (simp [intOf]; omega))
     ·have hx2 := hid hx
      rw [decide_eq_false hx] at hxe
      obtain ⟨xs,hxs⟩ : ∃ xs,xs = str x := ⟨_,rfl⟩
      rw [← hxs] at hxe ⊢
      have hxsH := hid hxs
      clear hx hxs
      go_wp2_with (at_builtin; refine append_str rfl _ _ rfl w.heap.size _ _ _ xs HO.out hsz2 (by have := hlenH.out; have := hn.out; omega) rfl rfl ?_; intro v' w3 hown' hnx3 hsz3)
      go_roundw
      case rel => exact ⟨n + 1,hn1.out,by go_num,rel_sp1 HP.out HC.out hx2.out (by rw [← hxsH.out]; exact hown') (HB.out.trans hnx3)⟩
      case measure => (first | (simp [intOf]; done) | (simp [intOf]; omega))
    ·have hcn : ((c.toNat : Int) == 32) = false := by
      rw [beq_eq_false_iff_ne]
      intro e
      apply hc32
      exact UInt8.toNat_inj.1 (by have : (32 : UInt8).toNat = 32 := rfl; omega)
     have hadd := fun W => run_string_add_sum (P := Tryz.prog) W (str x) (s.extract n (n + 1)) (by rw [str_size,ByteArray.size_extract]; have := hlenH.out; have := hn.out; omega)
     have hsn : str x ++ s.extract n (n + 1) = str (x ++ [c]) := by rw [HS.out,str_snoc x l n hnll,hc]
     rw [hsn] at hadd
     obtain ⟨xs,hxs⟩ : ∃ xs,xs = str x := ⟨_,rfl⟩
     obtain ⟨ys,hys⟩ : ∃ ys,ys = str (x ++ [c]) := ⟨_,rfl⟩
     rw [← hxs,← hys] at hadd
     rw [← hxs] at hxe ⊢
     have hysH := hid hys
     have hccH := hid hc32
     clear hsn hxs hys hc32 hc hxe
     go_wp2
     go_roundw
     case rel => exact ⟨n + 1,hn1.out,by go_num,by rw [hysH.out]; exact rel_ch HP.out HC.out hccH.out HO.out HB.out⟩
     case measure => (first | (simp [intOf]; done) | (simp [intOf]; omega))
  ·obtain rfl : n = L + 1 := by have := hn.out; omega
   go_wp2
   go_ret
   refine ⟨_,rfl,?_,hb⟩
   have e : wordsL l = o := by unfold wordsL; rw [← HL.out,hp]
   rw [e]
   exact hown
end Go.Proofs.YtjgeedgphcjhoaaGreat
