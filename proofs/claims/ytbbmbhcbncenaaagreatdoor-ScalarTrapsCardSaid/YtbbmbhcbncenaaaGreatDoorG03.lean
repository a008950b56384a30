/-
  RTypes, ROfM, RWords, ROf, LawBase, SBase: merged, what the law does not reach left out (each text says what it holds where it lies in wip). No condition.
-/
import Derived.Test.YtbbmbhcbncenaaaGreatDoorG02
import Derived.RegionTactic
import Derived.Deep.RegionHeld3
import Derived.Deep.DeepCutAuto
import Derived.Test.YtbbmbhcbncenaaaGreatDoorG01
set_option linter.unusedSimpArgs false
set_option linter.unusedVariables false
set_option maxRecDepth 100000
namespace Go.Proofs.YtbbmbhcbncenaaaGreatDoor
open Go.RowKit
def tyOf (c : UInt8) : Option Int := if c = 105 then some 127 else if c = 108 then some 126 else if c = 102 then some 125 else if c = 100 then some 124 else if c = 118 then some 123 else if c = 110 then some 112 else none
def tyL (l : List UInt8) : List Int := l.filterMap tyOf
theorem ty_succ (l : List UInt8) (n : Nat) (h : n < l.length) : tyL (l.take (n + 1)) = tyL (l.take n) ++ (tyOf l[n]).toList := by
 unfold tyL
 rw [List.take_add_one,List.getElem?_eq_getElem h,List.filterMap_append]
 congr 1
theorem ty_len (l : List UInt8) : (tyL l).length ≤ l.length := List.length_filterMap_le _ _
def TRel (w : World) (l : List UInt8) (n : Nat) (vo : Value) (wr : World) : Prop := wr.ownsRow w.heap.size 3 1 vo (tyL (l.take n)).length (ic (tyL (l.take n))) ∧ Below w.heap.size w wr
theorem trel_no {w wr : World} {l : List UInt8} {n : Nat} {vo : Value} {c : UInt8} (h : TRel w l n vo wr) (hC : tyL (l.take (n + 1)) = tyL (l.take n) ++ (tyOf c).toList) (ht : tyOf c = none) : TRel w l (n + 1) vo wr := by
 unfold TRel
 rw [hC,ht]
 simpa [TRel] using h
theorem trel_one {w wr wr' : World} {l : List UInt8} {n : Nat} {vo vo' : Value} {c : UInt8} {t : Int} (h : TRel w l n vo wr) (hC : tyL (l.take (n + 1)) = tyL (l.take n) ++ (tyOf c).toList) (ht : tyOf c = some t)
  (hown : wr'.ownsRow w.heap.size 3 1 vo' ((tyL (l.take n)).length + 1) (ic (tyL (l.take n)) ++ [.int .i64 t])) (hb : Below w.heap.size wr wr') : TRel w l (n + 1) vo' wr' := by
 unfold TRel
 rw [hC,ht]
 refine ⟨?_,h.2.trans hb⟩
 simpa [ic] using hown
set_option maxHeartbeats 8000000 in
theorem reftypes_says (l : List UInt8) (hl : l.length ≤ 100) (w : World) : Calls Tryz.prog 7 #[.string (str l)] w (TyPost w (tyL l)) := by
 obtain ⟨s,hs⟩ : ∃ s,s = str l := ⟨_,rfl⟩
 have hsz : s.size = l.length := by rw [hs,str_size]
 rw [← hs]
 have HS := hid hs
 clear hs
 obtain ⟨L,hL⟩ : ∃ L,L = l.length := ⟨_,rfl⟩
 rw [← hL] at hsz hl
 have HL := hid hL
 clear hL
 go_enter Tryz.func7,Tryz.ntmps7
 go_wp2
 go_loopw [3,4] (fun vo vi wr => ∃ n : Nat,Hid (n ≤ L) ∧ vi = .int .i64 n ∧ Hid (TRel w l n vo wr)) (fun _ vi _ => 100 - (intOf vi).toNat)
 case atStart => exact ⟨0,Nat.zero_le _,rfl,World.ownsRow_nil w w.heap.size 3 1,Below.refl _ _⟩
 case round =>
  obtain ⟨n,hn,rfl,HR⟩ := hrel
  by_cases hlt : n < L
  ·have hn1 := hid (show n + 1 ≤ L by omega)
   have hnll : n < l.length := by rw [← HL.out]; exact hlt
   obtain ⟨c,hc⟩ : ∃ c,c = l[n]'hnll := ⟨_,rfl⟩
   have hget : ∀ h : n < s.size,(s[n]'h) = c := fun h => by
    have e := HS.out
    subst e
    exact (str_get l n hnll _).trans hc.symm
   have HC := hid (ty_succ l n hnll)
   rw [← hc] at HC
   have hlen := hid (ty_len (l.take n))
   have hlt2 := hid (show (l.take n).length ≤ 100 by rw [List.length_take]; omega)
   have hsz2 := HR.out.2.size
   clear hc
   by_cases h105 : c = 105
   ·have ht := hid (show tyOf c = some 127 by rw [h105]; decide)
    have hcn : (c.toNat : Int) = 105 := by rw [h105]; rfl
    clear h105
    go_wp2_with (at_builtin; refine append_int rfl _ _ rfl w.heap.size _ _ _ 127 HR.out.1 hsz2 (by have := hlen.out; have := hlt2.out; omega) rfl rfl ?_; intro v' w3 hown' hnx3 hsz3)
    go_roundw
    case rel => exact ⟨n + 1,hn1.out,by go_num,trel_one HR.out HC.out ht.out hown' hnx3⟩
    case measure => (first | (simp [intOf]; done) | (simp [intOf]; omega))
   have n105 : ((c.toNat : Int) == 105) = false := by
    rw [beq_eq_false_iff_ne]
    intro e
    exact h105 (UInt8.toNat_inj.1 (by have : (105 : UInt8).toNat = 105 := rfl; omega))
   by_cases h108 : c = 108
   ·have ht := hid (show tyOf c = some 126 by rw [h108]; decide)
    have hcn : (c.toNat : Int) = 108 := by rw [h108]; rfl
    clear h108
    clear h105 n105
    go_wp2_with (at_builtin; refine append_int rfl _ _ rfl w.heap.size _ _ _ 126 HR.out.1 hsz2 (by have := hlen.out; have := hlt2.out; omega) rfl rfl ?_; intro v' w3 hown' hnx3 hsz3)
    go_roundw
    case rel => exact ⟨n + 1,hn1.out,by go_num,trel_one HR.out HC.out ht.out hown' hnx3⟩
    case measure => (first | (simp [intOf]; done) | (simp [intOf]; omega))
   have n108 : ((c.toNat : Int) == 108) = false := by
    rw [beq_eq_false_iff_ne]
    intro e
    exact h108 (UInt8.toNat_inj.1 (by have : (108 : UInt8).toNat = 108 := rfl; omega))
   by_cases h102 : c = 102
   ·have ht := hid (show tyOf c = some 125 by rw [h102]; decide)
    have hcn : (c.toNat : Int) = 102 := by rw [h102]; rfl
    clear h102
    clear h105 n105
    clear h108 n108
    go_wp2_with (at_builtin; refine append_int rfl _ _ rfl w.heap.size _ _ _ 125 HR.out.1 hsz2 (by have := hlen.out; have := hlt2.out; omega) rfl rfl ?_; intro v' w3 hown' hnx3 hsz3)
    go_roundw
    case rel => exact ⟨n + 1,hn1.out,by go_num,trel_one HR.out HC.out ht.out hown' hnx3⟩
    case measure => (first | (simp [intOf]; done) | (simp [intOf]; omega))
   have n102 : ((c.toNat : Int) == 102) = false := by
    rw [beq_eq_false_iff_ne]
    intro e
    exact h102 (UInt8.toNat_inj.1 (by have : (102 : UInt8).toNat = 102 := rfl; omega))
   by_cases h100 : c = 100
   ·have ht := hid (show tyOf c = some 124 by rw [h100]; decide)
    have hcn : (c.toNat : Int) = 100 := by rw [h100]; rfl
    clear h100
    clear h105 n105
    clear h108 n108
    clear h102 n102
    go_wp2_with (at_builtin; refine append_int rfl _ _ rfl w.heap.size _ _ _ 124 HR.out.1 hsz2 (by have := hlen.out; have := hlt2.out; omega) rfl rfl ?_; intro v' w3 hown' hnx3 hsz3)
    go_roundw
    case rel => exact ⟨n + 1,hn1.out,by go_num,trel_one HR.out HC.out ht.out hown' hnx3⟩
    case measure => (first | (simp [intOf]; done) | (simp [intOf]; omega))
   have n100 : ((c.toNat : Int) == 100) = false := by
    rw [beq_eq_false_iff_ne]
    intro e
    exact h100 (UInt8.toNat_inj.1 (by have : (100 : UInt8).toNat = 100 := rfl; omega))
   by_cases h118 : c = 118
   ·have ht := hid (show tyOf c = some 123 by rw [h118]; decide)
    have hcn : (c.toNat : Int) = 118 := by rw [h118]; rfl
    clear h118
    clear h105 n105
    clear h108 n108
    clear h102 n102
    clear h100 n100
    go_wp2_with (at_builtin; refine append_int rfl _ _ rfl w.heap.size _ _ _ 123 HR.out.1 hsz2 (by have := hlen.out; have := hlt2.out; omega) rfl rfl ?_; intro v' w3 hown' hnx3 hsz3)
    go_roundw
    case rel => exact ⟨n + 1,hn1.out,by go_num,trel_one HR.out HC.out ht.out hown' hnx3⟩
    case measure => (first | (simp [intOf]; done) | (simp [intOf]; omega))
   have n118 : ((c.toNat : Int) == 118) = false := by
    rw [beq_eq_false_iff_ne]
    intro e
    exact h118 (UInt8.toNat_inj.1 (by have : (118 : UInt8).toNat = 118 := rfl; omega))
   by_cases h110 : c = 110
   ·have ht := hid (show tyOf c = some 112 by rw [h110]; decide)
    have hcn : (c.toNat : Int) = 110 := by rw [h110]; rfl
    clear h110
    clear h105 n105
    clear h108 n108
    clear h102 n102
    clear h100 n100
    clear h118 n118
    go_wp2_with (at_builtin; refine append_int rfl _ _ rfl w.heap.size _ _ _ 112 HR.out.1 hsz2 (by have := hlen.out; have := hlt2.out; omega) rfl rfl ?_; intro v' w3 hown' hnx3 hsz3)
    go_roundw
    case rel => exact ⟨n + 1,hn1.out,by go_num,trel_one HR.out HC.out ht.out hown' hnx3⟩
    case measure => (first | (simp [intOf]; done) | (simp [intOf]; omega))
   have n110 : ((c.toNat : Int) == 110) = false := by
    rw [beq_eq_false_iff_ne]
    intro e
    exact h110 (UInt8.toNat_inj.1 (by have : (110 : UInt8).toNat = 110 := rfl; omega))
   have ht := hid (show tyOf c = none by unfold tyOf; rw [if_neg h105,if_neg h108,if_neg h102,if_neg h100,if_neg h118,if_neg h110])
   clear h105 h108 h102 h100 h118 h110
   go_wp2
   go_roundw
   case rel => exact ⟨n + 1,hn1.out,by go_num,trel_no HR.out HC.out ht.out⟩
   case measure => (first | (simp [intOf]; done) | (simp [intOf]; omega))
  ·obtain rfl : n = L := by have := hn.out; omega
   have e : l.take n = l := by rw [HL.out,List.take_length]
   have hr := HR.out
   unfold TRel at hr
   rw [e] at hr
   go_wp2
   go_ret
   exact ⟨_,rfl,hr.1,hr.2⟩
end Go.Proofs.YtbbmbhcbncenaaaGreatDoor
namespace Go.Proofs.YtbbmbhcbncenaaaGreatDoor
open Go.RowKit
noncomputable def textOf (op : Int) : List UInt8 :=
 if 0 ≤ op ∧ op < 211 then tabOne.getD op.toNat [] else if 64512 ≤ op ∧ op < 64530 then tabTwo.getD (op - 64512).toNat [] else if 64768 ≤ op ∧ op < 65024 then tabThree.getD (op - 64768).toNat [] else []
def stepS (p : Bool × List UInt8 × List UInt8) (c : UInt8) : Bool × List UInt8 × List UInt8 :=
 match p with
 | (b,t,l) => if c = 62 then (true,t,l) else if b then (b,t,l ++ [c]) else (b,t ++ [c],l)
def sst (l : List UInt8) (n : Nat) : Bool × List UInt8 × List UInt8 := (l.take n).foldl stepS (false,[],[])
def ofText (op : Int) (t : List UInt8) : Rw :=
 match wordsL t with
 | [a,b,c] => if c = [63] then (op,a,digL b,[],[],false) else (op,a,digL b,(sst c c.length).2.1,(sst c c.length).2.2,true)
 | _ => rw0
noncomputable def ofL (op : Int) : Rw := ofText op (textOf op)
def okText (t : List UInt8) : Bool := decide (t.length ≤ 100) && (match wordsL t with | [a,b,c] => decide (b.length ≤ 4) && decide (c.length ≤ 100) | _ => true)
theorem texts_ok : (rangeOps.all fun op => okText (textOf op)) = true := by kernel_rfl
theorem text_out (op : Int) (h : ¬ op ∈ rangeOps) : textOf op = [] := by
 rw [mem_rangeOps] at h
 unfold textOf
 rw [if_neg (by omega),if_neg (by omega),if_neg (by omega)]
theorem text_ok (op : Int) : okText (textOf op) = true := by
 by_cases h : op ∈ rangeOps
 ·exact List.all_eq_true.1 texts_ok op h
 ·rw [text_out op h]; rfl
noncomputable def agree (op : Int) : Bool :=
 let r := ofL op
 let l := lineL op
 (knB l == decide (0 ≤ r.1)) && (l.1.data.toList == r.2.1) && (l.2.1 == r.2.2.1) && (fxB l == r.2.2.2.2.2) &&
 ((if fxB l then typesL l.2.2.1.toNat else []) == tyL r.2.2.2.1) && ((if fxB l then typesL l.2.2.2.toNat else []) == tyL r.2.2.2.2.1) && decide (r.2.2.2.1.length ≤ 100) && decide (r.2.2.2.2.1.length ≤ 100) &&
 (r.1 == -1 || r.1 == op)
theorem agree_all : (rangeOps.all agree) = true := by kernel_rfl
end Go.Proofs.YtbbmbhcbncenaaaGreatDoor
namespace Go.Proofs.YtbbmbhcbncenaaaGreatDoor
open Go.RowKit
def WordsPost (w : World) (l : List UInt8) (e : Ending) (w' : World) : Prop :=
 ∃ v,e = .returned v ∧ w'.ownsRow w.heap.size 9 1 v (wordsL l).length (sc (wordsL l)) ∧ Below w.heap.size w w'
def WRel (w : World) (l : List UInt8) (n : Nat) (vo vw : Value) (wr : World) : Prop :=
 vw = .string (str (wst l n).2) ∧ wr.ownsRow w.heap.size 9 1 vo (wst l n).1.length (sc (wst l n).1) ∧ Below w.heap.size w wr
theorem beq_str_empty (x : List UInt8) : (str x).toList.isEmpty = decide (x = []) := by rw [str_list]; cases x <;> simp
theorem rel_sp0 {w wr : World} {l : List UInt8} {n : Nat} {o : List (List UInt8)} {x : List UInt8} {vo : Value} (hp : wst l n = (o,x)) (hC : wst l (n + 1) = stepW (wst l n) 32) (hx : x = [])
  (hown : wr.ownsRow w.heap.size 9 1 vo o.length (sc o)) (hb : Below w.heap.size w wr) : WRel w l (n + 1) vo (.string ⟨#[]⟩) wr := by
 unfold WRel
 rw [hC,hp]
 subst hx
 exact ⟨rfl,hown,hb⟩
theorem rel_sp1 {w wr : World} {l : List UInt8} {n : Nat} {o : List (List UInt8)} {x : List UInt8} {vo : Value} (hp : wst l n = (o,x)) (hC : wst l (n + 1) = stepW (wst l n) 32) (hx : ¬ x = [])
  (hown : wr.ownsRow w.heap.size 9 1 vo (o.length + 1) (sc o ++ [.string (str x)])) (hb : Below w.heap.size w wr) : WRel w l (n + 1) vo (.string ⟨#[]⟩) wr := by
 unfold WRel
 rw [hC,hp]
 have e : stepW (o,x) 32 = (o ++ [x],[]) := by simp [stepW,hx]
 rw [e]
 refine ⟨rfl,?_,hb⟩
 simpa [sc] using hown
theorem rel_ch {w wr : World} {l : List UInt8} {n : Nat} {c : UInt8} {o : List (List UInt8)} {x : List UInt8} {vo : Value} (hp : wst l n = (o,x)) (hC : wst l (n + 1) = stepW (wst l n) c) (hc : ¬ c = 32)
  (hown : wr.ownsRow w.heap.size 9 1 vo o.length (sc o)) (hb : Below w.heap.size w wr) : WRel w l (n + 1) vo (.string (str (x ++ [c]))) wr := by
 unfold WRel
 rw [hC,hp]
 have e : stepW (o,x) c = (o,x ++ [c]) := by simp [stepW,hc]
 rw [e]
 exact ⟨rfl,hown,hb⟩
set_option maxHeartbeats 4000000 in
theorem words_says (l : List UInt8) (hl : l.length ≤ 100) (w : World) : Calls Tryz.prog 12 #[.string (str l)] w (WordsPost w l) := by
 obtain ⟨s,hs⟩ : ∃ s,s = str l := ⟨_,rfl⟩
 have hsz : s.size = l.length := by rw [hs,str_size]
 rw [← hs]
 have HS := hid hs
 clear hs
 obtain ⟨L,hL⟩ : ∃ L,L = l.length := ⟨_,rfl⟩
 rw [← hL] at hsz hl
 have HL := hid hL
 clear hL
 go_enter Tryz.func12,Tryz.ntmps12
 go_wp2
 go_loopw [3,4,5] (fun vo vw vi wr => ∃ n : Nat,Hid (n ≤ L + 1) ∧ vi = .int .i64 n ∧ Hid (WRel w l n vo vw wr)) (fun _ _ vi _ => 101 - (intOf vi).toNat)
 case atStart => exact ⟨0,Nat.zero_le _,rfl,rfl,World.ownsRow_nil w w.heap.size 9 1,Below.refl _ _⟩
 case round =>
  obtain ⟨n,hn,rfl,HR⟩ := hrel
  obtain ⟨o,x,hp⟩ : ∃ o x,wst l n = (o,x) := ⟨_,_,rfl⟩
  have hlen := wst_len l n
  rw [hp] at hlen
  have hrel := HR.out
  unfold WRel at hrel
  rw [hp] at hrel
  obtain ⟨rfl,hown,hb⟩ := hrel
  dsimp only at hown hlen
  by_cases hlt : n ≤ L
  ·have hn1 := hid (show n + 1 ≤ L + 1 by omega)
   have hlenH := hid hlen
   have HO := hid hown
   have HB := hid hb
   have hsz2 := hb.size
   have HP := hid hp
   clear hown hb hp hlen
   have hxe := beq_str_empty x
   by_cases hnL : n = L
   ·subst hnL
    have HC := hid (wst_succ l n 32 (by rw [List.getElem?_append_right (by rw [HL.out]; exact Nat.le_refl _)]; simp [HL.out]))
    by_cases hx : x = []
    ·have hx2 := hid hx
     rw [decide_eq_true hx] at hxe
     obtain ⟨xs,hxs⟩ : ∃ xs,xs = str x := ⟨_,rfl⟩
     rw [← hxs] at hxe ⊢
     clear hx hxs
     go_wp2
     go_roundw
     case rel => exact ⟨n + 1,hn1.out,by go_num,rel_sp0 HP.out HC.out hx2.out HO.out HB.out⟩
     case measure => (first | (simp [intOf]; done) | (simp [intOf]; omega))
    ·have hx2 := hid hx
     rw [decide_eq_false hx] at hxe
     obtain ⟨xs,hxs⟩ : ∃ xs,xs = str x := ⟨_,rfl⟩
     rw [← hxs] at hxe ⊢
     have hxsH := hid hxs
     clear hx hxs
     go_wp2_with (at_builtin; refine append_str rfl _ _ rfl w.heap.size _ _ _ xs HO.out hsz2 (by have := hlenH.out; have := hn.out; omega) rfl rfl ?_; intro v' w3 hown' hnx3 hsz3)
     go_roundw
     case rel => exact ⟨n + 1,hn1.out,by go_num,rel_sp1 HP.out HC.out hx2.out (by rw [← hxsH.out]; exact hown') (HB.out.trans hnx3)⟩
     case measure => (first | (simp [intOf]; done) | (simp [intOf]; omega))
   ·have hnl : n < L := by omega
    have hnll : n < l.length := by rw [← HL.out]; exact hnl
    obtain ⟨c,hc⟩ : ∃ c,c = l[n]'hnll := ⟨_,rfl⟩
    have HC := hid (wst_succ l n c (by rw [List.getElem?_append_left hnll,List.getElem?_eq_getElem hnll,hc]))
    have hget : ∀ h : n < s.size,(s[n]'h) = c := fun h => by
     have e := HS.out
     subst e
     exact (str_get l n hnll _).trans hc.symm
    by_cases hc32 : c = 32
    ·have hcn : (c.toNat : Int) = 32 := by rw [hc32]; rfl
     have HC := hid (show wst l (n + 1) = stepW (wst l n) 32 by rw [← hc32]; exact HC.out)
     clear hc32 hc
     by_cases hx : x = []
     ·have hx2 := hid hx
      rw [decide_eq_true hx] at hxe
      obtain ⟨xs,hxs⟩ : ∃ xs,xs = str x := ⟨_,rfl⟩
      rw [← hxs] at hxe ⊢
      clear hx hxs
      go_wp2
      go_roundw
      case rel => exact ⟨n + 1,hn1.out,by go_num,rel_sp0 HP.out HC.out hx2.out HO.out HB.out⟩
      case measure => (first | (simp [intOf]; done) | (simp [intOf]; omega))
     ·have hx2 := hid hx
      rw [decide_eq_false hx] at hxe
      obtain ⟨xs,hxs⟩ : ∃ xs,xs = str x := ⟨_,rfl⟩
      rw [← hxs] at hxe ⊢
      have hxsH := hid hxs
      clear hx hxs
      go_wp2_with (at_builtin; refine append_str rfl _ _ rfl w.heap.size _ _ _ xs HO.out hsz2 (by have := hlenH.out; have := hn.out; omega) rfl rfl ?_; intro v' w3 hown' hnx3 hsz3)
      go_roundw
      case rel => exact ⟨n + 1,hn1.out,by go_num,rel_sp1 HP.out HC.out hx2.out (by rw [← hxsH.out]; exact hown') (HB.out.trans hnx3)⟩
      case measure => (first | (simp [intOf]; done) | (simp [intOf]; omega))
    ·have hcn : ((c.toNat : Int) == 32) = false := by
      rw [beq_eq_false_iff_ne]
      intro e
      apply hc32
      exact UInt8.toNat_inj.1 (by have : (32 : UInt8).toNat = 32 := rfl; omega)
     have hadd := fun W => run_string_add_sum (P := Tryz.prog) W (str x) (s.extract n (n + 1)) (by rw [str_size,ByteArray.size_extract]; have := hlenH.out; have := hn.out; omega)
     have hsn : str x ++ s.extract n (n + 1) = str (x ++ [c]) := by rw [HS.out,str_snoc x l n hnll,hc]
     rw [hsn] at hadd
     obtain ⟨xs,hxs⟩ : ∃ xs,xs = str x := ⟨_,rfl⟩
     obtain ⟨ys,hys⟩ : ∃ ys,ys = str (x ++ [c]) := ⟨_,rfl⟩
     rw [← hxs,← hys] at hadd
     rw [← hxs] at hxe ⊢
     have hysH := hid hys
     have hccH := hid hc32
     clear hsn hxs hys hc32 hc hxe
     go_wp2
     go_roundw
     case rel => exact ⟨n + 1,hn1.out,by go_num,by rw [hysH.out]; exact rel_ch HP.out HC.out hccH.out HO.out HB.out⟩
     case measure => (first | (simp [intOf]; done) | (simp [intOf]; omega))
  ·obtain rfl : n = L + 1 := by have := hn.out; omega
   go_wp2
   go_ret
   refine ⟨_,rfl,?_,hb⟩
   have e : wordsL l = o := by unfold wordsL; rw [← HL.out,hp]
   rw [e]
   exact hown
end Go.Proofs.YtbbmbhcbncenaaaGreatDoor
namespace Go.Proofs.YtbbmbhcbncenaaaGreatDoor
open Go.RowKit
def rwz : Rw := (0,[],0,[],[],false)
def rwCells (r : Rw) : Array Value := #[.int .i64 r.1,.string (str r.2.1),.int .i64 r.2.2.1,.string (str r.2.2.2.1),.string (str r.2.2.2.2.1),.bool r.2.2.2.2.2]
def RB (g : Nat) (r : Rw) (W : World) : Prop := W.heap[g]? = some (.cells (rwCells r) 25 (0,0))
theorem RB.lt {g : Nat} {r : Rw} {W : World} (h : RB g r W) : g < W.heap.size := (Array.getElem?_eq_some_iff.1 h).1
theorem RB.new (w : World) : RB w.heap.size rwz (w.alloc (.cells (rwCells rwz) 25)) := by
 show (w.heap.push _)[w.heap.size]? = _
 simp
theorem RB.call {g : Nat} {r : Rw} {W W' : World} (h : RB g r W) (hb : Below W.heap.size W W') : RB g r W' := by
 unfold RB at h ⊢
 rw [hb.block g (RB.lt h),h]
theorem RB.alloc {g : Nat} {r : Rw} {W : World} (h : RB g r W) (o : Obj) : RB g r (W.alloc o) := h.call ((Below.refl _ _).alloc (Nat.le_refl _) o)
theorem RB.drew {g : Nat} {r : Rw} {W : World} (h : RB g r W) : RB g r W.drew := h
theorem RB.cells {g : Nat} {r : Rw} {W : World} (h : RB g r W) : W.cell? ⟨g,0,none⟩ = some (.int .i64 r.1) ∧ W.cell? ⟨g,1,none⟩ = some (.string (str r.2.1)) ∧ W.cell? ⟨g,2,none⟩ = some (.int .i64 r.2.2.1) ∧ W.cell? ⟨g,3,none⟩ = some (.string (str r.2.2.2.1)) ∧ W.cell? ⟨g,4,none⟩ = some (.string (str r.2.2.2.2.1)) ∧ W.cell? ⟨g,5,none⟩ = some (.bool r.2.2.2.2.2) := by
 unfold RB at h
 refine ⟨?_,?_,?_,?_,?_,?_⟩ <;> (rw [World.cell?,h]; rfl)
theorem RB.free {g : Nat} {r : Rw} {W : World} (h : RB g r W) (k : Nat) : W.frozen? ⟨g,k,none⟩ = false := by
 unfold RB at h
 rw [World.frozen?,h]
 simp
theorem RB.set {g k : Nat} {r r' : Rw} {W : World} {v : Value} (h : RB g r W) (he : (rwCells r).setIfInBounds k v = rwCells r') : RB g r' (W.setCell ⟨g,k,none⟩ v) := by
 unfold RB at h ⊢
 rw [World.setCell,Array.getElem?_modify,if_pos rfl,h]
 simp only [Option.map_some]
 rw [← he]
 rfl
theorem RB.store {g : Nat} {r : Rw} {W : World} (h : RB g r W) (a : Int) (b : List UInt8) (c : Int) (d e : List UInt8) (f : Bool) :
  RB g (a,b,c,d,e,f) ((((((W.setCell ⟨g,0,none⟩ (.int .i64 a)).setCell ⟨g,1,none⟩ (.string (str b))).setCell ⟨g,2,none⟩ (.int .i64 c)).setCell ⟨g,3,none⟩ (.string (str d))).setCell ⟨g,4,none⟩ (.string (str e))).setCell ⟨g,5,none⟩ (.bool f)) := by
 obtain ⟨a0,b0,c0,d0,e0,f0⟩ := r
 exact (((((h.set (r' := (a,b0,c0,d0,e0,f0)) rfl).set (r' := (a,b,c0,d0,e0,f0)) rfl).set (r' := (a,b,c,d0,e0,f0)) rfl).set (r' := (a,b,c,d,e0,f0)) rfl).set (r' := (a,b,c,d,e,f0)) rfl).set (r' := (a,b,c,d,e,f)) rfl
theorem below_six {B g : Nat} {w W : World} (h : Below B w W) (hg : B ≤ g) (v0 v1 v2 v3 v4 v5 : Value) :
  Below B w ((((((W.setCell ⟨g,0,none⟩ v0).setCell ⟨g,1,none⟩ v1).setCell ⟨g,2,none⟩ v2).setCell ⟨g,3,none⟩ v3).setCell ⟨g,4,none⟩ v4).setCell ⟨g,5,none⟩ v5) :=
 (((((h.setCell (p := ⟨g,0,none⟩) hg _).setCell (p := ⟨g,1,none⟩) hg _).setCell (p := ⟨g,2,none⟩) hg _).setCell (p := ⟨g,3,none⟩) hg _).setCell (p := ⟨g,4,none⟩) hg _).setCell (p := ⟨g,5,none⟩) hg _
theorem size24 : (Tryz.prog.info? 25).map (·.size) = some 6 := by kernel_rfl
theorem res9 (tmps : Array Value) (W : World) (g : Nat) (r : Rw) (h : RB g r W) (hp : tmps.getD 2 undef = .pointer (some ⟨g,0,none⟩)) : (results Tryz.f5 tmps).run Tryz.prog W = .ok (rwV r) W := by
 have hl := run_loadVar_row (P := Tryz.prog) W g 25 25 (rwCells r) (0,0) _ h Tryz.underlying25 rfl size24
 unfold results
 rw [show Tryz.f5.results = #[.cell 2 25] by kernel_rfl]
 rw [Array.getD_eq_getD_getElem?] at hp
 simp [hp,asAddr,hl]
 rfl
theorem sst_succ (l : List UInt8) (n : Nat) (h : n < l.length) : sst l (n + 1) = stepS (sst l n) l[n] := by
 unfold sst
 rw [List.take_add_one,List.getElem?_eq_getElem h,List.foldl_append]
 rfl
theorem sst_len (l : List UInt8) : ∀ n,(sst l n).2.1.length ≤ n ∧ (sst l n).2.2.length ≤ n
 | 0 => by simp [sst]
 | n + 1 => by
  have ih := sst_len l n
  by_cases h : n < l.length
  ·rw [sst_succ l n h]
   generalize sst l n = p at ih
   obtain ⟨b,t,v⟩ := p
   simp only [stepS] at ih ⊢
   split
   ·simp at ih ⊢; omega
   ·split <;> (simp at ih ⊢; omega)
  ·have e : sst l (n + 1) = sst l n := by unfold sst; rw [List.take_of_length_le (by omega),List.take_of_length_le (by omega)]
   rw [e]; omega
set_option maxHeartbeats 4000000 in
theorem Of_says (op : Int) (w : World) : Calls Tryz.prog 5 #[.int .i64 op] w fun e w' => e = .returned (rwV (ofL op)) ∧ Below w.heap.size w w' := by
 have hok := text_ok op
 obtain ⟨t,ht⟩ : ∃ t,t = textOf op := ⟨_,rfl⟩
 have HOF := hid (show ofL op = ofText op t by rw [ht]; rfl)
 rw [← ht] at hok
 have HOK := hid hok
 have HT := hid ht
 clear hok ht
 go_enter Tryz.func5,Tryz.ntmps5
 go_upto_region 2 with fail
 obtain ⟨b,hb⟩ : ∃ b,b = decide (0 ≤ op ∧ op < 211) := ⟨_,rfl⟩
 go_cut [13] (fun s wx => s = .bool b ∧ wx = w.alloc (.cells (rwCells rwz) 25))
 case first =>
  by_cases d0 : 0 ≤ op
  ·by_cases d1 : op < 211
   ·rw [decide_eq_true ⟨d0,d1⟩] at hb
    subst hb
    go_wp2
    go_meet
    exact ⟨rfl,rfl⟩
   ·rw [decide_eq_false (fun h => d1 h.2)] at hb
    subst hb
    go_wp2
    go_meet
    exact ⟨rfl,rfl⟩
  ·rw [decide_eq_false (fun h => d0 h.1)] at hb
   subst hb
   go_wp2
   go_meet
   exact ⟨rfl,rfl⟩
 case rest =>
  obtain ⟨rfl,rfl⟩ := hcut
  go_upto_if 13 with fail
  go_cut [3] (fun s3 wx => s3 = .string (str t) ∧ Hid (Below (w.alloc (.cells (rwCells rwz) 25)).heap.size (w.alloc (.cells (rwCells rwz) 25)) wx))
  case first =>
   have hr0 : 0 ≤ op ∧ op < 211 ∨ 64512 ≤ op ∧ op < 64530 ∨ 64768 ≤ op ∧ op < 65024 ∨ op < 0 ∨ (211 ≤ op ∧ op < 64512) ∨ (64530 ≤ op ∧ op < 64768) ∨ 65024 ≤ op := by omega
   rcases hr0 with c1 | c1 | c1 | c1
   ·rw [decide_eq_true c1] at hb
    subst hb
    obtain ⟨k,rfl⟩ : ∃ k : Nat,op = k := ⟨op.toNat,by omega⟩
    have H := fun W => hid (one_says k (by omega) W)
    have e : t = tabOne.getD k [] := by rw [HT.out]; unfold textOf; rw [if_pos c1]; rfl
    rw [← e] at H
    obtain ⟨s,hs⟩ : ∃ s,s = str t := ⟨_,rfl⟩
    rw [← hs] at H
    have HSS := hid hs
    clear e hs
    go_wp2_with (go_at_call 9; refine (H _).out.mono ?_; rintro e w1 ⟨rfl,hb⟩)
    go_meet
    exact ⟨by rw [← HSS.out],by assumption⟩
   ·rw [decide_eq_false (by omega)] at hb
    subst hb
    obtain ⟨k,rfl⟩ : ∃ k : Nat,op = 64512 + k := ⟨(op - 64512).toNat,by omega⟩
    have e2 : 64512 + (k : Int) - 64512 = (k : Int) := by omega
    have H := fun W => hid (two_says k (by omega) W)
    rw [← e2] at H
    have e : t = tabTwo.getD k [] := by rw [HT.out]; unfold textOf; rw [if_neg (by omega),if_pos c1,show (64512 + (k : Int) - 64512).toNat = k by omega]
    rw [← e] at H
    obtain ⟨s,hs⟩ : ∃ s,s = str t := ⟨_,rfl⟩
    rw [← hs] at H
    have HSS := hid hs
    have hw : wrap64 (64512 + (k : Int) - 64512) = 64512 + (k : Int) - 64512 := by unfold wrap64; omega
    obtain ⟨d0,d1⟩ := c1
    clear e2
    clear e hs
    go_wp2_with (go_at_call 10; refine (H _).out.mono ?_; rintro e w1 ⟨rfl,hb⟩)
    go_meet
    exact ⟨by rw [← HSS.out],by assumption⟩
   ·rw [decide_eq_false (by omega)] at hb
    subst hb
    obtain ⟨k,rfl⟩ : ∃ k : Nat,op = 64768 + k := ⟨(op - 64768).toNat,by omega⟩
    have e2 : 64768 + (k : Int) - 64768 = (k : Int) := by omega
    have H := fun W => hid (three_says k (by omega) W)
    rw [← e2] at H
    have e : t = tabThree.getD k [] := by rw [HT.out]; unfold textOf; rw [if_neg (by omega),if_neg (by omega),if_pos c1,show (64768 + (k : Int) - 64768).toNat = k by omega]
    rw [← e] at H
    obtain ⟨s,hs⟩ : ∃ s,s = str t := ⟨_,rfl⟩
    rw [← hs] at H
    have HSS := hid hs
    have hw : wrap64 (64768 + (k : Int) - 64768) = 64768 + (k : Int) - 64768 := by unfold wrap64; omega
    obtain ⟨d0,d1⟩ := c1
    clear e2
    have d2 : ¬ 64768 + (k : Int) < 64530 := by omega
    have d3 : (64512 : Int) ≤ 64768 + (k : Int) := by omega
    clear e hs
    go_wp2_with (go_at_call 11; refine (H _).out.mono ?_; rintro e w1 ⟨rfl,hb⟩)
    go_meet
    exact ⟨by rw [← HSS.out],by assumption⟩
   ·rw [decide_eq_false (by omega)] at hb
    subst hb
    have e : str t = ⟨#[]⟩ := by rw [HT.out,text_out op (by rw [mem_rangeOps]; omega)]; rfl
    have HSS := hid e
    rcases c1 with c1 | c1 | c1 | c1
    ·have d1 : ¬ (64512 : Int) ≤ op := by omega
     have d2 : ¬ (64768 : Int) ≤ op := by omega
     clear c1 e
     go_wp2
     go_meet
     exact ⟨by rw [HSS.out],Below.refl _ _⟩
    ·have d1 : ¬ (64512 : Int) ≤ op := by omega
     have d2 : ¬ (64768 : Int) ≤ op := by omega
     clear c1 e
     go_wp2
     go_meet
     exact ⟨by rw [HSS.out],Below.refl _ _⟩
    ·have d1 : (64512 : Int) ≤ op := by omega
     have d2 : ¬ (64768 : Int) ≤ op := by omega
     have d3 : ¬ op < 64530 := by omega
     clear c1 e
     go_wp2
     go_meet
     exact ⟨by rw [HSS.out],Below.refl _ _⟩
    ·have d1 : (64512 : Int) ≤ op := by omega
     have d2 : (64768 : Int) ≤ op := by omega
     have d3 : ¬ op < 64530 := by omega
     have d4 : ¬ op < 65024 := by omega
     clear c1 e
     go_wp2
     go_meet
     exact ⟨by rw [HSS.out],Below.refl _ _⟩
  case rest =>
   obtain ⟨rfl,HW0⟩ := hcut
   have HB0 := hid (((Below.refl w.heap.size w).alloc (Nat.le_refl _) (.cells (rwCells rwz) 25)).trans (HW0.out.mono (by simp)))
   have HR0 := hid ((RB.new w).call HW0.out)
   have hlen : t.length ≤ 100 := by
    have := HOK.out
    unfold okText at this
    simp only [Bool.and_eq_true,decide_eq_true_eq] at this
    exact this.1
   have H26 := fun W => hid (words_says t hlen W)
   have HN : ∀ W,Hid (Calls Tryz.prog 13 #[] W fun e w' => e = .returned (.agg #[.int .i64 (-1),.string ⟨#[]⟩,.int .i64 0,.string ⟨#[]⟩,.string ⟨#[]⟩,.bool false]) ∧ Below W.heap.size W w') := fun W => none_says W
   clear hlen HT
   go_upto_region 9 with (go_at_call 12; refine (H26 _).out.mono ?_; rintro e w2 ⟨v,rfl,hown,hb⟩)
   have HB2 := hid (HB0.out.trans (hb.mono HB0.out.size))
   have HR2 := hid (HR0.out.call hb)
   clear hb HR0 HB0 HW0 H26
   by_cases h3 : (wordsL t).length = 3
   ·obtain ⟨a,b,c,hab⟩ : ∃ a b c,wordsL t = [a,b,c] := by
     match hm : wordsL t,h3 with
     | [a,b,c],_ => exact ⟨a,b,c,rfl⟩
    rw [hab] at hown
    rcases hown.2 with ⟨_,h⟩ | ⟨g,cap,cur,rfl,hbg,_,_,_,_,_⟩
    ·simp at h
    have hown' : w2.ownsRow wc.heap.size 9 1 (.slice (some ⟨g,0,none⟩) 3 cap) 3 (sc [a,b,c]) := hown
    have hlt := (hown'.lt g rfl).2
    have HCG : Hid (∀ W,Below w2.heap.size w2 W → W.cell? ⟨g,0,none⟩ = some (.string (str a)) ∧ W.cell? ⟨g,1,none⟩ = some (.string (str b)) ∧ W.cell? ⟨g,2,none⟩ = some (.string (str c))) := fun W h =>
     ⟨by rw [h.cell (p := ⟨g,0,none⟩) hlt,hown'.cellAt 0 (by omega)]; rfl,by rw [h.cell (p := ⟨g,1,none⟩) hlt,hown'.cellAt 1 (by omega)]; rfl,by rw [h.cell (p := ⟨g,2,none⟩) hlt,hown'.cellAt 2 (by omega)]; rfl⟩
    have hok := HOK.out
    unfold okText at hok
    rw [hab] at hok
    simp only [Bool.and_eq_true,decide_eq_true_eq] at hok
    have H28 := fun W => hid (digits_says b hok.2.1 W)
    have hcl : c.length ≤ 100 := hok.2.2
    have HE := hid (show ofText op t = if c = [63] then (op,a,digL b,[],[],false) else (op,a,digL b,(sst c c.length).2.1,(sst c c.length).2.2,true) by unfold ofText; rw [hab])
    clear hown hown' hlt hbg hok h3 hab HN
    rename_i r1 r2 r3 r4 r5
    clear r1 r2 r3 r4 r5
    go_upto_region 11 with fail
    go_cut [5] (fun s5 wx => ∃ gr : Nat,s5 = .pointer (some ⟨gr,0,none⟩) ∧ Hid (w2.heap.size ≤ gr ∧ Below w2.heap.size w2 wx ∧ RB gr (op,a,digL b,[],[],false) wx))
    case first =>
     have hS := (Below.refl w2.heap.size w2).drew
     refine wp_region_held_drew (S := Below w2.heap.size w2) (by kernel_rfl) hS (fun _ => ?_)
     generalize w2.drew = W at *
     refine zt 0 (.int .i64 op) rfl ?_ ?_
     ·(intro W hSw; obtain ⟨y0,y1,y2⟩ := HCG.out W hSw; go_simp; try (with_reducible rfl))
     try simp only [Act.put,sl2,sl0,sl1]
     refine zt 1 (.slice (some ⟨g,0,none⟩) 3 cap) rfl ?_ ?_
     ·(intro W hSw; obtain ⟨y0,y1,y2⟩ := HCG.out W hSw; go_simp; try (with_reducible rfl))
     try simp only [Act.put,sl2,sl0,sl1]
     refine zt 2 (.pointer (some ⟨g,0,none⟩)) rfl ?_ ?_
     ·(intro W hSw; obtain ⟨y0,y1,y2⟩ := HCG.out W hSw; go_simp; try (with_reducible rfl))
     try simp only [Act.put,sl2,sl0,sl1]
     refine zt 3 (.string (str a)) rfl ?_ ?_
     ·(intro W hSw; obtain ⟨y0,y1,y2⟩ := HCG.out W hSw; go_simp; try (with_reducible rfl))
     try simp only [Act.put,sl2,sl0,sl1]
     refine zt 4 (.slice (some ⟨g,0,none⟩) 3 cap) rfl ?_ ?_
     ·(intro W hSw; obtain ⟨y0,y1,y2⟩ := HCG.out W hSw; go_simp; try (with_reducible rfl))
     try simp only [Act.put,sl2,sl0,sl1]
     refine zt 5 (.pointer (some ⟨g,1,none⟩)) rfl ?_ ?_
     ·(intro W hSw; obtain ⟨y0,y1,y2⟩ := HCG.out W hSw; go_simp; try (with_reducible rfl))
     try simp only [Act.put,sl2,sl0,sl1]
     refine zt 6 (.string (str b)) rfl ?_ ?_
     ·(intro W hSw; obtain ⟨y0,y1,y2⟩ := HCG.out W hSw; go_simp; try (with_reducible rfl))
     try simp only [Act.put,sl2,sl0,sl1]
     refine zm [7,9] ?_
     refine zc rfl (fun K hK => ?_) ?_
     ·go_simp
      go_at_call 14
      (with_reducible refine (H28 _).out.mono ?_)
      rintro e W1 ⟨rfl,hb⟩
      replace hS := hS.trans (hb.mono hS.size)
      try replace hR := hR.call hb
      clear hb
      refine hK.out _ _ hS (fun _ => ?_)
      clear hK K
      try simp only [Act.put,sl2,sl0,sl1]
      refine zt 8 (.agg #[.int .i64 op,.string (str a),.int .i64 (digL b),.string ⟨#[]⟩,.string ⟨#[]⟩,.bool false]) rfl ?_ ?_
      ·(intro W hSw; obtain ⟨y0,y1,y2⟩ := HCG.out W hSw; go_simp; try (with_reducible rfl))
      try simp only [Act.put,sl2,sl0,sl1]
      refine zr 9 rfl (fun K hK => ?_)
      go_simp
      have hR : RB (W1).heap.size rwz ((W1).alloc (.cells #[.int .i64 0,.string ⟨#[]⟩,.int .i64 0,.string ⟨#[]⟩,.string ⟨#[]⟩,.bool false] 25)) := RB.new W1
      have hge := hS.size
      replace hS := hS.alloc hge (.cells #[.int .i64 0,.string ⟨#[]⟩,.int .i64 0,.string ⟨#[]⟩,.string ⟨#[]⟩,.bool false] 25)
      generalize (W1).alloc (.cells #[.int .i64 0,.string ⟨#[]⟩,.int .i64 0,.string ⟨#[]⟩,.string ⟨#[]⟩,.bool false] 25) = W2 at *
      generalize (W1).heap.size = gr at *
      refine hK.out _ _ hS (fun _ => ?_)
      clear hK K
      try simp only [Act.put,sl2,sl0,sl1]
      refine zr 10 rfl (fun K hK => ?_)
      obtain ⟨x0,x1,x2,x3,x4,x5⟩ := hR.cells
      have xf := hR.free
      go_simp
      clear x0 x1 x2 x3 x4 x5 xf
      replace hS : Below w2.heap.size w2 ((((((((((((W2).setCell ⟨gr,0,none⟩ (.int .i64 op))).setCell ⟨gr,1,none⟩ (.string (str a)))).setCell ⟨gr,2,none⟩ (.int .i64 (digL b)))).setCell ⟨gr,3,none⟩ (.string ⟨#[]⟩))).setCell ⟨gr,4,none⟩ (.string ⟨#[]⟩))).setCell ⟨gr,5,none⟩ (.bool false)) := below_six hS hge _ _ _ _ _ _
      replace hR : RB gr (op,a,digL b,[],[],false) ((((((((((((W2).setCell ⟨gr,0,none⟩ (.int .i64 op))).setCell ⟨gr,1,none⟩ (.string (str a)))).setCell ⟨gr,2,none⟩ (.int .i64 (digL b)))).setCell ⟨gr,3,none⟩ (.string ⟨#[]⟩))).setCell ⟨gr,4,none⟩ (.string ⟨#[]⟩))).setCell ⟨gr,5,none⟩ (.bool false)) := hR.store op a (digL b) [] [] false
      generalize ((((((((((((W2).setCell ⟨gr,0,none⟩ (.int .i64 op))).setCell ⟨gr,1,none⟩ (.string (str a)))).setCell ⟨gr,2,none⟩ (.int .i64 (digL b)))).setCell ⟨gr,3,none⟩ (.string ⟨#[]⟩))).setCell ⟨gr,4,none⟩ (.string ⟨#[]⟩))).setCell ⟨gr,5,none⟩ (.bool false)) = W3 at *
      refine hK.out _ _ hS (fun _ => ?_)
      clear hK K
      try simp only [Act.put,sl2,sl0,sl1]
      refine wpAnyH_done (by kernel_rfl) ?_ _
      (go_wp2_with fail)
      go_meet
      exact ⟨gr,rfl,hge,hS,hR⟩
     refine zc rfl (fun K hK => ?_) ?_
     ·go_simp
      have hR : RB (W).heap.size rwz ((W).alloc (.cells #[.int .i64 0,.string ⟨#[]⟩,.int .i64 0,.string ⟨#[]⟩,.string ⟨#[]⟩,.bool false] 25)) := RB.new W
      have hge := hS.size
      replace hS := hS.alloc hge (.cells #[.int .i64 0,.string ⟨#[]⟩,.int .i64 0,.string ⟨#[]⟩,.string ⟨#[]⟩,.bool false] 25)
      generalize (W).alloc (.cells #[.int .i64 0,.string ⟨#[]⟩,.int .i64 0,.string ⟨#[]⟩,.string ⟨#[]⟩,.bool false] 25) = W1 at *
      generalize (W).heap.size = gr at *
      refine hK.out _ _ hS (fun _ => ?_)
      clear hK K
      try simp only [Act.put,sl2,sl0,sl1]
      refine zr 7 rfl (fun K hK => ?_)
      go_simp
      go_at_call 14
      (with_reducible refine (H28 _).out.mono ?_)
      rintro e W2 ⟨rfl,hb⟩
      replace hS := hS.trans (hb.mono hS.size)
      try replace hR := hR.call hb
      clear hb
      refine hK.out _ _ hS (fun _ => ?_)
      clear hK K
      try simp only [Act.put,sl2,sl0,sl1]
      refine zt 8 (.agg #[.int .i64 op,.string (str a),.int .i64 (digL b),.string ⟨#[]⟩,.string ⟨#[]⟩,.bool false]) rfl ?_ ?_
      ·(intro W hSw; obtain ⟨y0,y1,y2⟩ := HCG.out W hSw; go_simp; try (with_reducible rfl))
      try simp only [Act.put,sl2,sl0,sl1]
      refine zr 10 rfl (fun K hK => ?_)
      obtain ⟨x0,x1,x2,x3,x4,x5⟩ := hR.cells
      have xf := hR.free
      go_simp
      clear x0 x1 x2 x3 x4 x5 xf
      replace hS : Below w2.heap.size w2 ((((((((((((W2).setCell ⟨gr,0,none⟩ (.int .i64 op))).setCell ⟨gr,1,none⟩ (.string (str a)))).setCell ⟨gr,2,none⟩ (.int .i64 (digL b)))).setCell ⟨gr,3,none⟩ (.string ⟨#[]⟩))).setCell ⟨gr,4,none⟩ (.string ⟨#[]⟩))).setCell ⟨gr,5,none⟩ (.bool false)) := below_six hS hge _ _ _ _ _ _
      replace hR : RB gr (op,a,digL b,[],[],false) ((((((((((((W2).setCell ⟨gr,0,none⟩ (.int .i64 op))).setCell ⟨gr,1,none⟩ (.string (str a)))).setCell ⟨gr,2,none⟩ (.int .i64 (digL b)))).setCell ⟨gr,3,none⟩ (.string ⟨#[]⟩))).setCell ⟨gr,4,none⟩ (.string ⟨#[]⟩))).setCell ⟨gr,5,none⟩ (.bool false)) := hR.store op a (digL b) [] [] false
      generalize ((((((((((((W2).setCell ⟨gr,0,none⟩ (.int .i64 op))).setCell ⟨gr,1,none⟩ (.string (str a)))).setCell ⟨gr,2,none⟩ (.int .i64 (digL b)))).setCell ⟨gr,3,none⟩ (.string ⟨#[]⟩))).setCell ⟨gr,4,none⟩ (.string ⟨#[]⟩))).setCell ⟨gr,5,none⟩ (.bool false)) = W3 at *
      refine hK.out _ _ hS (fun _ => ?_)
      clear hK K
      try simp only [Act.put,sl2,sl0,sl1]
      refine wpAnyH_done (by kernel_rfl) ?_ _
      (go_wp2_with fail)
      go_meet
      exact ⟨gr,rfl,hge,hS,hR⟩
     exact zn
    case rest =>
     obtain ⟨gr,rfl,HG⟩ := hcut
     have HBw := hid (HB2.out.trans (HG.out.2.1.mono HB2.out.size))
     have HRr := hid (HR2.out.call HG.out.2.1)
     have hne := hid (show gr ≠ w.heap.size by have := HR2.out.lt; have := HG.out.1; omega)
     obtain ⟨y0,y1,y2⟩ := HCG.out _ HG.out.2.1
     clear H28
     obtain ⟨s,hs⟩ : ∃ s,s = str c := ⟨_,rfl⟩
     rw [← hs] at y2
     have HSC := hid hs
     have hssz : s.size = c.length := by rw [hs,str_size]
     clear hs
     by_cases hc : c = [63]
     ·have hq : (s.toList == [63]) = true := by rw [HSC.out,str_list,hc]; rfl
      have HE2 := hid (HE.out.trans (if_pos hc))
      obtain ⟨x0,x1,x2,x3,x4,x5⟩ := HG.out.2.2.cells
      obtain ⟨z0,z1,z2,z3,z4,z5⟩ := HRr.out.cells
      have xf := HG.out.2.2.free
      have zf := HRr.out.free
      clear hc hssz
      go_wp2
      clear x0 x1 x2 x3 x4 x5 xf z0 z1 z2 z3 z4 z5 zf y0 y1 y2
      have hR3 := HRr.out.store op a (digL b) [] [] false
      exact bodyPost_ret (v := rwV (op,a,digL b,[],[],false)) (res9 _ _ _ _ hR3 rfl) rfl ⟨by rw [HOF.out,HE2.out],below_six HBw.out (Nat.le_refl _) _ _ _ _ _ _⟩
     ·have hq : (s.toList == [63]) = false := by rw [HSC.out,str_list,beq_eq_false_iff_ne]; exact hc
      have HE2 := hid (HE.out.trans (if_neg hc))
      obtain ⟨x0,x1,x2,x3,x4,x5⟩ := HG.out.2.2.cells
      have xf := HG.out.2.2.free
      clear hc
      go_wp2
      clear x0 x1 x2 x3 x4 x5 xf y0 y1 y2 hq
      have HRN := hid (HG.out.2.2.set (k := 5) (r' := (op,a,digL b,[],[],true)) (v := .bool true) rfl)
      have HBN := hid (HG.out.2.1.setCell (p := ⟨gr,5,none⟩) HG.out.1 (.bool true))
      generalize wc.setCell ⟨gr,5,none⟩ (.bool true) = wd at *
      have HBwd := hid (HB2.out.trans (HBN.out.mono HB2.out.size))
      have HRrd := hid (HR2.out.call HBN.out)
      clear HBw HRr
      go_loopw [6,7] (fun vb vi wr => ∃ n : Nat,Hid (n ≤ c.length) ∧ vi = .int .i64 n ∧ vb = .bool (sst c n).1 ∧ Hid (Below w2.heap.size w2 wr ∧ RB gr (op,a,digL b,(sst c n).2.1,(sst c n).2.2,true) wr)) (fun _ vi _ => 101 - (intOf vi).toNat)
      case atStart => exact ⟨0,Nat.zero_le _,rfl,rfl,HBN.out,HRN.out⟩
      case round =>
       obtain ⟨n,hn,rfl,rfl,HRR⟩ := hrel
       obtain ⟨y0,y1,y2⟩ := HCG.out _ HRR.out.1
       rw [← HSC.out] at y2
       by_cases hnl : n < c.length
       ·have hn1 := hid (show n + 1 ≤ c.length from hnl)
        obtain ⟨ch,hch⟩ : ∃ ch,ch = c[n]'hnl := ⟨_,rfl⟩
        have hget : ∀ h : n < s.size,(s[n]'h) = ch := fun h => by
         have e := HSC.out
         subst e
         exact (str_get c n hnl _).trans hch.symm
        have HSU := hid (sst_succ c n hnl)
        rw [← hch] at HSU
        have hchH := hid hch
        have HLE := hid (sst_len c n)
        obtain ⟨bb,tk,lv,hpp⟩ : ∃ bb tk lv,sst c n = (bb,tk,lv) := ⟨_,_,_,rfl⟩
        rw [hpp] at HRR HLE ⊢
        have HPP := hid hpp
        dsimp only at HRR HLE ⊢
        clear hpp hch
        by_cases hc62 : ch = 62
        ·have hcn : (ch.toNat : Int) = 62 := by rw [hc62]; rfl
         have HST := hid (show sst c (n + 1) = (true,tk,lv) by rw [HSU.out,HPP.out,hc62]; rfl)
         clear hc62
         go_wp2
         go_roundw
         case rel => exact ⟨n + 1,hn1.out,by go_num,by rw [HST.out],HRR.out.1,by rw [HST.out]; exact HRR.out.2⟩
         case measure => (first | (simp [intOf]; done) | (simp [intOf]; omega))
        ·have hcn : ((ch.toNat : Int) == 62) = false := by
          rw [beq_eq_false_iff_ne]
          intro e
          exact hc62 (UInt8.toNat_inj.1 (by have : (62 : UInt8).toNat = 62 := rfl; omega))
         have hc62H := hid hc62
         clear hc62
         cases bb
         ·have HST := hid (show sst c (n + 1) = (false,tk ++ [ch],lv) by rw [HSU.out,HPP.out]; unfold stepS; simp [hc62H.out])
          have hadd := fun W => run_string_add_sum (P := Tryz.prog) W (str tk) (s.extract n (n + 1)) (by rw [str_size,ByteArray.size_extract]; have := HLE.out; omega)
          have hsn : str tk ++ s.extract n (n + 1) = str (tk ++ [ch]) := by rw [HSC.out,str_snoc tk c n hnl,hchH.out]
          rw [hsn] at hadd
          obtain ⟨ys,hys⟩ : ∃ ys,ys = str (tk ++ [ch]) := ⟨_,rfl⟩
          rw [← hys] at hadd
          have hysH := hid hys
          clear hsn hys
          go_wp2_with fail
          have hR := HRR.out.2.drew
          have hS := HRR.out.1.drew
          have hge := HG.out.1
          have hw1 : wrap64 ((n : Int) + 1) = (n : Int) + 1 := by unfold wrap64; omega
          have hb1 : (0 : Int) ≤ (n : Int) + 1 ∧ (n : Int) + 1 ≤ (c.length : Int) := by omega
          have hb2 : (n : Int) ≤ (n : Int) + 1 := by omega
          have hw2 : IntKind.i64.wrap ((n : Int) + 1) = (n : Int) + 1 := by rw [IntKind.wrap_i64]; unfold wrap64 at hw1; exact hw1
          refine wp_region_held_drew (S := Below w2.heap.size w2) (by kernel_rfl) hS (fun _ => ?_)
          clear y0 y1 y2
          generalize wr.drew = W at *
          refine zt 0 (.pointer (some ⟨gr,3,none⟩)) rfl ?_ ?_
          ·(intro W hSw; obtain ⟨y0,y1,y2⟩ := HCG.out W hSw; rw [← HSC.out] at y2; go_simp; try (with_reducible rfl))
          try simp only [Act.put,sl2,sl0,sl1]
          refine zt 2 (.slice (some ⟨g,0,none⟩) 3 cap) rfl ?_ ?_
          ·(intro W hSw; obtain ⟨y0,y1,y2⟩ := HCG.out W hSw; rw [← HSC.out] at y2; go_simp; try (with_reducible rfl))
          try simp only [Act.put,sl2,sl0,sl1]
          refine zt 3 (.pointer (some ⟨g,2,none⟩)) rfl ?_ ?_
          ·(intro W hSw; obtain ⟨y0,y1,y2⟩ := HCG.out W hSw; rw [← HSC.out] at y2; go_simp; try (with_reducible rfl))
          try simp only [Act.put,sl2,sl0,sl1]
          refine zt 4 (.string s) rfl ?_ ?_
          ·(intro W hSw; obtain ⟨y0,y1,y2⟩ := HCG.out W hSw; rw [← HSC.out] at y2; go_simp; try (with_reducible rfl))
          try simp only [Act.put,sl2,sl0,sl1]
          refine zt 5 (.int .i64 (n : Int)) rfl ?_ ?_
          ·(intro W hSw; obtain ⟨y0,y1,y2⟩ := HCG.out W hSw; rw [← HSC.out] at y2; go_simp; try (with_reducible rfl))
          try simp only [Act.put,sl2,sl0,sl1]
          refine zt 6 (.int .i64 (n : Int)) rfl ?_ ?_
          ·(intro W hSw; obtain ⟨y0,y1,y2⟩ := HCG.out W hSw; rw [← HSC.out] at y2; go_simp; try (with_reducible rfl))
          try simp only [Act.put,sl2,sl0,sl1]
          refine zt 7 (.int .i64 ((n : Int) + 1)) rfl ?_ ?_
          ·(intro W hSw; obtain ⟨y0,y1,y2⟩ := HCG.out W hSw; rw [← HSC.out] at y2; go_simp; try (with_reducible rfl))
          try simp only [Act.put,sl2,sl0,sl1]
          refine zt 8 (.string (s.extract n (n + 1))) rfl ?_ ?_
          ·(intro W hSw; obtain ⟨y0,y1,y2⟩ := HCG.out W hSw; rw [← HSC.out] at y2; go_simp; try (with_reducible rfl))
          try simp only [Act.put,sl2,sl0,sl1]
          refine zr 1 rfl (fun K hK => ?_)
          obtain ⟨x0,x1,x2,x3,x4,x5⟩ := hR.cells
          go_simp
          clear x0 x1 x2 x3 x4 x5
          refine hK.out _ _ hS (fun _ => ?_)
          clear hK K
          try simp only [Act.put,sl2,sl0,sl1]
          refine zt 9 (.string ys) rfl ?_ ?_
          ·(intro W hSw; obtain ⟨y0,y1,y2⟩ := HCG.out W hSw; rw [← HSC.out] at y2; go_simp; try (with_reducible rfl))
          try simp only [Act.put,sl2,sl0,sl1]
          refine zt 10 (.pointer (some ⟨gr,3,none⟩)) rfl ?_ ?_
          ·(intro W hSw; obtain ⟨y0,y1,y2⟩ := HCG.out W hSw; rw [← HSC.out] at y2; go_simp; try (with_reducible rfl))
          try simp only [Act.put,sl2,sl0,sl1]
          refine zr 11 rfl (fun K hK => ?_)
          obtain ⟨x0,x1,x2,x3,x4,x5⟩ := hR.cells
          have xf := hR.free
          go_simp
          clear x0 x1 x2 x3 x4 x5 xf
          replace hS : Below w2.heap.size w2 ((W).setCell ⟨gr,3,none⟩ (.string ys)) := hS.setCell (p := ⟨gr,3,none⟩) hge _
          replace hR : RB gr (op,a,digL b,tk ++ [ch],lv,true) ((W).setCell ⟨gr,3,none⟩ (.string ys)) := hR.set (by rw [hysH.out]; rfl)
          generalize (W).setCell ⟨gr,3,none⟩ (.string ys) = W1 at *
          refine hK.out _ _ hS (fun _ => ?_)
          clear hK K
          try simp only [Act.put,sl2,sl0,sl1]
          refine wpAnyH_done (by kernel_rfl) ?_ _
          (go_wp2_with fail)
          go_roundw
          case rel => exact ⟨n + 1,hn1.out,by go_num,by rw [HST.out],hS,by rw [HST.out]; exact hR⟩
          case measure => (first | (simp [intOf]; done) | (simp [intOf]; omega))
         ·have HST := hid (show sst c (n + 1) = (true,tk,lv ++ [ch]) by rw [HSU.out,HPP.out]; unfold stepS; simp [hc62H.out])
          have hadd := fun W => run_string_add_sum (P := Tryz.prog) W (str lv) (s.extract n (n + 1)) (by rw [str_size,ByteArray.size_extract]; have := HLE.out; omega)
          have hsn : str lv ++ s.extract n (n + 1) = str (lv ++ [ch]) := by rw [HSC.out,str_snoc lv c n hnl,hchH.out]
          rw [hsn] at hadd
          obtain ⟨ys,hys⟩ : ∃ ys,ys = str (lv ++ [ch]) := ⟨_,rfl⟩
          rw [← hys] at hadd
          have hysH := hid hys
          clear hsn hys
          go_wp2_with fail
          have hR := HRR.out.2.drew
          have hS := HRR.out.1.drew
          have hge := HG.out.1
          have hw1 : wrap64 ((n : Int) + 1) = (n : Int) + 1 := by unfold wrap64; omega
          have hb1 : (0 : Int) ≤ (n : Int) + 1 ∧ (n : Int) + 1 ≤ (c.length : Int) := by omega
          have hb2 : (n : Int) ≤ (n : Int) + 1 := by omega
          have hw2 : IntKind.i64.wrap ((n : Int) + 1) = (n : Int) + 1 := by rw [IntKind.wrap_i64]; unfold wrap64 at hw1; exact hw1
          refine wp_region_held_drew (S := Below w2.heap.size w2) (by kernel_rfl) hS (fun _ => ?_)
          clear y0 y1 y2
          generalize wr.drew = W at *
          refine zt 0 (.pointer (some ⟨gr,4,none⟩)) rfl ?_ ?_
          ·(intro W hSw; obtain ⟨y0,y1,y2⟩ := HCG.out W hSw; rw [← HSC.out] at y2; go_simp; try (with_reducible rfl))
          try simp only [Act.put,sl2,sl0,sl1]
          refine zt 2 (.slice (some ⟨g,0,none⟩) 3 cap) rfl ?_ ?_
          ·(intro W hSw; obtain ⟨y0,y1,y2⟩ := HCG.out W hSw; rw [← HSC.out] at y2; go_simp; try (with_reducible rfl))
          try simp only [Act.put,sl2,sl0,sl1]
          refine zt 3 (.pointer (some ⟨g,2,none⟩)) rfl ?_ ?_
          ·(intro W hSw; obtain ⟨y0,y1,y2⟩ := HCG.out W hSw; rw [← HSC.out] at y2; go_simp; try (with_reducible rfl))
          try simp only [Act.put,sl2,sl0,sl1]
          refine zt 4 (.string s) rfl ?_ ?_
          ·(intro W hSw; obtain ⟨y0,y1,y2⟩ := HCG.out W hSw; rw [← HSC.out] at y2; go_simp; try (with_reducible rfl))
          try simp only [Act.put,sl2,sl0,sl1]
          refine zt 5 (.int .i64 (n : Int)) rfl ?_ ?_
          ·(intro W hSw; obtain ⟨y0,y1,y2⟩ := HCG.out W hSw; rw [← HSC.out] at y2; go_simp; try (with_reducible rfl))
          try simp only [Act.put,sl2,sl0,sl1]
          refine zt 6 (.int .i64 (n : Int)) rfl ?_ ?_
          ·(intro W hSw; obtain ⟨y0,y1,y2⟩ := HCG.out W hSw; rw [← HSC.out] at y2; go_simp; try (with_reducible rfl))
          try simp only [Act.put,sl2,sl0,sl1]
          refine zt 7 (.int .i64 ((n : Int) + 1)) rfl ?_ ?_
          ·(intro W hSw; obtain ⟨y0,y1,y2⟩ := HCG.out W hSw; rw [← HSC.out] at y2; go_simp; try (with_reducible rfl))
          try simp only [Act.put,sl2,sl0,sl1]
          refine zt 8 (.string (s.extract n (n + 1))) rfl ?_ ?_
          ·(intro W hSw; obtain ⟨y0,y1,y2⟩ := HCG.out W hSw; rw [← HSC.out] at y2; go_simp; try (with_reducible rfl))
          try simp only [Act.put,sl2,sl0,sl1]
          refine zr 1 rfl (fun K hK => ?_)
          obtain ⟨x0,x1,x2,x3,x4,x5⟩ := hR.cells
          go_simp
          clear x0 x1 x2 x3 x4 x5
          refine hK.out _ _ hS (fun _ => ?_)
          clear hK K
          try simp only [Act.put,sl2,sl0,sl1]
          refine zt 9 (.string ys) rfl ?_ ?_
          ·(intro W hSw; obtain ⟨y0,y1,y2⟩ := HCG.out W hSw; rw [← HSC.out] at y2; go_simp; try (with_reducible rfl))
          try simp only [Act.put,sl2,sl0,sl1]
          refine zt 10 (.pointer (some ⟨gr,4,none⟩)) rfl ?_ ?_
          ·(intro W hSw; obtain ⟨y0,y1,y2⟩ := HCG.out W hSw; rw [← HSC.out] at y2; go_simp; try (with_reducible rfl))
          try simp only [Act.put,sl2,sl0,sl1]
          refine zr 11 rfl (fun K hK => ?_)
          obtain ⟨x0,x1,x2,x3,x4,x5⟩ := hR.cells
          have xf := hR.free
          go_simp
          clear x0 x1 x2 x3 x4 x5 xf
          replace hS : Below w2.heap.size w2 ((W).setCell ⟨gr,4,none⟩ (.string ys)) := hS.setCell (p := ⟨gr,4,none⟩) hge _
          replace hR : RB gr (op,a,digL b,tk,lv ++ [ch],true) ((W).setCell ⟨gr,4,none⟩ (.string ys)) := hR.set (by rw [hysH.out]; rfl)
          generalize (W).setCell ⟨gr,4,none⟩ (.string ys) = W1 at *
          refine hK.out _ _ hS (fun _ => ?_)
          clear hK K
          try simp only [Act.put,sl2,sl0,sl1]
          refine wpAnyH_done (by kernel_rfl) ?_ _
          (go_wp2_with fail)
          go_roundw
          case rel => exact ⟨n + 1,hn1.out,by go_num,by rw [HST.out],hS,by rw [HST.out]; exact hR⟩
          case measure => (first | (simp [intOf]; done) | (simp [intOf]; omega))
       ·obtain rfl : n = c.length := by have := hn.out; omega
        obtain ⟨x0,x1,x2,x3,x4,x5⟩ := HRR.out.2.cells
        have HRq := hid (HR2.out.call HRR.out.1)
        obtain ⟨z0,z1,z2,z3,z4,z5⟩ := HRq.out.cells
        have xf := HRR.out.2.free
        have zf := HRq.out.free
        go_wp2
        clear x0 x1 x2 x3 x4 x5 xf z0 z1 z2 z3 z4 z5 zf y0 y1 y2
        have hR3 := HRq.out.store op a (digL b) (sst c c.length).2.1 (sst c c.length).2.2 true
        exact bodyPost_ret (v := rwV (op,a,digL b,(sst c c.length).2.1,(sst c c.length).2.2,true)) (res9 _ _ _ _ hR3 rfl) rfl ⟨by rw [HOF.out,HE2.out],below_six (HB2.out.trans (HRR.out.1.mono HB2.out.size)) (Nat.le_refl _) _ _ _ _ _ _⟩
   ·have HE := hid (show ofText op t = rw0 by
     unfold ofText
     split
     ·rename_i a b c h
      rw [h] at h3
      exact absurd rfl h3
     ·rfl)
    rcases hown.2 with ⟨rfl,h⟩ | ⟨g,cap,cur,rfl,hbg,_,_,_,_,_⟩
    ·clear hown h3 h
     go_wp2_with (go_at_call 13; refine (HN _).out.mono ?_; rintro e w3 ⟨rfl,hb⟩; have HB3 := hid hb; have hR := HR2.out.call hb; obtain ⟨x0,x1,x2,x3,x4,x5⟩ := hR.cells; have xf := hR.free)
     have hR2 := hR.store (-1) [] 0 [] [] false
     obtain ⟨z0,z1,z2,z3,z4,z5⟩ := hR2.cells
     clear x0 x1 x2 x3 x4 x5 xf
     have hbe := below_six (HB2.out.trans (HB3.out.mono HB2.out.size)) (Nat.le_refl _) (.int .i64 (-1)) (.string ⟨#[]⟩) (.int .i64 0) (.string ⟨#[]⟩) (.string ⟨#[]⟩) (.bool false)
     refine bodyPost_ret (v := rwV rw0) ?_ rfl ⟨by rw [HOF.out,HE.out],hbe⟩
     exact res9 _ _ _ _ hR2 rfl
    ·obtain ⟨n,hn⟩ : ∃ n,n = (wordsL t).length := ⟨_,rfl⟩
     rw [← hn] at h3 ⊢
     have hn3 : ((n : Int) != 3) = true := by simp; omega
     clear hown hn h3
     go_wp2_with (go_at_call 13; refine (HN _).out.mono ?_; rintro e w3 ⟨rfl,hb⟩; have HB3 := hid hb; have hR := HR2.out.call hb; obtain ⟨x0,x1,x2,x3,x4,x5⟩ := hR.cells; have xf := hR.free)
     have hR2 := hR.store (-1) [] 0 [] [] false
     obtain ⟨z0,z1,z2,z3,z4,z5⟩ := hR2.cells
     clear x0 x1 x2 x3 x4 x5 xf
     have hbe := below_six (HB2.out.trans (HB3.out.mono HB2.out.size)) (Nat.le_refl _) (.int .i64 (-1)) (.string ⟨#[]⟩) (.int .i64 0) (.string ⟨#[]⟩) (.string ⟨#[]⟩) (.bool false)
     refine bodyPost_ret (v := rwV rw0) ?_ rfl ⟨by rw [HOF.out,HE.out],hbe⟩
     exact res9 _ _ _ _ hR2 rfl
end Go.Proofs.YtbbmbhcbncenaaaGreatDoor
namespace Go.Proofs.YtbbmbhcbncenaaaGreatDoor
open Go.RowKit
theorem agree_any (op : Int) : agree op = true := by
 by_cases h : op ∈ rangeOps
 ·exact List.all_eq_true.1 agree_all op h
 ·have e1 := lineL_out op h
  have e2 : ofL op = rw0 := by unfold ofL; rw [text_out op h]; rfl
  unfold agree
  rw [e1,e2]
  simp only [rw0]
  rw [Bool.and_eq_true]
  refine ⟨by kernel_rfl,rfl⟩
noncomputable def laL (op : Int) : List Int := if fxB (lineL op) then typesL (lineL op).2.2.1.toNat else []
noncomputable def lbL (op : Int) : List Int := if fxB (lineL op) then typesL (lineL op).2.2.2.toNat else []
theorem agree_parts (op : Int) {o : Int} {nm : List UInt8} {im : Int} {tk lv : List UInt8} {fx : Bool} (h : ofL op = (o,nm,im,tk,lv,fx)) :
  knB (lineL op) = decide (0 ≤ o) ∧ (lineL op).1 = str nm ∧ (lineL op).2.1 = im ∧ fxB (lineL op) = fx ∧ laL op = tyL tk ∧ lbL op = tyL lv ∧ tk.length ≤ 100 ∧ lv.length ≤ 100 ∧ (o = -1 ∨ o = op) := by
 have := agree_any op
 unfold agree at this
 rw [h] at this
 simp only [Bool.and_eq_true,decide_eq_true_eq,beq_iff_eq,Bool.or_eq_true] at this
 obtain ⟨⟨⟨⟨⟨⟨⟨⟨h1,h2⟩,h3⟩,h4⟩,h5⟩,h6⟩,h7⟩,h8⟩,h9⟩ := this
 refine ⟨h1,?_,h3,h4,h5,h6,h7,h8,h9⟩
 rw [← h2]
 rfl
def SignP (w : World) (la lb : List Int) (fx : Bool) (e : Ending) (w' : World) : Prop :=
 ∃ v1 v2 B,e = .returned (.tuple #[v1,v2,.bool fx]) ∧ w'.ownsRow w.heap.size 3 1 v1 la.length (ic la) ∧ w'.ownsRow B 3 1 v2 lb.length (ic lb) ∧ w.heap.size ≤ B ∧ (∀ k,v1.ownBlock = some k → k < B) ∧ Below w.heap.size w w'
theorem Sign_any (op : Int) (w : World) (hg : Glob w) : Calls Tryz.prog 18 #[.int .i64 op] w (SignP w (laL op) (lbL op) (fxB (lineL op))) := by
 cases h : fxB (lineL op) with
 | true =>
  have e1 : laL op = typesL (lineL op).2.2.1.toNat := by unfold laL; rw [h]; rfl
  have e2 : lbL op = typesL (lineL op).2.2.2.toNat := by unfold lbL; rw [h]; rfl
  rw [e1,e2]
  exact (sign_yes op w h hg).mono fun e w' hp => hp
 | false =>
  have e1 : laL op = [] := by unfold laL; rw [h]; rfl
  have e2 : lbL op = [] := by unfold lbL; rw [h]; rfl
  rw [e1,e2]
  refine (sign_no op w h).mono fun e w' hp => ?_
  exact ⟨.slice none 0 0,.slice none 0 0,w.heap.size,hp.1,World.ownsRow_nil _ _ _ _,World.ownsRow_nil _ _ _ _,Nat.le_refl _,(fun k hk => by cases hk),hp.2⟩
end Go.Proofs.YtbbmbhcbncenaaaGreatDoor
namespace Go.Proofs.YtbbmbhcbncenaaaGreatDoor.Sc
open Go.RowKit
def vv (t : Int) (lo hi : Nat) (nl : Bool) : Value := .agg #[.int .i64 t,.int .u64 lo,.int .u64 hi,.bool nl]
def CA (g : Nat) (cs : Array Value) (T : TypeId) (W : World) : Prop := W.heap[g]? = some (.cells cs T (0,0))
theorem CA.lt {g : Nat} {cs : Array Value} {T : TypeId} {W : World} (h : CA g cs T W) : g < W.heap.size := (Array.getElem?_eq_some_iff.1 h).1
theorem CA.new (w : World) (cs : Array Value) (T : TypeId) : CA w.heap.size cs T (w.alloc (.cells cs T)) := by
 show (w.heap.push _)[w.heap.size]? = _
 simp
theorem CA.call {g : Nat} {cs : Array Value} {T : TypeId} {W W' : World} (h : CA g cs T W) (hb : Below W.heap.size W W') : CA g cs T W' := by
 unfold CA at h ⊢
 rw [hb.block g (CA.lt h),h]
theorem CA.below {g B : Nat} {cs : Array Value} {T : TypeId} {W W' : World} (h : CA g cs T W) (hb : Below B W W') (hg : g < B) : CA g cs T W' := by
 unfold CA at h ⊢
 rw [hb.block g hg,h]
theorem CA.alloc {g : Nat} {cs : Array Value} {T : TypeId} {W : World} (h : CA g cs T W) (o : Obj) : CA g cs T (W.alloc o) := h.call ((Below.refl _ _).alloc (Nat.le_refl _) o)
theorem CA.drew {g : Nat} {cs : Array Value} {T : TypeId} {W : World} (h : CA g cs T W) : CA g cs T W.drew := h
theorem CA.at {g k : Nat} {cs : Array Value} {T : TypeId} {W : World} {v : Value} (h : CA g cs T W) (hk : cs[k]? = some v) : W.cell? ⟨g,k,none⟩ = some v := by
 unfold CA at h
 rw [World.cell?,h]
 simp [hk]
theorem CA.free {g : Nat} {cs : Array Value} {T : TypeId} {W : World} (h : CA g cs T W) (k : Nat) : W.frozen? ⟨g,k,none⟩ = false := by
 unfold CA at h
 rw [World.frozen?,h]
 simp
theorem CA.set {g k : Nat} {cs : Array Value} {T : TypeId} {W : World} (h : CA g cs T W) (v : Value) : CA g (cs.setIfInBounds k v) T (W.setCell ⟨g,k,none⟩ v) := by
 unfold CA at h ⊢
 rw [World.setCell,Array.getElem?_modify,if_pos rfl,h]
 rfl
theorem CA.far {g c o : Nat} {cs : Array Value} {T : TypeId} {W : World} (h : CA g cs T W) (hne : c ≠ g) (v : Value) : CA g cs T (W.setCell ⟨c,o,none⟩ v) := by
 unfold CA at h ⊢
 rw [World.setCell,Array.getElem?_modify,if_neg hne,h]
theorem below_new {W W' : World} {cs : Array Value} {T : TypeId} (hb : Below (W.alloc (.cells cs T)).heap.size (W.alloc (.cells cs T)) W') : CA W.heap.size cs T W' ∧ Below W.heap.size W W' :=
 ⟨(CA.new W cs T).call hb,((Below.refl _ _).alloc (Nat.le_refl _) _).trans (hb.mono (by simp))⟩
theorem size_al (w : World) (o : Obj) : (w.alloc o).heap.size = w.heap.size + 1 := by simp
abbrev Av := Int × Nat × Nat × Bool
def AR (w : World) (va : Value) (l : List Av) : Prop :=
 ∃ g cap,va = .slice (some ⟨g,0,none⟩) l.length cap ∧ g < w.heap.size ∧ l.length ≤ cap ∧ ∀ (j : Nat) (a : Av),l[j]? = some a →
  w.cell? ⟨g,j * 4,none⟩ = some (.int .i64 a.1) ∧ w.cell? ⟨g,j * 4 + 1,none⟩ = some (.int .u64 (a.2.1 : Nat)) ∧ w.cell? ⟨g,j * 4 + 2,none⟩ = some (.int .u64 (a.2.2.1 : Nat)) ∧ w.cell? ⟨g,j * 4 + 3,none⟩ = some (.bool a.2.2.2)
theorem AR.call {w w' : World} {va : Value} {l : List Av} (h : AR w va l) (hb : Below w.heap.size w w') : AR w' va l := by
 obtain ⟨g,cap,e,hl,hc,ha⟩ := h
 refine ⟨g,cap,e,Nat.lt_of_lt_of_le hl hb.size,hc,fun j a hj => ?_⟩
 obtain ⟨h0,h1,h2,h3⟩ := ha j a hj
 exact ⟨by rw [hb.cell (p := ⟨g,j * 4,none⟩) hl,h0],by rw [hb.cell (p := ⟨g,j * 4 + 1,none⟩) hl,h1],by rw [hb.cell (p := ⟨g,j * 4 + 2,none⟩) hl,h2],by rw [hb.cell (p := ⟨g,j * 4 + 3,none⟩) hl,h3]⟩
def avc (a : Av) : List Value := [.int .i64 a.1,.int .u64 (a.2.1 : Nat),.int .u64 (a.2.2.1 : Nat),.bool a.2.2.2]
theorem info24 : (Tryz.prog.info? 33).map (fun i => (i.zero,i.size,i.bytes)) = some (some (.agg #[.int .i64 0,.int .u64 0,.int .u64 0,.bool false]),4,32) := by kernel_rfl
theorem cell_four_new (w : World) (x0 x1 x2 x3 : Value) (t : TypeId) : ∀ j u,[x0,x1,x2,x3][j]? = some u → (w.alloc (.cells #[x0,x1,x2,x3] t)).cell? ((⟨w.heap.size,0,none⟩ : Addr).add j) = some u := by
 intro j u hj
 have h := CA.new w #[x0,x1,x2,x3] t
 have e : ((⟨w.heap.size,0,none⟩ : Addr).add j) = ⟨w.heap.size,j,none⟩ := by (simp [Addr.add]; try (intro h; exact h.symm))
 rw [e]
 exact h.at (by rw [List.getElem?_toArray]; exact hj)
theorem AR.of1 {w : World} {base : Nat} {v : Value} {a : Av} (h : w.ownsRow base 33 4 v 1 (avc a)) : AR w v [a] := by
 have h0 := h
 rcases h.2 with ⟨_,h2⟩ | ⟨g,cap,cur,rfl,e2,e3,e4,_⟩
 ·omega
 ·refine ⟨g,cap,rfl,(Array.getElem?_eq_some_iff.1 e3).1,e4,fun j b hj => ?_⟩
  cases j with
  | zero =>
   obtain rfl : a = b := by simpa using hj
   exact ⟨h0.cellAt 0 (by decide),h0.cellAt 1 (by decide),h0.cellAt 2 (by decide),h0.cellAt 3 (by decide)⟩
  | succ j => simp at hj
theorem AR.of2 {w : World} {base : Nat} {v : Value} {a b : Av} (h : w.ownsRow base 33 4 v 2 (avc a ++ avc b)) : AR w v [a,b] := by
 have h0 := h
 rcases h.2 with ⟨_,h2⟩ | ⟨g,cap,cur,rfl,e2,e3,e4,_⟩
 ·omega
 ·refine ⟨g,cap,rfl,(Array.getElem?_eq_some_iff.1 e3).1,e4,fun j c hj => ?_⟩
  match j,hj with
  | 0,hj =>
   obtain rfl : a = c := by simpa using hj
   exact ⟨h0.cellAt 0 (by decide),h0.cellAt 1 (by decide),h0.cellAt 2 (by decide),h0.cellAt 3 (by decide)⟩
  | 1,hj =>
   obtain rfl : b = c := by simpa using hj
   exact ⟨h0.cellAt 4 (by decide),h0.cellAt 5 (by decide),h0.cellAt 6 (by decide),h0.cellAt 7 (by decide)⟩
  | j + 2,hj => simp at hj
end Go.Proofs.YtbbmbhcbncenaaaGreatDoor.Sc
