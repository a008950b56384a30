/-
  RWords: merged, what the law does not reach left out (each text says what it holds where it lies in wip). No condition.
-/
import Derived.Test.YtjgeedgphcjhoaaGreatO12
set_option linter.unusedSimpArgs false
set_option linter.unusedVariables false
set_option maxRecDepth 100000
namespace Go.Proofs.YtjgeedgphcjhoaaGreat
open Go.RowKit
def WordsPost (w : World) (l : List UInt8) (e : Ending) (w' : World) : Prop :=
 ∃ v,e = .returned v ∧ w'.ownsRow w.heap.size 9 1 v (wordsL l).length (sc (wordsL l)) ∧ Below w.heap.size w w'
def WRel (w : World) (l : List UInt8) (n : Nat) (vo vw : Value) (wr : World) : Prop :=
 vw = .string (str (wst l n).2) ∧ wr.ownsRow w.heap.size 9 1 vo (wst l n).1.length (sc (wst l n).1) ∧ Below w.heap.size w wr
theorem beq_str_empty (x : List UInt8) : (str x).toList.isEmpty = decide (x = []) := by rw [str_list]; cases x <;> simp
theorem rel_sp0 {w wr : World} {l : List UInt8} {n : Nat} {o : List (List UInt8)} {x : List UInt8} {vo : Value} (hp : wst l n = (o,x)) (hC : wst l (n + 1) = stepW (wst l n) 32) (hx : x = [])
  (hown : wr.ownsRow w.heap.size 9 1 vo o.length (sc o)) (hb : Below w.heap.size w wr) : WRel w l (n + 1) vo (.string ⟨#[]⟩) wr := by
 unfold WRel
 rw [hC,hp]
 subst hx
 exact ⟨rfl,hown,hb⟩
theorem rel_sp1 {w wr : World} {l : List UInt8} {n : Nat} {o : List (List UInt8)} {x : List UInt8} {vo : Value} (hp : wst l n = (o,x)) (hC : wst l (n + 1) = stepW (wst l n) 32) (hx : ¬ x = [])
  (hown : wr.ownsRow w.heap.size 9 1 vo (o.length + 1) (sc o ++ [.string (str x)])) (hb : Below w.heap.size w wr) : WRel w l (n + 1) vo (.string ⟨#[]⟩) wr := by
 unfold WRel
 rw [hC,hp]
 have e : stepW (o,x) 32 = (o ++ [x],[]) := by simp [stepW,hx]
 rw [e]
 refine ⟨rfl,?_,hb⟩
 simpa [sc] using hown
theorem rel_ch {w wr : World} {l : List UInt8} {n : Nat} {c : UInt8} {o : List (List UInt8)} {x : List UInt8} {vo : Value} (hp : wst l n = (o,x)) (hC : wst l (n + 1) = stepW (wst l n) c) (hc : ¬ c = 32)
  (hown : wr.ownsRow w.heap.size 9 1 vo o.length (sc o)) (hb : Below w.heap.size w wr) : WRel w l (n + 1) vo (.string (str (x ++ [c]))) wr := by
 unfold WRel
 rw [hC,hp]
 have e : stepW (o,x) c = (o,x ++ [c]) := by simp [stepW,hc]
 rw [e]
 exact ⟨rfl,hown,hb⟩
set_option maxHeartbeats 4000000 in
theorem words_says (l : List UInt8) (hl : l.length ≤ 100) (w : World) : Calls Tryz.prog 219 #[.string (str l)] w (WordsPost w l) := by
 obtain ⟨s,hs⟩ : ∃ s,s = str l := ⟨_,rfl⟩
 have hsz : s.size = l.length := by rw [hs,str_size]
 rw [← hs]
 have HS := hid hs
 clear hs
 obtain ⟨L,hL⟩ : ∃ L,L = l.length := ⟨_,rfl⟩
 rw [← hL] at hsz hl
 have HL := hid hL
 clear hL
 go_enter Tryz.func219,Tryz.ntmps219
 go_wp2
 go_loopw [3,4,5] (fun vo vw vi wr => ∃ n : Nat,Hid (n ≤ L + 1) ∧ vi = .int .i64 n ∧ Hid (WRel w l n vo vw wr)) (fun _ _ vi _ => 101 - (intOf vi).toNat)
 case atStart => exact ⟨0,Nat.zero_le _,rfl,rfl,World.ownsRow_nil w w.heap.size 9 1,Below.refl _ _⟩
 case round =>
  obtain ⟨n,hn,rfl,HR⟩ := hrel
  obtain ⟨o,x,hp⟩ : ∃ o x,wst l n = (o,x) := ⟨_,_,rfl⟩
  have hlen := wst_len l n
  rw [hp] at hlen
  have hrel := HR.out
  unfold WRel at hrel
  rw [hp] at hrel
  obtain ⟨rfl,hown,hb⟩ := hrel
  dsimp only at hown hlen
  by_cases hlt : n ≤ L
  ·have hn1 := hid (show n + 1 ≤ L + 1 by omega)
   have hlenH := hid hlen
   have HO := hid hown
   have HB := hid hb
   have hsz2 := hb.size
   have HP := hid hp
   clear hown hb hp hlen
   have hxe := beq_str_empty x
   by_cases hnL : n = L
   ·subst hnL
    have HC := hid (wst_succ l n 32 (by rw [List.getElem?_append_right (by rw [HL.out]; exact Nat.le_refl _)]; simp [HL.out]))
    by_cases hx : x = []
    ·have hx2 := hid hx
     rw [decide_eq_true hx] at hxe
     obtain ⟨xs,hxs⟩ : ∃ xs,xs = str x := ⟨_,rfl⟩
     rw [← hxs] at hxe ⊢
     clear hx hxs
     go_wp2
     go_roundw
     case rel => exact ⟨n + 1,hn1.out,by go_num,rel_sp0 HP.out HC.out hx2.out HO.out HB.out⟩
     case measure => (first | (simp [intOf]; done) | (simp [intOf]; omega))
    ·have hx2 := hid hx
     rw [decide_eq_false hx] at hxe
     obtain ⟨xs,hxs⟩ : ∃ xs,xs = str x := ⟨_,rfl⟩
     rw [← hxs] at hxe ⊢
     have hxsH := hid hxs
     clear hx hxs
     go_wp2_with (at_builtin; refine append_str rfl _ _ rfl w.heap.size _ _ _ xs HO.out hsz2 (by have := hlenH.out; have := hn.out; omega) rfl rfl ?_; intro v' w3 hown' hnx3 hsz3)
     go_roundw
     case rel => exact ⟨n + 1,hn1.out,by go_num,rel_sp1 HP.out HC.out hx2.out (by rw [← hxsH.out]; exact hown') (HB.out.trans hnx3)⟩
     case measure => (first | (simp [intOf]; done) | (simp [intOf]; omega))
   ·have hnl : n < L := by omega
    have hnll : n < l.length := by rw [← HL.out]; exact hnl
    obtain ⟨c,hc⟩ : ∃ c,c = l[n]'hnll := ⟨_,rfl⟩
    have HC := hid (wst_succ l n c (by rw [List.getElem?_append_left hnll,List.getElem?_eq_getElem hnll,hc]))
    have hget : ∀ h : n < s.size,(s[n]'h) = c := fun h => by
     have e := HS.out
     subst e
     exact (str_get l n hnll _).trans hc.symm
    by_cases hc32 : c = 32
    ·have hcn : (c.toNat : Int) = 32 := by rw [hc32]; rfl
     have HC := hid (show wst l (n + 1) = stepW (wst l n) 32 by rw [← hc32]; exact HC.out)
     clear hc32 hc
     by_cases hx : x = []
     ·have hx2 := hid hx
      rw [decide_eq_true hx] at hxe
      obtain ⟨xs,hxs⟩ : ∃ xs,xs = str x := ⟨_,rfl⟩
      rw [← hxs] at hxe ⊢
      clear hx hxs
      go_wp2
      go_roundw
      case rel => exact ⟨n + 1,hn1.out,by go_num,rel_sp0 HP.out HC.out hx2.out HO.out HB.out⟩
      case measure => (first | (simp [intOf]; done) | (simp [intOf]; omega))
     ·have hx2 := hid hx
      rw [decide_eq_false hx] at hxe
      obtain ⟨xs,hxs⟩ : ∃ xs,xs = str x := ⟨_,rfl⟩
      rw [← hxs] at hxe ⊢
      have hxsH := hid hxs
      clear hx hxs
      go_wp2_with (at_builtin; refine append_str rfl _ _ rfl w.heap.size _ _ _ xs HO.out hsz2 (by have := hlenH.out; have := hn.out; omega) rfl rfl ?_; intro v' w3 hown' hnx3 hsz3)
      go_roundw
      case rel => exact ⟨n + 1,hn1.out,by go_num,rel_sp1 HP.out HC.out hx2.out (by rw [← hxsH.out]; exact hown') (HB.out.trans hnx3)⟩
      case measure => (first | (simp [intOf]; done) | (simp [intOf]; omega))
    ·have hcn : ((c.toNat : Int) == 32) = false := by
      rw [beq_eq_false_iff_ne]
      intro e
      apply hc32
      exact UInt8.toNat_inj.1 (by have : (32 : UInt8).toNat = 32 := rfl; omega)
     have hadd := fun W => run_string_add_sum (P := Tryz.prog) W (str x) (s.extract n (n + 1)) (by rw [str_size,ByteArray.size_extract]; have := hlenH.out; have := hn.out; omega)
     have hsn : str x ++ s.extract n (n + 1) = str (x ++ [c]) := by rw [HS.out,str_snoc x l n hnll,hc]
     rw [hsn] at hadd
     obtain ⟨xs,hxs⟩ : ∃ xs,xs = str x := ⟨_,rfl⟩
     obtain ⟨ys,hys⟩ : ∃ ys,ys = str (x ++ [c]) := ⟨_,rfl⟩
     rw [← hxs,← hys] at hadd
     rw [← hxs] at hxe ⊢
     have hysH := hid hys
     have hccH := hid hc32
     clear hsn hxs hys hc32 hc hxe
     go_wp2
     go_roundw
     case rel => exact ⟨n + 1,hn1.out,by go_num,by rw [hysH.out]; exact rel_ch HP.out HC.out hccH.out HO.out HB.out⟩
     case measure => (first | (simp [intOf]; done) | (simp [intOf]; omega))
  ·obtain rfl : n = L + 1 := by have := hn.out; omega
   go_wp2
   go_ret
   refine ⟨_,rfl,?_,hb⟩
   have e : wordsL l = o := by unfold wordsL; rw [← HL.out,hp]
   rw [e]
   exact hown
end Go.Proofs.YtjgeedgphcjhoaaGreat
