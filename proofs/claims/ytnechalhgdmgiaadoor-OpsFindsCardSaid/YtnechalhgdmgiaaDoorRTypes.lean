/-
  The contracts of the reference's Types (any text of at most 100 bytes) and Same (any two rows in memory).
-/
import Derived.Test.YtnechalhgdmgiaaDoorRStr
import Derived.Test.YtnechalhgdmgiaaDoorTypes
import Derived.RegionTactic
set_option linter.unusedSimpArgs false
set_option linter.unusedVariables false
namespace Go.Proofs.YtnechalhgdmgiaaDoor
open Go.RowKit

def tyOf (c : UInt8) : Option Int := if c = 105 then some 127 else if c = 108 then some 126 else if c = 102 then some 125 else if c = 100 then some 124 else if c = 118 then some 123 else if c = 110 then some 112 else none
def tyL (l : List UInt8) : List Int := l.filterMap tyOf
theorem ty_succ (l : List UInt8) (n : Nat) (h : n < l.length) : tyL (l.take (n + 1)) = tyL (l.take n) ++ (tyOf l[n]).toList := by
  unfold tyL
  rw [List.take_add_one, List.getElem?_eq_getElem h, List.filterMap_append]
  congr 1
theorem ty_len (l : List UInt8) : (tyL l).length ≤ l.length := List.length_filterMap_le _ _

def TRel (w : World) (l : List UInt8) (n : Nat) (vo : Value) (wr : World) : Prop := wr.ownsRow w.heap.size 3 1 vo (tyL (l.take n)).length (ic (tyL (l.take n))) ∧ Below w.heap.size w wr
theorem trel_no {w wr : World} {l : List UInt8} {n : Nat} {vo : Value} {c : UInt8} (h : TRel w l n vo wr) (hC : tyL (l.take (n + 1)) = tyL (l.take n) ++ (tyOf c).toList) (ht : tyOf c = none) : TRel w l (n + 1) vo wr := by
  unfold TRel
  rw [hC, ht]
  simpa [TRel] using h
theorem trel_one {w wr wr' : World} {l : List UInt8} {n : Nat} {vo vo' : Value} {c : UInt8} {t : Int} (h : TRel w l n vo wr) (hC : tyL (l.take (n + 1)) = tyL (l.take n) ++ (tyOf c).toList) (ht : tyOf c = some t)
    (hown : wr'.ownsRow w.heap.size 3 1 vo' ((tyL (l.take n)).length + 1) (ic (tyL (l.take n)) ++ [.int .i64 t])) (hb : Below w.heap.size wr wr') : TRel w l (n + 1) vo' wr' := by
  unfold TRel
  rw [hC, ht]
  refine ⟨?_, h.2.trans hb⟩
  simpa [ic] using hown

set_option maxHeartbeats 8000000 in
theorem reftypes_says (l : List UInt8) (hl : l.length ≤ 100) (w : World) : Calls Tryd.prog 15 #[.string (str l)] w (TyPost w (tyL l)) := by
  obtain ⟨s, hs⟩ : ∃ s, s = str l := ⟨_, rfl⟩
  have hsz : s.size = l.length := by rw [hs, str_size]
  rw [← hs]
  have HS := hid hs
  clear hs
  obtain ⟨L, hL⟩ : ∃ L, L = l.length := ⟨_, rfl⟩
  rw [← hL] at hsz hl
  have HL := hid hL
  clear hL
  go_enter Tryd.func15, Tryd.ntmps15
  go_wp2
  go_loopw [3, 4] (fun vo vi wr => ∃ n : Nat, Hid (n ≤ L) ∧ vi = .int .i64 n ∧ Hid (TRel w l n vo wr)) (fun _ vi _ => 100 - (intOf vi).toNat)
  case atStart => exact ⟨0, Nat.zero_le _, rfl, World.ownsRow_nil w w.heap.size 3 1, Below.refl _ _⟩
  case round =>
    obtain ⟨n, hn, rfl, HR⟩ := hrel
    by_cases hlt : n < L
    · have hn1 := hid (show n + 1 ≤ L by omega)
      have hnll : n < l.length := by rw [← HL.out]; exact hlt
      obtain ⟨c, hc⟩ : ∃ c, c = l[n]'hnll := ⟨_, rfl⟩
      have hget : ∀ h : n < s.size, (s[n]'h) = c := fun h => by
        have e := HS.out
        subst e
        exact (str_get l n hnll _).trans hc.symm
      have HC := hid (ty_succ l n hnll)
      rw [← hc] at HC
      have hlen := hid (ty_len (l.take n))
      have hlt2 := hid (show (l.take n).length ≤ 100 by rw [List.length_take]; omega)
      have hsz2 := HR.out.2.size
      clear hc
      by_cases h105 : c = 105
      · have ht := hid (show tyOf c = some 127 by rw [h105]; decide)
        have hcn : (c.toNat : Int) = 105 := by rw [h105]; rfl
        clear h105
        go_wp2_with (at_builtin; refine append_int rfl _ _ rfl w.heap.size _ _ _ 127 HR.out.1 hsz2 (by have := hlen.out; have := hlt2.out; omega) rfl rfl ?_; intro v' w3 hown' hnx3 hsz3)
        go_roundw
        case rel => exact ⟨n + 1, hn1.out, by go_num, trel_one HR.out HC.out ht.out hown' hnx3⟩
        case measure => (first | (simp [intOf]; done) | (simp [intOf]; omega))
      have n105 : ((c.toNat : Int) == 105) = false := by
        rw [beq_eq_false_iff_ne]
        intro e
        exact h105 (UInt8.toNat_inj.1 (by have : (105 : UInt8).toNat = 105 := rfl; omega))
      by_cases h108 : c = 108
      · have ht := hid (show tyOf c = some 126 by rw [h108]; decide)
        have hcn : (c.toNat : Int) = 108 := by rw [h108]; rfl
        clear h108
        clear h105 n105
        go_wp2_with (at_builtin; refine append_int rfl _ _ rfl w.heap.size _ _ _ 126 HR.out.1 hsz2 (by have := hlen.out; have := hlt2.out; omega) rfl rfl ?_; intro v' w3 hown' hnx3 hsz3)
        go_roundw
        case rel => exact ⟨n + 1, hn1.out, by go_num, trel_one HR.out HC.out ht.out hown' hnx3⟩
        case measure => (first | (simp [intOf]; done) | (simp [intOf]; omega))
      have n108 : ((c.toNat : Int) == 108) = false := by
        rw [beq_eq_false_iff_ne]
        intro e
        exact h108 (UInt8.toNat_inj.1 (by have : (108 : UInt8).toNat = 108 := rfl; omega))
      by_cases h102 : c = 102
      · have ht := hid (show tyOf c = some 125 by rw [h102]; decide)
        have hcn : (c.toNat : Int) = 102 := by rw [h102]; rfl
        clear h102
        clear h105 n105
        clear h108 n108
        go_wp2_with (at_builtin; refine append_int rfl _ _ rfl w.heap.size _ _ _ 125 HR.out.1 hsz2 (by have := hlen.out; have := hlt2.out; omega) rfl rfl ?_; intro v' w3 hown' hnx3 hsz3)
        go_roundw
        case rel => exact ⟨n + 1, hn1.out, by go_num, trel_one HR.out HC.out ht.out hown' hnx3⟩
        case measure => (first | (simp [intOf]; done) | (simp [intOf]; omega))
      have n102 : ((c.toNat : Int) == 102) = false := by
        rw [beq_eq_false_iff_ne]
        intro e
        exact h102 (UInt8.toNat_inj.1 (by have : (102 : UInt8).toNat = 102 := rfl; omega))
      by_cases h100 : c = 100
      · have ht := hid (show tyOf c = some 124 by rw [h100]; decide)
        have hcn : (c.toNat : Int) = 100 := by rw [h100]; rfl
        clear h100
        clear h105 n105
        clear h108 n108
        clear h102 n102
        go_wp2_with (at_builtin; refine append_int rfl _ _ rfl w.heap.size _ _ _ 124 HR.out.1 hsz2 (by have := hlen.out; have := hlt2.out; omega) rfl rfl ?_; intro v' w3 hown' hnx3 hsz3)
        go_roundw
        case rel => exact ⟨n + 1, hn1.out, by go_num, trel_one HR.out HC.out ht.out hown' hnx3⟩
        case measure => (first | (simp [intOf]; done) | (simp [intOf]; omega))
      have n100 : ((c.toNat : Int) == 100) = false := by
        rw [beq_eq_false_iff_ne]
        intro e
        exact h100 (UInt8.toNat_inj.1 (by have : (100 : UInt8).toNat = 100 := rfl; omega))
      by_cases h118 : c = 118
      · have ht := hid (show tyOf c = some 123 by rw [h118]; decide)
        have hcn : (c.toNat : Int) = 118 := by rw [h118]; rfl
        clear h118
        clear h105 n105
        clear h108 n108
        clear h102 n102
        clear h100 n100
        go_wp2_with (at_builtin; refine append_int rfl _ _ rfl w.heap.size _ _ _ 123 HR.out.1 hsz2 (by have := hlen.out; have := hlt2.out; omega) rfl rfl ?_; intro v' w3 hown' hnx3 hsz3)
        go_roundw
        case rel => exact ⟨n + 1, hn1.out, by go_num, trel_one HR.out HC.out ht.out hown' hnx3⟩
        case measure => (first | (simp [intOf]; done) | (simp [intOf]; omega))
      have n118 : ((c.toNat : Int) == 118) = false := by
        rw [beq_eq_false_iff_ne]
        intro e
        exact h118 (UInt8.toNat_inj.1 (by have : (118 : UInt8).toNat = 118 := rfl; omega))
      by_cases h110 : c = 110
      · have ht := hid (show tyOf c = some 112 by rw [h110]; decide)
        have hcn : (c.toNat : Int) = 110 := by rw [h110]; rfl
        clear h110
        clear h105 n105
        clear h108 n108
        clear h102 n102
        clear h100 n100
        clear h118 n118
        go_wp2_with (at_builtin; refine append_int rfl _ _ rfl w.heap.size _ _ _ 112 HR.out.1 hsz2 (by have := hlen.out; have := hlt2.out; omega) rfl rfl ?_; intro v' w3 hown' hnx3 hsz3)
        go_roundw
        case rel => exact ⟨n + 1, hn1.out, by go_num, trel_one HR.out HC.out ht.out hown' hnx3⟩
        case measure => (first | (simp [intOf]; done) | (simp [intOf]; omega))
      have n110 : ((c.toNat : Int) == 110) = false := by
        rw [beq_eq_false_iff_ne]
        intro e
        exact h110 (UInt8.toNat_inj.1 (by have : (110 : UInt8).toNat = 110 := rfl; omega))
      have ht := hid (show tyOf c = none by unfold tyOf; rw [if_neg h105, if_neg h108, if_neg h102, if_neg h100, if_neg h118, if_neg h110])
      clear h105 h108 h102 h100 h118 h110
      go_wp2
      go_roundw
      case rel => exact ⟨n + 1, hn1.out, by go_num, trel_no HR.out HC.out ht.out⟩
      case measure => (first | (simp [intOf]; done) | (simp [intOf]; omega))
    · obtain rfl : n = L := by have := hn.out; omega
      have e : l.take n = l := by rw [HL.out, List.take_length]
      have hr := HR.out
      unfold TRel at hr
      rw [e] at hr
      go_wp2
      go_ret
      exact ⟨_, rfl, hr.1, hr.2⟩

end Go.Proofs.YtnechalhgdmgiaaDoor
