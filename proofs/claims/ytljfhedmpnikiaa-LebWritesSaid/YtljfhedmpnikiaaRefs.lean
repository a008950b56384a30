/-
  The contracts of the document's answers for numbers and names as bytes (bodkinref01.U, S, Name): the same lists of bytes. Condition on Name alone: fewer than 2^47 - 200 bytes.
-/
import Derived.Test.YtljfhedmpnikiaaBase
import Derived.Test.YtljfhedmpnikiaaNums
import Derived.Lib.AppendStr
namespace Go.Proofs.Ytljfhedmpnikiaa
open Go.RowKit

set_option maxHeartbeats 800000 in
theorem refU_any (x : Nat) (hx : x < 18446744073709551616) (w : World) :
    Calls Try.prog 13 #[.int .u64 x] w fun e w' => ∃ v', e = .returned v' ∧ w'.ownsRow w.heap.size 5 1 v' (ulist x).length (Lib.byteCells (ulist x)) ∧ Below w.heap.size w w' := by
  have hlen := ulist_length64 hx
  go_enter Try.func13, Try.ntmps13
  go_wp2
  go_loopw [0, 3] (fun vx vb wr => ∃ (y : Nat) (pre : List UInt8), vx = .int .u64 y ∧ y ≤ x ∧ ulist x = pre ++ ulist y ∧ wr.ownsRow w.heap.size 5 1 vb pre.length (Lib.byteCells pre) ∧ Below w.heap.size w wr)
    (fun vx _ _ => (intOf vx).toNat)
  case atStart => exact ⟨x, [], rfl, Nat.le_refl _, rfl, World.ownsRow_nil _ _ _ _, Below.refl _ _⟩
  case round =>
    obtain ⟨y, pre, rfl, hy, hsplit, hown1, hnx⟩ := hrel
    have hpl : pre.length + (ulist y).length ≤ 10 := by
      have h2 := congrArg List.length hsplit
      rw [List.length_append] at h2
      omega
    have hyp := ulist_pos y
    have hwr := hnx.size
    have HS := hid hsplit
    clear hsplit
    by_cases h128 : 128 ≤ y
    · go_wp2_with (at_builtin; refine append_byte rfl _ _ rfl w w.heap.size _ _ _ _ hown1 hnx hwr (by omega) rfl rfl ?_; intro v' w1 hown' hnx1 hsz1)
      go_roundw
      case rel =>
        refine ⟨y / 128, pre ++ [(y % 128 + 128).toUInt8], by go_num, by omega, by rw [HS.out, ulist_big h128]; simp, ?_, hnx1⟩
        have ec : ((y % 128 + 128 : Nat) : Int) = 128 + (y : Int) % 128 := by omega
        rw [byteCells_snoc pre (by omega), List.length_append, List.length_singleton, ec]
        exact hown'
      case measure => simp [intOf]; omega
    · have HM := hid (ulist_small (x := y) (by omega))
      go_wp2_with (at_builtin; refine append_byte rfl _ _ rfl w w.heap.size _ _ _ _ hown1 hnx hwr (by omega) rfl rfl ?_; intro v' w1 hown' hnx1 hsz1)
      go_ret
      refine ⟨v', rfl, ?_, hnx1⟩
      rw [HS.out, HM.out, byteCells_snoc pre (by omega)]
      simp only [List.length_append, List.length_singleton]
      exact hown'

set_option maxHeartbeats 1600000 in
theorem refS_any (x : Int) (hx0 : -9223372036854775808 ≤ x) (hx : x ≤ 9223372036854775807) (w : World) :
    Calls Try.prog 14 #[.int .i64 x] w fun e w' => ∃ v', e = .returned v' ∧ w'.ownsRow w.heap.size 5 1 v' (slist x).length (Lib.byteCells (slist x)) ∧ Below w.heap.size w w' := by
  have hlen := slist_length64 hx0 hx
  go_enter Try.func14, Try.ntmps14
  go_wp2
  go_loopw [0, 3] (fun vx vb wr => ∃ (y : Int) (pre : List UInt8), vx = .int .i64 y ∧ -9223372036854775808 ≤ y ∧ y ≤ 9223372036854775807 ∧ slist x = pre ++ slist y ∧ wr.ownsRow w.heap.size 5 1 vb pre.length (Lib.byteCells pre) ∧ Below w.heap.size w wr)
    (fun vx _ _ => (intOf vx).natAbs)
  case atStart => exact ⟨x, [], rfl, hx0, hx, rfl, World.ownsRow_nil _ _ _ _, Below.refl _ _⟩
  case round =>
    obtain ⟨y, pre, rfl, hy0, hy, hsplit, hown1, hnx⟩ := hrel
    have hpl : pre.length + (slist y).length ≤ 10 := by
      have h2 := congrArg List.length hsplit
      rw [List.length_append] at h2
      omega
    have hyp := slist_pos y
    have hwr := hnx.size
    have HS := hid hsplit
    clear hsplit
    obtain ⟨d, hd⟩ : ∃ d : Nat, y % 128 = (d : Int) := ⟨(y % 128).toNat, by omega⟩
    have hdl : d < 128 := by omega
    have HD := hid hd
    by_cases hsm : -64 ≤ y ∧ y < 64
    · obtain ⟨h1, h2⟩ := hsm
      have hd1 : decide (y < -64) = false := by simp; omega
      have hd2 : decide (63 < y) = false := by simp; omega
      have HM := hid (slist_small (m := y) ⟨h1, h2⟩)
      by_cases hneg : y < 0
      · have he : y + 128 = (d : Int) := by omega
        clear hd
        go_wp2_with (at_builtin; refine append_byte rfl _ _ rfl w w.heap.size _ _ _ _ hown1 hnx hwr (by omega) rfl rfl ?_; intro v' w1 hown' hnx1 hsz1)
        go_ret
        refine ⟨v', rfl, ?_, hnx1⟩
        rw [HS.out, HM.out, HD.out, Int.toNat_natCast, byteCells_snoc pre (by omega)]
        simp only [List.length_append, List.length_singleton]
        exact hown'
      · obtain rfl : y = (d : Int) := by omega
        clear hd
        go_wp2_with (at_builtin; refine append_byte rfl _ _ rfl w w.heap.size _ _ _ _ hown1 hnx hwr (by omega) rfl rfl ?_; intro v' w1 hown' hnx1 hsz1)
        go_ret
        refine ⟨v', rfl, ?_, hnx1⟩
        rw [HS.out, HM.out, HD.out, Int.toNat_natCast, byteCells_snoc pre (by omega)]
        simp only [List.length_append, List.length_singleton]
        exact hown'
    · have HB := hid (slist_big hsm)
      have hq := tdiv128_exact hd
      have hlo : -9223372036854775808 ≤ y - (d : Int) := by omega
      rcases (show y < -64 ∨ 63 < y by omega) with hneg | hneg
      · have hd1 : decide (y < -64) = true := by simp; omega
        have hd2 : decide (63 < y) = false := by simp; omega
        have hm := tmod128_neg (y := y) (by omega)
        by_cases hd0 : d = 0
        · have he : y.tmod 128 = (d : Int) := by omega
          clear hsm hd hm hd0
          go_wp2_with (at_builtin; refine append_byte rfl _ _ rfl w w.heap.size _ _ _ _ hown1 hnx hwr (by omega) rfl rfl ?_; intro v' w1 hown' hnx1 hsz1)
          go_roundw
          case rel =>
            refine ⟨y / 128, pre ++ [(d + 128).toUInt8], by go_num, by omega, by omega, by rw [HS.out, HB.out, HD.out, Int.toNat_natCast]; simp, ?_, hnx1⟩
            have ec : ((d + 128 : Nat) : Int) = 128 + (d : Int) := by omega
            rw [byteCells_snoc pre (by omega), List.length_append, List.length_singleton, ec]
            exact hown'
          case measure => simp [intOf]; omega
        · have he : y.tmod 128 = (d : Int) - 128 := by omega
          clear hsm hd hm hd0
          go_wp2_with (at_builtin; refine append_byte rfl _ _ rfl w w.heap.size _ _ _ _ hown1 hnx hwr (by omega) rfl rfl ?_; intro v' w1 hown' hnx1 hsz1)
          go_roundw
          case rel =>
            refine ⟨y / 128, pre ++ [(d + 128).toUInt8], by go_num, by omega, by omega, by rw [HS.out, HB.out, HD.out, Int.toNat_natCast]; simp, ?_, hnx1⟩
            have ec : ((d + 128 : Nat) : Int) = 128 + (d : Int) := by omega
            rw [byteCells_snoc pre (by omega), List.length_append, List.length_singleton, ec]
            exact hown'
          case measure => simp [intOf]; omega
      · have hd1 : decide (y < -64) = false := by simp; omega
        have hd2 : decide (63 < y) = true := by simp; omega
        have he : y.tmod 128 = (d : Int) := by rw [tmod128_pos (by omega), hd]
        clear hsm hd
        go_wp2_with (at_builtin; refine append_byte rfl _ _ rfl w w.heap.size _ _ _ _ hown1 hnx hwr (by omega) rfl rfl ?_; intro v' w1 hown' hnx1 hsz1)
        go_roundw
        case rel =>
          refine ⟨y / 128, pre ++ [(d + 128).toUInt8], by go_num, by omega, by omega, by rw [HS.out, HB.out, HD.out, Int.toNat_natCast]; simp, ?_, hnx1⟩
          have ec : ((d + 128 : Nat) : Int) = 128 + (d : Int) := by omega
          rw [byteCells_snoc pre (by omega), List.length_append, List.length_singleton, ec]
          exact hown'
        case measure => simp [intOf]; omega

set_option maxHeartbeats 800000 in
theorem refName_any (s : ByteArray) (w : World) (hl : s.size + 400 ≤ 140737488355328) :
    Calls Try.prog 15 #[.string s] w fun e w' => ∃ v', e = .returned v' ∧ w'.ownsRow w.heap.size 5 1 v' (ulist s.size ++ s.data.toList).length (Lib.byteCells (ulist s.size ++ s.data.toList)) ∧ Below w.heap.size w w' := by
  have hlen := ulist_length64 (x := s.size) (by omega)
  obtain ⟨i0, hi, hz0, hz1, hz2⟩ := info_parts info5
  go_enter Try.func15, Try.ntmps15
  go_wp2_with (first
    | (go_at_call 13; refine (refU_any s.size (by omega) _).mono ?_; rintro e w1 ⟨v1, rfl, hown1, hbel1⟩)
    | (at_builtin; refine Lib.wpList_append_own_string _ rfl (.tmp 6) (.tmp 7) 22 9 rfl w.heap.size 5 i0 Try.underlying22 Try.underlying9 hi hz0 hz1 hz2 v1 (ulist s.size).length (Lib.byteCells (ulist s.size)) rfl hown1 s rfl (by unfold maxLen; omega) (by omega) hbel1.size ?_; intro v2 w2 hown2 hgrow2 _))
  go_ret
  refine ⟨v2, rfl, ?_, hbel1.grown hgrow2 hbel1.size (fun k hk => (hown1.lt k hk).1)⟩
  rw [Lib.strCells_eq] at hown2
  have e : (ulist s.size ++ s.data.toList).length = (ulist s.size).length + s.size := by rw [List.length_append]; rfl
  rw [e, Lib.byteCells_append (ulist s.size)]
  exact hown2

end Go.Proofs.Ytljfhedmpnikiaa
