/-
  The contracts of the program's own leb.U, leb.S and leb.Name: the bytes handed in, then the number's bytes (and the name's), in new memory. Condition: fewer than 2^47 - 200 bytes.
-/
import Derived.Test.YtljfhedmpnikiaaBase
import Derived.Test.YtljfhedmpnikiaaNums
import Derived.Lib.AppendStr
namespace Go.Proofs.Ytljfhedmpnikiaa
open Go.RowKit

set_option maxHeartbeats 800000 in
theorem U_in (B : Nat) (v : Value) (l : List UInt8) (x : Nat) (hx : x < 18446744073709551616) (w : World) (hv : BytesIn B w v l) (hB : B ≤ w.heap.size) (hl : l.length + 200 ≤ 140737488355328) :
    Calls Try.prog 10 #[v, .int .u64 x] w fun e w' => ∃ v', e = .returned v' ∧ w'.ownsRow w.heap.size 5 1 v' (l ++ ulist x).length (Lib.byteCells (l ++ ulist x)) ∧ Below w.heap.size w w' := by
  have hlen := ulist_length64 hx
  go_enter Try.func10, Try.ntmps10
  go_wp2_with (go_at_call 33; refine (copied_in B _ l 10 _ hv hB (by omega) (by omega)).mono ?_; rintro e w1 ⟨v1, rfl, hown1, hbel1⟩)
  go_loopw [1, 5] (fun vx vb wr => ∃ (y : Nat) (pre : List UInt8), vx = .int .u64 y ∧ y ≤ x ∧ ulist x = pre ++ ulist y ∧ wr.ownsRow w.heap.size 5 1 vb (l.length + pre.length) (Lib.byteCells l ++ Lib.byteCells pre) ∧ Below w.heap.size w wr)
    (fun vx _ _ => (intOf vx).toNat)
  case atStart => exact ⟨x, [], rfl, Nat.le_refl _, rfl, by simpa [Lib.byteCells] using hown1, hbel1⟩
  case round =>
    obtain ⟨y, pre, rfl, hy, hsplit, hown1, hnx⟩ := hrel
    have hpl : pre.length + (ulist y).length ≤ 10 := by
      have h2 := congrArg List.length hsplit
      rw [List.length_append] at h2
      omega
    have hyp := ulist_pos y
    have hwr := hnx.size
    have HS := hid hsplit
    clear hsplit
    by_cases h128 : 128 ≤ y
    · have hor : bits .or .u8 ((y : Int) % 256) 128 = ((y % 128 + 128 : Nat) : Int) := by
        rw [u8_or128 _ (by omega) (by omega)]
        omega
      go_wp2_with (at_builtin; refine append_byte rfl _ _ rfl w w.heap.size _ _ _ _ hown1 hnx hwr (by omega) rfl rfl ?_; intro v' w1 hown' hnx1 hsz1)
      go_roundw
      case rel =>
        refine ⟨y / 128, pre ++ [(y % 128 + 128).toUInt8], by go_num, by omega, by rw [HS.out, ulist_big h128]; simp, ?_, hnx1⟩
        have ec : ((y % 128 + 128 : Nat) : Int) = (y : Int) % 128 + 128 := by omega
        rw [byteCells_snoc pre (by omega), List.length_append, List.length_singleton, ← Nat.add_assoc, ec, ← List.append_assoc]
        exact hown'
      case measure => simp [intOf]; omega
    · have HM := hid (ulist_small (x := y) (by omega))
      go_wp2_with (at_builtin; refine append_byte rfl _ _ rfl w w.heap.size _ _ _ _ hown1 hnx hwr (by omega) rfl rfl ?_; intro v' w1 hown' hnx1 hsz1)
      go_ret
      refine ⟨v', rfl, ?_, hnx1⟩
      rw [HS.out, HM.out, Lib.byteCells_append, byteCells_snoc pre (by omega)]
      simp only [List.length_append, List.length_singleton, ← List.append_assoc] at hown' ⊢
      exact hown'

set_option maxHeartbeats 1600000 in
theorem S_in (B : Nat) (v : Value) (l : List UInt8) (x : Int) (hx0 : -9223372036854775808 ≤ x) (hx : x ≤ 9223372036854775807) (w : World) (hv : BytesIn B w v l) (hB : B ≤ w.heap.size) (hl : l.length + 200 ≤ 140737488355328) :
    Calls Try.prog 11 #[v, .int .i64 x] w fun e w' => ∃ v', e = .returned v' ∧ w'.ownsRow w.heap.size 5 1 v' (l ++ slist x).length (Lib.byteCells (l ++ slist x)) ∧ Below w.heap.size w w' := by
  have hlen := slist_length64 hx0 hx
  go_enter Try.func11, Try.ntmps11
  go_wp2_with (go_at_call 33; refine (copied_in B _ l 10 _ hv hB (by omega) (by omega)).mono ?_; rintro e w1 ⟨v1, rfl, hown1, hbel1⟩)
  go_loopw [1, 5] (fun vx vb wr => ∃ (y : Int) (pre : List UInt8), vx = .int .i64 y ∧ -9223372036854775808 ≤ y ∧ y ≤ 9223372036854775807 ∧ slist x = pre ++ slist y ∧ wr.ownsRow w.heap.size 5 1 vb (l.length + pre.length) (Lib.byteCells l ++ Lib.byteCells pre) ∧ Below w.heap.size w wr)
    (fun vx _ _ => (intOf vx).natAbs)
  case atStart => exact ⟨x, [], rfl, hx0, hx, rfl, by simpa [Lib.byteCells] using hown1, hbel1⟩
  case round =>
    obtain ⟨y, pre, rfl, hy0, hy, hsplit, hown1, hnx⟩ := hrel
    have hpl : pre.length + (slist y).length ≤ 10 := by
      have h2 := congrArg List.length hsplit
      rw [List.length_append] at h2
      omega
    have hyp := slist_pos y
    have hwr := hnx.size
    have HS := hid hsplit
    clear hsplit
    obtain ⟨d, hd⟩ : ∃ d : Nat, y % 128 = (d : Int) := ⟨(y % 128).toNat, by omega⟩
    have hdl : d < 128 := by omega
    have HD := hid hd
    by_cases hsm : -64 ≤ y ∧ y < 64
    · obtain ⟨h1, h2⟩ := hsm
      have hand : bits .and .u8 ((y : Int) % 256) 127 = (d : Int) := by
        rw [u8_and127 _ (by omega) (by omega)]
        omega
      have hd1 : decide (y < -64) = false := by simp; omega
      have hd2 : decide (63 < y) = false := by simp; omega
      have HM := hid (slist_small (m := y) ⟨h1, h2⟩)
      clear hd
      go_wp2_with (at_builtin; refine append_byte rfl _ _ rfl w w.heap.size _ _ _ _ hown1 hnx hwr (by omega) rfl rfl ?_; intro v' w1 hown' hnx1 hsz1)
      go_ret
      refine ⟨v', rfl, ?_, hnx1⟩
      rw [HS.out, HM.out, Lib.byteCells_append, HD.out, Int.toNat_natCast, byteCells_snoc pre (by omega)]
      simp only [List.length_append, List.length_singleton, ← List.append_assoc] at hown' ⊢
      exact hown'
    · have hor : bits .or .u8 ((y : Int) % 256) 128 = (d : Int) + 128 := by
        rw [u8_or128 _ (by omega) (by omega)]
        omega
      have HB := hid (slist_big hsm)
      rcases (show y < -64 ∨ 63 < y by omega) with hneg | hneg
      all_goals
        first
          | have hd1 : decide (y < -64) = true := by simp; omega
          | have hd1 : decide (y < -64) = false := by simp; omega
        first
          | have hd2 : decide (63 < y) = true := by simp; omega
          | have hd2 : decide (63 < y) = false := by simp; omega
        clear hsm hd
        go_wp2_with (at_builtin; refine append_byte rfl _ _ rfl w w.heap.size _ _ _ _ hown1 hnx hwr (by omega) rfl rfl ?_; intro v' w1 hown' hnx1 hsz1)
        go_roundw
        case rel =>
          refine ⟨y / 128, pre ++ [(d + 128).toUInt8], by go_num, by omega, by omega, by rw [HS.out, HB.out, HD.out, Int.toNat_natCast]; simp, ?_, hnx1⟩
          rw [byteCells_snoc pre (by omega), List.length_append, List.length_singleton, ← Nat.add_assoc, ← List.append_assoc, Int.natCast_add]
          exact hown'
        case measure => simp [intOf]; omega

set_option maxHeartbeats 800000 in
theorem Name_in (B : Nat) (v : Value) (l : List UInt8) (s : ByteArray) (w : World) (hv : BytesIn B w v l) (hB : B ≤ w.heap.size) (hl : l.length + s.size + 400 ≤ 140737488355328) :
    Calls Try.prog 12 #[v, .string s] w fun e w' => ∃ v', e = .returned v' ∧ w'.ownsRow w.heap.size 5 1 v' (l ++ ulist s.size ++ s.data.toList).length (Lib.byteCells (l ++ ulist s.size ++ s.data.toList)) ∧ Below w.heap.size w w' := by
  have hlen := ulist_length64 (x := s.size) (by omega)
  go_enter Try.func12, Try.ntmps12
  obtain ⟨i0, hi, hz0, hz1, hz2⟩ := info_parts info5
  have hap : (l ++ ulist s.size).length = l.length + (ulist s.size).length := List.length_append
  have HA := hid hap
  clear hap
  go_wp2_with (first
    | (go_at_call 10; refine (U_in B _ l s.size (by omega) _ hv hB (by omega)).mono ?_; rintro e w1 ⟨v1, rfl, hown1, hbel1⟩)
    | (at_builtin; refine Lib.wpList_append_own_string _ rfl (.tmp 9) (.tmp 10) 22 9 rfl w.heap.size 5 i0 Try.underlying22 Try.underlying9 hi hz0 hz1 hz2 v1 (l ++ ulist s.size).length (Lib.byteCells (l ++ ulist s.size)) rfl hown1 s rfl (by rw [HA.out]; unfold maxLen; omega) (by rw [HA.out]; omega) hbel1.size ?_; intro v2 w2 hown2 hgrow2 _))
  go_ret
  refine ⟨v2, rfl, ?_, hbel1.grown hgrow2 hbel1.size (fun k hk => (hown1.lt k hk).1)⟩
  rw [Lib.strCells_eq] at hown2
  have e : (l ++ ulist s.size ++ s.data.toList).length = (l ++ ulist s.size).length + s.size := by rw [List.length_append]; rfl
  rw [e, Lib.byteCells_append (l ++ ulist s.size)]
  exact hown2

theorem U_any (B : Nat) (v : Value) (l : List UInt8) (x : Nat) (hx : x < 18446744073709551616) (w : World) (hv : BytesAt B w v l) (hB : B ≤ w.heap.size) (hl : l.length + 200 ≤ 140737488355328) :
    Calls Try.prog 10 #[v, .int .u64 x] w fun e w' => ∃ v', e = .returned v' ∧ w'.ownsRow w.heap.size 5 1 v' (l ++ ulist x).length (Lib.byteCells (l ++ ulist x)) ∧ Below w.heap.size w w' :=
  U_in B v l x hx w (.inl hv) hB hl

theorem S_any (B : Nat) (v : Value) (l : List UInt8) (x : Int) (hx0 : -9223372036854775808 ≤ x) (hx : x ≤ 9223372036854775807) (w : World) (hv : BytesAt B w v l) (hB : B ≤ w.heap.size) (hl : l.length + 200 ≤ 140737488355328) :
    Calls Try.prog 11 #[v, .int .i64 x] w fun e w' => ∃ v', e = .returned v' ∧ w'.ownsRow w.heap.size 5 1 v' (l ++ slist x).length (Lib.byteCells (l ++ slist x)) ∧ Below w.heap.size w w' :=
  S_in B v l x hx0 hx w (.inl hv) hB hl

theorem Name_any (B : Nat) (v : Value) (l : List UInt8) (s : ByteArray) (w : World) (hv : BytesAt B w v l) (hB : B ≤ w.heap.size) (hl : l.length + s.size + 400 ≤ 140737488355328) :
    Calls Try.prog 12 #[v, .string s] w fun e w' => ∃ v', e = .returned v' ∧ w'.ownsRow w.heap.size 5 1 v' (l ++ ulist s.size ++ s.data.toList).length (Lib.byteCells (l ++ ulist s.size ++ s.data.toList)) ∧ Below w.heap.size w w' :=
  Name_in B v l s w (.inl hv) hB hl

end Go.Proofs.Ytljfhedmpnikiaa
