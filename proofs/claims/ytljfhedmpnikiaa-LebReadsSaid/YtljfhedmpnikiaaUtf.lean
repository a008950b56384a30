/-
  The contracts of the program's own begins and leb.Valid: UTF-8, decoded from place to place. Condition: fewer than 2^63 bytes.
-/
import Derived.Test.YtljfhedmpnikiaaBase
import Derived.Test.YtljfhedmpnikiaaPlain8
import Derived.Lib.OthersKept
import Derived.Lib.Strings
namespace Go.Proofs.Ytljfhedmpnikiaa
open Go.RowKit

set_option maxHeartbeats 400000 in
theorem begins_any (x : ByteArray) (w : World) (hx : x.size ≤ 9223372036854775807) :
    Calls Try.prog 38 #[.string x, .string ⟨#[239, 191, 189]⟩] w fun e w' => e = .returned (.bool (decide (x.data.toList.take 3 = [239, 191, 189]))) ∧ w = w' := by
  by_cases h3 : 3 ≤ x.size
  · have hd : decide ((3 : Int) ≤ (x.size : Int)) = true := by simp; omega
    go_enter Try.func38, Try.ntmps38
    go_wp2
    go_ret
    refine ⟨?_, rfl⟩
    show Ending.returned (.bool ((x.extract 0 3).toList == [239, 191, 189])) = _
    rw [Lib.extract_toList]
    simp only [List.drop_zero, Nat.sub_zero]
    congr 2
    rw [Bool.eq_iff_iff]
    simp
  · have hd : decide ((3 : Int) ≤ (x.size : Int)) = false := by simp; omega
    go_enter Try.func38, Try.ntmps38
    go_wp2
    go_ret
    refine ⟨?_, rfl⟩
    have : ¬ (x.data.toList.take 3 = [239, 191, 189]) := by
      intro h
      have hl := congrArg List.length h
      have e : x.data.toList.length = x.size := rfl
      rw [List.length_take, e] at hl
      simp at hl
      omega
    show Ending.returned (.bool false) = _
    simp [this]

set_option maxHeartbeats 1600000 in
set_option maxRecDepth 100000 in
theorem Valid_any (s : ByteArray) (w : World) (hs : s.size ≤ 9223372036854775807) :
    Calls Try.prog 31 #[.string s] w fun e w' => e = .returned (.bool (vfrom s s.size 0)) ∧ Below w.heap.size w w' := by
  go_enter Try.func31, Try.ntmps31
  go_wp2
  go_loopw [3, 4] (fun _ _ wr => ∃ (pos fuel : Nat), wr.heap[w.heap.size]? = some (.stringIter s pos) ∧ Below w.heap.size w wr ∧ s.size ≤ pos + fuel ∧ vfrom s s.size 0 = vfrom s fuel pos) (fun _ _ wr => s.size - wr.iterPos w.heap.size)
  case atStart => exact ⟨0, s.size, World.iter_heap w s 0, (Below.refl _ w).alloc (Nat.le_refl _) _, by omega, rfl⟩
  case round =>
    obtain ⟨pos, fuel, hit, hbw, hfu, hv⟩ := hrel
    have hsz : w.heap.size < wr.heap.size := (Array.getElem?_eq_some_iff.1 hit).1
    have HV := hid hv
    clear hv
    by_cases hp : pos < s.size
    · have hnx : ∀ ty, (Instr.next (.pointer (some ⟨w.heap.size, 0, none⟩)) true ty).run Try.prog wr = _ := fun ty => Lib.run_next_any_at wr w.heap.size s pos ty hit hp
      have hwd := width_pos s pos hp
      have hd1 := decode_le s pos
      have hit2 := Lib.iterAt_heap wr w.heap.size s pos (pos + (Utf8.decode s pos).2) hit
      have hbw2 := Lib.below_iterAt hbw (k := w.heap.size) (Nat.le_refl _) s (pos + (Utf8.decode s pos).2)
      obtain ⟨f, rfl⟩ : ∃ f, fuel = f + 1 := ⟨fuel - 1, by omega⟩
      by_cases hc : (Utf8.decode s pos).1 = 65533
      · have hf := fffd_iff s pos hc
        have hx : (s.extract pos s.size).data.toList = s.data.toList.drop pos := by
          have e : s.data.toList.length = s.size := rfl
          rw [Lib.extract_data, List.take_of_length_le (by rw [List.length_drop, e]; omega)]
        have hxs : (s.extract pos s.size).size ≤ 9223372036854775807 := by
          have e : (s.extract pos s.size).size = (s.extract pos s.size).data.toList.length := rfl
          have e2 : s.data.toList.length = s.size := rfl
          rw [e, hx, List.length_drop, e2]; omega
        by_cases hw1 : (Utf8.decode s pos).2 = 1
        · have hB : ∀ W, Calls Try.prog 38 #[.string (s.extract pos s.size), .string ⟨#[239, 191, 189]⟩] W fun e w' => e = .returned (.bool false) ∧ W = w' := fun W =>
            (begins_any _ W hxs).mono fun e w' ⟨h1, h2⟩ => ⟨by rw [h1, hx]; simp only [hf, hw1]; rfl, h2⟩
          have hstep : Hid (vfrom s (f + 1) pos = false) := hid (by rw [vfrom, if_pos hp, if_pos ⟨hc, hw1⟩])
          have HB := hid hB
          have hcb : (((Utf8.decode s pos).1 : Int) == 65533) = true := by simp; omega
          clear hB hf hx hxs hc hw1
          go_wp2_with (go_at_call 38; refine (HB.out _).mono ?_; rintro en w1 ⟨rfl, rfl⟩)
          go_ret
          exact ⟨by rw [HV.out, hstep.out]; rfl, hbw2⟩
        · have hB : ∀ W, Calls Try.prog 38 #[.string (s.extract pos s.size), .string ⟨#[239, 191, 189]⟩] W fun e w' => e = .returned (.bool true) ∧ W = w' := fun W =>
            (begins_any _ W hxs).mono fun e w' ⟨h1, h2⟩ => ⟨by rw [h1, hx]; simp only [hf, hw1]; rfl, h2⟩
          have hstep : Hid (vfrom s (f + 1) pos = vfrom s f (pos + (Utf8.decode s pos).2)) := hid (by rw [vfrom, if_pos hp, if_neg (by rintro ⟨_, h⟩; exact hw1 h)])
          have HB := hid hB
          have hcb : (((Utf8.decode s pos).1 : Int) == 65533) = true := by simp; omega
          clear hB hf hx hxs hc hw1
          go_wp2_with (go_at_call 38; refine (HB.out _).mono ?_; rintro en w1 ⟨rfl, rfl⟩)
          refine ⟨⟨pos + (Utf8.decode s pos).2, f, hit2, hbw2, by omega, by rw [HV.out, hstep.out]⟩, ?_⟩
          simp only [World.iterPos, hit, hit2]
          omega
      · have hstep : Hid (vfrom s (f + 1) pos = vfrom s f (pos + (Utf8.decode s pos).2)) := hid (by rw [vfrom, if_pos hp, if_neg (by rintro ⟨h, _⟩; exact hc h)])
        have hcb : (((Utf8.decode s pos).1 : Int) == 65533) = false := by simp; omega
        have HC := hid hc
        clear hc
        go_wp2
        refine ⟨⟨pos + (Utf8.decode s pos).2, f, hit2, hbw2, by omega, by rw [HV.out, hstep.out]⟩, ?_⟩
        simp only [World.iterPos, hit, hit2]
        omega
    · have hnx : ∀ ty, (Instr.next (.pointer (some ⟨w.heap.size, 0, none⟩)) true ty).run Try.prog wr = _ := fun ty => Lib.run_next_end_at wr w.heap.size s pos ty hit hp
      have HE := hid (vfrom_end s fuel pos hp)
      go_wp2
      go_ret
      exact ⟨by rw [HV.out, HE.out]; rfl, hbw⟩

end Go.Proofs.Ytljfhedmpnikiaa
