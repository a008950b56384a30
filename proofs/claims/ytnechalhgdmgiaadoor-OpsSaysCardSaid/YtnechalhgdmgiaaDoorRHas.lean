/-
  The contract of the reference's has: any two texts of at most 100 bytes.
-/
import Derived.Test.YtnechalhgdmgiaaDoorRStr
set_option linter.unusedSimpArgs false
set_option linter.unusedVariables false
namespace Go.Proofs.YtnechalhgdmgiaaDoor
open Go.RowKit

def hasAt (l t : List UInt8) (i : Nat) : Bool := (l.drop i).take t.length == t
/-- Does a text hold another one? -/
def hasL (l t : List UInt8) : Bool := (List.range (l.length + 1 - t.length)).any (hasAt l t)
theorem extract_str (l : List UInt8) (a n : Nat) : ((str l).extract a (a + n)).toList = (l.drop a).take n := by
  rw [ByteArray.toList_eq, ByteArray.data_extract]
  simp only [str]
  rw [List.extract_toArray]
  show (l.extract a (a + n)) = _
  rw [List.extract_eq_take_drop, Nat.add_sub_cancel_left]

set_option maxHeartbeats 4000000 in
theorem has_says (l t : List UInt8) (hl : l.length ≤ 100) (ht : t.length ≤ 100) (w : World) : Calls Tryd.prog 34 #[.string (str l), .string (str t)] w fun e w' => e = .returned (.bool (hasL l t)) ∧ Below w.heap.size w w' := by
  obtain ⟨s, hs⟩ : ∃ s, s = str l := ⟨_, rfl⟩
  obtain ⟨u, hu⟩ : ∃ u, u = str t := ⟨_, rfl⟩
  have hsz : s.size = l.length := by rw [hs, str_size]
  have huz : u.size = t.length := by rw [hu, str_size]
  rw [← hs, ← hu]
  have HS := hid hs
  have HU := hid hu
  clear hs hu
  obtain ⟨L, hL⟩ : ∃ L, L = l.length := ⟨_, rfl⟩
  obtain ⟨T, hT⟩ : ∃ T, T = t.length := ⟨_, rfl⟩
  rw [← hL] at hsz hl
  rw [← hT] at huz ht
  have HL := hid hL
  have HT := hid hT
  obtain ⟨b, hb⟩ : ∃ b, b = hasL l t := ⟨_, rfl⟩
  rw [← hb]
  have HB := hid hb
  clear hL hT hb
  go_enter Tryd.func34, Tryd.ntmps34
  go_wp2
  go_loopw [5] (fun vi wr => ∃ n : Nat, Hid (n ≤ L + 1 ∧ ∀ i, i < n → hasAt l t i = false) ∧ vi = .int .i64 n ∧ Hid (Below w.heap.size w wr)) (fun vi _ => 101 - (intOf vi).toNat)
  case atStart => exact ⟨0, ⟨Nat.zero_le _, fun i hi => by omega⟩, rfl, Below.refl _ _⟩
  case round =>
    obtain ⟨n, hn, rfl, HR⟩ := hrel
    have hnL := hn.out.1
    have e1 : wrap64 ((n : Int) + (T : Int)) = (n : Int) + (T : Int) := by unfold wrap64; omega
    have e2 : IntKind.i64.wrap ((n : Int) + (T : Int)) = (n : Int) + (T : Int) := by rw [IntKind.wrap_i64]; unfold wrap64 at e1; exact e1
    by_cases hlt : n + T ≤ L
    · have hlt1 : (n : Int) + (T : Int) ≤ (L : Int) := by omega
      have hlt2 : (0 : Int) ≤ (n : Int) + (T : Int) := by omega
      have hlt3 : (n : Int) ≤ (n : Int) + (T : Int) := by omega
      have hnt : ((n : Int) + (T : Int)).toNat = n + T := by omega
      have hq : ((s.extract n (n + T)).toList == u.toList) = hasAt l t n := by
        rw [HS.out, HU.out, extract_str, str_list]
        unfold hasAt
        rw [HT.out]
      cases hh : hasAt l t n with
      | true =>
        rw [hh] at hq
        have he : b = true := by
          rw [HB.out]
          exact List.any_eq_true.2 ⟨n, List.mem_range.2 (by have := HL.out; have := HT.out; omega), hh⟩
        have HE := hid he
        clear he hh
        go_wp2
        go_ret
        exact ⟨by rw [HE.out]; rfl, HR.out⟩
      | false =>
        rw [hh] at hq
        have hn1 : Hid (n + 1 ≤ L + 1 ∧ ∀ i, i < n + 1 → hasAt l t i = false) := ⟨by omega, fun i hi => by
          rcases Nat.lt_or_ge i n with h | h
          · exact hn.out.2 i h
          · obtain rfl : i = n := by omega
            exact hh⟩
        clear hh
        go_wp2
        go_roundw
        case rel => exact ⟨n + 1, hn1.out, by go_num, HR.out⟩
        case measure => (first | (simp [intOf]; done) | (simp [intOf]; omega))
    · have hlt1 : ¬ (n : Int) + (T : Int) ≤ (L : Int) := by omega
      have he : b = false := by
        rw [HB.out]
        exact List.any_eq_false.2 fun i hi => by
          rw [List.mem_range] at hi
          have := HL.out
          have := HT.out
          rw [hn.out.2 i (by omega)]
          decide
      have HE := hid he
      clear he
      go_wp2
      go_ret
      exact ⟨by rw [HE.out]; rfl, HR.out⟩
end Go.Proofs.YtnechalhgdmgiaaDoor
