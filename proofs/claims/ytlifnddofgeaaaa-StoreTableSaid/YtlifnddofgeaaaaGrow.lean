/-
  The contracts of the memory's Grow, and of all methods of a memory that is none. Condition: whole pages.
-/
import Derived.Test.YtlifnddofgeaaaaMeth
set_option linter.unusedSimpArgs false
set_option linter.unusedVariables false
set_option maxRecDepth 100000
namespace Go.Proofs.Ytlifnddofgeaaaa
open Go.RowKit

theorem quo_pages (k : Nat) : (((65536 * k : Nat) : Int)).tdiv 65536 = (k : Int) := by
  have : ((65536 * k : Nat) : Int) = 65536 * (k : Int) := by omega
  rw [this, Int.mul_tdiv_cancel_left _ (by decide)]
/-- What a call of Grow leaves: this many bytes, these cells. -/
def lim65 (most : Int) : Int := if most ≤ 65536 then most else 65536
theorem lim65_min (most : Int) : min most 65536 = lim65 most := by rw [lim65, Int.min_def]
set_option maxHeartbeats 1000000 in
theorem grow_m_no (B gm : Nat) (mn mx : Int) (has : Bool) (p : Option Addr) (k c n : Nat) (most : Int) (xs : List Value) (w : World) (hm : MemA B gm mn mx has p (65536 * k) c xs w) (hk : k ≤ 65536) (hn : n < 18446744073709551616) (h1 : -9223372036854775808 ≤ most) (h2 : most < 9223372036854775808) (h3 : -9223372036854775808 ≤ mx) (h4 : mx < 9223372036854775808)
    (hr : roomB k n (lim65 most) mx has = false) :
    Calls Try.prog 17 #[.pointer (some ⟨gm, 0, none⟩), .int .u64 n, .int .i64 most] w fun e w' => e = .returned (.int .i64 (-1)) ∧ Below w.heap.size w w' := by
  have hl1 : -9223372036854775808 ≤ lim65 most := by unfold lim65; split <;> omega
  have hl2 : lim65 most < 9223372036854775808 := by unfold lim65; split <;> omega
  have P := hid (room_says k n (lim65 most) mn mx has (by omega) hn hl1 hl2 h3 h4 w)
  rw [hr] at P
  have b0 : w.cell? ⟨gm, 0, none⟩ = some (.int .i64 mn) := hm.box.at rfl
  have b1 : w.cell? ⟨gm, 1, none⟩ = some (.int .i64 mx) := hm.box.at rfl
  have b2 : w.cell? ⟨gm, 2, none⟩ = some (.bool has) := hm.box.at rfl
  have b3 : w.cell? ⟨gm, 3, none⟩ = some (.slice p (65536 * k) c) := hm.box.at rfl
  have hq := quo_pages k
  obtain ⟨N, hN⟩ : ∃ N, N = 65536 * k := ⟨_, rfl⟩
  rw [← hN] at b3 hq
  have hn62 : N < 9223372036854775808 := by omega
  have hmn := lim65_min most
  generalize lim65 most = L at P hmn hl1 hl2
  by_cases hle : most ≤ 65536
  · have e0 : L = most := by rw [← hmn, Int.min_def, if_pos hle]
    subst e0
    clear hm hr hN hmn
    go_enter Try.func17, Try.ntmps17
    go_wp2_with (go_at_call 35; (with_reducible refine P.out.mono ?_); rintro e w1 ⟨rfl, hb⟩; have HB := hid hb; clear hb)
    go_ret
    exact ⟨rfl, HB.out⟩
  · have e0 : L = 65536 := by rw [← hmn, Int.min_def, if_neg hle]
    subst e0
    clear hm hr hN hmn
    go_enter Try.func17, Try.ntmps17
    go_wp2_with (go_at_call 35; (with_reducible refine P.out.mono ?_); rintro e w1 ⟨rfl, hb⟩; have HB := hid hb; clear hb)
    go_ret
    exact ⟨rfl, HB.out⟩
set_option maxHeartbeats 1000000 in
theorem grow_m_yes (B gm : Nat) (mn mx : Int) (has : Bool) (p : Option Addr) (k c n : Nat) (most : Int) (xs : List Value) (w : World) (hm : MemA B gm mn mx has p (65536 * k) c xs w) (hB : B ≤ w.heap.size) (hk : k ≤ 65536) (hn : n < 18446744073709551616) (h1 : -9223372036854775808 ≤ most) (h2 : most < 9223372036854775808) (h3 : -9223372036854775808 ≤ mx) (h4 : mx < 9223372036854775808)
    (hr : roomB k n (lim65 most) mx has = true) :
    Calls Try.prog 17 #[.pointer (some ⟨gm, 0, none⟩), .int .u64 n, .int .i64 most] w fun e w' => ∃ p' c', e = .returned (.int .i64 k) ∧ MemA B gm mn mx has p' (65536 * (k + n)) c' (xs ++ repC [.int .u8 0] (65536 * n)) w' ∧ KP (some gm) w w' ∧ (p' = p ∨ ∃ g, p' = some ⟨g, 0, none⟩ ∧ w.heap.size ≤ g) := by
  have hl1 : -9223372036854775808 ≤ lim65 most := by unfold lim65; split <;> omega
  have hl2 : lim65 most < 9223372036854775808 := by unfold lim65; split <;> omega
  have P := hid (room_says k n (lim65 most) mn mx has (by omega) hn hl1 hl2 h3 h4 w)
  rw [hr] at P
  have b0 : w.cell? ⟨gm, 0, none⟩ = some (.int .i64 mn) := hm.box.at rfl
  have b1 : w.cell? ⟨gm, 1, none⟩ = some (.int .i64 mx) := hm.box.at rfl
  have b2 : w.cell? ⟨gm, 2, none⟩ = some (.bool has) := hm.box.at rfl
  have b3 : w.cell? ⟨gm, 3, none⟩ = some (.slice p (65536 * k) c) := hm.box.at rfl
  have hgl := hm.box.lt
  have hq := quo_pages k
  have hnk : (k : Int) + n ≤ 65536 := by
    have h : (k : Int) + n ≤ limI (lim65 most) mx has := by simpa [roomB] using hr
    have h5 : limI (lim65 most) mx has ≤ 65536 := by
      unfold limI lim65
      repeat' split
      all_goals omega
    omega
  have PL : ∀ W, Below w.heap.size w W → Hid (Calls Try.prog 34 #[.slice p (65536 * k) c, .int .u64 (65536 * n : Nat)] W fun e w' => ∃ g, e = .returned (.slice (some ⟨g, 0, none⟩) (65536 * (k + n)) (65536 * (k + n))) ∧ W.heap.size ≤ g ∧ Row W.heap.size 5 1 (some ⟨g, 0, none⟩) (65536 * (k + n)) (65536 * (k + n)) (xs ++ repC [.int .u8 0] (65536 * n)) w' ∧ Below W.heap.size W w') := fun W hb =>
    long_b p (65536 * k) c (65536 * n) (65536 * (k + n)) xs W (hm.row.src.below hb) hm.row.cap.1 (by have := hm.row.cap.2; unfold maxLen at this; omega) (by omega) (by omega)
  have HM := hid hm
  have HBW := hid hB
  have HNK := hid hnk
  by_cases h0 : n = 0
  · have HN0 := hid h0
    have hz : ¬ 0 < n := by omega
    clear h0
    obtain ⟨N, hN⟩ : ∃ N, N = 65536 * k := ⟨_, rfl⟩
    rw [← hN] at b3 hq
    have hn62 : N < 9223372036854775808 := by omega
    have hmn := lim65_min most
    generalize lim65 most = L at P hmn hl1 hl2
    clear PL
    by_cases hle : most ≤ 65536
    · have e0 : L = most := by rw [← hmn, Int.min_def, if_pos hle]
      subst e0
      clear hm hr hN hmn hnk
      go_enter Try.func17, Try.ntmps17
      go_wp2_with (go_at_call 35; (with_reducible refine P.out.mono ?_); rintro e w1 ⟨rfl, hb⟩; have HB := hid hb; clear hb)
      go_ret
      refine ⟨p, c, rfl, ?_, KP.of HB.out, .inl rfl⟩
      rw [HN0.out, Nat.mul_zero, repC, List.append_nil, Nat.add_zero]
      exact ⟨HM.out.box.below HB.out HM.out.box.lt, HM.out.row.below HB.out⟩
    · have e0 : L = 65536 := by rw [← hmn, Int.min_def, if_neg hle]
      subst e0
      clear hm hr hN hmn hnk
      go_enter Try.func17, Try.ntmps17
      go_wp2_with (go_at_call 35; (with_reducible refine P.out.mono ?_); rintro e w1 ⟨rfl, hb⟩; have HB := hid hb; clear hb)
      go_ret
      refine ⟨p, c, rfl, ?_, KP.of HB.out, .inl rfl⟩
      rw [HN0.out, Nat.mul_zero, repC, List.append_nil, Nat.add_zero]
      exact ⟨HM.out.box.below HB.out HM.out.box.lt, HM.out.row.below HB.out⟩
  · obtain ⟨M, hM⟩ : ∃ M, M = 65536 * n := ⟨_, rfl⟩
    have he : (n : Int) * 65536 = (M : Int) := by omega
    obtain ⟨N, hN⟩ : ∃ N, N = 65536 * k := ⟨_, rfl⟩
    obtain ⟨K, hK⟩ : ∃ K, K = 65536 * (k + n) := ⟨_, rfl⟩
    rw [← hN] at b3 hq PL
    rw [← hM, ← hK] at PL
    rw [← hM, ← hK]
    have hn62 : N < 9223372036854775808 := by omega
    have hm62 : M < 9223372036854775808 := by omega
    have hmn := lim65_min most
    have HGL := hid hgl
    generalize lim65 most = L at P hmn hl1 hl2
    by_cases hle : most ≤ 65536
    · have e0 : L = most := by rw [← hmn, Int.min_def, if_pos hle]
      subst e0
      clear hm hr hN hmn hnk hM hK hgl
      go_enter Try.func17, Try.ntmps17
      go_wp2_with (first
        | (go_at_call 35; (with_reducible refine P.out.mono ?_); rintro e w1 ⟨rfl, hb⟩; have c3 : w1.cell? ⟨gm, 3, none⟩ = some (.slice p N c) := (hb.cell (p := ⟨gm, 3, none⟩) HGL.out).trans b3; have PM := PL w1 hb; have HC1 := hid (HM.out.box.below hb HGL.out); have HB := hid hb; clear hb PL)
        | (go_at_call 34; (with_reducible refine PM.out.mono ?_); rintro e w2 ⟨g, rfl, hg, hrw, hb2⟩; have hc2 := HC1.out.below hb2 HC1.out.lt; have d3 : w2.cell? ⟨gm, 3, none⟩ = some (.slice p _ c) := hc2.at rfl; have f3 := hc2.free 3; have HC2 := hid hc2; have HG := hid hg; have HR := hid hrw; have HB2 := hid hb2; clear hg hrw hb2 hc2))
      go_ret
      refine ⟨some ⟨g, 0, none⟩, K, rfl, ⟨?_, ?_⟩, ?_, .inr ⟨g, rfl, by have := HB.out.size; have := HG.out; omega⟩⟩
      · exact HC2.out.set (k := 3) _
      · have hne : (some gm : Option Nat) ≠ some g := by have := HG.out; have := HC1.out.lt; intro e; cases e; omega
        exact (HR.out.mono (by have := HB.out.size; have := HBW.out; omega)).keep ((KP.refl (some gm) _).setCell (.inl rfl) _) (by rintro _ _ ⟨⟩; exact hne)
      · exact ((KP.of HB.out).trans (KP.of HB2.out)).setCell (.inl rfl) _
    · have e0 : L = 65536 := by rw [← hmn, Int.min_def, if_neg hle]
      subst e0
      clear hm hr hN hmn hnk hM hK hgl
      go_enter Try.func17, Try.ntmps17
      go_wp2_with (first
        | (go_at_call 35; (with_reducible refine P.out.mono ?_); rintro e w1 ⟨rfl, hb⟩; have c3 : w1.cell? ⟨gm, 3, none⟩ = some (.slice p N c) := (hb.cell (p := ⟨gm, 3, none⟩) HGL.out).trans b3; have PM := PL w1 hb; have HC1 := hid (HM.out.box.below hb HGL.out); have HB := hid hb; clear hb PL)
        | (go_at_call 34; (with_reducible refine PM.out.mono ?_); rintro e w2 ⟨g, rfl, hg, hrw, hb2⟩; have hc2 := HC1.out.below hb2 HC1.out.lt; have d3 : w2.cell? ⟨gm, 3, none⟩ = some (.slice p _ c) := hc2.at rfl; have f3 := hc2.free 3; have HC2 := hid hc2; have HG := hid hg; have HR := hid hrw; have HB2 := hid hb2; clear hg hrw hb2 hc2))
      go_ret
      refine ⟨some ⟨g, 0, none⟩, K, rfl, ⟨?_, ?_⟩, ?_, .inr ⟨g, rfl, by have := HB.out.size; have := HG.out; omega⟩⟩
      · exact HC2.out.set (k := 3) _
      · have hne : (some gm : Option Nat) ≠ some g := by have := HG.out; have := HC1.out.lt; intro e; cases e; omega
        exact (HR.out.mono (by have := HB.out.size; have := HBW.out; omega)).keep ((KP.refl (some gm) _).setCell (.inl rfl) _) (by rintro _ _ ⟨⟩; exact hne)
      · exact ((KP.of HB.out).trans (KP.of HB2.out)).setCell (.inl rfl) _
end Go.Proofs.Ytlifnddofgeaaaa
