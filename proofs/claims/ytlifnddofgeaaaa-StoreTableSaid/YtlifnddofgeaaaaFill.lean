/-
  The contracts of store.fill, over bytes and over values. Condition: what lies behind the slice.
-/
import Derived.Test.YtlifnddofgeaaaaLong
set_option linter.unusedSimpArgs false
set_option linter.unusedVariables false
set_option maxRecDepth 100000
namespace Go.Proofs.Ytlifnddofgeaaaa
open Go.RowKit

theorem set_step (L cs : List Value) (k i : Nat) (a : Value) (h : k + i < L.length) : ((splice L k (repC [a] i)).toArray.setIfInBounds (k + i) a) = (splice L k (repC [a] (i + 1))).toArray := by
  have hl : (repC [a] i).length = i := by rw [repC_len]; simp
  have h1 := splice_app L k (repC [a] i) [a] (by rw [hl]; omega)
  rw [hl, ← splice_one _ _ _ (by rw [length_splice _ _ _ (by rw [hl]; omega)]; omega), ← repC_snoc] at h1
  rw [← h1]
  simp
theorem set4_step (L : List Value) (k i : Nat) (a b c d : Value) (h : k + i * 4 + 4 ≤ L.length) :
    (((((splice L k (repC [a, b, c, d] i)).toArray.setIfInBounds (k + i * 4) a).setIfInBounds (k + i * 4 + 1) b).setIfInBounds (k + i * 4 + 2) c).setIfInBounds (k + i * 4 + 3) d) = (splice L k (repC [a, b, c, d] (i + 1))).toArray := by
  have hl : (repC [a, b, c, d] i).length = i * 4 := by rw [repC_len]; rfl
  have h0 := length_splice L k (repC [a, b, c, d] i) (by rw [hl]; omega)
  have h1 := splice_app L k (repC [a, b, c, d] i) [a, b, c, d] (by rw [hl]; omega)
  rw [← repC_snoc, hl] at h1
  rw [← h1]
  have s1 := splice_app (splice L k (repC [a, b, c, d] i)) (k + i * 4) [a] [b, c, d] (by simp; omega)
  have s2 := splice_app (splice (splice L k (repC [a, b, c, d] i)) (k + i * 4) [a]) (k + i * 4 + 1) [b] [c, d] (by simp [length_splice, h0]; rw [length_splice _ _ _ (by simp; omega)]; omega)
  have s3 := splice_app (splice (splice (splice L k (repC [a, b, c, d] i)) (k + i * 4) [a]) (k + i * 4 + 1) [b]) (k + i * 4 + 1 + 1) [c] [d] (by rw [length_splice _ _ _ (by rw [length_splice _ _ _ (by simp; omega)]; simp; omega), length_splice _ _ _ (by simp; omega)]; simp; omega)
  have l1 := length_splice (splice L k (repC [a, b, c, d] i)) (k + i * 4) [a] (by simp; omega)
  have l2 := length_splice (splice (splice L k (repC [a, b, c, d] i)) (k + i * 4) [a]) (k + i * 4 + 1) [b] (by rw [l1]; simp; omega)
  have l3 := length_splice (splice (splice (splice L k (repC [a, b, c, d] i)) (k + i * 4) [a]) (k + i * 4 + 1) [b]) (k + i * 4 + 1 + 1) [c] (by rw [l2, l1]; simp; omega)
  simp only [List.length_singleton, List.singleton_append] at s1 s2 s3
  rw [← s1, ← s2, ← s3]
  rw [← splice_one _ (k + i * 4 + 1 + 1 + 1) d (by rw [l3, l2, l1]; omega), ← splice_one _ (k + i * 4 + 1 + 1) c (by rw [l2, l1]; omega), ← splice_one _ (k + i * 4 + 1) b (by rw [l1]; omega), ← splice_one _ (k + i * 4) a (by omega)]
  simp

set_option maxHeartbeats 1000000 in
theorem fill_b_no (p : Option Addr) (N c at_ n : Nat) (x : Int) (hN : N < 9223372036854775808) (ha : at_ < 18446744073709551616) (hn : n < 18446744073709551616) (h : ¬ (at_ + n ≤ N)) (w : World) :
    Calls Try.prog 31 #[.slice p N c, .int .u64 at_, .int .u8 x, .int .u64 n] w fun e w' => e = .returned (.bool false) ∧ w = w' := by
  have P := fun W => hid (part_b_no p N c at_ n hN ha hn h W)
  clear h
  go_enter Try.func31, Try.ntmps31
  go_wp2_with (go_at_call 33; (with_reducible refine (P _).out.mono ?_); rintro e w1 ⟨rfl, rfl⟩)
  go_ret
  exact ⟨rfl, rfl⟩
set_option maxHeartbeats 1000000 in
theorem fill_v_no (p : Option Addr) (N c at_ n : Nat) (x0 : Int) (x1 x2 : Nat) (x3 : Bool) (hN : N < 9223372036854775808) (ha : at_ < 18446744073709551616) (hn : n < 18446744073709551616) (h : ¬ (at_ + n ≤ N)) (w : World) :
    Calls Try.prog 36 #[.slice p N c, .int .u64 at_, .agg #[.int .i64 x0, .int .u64 x1, .int .u64 x2, .bool x3], .int .u64 n] w fun e w' => e = .returned (.bool false) ∧ Below w.heap.size w w' := by
  have P := fun W => hid (part_v_no p N c at_ n hN ha hn h W)
  clear h
  go_enter Try.func36, Try.ntmps36
  go_wp2_with (go_at_call 38; (with_reducible refine (P _).out.mono ?_); rintro e w1 ⟨rfl, rfl⟩)
  go_ret
  exact ⟨rfl, (Below.refl _ _).alloc (Nat.le_refl _) _⟩
set_option maxHeartbeats 1000000 in
theorem fill_b_yes (B : Nat) (p : Option Addr) (N c at_ n : Nat) (x : Int) (xs : List Value) (w : World) (hr : Row B 5 1 p N c xs w) (h : at_ + n ≤ N) :
    Calls Try.prog 31 #[.slice p N c, .int .u64 at_, .int .u8 x, .int .u64 n] w fun e w' => e = .returned (.bool true) ∧ Row B 5 1 p N c (splice xs at_ (repC [.int .u8 x] n)) w' ∧ KP (blk p) w w' := by
  have hcc : c < 9223372036854775808 := by have := hr.cap.2; unfold maxLen at this; omega
  have P := fun W => hid (part_b_yes p N c at_ n hr.cap.1 hcc h W)
  by_cases h0 : n = 0
  · have HR := hid hr
    have H0 := hid h0
    clear hr hcc h0 h
    go_enter Try.func31, Try.ntmps31
    go_wp2_with (go_at_call 33; (with_reducible refine (P _).out.mono ?_); rintro e w1 ⟨⟨q1, c1, rfl, hq1, hcc1, hz1⟩, rfl⟩; clear hz1 hq1 hcc1)
    go_loopw [22] (fun vi wr => vi = .int .u64 0 ∧ Hid (wr = w)) (fun vi _ => 0)
    case atStart => exact ⟨rfl, hid rfl⟩
    case round =>
      obtain ⟨rfl, HW⟩ := hrel
      have hn0 : n = 0 := H0.out
      go_wp2
      go_ret
      rw [HW.out]
      exact ⟨rfl, by rw [H0.out, repC, splice_nil]; exact HR.out, KP.refl _ _⟩
  · obtain ⟨g, cur, rfl, hB, hca, hcs⟩ := hr.pos (by omega)
    have HN0 := hid h0
    have HNC : Hid (at_ + n ≤ cur.size) := by have := hr.cap.1; show _ ≤ _; omega
    have HXL : Hid (at_ + n ≤ xs.length) := by have := hr.own.1; show _ ≤ _; omega
    have HR := hid hr
    have HC := hid hca
    have hn62 : n < 9223372036854775808 := by have := hr.cap.1; omega
    clear hr hcc h0 h hca hcs hB
    go_enter Try.func31, Try.ntmps31
    go_wp2_with (go_at_call 33; (with_reducible refine (P _).out.mono ?_); rintro e w1 ⟨⟨q1, c1, rfl, hq1, hcc1, hz1⟩, rfl⟩; obtain rfl := hz1 HN0.out; clear hz1 hq1 hcc1)
    go_loopw [22] (fun vi wr => ∃ i : Nat, i ≤ n ∧ vi = .int .u64 i ∧ Hid (CA g (splice cur.toList at_ (repC [.int .u8 x] i)).toArray 5 wr) ∧ Hid (KP (some g) w wr)) (fun vi _ => n - (intOf vi).toNat)
    case atStart => exact ⟨0, Nat.zero_le _, rfl, by rw [repC, splice_nil]; exact HC, KP.refl _ _⟩
    case round =>
      obtain ⟨i, hi, rfl, HC2, HK2⟩ := hrel
      by_cases hlt : i < n
      · have hfit : at_ + i < (splice cur.toList at_ (repC [.int .u8 x] i)).length := by
          rw [length_splice _ _ _ (by rw [repC_len]; have := HNC.out; simp; omega)]
          have := HNC.out
          simp; omega
        have z0 : wr.cell? ⟨g, at_ + i, none⟩ = some ((splice cur.toList at_ (repC [.int .u8 x] i))[at_ + i]) := HC2.out.at (by rw [List.getElem?_toArray, List.getElem?_eq_getElem hfit])
        have z1 := HC2.out.free (at_ + i)
        generalize (splice cur.toList at_ (repC [.int .u8 x] i))[at_ + i] = o0 at z0
        clear hfit
        go_wp2
        go_roundw
        case rel =>
          refine ⟨i + 1, hlt, by go_num, ?_, HK2.out.setCell (.inl rfl) _⟩
          have hs := HC2.out.set (k := at_ + i) (.int .u8 x)
          rw [set_step _ [] _ _ _ (by have := HNC.out; simp; omega)] at hs
          exact hs
        case measure => simp [intOf]; omega
      · obtain rfl : i = n := by omega
        go_wp2
        go_ret
        refine ⟨rfl, HR.out.splice (by rw [repC_len]; have := HXL.out; simp; omega) (repC_one (by simp [Value.oneCell']) _) (fun cur2 hc2 => ?_), HK2.out⟩
        have hc3 := HC.out
        unfold CA at hc3
        rw [hc3] at hc2
        cases hc2
        exact HC2.out
set_option maxHeartbeats 2000000 in
theorem fill_v_yes (B : Nat) (p : Option Addr) (N c at_ n : Nat) (x0 : Int) (x1 x2 : Nat) (x3 : Bool) (xs : List Value) (w : World) (hr : Row B 32 4 p N c xs w) (h : at_ + n ≤ N) :
    Calls Try.prog 36 #[.slice p N c, .int .u64 at_, .agg #[.int .i64 x0, .int .u64 x1, .int .u64 x2, .bool x3], .int .u64 n] w fun e w' => e = .returned (.bool true) ∧ Row B 32 4 p N c (splice xs (at_ * 4) (repC [.int .i64 x0, .int .u64 x1, .int .u64 x2, .bool x3] n)) w' ∧ KP (blk p) w w' := by
  have hcc : c < 9223372036854775808 := by have := hr.cap.2; unfold maxLen at this; omega
  have P := fun W => hid (part_v_yes p N c at_ n hr.cap.1 hcc h W)
  by_cases h0 : n = 0
  · have HR := hid hr
    have H0 := hid h0
    clear hr hcc h0 h
    go_enter Try.func36, Try.ntmps36
    go_wp2_with (go_at_call 38; (with_reducible refine (P _).out.mono ?_); rintro e w1 ⟨⟨q1, c1, rfl, hq1, hcc1, hz1⟩, rfl⟩; clear hz1 hq1 hcc1)
    go_loopw [22] (fun vi wr => vi = .int .u64 0 ∧ Hid (wr = w.alloc (.cells #[.int .i64 x0, .int .u64 x1, .int .u64 x2, .bool x3] 32))) (fun vi _ => 0)
    case atStart => exact ⟨rfl, hid rfl⟩
    case round =>
      obtain ⟨rfl, HW⟩ := hrel
      have hn0 : n = 0 := H0.out
      go_wp2
      go_ret
      rw [HW.out]
      refine ⟨rfl, ?_, (KP.refl _ _).alloc _⟩
      rw [H0.out, repC, splice_nil]
      exact HR.out.below ((Below.refl _ _).alloc (Nat.le_refl _) _)
  · obtain ⟨g, cur, rfl, hB, hca, hcs⟩ := hr.pos (by omega)
    have HN0 := hid h0
    have HNC : Hid (at_ * 4 + n * 4 ≤ cur.size) := by have := hr.cap.1; show _ ≤ _; omega
    have HXL : Hid (at_ * 4 + n * 4 ≤ xs.length) := by have := hr.own.1; show _ ≤ _; omega
    have HR := hid hr
    have HC := hid hca
    have hn62 : n < 9223372036854775808 := by have := hr.cap.1; omega
    clear hr hcc h0 h hca hcs hB
    go_enter Try.func36, Try.ntmps36
    go_wp2_with (go_at_call 38; (with_reducible refine (P _).out.mono ?_); rintro e w1 ⟨⟨q1, c1, rfl, hq1, hcc1, hz1⟩, rfl⟩; obtain rfl := hz1 HN0.out; clear hz1 hq1 hcc1)
    go_loopw [22] (fun vi wr => ∃ i : Nat, i ≤ n ∧ vi = .int .u64 i ∧ Hid (CA g (splice cur.toList (at_ * 4) (repC [.int .i64 x0, .int .u64 x1, .int .u64 x2, .bool x3] i)).toArray 32 wr) ∧ Hid (KP (some g) w wr) ∧ Hid (CA w.heap.size #[.int .i64 x0, .int .u64 x1, .int .u64 x2, .bool x3] 32 wr)) (fun vi _ => n - (intOf vi).toNat)
    case atStart => exact ⟨0, Nat.zero_le _, rfl, by rw [repC, splice_nil]; exact HC.out.alloc _, (KP.refl _ _).alloc _, CA.new _ _ _⟩
    case round =>
      obtain ⟨i, hi, rfl, HC2, HK2, HX⟩ := hrel
      by_cases hlt : i < n
      · have hfit : at_ * 4 + i * 4 + 4 ≤ (splice cur.toList (at_ * 4) (repC [.int .i64 x0, .int .u64 x1, .int .u64 x2, .bool x3] i)).length := by
          rw [length_splice _ _ _ (by rw [repC_len]; have := HNC.out; simp; omega)]
          have := HNC.out
          simp; omega
        obtain ⟨L, hL⟩ : ∃ L, L = splice cur.toList (at_ * 4) (repC [.int .i64 x0, .int .u64 x1, .int .u64 x2, .bool x3] i) := ⟨_, rfl⟩
        rw [← hL] at hfit HC2
        have HL := hid hL
        clear hL
        have b0 : wr.cell? ⟨w.heap.size, 0, none⟩ = some (.int .i64 x0) := HX.out.at rfl
        have b1 : wr.cell? ⟨w.heap.size, 1, none⟩ = some (.int .u64 x1) := HX.out.at rfl
        have b2 : wr.cell? ⟨w.heap.size, 2, none⟩ = some (.int .u64 x2) := HX.out.at rfl
        have b3 : wr.cell? ⟨w.heap.size, 3, none⟩ = some (.bool x3) := HX.out.at rfl
        have hgw : g ≠ w.heap.size := by have := HC.out.lt; omega
        have z0 : wr.cell? ⟨g, at_ * 4 + i * 4, none⟩ = some (L[at_ * 4 + i * 4]) := HC2.out.at (by rw [List.getElem?_toArray, List.getElem?_eq_getElem (by omega)])
        have z1 : wr.cell? ⟨g, at_ * 4 + i * 4 + 1, none⟩ = some (L[at_ * 4 + i * 4 + 1]) := HC2.out.at (by rw [List.getElem?_toArray, List.getElem?_eq_getElem (by omega)])
        have z2 : wr.cell? ⟨g, at_ * 4 + i * 4 + 2, none⟩ = some (L[at_ * 4 + i * 4 + 2]) := HC2.out.at (by rw [List.getElem?_toArray, List.getElem?_eq_getElem (by omega)])
        have z3 : wr.cell? ⟨g, at_ * 4 + i * 4 + 3, none⟩ = some (L[at_ * 4 + i * 4 + 3]) := HC2.out.at (by rw [List.getElem?_toArray, List.getElem?_eq_getElem (by omega)])
        have f0 := HC2.out.free (at_ * 4 + i * 4)
        have f1 := HC2.out.free (at_ * 4 + i * 4 + 1)
        have f2 := HC2.out.free (at_ * 4 + i * 4 + 2)
        have f3 := HC2.out.free (at_ * 4 + i * 4 + 3)
        generalize L[at_ * 4 + i * 4] = o0 at z0
        generalize L[at_ * 4 + i * 4 + 1] = o1 at z1
        generalize L[at_ * 4 + i * 4 + 2] = o2 at z2
        generalize L[at_ * 4 + i * 4 + 3] = o3 at z3
        have HFIT := hid hfit
        clear hfit
        go_wp2
        go_roundw
        case rel =>
          refine ⟨i + 1, hlt, by go_num, ?_, (((HK2.out.setCell (.inl rfl) _).setCell (.inl rfl) _).setCell (.inl rfl) _).setCell (.inl rfl) _, ?_⟩
          · have hs := (((HC2.out.set (k := at_ * 4 + i * 4) (.int .i64 x0)).set (k := at_ * 4 + i * 4 + 1) (.int .u64 x1)).set (k := at_ * 4 + i * 4 + 2) (.int .u64 x2)).set (k := at_ * 4 + i * 4 + 3) (.bool x3)
            rw [HL.out, set4_step _ _ _ _ _ _ _ (by have := HNC.out; simp; omega)] at hs
            exact hs
          · exact HX.out.keep (((((KP.refl (some g) _).setCell (.inl rfl) _).setCell (.inl rfl) _).setCell (.inl rfl) _).setCell (.inl rfl) _) (by simpa using hgw)
        case measure => simp [intOf]; omega
      · obtain rfl : i = n := by omega
        go_wp2
        go_ret
        refine ⟨rfl, HR.out.splice (by rw [repC_len]; have := HXL.out; simp; omega) (repC_one (by simp [Value.oneCell']) _) (fun cur2 hc2 => ?_), HK2.out⟩
        have hc3 := HC.out
        unfold CA at hc3
        rw [hc3] at hc2
        cases hc2
        exact HC2.out
end Go.Proofs.Ytlifnddofgeaaaa
