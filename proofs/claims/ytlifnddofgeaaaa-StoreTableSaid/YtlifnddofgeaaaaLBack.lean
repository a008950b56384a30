/-
  The law of what is copied and back (StoreBack), walked to its end: it answers true. Condition: what lies behind the slice that comes in.
-/
import Derived.Test.YtlifnddofgeaaaaAwake
set_option linter.unusedSimpArgs false
set_option linter.unusedVariables false
set_option maxRecDepth 100000
namespace Go.Proofs.Ytlifnddofgeaaaa
open Go.RowKit

theorem bytes_take (l : List UInt8) (n : Nat) : Lib.byteCells (l.take n) = (Lib.byteCells l).take n := by simp [Lib.byteCells]
theorem bytes_drop (l : List UInt8) (n : Nat) : Lib.byteCells (l.drop n) = (Lib.byteCells l).drop n := by simp [Lib.byteCells]
theorem bytes_cut (l : List UInt8) (a n : Nat) : Lib.byteCells (cut l a n) = cut (Lib.byteCells l) a n := by unfold cut; rw [bytes_take, bytes_drop]
theorem bytes_splice (l m : List UInt8) (a : Nat) : Lib.byteCells (splice l a m) = splice (Lib.byteCells l) a (Lib.byteCells m) := by
  unfold splice
  rw [Lib.byteCells_append, Lib.byteCells_append, bytes_take, bytes_drop, Lib.byteCells_length]
theorem sp_parts {α : Type} (P M R A : List α) (h : A.length = M.length) : splice (P ++ (M ++ R)) P.length A = P ++ (A ++ R) := by
  unfold splice
  rw [List.take_left, h, ← List.length_append, ← List.append_assoc P M R, List.drop_left]
theorem cut_parts {α : Type} (P A R : List α) : cut (P ++ (A ++ R)) P.length A.length = A := by
  unfold cut
  rw [List.drop_left, List.take_left]
theorem in_parts {α : Type} (l : List α) (k n : Nat) (hk : k + n ≤ l.length) : ∃ P M R, l = P ++ (M ++ R) ∧ P.length = k ∧ M.length = n :=
  ⟨l.take k, (l.drop k).take n, (l.drop k).drop n, by rw [List.take_append_drop, List.take_append_drop], by simp; omega, by simp; omega⟩
theorem cut_splice {α : Type} (l A : List α) (k n : Nat) (hA : A.length = n) (hk : k + n ≤ l.length) : cut (splice l k A) k n = A := by
  obtain ⟨P, M, R, rfl, rfl, rfl⟩ := in_parts l k n hk
  rw [sp_parts P M R A hA, ← hA, cut_parts]
theorem splice_back {α : Type} (l A : List α) (k n : Nat) (hA : A.length = n) (hk : k + n ≤ l.length) : splice (splice l k A) k (cut l k n) = l := by
  obtain ⟨P, M, R, rfl, rfl, rfl⟩ := in_parts l k n hk
  rw [sp_parts P M R A hA, cut_parts, sp_parts P A R M hA.symm]
theorem extract_cut (l : List UInt8) (a n : Nat) (h : a + n ≤ l.length) : (⟨l.toArray⟩ : ByteArray).extract a (a + n) = ⟨(cut l a n).toArray⟩ := by
  apply ByteArray.ext
  simp [cut, List.extract_eq_take_drop]
theorem putP_bytes (ok : Bool) (l m : List UInt8) (a b n : Nat) : putP ok 1 (Lib.byteCells l) (Lib.byteCells m) a b n = Lib.byteCells (if ok = true then splice l a (cut m b n) else l) := by
  cases ok with
  | false => rfl
  | true => rw [putP, if_pos rfl, if_pos rfl, bytes_splice, bytes_cut, Nat.mul_one, Nat.mul_one, Nat.mul_one]
theorem Src.drew {s n : Nat} {p : Option Addr} {xs : List Value} {w : World} (h : Src s p n xs w) : Src s p n xs w.drew := ⟨h.len, h.one, h.at_⟩
/-- A row that a conversion of a string makes. -/
theorem str_src (w : World) (l : List UInt8) (C : Array Value) (fr : Nat × Nat) (hC : C.toList.take l.length = Lib.byteCells l) (n : Nat) (hn : n = l.length) : Src 1 (some ⟨w.heap.size, 0, none⟩) n (Lib.byteCells l) (w.alloc (.cells C 5 fr)) := by
  refine ⟨by rw [Lib.byteCells_length, hn, Nat.mul_one], byteCells_one l, fun _ => ⟨w.heap.size, 0, rfl, by simp, fun j u hj => ?_⟩⟩
  rw [Nat.zero_add, cell_of_row _ _ _ C 5 fr (heap_alloc_new _ _), ← Array.getElem?_toList]
  rw [← hC, List.getElem?_take] at hj
  split at hj
  · exact hj
  · cases hj
set_option maxHeartbeats 4000000 in
theorem law_Back (p : Option Addr) (N c : Nat) (l : List UInt8) (to_ from_ n : Nat) (w : World) (hS : Sl 1 p N c (Lib.byteCells l) w) (hto : to_ < 18446744073709551616) (hfr : from_ < 18446744073709551616) (hn : n < 18446744073709551616) :
    Calls Try.prog 5 #[.slice p N c, .int .u64 to_, .int .u64 from_, .int .u64 n] w fun e w' => e = .returned (.bool true) ∧ Below w.heap.size w w' := by
  have HA := hid (awake_says w)
  have hl : l.length = N := by have := hS.src.len; rw [Lib.byteCells_length] at this; omega
  have hN62 : N < 9223372036854775808 := by have := hS.cap; have := hS.big; omega
  by_cases hlong : 2000 < N
  · clear hS hl
    go_enter Try.func5, Try.ntmps5
    go_wp2_with (go_at_call 8; (with_reducible refine HA.out.mono ?_); rintro e w1 ⟨rfl, hb1⟩; have HB1 := hid hb1; clear hb1)
    go_ret
    exact ⟨rfl, HB1.out⟩
  · obtain ⟨S, hSe⟩ : ∃ S : ByteArray, S = ⟨l.toArray⟩ := ⟨_, rfl⟩
    have hsz : S.size = N := by rw [hSe]; exact hl
    have HSE := hid hSe
    have HL := hid hl
    have HS := hid hS
    have HNL : Hid (N ≤ 2000) := by show _ ≤ _; omega
    clear hS hl hSe
    go_enter Try.func5, Try.ntmps5
    go_upto_region 10 with (first
      | (go_at_call 8; (with_reducible refine HA.out.mono ?_); rintro e w1 ⟨rfl, hb1⟩; have HB1 := hid hb1; have HS1 := hid (HS.out.below hb1); clear hb1)
      | (at_builtin; refine app_b rfl _ _ rfl w.heap.size none _ 0 0 _ _ [] _ ⟨World.ownsRow_nil _ _ _ _, fun _ h => by cases h⟩ HS1.out.src HS1.out.nil N (Nat.zero_add _) (by have := HNL.out; omega) HB1.out.size rfl rfl ?_; intro p2 c2 w2 hr2 hk2 hn2; rw [List.nil_append] at hr2; have HR2 := hid hr2; have HB2 := hid (KP.fresh HB1.out hk2 HB1.out.size (fun g h => by cases h)); have hcv : ∀ o, (convert 27 9 (.slice p N c)).run Try.prog (w2.alloc o) = .ok (.string S) (w2.alloc o) := (fun o => by rw [HSE.out]; exact conv_bytes ((HS1.out.src.keep hk2 (fun _ _ _ => by simp [blk])).below ((Below.refl _ _).alloc (Nat.le_refl _) o))); clear hr2 hk2 hn2))
    have HM3 : Hid (MemA w.heap.size w2.heap.size 0 0 false p2 N c2 (Lib.byteCells l) (w2.alloc (.cells #[.int .i64 0, .int .i64 0, .bool false, .slice p2 N c2] 29))) := ⟨CA.new _ _ _, HR2.out.below ((Below.refl _ _).alloc (Nat.le_refl _) _)⟩
    have HB3 := hid (HB2.out.alloc HB2.out.size (.cells #[.int .i64 0, .int .i64 0, .bool false, .slice p2 N c2] 29))
    have HGM := hid HB2.out.size
    clear hcv HR2 HS1 HB1 HB2 HS HA
    generalize w2.alloc (.cells #[.int .i64 0, .int .i64 0, .bool false, .slice p2 N c2] 29) = w3 at *
    generalize w2.heap.size = gm at *
    have PC := hid (copy_m w.heap.size gm 0 0 false p2 N c2 to_ from_ n (Lib.byteCells l) w3 HM3.out hto hfr hn)
    rw [putP_bytes] at PC
    have HBG : Hid (∀ g, blk p2 = some g → w.heap.size ≤ g) := HM3.out.row.blk_ge
    by_cases hok : to_ + n ≤ N ∧ from_ + n ≤ N
    · obtain ⟨h1, h2⟩ := hok
      rw [okP_yes h1 h2, if_pos rfl, show errP true 44 = 0 from rfl] at PC
      obtain ⟨l2, hl2⟩ : ∃ l2, l2 = splice l to_ (cut l from_ n) := ⟨_, rfl⟩
      rw [← hl2] at PC
      have HL2 := hid hl2
      have HCL : Hid ((cut l from_ n).length = n) := cut_len (by rw [HL.out]; exact h2)
      clear hl2
      go_upto_region 13 with (go_at_call 13; (with_reducible refine PC.out.mono ?_); rintro e w4 ⟨rfl, hm4, hk4⟩; have HM4 := hid hm4; have HB4 := hid (HB3.out.trans (hk4.below HB3.out.size HBG.out)); clear hm4 hk4)
      have y3 := HM4.out.box.at (k := 3) (v := .slice p2 N c2) rfl
      have hcN := HM4.out.row.cap
      have hcb : c2 < 9223372036854775808 := by have := hcN.2; unfold maxLen at this; omega
      have hE : S.extract from_ (from_ + n) = ⟨(cut l from_ n).toArray⟩ := by rw [HSE.out, extract_cut l from_ n (by rw [HL.out]; exact h2)]
      have HE := hid hE
      have HCV : ∀ q cc, (n ≠ 0 → q = p2.map fun x => x.add to_) → Hid ((convert 27 9 (.slice q n cc)).run Try.prog w4.drew = .ok (.string (S.extract from_ (from_ + n))) w4.drew) := by
        intro q cc hq
        have hsrc := HM4.out.row.src.part (at_ := to_) (n := n) (by rw [Nat.mul_one]; exact hq) h1
        rw [Nat.mul_one, Nat.mul_one, ← bytes_cut, HL2.out, cut_splice l _ to_ n HCL.out (by rw [HL.out]; exact h1)] at hsrc
        show _ = _
        rw [HE.out]
        exact conv_bytes hsrc.drew
      clear hE PC
      have hX : S.extract to_ (to_ + n) = ⟨(cut l to_ n).toArray⟩ := by rw [HSE.out, extract_cut l to_ n (by rw [HL.out]; exact h1)]
      have hXn : (cut l to_ n).length = n := cut_len (by rw [HL.out]; exact h1)
      have HKB : Hid (∀ W : World, ∃ cp C fr, (convert 9 27 (.string (S.extract to_ (to_ + n)))).run Try.prog W = .ok (.slice (some ⟨W.heap.size, 0, none⟩) n cp) (W.drew.alloc (.cells C 5 fr)) ∧ C.toList.take n = Lib.byteCells (cut l to_ n) ∧ n ≤ cp ∧ cp ≤ maxLen) := by
        intro W
        have hs : (S.extract to_ (to_ + n)).size = n := by rw [hX]; exact hXn
        have hr := run_bytes_of_string (P := Try.prog) W 9 27 5 (S.extract to_ (to_ + n)) Try.underlying9 Try.underlying27 Try.underlying5
        rw [hs] at hr
        refine ⟨_, _, _, hr, ?_, grownCap_ge _ _ _ _, grownCap_le_maxLen _ _ _ _ (by have := HNL.out; unfold maxLen; omega)⟩
        rw [bytesRow, Array.toList_append, List.take_append_of_le_length (by rw [hX]; simp [hXn]), hX]
        simp [Lib.byteCells, hXn]
        exact List.take_of_length_le (by simp [hXn])
      have PWM : Hid (∀ cp C fr W, MemA w.heap.size gm 0 0 false p2 N c2 (Lib.byteCells l2) W → w.heap.size ≤ W.heap.size → C.toList.take n = Lib.byteCells (cut l to_ n) → n ≤ cp → cp ≤ maxLen →
          Hid (Calls Try.prog 9 #[.pointer (some ⟨gm, 0, none⟩), .int .u64 to_, .slice (some ⟨W.heap.size, 0, none⟩) n cp] (W.alloc (.cells C 5 fr)).drew fun e w' => e = .returned (.int .i64 0) ∧ MemA w.heap.size gm 0 0 false p2 N c2 (Lib.byteCells l) w' ∧ Below w.heap.size W w')) := by
        intro cp C fr W hm hB hC hc1 hc2
        rw [show (W.alloc (.cells C 5 fr)).drew = W.drew.alloc (.cells C 5 fr) from rfl]
        have hm2 : MemA w.heap.size gm 0 0 false p2 N c2 (Lib.byteCells l2) W.drew := ⟨hm.box, hm.row.drew⟩
        have hal := (Below.refl W.drew.heap.size W.drew).alloc (Nat.le_refl _) (.cells C 5 fr)
        refine (write_m w.heap.size gm 0 0 false p2 _ N c2 n cp to_ _ _ _ (hm2.below hal) (str_src W.drew (cut l to_ n) C fr (by rw [hXn]; exact hC) n hXn.symm) hc1 (by unfold maxLen at hc2; omega) hto).mono fun e w' he => ?_
        rw [okP_yes h1 (by omega), putP_bytes, if_pos rfl, show errP true 44 = 0 from rfl, cut_all (cut l to_ n) n hXn, HL2.out, splice_back l _ to_ n HCL.out (by rw [HL.out]; exact h1)] at he
        obtain ⟨e1, e2, e3⟩ := he
        have h4 : Below w.heap.size W (W.drew.alloc (.cells C 5 fr)) := ((KP.refl none W).drew.alloc _).below hB (by intro k h; cases h)
        exact ⟨e1, e2, h4.trans (e3.below (by have := h4.size; omega) HBG.out)⟩
      clear hX hXn
      by_cases hct : c2 = to_
      · have hcv := (HCV p2 0 (fun h => by omega)).out
        go_region
        clear hcv hct
        have HM5 : Hid (MemA w.heap.size gm 0 0 false p2 N c2 (Lib.byteCells l2) w4.drew) := ⟨HM4.out.box, HM4.out.row.drew⟩
        have HB5 : Hid (Below w.heap.size w w4.drew) := ⟨HB4.out.os, HB4.out.tape, HB4.out.output, HB4.out.size, HB4.out.block⟩
        clear HM4 HB4 HB3 HM3 y3
        generalize w4.drew = w5 at *
        have hcase : (to_ < from_ + n ∧ from_ < to_ + n) ∨ ¬ to_ < from_ + n ∨ (to_ < from_ + n ∧ ¬ from_ < to_ + n) := by omega
        rcases hcase with ⟨v1, v2⟩ | v1 | ⟨v1, v2⟩
        · go_wp2
          go_ret
          exact ⟨rfl, HB5.out⟩
        · go_upto_region 17 with fail
          clear v1
          obtain ⟨cp, C, fr, hconv, hC, hc1, hc2⟩ := HKB.out w5
          have HCC := hid hC
          have PW := PWM.out cp C fr w5 HM5.out HB5.out.size hC hc1 hc2
          clear hC hc1 hc2
          go_wp2_with (go_at_call 9; (with_reducible refine PW.out.mono ?_); rintro e w6 ⟨rfl, hm6, hb6⟩; have y6 := hm6.box.at (k := 3) (v := .slice p2 N c2) rfl; have hcv6 : (convert 27 9 (.slice p2 N c2)).run Try.prog w6 = .ok (.string S) w6 := (by rw [HSE.out]; exact conv_bytes hm6.row.src); have HB6 := hid (HB5.out.trans hb6); clear hm6 hb6)
          go_ret
          exact ⟨rfl, HB6.out⟩
        · go_upto_region 17 with fail
          clear v1
          obtain ⟨cp, C, fr, hconv, hC, hc1, hc2⟩ := HKB.out w5
          have HCC := hid hC
          have PW := PWM.out cp C fr w5 HM5.out HB5.out.size hC hc1 hc2
          clear hC hc1 hc2
          go_wp2_with (go_at_call 9; (with_reducible refine PW.out.mono ?_); rintro e w6 ⟨rfl, hm6, hb6⟩; have y6 := hm6.box.at (k := 3) (v := .slice p2 N c2) rfl; have hcv6 : (convert 27 9 (.slice p2 N c2)).run Try.prog w6 = .ok (.string S) w6 := (by rw [HSE.out]; exact conv_bytes hm6.row.src); have HB6 := hid (HB5.out.trans hb6); clear hm6 hb6)
          go_ret
          exact ⟨rfl, HB6.out⟩
      · have hcv := (HCV (p2.map fun x => x.add to_) (c2 - to_) (fun h => rfl)).out
        go_region
        clear hcv hct
        have HM5 : Hid (MemA w.heap.size gm 0 0 false p2 N c2 (Lib.byteCells l2) w4.drew) := ⟨HM4.out.box, HM4.out.row.drew⟩
        have HB5 : Hid (Below w.heap.size w w4.drew) := ⟨HB4.out.os, HB4.out.tape, HB4.out.output, HB4.out.size, HB4.out.block⟩
        clear HM4 HB4 HB3 HM3 y3
        generalize w4.drew = w5 at *
        have hcase : (to_ < from_ + n ∧ from_ < to_ + n) ∨ ¬ to_ < from_ + n ∨ (to_ < from_ + n ∧ ¬ from_ < to_ + n) := by omega
        rcases hcase with ⟨v1, v2⟩ | v1 | ⟨v1, v2⟩
        · go_wp2
          go_ret
          exact ⟨rfl, HB5.out⟩
        · go_upto_region 17 with fail
          clear v1
          obtain ⟨cp, C, fr, hconv, hC, hc1, hc2⟩ := HKB.out w5
          have HCC := hid hC
          have PW := PWM.out cp C fr w5 HM5.out HB5.out.size hC hc1 hc2
          clear hC hc1 hc2
          go_wp2_with (go_at_call 9; (with_reducible refine PW.out.mono ?_); rintro e w6 ⟨rfl, hm6, hb6⟩; have y6 := hm6.box.at (k := 3) (v := .slice p2 N c2) rfl; have hcv6 : (convert 27 9 (.slice p2 N c2)).run Try.prog w6 = .ok (.string S) w6 := (by rw [HSE.out]; exact conv_bytes hm6.row.src); have HB6 := hid (HB5.out.trans hb6); clear hm6 hb6)
          go_ret
          exact ⟨rfl, HB6.out⟩
        · go_upto_region 17 with fail
          clear v1
          obtain ⟨cp, C, fr, hconv, hC, hc1, hc2⟩ := HKB.out w5
          have HCC := hid hC
          have PW := PWM.out cp C fr w5 HM5.out HB5.out.size hC hc1 hc2
          clear hC hc1 hc2
          go_wp2_with (go_at_call 9; (with_reducible refine PW.out.mono ?_); rintro e w6 ⟨rfl, hm6, hb6⟩; have y6 := hm6.box.at (k := 3) (v := .slice p2 N c2) rfl; have hcv6 : (convert 27 9 (.slice p2 N c2)).run Try.prog w6 = .ok (.string S) w6 := (by rw [HSE.out]; exact conv_bytes hm6.row.src); have HB6 := hid (HB5.out.trans hb6); clear hm6 hb6)
          go_ret
          exact ⟨rfl, HB6.out⟩
    · rw [okP_no hok, if_neg (by decide), show errP false 44 = 44 from rfl] at PC
      clear hok
      go_wp2_with (go_at_call 13; (with_reducible refine PC.out.mono ?_); rintro e w4 ⟨rfl, hm4, hk4⟩; have y3 := hm4.box.at (k := 3) (v := .slice p2 N c2) rfl; have hcv : (convert 27 9 (.slice p2 N c2)).run Try.prog w4 = .ok (.string S) w4 := (by rw [HSE.out]; exact conv_bytes hm4.row.src); have HB4 := hid (HB3.out.trans (hk4.below HB3.out.size HBG.out)); clear hm4 hk4)
      go_ret
      exact ⟨rfl, HB4.out⟩
theorem walk_Back (p : Option Addr) (N c : Nat) (l : List UInt8) {W0 : World} (hS : Sl 1 p N c (Lib.byteCells l) W0) (to_ : Nat) (hto : to_ < 18446744073709551616) (from_ : Nat) (hfr : from_ < 18446744073709551616) (n : Nat) (hn : n < 18446744073709551616) (w : World) (hw : W0 = w) :
    Calls Try.prog 5 #[.slice p N c, .int .u64 to_, .int .u64 from_, .int .u64 n] w fun e w' => e = .returned (.bool true) ∧ Below w.heap.size w w' := by
  subst hw
  exact law_Back p N c l to_ from_ n W0 hS hto hfr hn
end Go.Proofs.Ytlifnddofgeaaaa
