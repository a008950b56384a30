/-
  The contract of a reader's own groups: the bytes of a number of so many bits. No condition beyond what a reader is.
-/
import Derived.Test.YtljfhedmpnikiaaReader
import Derived.Test.YtljfhedmpnikiaaNums
import Derived.ScopeJumps
namespace Go.Proofs.Ytljfhedmpnikiaa
open Go.RowKit

/-- A number's bytes: an error, or what stands below the last byte, that byte, where it begins, what is left. -/
def grp (bits : Nat) : List UInt8 → Nat → Nat → Int ⊕ (Nat × Nat × Nat × List UInt8)
  | [], _, _ => .inl 10
  | b :: t, low, sh => if b.toNat < 128 then .inr (low, b.toNat, sh, t) else if bits ≤ sh + 7 then .inl 11 else grp bits t (low + (b.toNat - 128) * 2 ^ sh) (sh + 7)

def GrpPost (w : World) (g : Nat) (e : Int) (r : Int ⊕ (Nat × Nat × Nat × List UInt8)) (en : Ending) (w' : World) : Prop :=
  w.grownBy w' (some g) ∧ match r with
    | .inl k => ∃ a b c : Int, en = .returned (.tuple #[.int .u64 a, .int .u8 b, .int .i64 c]) ∧ Rd w' g [] (fl e k)
    | .inr (low, last, sh, t) => en = .returned (.tuple #[.int .u64 low, .int .u8 last, .int .i64 sh]) ∧ Rd w' g t e

set_option maxHeartbeats 1600000 in
set_option maxRecDepth 100000 in
theorem groups_any (w : World) (g : Nat) (l : List UInt8) (e : Int) (bits : Nat) (h1 : 1 ≤ bits) (h2 : bits ≤ 64) (h : Rd w g l e) (hl : e ≠ 0 → l = []) :
    Calls Try.prog 34 #[.pointer (some ⟨g, 0, none⟩), .int .i64 bits] w (GrpPost w g e (grp bits l 0 0)) := by
  have HL := hid hl
  clear hl
  go_enter Try.func34, Try.ntmps34
  have hlo : (1 : Int) ≤ (bits : Int) := by omega
  have hhi : (bits : Int) ≤ 64 := by omega
  go_wp2_with fail
  refine wp_scope_jumps 0 (fun a' w' => ∃ (low sh : Nat) (l' : List UInt8) (u5 u7 u8 u9 u10 u11 u12 u13 u14 u15 u16 u17 u18 u19 u20 u21 u22 u23 u24 u25 u26 u27 u28 u29 u30 u31 u32 u33 u34 u35 : Value), a' = { tmps := #[.pointer (some ⟨g, 0, none⟩), .int .i64 bits, undef, undef, .int .u64 low, u5, .int .i64 sh, u7, u8, u9, u10, u11, u12, u13, u14, u15, u16, u17, u18, u19, u20, u21, u22, u23, u24, u25, u26, u27, u28, u29, u30, u31, u32, u33, u34, u35], defers := [] } ∧ Rd w' g l' e ∧ (e ≠ 0 → l' = []) ∧ w.grownBy w' (some g) ∧ grp bits l 0 0 = grp bits l' low sh ∧ low < 2 ^ sh ∧ sh < bits) (fun a' _ => bits - (intOf (a'.tmps.getD 6 undef)).toNat) rfl ?_ ?_
  · have hd1 : decide ((bits : Int) < 1) = false := by simp; omega
    have hd2 : decide (64 < (bits : Int)) = false := by simp; omega
    have HB := hid (Byte_any w g l e h HL.out)
    go_wp2_with fail
    go_step3
    cases l with
    | nil =>
      have hB : Calls Try.prog 21 #[.pointer (some ⟨g, 0, none⟩)] w fun en w1 => en = .returned (.int .u8 0) ∧ Rd w1 g [] (fl e 10) ∧ w.grownBy w1 (some g) := HB.out
      clear HB
      have HB := hid hB
      clear hB
      go_wp2_with (go_at_call 21; refine HB.out.mono ?_; rintro en w1 ⟨rfl, hR, hG1⟩)
      simp only [Exit.jump]
      go_ret3
      exact ⟨hG1, _, _, _, rfl, hR⟩
    | cons b t =>
      have he : e = 0 := by
        by_cases h : e = 0
        · exact h
        · cases HL.out h
      subst he
      have hb := b.toNat_lt
      by_cases h128 : b.toNat < 128
      · have hB : Calls Try.prog 21 #[.pointer (some ⟨g, 0, none⟩)] w fun en w1 => en = .returned (.int .u8 b.toNat) ∧ Rd w1 g t 0 ∧ w.grownBy w1 (some g) := HB.out
        clear HB
        have HB := hid hB
        clear hB
        have HX : Hid (grp bits (b :: t) 0 0 = .inr (0, b.toNat, 0, t)) := hid (by rw [grp, if_pos h128])
        go_wp2_with (go_at_call 21; refine HB.out.mono ?_; rintro en w1 ⟨rfl, hR, hG1⟩)
        simp only [Exit.jump]
        go_ret3
        refine ⟨hG1, ?_⟩
        rw [HX.out]
        exact ⟨rfl, hR⟩
      · obtain ⟨d, hd⟩ : ∃ d : Nat, b.toNat = d + 128 := ⟨b.toNat - 128, by omega⟩
        have hd128 : d < 128 := by omega
        have hB : Calls Try.prog 21 #[.pointer (some ⟨g, 0, none⟩)] w fun en w1 => en = .returned (.int .u8 ((d : Int) + 128)) ∧ Rd w1 g t 0 ∧ w.grownBy w1 (some g) := by
          have := HB.out
          simp only [bx, hd] at this
          exact this
        clear HB
        have HB := hid hB
        have hand : Go.bits .and .u8 ((d : Int) + 128) 127 = (d : Int) := by rw [u8_and127 _ (by omega) (by omega)]; omega
        by_cases hlast : bits ≤ 0 + 7
        · have HX : Hid (grp bits (b :: t) 0 0 = .inl 11) := hid (by rw [grp, if_neg h128, if_pos hlast])
          clear hB hd h128
          go_wp2_with (first
            | (go_at_call 21; refine HB.out.mono ?_; rintro en w1 ⟨rfl, hR, hG1⟩)
            | (go_at_call 27; refine (Fail_any w1 g t 0 11 hR (by simp) (by decide)).mono ?_; rintro en w2 ⟨rfl, hR2, hG2⟩))
          simp only [Exit.jump]
          go_ret3
          refine ⟨grownBy_trans hG1 hG2, ?_⟩
          rw [HX.out]
          exact ⟨_, _, _, rfl, hR2⟩
        · have HX : Hid (grp bits (b :: t) 0 0 = grp bits t d 7) := hid (by rw [grp, if_neg h128, if_neg hlast, hd]; simp)
          have hor : Go.bits .or .u64 0 (d : Int) = (d : Int) := by
            have := or_low 0 d 0 (by simp) (by omega) (by simp; omega)
            simpa using this
          have hw1 : IntKind.u64.wrap (d : Int) = (d : Int) := by rw [IntKind.wrap_u64]; omega
          clear hB hd h128
          go_wp2_with (go_at_call 21; refine HB.out.mono ?_; rintro en w1 ⟨rfl, hR, hG1⟩)
          go_step3
          refine ⟨rfl, d, 7, t, _, _, _, _, _, _, _, _, _, _, _, _, _, _, _, _, _, _, _, _, _, _, _, _, _, _, _, _, _, _, rfl, hR, by simp, hG1, HX.out, by omega, by omega⟩
  · rintro a' w' ⟨low, sh, l', u5, u7, u8, u9, u10, u11, u12, u13, u14, u15, u16, u17, u18, u19, u20, u21, u22, u23, u24, u25, u26, u27, u28, u29, u30, u31, u32, u33, u34, u35, rfl, hR, hl', hG, hgrp, hlow, hsh⟩
    have HB := hid (Byte_any w' g l' e hR hl')
    have HG := hid hgrp
    have HW := hid hlow
    clear hgrp hlow hR
    cases l' with
    | nil =>
      have hB : Calls Try.prog 21 #[.pointer (some ⟨g, 0, none⟩)] w' fun en w1 => en = .returned (.int .u8 0) ∧ Rd w1 g [] (fl e 10) ∧ w'.grownBy w1 (some g) := HB.out
      clear HB
      have HB := hid hB
      clear hB
      go_wp2_with (go_at_call 21; refine HB.out.mono ?_; rintro en w1 ⟨rfl, hR, hG1⟩)
      simp only [Exit.jump]
      go_ret3
      refine ⟨grownBy_trans hG hG1, ?_⟩
      rw [HG.out]
      exact ⟨_, _, _, rfl, hR⟩
    | cons b t =>
      have he : e = 0 := by
        by_cases h : e = 0
        · exact h
        · cases hl' h
      subst he
      have hb := b.toNat_lt
      by_cases h128 : b.toNat < 128
      · have hB : Calls Try.prog 21 #[.pointer (some ⟨g, 0, none⟩)] w' fun en w1 => en = .returned (.int .u8 b.toNat) ∧ Rd w1 g t 0 ∧ w'.grownBy w1 (some g) := HB.out
        clear HB
        have HB := hid hB
        clear hB hl'
        have HX : Hid (grp bits l 0 0 = .inr (low, b.toNat, sh, t)) := hid (by rw [HG.out, grp, if_pos h128])
        go_wp2_with (go_at_call 21; refine HB.out.mono ?_; rintro en w1 ⟨rfl, hR, hG1⟩)
        simp only [Exit.jump]
        go_ret3
        refine ⟨grownBy_trans hG hG1, ?_⟩
        rw [HX.out]
        exact ⟨rfl, hR⟩
      · obtain ⟨d, hd⟩ : ∃ d : Nat, b.toNat = d + 128 := ⟨b.toNat - 128, by omega⟩
        have hd128 : d < 128 := by omega
        have hB : Calls Try.prog 21 #[.pointer (some ⟨g, 0, none⟩)] w' fun en w1 => en = .returned (.int .u8 ((d : Int) + 128)) ∧ Rd w1 g t 0 ∧ w'.grownBy w1 (some g) := by
          have := HB.out
          simp only [bx, hd] at this
          exact this
        clear HB
        have HB := hid hB
        have hand : Go.bits .and .u8 ((d : Int) + 128) 127 = (d : Int) := by rw [u8_and127 _ (by omega) (by omega)]; omega
        by_cases hlast : bits ≤ sh + 7
        · have HX : Hid (grp bits l 0 0 = .inl 11) := hid (by rw [HG.out, grp, if_neg h128, if_pos hlast])
          clear hB hl' hd h128
          go_wp2_with (first
            | (go_at_call 21; refine HB.out.mono ?_; rintro en w1 ⟨rfl, hR, hG1⟩)
            | (go_at_call 27; refine (Fail_any w1 g t 0 11 hR (by simp) (by decide)).mono ?_; rintro en w2 ⟨rfl, hR2, hG2⟩))
          simp only [Exit.jump]
          go_ret3
          refine ⟨grownBy_trans (grownBy_trans hG hG1) hG2, ?_⟩
          rw [HX.out]
          exact ⟨_, _, _, rfl, hR2⟩
        · have HX : Hid (grp bits l 0 0 = grp bits t (low + d * 2 ^ sh) (sh + 7)) := hid (by rw [HG.out, grp, if_neg h128, if_neg hlast, hd]; rfl)
          have hlt : d * 2 ^ sh < 18446744073709551616 := mul_pow_lt (k := 7) (j := 64) (by omega) (by omega)
          have hw1 : IntKind.u64.wrap ((d : Int) * 2 ^ sh) = ((d * 2 ^ sh : Nat) : Int) := wrap_u64_shl d sh hlt
          have hor : Go.bits .or .u64 (low : Int) ((d * 2 ^ sh : Nat) : Int) = ((low + d * 2 ^ sh : Nat) : Int) := or_low low d sh HW.out (by omega) hlt
          have HN := hid (low_next HW.out hd128)
          obtain ⟨q, hq⟩ : ∃ q : Nat, q = d * 2 ^ sh := ⟨_, rfl⟩
          rw [← hq] at hw1 hor
          have HQ := hid hq
          clear hB hl' hd h128 hlt hq
          go_wp2_with (go_at_call 21; refine HB.out.mono ?_; rintro en w1 ⟨rfl, hR, hG1⟩)
          go_step3
          refine ⟨rfl, ⟨low + q, sh + 7, t, _, _, _, _, _, _, _, _, _, _, _, _, _, _, _, _, _, _, _, _, _, _, _, _, _, _, _, _, _, _, rfl, hR, by simp, grownBy_trans hG hG1, by rw [HX.out, HQ.out], by rw [HQ.out]; exact HN.out, by omega⟩, by simp [intOf]; omega⟩

end Go.Proofs.Ytljfhedmpnikiaa
