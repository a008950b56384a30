/-
  The contracts of a reader's own U and S, and of groups where there are no such bits, and on no reader. No condition beyond what a reader is.
-/
import Derived.Test.YtljfhedmpnikiaaGroups
namespace Go.Proofs.Ytljfhedmpnikiaa
open Go.RowKit

set_option maxHeartbeats 1600000 in
set_option maxRecDepth 100000 in
theorem groups_bad (w : World) (g : Nat) (l : List UInt8) (e : Int) (b : Int) (hb : b < 1 ∨ 64 < b) (h : Rd w g l e) (hl : e ≠ 0 → l = []) :
    Calls Try.prog 34 #[.pointer (some ⟨g, 0, none⟩), .int .i64 b] w fun en w' => en = .returned (.tuple #[.int .u64 0, .int .u8 0, .int .i64 0]) ∧ Rd w' g [] (fl e 1) ∧ w.grownBy w' (some g) := by
  have HF := hid (Fail_any w g l e 1 h hl (by decide))
  clear hl h
  go_enter Try.func34, Try.ntmps34
  go_wp2_with fail
  refine wp_scope_jumps 0 (fun _ _ => False) (fun _ _ => 0) rfl ?_ (fun _ _ h => h.elim)
  by_cases h1 : b < 1
  · have hd1 : decide (b < 1) = true := by simpa using h1
    clear hb
    go_wp2_with (go_at_call 27; refine HF.out.mono ?_; rintro en w2 ⟨rfl, hR2, hG2⟩)
    (try simp only [Exit.jump])
    go_ret3
    exact ⟨rfl, hR2, hG2⟩
  · have hd1 : decide (b < 1) = false := by simpa using h1
    have hd2 : decide (64 < b) = true := by simp; omega
    clear hb
    go_wp2_with (go_at_call 27; refine HF.out.mono ?_; rintro en w2 ⟨rfl, hR2, hG2⟩)
    (try simp only [Exit.jump])
    go_ret3
    exact ⟨rfl, hR2, hG2⟩

set_option maxHeartbeats 400000 in
theorem next_nil (w : World) (n : Nat) (hn : 0 < n) (_hn2 : n < 18446744073709551616) : Calls Try.prog 37 #[.pointer none, .int .u64 n] w fun en w' => en = .returned (.slice none 0 0) ∧ w = w' := by
  go_enter Try.func37, Try.ntmps37
  go_wp2_with (first
    | (go_at_call 29; refine (Left_nil w).mono ?_; rintro en w1 ⟨rfl, rfl⟩)
    | (go_at_call 27; refine (Fail_nil w 10).mono ?_; rintro en w1 ⟨rfl, rfl⟩))
  go_ret
  exact ⟨rfl, rfl⟩

set_option maxHeartbeats 400000 in
theorem next_nil0 (w : World) : Calls Try.prog 37 #[.pointer none, .int .u64 0] w fun en w' => en = .returned (.slice none 0 0) ∧ w = w' := by
  go_enter Try.func37, Try.ntmps37
  go_wp2_with (first
    | (go_at_call 29; refine (Left_nil w).mono ?_; rintro en w1 ⟨rfl, rfl⟩))
  go_ret
  exact ⟨rfl, rfl⟩

set_option maxHeartbeats 400000 in
theorem Byte_nil (w : World) : Calls Try.prog 21 #[.pointer none] w fun en w' => en = .returned (.int .u8 0) ∧ w = w' := by
  go_enter Try.func21, Try.ntmps21
  go_wp2_with (go_at_call 37; refine (next_nil w 1 (by decide) (by decide)).mono ?_; rintro en w1 ⟨rfl, rfl⟩)
  go_ret
  exact ⟨rfl, rfl⟩

set_option maxHeartbeats 1600000 in
set_option maxRecDepth 100000 in
theorem groups_nil (w : World) (b : Int) :
    Calls Try.prog 34 #[.pointer none, .int .i64 b] w fun en w' => en = .returned (.tuple #[.int .u64 0, .int .u8 0, .int .i64 0]) ∧ w = w' := by
  go_enter Try.func34, Try.ntmps34
  go_wp2_with fail
  refine wp_scope_jumps 0 (fun _ _ => False) (fun _ _ => 0) rfl ?_ (fun _ _ h => h.elim)
  by_cases h1 : b < 1
  · have hd1 : decide (b < 1) = true := by simpa using h1
    go_wp2_with (go_at_call 27; refine (Fail_nil w 1).mono ?_; rintro en w2 ⟨rfl, rfl⟩)
    (try simp only [Exit.jump])
    go_ret3
    exact ⟨rfl, rfl⟩
  · have hd1 : decide (b < 1) = false := by simpa using h1
    by_cases h2 : 64 < b
    · have hd2 : decide (64 < b) = true := by simpa using h2
      go_wp2_with (go_at_call 27; refine (Fail_nil w 1).mono ?_; rintro en w2 ⟨rfl, rfl⟩)
      (try simp only [Exit.jump])
      go_ret3
      exact ⟨rfl, rfl⟩
    · have hd2 : decide (64 < b) = false := by simpa using h2
      go_wp2_with fail
      go_step3
      go_wp2_with (go_at_call 21; refine (Byte_nil w).mono ?_; rintro en w1 ⟨rfl, rfl⟩)
      (try simp only [Exit.jump])
      go_ret3
      exact ⟨rfl, rfl⟩

theorem grp_inl {nb : Nat} : ∀ {l : List UInt8} {low sh : Nat} {k : Int}, grp nb l low sh = .inl k → k = 10 ∨ k = 11
  | [], _, _, k, h => by simp only [grp, Sum.inl.injEq] at h; exact .inl h.symm
  | b :: t, low, sh, k, h => by
    rw [grp] at h
    split at h
    · cases h
    · split at h
      · cases h; exact .inr rfl
      · exact grp_inl h

theorem grp_inr {nb : Nat} : ∀ {l : List UInt8} {low sh a last s : Nat} {t : List UInt8}, sh < nb → low < 2 ^ sh → grp nb l low sh = .inr (a, last, s, t) → last < 128 ∧ s < nb ∧ a < 2 ^ s ∧ l ≠ []
  | [], _, _, _, _, _, _, _, _, h => by simp [grp] at h
  | b :: t, low, sh, a, last, s, t', h1, h2, h => by
    rw [grp] at h
    split at h
    · cases h
      exact ⟨by assumption, h1, h2, by simp⟩
    · split at h
      · cases h
      · have hb := b.toNat_lt
        have := grp_inr (by omega) (low_next h2 (by omega)) h
        exact ⟨this.1, this.2.1, this.2.2.1, by simp⟩

theorem fl_ne {e k : Int} (hk : k ≠ 0) : fl e k ≠ 0 := by unfold fl; split <;> assumption

/-- What U(b) gives; what is left; the error. -/
def uSpec (b : Int) (l : List UInt8) (e : Int) : Nat × List UInt8 × Int :=
  if b < 1 ∨ 64 < b then (0, [], fl e 1) else match grp b.toNat l 0 0 with
    | .inl k => (0, [], fl e k)
    | .inr (low, last, sh, t) => if last / 2 ^ (b.toNat - sh) = 0 then (low + last * 2 ^ sh, t, e) else (0, [], fl e 11)

set_option maxHeartbeats 1600000 in
set_option maxRecDepth 100000 in
theorem rU_any (w : World) (g : Nat) (l : List UInt8) (e : Int) (b : Int) (h : Rd w g l e) (hl : e ≠ 0 → l = []) :
    Calls Try.prog 17 #[.pointer (some ⟨g, 0, none⟩), .int .i64 b] w fun en w' => en = .returned (.int .u64 (uSpec b l e).1) ∧ Rd w' g (uSpec b l e).2.1 (uSpec b l e).2.2 ∧ w.grownBy w' (some g) := by
  have HL := hid hl
  clear hl
  by_cases hb : b < 1 ∨ 64 < b
  · have HX : Hid (uSpec b l e = (0, [], fl e 1)) := hid (by rw [uSpec, if_pos hb])
    have HE := hid (fl_ne (e := e) (k := 1) (by decide))
    have HE2 : (fl e 1 != 0) = true := by simpa using HE.out
    have HG := hid (groups_bad w g l e b hb h HL.out)
    clear hb h
    go_enter Try.func17, Try.ntmps17
    go_wp2_with (first
      | (go_at_call 34; refine HG.out.mono ?_; rintro en w1 ⟨rfl, hR, hG⟩)
      | (go_at_call 30; refine (Err_any w1 g _ _ hR).mono ?_; rintro en w2 ⟨rfl, rfl⟩))
    go_ret
    rw [HX.out]
    exact ⟨rfl, hR, hG⟩
  · obtain ⟨nb, rfl⟩ : ∃ nb : Nat, b = (nb : Int) := ⟨b.toNat, by omega⟩
    have h1 : 1 ≤ nb := by omega
    have h2 : nb ≤ 64 := by omega
    have HG := hid (groups_any w g l e nb h1 h2 h HL.out)
    cases hg : grp nb l 0 0 with
    | inl k =>
      have HX : Hid (uSpec nb l e = (0, [], fl e k)) := hid (by rw [uSpec, if_neg hb, Int.toNat_natCast, hg])
      have hk : k ≠ 0 := by rcases grp_inl hg with h | h <;> omega
      have HE := hid (fl_ne (e := e) hk)
      have HE2 : (fl e k != 0) = true := by simpa using HE.out
      rw [hg] at HG
      clear hg hb h hk
      go_enter Try.func17, Try.ntmps17
      go_wp2_with (first
        | (go_at_call 34; refine HG.out.mono ?_; rintro en w1 ⟨hG, a, b, c, rfl, hR⟩)
        | (go_at_call 30; refine (Err_any w1 g _ _ hR).mono ?_; rintro en w2 ⟨rfl, rfl⟩))
      go_ret
      rw [HX.out]
      exact ⟨rfl, hR, hG⟩
    | inr r =>
      obtain ⟨low, last, sh, t⟩ := r
      obtain ⟨f1, f2, f3, f4⟩ := grp_inr (by omega) (by simp) hg
      have he : e = 0 := by
        by_cases h : e = 0
        · exact h
        · exact absurd (HL.out h) f4
      subst he
      obtain ⟨c, rfl⟩ : ∃ c, nb = sh + c := ⟨nb - sh, by omega⟩
      have hc : 1 ≤ c := by omega
      rw [hg] at HG
      have hsub : (sh : Int) + (c : Int) - (sh : Int) = (c : Int) := by omega
      have hshr := shr_min (last := last) (c := c) (by omega)
      by_cases hz : last / 2 ^ c = 0
      · have hX : uSpec ((sh + c : Nat) : Int) l 0 = (low + last * 2 ^ sh, t, 0) := by
          rw [uSpec, if_neg hb, Int.toNat_natCast, hg]
          simp only []
          rw [show sh + c - sh = c by omega, if_pos hz]
        have HX := hid hX
        have hlt : last * 2 ^ sh < 18446744073709551616 := by
          have := (Nat.div_eq_zero_iff_lt (Nat.two_pow_pos c)).1 hz
          exact mul_pow_lt (k := c) (j := 64) this (by omega)
        have hw1 : IntKind.u64.wrap ((last : Int) * 2 ^ sh) = ((last * 2 ^ sh : Nat) : Int) := wrap_u64_shl last sh hlt
        have hor : Go.bits .or .u64 (low : Int) ((last * 2 ^ sh : Nat) : Int) = ((low + last * 2 ^ sh : Nat) : Int) := or_low low last sh f3 (by omega) hlt
        rw [hz] at hshr
        obtain ⟨q, hq⟩ : ∃ q : Nat, q = last * 2 ^ sh := ⟨_, rfl⟩
        rw [← hq] at hw1 hor
        have HQ := hid hq
        clear hb h hg hX hlt hz f3 f4 hq
        go_enter Try.func17, Try.ntmps17
        go_wp2_with (first
          | (go_at_call 34; refine HG.out.mono ?_; rintro en w1 ⟨hG, rfl, hR⟩)
          | (go_at_call 30; refine (Err_any w1 g _ _ hR).mono ?_; rintro en w2 ⟨rfl, rfl⟩))
        go_ret
        rw [HX.out, ← HQ.out]
        exact ⟨rfl, hR, hG⟩
      · have hX : uSpec ((sh + c : Nat) : Int) l 0 = (0, [], fl 0 11) := by
          rw [uSpec, if_neg hb, Int.toNat_natCast, hg]
          simp only []
          rw [show sh + c - sh = c by omega, if_neg hz]
        have HX := hid hX
        obtain ⟨z, hzz⟩ : ∃ z : Nat, z = last / 2 ^ c := ⟨_, rfl⟩
        rw [← hzz] at hshr hz
        have hz2 : ((z : Int) != 0) = true := by simpa using hz
        clear hb h hg hX hz f3 f4 hzz
        go_enter Try.func17, Try.ntmps17
        go_wp2_with (first
          | (go_at_call 34; refine HG.out.mono ?_; rintro en w1 ⟨hG, rfl, hR⟩)
          | (go_at_call 30; refine (Err_any w1 g _ _ hR).mono ?_; rintro en w2 ⟨rfl, rfl⟩)
          | (go_at_call 27; refine (Fail_any w1 g t 0 11 hR (by simp) (by decide)).mono ?_; rintro en w2 ⟨rfl, hR2, hG2⟩))
        go_ret
        rw [HX.out]
        exact ⟨rfl, hR2, grownBy_trans hG hG2⟩

theorem wrap64_of {n : Int} (h0 : -9223372036854775808 ≤ n) (h1 : n < 9223372036854775808) : wrap64 n = n := by unfold wrap64; omega

/-- The last byte's seven bits as a number of either sign. -/
def topOf (last : Nat) : Int := if last < 64 then (last : Int) else (last : Int) - 128

/-- What S(b) gives; what is left; the error. -/
def sSpec (b : Int) (l : List UInt8) (e : Int) : Int × List UInt8 × Int :=
  if b < 1 ∨ 64 < b then (0, [], fl e 1) else match grp b.toNat l 0 0 with
    | .inl k => (0, [], fl e k)
    | .inr (low, last, sh, t) => if topOf last / 2 ^ (b.toNat - sh - 1) = 0 ∨ topOf last / 2 ^ (b.toNat - sh - 1) = -1 then (low + topOf last * 2 ^ sh, t, e) else (0, [], fl e 11)

set_option maxHeartbeats 1600000 in
set_option maxRecDepth 100000 in
theorem rS_any (w : World) (g : Nat) (l : List UInt8) (e : Int) (b : Int) (h : Rd w g l e) (hl : e ≠ 0 → l = []) :
    Calls Try.prog 19 #[.pointer (some ⟨g, 0, none⟩), .int .i64 b] w fun en w' => en = .returned (.int .i64 (sSpec b l e).1) ∧ Rd w' g (sSpec b l e).2.1 (sSpec b l e).2.2 ∧ w.grownBy w' (some g) := by
  have HL := hid hl
  clear hl
  by_cases hb : b < 1 ∨ 64 < b
  · have HX : Hid (sSpec b l e = (0, [], fl e 1)) := hid (by rw [sSpec, if_pos hb])
    have HE := hid (fl_ne (e := e) (k := 1) (by decide))
    have HE2 : (fl e 1 != 0) = true := by simpa using HE.out
    have HG := hid (groups_bad w g l e b hb h HL.out)
    clear hb h
    go_enter Try.func19, Try.ntmps19
    go_wp2_with (first
      | (go_at_call 34; refine HG.out.mono ?_; rintro en w1 ⟨rfl, hR, hG⟩)
      | (go_at_call 30; refine (Err_any w1 g _ _ hR).mono ?_; rintro en w2 ⟨rfl, rfl⟩))
    go_ret
    rw [HX.out]
    exact ⟨rfl, hR, hG⟩
  · obtain ⟨nb, rfl⟩ : ∃ nb : Nat, b = (nb : Int) := ⟨b.toNat, by omega⟩
    have h1 : 1 ≤ nb := by omega
    have h2 : nb ≤ 64 := by omega
    have HG := hid (groups_any w g l e nb h1 h2 h HL.out)
    cases hg : grp nb l 0 0 with
    | inl k =>
      have HX : Hid (sSpec nb l e = (0, [], fl e k)) := hid (by rw [sSpec, if_neg hb, Int.toNat_natCast, hg])
      have hk : k ≠ 0 := by rcases grp_inl hg with h | h <;> omega
      have HE := hid (fl_ne (e := e) hk)
      have HE2 : (fl e k != 0) = true := by simpa using HE.out
      rw [hg] at HG
      clear hg hb h hk
      go_enter Try.func19, Try.ntmps19
      go_wp2_with (first
        | (go_at_call 34; refine HG.out.mono ?_; rintro en w1 ⟨hG, a, b, c, rfl, hR⟩)
        | (go_at_call 30; refine (Err_any w1 g _ _ hR).mono ?_; rintro en w2 ⟨rfl, rfl⟩))
      go_ret
      rw [HX.out]
      exact ⟨rfl, hR, hG⟩
    | inr r =>
      obtain ⟨low, last, sh, t⟩ := r
      obtain ⟨f1, f2, f3, f4⟩ := grp_inr (by omega) (by simp) hg
      have he : e = 0 := by
        by_cases h : e = 0
        · exact h
        · exact absurd (HL.out h) f4
      subst he
      obtain ⟨c, rfl⟩ : ∃ c, nb = sh + (c + 1) := ⟨nb - sh - 1, by omega⟩
      rw [hg] at HG
      have hsub : (sh : Int) + ((c : Int) + 1) - (sh : Int) = (c : Int) + 1 := by omega
      have hT : IntKind.i8.wrap ((last : Int) * 2) / 2 = topOf last := by
        rw [IntKind_wrap_i8]; unfold topOf; split <;> omega
      have hT0 : -128 ≤ topOf last := by unfold topOf; split <;> omega
      have hT1 : topOf last < 128 := by unfold topOf; split <;> omega
      have hshr := top_min hT0 hT1 c
      have hspec : sSpec ((sh + (c + 1) : Nat) : Int) l 0 = if topOf last / 2 ^ c = 0 ∨ topOf last / 2 ^ c = -1 then (low + topOf last * 2 ^ sh, t, 0) else (0, [], fl 0 11) := by
        rw [sSpec, if_neg hb, Int.toNat_natCast, hg]
        simp only []
        rw [show sh + (c + 1) - sh - 1 = c by omega]
      have hend : sh + c ≤ 63 := by omega
      clear hb h hg
      generalize topOf last = T at *
      generalize hZ : T / 2 ^ c = Z at *
      by_cases hz : Z = 0 ∨ Z = -1
      · rw [if_pos hz] at hspec
        have HX := hid hspec
        rw [← hZ] at hz
        obtain ⟨r0, r1, _, _⟩ := s_range f3 hend hz
        have hp : 2 ^ sh ≤ 2 ^ 63 := Nat.pow_le_pow_right (by decide) (by omega)
        have hor := or_i64 low T sh (by omega) f3 r0 r1
        have hlow : low < 9223372036854775808 := Nat.lt_of_lt_of_le f3 hp
        rw [hZ] at hz
        have w1 : wrap64 (low : Int) = low := wrap64_of (by omega) (by omega)
        have w2 : wrap64 T = T := wrap64_of (by omega) (by omega)
        have w3 : wrap64 (T * 2 ^ sh) = T * 2 ^ sh := wrap64_of r0 (Int.lt_of_le_of_lt (Int.le_add_of_nonneg_right (Int.natCast_nonneg low)) r1)
        obtain ⟨Y, hY⟩ : ∃ Y : Int, T * 2 ^ sh = Y := ⟨_, rfl⟩
        rw [hY] at w3 hor
        have HY := hid hY
        clear hspec f3 f4 r0 r1 hp
        rcases hz with rfl | rfl
        all_goals
          clear hZ
          go_enter Try.func19, Try.ntmps19
          go_wp2_with (first
            | (go_at_call 34; refine HG.out.mono ?_; rintro en w1 ⟨hG, rfl, hR⟩)
            | (go_at_call 30; refine (Err_any w1 g _ _ hR).mono ?_; rintro en w2 ⟨rfl, rfl⟩))
          go_ret
          rw [HX.out, HY.out]
          exact ⟨rfl, hR, hG⟩
      · rw [if_neg hz] at hspec
        have HX := hid hspec
        have z0 : (Z != 0) = true := by simp; omega
        have z1 : (Z != -1) = true := by simp; omega
        clear hspec f3 f4 hz hZ
        go_enter Try.func19, Try.ntmps19
        go_wp2_with (first
          | (go_at_call 34; refine HG.out.mono ?_; rintro en w1 ⟨hG, rfl, hR⟩)
          | (go_at_call 30; refine (Err_any w1 g _ _ hR).mono ?_; rintro en w2 ⟨rfl, rfl⟩)
          | (go_at_call 27; refine (Fail_any w1 g t 0 11 hR (by simp) (by decide)).mono ?_; rintro en w2 ⟨rfl, hR2, hG2⟩))
        go_ret
        rw [HX.out]
        exact ⟨rfl, hR2, grownBy_trans hG hG2⟩

end Go.Proofs.Ytljfhedmpnikiaa
