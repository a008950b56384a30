/-
  The contract of the document's own reader's U, over the parts of a number. No condition beyond what such a reader is.
-/
import Derived.Test.YtljfhedmpnikiaaRefBit
namespace Go.Proofs.Ytljfhedmpnikiaa
open Go.RowKit

/-- What parts of seven bits come to. -/
def valOf : List Nat → Nat
  | [] => 0
  | p :: ps => p + 128 * valOf ps

theorem prt_small {nb : Nat} : ∀ {l : List UInt8} {j : Nat} {ps : List Nat} {t : List UInt8}, prt nb l j = .inr (ps, t) → (∀ p ∈ ps, p < 128) ∧ 1 ≤ ps.length
  | [], _, _, _, h => by simp [prt] at h
  | b :: l, j, ps, t, h => by
    rw [prt] at h
    split at h
    · cases h
      exact ⟨fun p hp => by simp at hp; omega, by simp⟩
    · split at h
      · cases h
      · have hb := b.toNat_lt
        split at h
        · cases h
        · rename_i ps' r hg
          cases h
          obtain ⟨h1, h2⟩ := prt_small hg
          exact ⟨fun p hp => by
            rcases List.mem_cons.1 hp with hp | hp
            · rw [hp]; omega
            · exact h1 p hp, by simp⟩

/-- How many parts there can be. -/
theorem prt_len {nb : Nat} : ∀ {l : List UInt8} {j : Nat} {ps : List Nat} {t : List UInt8}, 7 * j < nb → prt nb l j = .inr (ps, t) → 7 * (j + ps.length) < nb + 7
  | [], _, _, _, _, h => by rw [prt] at h; cases h
  | b :: l, j, ps, t, hj, h => by
    rw [prt] at h
    split at h
    · cases h
      show 7 * (j + 1) < nb + 7
      omega
    · split at h
      · cases h
      · split at h
        · cases h
        · rename_i ps' r hg
          cases h
          have := prt_len (by omega) hg
          show 7 * (j + (ps'.length + 1)) < nb + 7
          omega

theorem valOf_bit : ∀ (ps : List Nat) (k : Nat), (∀ p ∈ ps, p < 128) → valOf ps / 2 ^ k % 2 = bitOf ps k false
  | [], k, _ => by simp [valOf, bitOf]
  | p :: ps, k, h => by
    have hp : p < 128 := h p (by simp)
    by_cases hk : k < 7
    · have e1 : bitOf (p :: ps) k false = p / 2 ^ k % 2 := by
        rw [bitOf, if_pos (by simp; omega), partBit, Nat.div_eq_of_lt hk, Nat.mod_eq_of_lt hk]; rfl
      rw [e1, valOf]
      have e2 : 128 * valOf ps = 2 ^ k * (2 * (2 ^ (6 - k) * valOf ps)) := by
        have : (128 : Nat) = 2 ^ k * (2 * 2 ^ (6 - k)) := by
          rw [← Nat.mul_assoc, Nat.mul_comm (2 ^ k) 2, Nat.mul_assoc, ← Nat.pow_add, show k + (6 - k) = 6 by omega]
        rw [this, Nat.mul_assoc, Nat.mul_assoc]
      rw [e2, Nat.add_mul_div_left _ _ (Nat.two_pow_pos k)]
      omega
    · obtain ⟨m, rfl⟩ : ∃ m, k = m + 7 := ⟨k - 7, by omega⟩
      have e1 : bitOf (p :: ps) (m + 7) false = bitOf ps m false := by
        unfold bitOf
        have hl : (p :: ps).length = ps.length + 1 := rfl
        rw [hl]
        by_cases hm : m < 7 * ps.length
        · rw [if_pos (by omega), if_pos hm, partBit, partBit, Nat.add_div_right _ (by decide), Nat.add_mod_right]
          rfl
        · rw [if_neg (by omega), if_neg hm]; rfl
      have e2 : valOf (p :: ps) / 2 ^ (m + 7) = valOf ps / 2 ^ m := by
        rw [valOf, Nat.pow_add, Nat.mul_comm (2 ^ m), ← Nat.div_div_eq_div_mul, show (2 : Nat) ^ 7 = 128 from rfl, Nat.add_mul_div_left _ _ (by decide : 0 < 128), Nat.div_eq_of_lt hp, Nat.zero_add]
      rw [e1, e2, valOf_bit ps m (fun q hq => h q (by simp [hq]))]

theorem valOf_lt : ∀ (ps : List Nat), (∀ p ∈ ps, p < 128) → valOf ps < 2 ^ (7 * ps.length)
  | [], _ => by simp [valOf]
  | p :: ps, h => by
    have hp : p < 128 := h p (by simp)
    have ih := valOf_lt ps (fun q hq => h q (by simp [hq]))
    have e : 7 * (p :: ps).length = 7 * ps.length + 7 := by simp; omega
    rw [valOf, e, Nat.pow_add]
    omega

set_option maxHeartbeats 3200000 in
set_option maxRecDepth 100000 in
theorem RU_walk (w : World) (g : Nat) (l : List UInt8) (nb : Nat) (h1 : 1 ≤ nb) (h2 : nb ≤ 64) (h : RR w g l 0) (ps : List Nat) (t : List UInt8) (hp : prt nb l 0 = .inr (ps, t)) :
    Calls Try.prog 18 #[.pointer (some ⟨g, 0, none⟩), .int .i64 nb] w fun en w' => w.grownBy w' (some g) ∧
      (valOf ps < 2 ^ nb ∧ en = .returned (.int .u64 (valOf ps)) ∧ RR w' g t 0 ∨ 2 ^ nb ≤ valOf ps ∧ en = .returned (.int .u64 0) ∧ RR w' g [] 11) := by
  obtain ⟨hps, hne⟩ := prt_small hp
  have hpl := prt_len (by omega) hp
  have hV := valOf_lt ps hps
  have hG := group_any w g l nb h1 h2 h
  rw [hp] at hG
  have HG := hid hG
  have hlt := h.lt
  have HPS := hid hps
  have hget : ∀ j, ps.getD j 0 < 2147483648 := fun j => by
    rw [List.getD_eq_getElem?_getD]
    cases hj : ps[j]? with
    | none => simp
    | some p => have := hps p (List.mem_of_getElem? hj); simp; omega
  have HGET := hid hget
  have hV70 : valOf ps / 2 ^ 70 = 0 := Nat.div_eq_of_lt (Nat.lt_of_lt_of_le hV (Nat.pow_le_pow_right (by decide) (by omega)))
  have HV70 := hid hV70
  obtain ⟨V, hVe⟩ : ∃ V, V = valOf ps := ⟨_, rfl⟩
  have HVE := hid hVe
  clear hG h hp hps hget hV hV70 hVe
  go_enter Try.func18, Try.ntmps18
  go_wp2_with (go_at_call 35; refine HG.out.mono ?_; rintro en w1 ⟨hG1, v1, rfl, hown1, hR1⟩; obtain ⟨sv1, r1, r2⟩ := id hR1; obtain ⟨d0, d1, k0, k1⟩ := cells_two38 r1; clear r1 r2)
  go_loop [6, 7] (fun vn vk => ∃ q n : Nat, q ≤ 70 ∧ vk = .int .i64 ((q : Int) - 1) ∧ vn = .int .u64 n ∧ Hid (n = V / 2 ^ q) ∧ Hid (V / 2 ^ (max q nb) = 0)) (fun _ vk => (intOf vk + 1).toNat)
  case atStart => exact ⟨70, 0, by omega, rfl, rfl, hid (by rw [HVE.out]; exact HV70.out.symm), hid (by rw [HVE.out, Nat.max_eq_left (by omega)]; exact HV70.out)⟩
  case round =>
    obtain ⟨q, n, hq, rfl, rfl, hn, hz⟩ := hrel
    by_cases hq0 : q = 0
    · subst hq0
      have hVV : Hid (valOf ps < 2 ^ nb ∧ n = valOf ps) := hid ⟨by
        have := hz.out
        rw [Nat.max_eq_right (Nat.zero_le _), HVE.out] at this
        exact (Nat.div_eq_zero_iff_lt (Nat.two_pow_pos _)).1 this, by rw [hn.out, HVE.out]; simp⟩
      go_wp2
      go_ret
      obtain ⟨a, b⟩ := hVV.out
      exact ⟨hG1, .inl ⟨a, by rw [← b]; rfl, hR1⟩⟩
    · obtain ⟨p, rfl⟩ : ∃ p, q = p + 1 := ⟨q - 1, by omega⟩
      obtain ⟨b, hb⟩ : ∃ b : Nat, b = V / 2 ^ p % 2 := ⟨_, rfl⟩
      have hb2 : b < 2 := by omega
      have hbit := bit_any ps HGET.out p false w1 w.heap.size v1 hown1 (by omega) hne
      rw [← valOf_bit ps p HPS.out, ← HVE.out, ← hb] at hbit
      have HBIT := hid hbit
      have HB := hid hb
      have hdiv : V / 2 ^ p = 2 * (V / 2 ^ (p + 1)) + b := by
        rw [hb, Nat.pow_succ, ← Nat.div_div_eq_div_mul]; omega
      have HDIV := hid hdiv
      clear hbit hb hdiv hq0
      by_cases herr : nb ≤ p ∧ b = 1
      · obtain ⟨e1, rfl⟩ := herr
        have hbig : Hid (2 ^ nb ≤ valOf ps) := hid (by
          have h3 : 2 ^ nb ≤ 2 ^ p := Nat.pow_le_pow_right (by decide) e1
          have h4 : 0 < V / 2 ^ p := by have := HDIV.out; omega
          have h5 : 2 ^ p ≤ V := by
            rcases Nat.lt_or_ge V (2 ^ p) with h | h
            · rw [Nat.div_eq_of_lt h] at h4; omega
            · exact h
          rw [← HVE.out]; omega)
        have hd1 : decide ((nb : Int) ≤ (p : Int)) = true := by simp; omega
        go_wp2_with (first
          | (go_at_call 36; refine HBIT.out.mono ?_; rintro en w2 ⟨rfl, rfl⟩)
          | (go_at_call 28; refine (RFail_set w1 g t 11 hR1 (by decide)).mono ?_; rintro en w3 ⟨rfl, hR3, hG3⟩))
        go_ret
        exact ⟨grownBy_trans hG1 hG3, .inr ⟨hbig.out, rfl, hR3⟩⟩
      · have hM : Hid (V / 2 ^ (max p nb) = 0) := hid (by
          have := hz.out
          rcases Nat.lt_or_ge p nb with h | h
          · rw [Nat.max_eq_right (by omega)] at this ⊢; exact this
          · rw [Nat.max_eq_left (by omega)] at this ⊢
            have := HDIV.out; omega)
        have HM2 := hM
        have hVlt : p < 64 → V < 18446744073709551616 := fun hp => by
          have h3 := (Nat.div_eq_zero_iff_lt (Nat.two_pow_pos _)).1 hz.out
          have h4 : 2 ^ (max (p + 1) nb) ≤ 2 ^ 64 := Nat.pow_le_pow_right (by decide) (by omega)
          exact Nat.lt_of_lt_of_le h3 h4
        have hle : V / 2 ^ p ≤ V := Nat.div_le_self _ _
        by_cases hp64 : p < 64
        · have hd3 : decide ((p : Int) < 64) = true := by simp; omega
          have HN2 : Hid (n * 2 + b = V / 2 ^ p) := hid (by rw [hn.out, HDIV.out]; omega)
          have hbound : n * 2 + b < 18446744073709551616 := by rw [HN2.out]; exact Nat.lt_of_le_of_lt hle (hVlt hp64)
          clear hVlt hle
          by_cases hnp : nb ≤ p
          · obtain rfl : b = 0 := by omega
            have hd1 : decide ((nb : Int) ≤ (p : Int)) = true := by simp; omega
            clear herr
            go_wp2_with (go_at_call 36; refine HBIT.out.mono ?_; rintro en w2 ⟨rfl, rfl⟩)
            go_roundw
            case rel => exact ⟨p, n * 2 + 0, by omega, by go_num, by go_num, HN2, HM2⟩
            case measure => simp [intOf]
          · have hd1 : decide ((nb : Int) ≤ (p : Int)) = false := by simp; omega
            clear herr
            go_wp2_with (go_at_call 36; refine HBIT.out.mono ?_; rintro en w2 ⟨rfl, rfl⟩)
            go_roundw
            case rel => exact ⟨p, n * 2 + b, by omega, by go_num, by go_num, HN2, HM2⟩
            case measure => simp [intOf]
        · have hd3 : decide ((p : Int) < 64) = false := by simp; omega
          have hnp : nb ≤ p := by omega
          obtain rfl : b = 0 := by omega
          have hd1 : decide ((nb : Int) ≤ (p : Int)) = true := by simp; omega
          have HN2 : Hid (n = V / 2 ^ p) := hid (by
            have h5 := hM.out
            rw [Nat.max_eq_left hnp] at h5
            have := HDIV.out
            rw [hn.out]; omega)
          clear herr hVlt hle
          go_wp2_with (go_at_call 36; refine HBIT.out.mono ?_; rintro en w2 ⟨rfl, rfl⟩)
          go_roundw
          case rel => exact ⟨p, n, by omega, by go_num, by go_num, HN2, HM2⟩
          case measure => simp [intOf]

theorem grp_prt {nb : Nat} : ∀ (l : List UInt8) (j low : Nat), match prt nb l j with
    | .inl k => grp nb l low (7 * j) = .inl k
    | .inr (ps, t) => ∃ a last s, grp nb l low (7 * j) = .inr (a, last, s, t) ∧ a + last * 2 ^ s = low + valOf ps * 2 ^ (7 * j)
  | [], j, low => by rw [prt]; rfl
  | b :: l, j, low => by
    rw [prt]
    by_cases hb : b.toNat < 128
    · rw [if_pos hb]
      refine ⟨low, b.toNat, 7 * j, by rw [grp, if_pos hb], ?_⟩
      show _ = low + (b.toNat + 128 * 0) * 2 ^ (7 * j)
      rw [Nat.mul_zero, Nat.add_zero]
    · rw [if_neg hb]
      by_cases hl : nb ≤ 7 * j + 7
      · rw [if_pos hl]
        show grp nb (b :: l) low (7 * j) = .inl 11
        rw [grp, if_neg hb, if_pos hl]
      · rw [if_neg hl]
        have ih := grp_prt (nb := nb) l (j + 1) (low + (b.toNat - 128) * 2 ^ (7 * j))
        have e : grp nb (b :: l) low (7 * j) = grp nb l (low + (b.toNat - 128) * 2 ^ (7 * j)) (7 * (j + 1)) := by
          rw [grp, if_neg hb, if_neg hl]; rfl
        rw [e]
        cases hp : prt nb l (j + 1) with
        | inl k =>
          rw [hp] at ih
          exact ih
        | inr r =>
          obtain ⟨ps, t⟩ := r
          rw [hp] at ih
          obtain ⟨a, last, s, h1, h2⟩ := ih
          refine ⟨a, last, s, h1, ?_⟩
          rw [h2]
          show _ = low + (b.toNat - 128 + 128 * valOf ps) * 2 ^ (7 * j)
          rw [Nat.add_mul, Nat.add_assoc, show 7 * (j + 1) = 7 * j + 7 from rfl, Nat.pow_add, show (2 : Nat) ^ 7 = 128 from rfl, Nat.mul_comm (2 ^ (7 * j)) 128, ← Nat.mul_assoc, Nat.mul_comm (valOf ps) 128]

theorem fits_iff {a last s nb : Nat} (hs : s < nb) (ha : a < 2 ^ s) : last / 2 ^ (nb - s) = 0 ↔ a + last * 2 ^ s < 2 ^ nb := by
  have e : 2 ^ nb = 2 ^ (nb - s) * 2 ^ s := by rw [← Nat.pow_add, Nat.sub_add_cancel (by omega)]
  rw [Nat.div_eq_zero_iff_lt (Nat.two_pow_pos _), e]
  have hp := Nat.two_pow_pos s
  constructor
  · intro h
    have : (last + 1) * 2 ^ s ≤ 2 ^ (nb - s) * 2 ^ s := Nat.mul_le_mul_right _ h
    rw [Nat.add_mul] at this
    omega
  · intro h
    rcases Nat.lt_or_ge last (2 ^ (nb - s)) with h1 | h1
    · exact h1
    · have := Nat.mul_le_mul_right (2 ^ s) h1
      omega

set_option maxHeartbeats 800000 in
/-- The document's U gives what the program's does. -/
theorem RU_any (w : World) (g : Nat) (l : List UInt8) (e : Int) (b : Int) (h : RR w g l e) (hl : e ≠ 0 → l = []) :
    Calls Try.prog 18 #[.pointer (some ⟨g, 0, none⟩), .int .i64 b] w fun en w' => en = .returned (.int .u64 (uSpec b l e).1) ∧ RR w' g (uSpec b l e).2.1 (uSpec b l e).2.2 ∧ w.grownBy w' (some g) := by
  by_cases hgood : e = 0 ∧ ¬ (b < 1 ∨ 64 < b)
  · obtain ⟨rfl, hb⟩ := hgood
    obtain ⟨nb, rfl⟩ : ∃ nb : Nat, b = (nb : Int) := ⟨b.toNat, by omega⟩
    have h1 : 1 ≤ nb := by omega
    have h2 : nb ≤ 64 := by omega
    have hgp := grp_prt (nb := nb) l 0 0
    cases hp : prt nb l 0 with
    | inl k =>
      rw [hp] at hgp
      have hgr : grp nb l 0 0 = .inl k := hgp
      have hk : k ≠ 0 := by rcases grp_inl hgr with h | h <;> omega
      have HX : Hid (uSpec nb l 0 = (0, [], k)) := hid (by rw [uSpec, if_neg hb, Int.toNat_natCast, hgr]; simp [fl])
      have hG := group_any w g l nb h1 h2 h
      rw [hp] at hG
      have HG := hid hG
      have hE : (k != 0) = true := by simpa using hk
      clear hG hgp hp hgr hb h hl hk
      go_enter Try.func18, Try.ntmps18
      go_wp2_with (go_at_call 35; refine HG.out.mono ?_; rintro en w1 ⟨hG1, ⟨v1, rfl⟩, hR1⟩; simp only [fl, if_true] at hR1; obtain ⟨sv1, r1, r2⟩ := id hR1; obtain ⟨d0, d1, k0, k1⟩ := cells_two38 r1; clear r1 r2)
      go_ret
      rw [HX.out]
      exact ⟨rfl, hR1, hG1⟩
    | inr r =>
      obtain ⟨ps, t⟩ := r
      rw [hp] at hgp
      obtain ⟨a, last, s, g1, g2⟩ := hgp
      have g1' : grp nb l 0 0 = .inr (a, last, s, t) := g1
      have g2' : a + last * 2 ^ s = valOf ps := by simpa using g2
      obtain ⟨_, f2, f3, _⟩ := grp_inr (by omega) (by simp) g1'
      refine (RU_walk w g l nb h1 h2 h ps t hp).mono fun en w' ⟨hG, hor⟩ => ?_
      have hfi := fits_iff (last := last) f2 f3
      rw [g2'] at hfi
      rw [uSpec, if_neg hb, Int.toNat_natCast, g1']
      simp only []
      rcases hor with ⟨q1, q2, q3⟩ | ⟨q1, q2, q3⟩
      · rw [if_pos (hfi.2 q1), g2']
        exact ⟨q2, q3, hG⟩
      · rw [if_neg (fun h => by have := hfi.1 h; omega)]
        exact ⟨q2, by simpa [fl] using q3, hG⟩
  · have hbad : e ≠ 0 ∨ b < 1 ∨ 64 < b := by
      by_cases he : e = 0
      · right
        by_cases hb : b < 1 ∨ 64 < b
        · exact hb
        · exact absurd ⟨he, hb⟩ hgood
      · exact .inl he
    have hX : uSpec b l e = (0, [], fl e 1) := by
      by_cases hb : b < 1 ∨ 64 < b
      · rw [uSpec, if_pos hb]
      · have he : e ≠ 0 := by rcases hbad with h | h; exact h; exact absurd h hb
        rw [uSpec, if_neg hb, hl he]
        simp [grp, fl, he]
    have HX := hid hX
    have HG := hid (group_bad w g l e b h hl hbad)
    have HE := hid (fl_ne (e := e) (k := 1) (by decide))
    have hE : (fl e 1 != 0) = true := by simpa using HE.out
    clear hX hbad hgood h hl
    go_enter Try.func18, Try.ntmps18
    go_wp2_with (go_at_call 35; refine HG.out.mono ?_; rintro en w1 ⟨⟨v1, rfl⟩, hR1, hG1⟩; obtain ⟨sv1, r1, r2⟩ := id hR1; obtain ⟨d0, d1, k0, k1⟩ := cells_two38 r1; clear r1 r2)
    go_ret
    rw [HX.out]
    exact ⟨rfl, hR1, hG1⟩

end Go.Proofs.Ytljfhedmpnikiaa
