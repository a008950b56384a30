/-
  The contract of the document's own reader's S. No condition beyond what such a reader is.
-/
import Derived.Test.YtljfhedmpnikiaaRefS
namespace Go.Proofs.Ytljfhedmpnikiaa
open Go.RowKit

theorem half_int (W : Int) (p : Nat) : W / 2 ^ p = 2 * (W / 2 ^ (p + 1)) + W / 2 ^ p % 2 := by
  have e : W / 2 ^ (p + 1) = W / 2 ^ p / 2 := by
    rw [Int.pow_succ, Int.ediv_ediv_of_nonneg (Int.le_of_lt (Int.pow_pos (by decide)))]
  rw [e]; omega

theorem low_step {X : Int} {b : Nat} (hb : b < 2) (m : Nat) : (2 * X + b) % 2 ^ (m + 1) = 2 * (X % 2 ^ m) + b := by
  have hp : (0 : Int) < 2 ^ m := Int.pow_pos (by decide)
  rw [Int.pow_succ]
  have h1 := Int.mul_ediv_add_emod X (2 ^ m)
  have h2 := Int.emod_nonneg X (Int.ne_of_gt hp)
  have h3 := Int.emod_lt_of_pos X hp
  generalize hM : (2 : Int) ^ m = M at *
  have e : 2 * X + (b : Int) = (2 * (X % M) + b) + M * 2 * (X / M) := by
    have : M * 2 * (X / M) = 2 * (M * (X / M)) := by rw [Int.mul_comm M 2, Int.mul_assoc]
    rw [this]; omega
  rw [e, Int.add_mul_emod_self_left, Int.emod_eq_of_lt (by omega) (by omega)]

set_option maxHeartbeats 6400000 in
set_option maxRecDepth 100000 in
theorem RS_walk (w : World) (g : Nat) (l : List UInt8) (nb : Nat) (h1 : 1 ≤ nb) (h2 : nb ≤ 64) (h : RR w g l 0) (ps : List Nat) (t : List UInt8) (hp : prt nb l 0 = .inr (ps, t)) :
    Calls Try.prog 20 #[.pointer (some ⟨g, 0, none⟩), .int .i64 nb] w fun en w' => w.grownBy w' (some g) ∧
      (Fits (wOf ps) (nb - 1) ∧ en = .returned (.int .i64 (wOf ps)) ∧ RR w' g t 0 ∨ ¬ Fits (wOf ps) (nb - 1) ∧ en = .returned (.int .i64 0) ∧ RR w' g [] 11) := by
  obtain ⟨hps, hne⟩ := prt_small hp
  have hpl := prt_len (by omega) hp
  have hne2 : ps ≠ [] := by intro h; rw [h] at hne; simp at hne
  have hF69 := fits_more (c' := 69) (wOf_range ps hps hne2) (by omega)
  have hG := group_any w g l nb h1 h2 h
  rw [hp] at hG
  have HG := hid hG
  have hlt := h.lt
  have HBITS := hid fun k => wOf_bit ps k hps hne2
  have hget : ∀ j, ps.getD j 0 < 2147483648 := fun j => by
    rw [List.getD_eq_getElem?_getD]
    cases hj : ps[j]? with
    | none => simp
    | some p => have := hps p (List.mem_of_getElem? hj); simp; omega
  have HGET := hid hget
  obtain ⟨W, hWe⟩ : ∃ W, W = wOf ps := ⟨_, rfl⟩
  rw [← hWe] at hF69 HBITS ⊢
  have HF := hid hF69
  obtain ⟨s, hs⟩ : ∃ s : Nat, s = bitOf ps (nb - 1) true := ⟨_, rfl⟩
  have hsW := HBITS.out (nb - 1)
  rw [← hs] at hsW
  have hs2 : s < 2 := by omega
  have HSW := hid hsW
  have HSE := hid hs
  have hcn : ((nb - 1 : Nat) : Int) = (nb : Int) - 1 := by omega
  have hlenp : ps.length ≤ 1000 := by omega
  have HLP := hid (And.intro hlenp hne)
  clear hG h hp hps hget hF69 hne2 hWe hs hsW hpl hlenp hne
  go_enter Try.func20, Try.ntmps20
  go_wp2_with (go_at_call 35; refine HG.out.mono ?_; rintro en w1 ⟨hG1, v1, rfl, hown1, hR1⟩; obtain ⟨sv1, r1, r2⟩ := id hR1; obtain ⟨d0, d1, k0, k1⟩ := cells_two38 r1; clear r1 r2)
  have hbs := bit_any ps HGET.out (nb - 1) true w1 w.heap.size v1 hown1 HLP.out.1 HLP.out.2
  rw [← HSE.out, hcn] at hbs
  have HBS := hid hbs
  clear hbs hcn
  go_loop [6, 7] (fun vn vk => ∃ q n : Nat, q ≤ 70 ∧ vk = .int .i64 ((q : Int) - 1) ∧ vn = .int .u64 n ∧ Hid ((n : Int) = W / 2 ^ q % 2 ^ (64 - q)) ∧ Hid (q = 70 ∨ W / 2 ^ (max q nb) = -(s : Int))) (fun _ vk => (intOf vk + 1).toNat)
  case atStart => exact ⟨70, 0, by omega, rfl, rfl, hid (by simp), hid (.inl rfl)⟩
  case round =>
    obtain ⟨q, n, hq, rfl, rfl, hn, hz⟩ := hrel
    by_cases hq0 : q = 0
    · subst hq0
      have hVV : Hid (Fits W (nb - 1) ∧ (n : Int) = W % 18446744073709551616) := hid ⟨by
        have h3 := hz.out
        rw [Nat.max_eq_right (Nat.zero_le _)] at h3
        have h4 := half_int W (nb - 1)
        rw [Nat.sub_add_cancel h1, HSW.out] at h4
        have h5 : W / 2 ^ nb = -(s : Int) := by
          rcases h3 with h3 | h3
          · omega
          · exact h3
        unfold Fits
        rw [h4, h5]
        omega, by rw [hn.out]; simp⟩
      go_wp2
      go_ret
      obtain ⟨a, b⟩ := hVV.out
      refine ⟨hG1, .inl ⟨a, ?_, hR1⟩⟩
      have h63 := fits_more (c' := 63) a (by omega)
      have hrng : -9223372036854775808 ≤ W ∧ W < 9223372036854775808 := by
        unfold Fits at h63
        rw [show (2 : Int) ^ 63 = 9223372036854775808 from rfl] at h63
        omega
      first
        | (show Ending.returned (.int .i64 (wrap64 (n : Int))) = _
           congr 2
           unfold wrap64
           omega)
        | (show Ending.returned (.int .i64 (n : Int)) = _
           congr 2
           omega)
    · obtain ⟨p, rfl⟩ : ∃ p, q = p + 1 := ⟨q - 1, by omega⟩
      obtain ⟨b, hb⟩ : ∃ b : Nat, b = bitOf ps p true := ⟨_, rfl⟩
      have hbW := HBITS.out p
      rw [← hb] at hbW
      have hb2 : b < 2 := by omega
      have hbit := bit_any ps HGET.out p true w1 w.heap.size v1 hown1 HLP.out.1 HLP.out.2
      rw [← hb] at hbit
      have HBIT := hid hbit
      have hdiv := half_int W p
      rw [hbW] at hdiv
      have HDIV := hid hdiv
      have HBW := hid hbW
      clear hbit hb hdiv hq0 hbW
      by_cases herr : nb ≤ p ∧ b ≠ s
      · obtain ⟨e1, e2⟩ := herr
        have hbig : Hid (¬ Fits W (nb - 1)) := hid (fun hf => by
          have h3 := fits_bits hf (show nb - 1 ≤ p by omega)
          rw [HBW.out, HSW.out] at h3
          omega)
        have hd1 : decide ((nb : Int) ≤ (p : Int)) = true := by simp; omega
        have hd2 : ((b : Int) != (s : Int)) = true := by simp; omega
        go_wp2_with (first
          | (go_at_call 36; ((with_reducible refine HBIT.out.mono ?_); rintro en w2 ⟨rfl, rfl⟩))
          | (go_at_call 36; ((with_reducible refine HBS.out.mono ?_); rintro en w2 ⟨rfl, rfl⟩))
          | (go_at_call 28; refine (RFail_set w1 g t 11 hR1 (by decide)).mono ?_; rintro en w3 ⟨rfl, hR3, hG3⟩))
        go_ret
        exact ⟨grownBy_trans hG1 hG3, .inr ⟨hbig.out, rfl, hR3⟩⟩
      · have HM2 : Hid (p = 70 ∨ W / 2 ^ (max p nb) = -(s : Int)) := hid (by
          right
          rcases Nat.lt_or_ge p nb with h | h
          · have h3 := hz.out
            rw [Nat.max_eq_right (by omega)] at h3 ⊢
            rcases h3 with h3 | h3
            · omega
            · exact h3
          · have hbs : b = s := by omega
            rw [Nat.max_eq_left h]
            rcases hz.out with h3 | h3
            · have h69 : p = 69 := by omega
              subst h69
              have h4 := HF.out
              have h5 := HBW.out
              unfold Fits at h4
              generalize W / 2 ^ 69 = Y at *
              omega
            · rw [Nat.max_eq_left (by omega)] at h3
              rw [HDIV.out, h3, hbs]; omega)
        have hnlt : p < 64 → n < 9223372036854775808 := fun hp => by
          have h3 := hn.out
          have hpos : (0 : Int) < 2 ^ (64 - (p + 1)) := Int.pow_pos (by decide)
          have h4 := Int.emod_lt_of_pos (W / 2 ^ (p + 1)) hpos
          have h5 : (2 : Int) ^ (64 - (p + 1)) ≤ 2 ^ 63 := by
            rw [two_pow_cast, two_pow_cast]
            exact Int.ofNat_le.2 (Nat.pow_le_pow_right (by decide) (by omega))
          rw [show (2 : Int) ^ 63 = 9223372036854775808 from rfl] at h5
          omega
        by_cases hp64 : p < 64
        · have hd3 : decide ((p : Int) < 64) = true := by simp; omega
          have HN2 : Hid (((n * 2 + b : Nat) : Int) = W / 2 ^ p % 2 ^ (64 - p)) := hid (by
            rw [HDIV.out, show 64 - p = (64 - (p + 1)) + 1 by omega, low_step hb2, ← hn.out]
            omega)
          have hbound : n * 2 + b < 18446744073709551616 := by have := hnlt hp64; omega
          clear hnlt
          by_cases hnp : nb ≤ p
          · obtain rfl : b = s := by omega
            have hd1 : decide ((nb : Int) ≤ (p : Int)) = true := by simp; omega
            clear herr
            go_wp2_with (first
              | (go_at_call 36; ((with_reducible refine HBIT.out.mono ?_); rintro en w2 ⟨rfl, rfl⟩))
              | (go_at_call 36; ((with_reducible refine HBS.out.mono ?_); rintro en w2 ⟨rfl, rfl⟩)))
            go_roundw
            case rel => exact ⟨p, n * 2 + b, by omega, by go_num, by go_num, HN2, HM2⟩
            case measure => simp [intOf]
          · have hd1 : decide ((nb : Int) ≤ (p : Int)) = false := by simp; omega
            clear herr
            go_wp2_with (go_at_call 36; ((with_reducible refine HBIT.out.mono ?_); rintro en w2 ⟨rfl, rfl⟩))
            go_roundw
            case rel => exact ⟨p, n * 2 + b, by omega, by go_num, by go_num, HN2, HM2⟩
            case measure => simp [intOf]
        · have hd3 : decide ((p : Int) < 64) = false := by simp; omega
          have hnp : nb ≤ p := by omega
          obtain rfl : b = s := by omega
          have hd1 : decide ((nb : Int) ≤ (p : Int)) = true := by simp; omega
          have HN2 : Hid ((n : Int) = W / 2 ^ p % 2 ^ (64 - p)) := hid (by
            have h5 := hn.out
            rw [show 64 - (p + 1) = 0 by omega] at h5
            rw [show 64 - p = 0 by omega]
            simp at h5 ⊢
            omega)
          clear herr hnlt
          go_wp2_with (first
            | (go_at_call 36; ((with_reducible refine HBIT.out.mono ?_); rintro en w2 ⟨rfl, rfl⟩))
            | (go_at_call 36; ((with_reducible refine HBS.out.mono ?_); rintro en w2 ⟨rfl, rfl⟩)))
          go_roundw
          case rel => exact ⟨p, n, by omega, by go_num, by go_num, HN2, HM2⟩
          case measure => simp [intOf]

set_option maxHeartbeats 800000 in
/-- The document's S gives what the program's does. -/
theorem RS_any (w : World) (g : Nat) (l : List UInt8) (e : Int) (b : Int) (h : RR w g l e) (hl : e ≠ 0 → l = []) :
    Calls Try.prog 20 #[.pointer (some ⟨g, 0, none⟩), .int .i64 b] w fun en w' => en = .returned (.int .i64 (sSpec b l e).1) ∧ RR w' g (sSpec b l e).2.1 (sSpec b l e).2.2 ∧ w.grownBy w' (some g) := by
  by_cases hgood : e = 0 ∧ ¬ (b < 1 ∨ 64 < b)
  · obtain ⟨rfl, hb⟩ := hgood
    obtain ⟨nb, rfl⟩ : ∃ nb : Nat, b = (nb : Int) := ⟨b.toNat, by omega⟩
    have h1 : 1 ≤ nb := by omega
    have h2 : nb ≤ 64 := by omega
    have hgp := grp_prtS (nb := nb) l 0 0
    cases hp : prt nb l 0 with
    | inl k =>
      rw [hp] at hgp
      have hgr : grp nb l 0 0 = .inl k := hgp
      have hk : k ≠ 0 := by rcases grp_inl hgr with h | h <;> omega
      have HX : Hid (sSpec nb l 0 = (0, [], k)) := hid (by rw [sSpec, if_neg hb, Int.toNat_natCast, hgr]; simp [fl])
      have hG := group_any w g l nb h1 h2 h
      rw [hp] at hG
      have HG := hid hG
      have hE : (k != 0) = true := by simpa using hk
      clear hG hgp hp hgr hb h hl hk
      go_enter Try.func20, Try.ntmps20
      go_wp2_with (go_at_call 35; refine HG.out.mono ?_; rintro en w1 ⟨hG1, ⟨v1, rfl⟩, hR1⟩; simp only [fl, if_true] at hR1; obtain ⟨sv1, r1, r2⟩ := id hR1; obtain ⟨d0, d1, k0, k1⟩ := cells_two38 r1; clear r1 r2)
      go_ret
      rw [HX.out]
      exact ⟨rfl, hR1, hG1⟩
    | inr r =>
      obtain ⟨ps, t⟩ := r
      rw [hp] at hgp
      obtain ⟨a, last, s, g1, g2⟩ := hgp
      have g1' : grp nb l 0 0 = .inr (a, last, s, t) := g1
      have g2' : (a : Int) + topOf last * 2 ^ s = wOf ps := by simpa using g2
      obtain ⟨_, f2, f3, _⟩ := grp_inr (by omega) (by simp) g1'
      refine (RS_walk w g l nb h1 h2 h ps t hp).mono fun en w' ⟨hG, hor⟩ => ?_
      have hfi := fitsS_iff (T := topOf last) f2 f3
      rw [g2'] at hfi
      rw [sSpec, if_neg hb, Int.toNat_natCast, g1']
      simp only []
      rcases hor with ⟨q1, q2, q3⟩ | ⟨q1, q2, q3⟩
      · rw [if_pos (show topOf last / 2 ^ (nb - s - 1) = 0 ∨ topOf last / 2 ^ (nb - s - 1) = -1 from hfi.2 q1), g2']
        exact ⟨q2, q3, hG⟩
      · rw [if_neg (show ¬ (topOf last / 2 ^ (nb - s - 1) = 0 ∨ topOf last / 2 ^ (nb - s - 1) = -1) from fun h => q1 (hfi.1 h))]
        exact ⟨q2, by simpa [fl] using q3, hG⟩
  · have hbad : e ≠ 0 ∨ b < 1 ∨ 64 < b := by
      by_cases he : e = 0
      · right
        by_cases hb : b < 1 ∨ 64 < b
        · exact hb
        · exact absurd ⟨he, hb⟩ hgood
      · exact .inl he
    have hX : sSpec b l e = (0, [], fl e 1) := by
      by_cases hb : b < 1 ∨ 64 < b
      · rw [sSpec, if_pos hb]
      · have he : e ≠ 0 := by rcases hbad with h | h; exact h; exact absurd h hb
        rw [sSpec, if_neg hb, hl he]
        simp [grp, fl, he]
    have HX := hid hX
    have HG := hid (group_bad w g l e b h hl hbad)
    have HE := hid (fl_ne (e := e) (k := 1) (by decide))
    have hE : (fl e 1 != 0) = true := by simpa using HE.out
    clear hX hbad hgood h hl
    go_enter Try.func20, Try.ntmps20
    go_wp2_with (go_at_call 35; refine HG.out.mono ?_; rintro en w1 ⟨⟨v1, rfl⟩, hR1, hG1⟩; obtain ⟨sv1, r1, r2⟩ := id hR1; obtain ⟨d0, d1, k0, k1⟩ := cells_two38 r1; clear r1 r2)
    go_ret
    rw [HX.out]
    exact ⟨rfl, hR1, hG1⟩

end Go.Proofs.Ytljfhedmpnikiaa
