/-
  The contract of the document's answer for UTF-8 (bodkinref01.Valid): it goes from place to place as the model's decoder does. Condition: fewer than 2^62 bytes.
-/
import Derived.Test.YtljfhedmpnikiaaBase
import Derived.Test.YtljfhedmpnikiaaPlain9
namespace Go.Proofs.Ytljfhedmpnikiaa
open Go.RowKit

set_option maxHeartbeats 16000000 in
set_option maxRecDepth 100000 in
theorem refValid_any (s : ByteArray) (w : World) (hs : s.size ≤ 4611686018427387904) :
    Calls Try.prog 32 #[.string s] w fun e w' => e = .returned (.bool (vfrom s s.size 0)) ∧ w = w' := by
  go_enter Try.func32, Try.ntmps32
  go_wp2
  go_loop [3] (fun vi => ∃ pos fuel : Nat, vi = .int .i64 pos ∧ pos ≤ s.size ∧ s.size ≤ pos + fuel ∧ vfrom s s.size 0 = vfrom s fuel pos) (fun vi => s.size - (intOf vi).toNat)
  case atStart => exact ⟨0, s.size, rfl, Nat.zero_le _, by omega, rfl⟩
  case round =>
    obtain ⟨pos, fuel, rfl, hps, hfu, hv⟩ := hrel
    have HV := hid hv
    clear hv
    by_cases hp : pos < s.size
    · obtain ⟨f, rfl⟩ : ∃ f, fuel = f + 1 := ⟨fuel - 1, by omega⟩
      have hbl := byt_lt s pos
      have hbe := byt_eq s pos hp
      by_cases h0 : byt s pos < 128
      · have HE := hid (vfrom_one (f := f) hp h0)
        generalize byt s pos = b at *
        go_wp2
        go_loop [4, 7] (fun vc vk => vc = .int .i64 b ∧ vk = .int .i64 1) (fun _ _ => 0)
        case atStart => exact ⟨rfl, rfl⟩
        case round =>
          obtain ⟨rfl, rfl⟩ := hrel
          go_wp2
          refine ⟨⟨pos + 1, f, by go_num, by omega, by omega, by rw [HV.out, HE.out]⟩, by simp [intOf]; omega⟩
      by_cases h1 : (128 ≤ byt s pos ∧ byt s pos < 192) ∨ 248 ≤ byt s pos
      · have HE := hid (vfrom_bad (f := f) hp (dec_none h1))
        generalize byt s pos = b at *
        rcases h1 with ⟨h1, h2⟩ | h1
        all_goals
          go_wp2
          go_ret
          exact ⟨by rw [HV.out, HE.out]; rfl, rfl⟩
      by_cases hn2 : 192 ≤ byt s pos ∧ byt s pos < 224
      · obtain ⟨c0, hc0⟩ : ∃ c0, byt s pos = c0 + 192 := ⟨byt s pos - 192, by omega⟩
        have hc32 : c0 < 32 := by omega
        have hk : Kind (byt s pos) 2 c0 := .inl ⟨rfl, hc0, hc32⟩
        have HK := hid hk
        have HC := hid hc0
        obtain ⟨b, hb⟩ : ∃ b : Nat, b = c0 + 192 := ⟨_, rfl⟩
        rw [hc0, ← hb] at hbe
        have hb1 : 192 ≤ b := by omega
        have hb2 : b < 224 := by omega
        have hcb : (b : Int) - 192 = (c0 : Int) := by omega
        have HB := hid hb
        clear hk hn2 hbl hc0 hb h0 h1
        by_cases hlong : pos + 2 ≤ s.size
        · have hcell0 : (c0 : Int) = ((cvv s pos c0 0 : Nat) : Int) := rfl
          go_wp2
          clear hcb
          go_loop [4, 7] (fun vc vk => ∃ k c : Nat, 1 ≤ k ∧ k ≤ 2 ∧ vk = .int .i64 k ∧ vc = .int .i64 c ∧ Hid (c = cvv s pos c0 (k - 1)) ∧ Hid (∀ j, 1 ≤ j → j < k → 128 ≤ byt s (pos + j) ∧ byt s (pos + j) ≤ 191)) (fun _ vk => 2 - (intOf vk).toNat)
          case atStart => exact ⟨1, c0, by omega, by omega, rfl, rfl, hid rfl, hid (fun j a b => by omega)⟩
          case round =>
            obtain ⟨k, c, hk1, hk2, rfl, rfl, hc, hall⟩ := hrel
            have hcs : c ≤ 10000000 := by rw [hc.out]; exact cvv_small s pos c0 (k - 1) (by omega) (by omega)
            by_cases hkn : k < 2
            · have hpk : pos + k < s.size := by omega
              have hbe2 := byt_eq s (pos + k) hpk
              have hbl2 := byt_lt s (pos + k)
              obtain ⟨d, hd⟩ : ∃ d, d = byt s (pos + k) := ⟨_, rfl⟩
              rw [← hd] at hbe2 hbl2
              have HD := hid hd
              clear hd
              by_cases hlo : d < 128
              · have HE := hid (vfrom_bad (f := f) hp (dec_bad HK.out (fun h => by have := (h.2.1 k hk1 hkn).1; rw [← HD.out] at this; omega)))
                have hd1 : decide ((d : Int) < 128) = true := by simp; omega
                go_wp2
                go_ret
                exact ⟨by rw [HV.out, HE.out]; rfl, rfl⟩
              by_cases hhi : 191 < d
              · have HE := hid (vfrom_bad (f := f) hp (dec_bad HK.out (fun h => by have := (h.2.1 k hk1 hkn).2; rw [← HD.out] at this; omega)))
                have hd1 : decide ((d : Int) < 128) = false := by simp; omega
                have hd2 : decide (191 < (d : Int)) = true := by simp; omega
                go_wp2
                go_ret
                exact ⟨by rw [HV.out, HE.out]; rfl, rfl⟩
              have hd1 : decide ((d : Int) < 128) = false := by simp; omega
              have hd2 : decide (191 < (d : Int)) = false := by simp; omega
              go_wp2
              go_round
              case rel =>
                refine ⟨k + 1, c * 64 + (d - 128), by omega, by omega, by go_num, by go_num, ?_, hid ?_⟩
                · obtain ⟨q, rfl⟩ : ∃ q, k = q + 1 := ⟨k - 1, by omega⟩
                  have h1 := hc.out
                  rw [Nat.add_sub_cancel] at h1
                  refine hid ?_
                  rw [Nat.add_sub_cancel]
                  show _ = cvv s pos c0 q * 64 + (byt s (pos + (q + 1)) - 128)
                  rw [← h1, HD.out]
                · intro j a b
                  by_cases hj : j = k
                  · subst hj; rw [← HD.out]; omega
                  · exact hall.out j a (by omega)
              case measure => simp [intOf]; omega
            · obtain rfl : k = 2 := by omega
              by_cases hl : c < 128
              · have HE := hid (vfrom_bad (f := f) hp (dec_bad HK.out (fun h => by have := h.2.2.1; rw [← hc.out, least_2] at this; omega)))
                have hd1 : decide ((c : Int) < 128) = true := by simp; omega
                go_wp2
                go_ret
                exact ⟨by rw [HV.out, HE.out]; rfl, rfl⟩
              have hl1 : decide ((c : Int) < 128) = false := by simp; omega
              by_cases hm : 1114111 < c
              · have HE := hid (vfrom_bad (f := f) hp (dec_bad HK.out (fun h => by have := h.2.2.2.1; rw [← hc.out] at this; omega)))
                have hd1 : decide (1114111 < (c : Int)) = true := by simp; omega
                go_wp2
                go_ret
                exact ⟨by rw [HV.out, HE.out]; rfl, rfl⟩
              have hm1 : decide (1114111 < (c : Int)) = false := by simp; omega
              by_cases hs1 : 55295 < c
              · have hs2 : decide (55295 < (c : Int)) = true := by simp; omega
                by_cases hs3 : c < 57344
                · have HE := hid (vfrom_bad (f := f) hp (dec_bad HK.out (fun h => h.2.2.2.2 (by rw [← hc.out]; exact ⟨hs1, hs3⟩))))
                  have hd1 : decide ((c : Int) < 57344) = true := by simp; omega
                  go_wp2
                  go_ret
                  exact ⟨by rw [HV.out, HE.out]; rfl, rfl⟩
                · have HE := hid (vfrom_good (f := f) hp (dec_good HK.out ⟨hlong, hall.out, by rw [← hc.out, least_2]; omega, by rw [← hc.out]; omega, by rw [← hc.out]; omega⟩) (by decide))
                  have hd1 : decide ((c : Int) < 57344) = false := by simp; omega
                  go_wp2
                  refine ⟨⟨pos + 2, f, by go_num, by omega, by omega, by rw [HV.out, HE.out]⟩, by simp [intOf]; omega⟩
              · have HE := hid (vfrom_good (f := f) hp (dec_good HK.out ⟨hlong, hall.out, by rw [← hc.out, least_2]; omega, by rw [← hc.out]; omega, by rw [← hc.out]; omega⟩) (by decide))
                have hs2 : decide (55295 < (c : Int)) = false := by simp; omega
                go_wp2
                refine ⟨⟨pos + 2, f, by go_num, by omega, by omega, by rw [HV.out, HE.out]⟩, by simp [intOf]; omega⟩
        · have HE := hid (vfrom_bad (f := f) hp (dec_bad HK.out (fun h => hlong h.1)))
          go_wp2
          go_ret
          exact ⟨by rw [HV.out, HE.out]; rfl, rfl⟩
      by_cases hn3 : 224 ≤ byt s pos ∧ byt s pos < 240
      · obtain ⟨c0, hc0⟩ : ∃ c0, byt s pos = c0 + 224 := ⟨byt s pos - 224, by omega⟩
        have hc32 : c0 < 16 := by omega
        have hk : Kind (byt s pos) 3 c0 := .inr (.inl ⟨rfl, hc0, hc32⟩)
        have HK := hid hk
        have HC := hid hc0
        obtain ⟨b, hb⟩ : ∃ b : Nat, b = c0 + 224 := ⟨_, rfl⟩
        rw [hc0, ← hb] at hbe
        have hb1 : 224 ≤ b := by omega
        have hb2 : b < 240 := by omega
        have hcb : (b : Int) - 224 = (c0 : Int) := by omega
        have HB := hid hb
        clear hk hn3 hbl hc0 hb h0 h1 hn2
        by_cases hlong : pos + 3 ≤ s.size
        · have hcell0 : (c0 : Int) = ((cvv s pos c0 0 : Nat) : Int) := rfl
          go_wp2
          clear hcb
          go_loop [4, 7] (fun vc vk => ∃ k c : Nat, 1 ≤ k ∧ k ≤ 3 ∧ vk = .int .i64 k ∧ vc = .int .i64 c ∧ Hid (c = cvv s pos c0 (k - 1)) ∧ Hid (∀ j, 1 ≤ j → j < k → 128 ≤ byt s (pos + j) ∧ byt s (pos + j) ≤ 191)) (fun _ vk => 3 - (intOf vk).toNat)
          case atStart => exact ⟨1, c0, by omega, by omega, rfl, rfl, hid rfl, hid (fun j a b => by omega)⟩
          case round =>
            obtain ⟨k, c, hk1, hk2, rfl, rfl, hc, hall⟩ := hrel
            have hcs : c ≤ 10000000 := by rw [hc.out]; exact cvv_small s pos c0 (k - 1) (by omega) (by omega)
            by_cases hkn : k < 3
            · have hpk : pos + k < s.size := by omega
              have hbe2 := byt_eq s (pos + k) hpk
              have hbl2 := byt_lt s (pos + k)
              obtain ⟨d, hd⟩ : ∃ d, d = byt s (pos + k) := ⟨_, rfl⟩
              rw [← hd] at hbe2 hbl2
              have HD := hid hd
              clear hd
              by_cases hlo : d < 128
              · have HE := hid (vfrom_bad (f := f) hp (dec_bad HK.out (fun h => by have := (h.2.1 k hk1 hkn).1; rw [← HD.out] at this; omega)))
                have hd1 : decide ((d : Int) < 128) = true := by simp; omega
                go_wp2
                go_ret
                exact ⟨by rw [HV.out, HE.out]; rfl, rfl⟩
              by_cases hhi : 191 < d
              · have HE := hid (vfrom_bad (f := f) hp (dec_bad HK.out (fun h => by have := (h.2.1 k hk1 hkn).2; rw [← HD.out] at this; omega)))
                have hd1 : decide ((d : Int) < 128) = false := by simp; omega
                have hd2 : decide (191 < (d : Int)) = true := by simp; omega
                go_wp2
                go_ret
                exact ⟨by rw [HV.out, HE.out]; rfl, rfl⟩
              have hd1 : decide ((d : Int) < 128) = false := by simp; omega
              have hd2 : decide (191 < (d : Int)) = false := by simp; omega
              go_wp2
              go_round
              case rel =>
                refine ⟨k + 1, c * 64 + (d - 128), by omega, by omega, by go_num, by go_num, ?_, hid ?_⟩
                · obtain ⟨q, rfl⟩ : ∃ q, k = q + 1 := ⟨k - 1, by omega⟩
                  have h1 := hc.out
                  rw [Nat.add_sub_cancel] at h1
                  refine hid ?_
                  rw [Nat.add_sub_cancel]
                  show _ = cvv s pos c0 q * 64 + (byt s (pos + (q + 1)) - 128)
                  rw [← h1, HD.out]
                · intro j a b
                  by_cases hj : j = k
                  · subst hj; rw [← HD.out]; omega
                  · exact hall.out j a (by omega)
              case measure => simp [intOf]; omega
            · obtain rfl : k = 3 := by omega
              by_cases hl : c < 2048
              · have HE := hid (vfrom_bad (f := f) hp (dec_bad HK.out (fun h => by have := h.2.2.1; rw [← hc.out, least_3] at this; omega)))
                have hd1 : decide ((c : Int) < 2048) = true := by simp; omega
                go_wp2
                go_ret
                exact ⟨by rw [HV.out, HE.out]; rfl, rfl⟩
              have hl1 : decide ((c : Int) < 2048) = false := by simp; omega
              by_cases hm : 1114111 < c
              · have HE := hid (vfrom_bad (f := f) hp (dec_bad HK.out (fun h => by have := h.2.2.2.1; rw [← hc.out] at this; omega)))
                have hd1 : decide (1114111 < (c : Int)) = true := by simp; omega
                go_wp2
                go_ret
                exact ⟨by rw [HV.out, HE.out]; rfl, rfl⟩
              have hm1 : decide (1114111 < (c : Int)) = false := by simp; omega
              by_cases hs1 : 55295 < c
              · have hs2 : decide (55295 < (c : Int)) = true := by simp; omega
                by_cases hs3 : c < 57344
                · have HE := hid (vfrom_bad (f := f) hp (dec_bad HK.out (fun h => h.2.2.2.2 (by rw [← hc.out]; exact ⟨hs1, hs3⟩))))
                  have hd1 : decide ((c : Int) < 57344) = true := by simp; omega
                  go_wp2
                  go_ret
                  exact ⟨by rw [HV.out, HE.out]; rfl, rfl⟩
                · have HE := hid (vfrom_good (f := f) hp (dec_good HK.out ⟨hlong, hall.out, by rw [← hc.out, least_3]; omega, by rw [← hc.out]; omega, by rw [← hc.out]; omega⟩) (by decide))
                  have hd1 : decide ((c : Int) < 57344) = false := by simp; omega
                  go_wp2
                  refine ⟨⟨pos + 3, f, by go_num, by omega, by omega, by rw [HV.out, HE.out]⟩, by simp [intOf]; omega⟩
              · have HE := hid (vfrom_good (f := f) hp (dec_good HK.out ⟨hlong, hall.out, by rw [← hc.out, least_3]; omega, by rw [← hc.out]; omega, by rw [← hc.out]; omega⟩) (by decide))
                have hs2 : decide (55295 < (c : Int)) = false := by simp; omega
                go_wp2
                refine ⟨⟨pos + 3, f, by go_num, by omega, by omega, by rw [HV.out, HE.out]⟩, by simp [intOf]; omega⟩
        · have HE := hid (vfrom_bad (f := f) hp (dec_bad HK.out (fun h => hlong h.1)))
          go_wp2
          go_ret
          exact ⟨by rw [HV.out, HE.out]; rfl, rfl⟩
      by_cases hn4 : 240 ≤ byt s pos ∧ byt s pos < 248
      · obtain ⟨c0, hc0⟩ : ∃ c0, byt s pos = c0 + 240 := ⟨byt s pos - 240, by omega⟩
        have hc32 : c0 < 8 := by omega
        have hk : Kind (byt s pos) 4 c0 := .inr (.inr ⟨rfl, hc0, hc32⟩)
        have HK := hid hk
        have HC := hid hc0
        obtain ⟨b, hb⟩ : ∃ b : Nat, b = c0 + 240 := ⟨_, rfl⟩
        rw [hc0, ← hb] at hbe
        have hb1 : 240 ≤ b := by omega
        have hb2 : b < 248 := by omega
        have hcb : (b : Int) - 240 = (c0 : Int) := by omega
        have HB := hid hb
        clear hk hn4 hbl hc0 hb h0 h1 hn2 hn3
        by_cases hlong : pos + 4 ≤ s.size
        · have hcell0 : (c0 : Int) = ((cvv s pos c0 0 : Nat) : Int) := rfl
          go_wp2
          clear hcb
          go_loop [4, 7] (fun vc vk => ∃ k c : Nat, 1 ≤ k ∧ k ≤ 4 ∧ vk = .int .i64 k ∧ vc = .int .i64 c ∧ Hid (c = cvv s pos c0 (k - 1)) ∧ Hid (∀ j, 1 ≤ j → j < k → 128 ≤ byt s (pos + j) ∧ byt s (pos + j) ≤ 191)) (fun _ vk => 4 - (intOf vk).toNat)
          case atStart => exact ⟨1, c0, by omega, by omega, rfl, rfl, hid rfl, hid (fun j a b => by omega)⟩
          case round =>
            obtain ⟨k, c, hk1, hk2, rfl, rfl, hc, hall⟩ := hrel
            have hcs : c ≤ 10000000 := by rw [hc.out]; exact cvv_small s pos c0 (k - 1) (by omega) (by omega)
            by_cases hkn : k < 4
            · have hpk : pos + k < s.size := by omega
              have hbe2 := byt_eq s (pos + k) hpk
              have hbl2 := byt_lt s (pos + k)
              obtain ⟨d, hd⟩ : ∃ d, d = byt s (pos + k) := ⟨_, rfl⟩
              rw [← hd] at hbe2 hbl2
              have HD := hid hd
              clear hd
              by_cases hlo : d < 128
              · have HE := hid (vfrom_bad (f := f) hp (dec_bad HK.out (fun h => by have := (h.2.1 k hk1 hkn).1; rw [← HD.out] at this; omega)))
                have hd1 : decide ((d : Int) < 128) = true := by simp; omega
                go_wp2
                go_ret
                exact ⟨by rw [HV.out, HE.out]; rfl, rfl⟩
              by_cases hhi : 191 < d
              · have HE := hid (vfrom_bad (f := f) hp (dec_bad HK.out (fun h => by have := (h.2.1 k hk1 hkn).2; rw [← HD.out] at this; omega)))
                have hd1 : decide ((d : Int) < 128) = false := by simp; omega
                have hd2 : decide (191 < (d : Int)) = true := by simp; omega
                go_wp2
                go_ret
                exact ⟨by rw [HV.out, HE.out]; rfl, rfl⟩
              have hd1 : decide ((d : Int) < 128) = false := by simp; omega
              have hd2 : decide (191 < (d : Int)) = false := by simp; omega
              go_wp2
              go_round
              case rel =>
                refine ⟨k + 1, c * 64 + (d - 128), by omega, by omega, by go_num, by go_num, ?_, hid ?_⟩
                · obtain ⟨q, rfl⟩ : ∃ q, k = q + 1 := ⟨k - 1, by omega⟩
                  have h1 := hc.out
                  rw [Nat.add_sub_cancel] at h1
                  refine hid ?_
                  rw [Nat.add_sub_cancel]
                  show _ = cvv s pos c0 q * 64 + (byt s (pos + (q + 1)) - 128)
                  rw [← h1, HD.out]
                · intro j a b
                  by_cases hj : j = k
                  · subst hj; rw [← HD.out]; omega
                  · exact hall.out j a (by omega)
              case measure => simp [intOf]; omega
            · obtain rfl : k = 4 := by omega
              by_cases hl : c < 65536
              · have HE := hid (vfrom_bad (f := f) hp (dec_bad HK.out (fun h => by have := h.2.2.1; rw [← hc.out, least_4] at this; omega)))
                have hd1 : decide ((c : Int) < 65536) = true := by simp; omega
                go_wp2
                go_ret
                exact ⟨by rw [HV.out, HE.out]; rfl, rfl⟩
              have hl1 : decide ((c : Int) < 65536) = false := by simp; omega
              by_cases hm : 1114111 < c
              · have HE := hid (vfrom_bad (f := f) hp (dec_bad HK.out (fun h => by have := h.2.2.2.1; rw [← hc.out] at this; omega)))
                have hd1 : decide (1114111 < (c : Int)) = true := by simp; omega
                go_wp2
                go_ret
                exact ⟨by rw [HV.out, HE.out]; rfl, rfl⟩
              have hm1 : decide (1114111 < (c : Int)) = false := by simp; omega
              by_cases hs1 : 55295 < c
              · have hs2 : decide (55295 < (c : Int)) = true := by simp; omega
                by_cases hs3 : c < 57344
                · have HE := hid (vfrom_bad (f := f) hp (dec_bad HK.out (fun h => h.2.2.2.2 (by rw [← hc.out]; exact ⟨hs1, hs3⟩))))
                  have hd1 : decide ((c : Int) < 57344) = true := by simp; omega
                  go_wp2
                  go_ret
                  exact ⟨by rw [HV.out, HE.out]; rfl, rfl⟩
                · have HE := hid (vfrom_good (f := f) hp (dec_good HK.out ⟨hlong, hall.out, by rw [← hc.out, least_4]; omega, by rw [← hc.out]; omega, by rw [← hc.out]; omega⟩) (by decide))
                  have hd1 : decide ((c : Int) < 57344) = false := by simp; omega
                  go_wp2
                  refine ⟨⟨pos + 4, f, by go_num, by omega, by omega, by rw [HV.out, HE.out]⟩, by simp [intOf]; omega⟩
              · have HE := hid (vfrom_good (f := f) hp (dec_good HK.out ⟨hlong, hall.out, by rw [← hc.out, least_4]; omega, by rw [← hc.out]; omega, by rw [← hc.out]; omega⟩) (by decide))
                have hs2 : decide (55295 < (c : Int)) = false := by simp; omega
                go_wp2
                refine ⟨⟨pos + 4, f, by go_num, by omega, by omega, by rw [HV.out, HE.out]⟩, by simp [intOf]; omega⟩
        · have HE := hid (vfrom_bad (f := f) hp (dec_bad HK.out (fun h => hlong h.1)))
          go_wp2
          go_ret
          exact ⟨by rw [HV.out, HE.out]; rfl, rfl⟩
      omega
    · have HE := hid (vfrom_end s fuel pos hp)
      go_wp2
      go_ret
      exact ⟨by rw [HV.out, HE.out]; rfl, rfl⟩

end Go.Proofs.Ytljfhedmpnikiaa
