/-
  The contracts of the document's own weigh and Few: how many instructions there are, and how deep. Condition: no list is longer than there are integers.
-/
import Derived.Test.YteianbgampljeaaGreatOpen
import Derived.Test.YteianbgampljeaaGreatEvery
set_option linter.unusedSimpArgs false
set_option linter.unusedVariables false
set_option maxRecDepth 100000
namespace Go.Proofs.YteianbgampljeaaGreat
open Go.RowKit

/-- How many more instructions there may be, behind these. -/
def wg : Fo → Int → Int → Int
  | .nil, _, left => left
  | .cons _ _ _ _ _ l _ body els rest, d, left =>
    if 0 ≤ left then
      wg rest d (if 1000 < l.length then -1 else (if 0 ≤ (if 600 < d + 1 then -1 else wg body (d + 1) (left - 1)) then (if 600 < d + 1 then -1 else wg els (d + 1) (if 600 < d + 1 then -1 else wg body (d + 1) (left - 1))) else (if 600 < d + 1 then -1 else wg body (d + 1) (left - 1))))
    else left
def wgT (f : Fo) (d left : Int) : Int := if 600 < d then -1 else wg f d left
theorem wg_cons (op a b : Int) (n h : Nat) (l : List Int) (ot : Bool) (body els rest : Fo) (d left : Int) (h0 : 0 ≤ left) (A : Int) (hA : wgT body (d + 1) (left - 1) = A) (E : Int) (hE : wgT els (d + 1) A = E) :
    wg (.cons op a b n h l ot body els rest) d left = wg rest d (if 1000 < l.length then -1 else if 0 ≤ A then E else A) := by
  unfold wgT at hA hE
  rw [wg, if_pos h0, hA, hE]
theorem wg_neg : ∀ (f : Fo) (d left : Int), left < 0 → wg f d left = left
  | .nil, _, _, _ => rfl
  | .cons _ _ _ _ _ _ _ _ _ _, d, left, h => by rw [wg, if_neg (by omega)]
theorem wg_bound : ∀ (f : Fo) (d left : Int), -1 ≤ left → -1 ≤ wg f d left ∧ wg f d left ≤ left ∧ (0 ≤ wg f d left → (f.cnt : Int) ≤ left - wg f d left)
  | .nil, _, left, h => ⟨h, Int.le_refl _, fun _ => by simp [wg, Fo.cnt]⟩
  | .cons op a b n hh l ot body els rest, d, left, h => by
    by_cases h0 : 0 ≤ left
    · have b1 := wg_bound body (d + 1) (left - 1) (by omega)
      have hA : ∃ A, wgT body (d + 1) (left - 1) = A ∧ -1 ≤ A ∧ A ≤ left - 1 ∧ (0 ≤ A → (body.cnt : Int) ≤ left - 1 - A) := by
        unfold wgT
        split
        · exact ⟨-1, rfl, by omega, by omega, by omega⟩
        · exact ⟨_, rfl, b1⟩
      obtain ⟨A, hA, a1, a2, a3⟩ := hA
      have b2 := wg_bound els (d + 1) A a1
      have hE : ∃ E, wgT els (d + 1) A = E ∧ -1 ≤ E ∧ E ≤ A ∧ (0 ≤ E → (els.cnt : Int) ≤ A - E) := by
        unfold wgT
        split
        · exact ⟨-1, rfl, by omega, by omega, by omega⟩
        · exact ⟨_, rfl, b2⟩
      obtain ⟨E, hE, e1, e2, e3⟩ := hE
      rw [wg_cons op a b n hh l ot body els rest d left h0 A hA E hE]
      obtain ⟨C, hC⟩ : ∃ C, C = (if 1000 < l.length then -1 else if 0 ≤ A then E else A) := ⟨_, rfl⟩
      have hc : -1 ≤ C ∧ C ≤ left - 1 ∧ (0 ≤ C → (body.cnt : Int) + els.cnt ≤ left - 1 - C) := by
        rw [hC]
        split
        · omega
        · split
          · refine ⟨by omega, by omega, fun hc => ?_⟩
            have := a3 (by omega)
            have := e3 hc
            omega
          · omega
      rw [← hC]
      have b3 := wg_bound rest d C hc.1
      refine ⟨b3.1, by omega, fun hr => ?_⟩
      have := b3.2.2 hr
      have := hc.2.2 (by omega)
      simp only [Fo.cnt]
      omega
    · rw [wg_neg _ _ _ (by omega)]
      exact ⟨h, Int.le_refl _, fun hr => absurd hr h0⟩
theorem wgT_bound (f : Fo) (d left : Int) (h : -1 ≤ left) : -1 ≤ wgT f d left ∧ (wgT f d left ≤ left ∨ wgT f d left = -1) := by
  unfold wgT
  split
  · exact ⟨by omega, .inr rfl⟩
  · have := wg_bound f d left h
    exact ⟨this.1, .inl this.2.1⟩

set_option maxHeartbeats 8000000 in
theorem weigh_says (B : Nat) (w : World) (hB : B ≤ w.heap.size) : ∀ (N : Nat) (f : Fo), f.cnt < N → Lens f → f.len < 9223372036854775807 → ∀ (d left : Int) (v : Value), 0 ≤ d → d ≤ 601 → -1 ≤ left → left ≤ 3000 → SA B w v f →
    Calls Tryz.prog 52 #[v, .int .i64 d, .int .i64 left] w fun e w' => e = .returned (.int .i64 (wgT f d left)) ∧ w = w' := by
  intro N
  induction N with
  | zero => intro f h; omega
  | succ N ih =>
    intro f hf hL hlen d left v hd hd1 hl0 hl1 hs
    by_cases h600 : 600 < d
    · have dd : decide (600 < d) = true := by simpa using h600
      have hr : wgT f d left = -1 := by unfold wgT; rw [if_pos h600]
      rw [hr]
      clear hr h600 hs ih
      go_enter Tryz.func52, Tryz.ntmps52
      go_wp2
      go_ret
      exact ⟨rfl, rfl⟩
    · have dd : decide (600 < d) = false := by simpa using h600
      have hr : wgT f d left = wg f d left := by unfold wgT; rw [if_neg h600]
      rw [hr]
      obtain ⟨p, c, g0, o0, rfl, hp, hfa⟩ := hs
      obtain ⟨R, hR⟩ : ∃ R, R = wg f d left := ⟨_, rfl⟩
      rw [← hR]
      obtain ⟨m, hm⟩ : ∃ m, m = f.len := ⟨_, rfl⟩
      rw [← hm] at hp hlen ⊢
      have HIH := hid ih
      have HP := hid hp
      have HS : Hid (0 + f.len = m ∧ f.cnt < N + 1 ∧ FA B w f g0 (o0 + 0 * 9) ∧ R = wg f d left ∧ Lens f) := ⟨by rw [hm]; omega, hf, by simpa using hfa, hR, hL⟩
      have hm62 : (m : Int) < 9223372036854775807 := by omega
      have hdw : wrap64 (d + 1) = d + 1 := by unfold wrap64; omega
      have HD := hid hd
      have HD1 := hid (show d ≤ 600 by omega)
      have HLL := hid (And.intro hl0 hl1)
      clear ih hp hR hm hfa hf hL hr h600 hlen hd hd1 hl0 hl1
      go_enter Tryz.func52, Tryz.ntmps52
      go_wp2
      go_loop [2, 7] (fun vl vi => ∃ (i : Nat) (fi : Fo) (li : Int), i ≤ m ∧ vi = .int .i64 i ∧ vl = .int .i64 li ∧ Hid (-1 ≤ li ∧ li ≤ 3000) ∧ Hid (i + fi.len = m ∧ fi.cnt < N + 1 ∧ FA B w fi g0 (o0 + i * 9) ∧ R = wg fi d li ∧ Lens fi)) (fun _ vi => m - (intOf vi).toNat)
      case atStart => exact ⟨0, f, left, Nat.zero_le _, rfl, rfl, HLL, HS⟩
      case round =>
        obtain ⟨i, fi, li, him, rfl, rfl, HLI, HI⟩ := hrel
        by_cases hli : 0 ≤ li
        · have dl : decide (0 ≤ li) = true := by simpa using hli
          cases fi with
          | nil =>
            have hi : i = m := HI.out.1
            subst hi
            have HE : Hid (R = li) := HI.out.2.2.2.1
            go_wp2
            go_ret
            exact ⟨by rw [HE.out]; rfl, rfl⟩
          | cons op a b n h l ot body els rest =>
            obtain ⟨hg, ⟨vl, vb, ve, x0, x1, x2, x3, x4, x5, x6, x7, x8, hl, hbo, hel⟩, hrest⟩ := HI.out.2.2.1
            obtain ⟨pl, cl, evl, _⟩ := id hl
            obtain ⟨nl, hnl⟩ : ∃ x, x = l.length := ⟨_, rfl⟩
            rw [← hnl] at evl
            subst evl
            have hlt : i < m := by have := HI.out.1; simp only [Fo.len] at this; omega
            obtain rfl := HP.out (by omega)
            obtain ⟨q1, q2, q3, q4, q5⟩ := HI.out.2.2.2.2
            have hcn := HI.out.2.1
            simp only [Fo.cnt] at hcn
            obtain ⟨A, hA⟩ : ∃ A, wgT body (d + 1) (li - 1) = A := ⟨_, rfl⟩
            obtain ⟨E, hE⟩ : ∃ E, wgT els (d + 1) A = E := ⟨_, rfl⟩
            have hev := HI.out.2.2.2.1
            rw [wg_cons op a b n h l ot body els rest d li hli A hA E hE, ← hnl] at hev
            have bA := wgT_bound body (d + 1) (li - 1) (by omega)
            rw [hA] at bA
            have hA3 : A ≤ 3000 := by have := HLI.out.2; omega
            have bE := wgT_bound els (d + 1) A bA.1
            rw [hE] at bE
            have hE3 : E ≤ 3000 := by omega
            have hsw : wrap64 (li - 1) = li - 1 := by unfold wrap64; have := HLI.out.2; omega
            have KB := hid (HIH.out body (by omega) q3 q1 (d + 1) (li - 1) vb (by have := HD.out; omega) (by have := HD1.out; omega) (by omega) (by have := HLI.out.2; omega) hbo)
            have KE := hid (HIH.out els (by omega) q4 q2 (d + 1) A ve (by have := HD.out; omega) (by have := HD1.out; omega) bA.1 hA3 hel)
            rw [hA] at KB
            rw [hE] at KE
            have HEV := hid hev
            have HLE := hid (show i + 1 + rest.len = m ∧ rest.cnt < N + 1 by have h1 := HI.out.1; simp only [Fo.len] at h1; omega)
            have HRS := hid (show FA B w rest g0 (o0 + (i + 1) * 9) by (have h9 : o0 + (i + 1) * 9 = o0 + i * 9 + 9 := by omega); rw [h9]; exact hrest)
            have HLR := hid q5
            have HBA := hid (And.intro bA.1 hA3)
            have HBE := hid (And.intro bE.1 hE3)
            clear hl hbo hel hrest HI hg hcn hA hE hev bA bE hA3 hE3 q1 q2 q3 q4 q5 hnl x0 x1 x2 x3 x4 x8
            rcases (show (0 ≤ A ∨ A < 0) ∧ (1000 < nl ∨ ¬ 1000 < nl) by omega) with ⟨ha | ha, hn | hn⟩
            · have da : decide (0 ≤ A) = true := by simp; omega
              have dn : decide (1000 < (nl : Int)) = true := by simp; omega
              have HF : Hid (R = wg rest d (-1)) := by
                have := HEV.out
                rw [if_pos hn] at this
                exact this
              clear ha hn HEV
              go_wp2_with (first | (go_at_call 52; (with_reducible refine KB.out.mono ?_); rintro e w2 ⟨rfl, rfl⟩) | (go_at_call 52; (with_reducible refine KE.out.mono ?_); rintro e w3 ⟨rfl, rfl⟩))
              go_round
              case rel => exact ⟨i + 1, rest, (-1), hlt, by go_num, rfl, ⟨by omega, by omega⟩, HLE.out.1, HLE.out.2, HRS.out, HF.out, HLR.out⟩
              case measure => simp [intOf]; omega
            · have da : decide (0 ≤ A) = true := by simp; omega
              have dn : decide (1000 < (nl : Int)) = false := by simp; omega
              have HF : Hid (R = wg rest d E) := by
                have := HEV.out
                rw [if_neg hn, if_pos ha] at this
                exact this
              clear ha hn HEV
              go_wp2_with (first | (go_at_call 52; (with_reducible refine KB.out.mono ?_); rintro e w2 ⟨rfl, rfl⟩) | (go_at_call 52; (with_reducible refine KE.out.mono ?_); rintro e w3 ⟨rfl, rfl⟩))
              go_round
              case rel => exact ⟨i + 1, rest, E, hlt, by go_num, rfl, HBE, HLE.out.1, HLE.out.2, HRS.out, HF.out, HLR.out⟩
              case measure => simp [intOf]; omega
            · have da : decide (0 ≤ A) = false := by simp; omega
              have dn : decide (1000 < (nl : Int)) = true := by simp; omega
              have HF : Hid (R = wg rest d (-1)) := by
                have := HEV.out
                rw [if_pos hn] at this
                exact this
              clear ha hn HEV
              go_wp2_with (go_at_call 52; (with_reducible refine KB.out.mono ?_); rintro e w2 ⟨rfl, rfl⟩)
              go_round
              case rel => exact ⟨i + 1, rest, (-1), hlt, by go_num, rfl, ⟨by omega, by omega⟩, HLE.out.1, HLE.out.2, HRS.out, HF.out, HLR.out⟩
              case measure => simp [intOf]; omega
            · have da : decide (0 ≤ A) = false := by simp; omega
              have dn : decide (1000 < (nl : Int)) = false := by simp; omega
              have HF : Hid (R = wg rest d A) := by
                have := HEV.out
                rw [if_neg hn, if_neg (by omega)] at this
                exact this
              clear ha hn HEV
              go_wp2_with (go_at_call 52; (with_reducible refine KB.out.mono ?_); rintro e w2 ⟨rfl, rfl⟩)
              go_round
              case rel => exact ⟨i + 1, rest, A, hlt, by go_num, rfl, HBA, HLE.out.1, HLE.out.2, HRS.out, HF.out, HLR.out⟩
              case measure => simp [intOf]; omega
        · have dl : decide (0 ≤ li) = false := by simpa using hli
          have HE : Hid (R = li) := by rw [HI.out.2.2.2.1]; exact wg_neg _ _ _ (by omega)
          have hlt : i < m ∨ i = m := by omega
          clear hli HI
          rcases hlt with hlt | rfl
          · go_wp2
            go_ret
            exact ⟨by rw [HE.out]; rfl, rfl⟩
          · go_wp2
            go_ret
            exact ⟨by rw [HE.out]; rfl, rfl⟩
theorem Few_says (f : Fo) (v : Value) (w : World) (hL : Lens f) (hlen : f.len < 9223372036854775807) (hs : SA w.heap.size w v f) : Calls Tryz.prog 13 #[v] w fun e w' => e = .returned (.bool (decide (0 ≤ wg f 0 3000))) ∧ w = w' := by
  have H := hid (weigh_says w.heap.size w (Nat.le_refl _) (f.cnt + 1) f (Nat.lt_succ_self _) hL hlen 0 3000 v (by decide) (by decide) (by decide) (by decide) hs)
  rw [show wgT f 0 3000 = wg f 0 3000 from if_neg (by decide)] at H
  generalize wg f 0 3000 = r at *
  clear hL hs hlen
  go_enter Tryz.func13, Tryz.ntmps13
  go_wp2_with (go_at_call 52; (with_reducible refine H.out.mono ?_); rintro e w2 ⟨rfl, rfl⟩)
  go_ret
  exact ⟨rfl, rfl⟩
theorem few_cnt (f : Fo) (h : 0 ≤ wg f 0 3000) : f.cnt ≤ 3000 := by
  have := (wg_bound f 0 3000 (by decide)).2.2 h
  omega
end Go.Proofs.YteianbgampljeaaGreat
