/-
  The contracts of the document's own Nest and Count, and what the program's come to. Condition: there are fewer instructions than integers.
-/
import Derived.Test.YteianbgampljeaaGreatRef1
import Derived.Test.YteianbgampljeaaGreatCode
set_option linter.unusedSimpArgs false
set_option linter.unusedVariables false
set_option maxRecDepth 100000
namespace Go.Proofs.YteianbgampljeaaGreat
open Go.RowKit

theorem nst_cnt : ∀ f : Fo, f.nst ≤ f.cnt ∧ f.len ≤ f.cnt
  | .nil => ⟨Nat.le_refl _, Nat.le_refl _⟩
  | .cons _ _ _ _ _ _ _ b e r => by
    have h1 := nst_cnt b
    have h2 := nst_cnt e
    have h3 := nst_cnt r
    simp only [Fo.nst, Fo.cnt, Fo.len]
    omega
theorem nest_ev : ∀ (f : Fo) (d s : Int), d - 1 ≤ s → evF nestSt f d s = (true, max s (d - 1 + f.nst))
  | .nil, d, s, h => by
    simp only [evF, Fo.nst]
    rw [show max s (d - 1 + ((0 : Nat) : Int)) = s by omega]
  | .cons op a b n hh l ot body els rest, d, s, h => by
    rw [evF_cons nestSt op a b n hh l ot body els rest d s true (max s d) rfl true _ (nest_ev body (d + 1) (max s d) (by omega)) true _ (nest_ev els (d + 1) _ (by omega)), if_pos rfl, if_pos rfl, if_pos rfl, nest_ev rest d _ (by omega)]
    simp only [Fo.nst]
    congr 1
    omega
theorem count_ev : ∀ (f : Fo) (d s : Int), 0 ≤ s → s + f.cnt < 9223372036854775808 → evF countSt f d s = (true, s + f.cnt)
  | .nil, d, s, h, h2 => by simp [evF, Fo.cnt]
  | .cons op a b n hh l ot body els rest, d, s, h, h2 => by
    simp only [Fo.cnt] at h2
    have hw : countSt s d op a b n hh l ot body els = (true, s + 1) := by
      unfold countSt
      rw [show wrap64 (s + 1) = s + 1 by unfold wrap64; omega]
    rw [evF_cons countSt op a b n hh l ot body els rest d s true (s + 1) hw true _ (count_ev body (d + 1) (s + 1) (by omega) (by omega)) true _ (count_ev els (d + 1) _ (by omega) (by omega)), if_pos rfl, if_pos rfl, if_pos rfl, count_ev rest d _ (by omega) (by omega)]
    simp only [Fo.cnt]
    congr 1
    omega
theorem Nest_f (f : Fo) (v : Value) (w : World) (hn : f.cnt < 9223372036854775806) (hs : SA w.heap.size w v f) : Calls Tryz.prog 14 #[v] w fun e w' => e = .returned (.int .i64 (f.nst : Nat)) ∧ Below w.heap.size w w' := by
  have h := Nest_says f v w hn hs
  rw [nest_ev f 1 0 (by decide)] at h
  rw [show max 0 ((1 : Int) - 1 + (f.nst : Int)) = (f.nst : Int) by omega] at h
  exact h
theorem Count_f (f : Fo) (v : Value) (w : World) (hn : f.cnt < 9223372036854775806) (hs : SA w.heap.size w v f) : Calls Tryz.prog 16 #[v] w fun e w' => e = .returned (.int .i64 (f.cnt : Nat)) ∧ Below w.heap.size w w' := by
  have h := Count_says f v w hn hs
  rw [count_ev f 1 0 (by decide) (by omega)] at h
  rw [show (0 : Int) + (f.cnt : Int) = (f.cnt : Int) by omega] at h
  exact h
set_option maxHeartbeats 8000000 in
theorem RNest_says (B : Nat) (w : World) (hc62 : True) : ∀ (N : Nat) (f : Fo), f.cnt < N ∧ f.cnt < 9223372036854775806 → ∀ (v : Value), SA B w v f →
    Calls Tryz.prog 15 #[v] w fun e w' => e = .returned (.int .i64 (f.nst : Nat)) ∧ w = w' := by
  intro N
  induction N with
  | zero => intro f h; omega
  | succ N ih =>
    intro f hf v hs
    obtain ⟨p, c, g0, o0, rfl, hp, hfa⟩ := hs
    have hcl := nst_cnt f
    obtain ⟨m, hm⟩ : ∃ m, m = f.len := ⟨_, rfl⟩
    rw [← hm] at hp ⊢
    have HIH := hid ih
    have HP := hid hp
    have hm62 : (m : Int) < 9223372036854775807 := by omega
    obtain ⟨R, hR⟩ : ∃ R, R = f.nst := ⟨_, rfl⟩
    rw [← hR]
    have HS : Hid (0 + f.len = m ∧ f.cnt < N + 1 ∧ FA B w f g0 (o0 + 0 * 9) ∧ R = max 0 f.nst ∧ f.cnt < 9223372036854775806) := ⟨by rw [hm]; omega, hf.1, by simpa using hfa, by omega, hf.2⟩
    clear ih hp hR hm hfa hf hcl
    go_enter Tryz.func15, Tryz.ntmps15
    go_wp2
    go_loop [3, 4] (fun vn vi => ∃ (i : Nat) (fi : Fo) (n : Nat), i ≤ m ∧ vi = .int .i64 i ∧ vn = .int .i64 n ∧ Hid (i + fi.len = m ∧ fi.cnt < N + 1 ∧ FA B w fi g0 (o0 + i * 9) ∧ R = max n fi.nst ∧ fi.cnt < 9223372036854775806)) (fun _ vi => m - (intOf vi).toNat)
    case atStart => exact ⟨0, f, 0, Nat.zero_le _, rfl, rfl, HS⟩
    case round =>
      obtain ⟨i, fi, n, him, rfl, rfl, HI⟩ := hrel
      cases fi with
      | nil =>
        have hi : i = m := HI.out.1
        subst hi
        have HE : Hid (R = n) := by have := HI.out.2.2.2.1; simp only [Fo.nst] at this; (show R = n); omega
        go_wp2
        go_ret
        exact ⟨by rw [HE.out]; rfl, rfl⟩
      | cons op a b nn h l ot body els rest =>
        obtain ⟨hg, ⟨vl, vb, ve, x0, x1, x2, x3, x4, x5, x6, x7, x8, hl, hbo, hel⟩, hrest⟩ := HI.out.2.2.1
        have hlt : i < m := by have := HI.out.1; simp only [Fo.len] at this; omega
        obtain rfl := HP.out (by omega)
        have hcn := HI.out.2.1
        simp only [Fo.cnt] at hcn
        have nb := nst_cnt body
        have ne := nst_cnt els
        have nr := nst_cnt rest
        have h62 := HI.out.2.2.2.2
        simp only [Fo.cnt] at h62
        have KB := hid (HIH.out body ⟨by omega, by omega⟩ vb hbo)
        have KE := hid (HIH.out els ⟨by omega, by omega⟩ ve hel)
        have hR := HI.out.2.2.2.1
        simp only [Fo.nst] at hR
        have HR := hid hR
        have HLE := hid (show i + 1 + rest.len = m ∧ rest.cnt < N + 1 ∧ rest.cnt < 9223372036854775806 by have h1 := HI.out.1; simp only [Fo.len] at h1; omega)
        have HRS := hid (show FA B w rest g0 (o0 + (i + 1) * 9) by (have h9 : o0 + (i + 1) * 9 = o0 + i * 9 + 9 := by omega); rw [h9]; exact hrest)
        obtain ⟨x, hx⟩ : ∃ x, x = body.nst := ⟨_, rfl⟩
        obtain ⟨y, hy⟩ : ∃ y, y = els.nst := ⟨_, rfl⟩
        rw [← hx, ← hy] at HR
        rw [← hx] at KB nb
        rw [← hy] at KE ne
        have hwx : wrap64 ((x : Int) + 1) = (x : Int) + 1 := by unfold wrap64; omega
        have hwy : wrap64 ((y : Int) + 1) = (y : Int) + 1 := by unfold wrap64; omega
        clear hbo hel hrest HI hg hcn hl hR hx hy x0 x1 x2 x3 x4 x5 x8 nb ne nr h62
        rcases (show (x < y ∨ ¬ x < y) by omega) with hxy | hxy
        · have d1 : decide ((x : Int) < (y : Int)) = true := by simp; omega
          rcases (show (n < y + 1 ∨ ¬ n < y + 1) by omega) with hn | hn
          · have d2 : decide ((n : Int) < (y : Int) + 1) = true := by simp; omega
            go_wp2_with (first
              | (go_at_call 15; (with_reducible refine KB.out.mono ?_); rintro e w2 ⟨rfl, rfl⟩)
              | (go_at_call 15; (with_reducible refine KE.out.mono ?_); rintro e w3 ⟨rfl, rfl⟩))
            go_round
            case rel => exact ⟨i + 1, rest, y + 1, hlt, by go_num, by go_num, HLE.out.1, HLE.out.2.1, HRS.out, by have := HR.out; omega, HLE.out.2.2⟩
            case measure => simp [intOf]; omega
          · have d2 : decide ((n : Int) < (y : Int) + 1) = false := by simp; omega
            go_wp2_with (first
              | (go_at_call 15; (with_reducible refine KB.out.mono ?_); rintro e w2 ⟨rfl, rfl⟩)
              | (go_at_call 15; (with_reducible refine KE.out.mono ?_); rintro e w3 ⟨rfl, rfl⟩))
            go_round
            case rel => exact ⟨i + 1, rest, n, hlt, by go_num, rfl, HLE.out.1, HLE.out.2.1, HRS.out, by have := HR.out; omega, HLE.out.2.2⟩
            case measure => simp [intOf]; omega
        · have d1 : decide ((x : Int) < (y : Int)) = false := by simp; omega
          rcases (show (n < x + 1 ∨ ¬ n < x + 1) by omega) with hn | hn
          · have d2 : decide ((n : Int) < (x : Int) + 1) = true := by simp; omega
            go_wp2_with (first
              | (go_at_call 15; (with_reducible refine KB.out.mono ?_); rintro e w2 ⟨rfl, rfl⟩)
              | (go_at_call 15; (with_reducible refine KE.out.mono ?_); rintro e w3 ⟨rfl, rfl⟩))
            go_round
            case rel => exact ⟨i + 1, rest, x + 1, hlt, by go_num, by go_num, HLE.out.1, HLE.out.2.1, HRS.out, by have := HR.out; omega, HLE.out.2.2⟩
            case measure => simp [intOf]; omega
          · have d2 : decide ((n : Int) < (x : Int) + 1) = false := by simp; omega
            go_wp2_with (first
              | (go_at_call 15; (with_reducible refine KB.out.mono ?_); rintro e w2 ⟨rfl, rfl⟩)
              | (go_at_call 15; (with_reducible refine KE.out.mono ?_); rintro e w3 ⟨rfl, rfl⟩))
            go_round
            case rel => exact ⟨i + 1, rest, n, hlt, by go_num, rfl, HLE.out.1, HLE.out.2.1, HRS.out, by have := HR.out; omega, HLE.out.2.2⟩
            case measure => simp [intOf]; omega
end Go.Proofs.YteianbgampljeaaGreat
