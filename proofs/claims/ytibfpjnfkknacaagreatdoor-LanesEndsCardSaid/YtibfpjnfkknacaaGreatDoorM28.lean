/-
  RefUn, RefUn2: merged (each text says what it holds where it lies in wip). No condition.
-/
import Derived.Test.YtibfpjnfkknacaaGreatDoorM27
import Derived.Test.YtibfpjnfkknacaaGreatDoorM23
set_option linter.unusedSimpArgs false
set_option linter.unusedVariables false
namespace Go.Proofs.YtibfpjnfkknacaaGreatDoor
open Go.RowKit

theorem clz_bit (j x : Nat) : (btN x j = 1 → clzR (j + 1) x = 0) ∧ (btN x j = 0 → clzR (j + 1) x = 1 + clzR j x) := by
  have h := btN_bit x j
  rw [clzR, ← h]
  constructor
  · intro e; simp [e]
  · intro e; simp [e]

theorem ctz_bit (m x i : Nat) : (btN x i = 1 → ctzR (m + 1) (x / 2 ^ i) = 0) ∧ (btN x i = 0 → ctzR (m + 1) (x / 2 ^ i) = 1 + ctzR m (x / 2 ^ (i + 1))) := by
  unfold btN
  rw [ctzR, Nat.pow_succ, ← Nat.div_div_eq_div_mul]
  constructor
  · intro e; simp [e]
  · intro e; simp [e]

theorem pop_bit (x i : Nat) : pop (x / 2 ^ i) = btN x i + pop (x / 2 ^ (i + 1)) := by
  rw [pop_any, Nat.pow_succ, ← Nat.div_div_eq_div_mul]
  rfl

theorem own_cap2 {w : World} {base n cap g : Nat} {xs : List Value} (h : w.ownsRow base 22 1 (.slice (some ⟨g, 0, none⟩) n cap) n xs) : n ≤ cap := by
  rcases h.2 with ⟨h, _⟩ | ⟨g', cap', cur, h, _, _, hnc, _⟩
  · simp at h
  · injection h with h1 h2 h3
    omega

set_option maxRecDepth 100000 in
set_option maxHeartbeats 1600000 in
theorem RUn_1 (n : Nat) (hn : Okn n) (a : Nat) (ha : a < 18446744073709551616) (w : World) :
    Calls Tryz.prog 175 #[.int .i64 n, .int .i64 1, .int .u64 a] w (DivPost w (unR n 1 (a % 2 ^ n), 0)) := by
  obtain ⟨h1, h2, h3, h4⟩ := pow_lt64 hn
  have hn8 := hn.le
  have HK := hid (Right_yes n hn w)
  have HX := hid (Cut_any n hn a ha w)
  obtain ⟨x, hx⟩ : ∃ x : Nat, x = a % 2 ^ n := ⟨_, rfl⟩
  have hxl : x < 2 ^ n := by rw [hx]; exact Nat.mod_lt _ (Nat.two_pow_pos n)
  have HL := hid (list_any n hn8.2 x (by omega) w)
  rw [← hx] at HX
  rw [← hx]
  have hn64 : n ≤ 64 := hn8.2
  have hn1 : 1 ≤ n := by omega
  clear hx ha
  have hs : unR n 1 x = clzR n x := by rw [unR, if_pos rfl]
  rw [hs]
  clear h1 h2 h3 h4 hn hn8 hs hxl
  go_enter Tryz.func175, Tryz.ntmps175
  repeat' (first
    | (with_reducible refine wp_exit ?_; repeat (first | with_reducible refine ex_norm ?_ | with_reducible refine ex_then ?_ | with_reducible refine ex_here ?_ | with_reducible refine ex_pass rfl ?_))
    | (go_big_may; first
      | (go_at_call 167; refine HK.out.mono ?_; rintro e w' ⟨rfl, rfl⟩)
      | (go_at_call 70; ((with_reducible refine HX.out.mono ?_); rintro e w' ⟨rfl, rfl⟩))
      | (go_at_call 204; refine HL.out.mono ?_; rintro e w1 ⟨v1, rfl, hown1, hB1⟩; have K1 := hid hown1; have K2 := hid hB1; clear hown1 hB1; obtain ⟨g, cap, rfl⟩ := owned_at K1.out hn1; have hcap := own_cap2 K1.out))
    | go_values | go_skip | go_guarded | go_step | go_upon | go_back | dsimp only)
  go_loop [10, 11] (fun vk vi => ∃ m : Nat, m ≤ n ∧ vi = .int .i64 ((m : Int) - 1) ∧ vk = .int .u64 ((n - m : Nat) : Int) ∧ Hid (clzR n x = (n - m) + clzR m x)) (fun _ vi => (intOf vi + 1).toNat)
  case atStart => exact ⟨n, Nat.le_refl _, rfl, by rw [Nat.sub_self]; rfl, hid (by omega)⟩
  case round =>
    obtain ⟨m, hm, rfl, rfl, H⟩ := hrel
    by_cases h0 : m = 0
    · subst h0
      have e : ((n - 0 : Nat) : Int) = (clzR n x : Nat) := by have := H.out; rw [this]; rfl
      have HE := hid e
      obtain ⟨z, hz⟩ : ∃ z : Int, z = ((n - 0 : Nat) : Int) := ⟨_, rfl⟩
      rw [← hz] at HE ⊢
      clear H e hz
      go_wp2
      go_ret2
      exact div_post HE.out rfl K2.out
    · obtain ⟨j, rfl⟩ : ∃ j, m = j + 1 := ⟨m - 1, by omega⟩
      have ek : ((j + 1 : Nat) : Int) - 1 = (j : Int) := by omega
      have hc : w1.cell? ⟨g, j, none⟩ = some (.int .u64 (btN x j : Nat)) := by
        rw [K1.out.cellAt j (by omega), fc_get (by omega)]
      have hb : btN x j = 0 ∨ btN x j = 1 := by have := btN_le x j; omega
      obtain ⟨c1, c2⟩ := clz_bit j x
      rw [ek]
      rcases hb with hb | hb
      · rw [hb] at hc
        have hw : IntKind.u64.wrap (((n - (j + 1) : Nat) : Int) + 1) = ((n - j : Nat) : Int) := by rw [IntKind.wrap_u64]; omega
        have H2 := hid (show clzR n x = (n - j) + clzR j x by have := H.out; rw [c2 hb] at this; omega)
        obtain ⟨p, hp⟩ : ∃ p : Nat, p = n - (j + 1) := ⟨_, rfl⟩
        obtain ⟨q, hq⟩ : ∃ q : Nat, q = n - j := ⟨_, rfl⟩
        rw [← hp, ← hq] at hw
        rw [← hp]
        rw [← hq] at H2
        have HQ := hid hq
        simp only [Int.natCast_zero] at hc
        clear H c1 c2 hb hp hq h0 ek
        go_wp2
        go_round
        case rel => exact ⟨j, by omega, rfl, by rw [HQ.out], by rw [← HQ.out]; exact H2⟩
        case measure => simp [intOf]
      · rw [hb] at hc
        have e : ((n - (j + 1) : Nat) : Int) = (clzR n x : Nat) := by have := H.out; rw [c1 hb] at this; rw [this]; rfl
        have HE := hid e
        obtain ⟨z, hz⟩ : ∃ z : Int, z = ((n - (j + 1) : Nat) : Int) := ⟨_, rfl⟩
        rw [← hz] at HE ⊢
        simp only [Int.natCast_one] at hc
        clear H c1 c2 hb e hz h0 ek
        go_wp2
        go_ret2
        exact div_post HE.out rfl K2.out

set_option maxRecDepth 100000 in
set_option maxHeartbeats 1600000 in
theorem RUn_2 (n : Nat) (hn : Okn n) (a : Nat) (ha : a < 18446744073709551616) (w : World) :
    Calls Tryz.prog 175 #[.int .i64 n, .int .i64 2, .int .u64 a] w (DivPost w (unR n 2 (a % 2 ^ n), 0)) := by
  obtain ⟨h1, h2, h3, h4⟩ := pow_lt64 hn
  have hn8 := hn.le
  have HK := hid (Right_yes n hn w)
  have HX := hid (Cut_any n hn a ha w)
  obtain ⟨x, hx⟩ : ∃ x : Nat, x = a % 2 ^ n := ⟨_, rfl⟩
  have hxl : x < 2 ^ n := by rw [hx]; exact Nat.mod_lt _ (Nat.two_pow_pos n)
  have HL := hid (list_any n hn8.2 x (by omega) w)
  rw [← hx] at HX
  rw [← hx]
  have hn64 : n ≤ 64 := hn8.2
  have hn1 : 1 ≤ n := by omega
  clear hx ha
  have hs : unR n 2 x = ctzR n x := by rw [unR, if_neg (by decide), if_pos rfl]
  rw [hs]
  clear h1 h2 h3 h4 hn hn8 hs hxl
  go_enter Tryz.func175, Tryz.ntmps175
  repeat' (first
    | (with_reducible refine wp_exit ?_; repeat (first | with_reducible refine ex_norm ?_ | with_reducible refine ex_then ?_ | with_reducible refine ex_here ?_ | with_reducible refine ex_pass rfl ?_))
    | (go_big_may; first
      | (go_at_call 167; refine HK.out.mono ?_; rintro e w' ⟨rfl, rfl⟩)
      | (go_at_call 70; ((with_reducible refine HX.out.mono ?_); rintro e w' ⟨rfl, rfl⟩))
      | (go_at_call 204; refine HL.out.mono ?_; rintro e w1 ⟨v1, rfl, hown1, hB1⟩; have K1 := hid hown1; have K2 := hid hB1; clear hown1 hB1; obtain ⟨g, cap, rfl⟩ := owned_at K1.out hn1; have hcap := own_cap2 K1.out))
    | go_values | go_skip | go_guarded | go_step | go_upon | go_back | dsimp only)
  go_loop [10, 12] (fun vk vi => ∃ i : Nat, i ≤ n ∧ vi = .int .i64 i ∧ vk = .int .u64 (i : Int) ∧ Hid (ctzR n x = i + ctzR (n - i) (x / 2 ^ i))) (fun _ vi => n - (intOf vi).toNat)
  case atStart => exact ⟨0, Nat.zero_le _, rfl, rfl, hid (by simp)⟩
  case round =>
    obtain ⟨i, hi, rfl, rfl, H⟩ := hrel
    by_cases hlt : i < n
    · have hc : w1.cell? ⟨g, i, none⟩ = some (.int .u64 (btN x i : Nat)) := by
        rw [K1.out.cellAt i (by omega), fc_get (by omega)]
      have hb : btN x i = 0 ∨ btN x i = 1 := by have := btN_le x i; omega
      obtain ⟨c1, c2⟩ := ctz_bit (n - (i + 1)) x i
      have em : n - (i + 1) + 1 = n - i := by omega
      rw [em] at c1 c2
      rcases hb with hb | hb
      · rw [hb] at hc
        have hw : IntKind.u64.wrap ((i : Int) + 1) = ((i + 1 : Nat) : Int) := by rw [IntKind.wrap_u64]; omega
        have H2 := hid (show ctzR n x = (i + 1) + ctzR (n - (i + 1)) (x / 2 ^ (i + 1)) by have := H.out; rw [c2 hb] at this; omega)
        obtain ⟨q, hq⟩ : ∃ q : Nat, q = i + 1 := ⟨_, rfl⟩
        rw [← hq] at hw
        have HQ := hid hq
        simp only [Int.natCast_zero] at hc
        clear H c1 c2 hb hq em
        go_wp2
        go_round
        case rel => exact ⟨i + 1, by omega, by go_num, by rw [HQ.out], H2⟩
        case measure => simp [intOf]; omega
      · rw [hb] at hc
        have e : (i : Int) = (ctzR n x : Nat) := by have := H.out; rw [c1 hb] at this; rw [this]; rfl
        have HE := hid e
        simp only [Int.natCast_one] at hc
        clear H c1 c2 hb e em
        go_wp2
        go_ret2
        exact div_post HE.out rfl K2.out
    · obtain rfl : i = n := by omega
      have e : (i : Int) = (ctzR i x : Nat) := by have := H.out; rw [Nat.sub_self] at this; rw [this]; rfl
      have HE := hid e
      clear H e
      go_wp2
      go_ret2
      exact div_post HE.out rfl K2.out

set_option maxRecDepth 100000 in
set_option maxHeartbeats 1600000 in
theorem RUn_3 (n : Nat) (hn : Okn n) (a : Nat) (ha : a < 18446744073709551616) (w : World) :
    Calls Tryz.prog 175 #[.int .i64 n, .int .i64 3, .int .u64 a] w (DivPost w (unR n 3 (a % 2 ^ n), 0)) := by
  obtain ⟨h1, h2, h3, h4⟩ := pow_lt64 hn
  have hn8 := hn.le
  have HK := hid (Right_yes n hn w)
  have HX := hid (Cut_any n hn a ha w)
  obtain ⟨x, hx⟩ : ∃ x : Nat, x = a % 2 ^ n := ⟨_, rfl⟩
  have hxl : x < 2 ^ n := by rw [hx]; exact Nat.mod_lt _ (Nat.two_pow_pos n)
  have HL := hid (list_any n hn8.2 x (by omega) w)
  rw [← hx] at HX
  rw [← hx]
  have hn64 : n ≤ 64 := hn8.2
  have hn1 : 1 ≤ n := by omega
  clear hx ha
  have hs : unR n 3 x = pop x := by rw [unR, if_neg (by decide), if_neg (by decide), if_pos rfl]
  rw [hs]
  have HXL := hid (show x / 2 ^ n = 0 from Nat.div_eq_of_lt hxl)
  clear h1 h2 h3 h4 hn hn8 hs hxl
  go_enter Tryz.func175, Tryz.ntmps175
  repeat' (first
    | (with_reducible refine wp_exit ?_; repeat (first | with_reducible refine ex_norm ?_ | with_reducible refine ex_then ?_ | with_reducible refine ex_here ?_ | with_reducible refine ex_pass rfl ?_))
    | (go_big_may; first
      | (go_at_call 167; refine HK.out.mono ?_; rintro e w' ⟨rfl, rfl⟩)
      | (go_at_call 70; ((with_reducible refine HX.out.mono ?_); rintro e w' ⟨rfl, rfl⟩))
      | (go_at_call 204; refine HL.out.mono ?_; rintro e w1 ⟨v1, rfl, hown1, hB1⟩; have K1 := hid hown1; have K2 := hid hB1; clear hown1 hB1; obtain ⟨g, cap, rfl⟩ := owned_at K1.out hn1; have hcap := own_cap2 K1.out))
    | go_values | go_skip | go_guarded | go_step | go_upon | go_back | dsimp only)
  go_loop [10, 13] (fun vk vi => ∃ i c : Nat, i ≤ n ∧ c ≤ i ∧ vi = .int .i64 i ∧ vk = .int .u64 (c : Int) ∧ Hid (pop x = c + pop (x / 2 ^ i))) (fun _ vi => n - (intOf vi).toNat)
  case atStart => exact ⟨0, 0, Nat.zero_le _, Nat.le_refl _, rfl, rfl, hid (by simp)⟩
  case round =>
    obtain ⟨i, c, hi, hci, rfl, rfl, H⟩ := hrel
    by_cases hlt : i < n
    · have hc : w1.cell? ⟨g, i, none⟩ = some (.int .u64 (btN x i : Nat)) := by
        rw [K1.out.cellAt i (by omega), fc_get (by omega)]
      have hb := btN_le x i
      have hp := pop_bit x i
      obtain ⟨t, ht⟩ : ∃ t : Nat, t = btN x i := ⟨_, rfl⟩
      rw [← ht] at hc hb hp
      have hw : IntKind.u64.wrap ((c : Int) + (t : Int)) = ((c + t : Nat) : Int) := by rw [IntKind.wrap_u64]; omega
      have H2 := hid (show pop x = (c + t) + pop (x / 2 ^ (i + 1)) by have := H.out; omega)
      obtain ⟨q, hq⟩ : ∃ q : Nat, q = c + t := ⟨_, rfl⟩
      rw [← hq] at hw H2
      have hqi : q ≤ i + 1 := by omega
      clear H hb hp ht hq
      go_wp2
      go_round
      case rel => exact ⟨i + 1, q, by omega, hqi, by go_num, rfl, H2⟩
      case measure => simp [intOf]; omega
    · obtain rfl : i = n := by omega
      have e : (c : Int) = (pop x : Nat) := by have := H.out; rw [HXL.out, pop_zero] at this; rw [this]; rfl
      have HE := hid e
      clear H e
      go_wp2
      go_ret2
      exact div_post HE.out rfl K2.out

set_option maxRecDepth 100000 in
set_option maxHeartbeats 1600000 in
theorem RUn_7 (n : Nat) (hn : Okn n) (a : Nat) (ha : a < 18446744073709551616) (w : World) :
    Calls Tryz.prog 175 #[.int .i64 n, .int .i64 7, .int .u64 a] w (DivPost w (unR n 7 (a % 2 ^ n), 0)) := by
  obtain ⟨h1, h2, h3, h4⟩ := pow_lt64 hn
  have hn8 := hn.le
  have HK := hid (Right_yes n hn w)
  have HX := hid (Cut_any n hn a ha w)
  obtain ⟨x, hx⟩ : ∃ x : Nat, x = a % 2 ^ n := ⟨_, rfl⟩
  have hxl : x < 2 ^ n := by rw [hx]; exact Nat.mod_lt _ (Nat.two_pow_pos n)
  have HL := hid (list_any n hn8.2 x (by omega) w)
  rw [← hx] at HX
  rw [← hx]
  have hn64 : n ≤ 64 := hn8.2
  have hn1 : 1 ≤ n := by omega
  clear hx ha
  have hs : unR n 7 x = (sg n x).natAbs := by rw [unR, if_neg (by decide), if_neg (by decide), if_neg (by decide), if_neg (by decide), if_neg (by decide), if_neg (by decide), if_pos rfl]
  rw [hs, sg_abs hxl]
  have htb := top_bit hn hxl
  have hneg : IntKind.u64.wrap (-(x : Int)) = (((18446744073709551616 - x) % 18446744073709551616 : Nat) : Int) := by
    rw [IntKind.wrap_u64]; omega
  have hc1 : (n : Int) - 1 = ((n - 1 : Nat) : Int) := by omega
  obtain ⟨j, hj⟩ : ∃ j : Nat, j = n - 1 := ⟨_, rfl⟩
  have hjn : j < n := by omega
  by_cases hc : 2 ^ (n - 1) ≤ x
  · rw [if_pos hc] at htb ⊢
    have HC : Hid (∀ W : World, Calls Tryz.prog 70 #[.int .i64 n, .int .u64 ((18446744073709551616 - x) % 18446744073709551616 : Nat)] W fun e w' => e = .returned (.int .u64 (2 ^ n - x : Nat)) ∧ W = w') := fun W => by
      rw [← neg_mod hn hxl hc]
      exact Cut_any n hn _ (by omega) W
    obtain ⟨t, ht⟩ : ∃ t : Nat, t = (18446744073709551616 - x) % 18446744073709551616 := ⟨_, rfl⟩
    obtain ⟨s, hse⟩ : ∃ s : Nat, s = 2 ^ n - x := ⟨_, rfl⟩
    rw [← ht] at hneg HC
    rw [← hse] at HC ⊢
    rw [← hj] at hc1 htb
    have HT : Hid (btN x j = 1) := htb
    clear h1 h2 h3 h4 hn hn8 hs hxl htb hc ht hse hj
    go_enter Tryz.func175, Tryz.ntmps175
    repeat' (first
      | (with_reducible refine wp_exit ?_; repeat (first | with_reducible refine ex_norm ?_ | with_reducible refine ex_then ?_ | with_reducible refine ex_here ?_ | with_reducible refine ex_pass rfl ?_))
      | (go_big_may; first
        | (go_at_call 167; refine HK.out.mono ?_; rintro e w' ⟨rfl, rfl⟩)
        | (go_at_call 70; ((with_reducible refine HX.out.mono ?_); rintro e w' ⟨rfl, rfl⟩))
        | (go_at_call 204; refine HL.out.mono ?_; rintro e w1 ⟨v1, rfl, hown1, hB1⟩; have K1 := hid hown1; have K2 := hid hB1; clear hown1 hB1; obtain ⟨g, cap, rfl⟩ := owned_at K1.out hn1; have hcap := own_cap2 K1.out; have hcl := K1.out.cellAt j (by omega); rw [fc_get hjn, HT.out] at hcl; simp only [Int.natCast_one] at hcl)
        | (go_at_call 70; refine (HC.out _).mono ?_; rintro e w' ⟨rfl, rfl⟩))
      | go_values | go_skip | go_guarded | go_step | go_upon | go_back | dsimp only)
    go_ret2
    exact div_post rfl rfl K2.out
  · rw [if_neg hc] at htb ⊢
    rw [← hj] at hc1 htb
    have HT : Hid (btN x j = 0) := htb
    clear h1 h2 h3 h4 hn hn8 hs hxl htb hc hj hneg
    go_enter Tryz.func175, Tryz.ntmps175
    repeat' (first
      | (with_reducible refine wp_exit ?_; repeat (first | with_reducible refine ex_norm ?_ | with_reducible refine ex_then ?_ | with_reducible refine ex_here ?_ | with_reducible refine ex_pass rfl ?_))
      | (go_big_may; first
        | (go_at_call 167; refine HK.out.mono ?_; rintro e w' ⟨rfl, rfl⟩)
        | (go_at_call 70; ((with_reducible refine HX.out.mono ?_); rintro e w' ⟨rfl, rfl⟩))
        | (go_at_call 204; refine HL.out.mono ?_; rintro e w1 ⟨v1, rfl, hown1, hB1⟩; have K1 := hid hown1; have K2 := hid hB1; clear hown1 hB1; obtain ⟨g, cap, rfl⟩ := owned_at K1.out hn1; have hcap := own_cap2 K1.out; have hcl := K1.out.cellAt j (by omega); rw [fc_get hjn, HT.out] at hcl; simp only [Int.natCast_zero] at hcl))
      | go_values | go_skip | go_guarded | go_step | go_upon | go_back | dsimp only)
    go_ret2
    exact div_post rfl rfl K2.out

set_option maxRecDepth 100000 in
set_option maxHeartbeats 1600000 in
theorem RUn_8 (n : Nat) (hn : Okn n) (a : Nat) (ha : a < 18446744073709551616) (w : World) :
    Calls Tryz.prog 175 #[.int .i64 n, .int .i64 8, .int .u64 a] w (DivPost w (unR n 8 (a % 2 ^ n), 0)) := by
  obtain ⟨h1, h2, h3, h4⟩ := pow_lt64 hn
  have hn8 := hn.le
  have HK := hid (Right_yes n hn w)
  have HX := hid (Cut_any n hn a ha w)
  obtain ⟨x, hx⟩ : ∃ x : Nat, x = a % 2 ^ n := ⟨_, rfl⟩
  have hxl : x < 2 ^ n := by rw [hx]; exact Nat.mod_lt _ (Nat.two_pow_pos n)
  have HL := hid (list_any n hn8.2 x (by omega) w)
  rw [← hx] at HX
  rw [← hx]
  have hn64 : n ≤ 64 := hn8.2
  have hn1 : 1 ≤ n := by omega
  clear hx ha
  have hs : unR n 8 x = (18446744073709551616 - x) % 18446744073709551616 % 2 ^ n := by
    rw [unR, if_neg (by decide), if_neg (by decide), if_neg (by decide), if_neg (by decide), if_neg (by decide), if_neg (by decide), if_neg (by decide)]
    clear HK HX HL hn64 hn1 hn8
    rcases hn with rfl | rfl | rfl | rfl <;> simp at hxl ⊢ <;> omega
  rw [hs]
  have hneg : IntKind.u64.wrap (-(x : Int)) = (((18446744073709551616 - x) % 18446744073709551616 : Nat) : Int) := by
    rw [IntKind.wrap_u64]; omega
  have HC : Hid (∀ W : World, Calls Tryz.prog 70 #[.int .i64 n, .int .u64 ((18446744073709551616 - x) % 18446744073709551616 : Nat)] W fun e w' => e = .returned (.int .u64 ((18446744073709551616 - x) % 18446744073709551616 % 2 ^ n : Nat)) ∧ W = w') := fun W => Cut_any n hn _ (by omega) W
  obtain ⟨t, ht⟩ : ∃ t : Nat, t = (18446744073709551616 - x) % 18446744073709551616 := ⟨_, rfl⟩
  obtain ⟨s, hse⟩ : ∃ s : Nat, s = t % 2 ^ n := ⟨_, rfl⟩
  rw [← ht] at hneg HC ⊢
  rw [← hse] at HC ⊢
  clear h1 h2 h3 h4 hn hn8 hs hxl ht hse
  go_enter Tryz.func175, Tryz.ntmps175
  repeat' (first
    | (with_reducible refine wp_exit ?_; repeat (first | with_reducible refine ex_norm ?_ | with_reducible refine ex_then ?_ | with_reducible refine ex_here ?_ | with_reducible refine ex_pass rfl ?_))
    | (go_big_may; first
      | (go_at_call 167; refine HK.out.mono ?_; rintro e w' ⟨rfl, rfl⟩)
      | (go_at_call 70; ((with_reducible refine HX.out.mono ?_); rintro e w' ⟨rfl, rfl⟩))
      | (go_at_call 204; refine HL.out.mono ?_; rintro e w1 ⟨v1, rfl, hown1, hB1⟩; have K1 := hid hown1; have K2 := hid hB1; clear hown1 hB1; obtain ⟨g, cap, rfl⟩ := owned_at K1.out hn1; have hcap := own_cap2 K1.out)
      | (go_at_call 70; refine (HC.out _).mono ?_; rintro e w' ⟨rfl, rfl⟩))
    | go_values | go_skip | go_guarded | go_step | go_upon | go_back | dsimp only)
  go_ret2
  exact div_post rfl rfl K2.out

end Go.Proofs.YtibfpjnfkknacaaGreatDoor
set_option linter.unusedSimpArgs false
set_option linter.unusedVariables false
namespace Go.Proofs.YtibfpjnfkknacaaGreatDoor
open Go.RowKit

/-- The bits of a number of d bits, with its sign bit above them. -/
def exF (d x j : Nat) : Nat := if j < d then btN x j else btN x (d - 1)

theorem exF_le (d x j : Nat) : exF d x j ≤ 1 := by unfold exF; split <;> exact btN_le _ _

theorem low_bit (d x i : Nat) : (x % 2 ^ d).testBit i = (decide (i < d) && x.testBit i) := by rw [Nat.testBit_mod_two_pow]

theorem ext_bits {n d x : Nat} (hd : Okn d) (hdn : d < n) : ofF n (exF d x) = toN n (sg d (x % 2 ^ d)) := by
  have hd8 := hd.le
  have hy : x % 2 ^ d < 2 ^ d := Nat.mod_lt _ (Nat.two_pow_pos d)
  have hpp : 2 ^ d < 2 ^ n := Nat.pow_lt_pow_right (by decide) hdn
  have htop := testBit_top hd hy
  rw [low_bit] at htop
  have hb : ∀ i, (x % 2 ^ d).testBit i = (decide (i < d) && x.testBit i) := low_bit d x
  have hd1 : d - 1 < d := by omega
  simp only [hd1, decide_true, Bool.true_and] at htop
  generalize x % 2 ^ d = y at *
  by_cases hc : 2 ^ (d - 1) ≤ y
  · have e : sg d y = (y : Int) - (2 ^ d : Nat) := by unfold sg; rw [if_pos hc]
    have e2 : toN n ((y : Int) - (2 ^ d : Nat)) = 2 ^ n - ((2 ^ d - (y + 1)) + 1) := by
      unfold toN
      have h3 : (y : Int) - (2 ^ d : Nat) = ((2 ^ n - ((2 ^ d - (y + 1)) + 1) : Nat) : Int) + ((2 ^ n : Nat) : Int) * -1 := by omega
      rw [h3, Int.add_mul_emod_self_left, ← Int.natCast_emod, Int.toNat_natCast, Nat.mod_eq_of_lt (by omega)]
    rw [e, e2]
    refine ofF_eq (exF_le d x) (by omega) (fun i hi => ?_)
    rw [Nat.testBit_two_pow_sub_succ (by omega), Nat.testBit_two_pow_sub_succ hy, hb i, exF]
    by_cases h : i < d
    · rw [if_pos h, btN_bit]
      simp [hi, h]
    · rw [if_neg h, btN_bit, htop]
      simp [hi, h, hc]
  · have e : sg d y = (y : Int) := by unfold sg; rw [if_neg hc]
    rw [e, toN_nat, Nat.mod_eq_of_lt (by omega)]
    refine ofF_eq (exF_le d x) (by omega) (fun i hi => ?_)
    rw [hb i, exF]
    by_cases h : i < d
    · rw [if_pos h, btN_bit]
      simp [h]
    · rw [if_neg h, btN_bit, htop]
      simp [h, hc]

def ExInv (w : World) (g cap n x d i : Nat) (wr : World) : Prop :=
  w.heap.size ≤ g ∧ wr.ownsRow w.heap.size 22 1 (.slice (some ⟨g, 0, none⟩) n cap) n (fc n (fun j => if d ≤ j ∧ j < i then btN x (d - 1) else btN x j)) ∧ Below w.heap.size w wr

theorem ex_start {w w1 : World} {g cap n x d : Nat} (h : w1.ownsRow w.heap.size 22 1 (.slice (some ⟨g, 0, none⟩) n cap) n (fc n (btN x))) (hb : Below w.heap.size w w1) (o : Obj) : ExInv w g cap n x d d (w1.alloc o) := by
  refine ⟨(h.lt g rfl).1, ?_, hb.alloc hb.size o⟩
  rw [fc_congr (g := btN x) (fun j _ => by
    by_cases h1 : d ≤ j
    · simp [h1, show ¬ j < d by omega]
    · simp [h1])]
  exact h.alloc o

theorem ex_next {w wr : World} {g cap n x d i : Nat} (h : ExInv w g cap n x d i wr) (hi : d ≤ i) : ExInv w g cap n x d (i + 1) (wr.setCell ⟨g, i, none⟩ (.int .u64 (btN x (d - 1) : Nat))) := by
  obtain ⟨h1, h2, h3⟩ := h
  refine ⟨h1, ?_, h3.setCell (p := ⟨g, i, none⟩) h1 _⟩
  have := (h2.stored i (.int .u64 (btN x (d - 1) : Nat))).1
  rw [fc_set] at this
  rw [fc_congr (g := fun j => if j = i then btN x (d - 1) else if d ≤ j ∧ j < i then btN x (d - 1) else btN x j) (fun j _ => by
    by_cases h4 : j = i
    · subst h4; simp [hi]
    · by_cases h5 : d ≤ j ∧ j < i
      · simp [h4, h5, show j < i + 1 by omega]
      · rw [if_neg h4, if_neg h5, if_neg (by omega)])]
  exact this

theorem ex_cells {w wr : World} {g cap n x d i : Nat} (h : ExInv w g cap n x d i wr) (hd : 1 ≤ d) (hi : d ≤ i) (hin : i < n) : wr.cell? ⟨g, i, none⟩ = some (.int .u64 (btN x i : Nat)) ∧ wr.frozen? ⟨g, i, none⟩ = false ∧ wr.cell? ⟨g, d - 1, none⟩ = some (.int .u64 (btN x (d - 1) : Nat)) := by
  obtain ⟨h1, h2, h3⟩ := h
  refine ⟨?_, h2.frozenAt i, ?_⟩
  · rw [h2.cellAt i (by omega), fc_get hin]
    simp
  · rw [h2.cellAt (d - 1) (by omega), fc_get (by omega), if_neg (by omega)]

theorem ex_end {w wr : World} {g cap n x d i : Nat} (h : ExInv w g cap n x d i wr) (hi : n ≤ i) : wr.ownsRow w.heap.size 22 1 (.slice (some ⟨g, 0, none⟩) n cap) n (fc n (exF d x)) ∧ Below w.heap.size w wr := by
  obtain ⟨h1, h2, h3⟩ := h
  refine ⟨?_, h3⟩
  rw [fc_congr (g := fun j => if d ≤ j ∧ j < i then btN x (d - 1) else btN x j) (fun j hj => by
    unfold exF
    by_cases h4 : j < d
    · rw [if_pos h4, if_neg (by omega)]
    · rw [if_neg h4, if_pos (by omega)])]
  exact h2

set_option maxRecDepth 100000 in
set_option maxHeartbeats 1600000 in
theorem RUn_4 (n : Nat) (hn : Okn n) (hw : 8 < n) (a : Nat) (ha : a < 18446744073709551616) (w : World) :
    Calls Tryz.prog 175 #[.int .i64 n, .int .i64 4, .int .u64 a] w (DivPost w (unR n 4 (a % 2 ^ n), 0)) := by
  obtain ⟨h1, h2, h3, h4⟩ := pow_lt64 hn
  have hn8 := hn.le
  have HK := hid (Right_yes n hn w)
  have HX := hid (Cut_any n hn a ha w)
  obtain ⟨x, hx⟩ : ∃ x : Nat, x = a % 2 ^ n := ⟨_, rfl⟩
  have hxl : x < 2 ^ n := by rw [hx]; exact Nat.mod_lt _ (Nat.two_pow_pos n)
  have HL := hid (list_any n hn8.2 x (by omega) w)
  rw [← hx] at HX
  rw [← hx]
  have hn64 : n ≤ 64 := hn8.2
  have hn1 : 1 ≤ n := by omega
  clear hx ha
  have hs : unR n 4 x = toN n (sg 8 (x % 2 ^ 8)) := by rw [unR, if_neg (by decide), if_neg (by decide), if_neg (by decide), if_pos rfl]
  rw [hs, ← ext_bits (d := 8) (.inl rfl) hw]
  have hle : decide ((n : Int) ≤ 8) = false := decide_eq_false (by omega)
  have hwn : (8 : Nat) ≤ n := by omega
  clear h1 h2 h3 h4 hn hn8 hs hxl hw
  go_enter Tryz.func175, Tryz.ntmps175
  repeat' (first
    | (with_reducible refine wp_exit ?_; repeat (first | with_reducible refine ex_norm ?_ | with_reducible refine ex_then ?_ | with_reducible refine ex_here ?_ | with_reducible refine ex_pass rfl ?_))
    | (go_big_may; first
      | (go_at_call 167; refine HK.out.mono ?_; rintro e w' ⟨rfl, rfl⟩)
      | (go_at_call 70; ((with_reducible refine HX.out.mono ?_); rintro e w' ⟨rfl, rfl⟩))
      | (go_at_call 204; refine HL.out.mono ?_; rintro e w1 ⟨v1, rfl, hown1, hB1⟩; have K1 := hid hown1; have K2 := hid hB1; clear hown1 hB1; obtain ⟨g, cap, rfl⟩ := owned_at K1.out hn1; have hcap := own_cap2 K1.out))
    | go_values | go_skip | go_guarded | go_step | go_upon | go_back | dsimp only)
  go_loopw [15] (fun vi wr => ∃ i : Nat, 8 ≤ i ∧ i ≤ n ∧ vi = .int .i64 i ∧ ExInv w g cap n x 8 i wr) (fun vi _ => n - (intOf vi).toNat)
  case atStart => exact ⟨8, Nat.le_refl _, hwn, rfl, ex_start K1.out K2.out _⟩
  case round =>
    obtain ⟨i, hi1, hi2, rfl, hI⟩ := hrel
    by_cases hlt : i < n
    · obtain ⟨q1, q2, q3⟩ := ex_cells hI (by decide) hi1 hlt
      have hnx := ex_next hI hi1
      obtain ⟨t, ht⟩ : ∃ t : Nat, t = btN x (8 - 1) := ⟨_, rfl⟩
      rw [← ht] at q3 hnx
      simp only [Nat.reduceSub] at q3
      have HX2 := hid hnx
      clear hI hnx ht
      go_wp2
      go_roundw
      case rel => exact ⟨i + 1, by omega, by omega, by go_num, HX2.out⟩
      case measure => simp [intOf]; omega
    · rename_i wr _
      have hE := ex_end hI (by omega)
      have HOf := hid (of_any n hn1 hn64 _ (exF_le 8 x) _ w.heap.size _ hE.1)
      have HB := hid hE.2
      obtain ⟨s, hse⟩ : ∃ s : Nat, s = ofF n (exF 8 x) := ⟨_, rfl⟩
      rw [← hse] at HOf
      have HS := hid hse
      clear hE hI hse
      go_wp2_with (go_at_call 205; refine HOf.out.mono ?_; rintro e w' ⟨rfl, rfl⟩)
      go_ret2
      exact div_post (by rw [HS.out]) rfl HB.out

set_option maxRecDepth 100000 in
theorem RUn_4no (n : Nat) (hn : Okn n) (hw : n ≤ 8) (x : Int) (w : World) :
    Calls Tryz.prog 175 #[.int .i64 n, .int .i64 4, .int .u64 x] w (DivPost w (0, 1)) := by
  have HK := hid (Right_yes n hn w)
  have hle : decide ((n : Int) ≤ 8) = true := decide_eq_true (by omega)
  clear hn hw
  go_enter Tryz.func175, Tryz.ntmps175
  repeat' (first
    | (with_reducible refine wp_exit ?_; repeat (first | with_reducible refine ex_norm ?_ | with_reducible refine ex_then ?_ | with_reducible refine ex_here ?_ | with_reducible refine ex_pass rfl ?_))
    | (go_big_may; first
      | (go_at_call 167; refine HK.out.mono ?_; rintro e w' ⟨rfl, rfl⟩))
    | go_values | go_skip | go_guarded | go_step | go_upon | go_back | dsimp only)
  go_ret2
  exact div_post rfl rfl (Below.refl _ _)

set_option maxRecDepth 100000 in
set_option maxHeartbeats 1600000 in
theorem RUn_5 (n : Nat) (hn : Okn n) (hw : 16 < n) (a : Nat) (ha : a < 18446744073709551616) (w : World) :
    Calls Tryz.prog 175 #[.int .i64 n, .int .i64 5, .int .u64 a] w (DivPost w (unR n 5 (a % 2 ^ n), 0)) := by
  obtain ⟨h1, h2, h3, h4⟩ := pow_lt64 hn
  have hn8 := hn.le
  have HK := hid (Right_yes n hn w)
  have HX := hid (Cut_any n hn a ha w)
  obtain ⟨x, hx⟩ : ∃ x : Nat, x = a % 2 ^ n := ⟨_, rfl⟩
  have hxl : x < 2 ^ n := by rw [hx]; exact Nat.mod_lt _ (Nat.two_pow_pos n)
  have HL := hid (list_any n hn8.2 x (by omega) w)
  rw [← hx] at HX
  rw [← hx]
  have hn64 : n ≤ 64 := hn8.2
  have hn1 : 1 ≤ n := by omega
  clear hx ha
  have hs : unR n 5 x = toN n (sg 16 (x % 2 ^ 16)) := by rw [unR, if_neg (by decide), if_neg (by decide), if_neg (by decide), if_neg (by decide), if_pos rfl]
  rw [hs, ← ext_bits (d := 16) (.inr (.inl rfl)) hw]
  have hle : decide ((n : Int) ≤ 16) = false := decide_eq_false (by omega)
  have hwn : (16 : Nat) ≤ n := by omega
  clear h1 h2 h3 h4 hn hn8 hs hxl hw
  go_enter Tryz.func175, Tryz.ntmps175
  repeat' (first
    | (with_reducible refine wp_exit ?_; repeat (first | with_reducible refine ex_norm ?_ | with_reducible refine ex_then ?_ | with_reducible refine ex_here ?_ | with_reducible refine ex_pass rfl ?_))
    | (go_big_may; first
      | (go_at_call 167; refine HK.out.mono ?_; rintro e w' ⟨rfl, rfl⟩)
      | (go_at_call 70; ((with_reducible refine HX.out.mono ?_); rintro e w' ⟨rfl, rfl⟩))
      | (go_at_call 204; refine HL.out.mono ?_; rintro e w1 ⟨v1, rfl, hown1, hB1⟩; have K1 := hid hown1; have K2 := hid hB1; clear hown1 hB1; obtain ⟨g, cap, rfl⟩ := owned_at K1.out hn1; have hcap := own_cap2 K1.out))
    | go_values | go_skip | go_guarded | go_step | go_upon | go_back | dsimp only)
  go_loopw [15] (fun vi wr => ∃ i : Nat, 16 ≤ i ∧ i ≤ n ∧ vi = .int .i64 i ∧ ExInv w g cap n x 16 i wr) (fun vi _ => n - (intOf vi).toNat)
  case atStart => exact ⟨16, Nat.le_refl _, hwn, rfl, ex_start K1.out K2.out _⟩
  case round =>
    obtain ⟨i, hi1, hi2, rfl, hI⟩ := hrel
    by_cases hlt : i < n
    · obtain ⟨q1, q2, q3⟩ := ex_cells hI (by decide) hi1 hlt
      have hnx := ex_next hI hi1
      obtain ⟨t, ht⟩ : ∃ t : Nat, t = btN x (16 - 1) := ⟨_, rfl⟩
      rw [← ht] at q3 hnx
      simp only [Nat.reduceSub] at q3
      have HX2 := hid hnx
      clear hI hnx ht
      go_wp2
      go_roundw
      case rel => exact ⟨i + 1, by omega, by omega, by go_num, HX2.out⟩
      case measure => simp [intOf]; omega
    · rename_i wr _
      have hE := ex_end hI (by omega)
      have HOf := hid (of_any n hn1 hn64 _ (exF_le 16 x) _ w.heap.size _ hE.1)
      have HB := hid hE.2
      obtain ⟨s, hse⟩ : ∃ s : Nat, s = ofF n (exF 16 x) := ⟨_, rfl⟩
      rw [← hse] at HOf
      have HS := hid hse
      clear hE hI hse
      go_wp2_with (go_at_call 205; refine HOf.out.mono ?_; rintro e w' ⟨rfl, rfl⟩)
      go_ret2
      exact div_post (by rw [HS.out]) rfl HB.out

set_option maxRecDepth 100000 in
theorem RUn_5no (n : Nat) (hn : Okn n) (hw : n ≤ 16) (x : Int) (w : World) :
    Calls Tryz.prog 175 #[.int .i64 n, .int .i64 5, .int .u64 x] w (DivPost w (0, 1)) := by
  have HK := hid (Right_yes n hn w)
  have hle : decide ((n : Int) ≤ 16) = true := decide_eq_true (by omega)
  clear hn hw
  go_enter Tryz.func175, Tryz.ntmps175
  repeat' (first
    | (with_reducible refine wp_exit ?_; repeat (first | with_reducible refine ex_norm ?_ | with_reducible refine ex_then ?_ | with_reducible refine ex_here ?_ | with_reducible refine ex_pass rfl ?_))
    | (go_big_may; first
      | (go_at_call 167; refine HK.out.mono ?_; rintro e w' ⟨rfl, rfl⟩))
    | go_values | go_skip | go_guarded | go_step | go_upon | go_back | dsimp only)
  go_ret2
  exact div_post rfl rfl (Below.refl _ _)

set_option maxRecDepth 100000 in
set_option maxHeartbeats 1600000 in
theorem RUn_6 (n : Nat) (hn : Okn n) (hw : 32 < n) (a : Nat) (ha : a < 18446744073709551616) (w : World) :
    Calls Tryz.prog 175 #[.int .i64 n, .int .i64 6, .int .u64 a] w (DivPost w (unR n 6 (a % 2 ^ n), 0)) := by
  obtain ⟨h1, h2, h3, h4⟩ := pow_lt64 hn
  have hn8 := hn.le
  have HK := hid (Right_yes n hn w)
  have HX := hid (Cut_any n hn a ha w)
  obtain ⟨x, hx⟩ : ∃ x : Nat, x = a % 2 ^ n := ⟨_, rfl⟩
  have hxl : x < 2 ^ n := by rw [hx]; exact Nat.mod_lt _ (Nat.two_pow_pos n)
  have HL := hid (list_any n hn8.2 x (by omega) w)
  rw [← hx] at HX
  rw [← hx]
  have hn64 : n ≤ 64 := hn8.2
  have hn1 : 1 ≤ n := by omega
  clear hx ha
  have hs : unR n 6 x = toN n (sg 32 (x % 2 ^ 32)) := by rw [unR, if_neg (by decide), if_neg (by decide), if_neg (by decide), if_neg (by decide), if_neg (by decide), if_pos rfl]
  rw [hs, ← ext_bits (d := 32) (.inr (.inr (.inl rfl))) hw]
  have hle : decide ((n : Int) ≤ 32) = false := decide_eq_false (by omega)
  have hwn : (32 : Nat) ≤ n := by omega
  clear h1 h2 h3 h4 hn hn8 hs hxl hw
  go_enter Tryz.func175, Tryz.ntmps175
  repeat' (first
    | (with_reducible refine wp_exit ?_; repeat (first | with_reducible refine ex_norm ?_ | with_reducible refine ex_then ?_ | with_reducible refine ex_here ?_ | with_reducible refine ex_pass rfl ?_))
    | (go_big_may; first
      | (go_at_call 167; refine HK.out.mono ?_; rintro e w' ⟨rfl, rfl⟩)
      | (go_at_call 70; ((with_reducible refine HX.out.mono ?_); rintro e w' ⟨rfl, rfl⟩))
      | (go_at_call 204; refine HL.out.mono ?_; rintro e w1 ⟨v1, rfl, hown1, hB1⟩; have K1 := hid hown1; have K2 := hid hB1; clear hown1 hB1; obtain ⟨g, cap, rfl⟩ := owned_at K1.out hn1; have hcap := own_cap2 K1.out))
    | go_values | go_skip | go_guarded | go_step | go_upon | go_back | dsimp only)
  go_loopw [15] (fun vi wr => ∃ i : Nat, 32 ≤ i ∧ i ≤ n ∧ vi = .int .i64 i ∧ ExInv w g cap n x 32 i wr) (fun vi _ => n - (intOf vi).toNat)
  case atStart => exact ⟨32, Nat.le_refl _, hwn, rfl, ex_start K1.out K2.out _⟩
  case round =>
    obtain ⟨i, hi1, hi2, rfl, hI⟩ := hrel
    by_cases hlt : i < n
    · obtain ⟨q1, q2, q3⟩ := ex_cells hI (by decide) hi1 hlt
      have hnx := ex_next hI hi1
      obtain ⟨t, ht⟩ : ∃ t : Nat, t = btN x (32 - 1) := ⟨_, rfl⟩
      rw [← ht] at q3 hnx
      simp only [Nat.reduceSub] at q3
      have HX2 := hid hnx
      clear hI hnx ht
      go_wp2
      go_roundw
      case rel => exact ⟨i + 1, by omega, by omega, by go_num, HX2.out⟩
      case measure => simp [intOf]; omega
    · rename_i wr _
      have hE := ex_end hI (by omega)
      have HOf := hid (of_any n hn1 hn64 _ (exF_le 32 x) _ w.heap.size _ hE.1)
      have HB := hid hE.2
      obtain ⟨s, hse⟩ : ∃ s : Nat, s = ofF n (exF 32 x) := ⟨_, rfl⟩
      rw [← hse] at HOf
      have HS := hid hse
      clear hE hI hse
      go_wp2_with (go_at_call 205; refine HOf.out.mono ?_; rintro e w' ⟨rfl, rfl⟩)
      go_ret2
      exact div_post (by rw [HS.out]) rfl HB.out

set_option maxRecDepth 100000 in
theorem RUn_6no (n : Nat) (hn : Okn n) (hw : n ≤ 32) (x : Int) (w : World) :
    Calls Tryz.prog 175 #[.int .i64 n, .int .i64 6, .int .u64 x] w (DivPost w (0, 1)) := by
  have HK := hid (Right_yes n hn w)
  have hle : decide ((n : Int) ≤ 32) = true := decide_eq_true (by omega)
  clear hn hw
  go_enter Tryz.func175, Tryz.ntmps175
  repeat' (first
    | (with_reducible refine wp_exit ?_; repeat (first | with_reducible refine ex_norm ?_ | with_reducible refine ex_then ?_ | with_reducible refine ex_here ?_ | with_reducible refine ex_pass rfl ?_))
    | (go_big_may; first
      | (go_at_call 167; refine HK.out.mono ?_; rintro e w' ⟨rfl, rfl⟩))
    | go_values | go_skip | go_guarded | go_step | go_upon | go_back | dsimp only)
  go_ret2
  exact div_post rfl rfl (Below.refl _ _)

set_option maxRecDepth 100000 in
theorem RUn_noBits (b : Int) (hb : Bad b) (op x : Int) (w : World) :
    Calls Tryz.prog 175 #[.int .i64 b, .int .i64 op, .int .u64 x] w (DivPost w (0, 1)) := by
  have HK := hid (Right_no b hb w)
  clear hb
  go_enter Tryz.func175, Tryz.ntmps175
  repeat' (first
    | (with_reducible refine wp_exit ?_; repeat (first | with_reducible refine ex_norm ?_ | with_reducible refine ex_then ?_ | with_reducible refine ex_here ?_ | with_reducible refine ex_pass rfl ?_))
    | (go_big_may; first
      | (go_at_call 167; refine HK.out.mono ?_; rintro e w' ⟨rfl, rfl⟩))
    | go_values | go_skip | go_guarded | go_step | go_upon | go_back | dsimp only)
  go_ret2
  exact div_post rfl rfl (Below.refl _ _)

set_option maxRecDepth 100000 in
theorem RUn_low (n : Nat) (hn : Okn n) (op x : Int) (hop : op < 1) (w : World) :
    Calls Tryz.prog 175 #[.int .i64 n, .int .i64 op, .int .u64 x] w (DivPost w (0, 1)) := by
  have HK := hid (Right_yes n hn w)
  have h1 : decide (op < 1) = true := decide_eq_true hop
  clear hn hop
  go_enter Tryz.func175, Tryz.ntmps175
  repeat' (first
    | (with_reducible refine wp_exit ?_; repeat (first | with_reducible refine ex_norm ?_ | with_reducible refine ex_then ?_ | with_reducible refine ex_here ?_ | with_reducible refine ex_pass rfl ?_))
    | (go_big_may; first
      | (go_at_call 167; refine HK.out.mono ?_; rintro e w' ⟨rfl, rfl⟩))
    | go_values | go_skip | go_guarded | go_step | go_upon | go_back | dsimp only)
  go_ret2
  exact div_post rfl rfl (Below.refl _ _)

set_option maxRecDepth 100000 in
theorem RUn_high (n : Nat) (hn : Okn n) (op x : Int) (hop : 8 < op) (w : World) :
    Calls Tryz.prog 175 #[.int .i64 n, .int .i64 op, .int .u64 x] w (DivPost w (0, 1)) := by
  have HK := hid (Right_yes n hn w)
  have h1 : decide (op < 1) = false := decide_eq_false (by omega)
  have h2 : decide (8 < op) = true := decide_eq_true hop
  clear hn hop
  go_enter Tryz.func175, Tryz.ntmps175
  repeat' (first
    | (with_reducible refine wp_exit ?_; repeat (first | with_reducible refine ex_norm ?_ | with_reducible refine ex_then ?_ | with_reducible refine ex_here ?_ | with_reducible refine ex_pass rfl ?_))
    | (go_big_may; first
      | (go_at_call 167; refine HK.out.mono ?_; rintro e w' ⟨rfl, rfl⟩))
    | go_values | go_skip | go_guarded | go_step | go_upon | go_back | dsimp only)
  go_ret2
  exact div_post rfl rfl (Below.refl _ _)

/-- Un of the document: the number and error, whatever is asked. -/
theorem RUn_any (bits op : Int) (a : Nat) (ha : a < 18446744073709551616) (w : World) :
    Calls Tryz.prog 175 #[.int .i64 bits, .int .i64 op, .int .u64 a] w (DivPost w (unA bits op a)) := by
  by_cases hbits : Okn bits.toNat
  · obtain ⟨n, rfl⟩ : ∃ n : Nat, bits = (n : Int) := ⟨bits.toNat, by have := hbits.le; omega⟩
    rw [Int.toNat_natCast] at hbits
    by_cases hop : 1 ≤ op ∧ op ≤ 8
    · obtain ⟨k, rfl⟩ : ∃ k : Nat, op = (k : Int) := ⟨op.toNat, by omega⟩
      by_cases hok : (k = 4 → 8 < n) ∧ (k = 5 → 16 < n) ∧ (k = 6 → 32 < n)
      · obtain ⟨q4, q5, q6⟩ := hok
        rw [unA, if_pos ⟨by simpa using hbits, by omega, by omega, by omega, by omega, by omega⟩, Int.toNat_natCast, Int.toNat_natCast]
        have hk : k = 1 ∨ k = 2 ∨ k = 3 ∨ k = 4 ∨ k = 5 ∨ k = 6 ∨ k = 7 ∨ k = 8 := by omega
        rcases hk with rfl | rfl | rfl | rfl | rfl | rfl | rfl | rfl
        · exact RUn_1 n hbits a ha w
        · exact RUn_2 n hbits a ha w
        · exact RUn_3 n hbits a ha w
        · exact RUn_4 n hbits (q4 rfl) a ha w
        · exact RUn_5 n hbits (q5 rfl) a ha w
        · exact RUn_6 n hbits (q6 rfl) a ha w
        · exact RUn_7 n hbits a ha w
        · exact RUn_8 n hbits a ha w
      · rw [unA, if_neg (fun h => hok ⟨by omega, by omega, by omega⟩)]
        have hk : k = 4 ∧ n ≤ 8 ∨ k = 5 ∧ n ≤ 16 ∨ k = 6 ∧ n ≤ 32 := by omega
        rcases hk with ⟨rfl, hw⟩ | ⟨rfl, hw⟩ | ⟨rfl, hw⟩
        · exact RUn_4no n hbits hw a w
        · exact RUn_5no n hbits hw a w
        · exact RUn_6no n hbits hw a w
    · rw [unA, if_neg (fun h => hop ⟨h.2.1, h.2.2.1⟩)]
      by_cases h1 : op < 1
      · exact RUn_low n hbits op a h1 w
      · exact RUn_high n hbits op a (by omega) w
  · rw [unA, if_neg (fun h => hbits h.1)]
    exact RUn_noBits bits (by unfold Bad; unfold Okn at hbits; omega) op a w

end Go.Proofs.YtibfpjnfkknacaaGreatDoor
