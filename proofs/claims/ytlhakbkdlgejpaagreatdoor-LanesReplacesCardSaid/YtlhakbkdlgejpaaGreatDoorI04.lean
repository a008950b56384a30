/-
  Un1, Un, RefOf, MoveMath: merged (each text says what it holds where it lies in wip). No condition.
-/
import Derived.Test.YtlhakbkdlgejpaaGreatDoorB06
import Derived.Test.YtlhakbkdlgejpaaGreatDoorI03
import Derived.Test.YtlhakbkdlgejpaaGreatDoorI01
set_option linter.unusedSimpArgs false
set_option linter.unusedVariables false
set_option maxRecDepth 100000
namespace Go.Proofs.YtlhakbkdlgejpaaGreatDoor
open Go.RowKit

set_option maxHeartbeats 800000 in
theorem count_any (a : Nat) (ha : a < 18446744073709551616) (w : World) :
    Calls Tryz.prog 138 #[.int .u64 a] w fun e w' => e = .returned (.int .u64 (pop a : Nat)) ∧ w = w' := by
  have hp : pop a ≤ 64 := pop_le 64 a ha
  have HP := hid (show pop a ≤ 64 ∧ a < 18446744073709551616 from ⟨hp, ha⟩)
  clear hp ha
  go_enter Tryz.func138, Tryz.ntmps138
  go_wp2
  go_loop [0, 3] (fun va vn => ∃ x c : Nat, va = .int .u64 (x : Int) ∧ vn = .int .u64 (c : Int) ∧ Hid (pop x + c = pop a ∧ x < 18446744073709551616)) (fun va _ => pop (intOf va).toNat)
  case atStart => exact ⟨a, 0, rfl, rfl, hid ⟨by omega, HP.out.2⟩⟩
  case round =>
    obtain ⟨x, c, rfl, rfl, H⟩ := hrel
    by_cases hx : x = 0
    · subst hx
      have e : c = pop a := by have := H.out.1; rw [pop_zero] at this; omega
      subst e
      clear H
      go_wp2
      go_ret
      exact ⟨rfl, rfl⟩
    · have hne : ((x : Int) != 0) = true := by simp; omega
      have hne2 : ((x : Int) == 0) = false := by simp; omega
      have h1 := H.out.2
      have h2 := pop_less hx
      have h3 := H.out.1
      have h4 := HP.out.1
      have hw : IntKind.u64.wrap ((x : Int) - 1) = ((x - 1 : Nat) : Int) := by rw [IntKind.wrap_u64]; omega
      have hand := bits_and_u64_nat x (x - 1) h1 (by omega)
      have hc : IntKind.u64.wrap ((c : Int) + 1) = ((c + 1 : Nat) : Int) := by rw [IntKind.wrap_u64]; omega
      have hlt : x &&& (x - 1) < 18446744073709551616 := Nat.and_lt_two_pow (n := 64) _ (by omega)
      obtain ⟨y, hy⟩ : ∃ y : Nat, y = x - 1 := ⟨_, rfl⟩
      obtain ⟨z, hz⟩ : ∃ z : Nat, z = x &&& (x - 1) := ⟨_, rfl⟩
      obtain ⟨d, hd⟩ : ∃ d : Nat, d = c + 1 := ⟨_, rfl⟩
      rw [← hz] at h2 hand hlt
      rw [← hy] at hw hand
      rw [← hd] at hc
      have H2 := hid (show pop z + 1 = pop x ∧ pop z + d = pop a ∧ z < 18446744073709551616 from ⟨h2, by omega, hlt⟩)
      clear h1 h2 h3 h4 hlt hy hz hd H hx
      go_wp2
      go_round
      case rel => exact ⟨z, d, rfl, rfl, hid ⟨H2.out.2.1, H2.out.2.2⟩⟩
      case measure =>
        have := H2.out.1
        simp [intOf]
        omega

set_option maxHeartbeats 800000 in
theorem reversed_any (n : Nat) (hn : Okn n) (a : Nat) (ha : a < 18446744073709551616) (w : World) :
    Calls Tryz.prog 137 #[.int .i64 n, .int .u64 a] w fun e w' => e = .returned (.int .u64 (revR n a : Nat)) ∧ w = w' := by
  have hn8 := hn.le
  have HA := hid ha
  clear ha hn
  go_enter Tryz.func137, Tryz.ntmps137
  go_wp2
  go_loop [1, 5, 7] (fun va vo vk => ∃ k : Nat, k ≤ n ∧ vk = .int .i64 k ∧ va = .int .u64 ((a / 2 ^ k : Nat) : Int) ∧ vo = .int .u64 ((revR k a : Nat) : Int)) (fun _ _ vk => n - (intOf vk).toNat)
  case atStart => exact ⟨0, Nat.zero_le _, rfl, by simp, rfl⟩
  case round =>
    obtain ⟨k, hk, rfl, rfl, rfl⟩ := hrel
    by_cases hlt : k < n
    · have hr := revR_lt k a
      have hr64 : 2 * 2 ^ k ≤ 18446744073709551616 := by
        have : 2 ^ (k + 1) ≤ 2 ^ 64 := Nat.pow_le_pow_right (by decide) (by omega)
        rw [Nat.pow_succ] at this
        omega
      have hd : a / 2 ^ k ≤ a := Nat.div_le_self _ _
      have ha := HA.out
      have hx : a / 2 ^ (k + 1) = a / 2 ^ k / 2 := by rw [Nat.pow_succ, Nat.div_div_eq_div_mul]
      have hs : revR (k + 1) a = 2 * revR k a + a / 2 ^ k % 2 := rfl
      obtain ⟨x, hxe⟩ : ∃ x : Nat, x = a / 2 ^ k := ⟨_, rfl⟩
      obtain ⟨r, hre⟩ : ∃ r : Nat, r = revR k a := ⟨_, rfl⟩
      rw [← hxe] at hd hx hs ⊢
      rw [← hre] at hr hs ⊢
      have hw : IntKind.u64.wrap ((r : Int) * 2) = ((2 * r : Nat) : Int) := by rw [IntKind.wrap_u64]; omega
      have hand : bits .and .u64 (x : Int) 1 = ((x % 2 : Nat) : Int) := by
        have := bits_and_u64_nat x 1 (by omega) (by decide)
        rw [Nat.and_one_is_mod] at this
        exact this
      have hor : bits .or .u64 ((2 * r : Nat) : Int) ((x % 2 : Nat) : Int) = ((2 * r + x % 2 : Nat) : Int) := by
        rw [bits_or_u64_nat _ _ (by omega) (by omega)]
        have := Nat.two_pow_add_eq_or_of_lt (i := 1) (b := x % 2) (by omega) r
        simp at this
        rw [← this]
      obtain ⟨t, ht⟩ : ∃ t : Nat, t = 2 * r := ⟨_, rfl⟩
      obtain ⟨b, hb⟩ : ∃ b : Nat, b = x % 2 := ⟨_, rfl⟩
      obtain ⟨q, hq⟩ : ∃ q : Nat, q = 2 * r + x % 2 := ⟨_, rfl⟩
      rw [← hq, ← ht, ← hb] at hor
      rw [← ht] at hw
      rw [← hb] at hand
      rw [← hq] at hs
      have hdiv : (x : Int) / 2 = ((x / 2 : Nat) : Int) := by simp
      rw [← hx] at hdiv
      have HS := hid hs
      clear hr hr64 hd ha hx hs hxe hre ht hb hq
      go_wp2
      go_round
      case rel => exact ⟨k + 1, by omega, by go_num, rfl, by rw [HS.out]⟩
      case measure => simp [intOf]; omega
    · obtain rfl : k = n := by omega
      go_wp2
      go_ret
      exact ⟨rfl, rfl⟩

end Go.Proofs.YtlhakbkdlgejpaaGreatDoor
namespace Go.Proofs.YtlhakbkdlgejpaaGreatDoor
open Go.RowKit

/-- What one comes to, by any operation; the error. -/
def unA (bits op : Int) (a : Nat) : Nat × Nat :=
  if Okn bits.toNat ∧ 1 ≤ op ∧ op ≤ 8 ∧ (op = 4 → 8 < bits) ∧ (op = 5 → 16 < bits) ∧ (op = 6 → 32 < bits) then (unR bits.toNat op.toNat (a % 2 ^ bits.toNat), 0) else (0, 1)

theorem lt_pow {n c : Nat} (h : c ≤ n) : c < 2 ^ n := Nat.lt_of_le_of_lt h Nat.lt_two_pow_self

set_option maxHeartbeats 800000 in
theorem Un_1 (n : Nat) (hn : Okn n) (a : Nat) (ha : a < 18446744073709551616) (w : World) :
    Calls Tryz.prog 87 #[.int .i64 n, .int .i64 1, .int .u64 a] w fun e w' => e = .returned (.tuple #[.int .u64 ((unR n 1 (a % 2 ^ n) : Nat) : Int), .int .i64 0]) ∧ w = w' := by
  obtain ⟨h1, h2, h3, h4⟩ := pow_lt64 hn
  have HK := hid (known_yes n hn w)
  have HX := hid (cut_any n hn a ha w)
  obtain ⟨x, hx⟩ : ∃ x : Nat, x = a % 2 ^ n := ⟨_, rfl⟩
  have hxl : x < 2 ^ n := by rw [hx]; exact Nat.mod_lt _ (Nat.two_pow_pos n)
  rw [← hx] at HX
  rw [← hx]
  clear hx ha
  have hs : unR n 1 x = clzR n x := by rw [unR, if_pos rfl]
  rw [hs, ← ctz_rev]
  have HR := hid (reversed_any n hn x (by omega) w)
  have hrl := revR_lt n x
  obtain ⟨r, hr⟩ : ∃ r : Nat, r = revR n x := ⟨_, rfl⟩
  rw [← hr] at HR hrl ⊢
  have hmx := xor_max r (by omega)
  obtain ⟨m, hm⟩ : ∃ m : Nat, m = (r + 18446744073709551615) % 18446744073709551616 := ⟨_, rfl⟩
  have hw : IntKind.u64.wrap ((r : Int) - 1) = (m : Int) := by rw [IntKind.wrap_u64]; omega
  have hb := ctz_bits hn hrl
  rw [← hm] at hb
  obtain ⟨u, hu⟩ : ∃ u : Nat, u = 18446744073709551615 - r := ⟨_, rfl⟩
  rw [← hu] at hb hmx
  have hmx2 : bits .xor .u64 (if IntKind.u64.signed = true then -1 else IntKind.u64.max) (r : Int) = (u : Int) := hmx
  clear hmx
  have hand := bits_and_u64_nat u m (by omega) (by omega)
  have hzl : u &&& m < 18446744073709551616 := Nat.and_lt_two_pow (n := 64) _ (by omega)
  obtain ⟨z, hz⟩ : ∃ z : Nat, z = u &&& m := ⟨_, rfl⟩
  rw [← hz] at hand hzl hb
  have HZ := hid (cut_any n hn z hzl w)
  rw [hb] at HZ
  have hq := Nat.two_pow_pos (ctzR n r)
  have hcl := ctzR_le n r
  have hqle : 2 ^ ctzR n r ≤ 2 ^ n := Nat.pow_le_pow_right (by decide) hcl
  have hcn := lt_pow hcl
  have HP := hid (count_any (2 ^ ctzR n r - 1) (by omega) w)
  rw [pop_ones] at HP
  have HC := hid (cut_any n hn (ctzR n r) (by omega) w)
  rw [Nat.mod_eq_of_lt hcn] at HC
  obtain ⟨c, hc⟩ : ∃ c : Nat, c = ctzR n r := ⟨_, rfl⟩
  obtain ⟨o, ho⟩ : ∃ o : Nat, o = 2 ^ c - 1 := ⟨_, rfl⟩
  rw [← hc, ← ho] at HZ HP
  rw [← hc] at HC ⊢
  clear h1 h2 h3 h4 hn hxl hs hr hrl hm hb hu hzl hz hq hcl hqle hcn hc ho
  go_enter Tryz.func87, Tryz.ntmps87
  repeat' (first
    | (with_reducible refine wp_exit ?_; repeat (first | with_reducible refine ex_norm ?_ | with_reducible refine ex_then ?_ | with_reducible refine ex_here ?_ | with_reducible refine ex_pass rfl ?_))
    | (go_big_may; first
      | (go_at_call 135; refine HK.out.mono ?_; rintro e w' ⟨rfl, rfl⟩)
      | (go_at_call 136; ((with_reducible refine HX.out.mono ?_); rintro e w' ⟨rfl, rfl⟩))
      | (go_at_call 137; refine HR.out.mono ?_; rintro e w' ⟨rfl, rfl⟩)
      | (go_at_call 136; ((with_reducible refine HZ.out.mono ?_); rintro e w' ⟨rfl, rfl⟩))
      | (go_at_call 138; refine HP.out.mono ?_; rintro e w' ⟨rfl, rfl⟩)
      | (go_at_call 136; ((with_reducible refine HC.out.mono ?_); rintro e w' ⟨rfl, rfl⟩)))
    | go_values | go_skip | go_guarded | go_step | go_upon | go_back | dsimp only)
  go_ret2
  exact ⟨rfl, rfl⟩

set_option maxHeartbeats 800000 in
theorem Un_2 (n : Nat) (hn : Okn n) (a : Nat) (ha : a < 18446744073709551616) (w : World) :
    Calls Tryz.prog 87 #[.int .i64 n, .int .i64 2, .int .u64 a] w fun e w' => e = .returned (.tuple #[.int .u64 ((unR n 2 (a % 2 ^ n) : Nat) : Int), .int .i64 0]) ∧ w = w' := by
  obtain ⟨h1, h2, h3, h4⟩ := pow_lt64 hn
  have HK := hid (known_yes n hn w)
  have HX := hid (cut_any n hn a ha w)
  obtain ⟨x, hx⟩ : ∃ x : Nat, x = a % 2 ^ n := ⟨_, rfl⟩
  have hxl : x < 2 ^ n := by rw [hx]; exact Nat.mod_lt _ (Nat.two_pow_pos n)
  rw [← hx] at HX
  rw [← hx]
  clear hx ha
  have hs : unR n 2 x = ctzR n x := by rw [unR, if_neg (by decide), if_pos rfl]
  rw [hs]
  have hmx := xor_max x (by omega)
  obtain ⟨m, hm⟩ : ∃ m : Nat, m = (x + 18446744073709551615) % 18446744073709551616 := ⟨_, rfl⟩
  have hw : IntKind.u64.wrap ((x : Int) - 1) = (m : Int) := by rw [IntKind.wrap_u64]; omega
  have hb := ctz_bits hn hxl
  rw [← hm] at hb
  obtain ⟨u, hu⟩ : ∃ u : Nat, u = 18446744073709551615 - x := ⟨_, rfl⟩
  rw [← hu] at hb hmx
  have hmx2 : bits .xor .u64 (if IntKind.u64.signed = true then -1 else IntKind.u64.max) (x : Int) = (u : Int) := hmx
  clear hmx
  have hand := bits_and_u64_nat u m (by omega) (by omega)
  have hzl : u &&& m < 18446744073709551616 := Nat.and_lt_two_pow (n := 64) _ (by omega)
  obtain ⟨z, hz⟩ : ∃ z : Nat, z = u &&& m := ⟨_, rfl⟩
  rw [← hz] at hand hzl hb
  have HZ := hid (cut_any n hn z hzl w)
  rw [hb] at HZ
  have hq := Nat.two_pow_pos (ctzR n x)
  have hcl := ctzR_le n x
  have hqle : 2 ^ ctzR n x ≤ 2 ^ n := Nat.pow_le_pow_right (by decide) hcl
  have hcn := lt_pow hcl
  have HP := hid (count_any (2 ^ ctzR n x - 1) (by omega) w)
  rw [pop_ones] at HP
  have HC := hid (cut_any n hn (ctzR n x) (by omega) w)
  rw [Nat.mod_eq_of_lt hcn] at HC
  obtain ⟨c, hc⟩ : ∃ c : Nat, c = ctzR n x := ⟨_, rfl⟩
  obtain ⟨o, ho⟩ : ∃ o : Nat, o = 2 ^ c - 1 := ⟨_, rfl⟩
  rw [← hc, ← ho] at HZ HP
  rw [← hc] at HC ⊢
  clear h1 h2 h3 h4 hn hxl hs hm hb hu hzl hz hq hcl hqle hcn hc ho
  go_enter Tryz.func87, Tryz.ntmps87
  repeat' (first
    | (with_reducible refine wp_exit ?_; repeat (first | with_reducible refine ex_norm ?_ | with_reducible refine ex_then ?_ | with_reducible refine ex_here ?_ | with_reducible refine ex_pass rfl ?_))
    | (go_big_may; first
      | (go_at_call 135; refine HK.out.mono ?_; rintro e w' ⟨rfl, rfl⟩)
      | (go_at_call 136; ((with_reducible refine HX.out.mono ?_); rintro e w' ⟨rfl, rfl⟩))
      | (go_at_call 136; ((with_reducible refine HZ.out.mono ?_); rintro e w' ⟨rfl, rfl⟩))
      | (go_at_call 138; refine HP.out.mono ?_; rintro e w' ⟨rfl, rfl⟩)
      | (go_at_call 136; ((with_reducible refine HC.out.mono ?_); rintro e w' ⟨rfl, rfl⟩)))
    | go_values | go_skip | go_guarded | go_step | go_upon | go_back | dsimp only)
  go_ret2
  exact ⟨rfl, rfl⟩

set_option maxHeartbeats 800000 in
theorem Un_3 (n : Nat) (hn : Okn n) (a : Nat) (ha : a < 18446744073709551616) (w : World) :
    Calls Tryz.prog 87 #[.int .i64 n, .int .i64 3, .int .u64 a] w fun e w' => e = .returned (.tuple #[.int .u64 ((unR n 3 (a % 2 ^ n) : Nat) : Int), .int .i64 0]) ∧ w = w' := by
  obtain ⟨h1, h2, h3, h4⟩ := pow_lt64 hn
  have HK := hid (known_yes n hn w)
  have HX := hid (cut_any n hn a ha w)
  obtain ⟨x, hx⟩ : ∃ x : Nat, x = a % 2 ^ n := ⟨_, rfl⟩
  have hxl : x < 2 ^ n := by rw [hx]; exact Nat.mod_lt _ (Nat.two_pow_pos n)
  rw [← hx] at HX
  rw [← hx]
  clear hx ha
  have hs : unR n 3 x = pop x := by rw [unR, if_neg (by decide), if_neg (by decide), if_pos rfl]
  rw [hs]
  have HP := hid (count_any x (by omega) w)
  have hcn := lt_pow (pop_le n x hxl)
  have HC := hid (cut_any n hn (pop x) (by omega) w)
  rw [Nat.mod_eq_of_lt hcn] at HC
  obtain ⟨c, hc⟩ : ∃ c : Nat, c = pop x := ⟨_, rfl⟩
  rw [← hc] at HP HC ⊢
  clear h1 h2 h3 h4 hn hxl hs hcn hc
  go_enter Tryz.func87, Tryz.ntmps87
  repeat' (first
    | (with_reducible refine wp_exit ?_; repeat (first | with_reducible refine ex_norm ?_ | with_reducible refine ex_then ?_ | with_reducible refine ex_here ?_ | with_reducible refine ex_pass rfl ?_))
    | (go_big_may; first
      | (go_at_call 135; refine HK.out.mono ?_; rintro e w' ⟨rfl, rfl⟩)
      | (go_at_call 136; ((with_reducible refine HX.out.mono ?_); rintro e w' ⟨rfl, rfl⟩))
      | (go_at_call 138; refine HP.out.mono ?_; rintro e w' ⟨rfl, rfl⟩)
      | (go_at_call 136; ((with_reducible refine HC.out.mono ?_); rintro e w' ⟨rfl, rfl⟩)))
    | go_values | go_skip | go_guarded | go_step | go_upon | go_back | dsimp only)
  go_ret2
  exact ⟨rfl, rfl⟩

set_option maxHeartbeats 800000 in
theorem Un_4 (n : Nat) (hn : Okn n) (hw : 8 < n) (a : Nat) (ha : a < 18446744073709551616) (w : World) :
    Calls Tryz.prog 87 #[.int .i64 n, .int .i64 4, .int .u64 a] w fun e w' => e = .returned (.tuple #[.int .u64 ((unR n 4 (a % 2 ^ n) : Nat) : Int), .int .i64 0]) ∧ w = w' := by
  obtain ⟨h1, h2, h3, h4⟩ := pow_lt64 hn
  have HK := hid (known_yes n hn w)
  have HX := hid (cut_any n hn a ha w)
  obtain ⟨x, hx⟩ : ∃ x : Nat, x = a % 2 ^ n := ⟨_, rfl⟩
  have hxl : x < 2 ^ n := by rw [hx]; exact Nat.mod_lt _ (Nat.two_pow_pos n)
  rw [← hx] at HX
  rw [← hx]
  clear hx ha
  have hs : unR n 4 x = toN n (sg 8 (x % 2 ^ 8)) := by rw [unR, if_neg (by decide), if_neg (by decide), if_neg (by decide), if_pos rfl]
  rw [hs]
  have hle : decide ((n : Int) ≤ 8) = false := by simp; omega
  have hle2 : ¬ ((n : Int) ≤ 8) := by omega
  have HG : Hid (Calls Tryz.prog 121 #[.int .i64 8, .int .u64 x] w _) := hid (Signed_ok 8 (.inl rfl) x (by omega) w)
  obtain ⟨z, hz⟩ : ∃ z, z = sg 8 (x % 2 ^ 8) := ⟨_, rfl⟩
  rw [← hz] at HG ⊢
  have hv := wrap_toN hn z
  obtain ⟨v, hve⟩ : ∃ v : Nat, v = (z % 18446744073709551616).toNat := ⟨_, rfl⟩
  have hvw : IntKind.u64.wrap z = (v : Int) := by rw [IntKind.wrap_u64]; omega
  have HC := hid (cut_any n hn v (by omega) w)
  rw [← hve] at hv
  rw [hv] at HC
  obtain ⟨s, hse⟩ : ∃ s : Nat, s = toN n z := ⟨_, rfl⟩
  rw [← hse] at HC ⊢
  clear h1 h2 h3 h4 hn hxl hs hw hz hv hve hse
  go_enter Tryz.func87, Tryz.ntmps87
  repeat' (first
    | (with_reducible refine wp_exit ?_; repeat (first | with_reducible refine ex_norm ?_ | with_reducible refine ex_then ?_ | with_reducible refine ex_here ?_ | with_reducible refine ex_pass rfl ?_))
    | (go_big_may; first
      | (go_at_call 135; refine HK.out.mono ?_; rintro e w' ⟨rfl, rfl⟩)
      | (go_at_call 136; ((with_reducible refine HX.out.mono ?_); rintro e w' ⟨rfl, rfl⟩))
      | (go_at_call 121; refine HG.out.mono ?_; rintro e w' ⟨rfl, rfl⟩)
      | (go_at_call 136; ((with_reducible refine HC.out.mono ?_); rintro e w' ⟨rfl, rfl⟩)))
    | go_values | go_skip | go_guarded | go_step | go_upon | go_back | dsimp only)
  go_ret2
  exact ⟨rfl, rfl⟩

theorem Un_4no (n : Nat) (hn : Okn n) (hw : n ≤ 8) (a : Nat) (ha : a < 18446744073709551616) (w : World) :
    Calls Tryz.prog 87 #[.int .i64 n, .int .i64 4, .int .u64 a] w fun e w' => e = .returned (.tuple #[.int .u64 0, .int .i64 1]) ∧ w = w' := by
  have HK := hid (known_yes n hn w)
  have HX := hid (cut_any n hn a ha w)
  have hle : decide ((n : Int) ≤ 8) = true := by simp; omega
  clear hn ha
  go_enter Tryz.func87, Tryz.ntmps87
  repeat' (first
    | (with_reducible refine wp_exit ?_; repeat (first | with_reducible refine ex_norm ?_ | with_reducible refine ex_then ?_ | with_reducible refine ex_here ?_ | with_reducible refine ex_pass rfl ?_))
    | (go_big_may; first
      | (go_at_call 135; refine HK.out.mono ?_; rintro e w' ⟨rfl, rfl⟩)
      | (go_at_call 136; ((with_reducible refine HX.out.mono ?_); rintro e w' ⟨rfl, rfl⟩)))
    | go_values | go_skip | go_guarded | go_step | go_upon | go_back | dsimp only)
  go_ret2
  exact ⟨rfl, rfl⟩

set_option maxHeartbeats 800000 in
theorem Un_5 (n : Nat) (hn : Okn n) (hw : 16 < n) (a : Nat) (ha : a < 18446744073709551616) (w : World) :
    Calls Tryz.prog 87 #[.int .i64 n, .int .i64 5, .int .u64 a] w fun e w' => e = .returned (.tuple #[.int .u64 ((unR n 5 (a % 2 ^ n) : Nat) : Int), .int .i64 0]) ∧ w = w' := by
  obtain ⟨h1, h2, h3, h4⟩ := pow_lt64 hn
  have HK := hid (known_yes n hn w)
  have HX := hid (cut_any n hn a ha w)
  obtain ⟨x, hx⟩ : ∃ x : Nat, x = a % 2 ^ n := ⟨_, rfl⟩
  have hxl : x < 2 ^ n := by rw [hx]; exact Nat.mod_lt _ (Nat.two_pow_pos n)
  rw [← hx] at HX
  rw [← hx]
  clear hx ha
  have hs : unR n 5 x = toN n (sg 16 (x % 2 ^ 16)) := by rw [unR, if_neg (by decide), if_neg (by decide), if_neg (by decide), if_neg (by decide), if_pos rfl]
  rw [hs]
  have hle : decide ((n : Int) ≤ 16) = false := by simp; omega
  have hle2 : ¬ ((n : Int) ≤ 16) := by omega
  have HG : Hid (Calls Tryz.prog 121 #[.int .i64 16, .int .u64 x] w _) := hid (Signed_ok 16 (.inr (.inl rfl)) x (by omega) w)
  obtain ⟨z, hz⟩ : ∃ z, z = sg 16 (x % 2 ^ 16) := ⟨_, rfl⟩
  rw [← hz] at HG ⊢
  have hv := wrap_toN hn z
  obtain ⟨v, hve⟩ : ∃ v : Nat, v = (z % 18446744073709551616).toNat := ⟨_, rfl⟩
  have hvw : IntKind.u64.wrap z = (v : Int) := by rw [IntKind.wrap_u64]; omega
  have HC := hid (cut_any n hn v (by omega) w)
  rw [← hve] at hv
  rw [hv] at HC
  obtain ⟨s, hse⟩ : ∃ s : Nat, s = toN n z := ⟨_, rfl⟩
  rw [← hse] at HC ⊢
  clear h1 h2 h3 h4 hn hxl hs hw hz hv hve hse
  go_enter Tryz.func87, Tryz.ntmps87
  repeat' (first
    | (with_reducible refine wp_exit ?_; repeat (first | with_reducible refine ex_norm ?_ | with_reducible refine ex_then ?_ | with_reducible refine ex_here ?_ | with_reducible refine ex_pass rfl ?_))
    | (go_big_may; first
      | (go_at_call 135; refine HK.out.mono ?_; rintro e w' ⟨rfl, rfl⟩)
      | (go_at_call 136; ((with_reducible refine HX.out.mono ?_); rintro e w' ⟨rfl, rfl⟩))
      | (go_at_call 121; refine HG.out.mono ?_; rintro e w' ⟨rfl, rfl⟩)
      | (go_at_call 136; ((with_reducible refine HC.out.mono ?_); rintro e w' ⟨rfl, rfl⟩)))
    | go_values | go_skip | go_guarded | go_step | go_upon | go_back | dsimp only)
  go_ret2
  exact ⟨rfl, rfl⟩

theorem Un_5no (n : Nat) (hn : Okn n) (hw : n ≤ 16) (a : Nat) (ha : a < 18446744073709551616) (w : World) :
    Calls Tryz.prog 87 #[.int .i64 n, .int .i64 5, .int .u64 a] w fun e w' => e = .returned (.tuple #[.int .u64 0, .int .i64 1]) ∧ w = w' := by
  have HK := hid (known_yes n hn w)
  have HX := hid (cut_any n hn a ha w)
  have hle : decide ((n : Int) ≤ 16) = true := by simp; omega
  clear hn ha
  go_enter Tryz.func87, Tryz.ntmps87
  repeat' (first
    | (with_reducible refine wp_exit ?_; repeat (first | with_reducible refine ex_norm ?_ | with_reducible refine ex_then ?_ | with_reducible refine ex_here ?_ | with_reducible refine ex_pass rfl ?_))
    | (go_big_may; first
      | (go_at_call 135; refine HK.out.mono ?_; rintro e w' ⟨rfl, rfl⟩)
      | (go_at_call 136; ((with_reducible refine HX.out.mono ?_); rintro e w' ⟨rfl, rfl⟩)))
    | go_values | go_skip | go_guarded | go_step | go_upon | go_back | dsimp only)
  go_ret2
  exact ⟨rfl, rfl⟩

set_option maxHeartbeats 800000 in
theorem Un_6 (n : Nat) (hn : Okn n) (hw : 32 < n) (a : Nat) (ha : a < 18446744073709551616) (w : World) :
    Calls Tryz.prog 87 #[.int .i64 n, .int .i64 6, .int .u64 a] w fun e w' => e = .returned (.tuple #[.int .u64 ((unR n 6 (a % 2 ^ n) : Nat) : Int), .int .i64 0]) ∧ w = w' := by
  obtain ⟨h1, h2, h3, h4⟩ := pow_lt64 hn
  have HK := hid (known_yes n hn w)
  have HX := hid (cut_any n hn a ha w)
  obtain ⟨x, hx⟩ : ∃ x : Nat, x = a % 2 ^ n := ⟨_, rfl⟩
  have hxl : x < 2 ^ n := by rw [hx]; exact Nat.mod_lt _ (Nat.two_pow_pos n)
  rw [← hx] at HX
  rw [← hx]
  clear hx ha
  have hs : unR n 6 x = toN n (sg 32 (x % 2 ^ 32)) := by rw [unR, if_neg (by decide), if_neg (by decide), if_neg (by decide), if_neg (by decide), if_neg (by decide), if_pos rfl]
  rw [hs]
  have hle : decide ((n : Int) ≤ 32) = false := by simp; omega
  have hle2 : ¬ ((n : Int) ≤ 32) := by omega
  have HG : Hid (Calls Tryz.prog 121 #[.int .i64 32, .int .u64 x] w _) := hid (Signed_ok 32 (.inr (.inr (.inl rfl))) x (by omega) w)
  obtain ⟨z, hz⟩ : ∃ z, z = sg 32 (x % 2 ^ 32) := ⟨_, rfl⟩
  rw [← hz] at HG ⊢
  have hv := wrap_toN hn z
  obtain ⟨v, hve⟩ : ∃ v : Nat, v = (z % 18446744073709551616).toNat := ⟨_, rfl⟩
  have hvw : IntKind.u64.wrap z = (v : Int) := by rw [IntKind.wrap_u64]; omega
  have HC := hid (cut_any n hn v (by omega) w)
  rw [← hve] at hv
  rw [hv] at HC
  obtain ⟨s, hse⟩ : ∃ s : Nat, s = toN n z := ⟨_, rfl⟩
  rw [← hse] at HC ⊢
  clear h1 h2 h3 h4 hn hxl hs hw hz hv hve hse
  go_enter Tryz.func87, Tryz.ntmps87
  repeat' (first
    | (with_reducible refine wp_exit ?_; repeat (first | with_reducible refine ex_norm ?_ | with_reducible refine ex_then ?_ | with_reducible refine ex_here ?_ | with_reducible refine ex_pass rfl ?_))
    | (go_big_may; first
      | (go_at_call 135; refine HK.out.mono ?_; rintro e w' ⟨rfl, rfl⟩)
      | (go_at_call 136; ((with_reducible refine HX.out.mono ?_); rintro e w' ⟨rfl, rfl⟩))
      | (go_at_call 121; refine HG.out.mono ?_; rintro e w' ⟨rfl, rfl⟩)
      | (go_at_call 136; ((with_reducible refine HC.out.mono ?_); rintro e w' ⟨rfl, rfl⟩)))
    | go_values | go_skip | go_guarded | go_step | go_upon | go_back | dsimp only)
  go_ret2
  exact ⟨rfl, rfl⟩

theorem Un_6no (n : Nat) (hn : Okn n) (hw : n ≤ 32) (a : Nat) (ha : a < 18446744073709551616) (w : World) :
    Calls Tryz.prog 87 #[.int .i64 n, .int .i64 6, .int .u64 a] w fun e w' => e = .returned (.tuple #[.int .u64 0, .int .i64 1]) ∧ w = w' := by
  have HK := hid (known_yes n hn w)
  have HX := hid (cut_any n hn a ha w)
  have hle : decide ((n : Int) ≤ 32) = true := by simp; omega
  clear hn ha
  go_enter Tryz.func87, Tryz.ntmps87
  repeat' (first
    | (with_reducible refine wp_exit ?_; repeat (first | with_reducible refine ex_norm ?_ | with_reducible refine ex_then ?_ | with_reducible refine ex_here ?_ | with_reducible refine ex_pass rfl ?_))
    | (go_big_may; first
      | (go_at_call 135; refine HK.out.mono ?_; rintro e w' ⟨rfl, rfl⟩)
      | (go_at_call 136; ((with_reducible refine HX.out.mono ?_); rintro e w' ⟨rfl, rfl⟩)))
    | go_values | go_skip | go_guarded | go_step | go_upon | go_back | dsimp only)
  go_ret2
  exact ⟨rfl, rfl⟩

set_option maxHeartbeats 800000 in
theorem Un_7 (n : Nat) (hn : Okn n) (a : Nat) (ha : a < 18446744073709551616) (w : World) :
    Calls Tryz.prog 87 #[.int .i64 n, .int .i64 7, .int .u64 a] w fun e w' => e = .returned (.tuple #[.int .u64 ((unR n 7 (a % 2 ^ n) : Nat) : Int), .int .i64 0]) ∧ w = w' := by
  obtain ⟨h1, h2, h3, h4⟩ := pow_lt64 hn
  have HK := hid (known_yes n hn w)
  have HX := hid (cut_any n hn a ha w)
  obtain ⟨x, hx⟩ : ∃ x : Nat, x = a % 2 ^ n := ⟨_, rfl⟩
  have hxl : x < 2 ^ n := by rw [hx]; exact Nat.mod_lt _ (Nat.two_pow_pos n)
  rw [← hx] at HX
  rw [← hx]
  clear hx ha
  have hs : unR n 7 x = (sg n x).natAbs := by rw [unR, if_neg (by decide), if_neg (by decide), if_neg (by decide), if_neg (by decide), if_neg (by decide), if_neg (by decide), if_pos rfl]
  rw [hs]
  have HP := hid (size_any n hn x hxl w)
  have hle := size_le hn hxl
  have HC := hid (cut_any n hn (sg n x).natAbs (by omega) w)
  rw [Nat.mod_eq_of_lt (show (sg n x).natAbs < 2 ^ n by omega)] at HC
  obtain ⟨c, hc⟩ : ∃ c : Nat, c = (sg n x).natAbs := ⟨_, rfl⟩
  rw [← hc] at HP HC ⊢
  clear h1 h2 h3 h4 hn hxl hs hle hc
  go_enter Tryz.func87, Tryz.ntmps87
  repeat' (first
    | (with_reducible refine wp_exit ?_; repeat (first | with_reducible refine ex_norm ?_ | with_reducible refine ex_then ?_ | with_reducible refine ex_here ?_ | with_reducible refine ex_pass rfl ?_))
    | (go_big_may; first
      | (go_at_call 135; refine HK.out.mono ?_; rintro e w' ⟨rfl, rfl⟩)
      | (go_at_call 136; ((with_reducible refine HX.out.mono ?_); rintro e w' ⟨rfl, rfl⟩))
      | (go_at_call 139; refine HP.out.mono ?_; rintro e w' ⟨rfl, rfl⟩)
      | (go_at_call 136; ((with_reducible refine HC.out.mono ?_); rintro e w' ⟨rfl, rfl⟩)))
    | go_values | go_skip | go_guarded | go_step | go_upon | go_back | dsimp only)
  go_ret2
  exact ⟨rfl, rfl⟩

set_option maxHeartbeats 800000 in
theorem Un_8 (n : Nat) (hn : Okn n) (a : Nat) (ha : a < 18446744073709551616) (w : World) :
    Calls Tryz.prog 87 #[.int .i64 n, .int .i64 8, .int .u64 a] w fun e w' => e = .returned (.tuple #[.int .u64 ((unR n 8 (a % 2 ^ n) : Nat) : Int), .int .i64 0]) ∧ w = w' := by
  obtain ⟨h1, h2, h3, h4⟩ := pow_lt64 hn
  have HK := hid (known_yes n hn w)
  have HX := hid (cut_any n hn a ha w)
  obtain ⟨x, hx⟩ : ∃ x : Nat, x = a % 2 ^ n := ⟨_, rfl⟩
  have hxl : x < 2 ^ n := by rw [hx]; exact Nat.mod_lt _ (Nat.two_pow_pos n)
  rw [← hx] at HX
  rw [← hx]
  clear hx ha
  have hs : unR n 8 x = (18446744073709551616 - x) % 18446744073709551616 % 2 ^ n := by
    rw [unR, if_neg (by decide), if_neg (by decide), if_neg (by decide), if_neg (by decide), if_neg (by decide), if_neg (by decide), if_neg (by decide)]
    clear HK HX
    rcases hn with rfl | rfl | rfl | rfl <;> simp at hxl ⊢ <;> omega
  rw [hs]
  obtain ⟨v, hv⟩ : ∃ v : Nat, v = (18446744073709551616 - x) % 18446744073709551616 := ⟨_, rfl⟩
  have hvw : IntKind.u64.wrap (-(x : Int)) = (v : Int) := by rw [IntKind.wrap_u64]; omega
  have HC := hid (cut_any n hn v (by omega) w)
  rw [← hv]
  obtain ⟨c, hc⟩ : ∃ c : Nat, c = v % 2 ^ n := ⟨_, rfl⟩
  rw [← hc] at HC ⊢
  clear h1 h2 h3 h4 hn hxl hs hv hc
  go_enter Tryz.func87, Tryz.ntmps87
  repeat' (first
    | (with_reducible refine wp_exit ?_; repeat (first | with_reducible refine ex_norm ?_ | with_reducible refine ex_then ?_ | with_reducible refine ex_here ?_ | with_reducible refine ex_pass rfl ?_))
    | (go_big_may; first
      | (go_at_call 135; refine HK.out.mono ?_; rintro e w' ⟨rfl, rfl⟩)
      | (go_at_call 136; ((with_reducible refine HX.out.mono ?_); rintro e w' ⟨rfl, rfl⟩))
      | (go_at_call 136; ((with_reducible refine HC.out.mono ?_); rintro e w' ⟨rfl, rfl⟩)))
    | go_values | go_skip | go_guarded | go_step | go_upon | go_back | dsimp only)
  go_ret2
  exact ⟨rfl, rfl⟩

theorem Un_noBits (b : Int) (hb : Bad b) (op x : Int) (w : World) :
    Calls Tryz.prog 87 #[.int .i64 b, .int .i64 op, .int .u64 x] w fun e w' => e = .returned (.tuple #[.int .u64 0, .int .i64 1]) ∧ w = w' := by
  have HK := hid (known_no b hb w)
  clear hb
  go_enter Tryz.func87, Tryz.ntmps87
  repeat' (first
    | (with_reducible refine wp_exit ?_; repeat (first | with_reducible refine ex_norm ?_ | with_reducible refine ex_then ?_ | with_reducible refine ex_here ?_ | with_reducible refine ex_pass rfl ?_))
    | (go_big_may; first
      | (go_at_call 135; refine HK.out.mono ?_; rintro e w' ⟨rfl, rfl⟩))
    | go_values | go_skip | go_guarded | go_step | go_upon | go_back | dsimp only)
  go_ret2
  exact ⟨rfl, rfl⟩

theorem Un_noOp (n : Nat) (hn : Okn n) (op : Int) (hop : op < 1 ∨ 8 < op) (a : Nat) (ha : a < 18446744073709551616) (w : World) :
    Calls Tryz.prog 87 #[.int .i64 n, .int .i64 op, .int .u64 a] w fun e w' => e = .returned (.tuple #[.int .u64 0, .int .i64 1]) ∧ w = w' := by
  have HK := hid (known_yes n hn w)
  have HX := hid (cut_any n hn a ha w)
  have e1 : (op == 1) = false := by simp; omega
  have e2 : (op == 2) = false := by simp; omega
  have e3 : (op == 3) = false := by simp; omega
  have e4 : (op == 4) = false := by simp; omega
  have e5 : (op == 5) = false := by simp; omega
  have e6 : (op == 6) = false := by simp; omega
  have e7 : (op == 7) = false := by simp; omega
  have e8 : (op == 8) = false := by simp; omega
  clear ha hn hop
  go_enter Tryz.func87, Tryz.ntmps87
  repeat' (first
    | (with_reducible refine wp_exit ?_; repeat (first | with_reducible refine ex_norm ?_ | with_reducible refine ex_then ?_ | with_reducible refine ex_here ?_ | with_reducible refine ex_pass rfl ?_))
    | (go_big_may; first
      | (go_at_call 135; refine HK.out.mono ?_; rintro e w' ⟨rfl, rfl⟩)
      | (go_at_call 136; ((with_reducible refine HX.out.mono ?_); rintro e w' ⟨rfl, rfl⟩)))
    | go_values | go_skip | go_guarded | go_step | go_upon | go_back | dsimp only)
  go_ret2
  exact ⟨rfl, rfl⟩

/-- Un: the document's number and error, whatever is asked. -/
theorem Un_any (bits op : Int) (a : Nat) (ha : a < 18446744073709551616) (w : World) :
    Calls Tryz.prog 87 #[.int .i64 bits, .int .i64 op, .int .u64 a] w fun e w' => e = .returned (.tuple #[.int .u64 ((unA bits op a).1 : Nat), .int .i64 ((unA bits op a).2 : Nat)]) ∧ w = w' := by
  by_cases hbits : Okn bits.toNat
  · obtain ⟨n, rfl⟩ : ∃ n : Nat, bits = (n : Int) := ⟨bits.toNat, by have := hbits.le; omega⟩
    rw [Int.toNat_natCast] at hbits
    by_cases hop : 1 ≤ op ∧ op ≤ 8
    · obtain ⟨k, rfl⟩ : ∃ k : Nat, op = (k : Int) := ⟨op.toNat, by omega⟩
      by_cases hok : (k = 4 → 8 < n) ∧ (k = 5 → 16 < n) ∧ (k = 6 → 32 < n)
      · obtain ⟨q4, q5, q6⟩ := hok
        rw [unA, if_pos ⟨by simpa using hbits, by omega, by omega, by omega, by omega, by omega⟩, Int.toNat_natCast, Int.toNat_natCast]
        have hk : k = 1 ∨ k = 2 ∨ k = 3 ∨ k = 4 ∨ k = 5 ∨ k = 6 ∨ k = 7 ∨ k = 8 := by omega
        rcases hk with rfl | rfl | rfl | rfl | rfl | rfl | rfl | rfl
        · exact Un_1 n hbits a ha w
        · exact Un_2 n hbits a ha w
        · exact Un_3 n hbits a ha w
        · exact Un_4 n hbits (q4 rfl) a ha w
        · exact Un_5 n hbits (q5 rfl) a ha w
        · exact Un_6 n hbits (q6 rfl) a ha w
        · exact Un_7 n hbits a ha w
        · exact Un_8 n hbits a ha w
      · rw [unA, if_neg (fun h => hok ⟨by omega, by omega, by omega⟩)]
        have hk : k = 4 ∧ n ≤ 8 ∨ k = 5 ∧ n ≤ 16 ∨ k = 6 ∧ n ≤ 32 := by omega
        rcases hk with ⟨rfl, hw⟩ | ⟨rfl, hw⟩ | ⟨rfl, hw⟩
        · exact Un_4no n hbits hw a ha w
        · exact Un_5no n hbits hw a ha w
        · exact Un_6no n hbits hw a ha w
    · rw [unA, if_neg (fun h => hop ⟨h.2.1, h.2.2.1⟩)]
      exact Un_noOp n hbits op (by omega) a ha w
  · rw [unA, if_neg (fun h => hbits h.1)]
    exact Un_noBits bits (by unfold Bad; unfold Okn at hbits; omega) op a w

end Go.Proofs.YtlhakbkdlgejpaaGreatDoor
namespace Go.Proofs.YtlhakbkdlgejpaaGreatDoor
open Go.RowKit

/-- The number of the bits f 0, .., f (n - 1). -/
def ofF : Nat → (Nat → Nat) → Nat
  | 0, _ => 0
  | n + 1, f => f 0 + 2 * ofF n (fun j => f (j + 1))

theorem ofF_lt : ∀ (n : Nat) (f : Nat → Nat), (∀ j, f j ≤ 1) → ofF n f < 2 ^ n
  | 0, f, _ => by simp [ofF]
  | n + 1, f, h => by
    have ih := ofF_lt n (fun j => f (j + 1)) (fun j => h (j + 1))
    have := h 0
    rw [ofF, Nat.pow_succ]
    omega

theorem ofF_congr : ∀ (n : Nat) (f g : Nat → Nat), (∀ j, j < n → f j = g j) → ofF n f = ofF n g
  | 0, _, _, _ => rfl
  | n + 1, f, g, h => by
    rw [ofF, ofF, h 0 (by omega), ofF_congr n _ _ (fun j hj => h (j + 1) (by omega))]

theorem ofF_bit : ∀ (n : Nat) (f : Nat → Nat), (∀ j, f j ≤ 1) → ∀ i, (ofF n f).testBit i = (decide (i < n) && decide (f i = 1))
  | 0, f, _, i => by simp [ofF]
  | n + 1, f, h, i => by
    have ih := ofF_bit n (fun j => f (j + 1)) (fun j => h (j + 1))
    have h0 := h 0
    cases i with
    | zero =>
      rw [ofF, Nat.testBit_zero]
      have : (f 0 + 2 * ofF n (fun j => f (j + 1))) % 2 = f 0 := by omega
      rw [this]
      simp
    | succ i =>
      rw [ofF, Nat.testBit_succ]
      have : (f 0 + 2 * ofF n (fun j => f (j + 1))) / 2 = ofF n (fun j => f (j + 1)) := by omega
      rw [this, ih i]
      simp

/-- A number is that of its bits. -/
theorem ofF_eq {n x : Nat} {f : Nat → Nat} (hf : ∀ j, f j ≤ 1) (hx : x < 2 ^ n) (h : ∀ i, i < n → x.testBit i = decide (f i = 1)) : ofF n f = x := by
  apply Nat.eq_of_testBit_eq
  intro i
  rw [ofF_bit n f hf]
  by_cases hi : i < n
  · simp [hi, h i hi]
  · have : x.testBit i = false := Nat.testBit_lt_two_pow (Nat.lt_of_lt_of_le hx (Nat.pow_le_pow_right (by decide) (by omega)))
    simp [hi, this]

theorem btN_bit (a j : Nat) : decide (btN a j = 1) = a.testBit j := by
  rw [Nat.testBit_eq_decide_div_mod_eq]; rfl
theorem btN_le (a j : Nat) : btN a j ≤ 1 := by unfold btN; omega

set_option maxHeartbeats 800000 in
theorem of_any (n : Nat) (hn1 : 1 ≤ n) (hn : n ≤ 64) (f : Nat → Nat) (hf : ∀ j, f j ≤ 1) (w : World) (base : Nat) (v : Value) (hown : w.ownsRow base 22 1 v n (fc n f)) :
    Calls Tryz.prog 229 #[v] w fun e w' => e = .returned (.int .u64 (ofF n f : Nat)) ∧ w = w' := by
  obtain ⟨g, cap, rfl⟩ := owned_at hown hn1
  obtain ⟨R, hR⟩ : ∃ R : Nat, R = ofF n f := ⟨_, rfl⟩
  rw [← hR]
  have HW := hid hown
  have HF := hid hf
  have HR := hid hR
  clear hown hf hR
  go_enter Tryz.func229, Tryz.ntmps229
  go_wp2
  go_loop [3, 4] (fun vn vi => ∃ m : Nat, m ≤ n ∧ vi = .int .i64 ((m : Int) - 1) ∧ vn = .int .u64 ((ofF (n - m) (fun j => f (m + j)) : Nat) : Int)) (fun _ vi => (intOf vi + 1).toNat)
  case atStart => exact ⟨n, Nat.le_refl _, rfl, by rw [Nat.sub_self]; rfl⟩
  case round =>
    obtain ⟨m, hm, rfl, rfl⟩ := hrel
    by_cases h0 : m = 0
    · subst h0
      have e : ofF (n - 0) (fun j => f (0 + j)) = R := by
        rw [HR.out, Nat.sub_zero]
        exact ofF_congr n _ _ (fun j _ => by rw [Nat.zero_add])
      rw [e]
      go_wp2
      go_ret
      exact ⟨rfl, rfl⟩
    · obtain ⟨k, rfl⟩ : ∃ k, m = k + 1 := ⟨m - 1, by omega⟩
      have ek : ((k + 1 : Nat) : Int) - 1 = (k : Int) := by omega
      have hc : w.cell? ⟨g, k, none⟩ = some (.int .u64 (f k : Nat)) := by
        rw [HW.out.cellAt k (by omega), fc_get (by omega)]
      have hl := ofF_lt (n - (k + 1)) (fun j => f (k + 1 + j)) (fun j => HF.out _)
      have hp : 2 ^ (n - (k + 1)) ≤ 2 ^ 63 := Nat.pow_le_pow_right (by decide) (by omega)
      have hfk := HF.out k
      have hs : ofF (n - k) (fun j => f (k + j)) = f k + 2 * ofF (n - (k + 1)) (fun j => f (k + 1 + j)) := by
        rw [show n - k = n - (k + 1) + 1 by omega, ofF, Nat.add_zero]
        congr 2
        apply ofF_congr
        intro j _
        show f (k + (j + 1)) = f (k + 1 + j)
        congr 1
        omega
      rw [ek]
      obtain ⟨A, hA⟩ : ∃ A : Nat, A = ofF (n - (k + 1)) (fun j => f (k + 1 + j)) := ⟨_, rfl⟩
      obtain ⟨c, hce⟩ : ∃ c : Nat, c = f k := ⟨_, rfl⟩
      rw [← hA] at hl hs ⊢
      rw [← hce] at hc hfk hs
      have hw1 : IntKind.u64.wrap ((A : Int) * 2) = ((2 * A : Nat) : Int) := by rw [IntKind.wrap_u64]; omega
      obtain ⟨B, hB⟩ : ∃ B : Nat, B = 2 * A := ⟨_, rfl⟩
      have hw2 : IntKind.u64.wrap ((B : Int) + (c : Int)) = ((c + 2 * A : Nat) : Int) := by rw [IntKind.wrap_u64]; omega
      rw [← hB] at hw1
      rw [← hs] at hw2
      obtain ⟨D, hD⟩ : ∃ D : Nat, D = ofF (n - k) (fun j => f (k + j)) := ⟨_, rfl⟩
      rw [← hD] at hw2
      have HD := hid hD
      clear hl hp hfk hs hA hce hB hD h0 ek
      go_wp2
      go_round
      case rel => exact ⟨k, by omega, rfl, by rw [← HD.out]⟩
      case measure => simp [intOf]
    
end Go.Proofs.YtlhakbkdlgejpaaGreatDoor
namespace Go.Proofs.YtlhakbkdlgejpaaGreatDoor
open Go

/-- Which bit stands at the j-th place. -/
def mvF (n op a k j : Nat) : Nat :=
  if op = 11 then (if k ≤ j then btN a (j - k) else 0)
  else if op = 12 then btN a (if n ≤ j + k then n - 1 else j + k)
  else if op = 13 then (if j + k < n then btN a (j + k) else 0)
  else if op = 14 then btN a ((j + n - k) % n)
  else btN a ((j + k + n) % n)

theorem mvF_le (n op a k j : Nat) : mvF n op a k j ≤ 1 := by
  unfold mvF
  repeat' split
  all_goals first | exact btN_le _ _ | omega

theorem high_bit {n a i : Nat} (ha : a < 2 ^ n) (hi : n ≤ i) : a.testBit i = false :=
  Nat.testBit_lt_two_pow (Nat.lt_of_lt_of_le ha (Nat.pow_le_pow_right (by decide) hi))

theorem sar_neg {n a k : Nat} (ha : a < 2 ^ n) : toN n (((a : Int) - (2 ^ n : Nat)) / (2 ^ k : Nat)) = 2 ^ n - ((2 ^ n - (a + 1)) / 2 ^ k + 1) := by
  have hp := Nat.two_pow_pos k
  obtain ⟨c, hc⟩ : ∃ c : Nat, c = 2 ^ n - (a + 1) := ⟨_, rfl⟩
  have e1 : (a : Int) - (2 ^ n : Nat) = -((c : Int) + 1) := by omega
  have hle : c / 2 ^ k ≤ c := Nat.div_le_self _ _
  have hd := Nat.div_add_mod c (2 ^ k)
  have hm := Nat.mod_lt c hp
  have e2 : -((c : Int) + 1) / ((2 ^ k : Nat) : Int) = -(((c / 2 ^ k : Nat) : Int) + 1) := by
    obtain ⟨Q, hQ⟩ : ∃ Q : Nat, Q = c / 2 ^ k := ⟨_, rfl⟩
    obtain ⟨R, hR⟩ : ∃ R : Nat, R = c % 2 ^ k := ⟨_, rfl⟩
    rw [← hQ, ← hR] at hd
    rw [← hR] at hm
    rw [← hQ]
    generalize 2 ^ k = M at *
    have e3 : -((c : Int) + 1) = ((M : Int) - 1 - R) + M * -((Q : Int) + 1) := by
      have : (c : Int) = M * Q + R := by exact_mod_cast hd.symm
      rw [this, Int.mul_neg, Int.mul_add, Int.mul_one]
      omega
    rw [e3, Int.add_mul_ediv_left _ _ (by omega), Int.ediv_eq_zero_of_lt (by omega) (by omega)]
    omega
  rw [e1, e2, ← hc]
  unfold toN
  clear e2 hd hm
  have h2n : c < 2 ^ n := by omega
  generalize c / 2 ^ k = Q at *
  have h3 : -((Q : Int) + 1) = (((2 ^ n - (Q + 1) : Nat) : Int)) + ((2 ^ n : Nat) : Int) * -1 := by omega
  rw [h3, Int.add_mul_emod_self_left, ← Int.natCast_emod, Int.toNat_natCast, Nat.mod_eq_of_lt (by omega)]

theorem move_bits {n op a k : Nat} (hn : Okn n) (h1 : 11 ≤ op) (h2 : op ≤ 15) (ha : a < 2 ^ n) (hk : k < n) : ofF n (mvF n op a k) = shiftR n op a k := by
  have hn8 := hn.le
  have hop : op = 11 ∨ op = 12 ∨ op = 13 ∨ op = 14 ∨ op = 15 := by omega
  rcases hop with rfl | rfl | rfl | rfl | rfl
  · rw [shiftR, if_pos rfl]
    refine ofF_eq (fun j => mvF_le n 11 a k j) (Nat.mod_lt _ (Nat.two_pow_pos n)) (fun i hi => ?_)
    rw [Nat.testBit_mod_two_pow, Nat.testBit_mul_two_pow, mvF, if_pos rfl]
    by_cases h : k ≤ i
    · simp [h, hi, btN_bit]
    · simp [h]
  · rw [shiftR, if_neg (by decide), if_pos rfl]
    have htop := testBit_top hn ha
    by_cases hc : 2 ^ (n - 1) ≤ a
    · have e : sg n a = (a : Int) - (2 ^ n : Nat) := by unfold sg; rw [if_pos hc]
      rw [e, sar_neg ha]
      refine ofF_eq (fun j => mvF_le n 12 a k j) (Nat.sub_lt (Nat.two_pow_pos n) (Nat.succ_pos _)) (fun i hi => ?_)
      have hcl : (2 ^ n - (a + 1)) / 2 ^ k < 2 ^ n := Nat.lt_of_le_of_lt (Nat.div_le_self _ _) (by omega)
      rw [Nat.testBit_two_pow_sub_succ hcl, Nat.testBit_div_two_pow, Nat.testBit_two_pow_sub_succ ha, mvF, if_neg (by decide), if_pos rfl, btN_bit]
      by_cases h : n ≤ i + k
      · have : ¬ i + k < n := by omega
        rw [if_pos h, htop]
        simp [hi, this, hc]
      · have : i + k < n := by omega
        rw [if_neg h]
        simp [hi, this]
    · have e : sg n a = (a : Int) := by unfold sg; rw [if_neg hc]
      have hd : a / 2 ^ k ≤ a := Nat.div_le_self _ _
      rw [e, ← Int.natCast_ediv, toN_nat, Nat.mod_eq_of_lt (by omega)]
      refine ofF_eq (fun j => mvF_le n 12 a k j) (by omega) (fun i hi => ?_)
      rw [Nat.testBit_div_two_pow, mvF, if_neg (by decide), if_pos rfl, btN_bit]
      by_cases h : n ≤ i + k
      · rw [if_pos h, htop, high_bit ha h]
        simp [hc]
      · rw [if_neg h]
  · rw [shiftR, if_neg (by decide), if_neg (by decide), if_pos rfl]
    have hd : a / 2 ^ k ≤ a := Nat.div_le_self _ _
    refine ofF_eq (fun j => mvF_le n 13 a k j) (by omega) (fun i hi => ?_)
    rw [Nat.testBit_div_two_pow, mvF, if_neg (by decide), if_neg (by decide), if_pos rfl]
    by_cases h : i + k < n
    · rw [if_pos h, btN_bit]
    · rw [if_neg h, high_bit ha (by omega)]
      rfl
  · rw [shiftR, if_neg (by decide), if_neg (by decide), if_neg (by decide), if_pos rfl]
    refine ofF_eq (fun j => mvF_le n 14 a k j) (Nat.mod_lt _ (Nat.two_pow_pos n)) (fun i hi => ?_)
    rw [Nat.testBit_mod_two_pow, Nat.testBit_or, Nat.testBit_mul_two_pow, Nat.testBit_div_two_pow, mvF, if_neg (by decide), if_neg (by decide), if_neg (by decide), if_pos rfl, btN_bit]
    by_cases h : k ≤ i
    · have e : (i + n - k) % n = i - k := by rw [show i + n - k = (i - k) + n by omega, Nat.add_mod_right, Nat.mod_eq_of_lt (by omega)]
      rw [e, high_bit ha (show n ≤ i + (n - k) by omega)]
      simp [h, hi]
    · have e : (i + n - k) % n = i + (n - k) := by rw [show i + n - k = i + (n - k) by omega, Nat.mod_eq_of_lt (by omega)]
      rw [e]
      simp [h, hi]
  · rw [shiftR, if_neg (by decide), if_neg (by decide), if_neg (by decide), if_neg (by decide)]
    refine ofF_eq (fun j => mvF_le n 15 a k j) (Nat.mod_lt _ (Nat.two_pow_pos n)) (fun i hi => ?_)
    rw [Nat.testBit_mod_two_pow, Nat.testBit_or, Nat.testBit_mul_two_pow, Nat.testBit_div_two_pow, mvF, if_neg (by decide), if_neg (by decide), if_neg (by decide), if_neg (by decide), btN_bit]
    by_cases h : i + k < n
    · have e : (i + k + n) % n = i + k := by rw [Nat.add_mod_right, Nat.mod_eq_of_lt h]
      have h' : ¬ n - k ≤ i := by omega
      rw [e]
      simp [h', hi]
    · have e : (i + k + n) % n = i - (n - k) := by
        rw [Nat.add_mod_right, show i + k = (i - (n - k)) + n by omega, Nat.add_mod_right, Nat.mod_eq_of_lt (by omega)]
      have h' : n - k ≤ i := by omega
      rw [e, high_bit ha (show n ≤ i + k by omega)]
      simp [h', hi]

end Go.Proofs.YtlhakbkdlgejpaaGreatDoor
