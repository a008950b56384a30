/-
  Un: merged (each text says what it holds where it lies in wip). No condition.
-/
import Derived.Test.YtibfpjnfkknacaaGreatDoorM26
import Derived.Test.YtibfpjnfkknacaaGreatDoorM02
set_option linter.unusedSimpArgs false
set_option linter.unusedVariables false
namespace Go.Proofs.YtibfpjnfkknacaaGreatDoor
open Go.RowKit

/-- What one comes to, by any operation; the error. -/
def unA (bits op : Int) (a : Nat) : Nat × Nat :=
  if Okn bits.toNat ∧ 1 ≤ op ∧ op ≤ 8 ∧ (op = 4 → 8 < bits) ∧ (op = 5 → 16 < bits) ∧ (op = 6 → 32 < bits) then (unR bits.toNat op.toNat (a % 2 ^ bits.toNat), 0) else (0, 1)

theorem lt_pow {n c : Nat} (h : c ≤ n) : c < 2 ^ n := Nat.lt_of_le_of_lt h Nat.lt_two_pow_self

set_option maxHeartbeats 800000 in
theorem Un_1 (n : Nat) (hn : Okn n) (a : Nat) (ha : a < 18446744073709551616) (w : World) :
    Calls Tryz.prog 87 #[.int .i64 n, .int .i64 1, .int .u64 a] w fun e w' => e = .returned (.tuple #[.int .u64 ((unR n 1 (a % 2 ^ n) : Nat) : Int), .int .i64 0]) ∧ w = w' := by
  obtain ⟨h1, h2, h3, h4⟩ := pow_lt64 hn
  have HK := hid (known_yes n hn w)
  have HX := hid (cut_any n hn a ha w)
  obtain ⟨x, hx⟩ : ∃ x : Nat, x = a % 2 ^ n := ⟨_, rfl⟩
  have hxl : x < 2 ^ n := by rw [hx]; exact Nat.mod_lt _ (Nat.two_pow_pos n)
  rw [← hx] at HX
  rw [← hx]
  clear hx ha
  have hs : unR n 1 x = clzR n x := by rw [unR, if_pos rfl]
  rw [hs, ← ctz_rev]
  have HR := hid (reversed_any n hn x (by omega) w)
  have hrl := revR_lt n x
  obtain ⟨r, hr⟩ : ∃ r : Nat, r = revR n x := ⟨_, rfl⟩
  rw [← hr] at HR hrl ⊢
  have hmx := xor_max r (by omega)
  obtain ⟨m, hm⟩ : ∃ m : Nat, m = (r + 18446744073709551615) % 18446744073709551616 := ⟨_, rfl⟩
  have hw : IntKind.u64.wrap ((r : Int) - 1) = (m : Int) := by rw [IntKind.wrap_u64]; omega
  have hb := ctz_bits hn hrl
  rw [← hm] at hb
  obtain ⟨u, hu⟩ : ∃ u : Nat, u = 18446744073709551615 - r := ⟨_, rfl⟩
  rw [← hu] at hb hmx
  have hmx2 : bits .xor .u64 (if IntKind.u64.signed = true then -1 else IntKind.u64.max) (r : Int) = (u : Int) := hmx
  clear hmx
  have hand := bits_and_u64_nat u m (by omega) (by omega)
  have hzl : u &&& m < 18446744073709551616 := Nat.and_lt_two_pow (n := 64) _ (by omega)
  obtain ⟨z, hz⟩ : ∃ z : Nat, z = u &&& m := ⟨_, rfl⟩
  rw [← hz] at hand hzl hb
  have HZ := hid (cut_any n hn z hzl w)
  rw [hb] at HZ
  have hq := Nat.two_pow_pos (ctzR n r)
  have hcl := ctzR_le n r
  have hqle : 2 ^ ctzR n r ≤ 2 ^ n := Nat.pow_le_pow_right (by decide) hcl
  have hcn := lt_pow hcl
  have HP := hid (count_any (2 ^ ctzR n r - 1) (by omega) w)
  rw [pop_ones] at HP
  have HC := hid (cut_any n hn (ctzR n r) (by omega) w)
  rw [Nat.mod_eq_of_lt hcn] at HC
  obtain ⟨c, hc⟩ : ∃ c : Nat, c = ctzR n r := ⟨_, rfl⟩
  obtain ⟨o, ho⟩ : ∃ o : Nat, o = 2 ^ c - 1 := ⟨_, rfl⟩
  rw [← hc, ← ho] at HZ HP
  rw [← hc] at HC ⊢
  clear h1 h2 h3 h4 hn hxl hs hr hrl hm hb hu hzl hz hq hcl hqle hcn hc ho
  go_enter Tryz.func87, Tryz.ntmps87
  repeat' (first
    | (with_reducible refine wp_exit ?_; repeat (first | with_reducible refine ex_norm ?_ | with_reducible refine ex_then ?_ | with_reducible refine ex_here ?_ | with_reducible refine ex_pass rfl ?_))
    | (go_big_may; first
      | (go_at_call 137; refine HK.out.mono ?_; rintro e w' ⟨rfl, rfl⟩)
      | (go_at_call 138; ((with_reducible refine HX.out.mono ?_); rintro e w' ⟨rfl, rfl⟩))
      | (go_at_call 139; refine HR.out.mono ?_; rintro e w' ⟨rfl, rfl⟩)
      | (go_at_call 138; ((with_reducible refine HZ.out.mono ?_); rintro e w' ⟨rfl, rfl⟩))
      | (go_at_call 140; refine HP.out.mono ?_; rintro e w' ⟨rfl, rfl⟩)
      | (go_at_call 138; ((with_reducible refine HC.out.mono ?_); rintro e w' ⟨rfl, rfl⟩)))
    | go_values | go_skip | go_guarded | go_step | go_upon | go_back | dsimp only)
  go_ret2
  exact ⟨rfl, rfl⟩

set_option maxHeartbeats 800000 in
theorem Un_2 (n : Nat) (hn : Okn n) (a : Nat) (ha : a < 18446744073709551616) (w : World) :
    Calls Tryz.prog 87 #[.int .i64 n, .int .i64 2, .int .u64 a] w fun e w' => e = .returned (.tuple #[.int .u64 ((unR n 2 (a % 2 ^ n) : Nat) : Int), .int .i64 0]) ∧ w = w' := by
  obtain ⟨h1, h2, h3, h4⟩ := pow_lt64 hn
  have HK := hid (known_yes n hn w)
  have HX := hid (cut_any n hn a ha w)
  obtain ⟨x, hx⟩ : ∃ x : Nat, x = a % 2 ^ n := ⟨_, rfl⟩
  have hxl : x < 2 ^ n := by rw [hx]; exact Nat.mod_lt _ (Nat.two_pow_pos n)
  rw [← hx] at HX
  rw [← hx]
  clear hx ha
  have hs : unR n 2 x = ctzR n x := by rw [unR, if_neg (by decide), if_pos rfl]
  rw [hs]
  have hmx := xor_max x (by omega)
  obtain ⟨m, hm⟩ : ∃ m : Nat, m = (x + 18446744073709551615) % 18446744073709551616 := ⟨_, rfl⟩
  have hw : IntKind.u64.wrap ((x : Int) - 1) = (m : Int) := by rw [IntKind.wrap_u64]; omega
  have hb := ctz_bits hn hxl
  rw [← hm] at hb
  obtain ⟨u, hu⟩ : ∃ u : Nat, u = 18446744073709551615 - x := ⟨_, rfl⟩
  rw [← hu] at hb hmx
  have hmx2 : bits .xor .u64 (if IntKind.u64.signed = true then -1 else IntKind.u64.max) (x : Int) = (u : Int) := hmx
  clear hmx
  have hand := bits_and_u64_nat u m (by omega) (by omega)
  have hzl : u &&& m < 18446744073709551616 := Nat.and_lt_two_pow (n := 64) _ (by omega)
  obtain ⟨z, hz⟩ : ∃ z : Nat, z = u &&& m := ⟨_, rfl⟩
  rw [← hz] at hand hzl hb
  have HZ := hid (cut_any n hn z hzl w)
  rw [hb] at HZ
  have hq := Nat.two_pow_pos (ctzR n x)
  have hcl := ctzR_le n x
  have hqle : 2 ^ ctzR n x ≤ 2 ^ n := Nat.pow_le_pow_right (by decide) hcl
  have hcn := lt_pow hcl
  have HP := hid (count_any (2 ^ ctzR n x - 1) (by omega) w)
  rw [pop_ones] at HP
  have HC := hid (cut_any n hn (ctzR n x) (by omega) w)
  rw [Nat.mod_eq_of_lt hcn] at HC
  obtain ⟨c, hc⟩ : ∃ c : Nat, c = ctzR n x := ⟨_, rfl⟩
  obtain ⟨o, ho⟩ : ∃ o : Nat, o = 2 ^ c - 1 := ⟨_, rfl⟩
  rw [← hc, ← ho] at HZ HP
  rw [← hc] at HC ⊢
  clear h1 h2 h3 h4 hn hxl hs hm hb hu hzl hz hq hcl hqle hcn hc ho
  go_enter Tryz.func87, Tryz.ntmps87
  repeat' (first
    | (with_reducible refine wp_exit ?_; repeat (first | with_reducible refine ex_norm ?_ | with_reducible refine ex_then ?_ | with_reducible refine ex_here ?_ | with_reducible refine ex_pass rfl ?_))
    | (go_big_may; first
      | (go_at_call 137; refine HK.out.mono ?_; rintro e w' ⟨rfl, rfl⟩)
      | (go_at_call 138; ((with_reducible refine HX.out.mono ?_); rintro e w' ⟨rfl, rfl⟩))
      | (go_at_call 138; ((with_reducible refine HZ.out.mono ?_); rintro e w' ⟨rfl, rfl⟩))
      | (go_at_call 140; refine HP.out.mono ?_; rintro e w' ⟨rfl, rfl⟩)
      | (go_at_call 138; ((with_reducible refine HC.out.mono ?_); rintro e w' ⟨rfl, rfl⟩)))
    | go_values | go_skip | go_guarded | go_step | go_upon | go_back | dsimp only)
  go_ret2
  exact ⟨rfl, rfl⟩

set_option maxHeartbeats 800000 in
theorem Un_3 (n : Nat) (hn : Okn n) (a : Nat) (ha : a < 18446744073709551616) (w : World) :
    Calls Tryz.prog 87 #[.int .i64 n, .int .i64 3, .int .u64 a] w fun e w' => e = .returned (.tuple #[.int .u64 ((unR n 3 (a % 2 ^ n) : Nat) : Int), .int .i64 0]) ∧ w = w' := by
  obtain ⟨h1, h2, h3, h4⟩ := pow_lt64 hn
  have HK := hid (known_yes n hn w)
  have HX := hid (cut_any n hn a ha w)
  obtain ⟨x, hx⟩ : ∃ x : Nat, x = a % 2 ^ n := ⟨_, rfl⟩
  have hxl : x < 2 ^ n := by rw [hx]; exact Nat.mod_lt _ (Nat.two_pow_pos n)
  rw [← hx] at HX
  rw [← hx]
  clear hx ha
  have hs : unR n 3 x = pop x := by rw [unR, if_neg (by decide), if_neg (by decide), if_pos rfl]
  rw [hs]
  have HP := hid (count_any x (by omega) w)
  have hcn := lt_pow (pop_le n x hxl)
  have HC := hid (cut_any n hn (pop x) (by omega) w)
  rw [Nat.mod_eq_of_lt hcn] at HC
  obtain ⟨c, hc⟩ : ∃ c : Nat, c = pop x := ⟨_, rfl⟩
  rw [← hc] at HP HC ⊢
  clear h1 h2 h3 h4 hn hxl hs hcn hc
  go_enter Tryz.func87, Tryz.ntmps87
  repeat' (first
    | (with_reducible refine wp_exit ?_; repeat (first | with_reducible refine ex_norm ?_ | with_reducible refine ex_then ?_ | with_reducible refine ex_here ?_ | with_reducible refine ex_pass rfl ?_))
    | (go_big_may; first
      | (go_at_call 137; refine HK.out.mono ?_; rintro e w' ⟨rfl, rfl⟩)
      | (go_at_call 138; ((with_reducible refine HX.out.mono ?_); rintro e w' ⟨rfl, rfl⟩))
      | (go_at_call 140; refine HP.out.mono ?_; rintro e w' ⟨rfl, rfl⟩)
      | (go_at_call 138; ((with_reducible refine HC.out.mono ?_); rintro e w' ⟨rfl, rfl⟩)))
    | go_values | go_skip | go_guarded | go_step | go_upon | go_back | dsimp only)
  go_ret2
  exact ⟨rfl, rfl⟩

set_option maxHeartbeats 800000 in
theorem Un_4 (n : Nat) (hn : Okn n) (hw : 8 < n) (a : Nat) (ha : a < 18446744073709551616) (w : World) :
    Calls Tryz.prog 87 #[.int .i64 n, .int .i64 4, .int .u64 a] w fun e w' => e = .returned (.tuple #[.int .u64 ((unR n 4 (a % 2 ^ n) : Nat) : Int), .int .i64 0]) ∧ w = w' := by
  obtain ⟨h1, h2, h3, h4⟩ := pow_lt64 hn
  have HK := hid (known_yes n hn w)
  have HX := hid (cut_any n hn a ha w)
  obtain ⟨x, hx⟩ : ∃ x : Nat, x = a % 2 ^ n := ⟨_, rfl⟩
  have hxl : x < 2 ^ n := by rw [hx]; exact Nat.mod_lt _ (Nat.two_pow_pos n)
  rw [← hx] at HX
  rw [← hx]
  clear hx ha
  have hs : unR n 4 x = toN n (sg 8 (x % 2 ^ 8)) := by rw [unR, if_neg (by decide), if_neg (by decide), if_neg (by decide), if_pos rfl]
  rw [hs]
  have hle : decide ((n : Int) ≤ 8) = false := by simp; omega
  have hle2 : ¬ ((n : Int) ≤ 8) := by omega
  have HG : Hid (Calls Tryz.prog 102 #[.int .i64 8, .int .u64 x] w _) := hid (Signed_ok 8 (.inl rfl) x (by omega) w)
  obtain ⟨z, hz⟩ : ∃ z, z = sg 8 (x % 2 ^ 8) := ⟨_, rfl⟩
  rw [← hz] at HG ⊢
  have hv := wrap_toN hn z
  obtain ⟨v, hve⟩ : ∃ v : Nat, v = (z % 18446744073709551616).toNat := ⟨_, rfl⟩
  have hvw : IntKind.u64.wrap z = (v : Int) := by rw [IntKind.wrap_u64]; omega
  have HC := hid (cut_any n hn v (by omega) w)
  rw [← hve] at hv
  rw [hv] at HC
  obtain ⟨s, hse⟩ : ∃ s : Nat, s = toN n z := ⟨_, rfl⟩
  rw [← hse] at HC ⊢
  clear h1 h2 h3 h4 hn hxl hs hw hz hv hve hse
  go_enter Tryz.func87, Tryz.ntmps87
  repeat' (first
    | (with_reducible refine wp_exit ?_; repeat (first | with_reducible refine ex_norm ?_ | with_reducible refine ex_then ?_ | with_reducible refine ex_here ?_ | with_reducible refine ex_pass rfl ?_))
    | (go_big_may; first
      | (go_at_call 137; refine HK.out.mono ?_; rintro e w' ⟨rfl, rfl⟩)
      | (go_at_call 138; ((with_reducible refine HX.out.mono ?_); rintro e w' ⟨rfl, rfl⟩))
      | (go_at_call 102; refine HG.out.mono ?_; rintro e w' ⟨rfl, rfl⟩)
      | (go_at_call 138; ((with_reducible refine HC.out.mono ?_); rintro e w' ⟨rfl, rfl⟩)))
    | go_values | go_skip | go_guarded | go_step | go_upon | go_back | dsimp only)
  go_ret2
  exact ⟨rfl, rfl⟩

theorem Un_4no (n : Nat) (hn : Okn n) (hw : n ≤ 8) (a : Nat) (ha : a < 18446744073709551616) (w : World) :
    Calls Tryz.prog 87 #[.int .i64 n, .int .i64 4, .int .u64 a] w fun e w' => e = .returned (.tuple #[.int .u64 0, .int .i64 1]) ∧ w = w' := by
  have HK := hid (known_yes n hn w)
  have HX := hid (cut_any n hn a ha w)
  have hle : decide ((n : Int) ≤ 8) = true := by simp; omega
  clear hn ha
  go_enter Tryz.func87, Tryz.ntmps87
  repeat' (first
    | (with_reducible refine wp_exit ?_; repeat (first | with_reducible refine ex_norm ?_ | with_reducible refine ex_then ?_ | with_reducible refine ex_here ?_ | with_reducible refine ex_pass rfl ?_))
    | (go_big_may; first
      | (go_at_call 137; refine HK.out.mono ?_; rintro e w' ⟨rfl, rfl⟩)
      | (go_at_call 138; ((with_reducible refine HX.out.mono ?_); rintro e w' ⟨rfl, rfl⟩)))
    | go_values | go_skip | go_guarded | go_step | go_upon | go_back | dsimp only)
  go_ret2
  exact ⟨rfl, rfl⟩

set_option maxHeartbeats 800000 in
theorem Un_5 (n : Nat) (hn : Okn n) (hw : 16 < n) (a : Nat) (ha : a < 18446744073709551616) (w : World) :
    Calls Tryz.prog 87 #[.int .i64 n, .int .i64 5, .int .u64 a] w fun e w' => e = .returned (.tuple #[.int .u64 ((unR n 5 (a % 2 ^ n) : Nat) : Int), .int .i64 0]) ∧ w = w' := by
  obtain ⟨h1, h2, h3, h4⟩ := pow_lt64 hn
  have HK := hid (known_yes n hn w)
  have HX := hid (cut_any n hn a ha w)
  obtain ⟨x, hx⟩ : ∃ x : Nat, x = a % 2 ^ n := ⟨_, rfl⟩
  have hxl : x < 2 ^ n := by rw [hx]; exact Nat.mod_lt _ (Nat.two_pow_pos n)
  rw [← hx] at HX
  rw [← hx]
  clear hx ha
  have hs : unR n 5 x = toN n (sg 16 (x % 2 ^ 16)) := by rw [unR, if_neg (by decide), if_neg (by decide), if_neg (by decide), if_neg (by decide), if_pos rfl]
  rw [hs]
  have hle : decide ((n : Int) ≤ 16) = false := by simp; omega
  have hle2 : ¬ ((n : Int) ≤ 16) := by omega
  have HG : Hid (Calls Tryz.prog 102 #[.int .i64 16, .int .u64 x] w _) := hid (Signed_ok 16 (.inr (.inl rfl)) x (by omega) w)
  obtain ⟨z, hz⟩ : ∃ z, z = sg 16 (x % 2 ^ 16) := ⟨_, rfl⟩
  rw [← hz] at HG ⊢
  have hv := wrap_toN hn z
  obtain ⟨v, hve⟩ : ∃ v : Nat, v = (z % 18446744073709551616).toNat := ⟨_, rfl⟩
  have hvw : IntKind.u64.wrap z = (v : Int) := by rw [IntKind.wrap_u64]; omega
  have HC := hid (cut_any n hn v (by omega) w)
  rw [← hve] at hv
  rw [hv] at HC
  obtain ⟨s, hse⟩ : ∃ s : Nat, s = toN n z := ⟨_, rfl⟩
  rw [← hse] at HC ⊢
  clear h1 h2 h3 h4 hn hxl hs hw hz hv hve hse
  go_enter Tryz.func87, Tryz.ntmps87
  repeat' (first
    | (with_reducible refine wp_exit ?_; repeat (first | with_reducible refine ex_norm ?_ | with_reducible refine ex_then ?_ | with_reducible refine ex_here ?_ | with_reducible refine ex_pass rfl ?_))
    | (go_big_may; first
      | (go_at_call 137; refine HK.out.mono ?_; rintro e w' ⟨rfl, rfl⟩)
      | (go_at_call 138; ((with_reducible refine HX.out.mono ?_); rintro e w' ⟨rfl, rfl⟩))
      | (go_at_call 102; refine HG.out.mono ?_; rintro e w' ⟨rfl, rfl⟩)
      | (go_at_call 138; ((with_reducible refine HC.out.mono ?_); rintro e w' ⟨rfl, rfl⟩)))
    | go_values | go_skip | go_guarded | go_step | go_upon | go_back | dsimp only)
  go_ret2
  exact ⟨rfl, rfl⟩

theorem Un_5no (n : Nat) (hn : Okn n) (hw : n ≤ 16) (a : Nat) (ha : a < 18446744073709551616) (w : World) :
    Calls Tryz.prog 87 #[.int .i64 n, .int .i64 5, .int .u64 a] w fun e w' => e = .returned (.tuple #[.int .u64 0, .int .i64 1]) ∧ w = w' := by
  have HK := hid (known_yes n hn w)
  have HX := hid (cut_any n hn a ha w)
  have hle : decide ((n : Int) ≤ 16) = true := by simp; omega
  clear hn ha
  go_enter Tryz.func87, Tryz.ntmps87
  repeat' (first
    | (with_reducible refine wp_exit ?_; repeat (first | with_reducible refine ex_norm ?_ | with_reducible refine ex_then ?_ | with_reducible refine ex_here ?_ | with_reducible refine ex_pass rfl ?_))
    | (go_big_may; first
      | (go_at_call 137; refine HK.out.mono ?_; rintro e w' ⟨rfl, rfl⟩)
      | (go_at_call 138; ((with_reducible refine HX.out.mono ?_); rintro e w' ⟨rfl, rfl⟩)))
    | go_values | go_skip | go_guarded | go_step | go_upon | go_back | dsimp only)
  go_ret2
  exact ⟨rfl, rfl⟩

set_option maxHeartbeats 800000 in
theorem Un_6 (n : Nat) (hn : Okn n) (hw : 32 < n) (a : Nat) (ha : a < 18446744073709551616) (w : World) :
    Calls Tryz.prog 87 #[.int .i64 n, .int .i64 6, .int .u64 a] w fun e w' => e = .returned (.tuple #[.int .u64 ((unR n 6 (a % 2 ^ n) : Nat) : Int), .int .i64 0]) ∧ w = w' := by
  obtain ⟨h1, h2, h3, h4⟩ := pow_lt64 hn
  have HK := hid (known_yes n hn w)
  have HX := hid (cut_any n hn a ha w)
  obtain ⟨x, hx⟩ : ∃ x : Nat, x = a % 2 ^ n := ⟨_, rfl⟩
  have hxl : x < 2 ^ n := by rw [hx]; exact Nat.mod_lt _ (Nat.two_pow_pos n)
  rw [← hx] at HX
  rw [← hx]
  clear hx ha
  have hs : unR n 6 x = toN n (sg 32 (x % 2 ^ 32)) := by rw [unR, if_neg (by decide), if_neg (by decide), if_neg (by decide), if_neg (by decide), if_neg (by decide), if_pos rfl]
  rw [hs]
  have hle : decide ((n : Int) ≤ 32) = false := by simp; omega
  have hle2 : ¬ ((n : Int) ≤ 32) := by omega
  have HG : Hid (Calls Tryz.prog 102 #[.int .i64 32, .int .u64 x] w _) := hid (Signed_ok 32 (.inr (.inr (.inl rfl))) x (by omega) w)
  obtain ⟨z, hz⟩ : ∃ z, z = sg 32 (x % 2 ^ 32) := ⟨_, rfl⟩
  rw [← hz] at HG ⊢
  have hv := wrap_toN hn z
  obtain ⟨v, hve⟩ : ∃ v : Nat, v = (z % 18446744073709551616).toNat := ⟨_, rfl⟩
  have hvw : IntKind.u64.wrap z = (v : Int) := by rw [IntKind.wrap_u64]; omega
  have HC := hid (cut_any n hn v (by omega) w)
  rw [← hve] at hv
  rw [hv] at HC
  obtain ⟨s, hse⟩ : ∃ s : Nat, s = toN n z := ⟨_, rfl⟩
  rw [← hse] at HC ⊢
  clear h1 h2 h3 h4 hn hxl hs hw hz hv hve hse
  go_enter Tryz.func87, Tryz.ntmps87
  repeat' (first
    | (with_reducible refine wp_exit ?_; repeat (first | with_reducible refine ex_norm ?_ | with_reducible refine ex_then ?_ | with_reducible refine ex_here ?_ | with_reducible refine ex_pass rfl ?_))
    | (go_big_may; first
      | (go_at_call 137; refine HK.out.mono ?_; rintro e w' ⟨rfl, rfl⟩)
      | (go_at_call 138; ((with_reducible refine HX.out.mono ?_); rintro e w' ⟨rfl, rfl⟩))
      | (go_at_call 102; refine HG.out.mono ?_; rintro e w' ⟨rfl, rfl⟩)
      | (go_at_call 138; ((with_reducible refine HC.out.mono ?_); rintro e w' ⟨rfl, rfl⟩)))
    | go_values | go_skip | go_guarded | go_step | go_upon | go_back | dsimp only)
  go_ret2
  exact ⟨rfl, rfl⟩

theorem Un_6no (n : Nat) (hn : Okn n) (hw : n ≤ 32) (a : Nat) (ha : a < 18446744073709551616) (w : World) :
    Calls Tryz.prog 87 #[.int .i64 n, .int .i64 6, .int .u64 a] w fun e w' => e = .returned (.tuple #[.int .u64 0, .int .i64 1]) ∧ w = w' := by
  have HK := hid (known_yes n hn w)
  have HX := hid (cut_any n hn a ha w)
  have hle : decide ((n : Int) ≤ 32) = true := by simp; omega
  clear hn ha
  go_enter Tryz.func87, Tryz.ntmps87
  repeat' (first
    | (with_reducible refine wp_exit ?_; repeat (first | with_reducible refine ex_norm ?_ | with_reducible refine ex_then ?_ | with_reducible refine ex_here ?_ | with_reducible refine ex_pass rfl ?_))
    | (go_big_may; first
      | (go_at_call 137; refine HK.out.mono ?_; rintro e w' ⟨rfl, rfl⟩)
      | (go_at_call 138; ((with_reducible refine HX.out.mono ?_); rintro e w' ⟨rfl, rfl⟩)))
    | go_values | go_skip | go_guarded | go_step | go_upon | go_back | dsimp only)
  go_ret2
  exact ⟨rfl, rfl⟩

set_option maxHeartbeats 800000 in
theorem Un_7 (n : Nat) (hn : Okn n) (a : Nat) (ha : a < 18446744073709551616) (w : World) :
    Calls Tryz.prog 87 #[.int .i64 n, .int .i64 7, .int .u64 a] w fun e w' => e = .returned (.tuple #[.int .u64 ((unR n 7 (a % 2 ^ n) : Nat) : Int), .int .i64 0]) ∧ w = w' := by
  obtain ⟨h1, h2, h3, h4⟩ := pow_lt64 hn
  have HK := hid (known_yes n hn w)
  have HX := hid (cut_any n hn a ha w)
  obtain ⟨x, hx⟩ : ∃ x : Nat, x = a % 2 ^ n := ⟨_, rfl⟩
  have hxl : x < 2 ^ n := by rw [hx]; exact Nat.mod_lt _ (Nat.two_pow_pos n)
  rw [← hx] at HX
  rw [← hx]
  clear hx ha
  have hs : unR n 7 x = (sg n x).natAbs := by rw [unR, if_neg (by decide), if_neg (by decide), if_neg (by decide), if_neg (by decide), if_neg (by decide), if_neg (by decide), if_pos rfl]
  rw [hs]
  have HP := hid (size_any n hn x hxl w)
  have hle := size_le hn hxl
  have HC := hid (cut_any n hn (sg n x).natAbs (by omega) w)
  rw [Nat.mod_eq_of_lt (show (sg n x).natAbs < 2 ^ n by omega)] at HC
  obtain ⟨c, hc⟩ : ∃ c : Nat, c = (sg n x).natAbs := ⟨_, rfl⟩
  rw [← hc] at HP HC ⊢
  clear h1 h2 h3 h4 hn hxl hs hle hc
  go_enter Tryz.func87, Tryz.ntmps87
  repeat' (first
    | (with_reducible refine wp_exit ?_; repeat (first | with_reducible refine ex_norm ?_ | with_reducible refine ex_then ?_ | with_reducible refine ex_here ?_ | with_reducible refine ex_pass rfl ?_))
    | (go_big_may; first
      | (go_at_call 137; refine HK.out.mono ?_; rintro e w' ⟨rfl, rfl⟩)
      | (go_at_call 138; ((with_reducible refine HX.out.mono ?_); rintro e w' ⟨rfl, rfl⟩))
      | (go_at_call 141; refine HP.out.mono ?_; rintro e w' ⟨rfl, rfl⟩)
      | (go_at_call 138; ((with_reducible refine HC.out.mono ?_); rintro e w' ⟨rfl, rfl⟩)))
    | go_values | go_skip | go_guarded | go_step | go_upon | go_back | dsimp only)
  go_ret2
  exact ⟨rfl, rfl⟩

set_option maxHeartbeats 800000 in
theorem Un_8 (n : Nat) (hn : Okn n) (a : Nat) (ha : a < 18446744073709551616) (w : World) :
    Calls Tryz.prog 87 #[.int .i64 n, .int .i64 8, .int .u64 a] w fun e w' => e = .returned (.tuple #[.int .u64 ((unR n 8 (a % 2 ^ n) : Nat) : Int), .int .i64 0]) ∧ w = w' := by
  obtain ⟨h1, h2, h3, h4⟩ := pow_lt64 hn
  have HK := hid (known_yes n hn w)
  have HX := hid (cut_any n hn a ha w)
  obtain ⟨x, hx⟩ : ∃ x : Nat, x = a % 2 ^ n := ⟨_, rfl⟩
  have hxl : x < 2 ^ n := by rw [hx]; exact Nat.mod_lt _ (Nat.two_pow_pos n)
  rw [← hx] at HX
  rw [← hx]
  clear hx ha
  have hs : unR n 8 x = (18446744073709551616 - x) % 18446744073709551616 % 2 ^ n := by
    rw [unR, if_neg (by decide), if_neg (by decide), if_neg (by decide), if_neg (by decide), if_neg (by decide), if_neg (by decide), if_neg (by decide)]
    clear HK HX
    rcases hn with rfl | rfl | rfl | rfl <;> simp at hxl ⊢ <;> omega
  rw [hs]
  obtain ⟨v, hv⟩ : ∃ v : Nat, v = (18446744073709551616 - x) % 18446744073709551616 := ⟨_, rfl⟩
  have hvw : IntKind.u64.wrap (-(x : Int)) = (v : Int) := by rw [IntKind.wrap_u64]; omega
  have HC := hid (cut_any n hn v (by omega) w)
  rw [← hv]
  obtain ⟨c, hc⟩ : ∃ c : Nat, c = v % 2 ^ n := ⟨_, rfl⟩
  rw [← hc] at HC ⊢
  clear h1 h2 h3 h4 hn hxl hs hv hc
  go_enter Tryz.func87, Tryz.ntmps87
  repeat' (first
    | (with_reducible refine wp_exit ?_; repeat (first | with_reducible refine ex_norm ?_ | with_reducible refine ex_then ?_ | with_reducible refine ex_here ?_ | with_reducible refine ex_pass rfl ?_))
    | (go_big_may; first
      | (go_at_call 137; refine HK.out.mono ?_; rintro e w' ⟨rfl, rfl⟩)
      | (go_at_call 138; ((with_reducible refine HX.out.mono ?_); rintro e w' ⟨rfl, rfl⟩))
      | (go_at_call 138; ((with_reducible refine HC.out.mono ?_); rintro e w' ⟨rfl, rfl⟩)))
    | go_values | go_skip | go_guarded | go_step | go_upon | go_back | dsimp only)
  go_ret2
  exact ⟨rfl, rfl⟩

theorem Un_noBits (b : Int) (hb : Bad b) (op x : Int) (w : World) :
    Calls Tryz.prog 87 #[.int .i64 b, .int .i64 op, .int .u64 x] w fun e w' => e = .returned (.tuple #[.int .u64 0, .int .i64 1]) ∧ w = w' := by
  have HK := hid (known_no b hb w)
  clear hb
  go_enter Tryz.func87, Tryz.ntmps87
  repeat' (first
    | (with_reducible refine wp_exit ?_; repeat (first | with_reducible refine ex_norm ?_ | with_reducible refine ex_then ?_ | with_reducible refine ex_here ?_ | with_reducible refine ex_pass rfl ?_))
    | (go_big_may; first
      | (go_at_call 137; refine HK.out.mono ?_; rintro e w' ⟨rfl, rfl⟩))
    | go_values | go_skip | go_guarded | go_step | go_upon | go_back | dsimp only)
  go_ret2
  exact ⟨rfl, rfl⟩

theorem Un_noOp (n : Nat) (hn : Okn n) (op : Int) (hop : op < 1 ∨ 8 < op) (a : Nat) (ha : a < 18446744073709551616) (w : World) :
    Calls Tryz.prog 87 #[.int .i64 n, .int .i64 op, .int .u64 a] w fun e w' => e = .returned (.tuple #[.int .u64 0, .int .i64 1]) ∧ w = w' := by
  have HK := hid (known_yes n hn w)
  have HX := hid (cut_any n hn a ha w)
  have e1 : (op == 1) = false := by simp; omega
  have e2 : (op == 2) = false := by simp; omega
  have e3 : (op == 3) = false := by simp; omega
  have e4 : (op == 4) = false := by simp; omega
  have e5 : (op == 5) = false := by simp; omega
  have e6 : (op == 6) = false := by simp; omega
  have e7 : (op == 7) = false := by simp; omega
  have e8 : (op == 8) = false := by simp; omega
  clear ha hn hop
  go_enter Tryz.func87, Tryz.ntmps87
  repeat' (first
    | (with_reducible refine wp_exit ?_; repeat (first | with_reducible refine ex_norm ?_ | with_reducible refine ex_then ?_ | with_reducible refine ex_here ?_ | with_reducible refine ex_pass rfl ?_))
    | (go_big_may; first
      | (go_at_call 137; refine HK.out.mono ?_; rintro e w' ⟨rfl, rfl⟩)
      | (go_at_call 138; ((with_reducible refine HX.out.mono ?_); rintro e w' ⟨rfl, rfl⟩)))
    | go_values | go_skip | go_guarded | go_step | go_upon | go_back | dsimp only)
  go_ret2
  exact ⟨rfl, rfl⟩

/-- Un: the document's number and error, whatever is asked. -/
theorem Un_any (bits op : Int) (a : Nat) (ha : a < 18446744073709551616) (w : World) :
    Calls Tryz.prog 87 #[.int .i64 bits, .int .i64 op, .int .u64 a] w fun e w' => e = .returned (.tuple #[.int .u64 ((unA bits op a).1 : Nat), .int .i64 ((unA bits op a).2 : Nat)]) ∧ w = w' := by
  by_cases hbits : Okn bits.toNat
  · obtain ⟨n, rfl⟩ : ∃ n : Nat, bits = (n : Int) := ⟨bits.toNat, by have := hbits.le; omega⟩
    rw [Int.toNat_natCast] at hbits
    by_cases hop : 1 ≤ op ∧ op ≤ 8
    · obtain ⟨k, rfl⟩ : ∃ k : Nat, op = (k : Int) := ⟨op.toNat, by omega⟩
      by_cases hok : (k = 4 → 8 < n) ∧ (k = 5 → 16 < n) ∧ (k = 6 → 32 < n)
      · obtain ⟨q4, q5, q6⟩ := hok
        rw [unA, if_pos ⟨by simpa using hbits, by omega, by omega, by omega, by omega, by omega⟩, Int.toNat_natCast, Int.toNat_natCast]
        have hk : k = 1 ∨ k = 2 ∨ k = 3 ∨ k = 4 ∨ k = 5 ∨ k = 6 ∨ k = 7 ∨ k = 8 := by omega
        rcases hk with rfl | rfl | rfl | rfl | rfl | rfl | rfl | rfl
        · exact Un_1 n hbits a ha w
        · exact Un_2 n hbits a ha w
        · exact Un_3 n hbits a ha w
        · exact Un_4 n hbits (q4 rfl) a ha w
        · exact Un_5 n hbits (q5 rfl) a ha w
        · exact Un_6 n hbits (q6 rfl) a ha w
        · exact Un_7 n hbits a ha w
        · exact Un_8 n hbits a ha w
      · rw [unA, if_neg (fun h => hok ⟨by omega, by omega, by omega⟩)]
        have hk : k = 4 ∧ n ≤ 8 ∨ k = 5 ∧ n ≤ 16 ∨ k = 6 ∧ n ≤ 32 := by omega
        rcases hk with ⟨rfl, hw⟩ | ⟨rfl, hw⟩ | ⟨rfl, hw⟩
        · exact Un_4no n hbits hw a ha w
        · exact Un_5no n hbits hw a ha w
        · exact Un_6no n hbits hw a ha w
    · rw [unA, if_neg (fun h => hop ⟨h.2.1, h.2.2.1⟩)]
      exact Un_noOp n hbits op (by omega) a ha w
  · rw [unA, if_neg (fun h => hbits h.1)]
    exact Un_noBits bits (by unfold Bad; unfold Okn at hbits; omega) op a w

end Go.Proofs.YtibfpjnfkknacaaGreatDoor
