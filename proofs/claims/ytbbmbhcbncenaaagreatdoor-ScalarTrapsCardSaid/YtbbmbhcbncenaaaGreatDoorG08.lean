/-
  Un, SPgI, FMath, FBel: merged, what the law does not reach left out (each text says what it holds where it lies in wip). No condition.
-/
import Derived.Test.YtbbmbhcbncenaaaGreatDoorG07
import Derived.Test.YtbbmbhcbncenaaaGreatDoorG05
import Ieee.Arith
import Derived.Test.YtbbmbhcbncenaaaGreatDoorProg
import Derived.WalkKit
import Derived.WalkSpells
import Derived.WalkLawsBesides
import Derived.WalkSmall
import Derived.Below
import Derived.Laws.Bits64b
import Derived.Deep.RegionHeld3
import Derived.Deep.QuietTactic
import Derived.BigQuiet
import Derived.Test.YtbbmbhcbncenaaaGreatDoorG01
set_option linter.unusedSimpArgs false
set_option linter.unusedVariables false
set_option maxRecDepth 100000
namespace Go.Proofs.YtbbmbhcbncenaaaGreatDoor
open Go.RowKit
def unA (bits op : Int) (a : Nat) : Nat × Nat :=
 if Okn bits.toNat ∧ 1 ≤ op ∧ op ≤ 8 ∧ (op = 4 → 8 < bits) ∧ (op = 5 → 16 < bits) ∧ (op = 6 → 32 < bits) then (unR bits.toNat op.toNat (a % 2 ^ bits.toNat),0) else (0,1)
theorem lt_pow {n c : Nat} (h : c ≤ n) : c < 2 ^ n := Nat.lt_of_le_of_lt h Nat.lt_two_pow_self
set_option maxHeartbeats 800000 in
theorem Un_1 (n : Nat) (hn : Okn n) (a : Nat) (ha : a < 18446744073709551616) (w : World) :
  Calls Tryz.prog 38 #[.int .i64 n,.int .i64 1,.int .u64 a] w fun e w' => e = .returned (.tuple #[.int .u64 ((unR n 1 (a % 2 ^ n) : Nat) : Int),.int .i64 0]) ∧ w = w' := by
 obtain ⟨h1,h2,h3,h4⟩ := pow_lt64 hn
 have HK := hid (known_yes n hn w)
 have HX := hid (cut_any n hn a ha w)
 obtain ⟨x,hx⟩ : ∃ x : Nat,x = a % 2 ^ n := ⟨_,rfl⟩
 have hxl : x < 2 ^ n := by rw [hx]; exact Nat.mod_lt _ (Nat.two_pow_pos n)
 rw [← hx] at HX
 rw [← hx]
 clear hx ha
 have hs : unR n 1 x = clzR n x := by rw [unR,if_pos rfl]
 rw [hs,← ctz_rev]
 have HR := hid (reversed_any n hn x (by omega) w)
 have hrl := revR_lt n x
 obtain ⟨r,hr⟩ : ∃ r : Nat,r = revR n x := ⟨_,rfl⟩
 rw [← hr] at HR hrl ⊢
 have hmx := xor_max r (by omega)
 obtain ⟨m,hm⟩ : ∃ m : Nat,m = (r + 18446744073709551615) % 18446744073709551616 := ⟨_,rfl⟩
 have hw : IntKind.u64.wrap ((r : Int) - 1) = (m : Int) := by rw [IntKind.wrap_u64]; omega
 have hb := ctz_bits hn hrl
 rw [← hm] at hb
 obtain ⟨u,hu⟩ : ∃ u : Nat,u = 18446744073709551615 - r := ⟨_,rfl⟩
 rw [← hu] at hb hmx
 have hmx2 : bits .xor .u64 (if IntKind.u64.signed = true then -1 else IntKind.u64.max) (r : Int) = (u : Int) := hmx
 clear hmx
 have hand := bits_and_u64_nat u m (by omega) (by omega)
 have hzl : u &&& m < 18446744073709551616 := Nat.and_lt_two_pow (n := 64) _ (by omega)
 obtain ⟨z,hz⟩ : ∃ z : Nat,z = u &&& m := ⟨_,rfl⟩
 rw [← hz] at hand hzl hb
 have HZ := hid (cut_any n hn z hzl w)
 rw [hb] at HZ
 have hq := Nat.two_pow_pos (ctzR n r)
 have hcl := ctzR_le n r
 have hqle : 2 ^ ctzR n r ≤ 2 ^ n := Nat.pow_le_pow_right (by decide) hcl
 have hcn := lt_pow hcl
 have HP := hid (count_any (2 ^ ctzR n r - 1) (by omega) w)
 rw [pop_ones] at HP
 have HC := hid (cut_any n hn (ctzR n r) (by omega) w)
 rw [Nat.mod_eq_of_lt hcn] at HC
 obtain ⟨c,hc⟩ : ∃ c : Nat,c = ctzR n r := ⟨_,rfl⟩
 obtain ⟨o,ho⟩ : ∃ o : Nat,o = 2 ^ c - 1 := ⟨_,rfl⟩
 rw [← hc,← ho] at HZ HP
 rw [← hc] at HC ⊢
 clear h1 h2 h3 h4 hn hxl hs hr hrl hm hb hu hzl hz hq hcl hqle hcn hc ho
 go_enter Tryz.func38,Tryz.ntmps38
 repeat' (first
  | (with_reducible refine wp_exit ?_; repeat (first | with_reducible refine ex_norm ?_ | with_reducible refine ex_then ?_ | with_reducible refine ex_here ?_ | with_reducible refine ex_pass rfl ?_))
  | (go_big_may; first
   | (go_at_call 75; refine HK.out.mono ?_; rintro e w' ⟨rfl,rfl⟩)
   | (go_at_call 76; ((with_reducible refine HX.out.mono ?_); rintro e w' ⟨rfl,rfl⟩))
   | (go_at_call 77; refine HR.out.mono ?_; rintro e w' ⟨rfl,rfl⟩)
   | (go_at_call 76; ((with_reducible refine HZ.out.mono ?_); rintro e w' ⟨rfl,rfl⟩))
   | (go_at_call 78; refine HP.out.mono ?_; rintro e w' ⟨rfl,rfl⟩)
   | (go_at_call 76; ((with_reducible refine HC.out.mono ?_); rintro e w' ⟨rfl,rfl⟩)))
  | go_values | go_skip | go_guarded | go_step | go_upon | go_back | dsimp only)
 go_ret2
 exact ⟨rfl,rfl⟩
set_option maxHeartbeats 800000 in
theorem Un_2 (n : Nat) (hn : Okn n) (a : Nat) (ha : a < 18446744073709551616) (w : World) :
  Calls Tryz.prog 38 #[.int .i64 n,.int .i64 2,.int .u64 a] w fun e w' => e = .returned (.tuple #[.int .u64 ((unR n 2 (a % 2 ^ n) : Nat) : Int),.int .i64 0]) ∧ w = w' := by
 obtain ⟨h1,h2,h3,h4⟩ := pow_lt64 hn
 have HK := hid (known_yes n hn w)
 have HX := hid (cut_any n hn a ha w)
 obtain ⟨x,hx⟩ : ∃ x : Nat,x = a % 2 ^ n := ⟨_,rfl⟩
 have hxl : x < 2 ^ n := by rw [hx]; exact Nat.mod_lt _ (Nat.two_pow_pos n)
 rw [← hx] at HX
 rw [← hx]
 clear hx ha
 have hs : unR n 2 x = ctzR n x := by rw [unR,if_neg (by decide),if_pos rfl]
 rw [hs]
 have hmx := xor_max x (by omega)
 obtain ⟨m,hm⟩ : ∃ m : Nat,m = (x + 18446744073709551615) % 18446744073709551616 := ⟨_,rfl⟩
 have hw : IntKind.u64.wrap ((x : Int) - 1) = (m : Int) := by rw [IntKind.wrap_u64]; omega
 have hb := ctz_bits hn hxl
 rw [← hm] at hb
 obtain ⟨u,hu⟩ : ∃ u : Nat,u = 18446744073709551615 - x := ⟨_,rfl⟩
 rw [← hu] at hb hmx
 have hmx2 : bits .xor .u64 (if IntKind.u64.signed = true then -1 else IntKind.u64.max) (x : Int) = (u : Int) := hmx
 clear hmx
 have hand := bits_and_u64_nat u m (by omega) (by omega)
 have hzl : u &&& m < 18446744073709551616 := Nat.and_lt_two_pow (n := 64) _ (by omega)
 obtain ⟨z,hz⟩ : ∃ z : Nat,z = u &&& m := ⟨_,rfl⟩
 rw [← hz] at hand hzl hb
 have HZ := hid (cut_any n hn z hzl w)
 rw [hb] at HZ
 have hq := Nat.two_pow_pos (ctzR n x)
 have hcl := ctzR_le n x
 have hqle : 2 ^ ctzR n x ≤ 2 ^ n := Nat.pow_le_pow_right (by decide) hcl
 have hcn := lt_pow hcl
 have HP := hid (count_any (2 ^ ctzR n x - 1) (by omega) w)
 rw [pop_ones] at HP
 have HC := hid (cut_any n hn (ctzR n x) (by omega) w)
 rw [Nat.mod_eq_of_lt hcn] at HC
 obtain ⟨c,hc⟩ : ∃ c : Nat,c = ctzR n x := ⟨_,rfl⟩
 obtain ⟨o,ho⟩ : ∃ o : Nat,o = 2 ^ c - 1 := ⟨_,rfl⟩
 rw [← hc,← ho] at HZ HP
 rw [← hc] at HC ⊢
 clear h1 h2 h3 h4 hn hxl hs hm hb hu hzl hz hq hcl hqle hcn hc ho
 go_enter Tryz.func38,Tryz.ntmps38
 repeat' (first
  | (with_reducible refine wp_exit ?_; repeat (first | with_reducible refine ex_norm ?_ | with_reducible refine ex_then ?_ | with_reducible refine ex_here ?_ | with_reducible refine ex_pass rfl ?_))
  | (go_big_may; first
   | (go_at_call 75; refine HK.out.mono ?_; rintro e w' ⟨rfl,rfl⟩)
   | (go_at_call 76; ((with_reducible refine HX.out.mono ?_); rintro e w' ⟨rfl,rfl⟩))
   | (go_at_call 76; ((with_reducible refine HZ.out.mono ?_); rintro e w' ⟨rfl,rfl⟩))
   | (go_at_call 78; refine HP.out.mono ?_; rintro e w' ⟨rfl,rfl⟩)
   | (go_at_call 76; ((with_reducible refine HC.out.mono ?_); rintro e w' ⟨rfl,rfl⟩)))
  | go_values | go_skip | go_guarded | go_step | go_upon | go_back | dsimp only)
 go_ret2
 exact ⟨rfl,rfl⟩
set_option maxHeartbeats 800000 in
theorem Un_3 (n : Nat) (hn : Okn n) (a : Nat) (ha : a < 18446744073709551616) (w : World) :
  Calls Tryz.prog 38 #[.int .i64 n,.int .i64 3,.int .u64 a] w fun e w' => e = .returned (.tuple #[.int .u64 ((unR n 3 (a % 2 ^ n) : Nat) : Int),.int .i64 0]) ∧ w = w' := by
 obtain ⟨h1,h2,h3,h4⟩ := pow_lt64 hn
 have HK := hid (known_yes n hn w)
 have HX := hid (cut_any n hn a ha w)
 obtain ⟨x,hx⟩ : ∃ x : Nat,x = a % 2 ^ n := ⟨_,rfl⟩
 have hxl : x < 2 ^ n := by rw [hx]; exact Nat.mod_lt _ (Nat.two_pow_pos n)
 rw [← hx] at HX
 rw [← hx]
 clear hx ha
 have hs : unR n 3 x = pop x := by rw [unR,if_neg (by decide),if_neg (by decide),if_pos rfl]
 rw [hs]
 have HP := hid (count_any x (by omega) w)
 have hcn := lt_pow (pop_le n x hxl)
 have HC := hid (cut_any n hn (pop x) (by omega) w)
 rw [Nat.mod_eq_of_lt hcn] at HC
 obtain ⟨c,hc⟩ : ∃ c : Nat,c = pop x := ⟨_,rfl⟩
 rw [← hc] at HP HC ⊢
 clear h1 h2 h3 h4 hn hxl hs hcn hc
 go_enter Tryz.func38,Tryz.ntmps38
 repeat' (first
  | (with_reducible refine wp_exit ?_; repeat (first | with_reducible refine ex_norm ?_ | with_reducible refine ex_then ?_ | with_reducible refine ex_here ?_ | with_reducible refine ex_pass rfl ?_))
  | (go_big_may; first
   | (go_at_call 75; refine HK.out.mono ?_; rintro e w' ⟨rfl,rfl⟩)
   | (go_at_call 76; ((with_reducible refine HX.out.mono ?_); rintro e w' ⟨rfl,rfl⟩))
   | (go_at_call 78; refine HP.out.mono ?_; rintro e w' ⟨rfl,rfl⟩)
   | (go_at_call 76; ((with_reducible refine HC.out.mono ?_); rintro e w' ⟨rfl,rfl⟩)))
  | go_values | go_skip | go_guarded | go_step | go_upon | go_back | dsimp only)
 go_ret2
 exact ⟨rfl,rfl⟩
set_option maxHeartbeats 800000 in
theorem Un_4 (n : Nat) (hn : Okn n) (hw : 8 < n) (a : Nat) (ha : a < 18446744073709551616) (w : World) :
  Calls Tryz.prog 38 #[.int .i64 n,.int .i64 4,.int .u64 a] w fun e w' => e = .returned (.tuple #[.int .u64 ((unR n 4 (a % 2 ^ n) : Nat) : Int),.int .i64 0]) ∧ w = w' := by
 obtain ⟨h1,h2,h3,h4⟩ := pow_lt64 hn
 have HK := hid (known_yes n hn w)
 have HX := hid (cut_any n hn a ha w)
 obtain ⟨x,hx⟩ : ∃ x : Nat,x = a % 2 ^ n := ⟨_,rfl⟩
 have hxl : x < 2 ^ n := by rw [hx]; exact Nat.mod_lt _ (Nat.two_pow_pos n)
 rw [← hx] at HX
 rw [← hx]
 clear hx ha
 have hs : unR n 4 x = toN n (sg 8 (x % 2 ^ 8)) := by rw [unR,if_neg (by decide),if_neg (by decide),if_neg (by decide),if_pos rfl]
 rw [hs]
 have hle : decide ((n : Int) ≤ 8) = false := by simp; omega
 have hle2 : ¬ ((n : Int) ≤ 8) := by omega
 have HG : Hid (Calls Tryz.prog 71 #[.int .i64 8,.int .u64 x] w _) := hid (Signed_ok 8 (.inl rfl) x (by omega) w)
 obtain ⟨z,hz⟩ : ∃ z,z = sg 8 (x % 2 ^ 8) := ⟨_,rfl⟩
 rw [← hz] at HG ⊢
 have hv := wrap_toN hn z
 obtain ⟨v,hve⟩ : ∃ v : Nat,v = (z % 18446744073709551616).toNat := ⟨_,rfl⟩
 have hvw : IntKind.u64.wrap z = (v : Int) := by rw [IntKind.wrap_u64]; omega
 have HC := hid (cut_any n hn v (by omega) w)
 rw [← hve] at hv
 rw [hv] at HC
 obtain ⟨s,hse⟩ : ∃ s : Nat,s = toN n z := ⟨_,rfl⟩
 rw [← hse] at HC ⊢
 clear h1 h2 h3 h4 hn hxl hs hw hz hv hve hse
 go_enter Tryz.func38,Tryz.ntmps38
 repeat' (first
  | (with_reducible refine wp_exit ?_; repeat (first | with_reducible refine ex_norm ?_ | with_reducible refine ex_then ?_ | with_reducible refine ex_here ?_ | with_reducible refine ex_pass rfl ?_))
  | (go_big_may; first
   | (go_at_call 75; refine HK.out.mono ?_; rintro e w' ⟨rfl,rfl⟩)
   | (go_at_call 76; ((with_reducible refine HX.out.mono ?_); rintro e w' ⟨rfl,rfl⟩))
   | (go_at_call 71; refine HG.out.mono ?_; rintro e w' ⟨rfl,rfl⟩)
   | (go_at_call 76; ((with_reducible refine HC.out.mono ?_); rintro e w' ⟨rfl,rfl⟩)))
  | go_values | go_skip | go_guarded | go_step | go_upon | go_back | dsimp only)
 go_ret2
 exact ⟨rfl,rfl⟩
theorem Un_4no (n : Nat) (hn : Okn n) (hw : n ≤ 8) (a : Nat) (ha : a < 18446744073709551616) (w : World) :
  Calls Tryz.prog 38 #[.int .i64 n,.int .i64 4,.int .u64 a] w fun e w' => e = .returned (.tuple #[.int .u64 0,.int .i64 1]) ∧ w = w' := by
 have HK := hid (known_yes n hn w)
 have HX := hid (cut_any n hn a ha w)
 have hle : decide ((n : Int) ≤ 8) = true := by simp; omega
 clear hn ha
 go_enter Tryz.func38,Tryz.ntmps38
 repeat' (first
  | (with_reducible refine wp_exit ?_; repeat (first | with_reducible refine ex_norm ?_ | with_reducible refine ex_then ?_ | with_reducible refine ex_here ?_ | with_reducible refine ex_pass rfl ?_))
  | (go_big_may; first
   | (go_at_call 75; refine HK.out.mono ?_; rintro e w' ⟨rfl,rfl⟩)
   | (go_at_call 76; ((with_reducible refine HX.out.mono ?_); rintro e w' ⟨rfl,rfl⟩)))
  | go_values | go_skip | go_guarded | go_step | go_upon | go_back | dsimp only)
 go_ret2
 exact ⟨rfl,rfl⟩
set_option maxHeartbeats 800000 in
theorem Un_5 (n : Nat) (hn : Okn n) (hw : 16 < n) (a : Nat) (ha : a < 18446744073709551616) (w : World) :
  Calls Tryz.prog 38 #[.int .i64 n,.int .i64 5,.int .u64 a] w fun e w' => e = .returned (.tuple #[.int .u64 ((unR n 5 (a % 2 ^ n) : Nat) : Int),.int .i64 0]) ∧ w = w' := by
 obtain ⟨h1,h2,h3,h4⟩ := pow_lt64 hn
 have HK := hid (known_yes n hn w)
 have HX := hid (cut_any n hn a ha w)
 obtain ⟨x,hx⟩ : ∃ x : Nat,x = a % 2 ^ n := ⟨_,rfl⟩
 have hxl : x < 2 ^ n := by rw [hx]; exact Nat.mod_lt _ (Nat.two_pow_pos n)
 rw [← hx] at HX
 rw [← hx]
 clear hx ha
 have hs : unR n 5 x = toN n (sg 16 (x % 2 ^ 16)) := by rw [unR,if_neg (by decide),if_neg (by decide),if_neg (by decide),if_neg (by decide),if_pos rfl]
 rw [hs]
 have hle : decide ((n : Int) ≤ 16) = false := by simp; omega
 have hle2 : ¬ ((n : Int) ≤ 16) := by omega
 have HG : Hid (Calls Tryz.prog 71 #[.int .i64 16,.int .u64 x] w _) := hid (Signed_ok 16 (.inr (.inl rfl)) x (by omega) w)
 obtain ⟨z,hz⟩ : ∃ z,z = sg 16 (x % 2 ^ 16) := ⟨_,rfl⟩
 rw [← hz] at HG ⊢
 have hv := wrap_toN hn z
 obtain ⟨v,hve⟩ : ∃ v : Nat,v = (z % 18446744073709551616).toNat := ⟨_,rfl⟩
 have hvw : IntKind.u64.wrap z = (v : Int) := by rw [IntKind.wrap_u64]; omega
 have HC := hid (cut_any n hn v (by omega) w)
 rw [← hve] at hv
 rw [hv] at HC
 obtain ⟨s,hse⟩ : ∃ s : Nat,s = toN n z := ⟨_,rfl⟩
 rw [← hse] at HC ⊢
 clear h1 h2 h3 h4 hn hxl hs hw hz hv hve hse
 go_enter Tryz.func38,Tryz.ntmps38
 repeat' (first
  | (with_reducible refine wp_exit ?_; repeat (first | with_reducible refine ex_norm ?_ | with_reducible refine ex_then ?_ | with_reducible refine ex_here ?_ | with_reducible refine ex_pass rfl ?_))
  | (go_big_may; first
   | (go_at_call 75; refine HK.out.mono ?_; rintro e w' ⟨rfl,rfl⟩)
   | (go_at_call 76; ((with_reducible refine HX.out.mono ?_); rintro e w' ⟨rfl,rfl⟩))
   | (go_at_call 71; refine HG.out.mono ?_; rintro e w' ⟨rfl,rfl⟩)
   | (go_at_call 76; ((with_reducible refine HC.out.mono ?_); rintro e w' ⟨rfl,rfl⟩)))
  | go_values | go_skip | go_guarded | go_step | go_upon | go_back | dsimp only)
 go_ret2
 exact ⟨rfl,rfl⟩
theorem Un_5no (n : Nat) (hn : Okn n) (hw : n ≤ 16) (a : Nat) (ha : a < 18446744073709551616) (w : World) :
  Calls Tryz.prog 38 #[.int .i64 n,.int .i64 5,.int .u64 a] w fun e w' => e = .returned (.tuple #[.int .u64 0,.int .i64 1]) ∧ w = w' := by
 have HK := hid (known_yes n hn w)
 have HX := hid (cut_any n hn a ha w)
 have hle : decide ((n : Int) ≤ 16) = true := by simp; omega
 clear hn ha
 go_enter Tryz.func38,Tryz.ntmps38
 repeat' (first
  | (with_reducible refine wp_exit ?_; repeat (first | with_reducible refine ex_norm ?_ | with_reducible refine ex_then ?_ | with_reducible refine ex_here ?_ | with_reducible refine ex_pass rfl ?_))
  | (go_big_may; first
   | (go_at_call 75; refine HK.out.mono ?_; rintro e w' ⟨rfl,rfl⟩)
   | (go_at_call 76; ((with_reducible refine HX.out.mono ?_); rintro e w' ⟨rfl,rfl⟩)))
  | go_values | go_skip | go_guarded | go_step | go_upon | go_back | dsimp only)
 go_ret2
 exact ⟨rfl,rfl⟩
set_option maxHeartbeats 800000 in
theorem Un_6 (n : Nat) (hn : Okn n) (hw : 32 < n) (a : Nat) (ha : a < 18446744073709551616) (w : World) :
  Calls Tryz.prog 38 #[.int .i64 n,.int .i64 6,.int .u64 a] w fun e w' => e = .returned (.tuple #[.int .u64 ((unR n 6 (a % 2 ^ n) : Nat) : Int),.int .i64 0]) ∧ w = w' := by
 obtain ⟨h1,h2,h3,h4⟩ := pow_lt64 hn
 have HK := hid (known_yes n hn w)
 have HX := hid (cut_any n hn a ha w)
 obtain ⟨x,hx⟩ : ∃ x : Nat,x = a % 2 ^ n := ⟨_,rfl⟩
 have hxl : x < 2 ^ n := by rw [hx]; exact Nat.mod_lt _ (Nat.two_pow_pos n)
 rw [← hx] at HX
 rw [← hx]
 clear hx ha
 have hs : unR n 6 x = toN n (sg 32 (x % 2 ^ 32)) := by rw [unR,if_neg (by decide),if_neg (by decide),if_neg (by decide),if_neg (by decide),if_neg (by decide),if_pos rfl]
 rw [hs]
 have hle : decide ((n : Int) ≤ 32) = false := by simp; omega
 have hle2 : ¬ ((n : Int) ≤ 32) := by omega
 have HG : Hid (Calls Tryz.prog 71 #[.int .i64 32,.int .u64 x] w _) := hid (Signed_ok 32 (.inr (.inr (.inl rfl))) x (by omega) w)
 obtain ⟨z,hz⟩ : ∃ z,z = sg 32 (x % 2 ^ 32) := ⟨_,rfl⟩
 rw [← hz] at HG ⊢
 have hv := wrap_toN hn z
 obtain ⟨v,hve⟩ : ∃ v : Nat,v = (z % 18446744073709551616).toNat := ⟨_,rfl⟩
 have hvw : IntKind.u64.wrap z = (v : Int) := by rw [IntKind.wrap_u64]; omega
 have HC := hid (cut_any n hn v (by omega) w)
 rw [← hve] at hv
 rw [hv] at HC
 obtain ⟨s,hse⟩ : ∃ s : Nat,s = toN n z := ⟨_,rfl⟩
 rw [← hse] at HC ⊢
 clear h1 h2 h3 h4 hn hxl hs hw hz hv hve hse
 go_enter Tryz.func38,Tryz.ntmps38
 repeat' (first
  | (with_reducible refine wp_exit ?_; repeat (first | with_reducible refine ex_norm ?_ | with_reducible refine ex_then ?_ | with_reducible refine ex_here ?_ | with_reducible refine ex_pass rfl ?_))
  | (go_big_may; first
   | (go_at_call 75; refine HK.out.mono ?_; rintro e w' ⟨rfl,rfl⟩)
   | (go_at_call 76; ((with_reducible refine HX.out.mono ?_); rintro e w' ⟨rfl,rfl⟩))
   | (go_at_call 71; refine HG.out.mono ?_; rintro e w' ⟨rfl,rfl⟩)
   | (go_at_call 76; ((with_reducible refine HC.out.mono ?_); rintro e w' ⟨rfl,rfl⟩)))
  | go_values | go_skip | go_guarded | go_step | go_upon | go_back | dsimp only)
 go_ret2
 exact ⟨rfl,rfl⟩
theorem Un_6no (n : Nat) (hn : Okn n) (hw : n ≤ 32) (a : Nat) (ha : a < 18446744073709551616) (w : World) :
  Calls Tryz.prog 38 #[.int .i64 n,.int .i64 6,.int .u64 a] w fun e w' => e = .returned (.tuple #[.int .u64 0,.int .i64 1]) ∧ w = w' := by
 have HK := hid (known_yes n hn w)
 have HX := hid (cut_any n hn a ha w)
 have hle : decide ((n : Int) ≤ 32) = true := by simp; omega
 clear hn ha
 go_enter Tryz.func38,Tryz.ntmps38
 repeat' (first
  | (with_reducible refine wp_exit ?_; repeat (first | with_reducible refine ex_norm ?_ | with_reducible refine ex_then ?_ | with_reducible refine ex_here ?_ | with_reducible refine ex_pass rfl ?_))
  | (go_big_may; first
   | (go_at_call 75; refine HK.out.mono ?_; rintro e w' ⟨rfl,rfl⟩)
   | (go_at_call 76; ((with_reducible refine HX.out.mono ?_); rintro e w' ⟨rfl,rfl⟩)))
  | go_values | go_skip | go_guarded | go_step | go_upon | go_back | dsimp only)
 go_ret2
 exact ⟨rfl,rfl⟩
set_option maxHeartbeats 800000 in
theorem Un_7 (n : Nat) (hn : Okn n) (a : Nat) (ha : a < 18446744073709551616) (w : World) :
  Calls Tryz.prog 38 #[.int .i64 n,.int .i64 7,.int .u64 a] w fun e w' => e = .returned (.tuple #[.int .u64 ((unR n 7 (a % 2 ^ n) : Nat) : Int),.int .i64 0]) ∧ w = w' := by
 obtain ⟨h1,h2,h3,h4⟩ := pow_lt64 hn
 have HK := hid (known_yes n hn w)
 have HX := hid (cut_any n hn a ha w)
 obtain ⟨x,hx⟩ : ∃ x : Nat,x = a % 2 ^ n := ⟨_,rfl⟩
 have hxl : x < 2 ^ n := by rw [hx]; exact Nat.mod_lt _ (Nat.two_pow_pos n)
 rw [← hx] at HX
 rw [← hx]
 clear hx ha
 have hs : unR n 7 x = (sg n x).natAbs := by rw [unR,if_neg (by decide),if_neg (by decide),if_neg (by decide),if_neg (by decide),if_neg (by decide),if_neg (by decide),if_pos rfl]
 rw [hs]
 have HP := hid (size_any n hn x hxl w)
 have hle := size_le hn hxl
 have HC := hid (cut_any n hn (sg n x).natAbs (by omega) w)
 rw [Nat.mod_eq_of_lt (show (sg n x).natAbs < 2 ^ n by omega)] at HC
 obtain ⟨c,hc⟩ : ∃ c : Nat,c = (sg n x).natAbs := ⟨_,rfl⟩
 rw [← hc] at HP HC ⊢
 clear h1 h2 h3 h4 hn hxl hs hle hc
 go_enter Tryz.func38,Tryz.ntmps38
 repeat' (first
  | (with_reducible refine wp_exit ?_; repeat (first | with_reducible refine ex_norm ?_ | with_reducible refine ex_then ?_ | with_reducible refine ex_here ?_ | with_reducible refine ex_pass rfl ?_))
  | (go_big_may; first
   | (go_at_call 75; refine HK.out.mono ?_; rintro e w' ⟨rfl,rfl⟩)
   | (go_at_call 76; ((with_reducible refine HX.out.mono ?_); rintro e w' ⟨rfl,rfl⟩))
   | (go_at_call 79; refine HP.out.mono ?_; rintro e w' ⟨rfl,rfl⟩)
   | (go_at_call 76; ((with_reducible refine HC.out.mono ?_); rintro e w' ⟨rfl,rfl⟩)))
  | go_values | go_skip | go_guarded | go_step | go_upon | go_back | dsimp only)
 go_ret2
 exact ⟨rfl,rfl⟩
set_option maxHeartbeats 800000 in
theorem Un_8 (n : Nat) (hn : Okn n) (a : Nat) (ha : a < 18446744073709551616) (w : World) :
  Calls Tryz.prog 38 #[.int .i64 n,.int .i64 8,.int .u64 a] w fun e w' => e = .returned (.tuple #[.int .u64 ((unR n 8 (a % 2 ^ n) : Nat) : Int),.int .i64 0]) ∧ w = w' := by
 obtain ⟨h1,h2,h3,h4⟩ := pow_lt64 hn
 have HK := hid (known_yes n hn w)
 have HX := hid (cut_any n hn a ha w)
 obtain ⟨x,hx⟩ : ∃ x : Nat,x = a % 2 ^ n := ⟨_,rfl⟩
 have hxl : x < 2 ^ n := by rw [hx]; exact Nat.mod_lt _ (Nat.two_pow_pos n)
 rw [← hx] at HX
 rw [← hx]
 clear hx ha
 have hs : unR n 8 x = (18446744073709551616 - x) % 18446744073709551616 % 2 ^ n := by
  rw [unR,if_neg (by decide),if_neg (by decide),if_neg (by decide),if_neg (by decide),if_neg (by decide),if_neg (by decide),if_neg (by decide)]
  clear HK HX
  rcases hn with rfl | rfl | rfl | rfl <;> simp at hxl ⊢ <;> omega
 rw [hs]
 obtain ⟨v,hv⟩ : ∃ v : Nat,v = (18446744073709551616 - x) % 18446744073709551616 := ⟨_,rfl⟩
 have hvw : IntKind.u64.wrap (-(x : Int)) = (v : Int) := by rw [IntKind.wrap_u64]; omega
 have HC := hid (cut_any n hn v (by omega) w)
 rw [← hv]
 obtain ⟨c,hc⟩ : ∃ c : Nat,c = v % 2 ^ n := ⟨_,rfl⟩
 rw [← hc] at HC ⊢
 clear h1 h2 h3 h4 hn hxl hs hv hc
 go_enter Tryz.func38,Tryz.ntmps38
 repeat' (first
  | (with_reducible refine wp_exit ?_; repeat (first | with_reducible refine ex_norm ?_ | with_reducible refine ex_then ?_ | with_reducible refine ex_here ?_ | with_reducible refine ex_pass rfl ?_))
  | (go_big_may; first
   | (go_at_call 75; refine HK.out.mono ?_; rintro e w' ⟨rfl,rfl⟩)
   | (go_at_call 76; ((with_reducible refine HX.out.mono ?_); rintro e w' ⟨rfl,rfl⟩))
   | (go_at_call 76; ((with_reducible refine HC.out.mono ?_); rintro e w' ⟨rfl,rfl⟩)))
  | go_values | go_skip | go_guarded | go_step | go_upon | go_back | dsimp only)
 go_ret2
 exact ⟨rfl,rfl⟩
theorem Un_noBits (b : Int) (hb : Bad b) (op x : Int) (w : World) :
  Calls Tryz.prog 38 #[.int .i64 b,.int .i64 op,.int .u64 x] w fun e w' => e = .returned (.tuple #[.int .u64 0,.int .i64 1]) ∧ w = w' := by
 have HK := hid (known_no b hb w)
 clear hb
 go_enter Tryz.func38,Tryz.ntmps38
 repeat' (first
  | (with_reducible refine wp_exit ?_; repeat (first | with_reducible refine ex_norm ?_ | with_reducible refine ex_then ?_ | with_reducible refine ex_here ?_ | with_reducible refine ex_pass rfl ?_))
  | (go_big_may; first
   | (go_at_call 75; refine HK.out.mono ?_; rintro e w' ⟨rfl,rfl⟩))
  | go_values | go_skip | go_guarded | go_step | go_upon | go_back | dsimp only)
 go_ret2
 exact ⟨rfl,rfl⟩
theorem Un_noOp (n : Nat) (hn : Okn n) (op : Int) (hop : op < 1 ∨ 8 < op) (a : Nat) (ha : a < 18446744073709551616) (w : World) :
  Calls Tryz.prog 38 #[.int .i64 n,.int .i64 op,.int .u64 a] w fun e w' => e = .returned (.tuple #[.int .u64 0,.int .i64 1]) ∧ w = w' := by
 have HK := hid (known_yes n hn w)
 have HX := hid (cut_any n hn a ha w)
 have e1 : (op == 1) = false := by simp; omega
 have e2 : (op == 2) = false := by simp; omega
 have e3 : (op == 3) = false := by simp; omega
 have e4 : (op == 4) = false := by simp; omega
 have e5 : (op == 5) = false := by simp; omega
 have e6 : (op == 6) = false := by simp; omega
 have e7 : (op == 7) = false := by simp; omega
 have e8 : (op == 8) = false := by simp; omega
 clear ha hn hop
 go_enter Tryz.func38,Tryz.ntmps38
 repeat' (first
  | (with_reducible refine wp_exit ?_; repeat (first | with_reducible refine ex_norm ?_ | with_reducible refine ex_then ?_ | with_reducible refine ex_here ?_ | with_reducible refine ex_pass rfl ?_))
  | (go_big_may; first
   | (go_at_call 75; refine HK.out.mono ?_; rintro e w' ⟨rfl,rfl⟩)
   | (go_at_call 76; ((with_reducible refine HX.out.mono ?_); rintro e w' ⟨rfl,rfl⟩)))
  | go_values | go_skip | go_guarded | go_step | go_upon | go_back | dsimp only)
 go_ret2
 exact ⟨rfl,rfl⟩
theorem Un_any (bits op : Int) (a : Nat) (ha : a < 18446744073709551616) (w : World) :
  Calls Tryz.prog 38 #[.int .i64 bits,.int .i64 op,.int .u64 a] w fun e w' => e = .returned (.tuple #[.int .u64 ((unA bits op a).1 : Nat),.int .i64 ((unA bits op a).2 : Nat)]) ∧ w = w' := by
 by_cases hbits : Okn bits.toNat
 ·obtain ⟨n,rfl⟩ : ∃ n : Nat,bits = (n : Int) := ⟨bits.toNat,by have := hbits.le; omega⟩
  rw [Int.toNat_natCast] at hbits
  by_cases hop : 1 ≤ op ∧ op ≤ 8
  ·obtain ⟨k,rfl⟩ : ∃ k : Nat,op = (k : Int) := ⟨op.toNat,by omega⟩
   by_cases hok : (k = 4 → 8 < n) ∧ (k = 5 → 16 < n) ∧ (k = 6 → 32 < n)
   ·obtain ⟨q4,q5,q6⟩ := hok
    rw [unA,if_pos ⟨by simpa using hbits,by omega,by omega,by omega,by omega,by omega⟩,Int.toNat_natCast,Int.toNat_natCast]
    have hk : k = 1 ∨ k = 2 ∨ k = 3 ∨ k = 4 ∨ k = 5 ∨ k = 6 ∨ k = 7 ∨ k = 8 := by omega
    rcases hk with rfl | rfl | rfl | rfl | rfl | rfl | rfl | rfl
    ·exact Un_1 n hbits a ha w
    ·exact Un_2 n hbits a ha w
    ·exact Un_3 n hbits a ha w
    ·exact Un_4 n hbits (q4 rfl) a ha w
    ·exact Un_5 n hbits (q5 rfl) a ha w
    ·exact Un_6 n hbits (q6 rfl) a ha w
    ·exact Un_7 n hbits a ha w
    ·exact Un_8 n hbits a ha w
   ·rw [unA,if_neg (fun h => hok ⟨by omega,by omega,by omega⟩)]
    have hk : k = 4 ∧ n ≤ 8 ∨ k = 5 ∧ n ≤ 16 ∨ k = 6 ∧ n ≤ 32 := by omega
    rcases hk with ⟨rfl,hw⟩ | ⟨rfl,hw⟩ | ⟨rfl,hw⟩
    ·exact Un_4no n hbits hw a ha w
    ·exact Un_5no n hbits hw a ha w
    ·exact Un_6no n hbits hw a ha w
  ·rw [unA,if_neg (fun h => hop ⟨h.2.1,h.2.2.1⟩)]
   exact Un_noOp n hbits op (by omega) a ha w
 ·rw [unA,if_neg (fun h => hbits h.1)]
  exact Un_noBits bits (by unfold Bad; unfold Okn at hbits; omega) op a w
end Go.Proofs.YtbbmbhcbncenaaaGreatDoor
namespace Go.Proofs.YtbbmbhcbncenaaaGreatDoor.Sc
open Go.RowKit
def mayB (op : Int) : Bool := (decide (109 ≤ op) && decide (op ≤ 112)) || (decide (127 ≤ op) && decide (op ≤ 130)) || (decide (168 ≤ op) && decide (op ≤ 171)) || (decide (174 ≤ op) && decide (op ≤ 177))
def Pg (op : Int) (a b : Nat) : Prop := ∃ ro nm im tk lv fx tys t x e2,Row op ro nm im tk lv fx tys t ∧
 AnsG 22 #[.int .i64 op,.int .u64 (opn (argL tys a b) 0 : Nat),.int .u64 (opn (argL tys a b) 1 : Nat)] (.tuple #[.int .u64 (x : Nat),.int .i64 (e2 : Nat)]) ∧ (e2 = 0 ∨ (mayB op = true ∧ (e2 = 41 ∨ e2 = 42 ∨ e2 = 43)))
theorem pg_of (op : Int) (tys : List Int) (t : Int) (h : rowB op tys t = true) (a b x e2 : Nat)
  (HP : AnsG 22 #[.int .i64 op,.int .u64 (opn (argL tys a b) 0 : Nat),.int .u64 (opn (argL tys a b) 1 : Nat)] (.tuple #[.int .u64 (x : Nat),.int .i64 (e2 : Nat)])) (he : e2 = 0 ∨ (mayB op = true ∧ (e2 = 41 ∨ e2 = 42 ∨ e2 = 43))) : Pg op a b := by
 obtain ⟨ro,im,tk,lv,fx,P⟩ := row_of op tys t h
 exact ⟨ro,nm7 op,im,tk,lv,fx,tys,t,x,e2,P,HP,he⟩
theorem relA_0 (n : Nat) (hn : Okn n) (q : Int) (h : 1 ≤ q ∧ q ≤ 10) (a b : Nat) : (relA n q a b).2 = 0 := by
 unfold relA
 rw [if_pos ⟨by simpa using hn,h.1,h.2⟩]
theorem unA_0 (n : Nat) (hn : n = 32 ∨ n = 64) (q : Int) (h : 1 ≤ q ∧ q ≤ 6) (hx : q = 6 → n = 64) (a : Nat) : (unA n q a).2 = 0 := by
 unfold unA
 rw [if_pos ⟨by rcases hn with rfl | rfl <;> decide,h.1,by omega,by omega,by omega,by omega⟩]
theorem divR_e (n op a b : Nat) : (divR n op a b).2 = 0 ∨ (divR n op a b).2 = 41 ∨ (divR n op a b).2 = 42 := by
 unfold divR
 repeat' split
 all_goals simp
theorem binR_e (n k a b : Nat) (hk1 : 1 ≤ k) : (binR n k a b).2 = 0 ∨ (4 ≤ k ∧ k ≤ 7 ∧ ((binR n k a b).2 = 41 ∨ (binR n k a b).2 = 42)) := by
 unfold binR
 by_cases h1 : k = 1
 ·rw [if_pos h1]; exact .inl rfl
 ·rw [if_neg h1]
  by_cases h2 : k = 2
  ·rw [if_pos h2]; exact .inl rfl
  ·rw [if_neg h2]
   by_cases h3 : k = 3
   ·rw [if_pos h3]; exact .inl rfl
   ·rw [if_neg h3]
    by_cases h4 : k ≤ 7
    ·rw [if_pos h4]
     rcases divR_e n k a b with h | h | h
     ·exact .inl h
     ·by_cases hk : 4 ≤ k
      ·exact .inr ⟨hk,h4,.inl h⟩
      ·omega
     ·by_cases hk : 4 ≤ k
      ·exact .inr ⟨hk,h4,.inr h⟩
      ·omega
    ·rw [if_neg h4]
     left
     repeat' split
     all_goals rfl
theorem binA_e (n : Nat) (hn : n = 32 ∨ n = 64) (q : Int) (h : 1 ≤ q ∧ q ≤ 15) (a b : Nat) : (binA n q a b).2 = 0 ∨ (4 ≤ q ∧ q ≤ 7 ∧ ((binA n q a b).2 = 41 ∨ (binA n q a b).2 = 42)) := by
 unfold binA
 rw [if_pos ⟨by rcases hn with rfl | rfl <;> decide,h.1,by omega,by omega⟩]
 rcases binR_e (n : Int).toNat q.toNat (a % 2 ^ (n : Int).toNat) (b % 2 ^ (n : Int).toNat) (by omega) with h0 | ⟨h1,h2,h3⟩
 ·exact .inl h0
 ·exact .inr ⟨by omega,by omega,h3⟩
theorem rows_iR32 : ((List.range 10).all fun k => rowB (70 + (k : Int)) [127,127] 127) = true := by kernel_rfl
theorem pg_iR32 (op : Int) (h1 : 70 ≤ op) (h2 : op < 80) (a b : Nat) (ha : a < 18446744073709551616) (hb : b < 18446744073709551616) : Pg op a b := by
 have hrow : rowB op [127,127] 127 = true := by
  have h := List.all_eq_true.1 rows_iR32 (op - 70).toNat (List.mem_range.2 (by omega))
  rw [show ((70 : Int) + ((op - 70).toNat : Int)) = op by omega] at h
  exact h
 have ha' := cutT_lt 127 a ha
 have hb' := cutT_lt 127 b hb
 obtain ⟨q,hq⟩ : ∃ q,q = op - 69 := ⟨_,rfl⟩
 refine pg_of op [127,127] 127 hrow a b (if (relA 32 q (cutT 127 a) (cutT 127 b)).1 then 1 else 0) ((relA 32 q (cutT 127 a) (cutT 127 b)).2) ?_ ?_
 ·show AnsG 22 #[.int .i64 op,.int .u64 ((cutT 127 a : Nat) : Int),.int .u64 (((cutT 127 b : Nat) : Nat) : Int)] _
  exact Ans.g (res_cmp op (by omega) (by omega) _ _ _ _ (cmp_i32 op q hq (by omega) (by omega) _ _ _ _ (ans_eq fun W => Rel_any 32 q _ _ ha' hb' W)))
 ·exact .inl (relA_0 32 (by decide) q (by omega) _ _)
theorem rows_iR64 : ((List.range 10).all fun k => rowB (81 + (k : Int)) [126,126] 127) = true := by kernel_rfl
theorem pg_iR64 (op : Int) (h1 : 81 ≤ op) (h2 : op < 91) (a b : Nat) (ha : a < 18446744073709551616) (hb : b < 18446744073709551616) : Pg op a b := by
 have hrow : rowB op [126,126] 127 = true := by
  have h := List.all_eq_true.1 rows_iR64 (op - 81).toNat (List.mem_range.2 (by omega))
  rw [show ((81 : Int) + ((op - 81).toNat : Int)) = op by omega] at h
  exact h
 have ha' := cutT_lt 126 a ha
 have hb' := cutT_lt 126 b hb
 obtain ⟨q,hq⟩ : ∃ q,q = op - 80 := ⟨_,rfl⟩
 refine pg_of op [126,126] 127 hrow a b (if (relA 64 q (cutT 126 a) (cutT 126 b)).1 then 1 else 0) ((relA 64 q (cutT 126 a) (cutT 126 b)).2) ?_ ?_
 ·show AnsG 22 #[.int .i64 op,.int .u64 ((cutT 126 a : Nat) : Int),.int .u64 (((cutT 126 b : Nat) : Nat) : Int)] _
  exact Ans.g (res_cmp op (by omega) (by omega) _ _ _ _ (cmp_i64 op q hq (by omega) (by omega) _ _ _ _ (ans_eq fun W => Rel_any 64 q _ _ ha' hb' W)))
 ·exact .inl (relA_0 64 (by decide) q (by omega) _ _)
theorem rows_ez32 : ((List.range 1).all fun k => rowB (69 + (k : Int)) [127] 127) = true := by kernel_rfl
theorem pg_ez32 (op : Int) (h1 : 69 ≤ op) (h2 : op < 70) (a b : Nat) (ha : a < 18446744073709551616) (hb : b < 18446744073709551616) : Pg op a b := by
 have hrow : rowB op [127] 127 = true := by
  have h := List.all_eq_true.1 rows_ez32 (op - 69).toNat (List.mem_range.2 (by omega))
  rw [show ((69 : Int) + ((op - 69).toNat : Int)) = op by omega] at h
  exact h
 have ha' := cutT_lt 127 a ha
 have hb' : 0 < 18446744073709551616 := by decide
 refine pg_of op [127] 127 hrow a b (if (relA 32 1 (cutT 127 a) 0).1 then 1 else 0) ((relA 32 1 (cutT 127 a) 0).2) ?_ ?_
 ·show AnsG 22 #[.int .i64 op,.int .u64 ((cutT 127 a : Nat) : Int),.int .u64 ((0 : Nat) : Int)] _
  exact Ans.g (res_cmp op (by omega) (by omega) _ _ _ _ (cmp_ez32 op (by omega) (by omega) _ _ _ _ (ans_eq fun W => Rel_any 32 1 _ 0 ha' hb' W)))
 ·exact .inl (relA_0 32 (by decide) 1 (by decide) _ _)
theorem rows_ez64 : ((List.range 1).all fun k => rowB (80 + (k : Int)) [126] 127) = true := by kernel_rfl
theorem pg_ez64 (op : Int) (h1 : 80 ≤ op) (h2 : op < 81) (a b : Nat) (ha : a < 18446744073709551616) (hb : b < 18446744073709551616) : Pg op a b := by
 have hrow : rowB op [126] 127 = true := by
  have h := List.all_eq_true.1 rows_ez64 (op - 80).toNat (List.mem_range.2 (by omega))
  rw [show ((80 : Int) + ((op - 80).toNat : Int)) = op by omega] at h
  exact h
 have ha' := cutT_lt 126 a ha
 have hb' : 0 < 18446744073709551616 := by decide
 refine pg_of op [126] 127 hrow a b (if (relA 64 1 (cutT 126 a) 0).1 then 1 else 0) ((relA 64 1 (cutT 126 a) 0).2) ?_ ?_
 ·show AnsG 22 #[.int .i64 op,.int .u64 ((cutT 126 a : Nat) : Int),.int .u64 ((0 : Nat) : Int)] _
  exact Ans.g (res_cmp op (by omega) (by omega) _ _ _ _ (cmp_ez64 op (by omega) (by omega) _ _ _ _ (ans_eq fun W => Rel_any 64 1 _ 0 ha' hb' W)))
 ·exact .inl (relA_0 64 (by decide) 1 (by decide) _ _)
theorem rows_iU32 : ((List.range 3).all fun k => rowB (103 + (k : Int)) [127] 127) = true := by kernel_rfl
theorem pg_iU32 (op : Int) (h1 : 103 ≤ op) (h2 : op < 106) (a b : Nat) (ha : a < 18446744073709551616) (hb : b < 18446744073709551616) : Pg op a b := by
 have hrow : rowB op [127] 127 = true := by
  have h := List.all_eq_true.1 rows_iU32 (op - 103).toNat (List.mem_range.2 (by omega))
  rw [show ((103 : Int) + ((op - 103).toNat : Int)) = op by omega] at h
  exact h
 have ha' := cutT_lt 127 a ha
 have hb' : 0 < 18446744073709551616 := by decide
 obtain ⟨q,hq⟩ : ∃ q,q = op - 102 := ⟨_,rfl⟩
 refine pg_of op [127] 127 hrow a b ((unA 32 q (cutT 127 a)).1) ((unA 32 q (cutT 127 a)).2) ?_ ?_
 ·show AnsG 22 #[.int .i64 op,.int .u64 ((cutT 127 a : Nat) : Int),.int .u64 ((0 : Nat) : Int)] _
  exact Ans.g (res_com op (by omega) (by omega) _ _ _ _ (com_u32 op q hq (by omega) (by omega) _ _ _ _ (ans_eq fun W => Un_any 32 q _ ha' W)))
 ·exact .inl (unA_0 32 (by decide) q (by omega) (by omega) _)
theorem rows_iU64 : ((List.range 3).all fun k => rowB (121 + (k : Int)) [126] 126) = true := by kernel_rfl
theorem pg_iU64 (op : Int) (h1 : 121 ≤ op) (h2 : op < 124) (a b : Nat) (ha : a < 18446744073709551616) (hb : b < 18446744073709551616) : Pg op a b := by
 have hrow : rowB op [126] 126 = true := by
  have h := List.all_eq_true.1 rows_iU64 (op - 121).toNat (List.mem_range.2 (by omega))
  rw [show ((121 : Int) + ((op - 121).toNat : Int)) = op by omega] at h
  exact h
 have ha' := cutT_lt 126 a ha
 have hb' : 0 < 18446744073709551616 := by decide
 obtain ⟨q,hq⟩ : ∃ q,q = op - 120 := ⟨_,rfl⟩
 refine pg_of op [126] 126 hrow a b ((unA 64 q (cutT 126 a)).1) ((unA 64 q (cutT 126 a)).2) ?_ ?_
 ·show AnsG 22 #[.int .i64 op,.int .u64 ((cutT 126 a : Nat) : Int),.int .u64 ((0 : Nat) : Int)] _
  exact Ans.g (res_com op (by omega) (by omega) _ _ _ _ (com_u64 op q hq (by omega) (by omega) _ _ _ _ (ans_eq fun W => Un_any 64 q _ ha' W)))
 ·exact .inl (unA_0 64 (by decide) q (by omega) (by omega) _)
theorem rows_iX32 : ((List.range 2).all fun k => rowB (192 + (k : Int)) [127] 127) = true := by kernel_rfl
theorem pg_iX32 (op : Int) (h1 : 192 ≤ op) (h2 : op < 194) (a b : Nat) (ha : a < 18446744073709551616) (hb : b < 18446744073709551616) : Pg op a b := by
 have hrow : rowB op [127] 127 = true := by
  have h := List.all_eq_true.1 rows_iX32 (op - 192).toNat (List.mem_range.2 (by omega))
  rw [show ((192 : Int) + ((op - 192).toNat : Int)) = op by omega] at h
  exact h
 have ha' := cutT_lt 127 a ha
 have hb' : 0 < 18446744073709551616 := by decide
 obtain ⟨q,hq⟩ : ∃ q,q = op - 188 := ⟨_,rfl⟩
 refine pg_of op [127] 127 hrow a b ((unA 32 q (cutT 127 a)).1) ((unA 32 q (cutT 127 a)).2) ?_ ?_
 ·show AnsG 22 #[.int .i64 op,.int .u64 ((cutT 127 a : Nat) : Int),.int .u64 ((0 : Nat) : Int)] _
  exact Ans.g (res_x32 op q hq (by omega) (by omega) _ _ _ _ (ans_eq fun W => Un_any 32 q _ ha' W))
 ·exact .inl (unA_0 32 (by decide) q (by omega) (by omega) _)
theorem rows_iX64 : ((List.range 3).all fun k => rowB (194 + (k : Int)) [126] 126) = true := by kernel_rfl
theorem pg_iX64 (op : Int) (h1 : 194 ≤ op) (h2 : op < 197) (a b : Nat) (ha : a < 18446744073709551616) (hb : b < 18446744073709551616) : Pg op a b := by
 have hrow : rowB op [126] 126 = true := by
  have h := List.all_eq_true.1 rows_iX64 (op - 194).toNat (List.mem_range.2 (by omega))
  rw [show ((194 : Int) + ((op - 194).toNat : Int)) = op by omega] at h
  exact h
 have ha' := cutT_lt 126 a ha
 have hb' : 0 < 18446744073709551616 := by decide
 obtain ⟨q,hq⟩ : ∃ q,q = op - 190 := ⟨_,rfl⟩
 refine pg_of op [126] 126 hrow a b ((unA 64 q (cutT 126 a)).1) ((unA 64 q (cutT 126 a)).2) ?_ ?_
 ·show AnsG 22 #[.int .i64 op,.int .u64 ((cutT 126 a : Nat) : Int),.int .u64 ((0 : Nat) : Int)] _
  exact Ans.g (res_x64 op q hq (by omega) (by omega) _ _ _ _ (ans_eq fun W => Un_any 64 q _ ha' W))
 ·exact .inl (unA_0 64 (by decide) q (by omega) (by omega) _)
theorem rows_iB32 : ((List.range 15).all fun k => rowB (106 + (k : Int)) [127,127] 127) = true := by kernel_rfl
theorem pg_iB32 (op : Int) (h1 : 106 ≤ op) (h2 : op < 121) (a b : Nat) (ha : a < 18446744073709551616) (hb : b < 18446744073709551616) : Pg op a b := by
 have hrow : rowB op [127,127] 127 = true := by
  have h := List.all_eq_true.1 rows_iB32 (op - 106).toNat (List.mem_range.2 (by omega))
  rw [show ((106 : Int) + ((op - 106).toNat : Int)) = op by omega] at h
  exact h
 have ha' := cutT_lt 127 a ha
 have hb' := cutT_lt 127 b hb
 obtain ⟨q,hq⟩ : ∃ q,q = op - 105 := ⟨_,rfl⟩
 refine pg_of op [127,127] 127 hrow a b ((binA 32 q (cutT 127 a) (cutT 127 b)).1) ((binA 32 q (cutT 127 a) (cutT 127 b)).2) ?_ ?_
 ·show AnsG 22 #[.int .i64 op,.int .u64 ((cutT 127 a : Nat) : Int),.int .u64 (((cutT 127 b : Nat) : Nat) : Int)] _
  exact Ans.g (res_com op (by omega) (by omega) _ _ _ _ (com_b32 op q hq (by omega) (by omega) _ _ _ _ (ans_eq fun W => Bin_any 32 q _ _ ha' hb' W)))
 ·rcases binA_e 32 (by decide) q (by omega) (cutT 127 a) (cutT 127 b) with h | ⟨h3,h4,h5⟩
  ·exact .inl h
  ·refine .inr ⟨?_,?_⟩
   ·unfold mayB; simp; omega
   ·rcases h5 with h | h
    ·exact .inl h
    ·exact .inr (.inl h)
theorem rows_iB64 : ((List.range 15).all fun k => rowB (124 + (k : Int)) [126,126] 126) = true := by kernel_rfl
theorem pg_iB64 (op : Int) (h1 : 124 ≤ op) (h2 : op < 139) (a b : Nat) (ha : a < 18446744073709551616) (hb : b < 18446744073709551616) : Pg op a b := by
 have hrow : rowB op [126,126] 126 = true := by
  have h := List.all_eq_true.1 rows_iB64 (op - 124).toNat (List.mem_range.2 (by omega))
  rw [show ((124 : Int) + ((op - 124).toNat : Int)) = op by omega] at h
  exact h
 have ha' := cutT_lt 126 a ha
 have hb' := cutT_lt 126 b hb
 obtain ⟨q,hq⟩ : ∃ q,q = op - 123 := ⟨_,rfl⟩
 refine pg_of op [126,126] 126 hrow a b ((binA 64 q (cutT 126 a) (cutT 126 b)).1) ((binA 64 q (cutT 126 a) (cutT 126 b)).2) ?_ ?_
 ·show AnsG 22 #[.int .i64 op,.int .u64 ((cutT 126 a : Nat) : Int),.int .u64 (((cutT 126 b : Nat) : Nat) : Int)] _
  exact Ans.g (res_com op (by omega) (by omega) _ _ _ _ (com_b64 op q hq (by omega) (by omega) _ _ _ _ (ans_eq fun W => Bin_any 64 q _ _ ha' hb' W)))
 ·rcases binA_e 64 (by decide) q (by omega) (cutT 126 a) (cutT 126 b) with h | ⟨h3,h4,h5⟩
  ·exact .inl h
  ·refine .inr ⟨?_,?_⟩
   ·unfold mayB; simp; omega
   ·rcases h5 with h | h
    ·exact .inl h
    ·exact .inr (.inl h)
end Go.Proofs.YtbbmbhcbncenaaaGreatDoor.Sc
namespace Go.Proofs.YtbbmbhcbncenaaaGreatDoor.Fl
open Ieee
def rne (n d : Nat) : Nat :=
  n / 2 ^ d + (if 2 ^ d < 2 * (n % 2 ^ d) ∨ (2 ^ d = 2 * (n % 2 ^ d) ∧ n / 2 ^ d % 2 = 1) then 1 else 0)
theorem log2_two_pow_mul {m : Nat} (hm : m ≠ 0) (k : Nat) : (m * 2 ^ k).log2 = m.log2 + k := by
  have h2 : 0 < 2 ^ k := Nat.two_pow_pos k
  have hne : m * 2 ^ k ≠ 0 := Nat.mul_ne_zero hm (by omega)
  rw [Nat.log2_eq_iff hne]
  have h1 := Nat.log2_self_le hm
  have h3 := @Nat.lt_log2_self m
  constructor
  · rw [Nat.pow_add]; exact Nat.mul_le_mul_right _ h1
  · rw [show m.log2 + k + 1 = (m.log2 + 1) + k by omega, Nat.pow_add 2 (m.log2 + 1) k]
    exact Nat.mul_lt_mul_of_pos_right h3 h2
theorem rne_zero (n : Nat) : rne n 0 = n := by
  unfold rne; simp [Nat.mod_one]
theorem rne_big {n d : Nat} (h : 2 * n < 2 ^ d) : rne n d = 0 := by
  unfold rne
  have h1 : n < 2 ^ d := by omega
  rw [Nat.div_eq_of_lt h1, Nat.mod_eq_of_lt h1]
  simp
  omega
theorem cut_rne (neg : Bool) (n d : Nat) : Toward.even.cut neg n d = rne n d := by
  have key : ∀ D : Nat, (n / 2 ^ D + (decide (2 ^ D < 2 * (n % 2 ^ D)) || (2 ^ D == 2 * (n % 2 ^ D) && n / 2 ^ D % 2 == 1)).toNat) = rne n D := by
    intro D
    unfold rne
    congr 1
    by_cases h1 : 2 ^ D < 2 * (n % 2 ^ D)
    · simp [h1]
    · by_cases h2 : 2 ^ D = 2 * (n % 2 ^ D)
      · by_cases h3 : n / 2 ^ D % 2 = 1
        · simp [h1, h2.symm, h3]
        · have : (n / 2 ^ D % 2 == 1) = false := by simpa using h3
          simp [h1, h2.symm, h3]
      · have : (2 ^ D == 2 * (n % 2 ^ D)) = false := by simpa using h2
        simp [h1, h2, this]
  unfold Toward.cut
  simp only [Nat.one_shiftLeft]
  by_cases h : d ≤ n.log2 + 2
  · rw [Nat.min_eq_left h]; exact key d
  · rw [Nat.min_eq_right (by omega), key]
    have hn := @Nat.lt_log2_self n
    have e : (2 : Nat) ^ (n.log2 + 2) = 2 * 2 ^ (n.log2 + 1) := by rw [show n.log2 + 2 = (n.log2 + 1) + 1 by omega, Nat.pow_succ]; omega
    have hle : (2 : Nat) ^ (n.log2 + 2) ≤ 2 ^ d := Nat.pow_le_pow_right (by omega) (by omega)
    rw [rne_big (by omega), rne_big (by omega)]
theorem rne_scale (n d k : Nat) : rne (n * 2 ^ k) (d + k) = rne n d := by
  have h2 : 0 < 2 ^ k := Nat.two_pow_pos k
  unfold rne
  rw [Nat.pow_add, Nat.mul_div_mul_right _ _ h2, Nat.mul_mod_mul_right]
  congr 1
  have e1 : 2 ^ d * 2 ^ k < 2 * (n % 2 ^ d * 2 ^ k) ↔ 2 ^ d < 2 * (n % 2 ^ d) := by
    rw [← Nat.mul_assoc]; exact Nat.mul_lt_mul_right h2
  have e2 : 2 ^ d * 2 ^ k = 2 * (n % 2 ^ d * 2 ^ k) ↔ 2 ^ d = 2 * (n % 2 ^ d) := by
    rw [← Nat.mul_assoc]; exact ⟨fun h => Nat.eq_of_mul_eq_mul_right h2 h, fun h => congrArg (· * 2 ^ k) h⟩
  simp only [e1, e2]
def rneI (n : Nat) (d : Int) : Nat := if 0 ≤ d then rne n d.toNat else n * 2 ^ (-d).toNat
theorem rneI_scale (n : Nat) (d : Int) (k : Nat) : rneI (n * 2 ^ k) (d + k) = rneI n d := by
  unfold rneI
  by_cases h : 0 ≤ d
  · rw [if_pos h, if_pos (by omega), show (d + k).toNat = d.toNat + k by omega, rne_scale]
  · rw [if_neg h]
    by_cases h' : 0 ≤ d + k
    · rw [if_pos h']
      obtain ⟨j, hj⟩ : ∃ j : Nat, j = (d + k).toNat := ⟨_, rfl⟩
      have e : k = (-d).toNat + j := by omega
      rw [← hj]
      have e3 : n * 2 ^ k = n * 2 ^ (-d).toNat * 2 ^ j := by rw [Nat.mul_assoc, ← Nat.pow_add, ← e]
      have := rne_scale (n * 2 ^ (-d).toNat) 0 j
      rw [Nat.zero_add, rne_zero] at this
      rw [e3, this]
    · rw [if_neg h']
      rw [Nat.mul_assoc, ← Nat.pow_add]
      congr 2
      omega
def lastP (f : Format) (m : Nat) (e : Int) : Int := max (e + m.log2 - f.fractionBits) f.leastPlace
def rungOf (f : Format) (m : Nat) (e : Int) : Nat :=
  if m = 0 then 0 else min ((lastP f m e - f.leastPlace).toNat * 2 ^ f.fractionBits + rneI m (lastP f m e - e)) f.infRung
theorem nearest_eq (f : Format) (neg : Bool) (m : Nat) (e : Int) : f.nearest neg m e = f.word neg (rungOf f m e) := by
  unfold Format.nearest rungOf
  by_cases hm : m = 0
  · simp [hm]
  · simp only [if_neg hm]
    rw [show max (e + ↑m.log2 - ↑f.fractionBits) f.leastPlace = lastP f m e from rfl]
    congr 2
    rw [cut_rne]
    show _ = _ + rneI m (lastP f m e - e)
    congr 1
    unfold rneI
    rw [Nat.shiftLeft_eq]
    by_cases h : 0 ≤ lastP f m e - e
    · rw [if_pos h, show (e - lastP f m e).toNat = 0 by omega]; simp
    · rw [if_neg h, show (lastP f m e - e).toNat = 0 by omega, rne_zero, show (-(lastP f m e - e)).toNat = (e - lastP f m e).toNat by omega]
theorem lastP_scale (f : Format) {m : Nat} (hm : m ≠ 0) (e : Int) (k : Nat) : lastP f (m * 2 ^ k) (e - k) = lastP f m e := by
  unfold lastP; rw [log2_two_pow_mul hm]; congr 2; omega
theorem rungOf_scale (f : Format) (m : Nat) (e : Int) (k : Nat) : rungOf f (m * 2 ^ k) (e - k) = rungOf f m e := by
  by_cases hm : m = 0
  · simp [rungOf, hm]
  · have h2 : 0 < 2 ^ k := Nat.two_pow_pos k
    have hne : m * 2 ^ k ≠ 0 := Nat.mul_ne_zero hm (by omega)
    unfold rungOf
    rw [if_neg hm, if_neg hne, lastP_scale f hm]
    rw [show lastP f m e - (e - k) = lastP f m e - e + k by omega, rneI_scale]
def jam (M d : Nat) : Nat := 2 * (M / 2 ^ d) + (if M % 2 ^ d = 0 then 0 else 1)
theorem jam_log2 {M d : Nat} (h : M / 2 ^ d ≠ 0) : (jam M d).log2 + d = M.log2 + 1 := by
  have hq : (jam M d).log2 = (M / 2 ^ d).log2 + 1 := by
    have hne : jam M d ≠ 0 := by unfold jam; omega
    rw [Nat.log2_eq_iff hne]
    have h1 := Nat.log2_self_le h
    have h2 := @Nat.lt_log2_self (M / 2 ^ d)
    have e1 : (2 : Nat) ^ ((M / 2 ^ d).log2 + 1) = 2 * 2 ^ (M / 2 ^ d).log2 := by rw [Nat.pow_succ]; omega
    have e2 : (2 : Nat) ^ ((M / 2 ^ d).log2 + 1 + 1) = 2 * 2 ^ ((M / 2 ^ d).log2 + 1) := by rw [Nat.pow_succ 2 ((M / 2 ^ d).log2 + 1)]; omega
    unfold jam
    constructor
    · rw [e1]; omega
    · rw [e2]; split <;> omega
  have hM : M.log2 = (M / 2 ^ d).log2 + d := by
    have hM0 : M ≠ 0 := by intro h0; rw [h0] at h; simp at h
    rw [Nat.log2_eq_iff hM0]
    have h1 := Nat.log2_self_le h
    have h2 := @Nat.lt_log2_self (M / 2 ^ d)
    have hp : 0 < 2 ^ d := Nat.two_pow_pos d
    have hdm := Nat.div_add_mod M (2 ^ d)
    have hml := Nat.mod_lt M hp
    constructor
    · rw [Nat.pow_add]
      calc 2 ^ (M / 2 ^ d).log2 * 2 ^ d ≤ M / 2 ^ d * 2 ^ d := Nat.mul_le_mul_right _ h1
        _ ≤ M := Nat.div_mul_le_self _ _
    · rw [show (M / 2 ^ d).log2 + d + 1 = ((M / 2 ^ d).log2 + 1) + d by omega, Nat.pow_add 2 ((M / 2 ^ d).log2 + 1)]
      exact (Nat.div_lt_iff_lt_mul hp).1 h2
  omega
theorem rne_jam (M d D : Nat) (hD : 2 ≤ D) : rne (jam M d) D = rne M (D + d - 1) := by
  obtain ⟨c, rfl⟩ : ∃ c, D = c + 2 := ⟨D - 2, by omega⟩
  rw [show c + 2 + d - 1 = c + 1 + d by omega]
  have hp : 0 < 2 ^ d := Nat.two_pow_pos d
  have hh : 0 < 2 ^ c := Nat.two_pow_pos c
  have hdm := Nat.div_add_mod M (2 ^ d)
  have hml := Nat.mod_lt M hp
  obtain ⟨q, hq⟩ : ∃ q, q = M / 2 ^ d := ⟨_, rfl⟩
  obtain ⟨r, hr⟩ : ∃ r, r = M % 2 ^ d := ⟨_, rfl⟩
  obtain ⟨P, hP⟩ : ∃ P, P = 2 ^ d := ⟨_, rfl⟩
  obtain ⟨h, hh'⟩ : ∃ h, h = 2 ^ c := ⟨_, rfl⟩
  have hqd := Nat.div_add_mod q (2 * h)
  have hql := Nat.mod_lt q (show 0 < 2 * h by omega)
  have e1 : (2 : Nat) ^ (c + 2) = 4 * h := by rw [Nat.pow_add, hh']; omega
  have e2 : (2 : Nat) ^ (c + 1 + d) = P * (2 * h) := by rw [Nat.pow_add, Nat.pow_succ, hh', hP, Nat.mul_comm (2 ^ c) 2, Nat.mul_comm]
  unfold rne jam
  rw [← hq, ← hr, e1, e2]
  -- quotients
  have s2 : (if r = 0 then (0 : Nat) else 1) < 2 := by split <;> omega
  obtain ⟨s, hs⟩ : ∃ s, s = (if r = 0 then (0 : Nat) else 1) := ⟨_, rfl⟩
  rw [← hs] at s2 ⊢
  obtain ⟨Q, hQ⟩ : ∃ Q, Q = q / (2 * h) := ⟨_, rfl⟩
  obtain ⟨q', hq'⟩ : ∃ q', q' = q % (2 * h) := ⟨_, rfl⟩
  rw [← hQ, ← hq'] at hqd
  rw [← hq'] at hql
  have d1 : (2 * q + s) / (4 * h) = Q := by
    rw [show 2 * q + s = (2 * q' + s) + (4 * h) * Q by rw [← hqd, Nat.mul_add]; have : 2 * (2 * h * Q) = 4 * h * Q := by rw [← Nat.mul_assoc, ← Nat.mul_assoc]; 
                                                       omega]
    rw [Nat.add_mul_div_left _ _ (by omega), Nat.div_eq_of_lt (by omega)]; omega
  have m1 : (2 * q + s) % (4 * h) = 2 * q' + s := by
    rw [show 2 * q + s = (2 * q' + s) + (4 * h) * Q by rw [← hqd, Nat.mul_add]; have : 2 * (2 * h * Q) = 4 * h * Q := by rw [← Nat.mul_assoc, ← Nat.mul_assoc]; 
                                                       omega]
    rw [Nat.add_mul_mod_self_left, Nat.mod_eq_of_lt (by omega)]
  have d2 : M / (P * (2 * h)) = Q := by rw [hP, ← Nat.div_div_eq_div_mul, ← hq, hQ]
  have m2 : M % (P * (2 * h)) = r + P * q' := by rw [hP, Nat.mod_mul, ← hq, ← hr, ← hq']
  rw [d1, m1, d2, m2]
  rw [← hr, ← hP] at hml
  rw [← hP] at hp
  congr 1
  have c1 : 4 * h < 2 * (2 * q' + s) ↔ P * (2 * h) < 2 * (r + P * q') := by
    rw [show P * (2 * h) = 2 * (P * h) by rw [← Nat.mul_assoc, Nat.mul_comm P 2, Nat.mul_assoc]]
    rcases Nat.lt_trichotomy q' h with hl | hl | hl
    · have : P * (q' + 1) ≤ P * h := Nat.mul_le_mul_left _ hl
      rw [Nat.mul_add] at this
      constructor <;> intro _ <;> omega
    · subst hl
      by_cases h0 : r = 0
      · rw [if_pos h0] at hs; constructor <;> intro _ <;> omega
      · rw [if_neg h0] at hs; constructor <;> intro _ <;> omega
    · have : P * (h + 1) ≤ P * q' := Nat.mul_le_mul_left _ hl
      rw [Nat.mul_add] at this
      constructor <;> intro _ <;> omega
  have c2 : 4 * h = 2 * (2 * q' + s) ↔ P * (2 * h) = 2 * (r + P * q') := by
    rw [show P * (2 * h) = 2 * (P * h) by rw [← Nat.mul_assoc, Nat.mul_comm P 2, Nat.mul_assoc]]
    rcases Nat.lt_trichotomy q' h with hl | hl | hl
    · have : P * (q' + 1) ≤ P * h := Nat.mul_le_mul_left _ hl
      rw [Nat.mul_add] at this
      constructor <;> intro _ <;> omega
    · subst hl
      by_cases h0 : r = 0
      · rw [if_pos h0] at hs; constructor <;> intro _ <;> omega
      · rw [if_neg h0] at hs; constructor <;> intro _ <;> omega
    · have : P * (h + 1) ≤ P * q' := Nat.mul_le_mul_left _ hl
      rw [Nat.mul_add] at this
      constructor <;> intro _ <;> omega
  simp only [c1, c2]
theorem rungOf_jam (f : Format) (M d : Nat) (e : Int) (h : 2 ^ (f.fractionBits + 1) ≤ M / 2 ^ d) : rungOf f (jam M d) (e + d - 1) = rungOf f M e := by
  have hp : 0 < 2 ^ (f.fractionBits + 1) := Nat.two_pow_pos _
  have hq : M / 2 ^ d ≠ 0 := by omega
  have hM : M ≠ 0 := by intro h0; rw [h0] at hq; simp at hq
  have hj : jam M d ≠ 0 := by unfold jam; omega
  have hl := jam_log2 hq
  have hL : lastP f (jam M d) (e + d - 1) = lastP f M e := by unfold lastP; congr 2; omega
  have hlog : f.fractionBits + 2 ≤ (jam M d).log2 := by
    rw [Nat.le_log2 hj]
    unfold jam
    rw [Nat.pow_succ]; omega
  unfold rungOf
  rw [if_neg hM, if_neg hj, hL]
  congr 2
  unfold rneI
  have hge : e + d - 1 + (jam M d).log2 - f.fractionBits ≤ lastP f (jam M d) (e + d - 1) := Int.le_max_left _ _
  rw [hL] at hge
  rw [if_pos (by omega), if_pos (by omega), rne_jam _ _ _ (by omega)]
  congr 1
  omega
def rungR (f : Format) (m : Nat) (e : Int) (more : Bool) : Nat := rungOf f (2 * m + more.toNat) (e - 1)
theorem rungR_false (f : Format) (m : Nat) (e : Int) : rungR f m e false = rungOf f m e := by
  have := rungOf_scale f m e 1
  unfold rungR
  rw [← this]
  congr 1
  simp; omega
theorem rungR_jam (f : Format) (M d : Nat) (e : Int) (h : M % 2 ^ d ≠ 0 → 2 ^ (f.fractionBits + 1) ≤ M / 2 ^ d) :
    rungR f (M / 2 ^ d) (e + d) (decide (M % 2 ^ d ≠ 0)) = rungOf f M e := by
  by_cases h0 : M % 2 ^ d = 0
  · simp only [h0, ne_eq, not_true_eq_false, decide_false, rungR_false]
    have := rungOf_scale f (M / 2 ^ d) (e + d) d
    rw [Nat.div_mul_cancel (Nat.dvd_of_mod_eq_zero h0), show e + ↑d - ↑d = e by omega] at this
    exact this.symm
  · rw [← rungOf_jam f M d e (h h0)]
    unfold rungR jam
    simp [h0]
theorem rungR_scale (f : Format) (m : Nat) (e : Int) (more : Bool) (k : Nat) (h : more = true → 2 ^ (f.fractionBits + 1) ≤ m) :
    rungR f (m * 2 ^ k) (e - k) more = rungR f m e more := by
  cases more with
  | false => rw [rungR_false, rungR_false, rungOf_scale]
  | true =>
    have hk : 0 < 2 ^ k := Nat.two_pow_pos k
    have hk1 : 1 < 2 ^ (k + 1) := by rw [Nat.pow_succ]; omega
    have hdiv : (2 * (m * 2 ^ k) + 1) / 2 ^ (k + 1) = m := by
      rw [show 2 * (m * 2 ^ k) + 1 = 1 + 2 ^ (k + 1) * m by rw [Nat.pow_succ, Nat.mul_comm m, Nat.mul_comm (2 ^ k) 2, Nat.mul_assoc]; omega]
      rw [Nat.add_mul_div_left _ _ (by omega), Nat.div_eq_of_lt hk1]; omega
    have hmod : (2 * (m * 2 ^ k) + 1) % 2 ^ (k + 1) = 1 := by
      rw [show 2 * (m * 2 ^ k) + 1 = 1 + 2 ^ (k + 1) * m by rw [Nat.pow_succ, Nat.mul_comm m, Nat.mul_comm (2 ^ k) 2, Nat.mul_assoc]; omega]
      rw [Nat.add_mul_mod_self_left, Nat.mod_eq_of_lt hk1]
    have := rungOf_jam f (2 * (m * 2 ^ k) + 1) (k + 1) (e - k - 1) (by rw [hdiv]; exact h rfl)
    unfold rungR
    show rungOf f (2 * (m * 2 ^ k) + 1) (e - k - 1) = _
    rw [← this]
    unfold jam
    rw [hdiv, hmod]
    simp
    congr 1
    omega
end Go.Proofs.YtbbmbhcbncenaaaGreatDoor.Fl
namespace Go.Proofs.YtbbmbhcbncenaaaGreatDoor.Fl
open Go.RowKit
theorem hid {p : Prop} (h : p) : Hid p := h
theorem bnext {w w1 w2 : World} (h : Below w.heap.size w w1) (k : Below w1.heap.size w1 w2) : Below w.heap.size w w2 := h.trans (k.mono h.size)
theorem bkeep {w1 w2 : World} {a : Addr} {v : Value} (h : w1.cell? a = some v) (hb : Below w1.heap.size w1 w2) : w2.cell? a = some v := by
 rw [hb.cell (World.block_lt_of_cell? _ _ h)]; exact h
theorem word_and {k a : Nat} (ha : a < 2 * 2 ^ k) : a &&& 2 ^ k = if 2 ^ k ≤ a then 2 ^ k else 0 := by
 have hp : 0 < 2 ^ k := Nat.two_pow_pos k
 have h1 : a.testBit k = decide (2 ^ k ≤ a) := by
  rw [Nat.testBit_eq_decide_div_mod_eq]
  by_cases hc : 2 ^ k ≤ a
  ·have : a / 2 ^ k = 1 := by rw [Nat.div_eq_iff hp]; omega
   simp [this,hc]
  ·have : a / 2 ^ k = 0 := Nat.div_eq_of_lt (by omega)
   simp [this,hc]
 apply Nat.eq_of_testBit_eq
 intro j
 rw [Nat.testBit_and,Nat.testBit_two_pow]
 by_cases h : k = j
 ·subst h
  rw [h1]
  by_cases hc : 2 ^ k ≤ a <;> simp [hc,Nat.testBit_two_pow]
 ·by_cases hc : 2 ^ k ≤ a <;> simp [hc,h,Nat.testBit_two_pow]
theorem word_xor {k a : Nat} (ha : a < 2 * 2 ^ k) : a ^^^ 2 ^ k = if 2 ^ k ≤ a then a - 2 ^ k else a + 2 ^ k := by
 have hp : 0 < 2 ^ k := Nat.two_pow_pos k
 by_cases hc : 2 ^ k ≤ a
 ·rw [if_pos hc]
  obtain ⟨r,rfl⟩ : ∃ r,a = 2 ^ k + r := ⟨a - 2 ^ k,by omega⟩
  have hr : r < 2 ^ k := by omega
  have e : 2 ^ k + r = 2 ^ k ^^^ r := by
   have := Nat.two_pow_add_eq_or_of_lt hr 1
   rw [Nat.mul_one] at this
   rw [this]
   apply Nat.eq_of_testBit_eq
   intro j
   rw [Nat.testBit_or,Nat.testBit_xor,Nat.testBit_two_pow]
   by_cases h : k = j
   ·subst h; simp [Nat.testBit_lt_two_pow hr]
   ·simp [h]
  rw [show 2 ^ k + r - 2 ^ k = r by omega]
  rw [e,Nat.xor_comm (2 ^ k) r,Nat.xor_assoc,Nat.xor_self,Nat.xor_zero]
 ·rw [if_neg hc]
  have hr : a < 2 ^ k := by omega
  have := Nat.two_pow_add_eq_or_of_lt hr 1
  rw [Nat.mul_one] at this
  rw [Nat.add_comm,this]
  apply Nat.eq_of_testBit_eq
  intro j
  rw [Nat.testBit_or,Nat.testBit_xor,Nat.testBit_two_pow]
  by_cases h : k = j
  ·subst h; simp [Nat.testBit_lt_two_pow hr]
  ·simp [h]
theorem bits_andNot_top (k a : Nat) (hk : k < 64) (ha : a < 2 * 2 ^ k) : bits .andNot .u64 (a : Int) ((2 ^ k : Nat) : Int) = ((a % 2 ^ k : Nat) : Int) := by
 have hk64 : (2 : Nat) ^ k < 2 ^ 64 := Nat.pow_lt_pow_right (by decide) hk
 have hk65 : (2 : Nat) * 2 ^ k ≤ 2 ^ 64 := by
  rw [Nat.mul_comm,← Nat.pow_succ]; exact Nat.pow_le_pow_right (by decide) (by omega)
 have ha64 : a < 2 ^ 64 := by omega
 have h1 : (BitVec.ofInt 64 (a : Int)) = BitVec.ofNat 64 a := by rw [BitVec.ofInt_natCast]
 have h2 : (BitVec.ofInt 64 ((2 ^ k : Nat) : Int)) = BitVec.ofNat 64 (2 ^ k) := by rw [BitVec.ofInt_natCast]
 show IntKind.u64.wrap ((BitVec.ofInt 64 (a : Int) &&& ~~~ BitVec.ofInt 64 ((2 ^ k : Nat) : Int)).toNat : Int) = _
 rw [h1,h2,IntKind.wrap_u64]
 have hp : 0 < 2 ^ k := Nat.two_pow_pos k
 have key : (BitVec.ofNat 64 a &&& ~~~ BitVec.ofNat 64 (2 ^ k)).toNat = a % 2 ^ k := by
  rw [BitVec.toNat_and,BitVec.toNat_not,BitVec.toNat_ofNat,BitVec.toNat_ofNat,Nat.mod_eq_of_lt ha64,Nat.mod_eq_of_lt hk64]
  apply Nat.eq_of_testBit_eq
  intro j
  rw [show (2 : Nat) ^ 64 - 1 - 2 ^ k = 2 ^ 64 - (2 ^ k + 1) by omega,Nat.testBit_and,Nat.testBit_two_pow_sub_succ hk64,Nat.testBit_mod_two_pow,Nat.testBit_two_pow]
  rcases Nat.lt_trichotomy j k with h | h | h
  ·have : ¬ k = j := by omega
   have h64 : j < 64 := by omega
   simp [h,this,h64]
  ·subst h; simp
  ·have hz : a.testBit j = false := Nat.testBit_lt_two_pow (Nat.lt_of_lt_of_le ha (by
    rw [Nat.mul_comm,← Nat.pow_succ]; exact Nat.pow_le_pow_right (by decide) (by omega)))
   simp [hz]
 rw [key]
 have : a % 2 ^ k < 2 ^ k := Nat.mod_lt _ hp
 have : (2 : Nat) ^ 64 = 18446744073709551616 := by decide
 omega
end Go.Proofs.YtbbmbhcbncenaaaGreatDoor.Fl
