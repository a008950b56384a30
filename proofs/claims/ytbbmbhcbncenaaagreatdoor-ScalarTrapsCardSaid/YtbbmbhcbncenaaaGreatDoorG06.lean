/-
  Bin: merged, what the law does not reach left out (each text says what it holds where it lies in wip). No condition.
-/
import Derived.Test.YtbbmbhcbncenaaaGreatDoorG05
import Derived.Test.YtbbmbhcbncenaaaGreatDoorG01
set_option linter.unusedSimpArgs false
set_option linter.unusedVariables false
set_option maxRecDepth 100000
namespace Go.Proofs.YtbbmbhcbncenaaaGreatDoor
open Go.RowKit
set_option maxHeartbeats 800000 in
theorem Bin_1 (n : Nat) (hn : Okn n) (a b : Nat) (ha : a < 18446744073709551616) (hb : b < 18446744073709551616) (w : World) :
  Calls Tryz.prog 68 #[.int .i64 n,.int .i64 1,.int .u64 a,.int .u64 b] w fun e w' => e = .returned (.tuple #[.int .u64 ((binR n 1 (a % 2 ^ n) (b % 2 ^ n)).1 : Nat),.int .i64 ((binR n 1 (a % 2 ^ n) (b % 2 ^ n)).2 : Nat)]) ∧ w = w' := by
 obtain ⟨h1,h2,h3,h4⟩ := pow_lt64 hn
 have HK := hid (known_yes n hn w)
 have HX := hid (cut_any n hn a ha w)
 have HY := hid (cut_any n hn b hb w)
 obtain ⟨x,hx⟩ : ∃ x : Nat,x = a % 2 ^ n := ⟨_,rfl⟩
 obtain ⟨y,hy⟩ : ∃ y : Nat,y = b % 2 ^ n := ⟨_,rfl⟩
 have hxl : x < 2 ^ n := by rw [hx]; exact Nat.mod_lt _ (Nat.two_pow_pos n)
 have hyl : y < 2 ^ n := by rw [hy]; exact Nat.mod_lt _ (Nat.two_pow_pos n)
 rw [← hx] at HX
 rw [← hy] at HY
 rw [← hx,← hy]
 clear hx hy ha hb
 obtain ⟨v,hv⟩ : ∃ v : Nat,v = (x + y) % 18446744073709551616 := ⟨_,rfl⟩
 have hvl : v < 18446744073709551616 := by omega
 have hw : IntKind.u64.wrap ((x : Int) + (y : Int)) = (v : Int) := by rw [IntKind.wrap_u64]; omega
 have hs : (binR n 1 x y) = (v % 2 ^ n,0) := by
  rw [binR,if_pos rfl,hv,mod_mod64 hn]
 rw [hs]
 have HC := hid (cut_any n hn v hvl w)
 obtain ⟨s,hse⟩ : ∃ s : Nat,s = v % 2 ^ n := ⟨_,rfl⟩
 rw [← hse] at HC ⊢
 clear h1 h2 h3 h4 hn hv hvl hs hse hxl hyl
 go_enter Tryz.func68,Tryz.ntmps68
 repeat' (first
  | (with_reducible refine wp_exit ?_; repeat (first | with_reducible refine ex_norm ?_ | with_reducible refine ex_then ?_ | with_reducible refine ex_here ?_ | with_reducible refine ex_pass rfl ?_))
  | (go_big_may; first
   | (go_at_call 75; refine HK.out.mono ?_; rintro e w' ⟨rfl,rfl⟩)
   | (go_at_call 76; ((with_reducible refine HX.out.mono ?_); rintro e w' ⟨rfl,rfl⟩))
   | (go_at_call 76; ((with_reducible refine HY.out.mono ?_); rintro e w' ⟨rfl,rfl⟩))
   | (go_at_call 76; ((with_reducible refine HC.out.mono ?_); rintro e w' ⟨rfl,rfl⟩)))
  | go_values | go_skip | go_guarded | go_step | go_upon | go_back | dsimp only)
 go_ret2
 exact ⟨rfl,rfl⟩
set_option maxHeartbeats 800000 in
theorem Bin_2 (n : Nat) (hn : Okn n) (a b : Nat) (ha : a < 18446744073709551616) (hb : b < 18446744073709551616) (w : World) :
  Calls Tryz.prog 68 #[.int .i64 n,.int .i64 2,.int .u64 a,.int .u64 b] w fun e w' => e = .returned (.tuple #[.int .u64 ((binR n 2 (a % 2 ^ n) (b % 2 ^ n)).1 : Nat),.int .i64 ((binR n 2 (a % 2 ^ n) (b % 2 ^ n)).2 : Nat)]) ∧ w = w' := by
 obtain ⟨h1,h2,h3,h4⟩ := pow_lt64 hn
 have HK := hid (known_yes n hn w)
 have HX := hid (cut_any n hn a ha w)
 have HY := hid (cut_any n hn b hb w)
 obtain ⟨x,hx⟩ : ∃ x : Nat,x = a % 2 ^ n := ⟨_,rfl⟩
 obtain ⟨y,hy⟩ : ∃ y : Nat,y = b % 2 ^ n := ⟨_,rfl⟩
 have hxl : x < 2 ^ n := by rw [hx]; exact Nat.mod_lt _ (Nat.two_pow_pos n)
 have hyl : y < 2 ^ n := by rw [hy]; exact Nat.mod_lt _ (Nat.two_pow_pos n)
 rw [← hx] at HX
 rw [← hy] at HY
 rw [← hx,← hy]
 clear hx hy ha hb
 obtain ⟨z,hz⟩ : ∃ z : Nat,z = (18446744073709551616 - y) % 18446744073709551616 := ⟨_,rfl⟩
 have hw0 : IntKind.u64.wrap (-(y : Int)) = (z : Int) := by rw [IntKind.wrap_u64]; omega
 obtain ⟨v,hv⟩ : ∃ v : Nat,v = (x + z) % 18446744073709551616 := ⟨_,rfl⟩
 have hvl : v < 18446744073709551616 := by omega
 have hw : IntKind.u64.wrap ((x : Int) + (z : Int)) = (v : Int) := by rw [IntKind.wrap_u64]; omega
 have hs : (binR n 2 x y) = (v % 2 ^ n,0) := by
  rw [binR,if_neg (by decide),if_pos rfl,hv,hz]
  congr 1
  clear HK HX HY hw hw0 hv hvl hz
  rcases hn with rfl | rfl | rfl | rfl <;> simp at hxl hyl ⊢ <;> omega
 rw [hs]
 have HC := hid (cut_any n hn v hvl w)
 obtain ⟨s,hse⟩ : ∃ s : Nat,s = v % 2 ^ n := ⟨_,rfl⟩
 rw [← hse] at HC ⊢
 clear h1 h2 h3 h4 hn hv hvl hs hse hxl hyl hz
 go_enter Tryz.func68,Tryz.ntmps68
 repeat' (first
  | (with_reducible refine wp_exit ?_; repeat (first | with_reducible refine ex_norm ?_ | with_reducible refine ex_then ?_ | with_reducible refine ex_here ?_ | with_reducible refine ex_pass rfl ?_))
  | (go_big_may; first
   | (go_at_call 75; refine HK.out.mono ?_; rintro e w' ⟨rfl,rfl⟩)
   | (go_at_call 76; ((with_reducible refine HX.out.mono ?_); rintro e w' ⟨rfl,rfl⟩))
   | (go_at_call 76; ((with_reducible refine HY.out.mono ?_); rintro e w' ⟨rfl,rfl⟩))
   | (go_at_call 76; ((with_reducible refine HC.out.mono ?_); rintro e w' ⟨rfl,rfl⟩)))
  | go_values | go_skip | go_guarded | go_step | go_upon | go_back | dsimp only)
 go_ret2
 exact ⟨rfl,rfl⟩
set_option maxHeartbeats 800000 in
theorem Bin_3 (n : Nat) (hn : Okn n) (a b : Nat) (ha : a < 18446744073709551616) (hb : b < 18446744073709551616) (w : World) :
  Calls Tryz.prog 68 #[.int .i64 n,.int .i64 3,.int .u64 a,.int .u64 b] w fun e w' => e = .returned (.tuple #[.int .u64 ((binR n 3 (a % 2 ^ n) (b % 2 ^ n)).1 : Nat),.int .i64 ((binR n 3 (a % 2 ^ n) (b % 2 ^ n)).2 : Nat)]) ∧ w = w' := by
 obtain ⟨h1,h2,h3,h4⟩ := pow_lt64 hn
 have HK := hid (known_yes n hn w)
 have HX := hid (cut_any n hn a ha w)
 have HY := hid (cut_any n hn b hb w)
 obtain ⟨x,hx⟩ : ∃ x : Nat,x = a % 2 ^ n := ⟨_,rfl⟩
 obtain ⟨y,hy⟩ : ∃ y : Nat,y = b % 2 ^ n := ⟨_,rfl⟩
 have hxl : x < 2 ^ n := by rw [hx]; exact Nat.mod_lt _ (Nat.two_pow_pos n)
 have hyl : y < 2 ^ n := by rw [hy]; exact Nat.mod_lt _ (Nat.two_pow_pos n)
 rw [← hx] at HX
 rw [← hy] at HY
 rw [← hx,← hy]
 clear hx hy ha hb
 obtain ⟨v,hv⟩ : ∃ v : Nat,v = (x * y) % 18446744073709551616 := ⟨_,rfl⟩
 have hvl : v < 18446744073709551616 := by rw [hv]; exact Nat.mod_lt _ (by decide)
 have hw : IntKind.u64.wrap ((x : Int) * (y : Int)) = (v : Int) := by rw [IntKind.wrap_u64,hv]; simp
 have hs : (binR n 3 x y) = (v % 2 ^ n,0) := by
  rw [binR,if_neg (by decide),if_neg (by decide),if_pos rfl,hv,mod_mod64 hn]
 rw [hs]
 have HC := hid (cut_any n hn v hvl w)
 obtain ⟨s,hse⟩ : ∃ s : Nat,s = v % 2 ^ n := ⟨_,rfl⟩
 rw [← hse] at HC ⊢
 clear h1 h2 h3 h4 hn hv hvl hs hse hxl hyl
 go_enter Tryz.func68,Tryz.ntmps68
 repeat' (first
  | (with_reducible refine wp_exit ?_; repeat (first | with_reducible refine ex_norm ?_ | with_reducible refine ex_then ?_ | with_reducible refine ex_here ?_ | with_reducible refine ex_pass rfl ?_))
  | (go_big_may; first
   | (go_at_call 75; refine HK.out.mono ?_; rintro e w' ⟨rfl,rfl⟩)
   | (go_at_call 76; ((with_reducible refine HX.out.mono ?_); rintro e w' ⟨rfl,rfl⟩))
   | (go_at_call 76; ((with_reducible refine HY.out.mono ?_); rintro e w' ⟨rfl,rfl⟩))
   | (go_at_call 76; ((with_reducible refine HC.out.mono ?_); rintro e w' ⟨rfl,rfl⟩)))
  | go_values | go_skip | go_guarded | go_step | go_upon | go_back | dsimp only)
 go_ret2
 exact ⟨rfl,rfl⟩
set_option maxHeartbeats 800000 in
theorem Bin_8 (n : Nat) (hn : Okn n) (a b : Nat) (ha : a < 18446744073709551616) (hb : b < 18446744073709551616) (w : World) :
  Calls Tryz.prog 68 #[.int .i64 n,.int .i64 8,.int .u64 a,.int .u64 b] w fun e w' => e = .returned (.tuple #[.int .u64 ((binR n 8 (a % 2 ^ n) (b % 2 ^ n)).1 : Nat),.int .i64 ((binR n 8 (a % 2 ^ n) (b % 2 ^ n)).2 : Nat)]) ∧ w = w' := by
 obtain ⟨h1,h2,h3,h4⟩ := pow_lt64 hn
 have HK := hid (known_yes n hn w)
 have HX := hid (cut_any n hn a ha w)
 have HY := hid (cut_any n hn b hb w)
 obtain ⟨x,hx⟩ : ∃ x : Nat,x = a % 2 ^ n := ⟨_,rfl⟩
 obtain ⟨y,hy⟩ : ∃ y : Nat,y = b % 2 ^ n := ⟨_,rfl⟩
 have hxl : x < 2 ^ n := by rw [hx]; exact Nat.mod_lt _ (Nat.two_pow_pos n)
 have hyl : y < 2 ^ n := by rw [hy]; exact Nat.mod_lt _ (Nat.two_pow_pos n)
 rw [← hx] at HX
 rw [← hy] at HY
 rw [← hx,← hy]
 clear hx hy ha hb
 have hw := bits_and_u64_nat x y (by omega) (by omega)
 have hlt : x &&& y < 2 ^ n := Nat.and_lt_two_pow _ hyl
 obtain ⟨v,hv⟩ : ∃ v : Nat,v = x &&& y := ⟨_,rfl⟩
 rw [← hv] at hw hlt
 have hvl : v < 18446744073709551616 := by omega
 have hs : (binR n 8 x y) = (v % 2 ^ n,0) := by
  rw [binR,if_neg (by decide),if_neg (by decide),if_neg (by decide),if_neg (by decide),if_pos rfl,Nat.mod_eq_of_lt hlt,hv]
 clear hlt
 rw [hs]
 have HC := hid (cut_any n hn v hvl w)
 obtain ⟨s,hse⟩ : ∃ s : Nat,s = v % 2 ^ n := ⟨_,rfl⟩
 rw [← hse] at HC ⊢
 clear h1 h2 h3 h4 hn hv hvl hs hse hxl hyl
 go_enter Tryz.func68,Tryz.ntmps68
 repeat' (first
  | (with_reducible refine wp_exit ?_; repeat (first | with_reducible refine ex_norm ?_ | with_reducible refine ex_then ?_ | with_reducible refine ex_here ?_ | with_reducible refine ex_pass rfl ?_))
  | (go_big_may; first
   | (go_at_call 75; refine HK.out.mono ?_; rintro e w' ⟨rfl,rfl⟩)
   | (go_at_call 76; ((with_reducible refine HX.out.mono ?_); rintro e w' ⟨rfl,rfl⟩))
   | (go_at_call 76; ((with_reducible refine HY.out.mono ?_); rintro e w' ⟨rfl,rfl⟩))
   | (go_at_call 76; ((with_reducible refine HC.out.mono ?_); rintro e w' ⟨rfl,rfl⟩)))
  | go_values | go_skip | go_guarded | go_step | go_upon | go_back | dsimp only)
 go_ret2
 exact ⟨rfl,rfl⟩
set_option maxHeartbeats 800000 in
theorem Bin_9 (n : Nat) (hn : Okn n) (a b : Nat) (ha : a < 18446744073709551616) (hb : b < 18446744073709551616) (w : World) :
  Calls Tryz.prog 68 #[.int .i64 n,.int .i64 9,.int .u64 a,.int .u64 b] w fun e w' => e = .returned (.tuple #[.int .u64 ((binR n 9 (a % 2 ^ n) (b % 2 ^ n)).1 : Nat),.int .i64 ((binR n 9 (a % 2 ^ n) (b % 2 ^ n)).2 : Nat)]) ∧ w = w' := by
 obtain ⟨h1,h2,h3,h4⟩ := pow_lt64 hn
 have HK := hid (known_yes n hn w)
 have HX := hid (cut_any n hn a ha w)
 have HY := hid (cut_any n hn b hb w)
 obtain ⟨x,hx⟩ : ∃ x : Nat,x = a % 2 ^ n := ⟨_,rfl⟩
 obtain ⟨y,hy⟩ : ∃ y : Nat,y = b % 2 ^ n := ⟨_,rfl⟩
 have hxl : x < 2 ^ n := by rw [hx]; exact Nat.mod_lt _ (Nat.two_pow_pos n)
 have hyl : y < 2 ^ n := by rw [hy]; exact Nat.mod_lt _ (Nat.two_pow_pos n)
 rw [← hx] at HX
 rw [← hy] at HY
 rw [← hx,← hy]
 clear hx hy ha hb
 have hw := bits_or_u64_nat x y (by omega) (by omega)
 have hlt : x ||| y < 2 ^ n := Nat.or_lt_two_pow hxl hyl
 obtain ⟨v,hv⟩ : ∃ v : Nat,v = x ||| y := ⟨_,rfl⟩
 rw [← hv] at hw hlt
 have hvl : v < 18446744073709551616 := by omega
 have hs : (binR n 9 x y) = (v % 2 ^ n,0) := by
  rw [binR,if_neg (by decide),if_neg (by decide),if_neg (by decide),if_neg (by decide),if_neg (by decide),if_pos rfl,Nat.mod_eq_of_lt hlt,hv]
 clear hlt
 rw [hs]
 have HC := hid (cut_any n hn v hvl w)
 obtain ⟨s,hse⟩ : ∃ s : Nat,s = v % 2 ^ n := ⟨_,rfl⟩
 rw [← hse] at HC ⊢
 clear h1 h2 h3 h4 hn hv hvl hs hse hxl hyl
 go_enter Tryz.func68,Tryz.ntmps68
 repeat' (first
  | (with_reducible refine wp_exit ?_; repeat (first | with_reducible refine ex_norm ?_ | with_reducible refine ex_then ?_ | with_reducible refine ex_here ?_ | with_reducible refine ex_pass rfl ?_))
  | (go_big_may; first
   | (go_at_call 75; refine HK.out.mono ?_; rintro e w' ⟨rfl,rfl⟩)
   | (go_at_call 76; ((with_reducible refine HX.out.mono ?_); rintro e w' ⟨rfl,rfl⟩))
   | (go_at_call 76; ((with_reducible refine HY.out.mono ?_); rintro e w' ⟨rfl,rfl⟩))
   | (go_at_call 76; ((with_reducible refine HC.out.mono ?_); rintro e w' ⟨rfl,rfl⟩)))
  | go_values | go_skip | go_guarded | go_step | go_upon | go_back | dsimp only)
 go_ret2
 exact ⟨rfl,rfl⟩
set_option maxHeartbeats 800000 in
theorem Bin_10 (n : Nat) (hn : Okn n) (a b : Nat) (ha : a < 18446744073709551616) (hb : b < 18446744073709551616) (w : World) :
  Calls Tryz.prog 68 #[.int .i64 n,.int .i64 10,.int .u64 a,.int .u64 b] w fun e w' => e = .returned (.tuple #[.int .u64 ((binR n 10 (a % 2 ^ n) (b % 2 ^ n)).1 : Nat),.int .i64 ((binR n 10 (a % 2 ^ n) (b % 2 ^ n)).2 : Nat)]) ∧ w = w' := by
 obtain ⟨h1,h2,h3,h4⟩ := pow_lt64 hn
 have HK := hid (known_yes n hn w)
 have HX := hid (cut_any n hn a ha w)
 have HY := hid (cut_any n hn b hb w)
 obtain ⟨x,hx⟩ : ∃ x : Nat,x = a % 2 ^ n := ⟨_,rfl⟩
 obtain ⟨y,hy⟩ : ∃ y : Nat,y = b % 2 ^ n := ⟨_,rfl⟩
 have hxl : x < 2 ^ n := by rw [hx]; exact Nat.mod_lt _ (Nat.two_pow_pos n)
 have hyl : y < 2 ^ n := by rw [hy]; exact Nat.mod_lt _ (Nat.two_pow_pos n)
 rw [← hx] at HX
 rw [← hy] at HY
 rw [← hx,← hy]
 clear hx hy ha hb
 have hw := bits_xor_u64_nat x y (by omega) (by omega)
 have hlt : x ^^^ y < 2 ^ n := Nat.xor_lt_two_pow hxl hyl
 obtain ⟨v,hv⟩ : ∃ v : Nat,v = x ^^^ y := ⟨_,rfl⟩
 rw [← hv] at hw hlt
 have hvl : v < 18446744073709551616 := by omega
 have hs : (binR n 10 x y) = (v % 2 ^ n,0) := by
  rw [binR,if_neg (by decide),if_neg (by decide),if_neg (by decide),if_neg (by decide),if_neg (by decide),if_neg (by decide),if_pos rfl,Nat.mod_eq_of_lt hlt,hv]
 clear hlt
 rw [hs]
 have HC := hid (cut_any n hn v hvl w)
 obtain ⟨s,hse⟩ : ∃ s : Nat,s = v % 2 ^ n := ⟨_,rfl⟩
 rw [← hse] at HC ⊢
 clear h1 h2 h3 h4 hn hv hvl hs hse hxl hyl
 go_enter Tryz.func68,Tryz.ntmps68
 repeat' (first
  | (with_reducible refine wp_exit ?_; repeat (first | with_reducible refine ex_norm ?_ | with_reducible refine ex_then ?_ | with_reducible refine ex_here ?_ | with_reducible refine ex_pass rfl ?_))
  | (go_big_may; first
   | (go_at_call 75; refine HK.out.mono ?_; rintro e w' ⟨rfl,rfl⟩)
   | (go_at_call 76; ((with_reducible refine HX.out.mono ?_); rintro e w' ⟨rfl,rfl⟩))
   | (go_at_call 76; ((with_reducible refine HY.out.mono ?_); rintro e w' ⟨rfl,rfl⟩))
   | (go_at_call 76; ((with_reducible refine HC.out.mono ?_); rintro e w' ⟨rfl,rfl⟩)))
  | go_values | go_skip | go_guarded | go_step | go_upon | go_back | dsimp only)
 go_ret2
 exact ⟨rfl,rfl⟩
set_option maxHeartbeats 800000 in
theorem Bin_24 (n : Nat) (hn : Okn n) (a b : Nat) (ha : a < 18446744073709551616) (hb : b < 18446744073709551616) (w : World) :
  Calls Tryz.prog 68 #[.int .i64 n,.int .i64 24,.int .u64 a,.int .u64 b] w fun e w' => e = .returned (.tuple #[.int .u64 ((binR n 24 (a % 2 ^ n) (b % 2 ^ n)).1 : Nat),.int .i64 ((binR n 24 (a % 2 ^ n) (b % 2 ^ n)).2 : Nat)]) ∧ w = w' := by
 obtain ⟨h1,h2,h3,h4⟩ := pow_lt64 hn
 have HK := hid (known_yes n hn w)
 have HX := hid (cut_any n hn a ha w)
 have HY := hid (cut_any n hn b hb w)
 obtain ⟨x,hx⟩ : ∃ x : Nat,x = a % 2 ^ n := ⟨_,rfl⟩
 obtain ⟨y,hy⟩ : ∃ y : Nat,y = b % 2 ^ n := ⟨_,rfl⟩
 have hxl : x < 2 ^ n := by rw [hx]; exact Nat.mod_lt _ (Nat.two_pow_pos n)
 have hyl : y < 2 ^ n := by rw [hy]; exact Nat.mod_lt _ (Nat.two_pow_pos n)
 rw [← hx] at HX
 rw [← hy] at HY
 rw [← hx,← hy]
 clear hx hy ha hb
 have hor := bits_or_u64_nat x y (by omega) (by omega)
 have hxo := bits_xor_u64_nat x y (by omega) (by omega)
 obtain ⟨e1,e2⟩ := xor_and_or n x y hxl hyl
 have hol : x ||| y < 2 ^ n := Nat.or_lt_two_pow hxl hyl
 obtain ⟨o,ho⟩ : ∃ o : Nat,o = x ||| y := ⟨_,rfl⟩
 obtain ⟨q,hq⟩ : ∃ q : Nat,q = x ^^^ y := ⟨_,rfl⟩
 rw [← ho] at hor e1 hol
 rw [← hq] at hxo e1 e2
 obtain ⟨v,hv⟩ : ∃ v : Nat,v = (x + y + 1) / 2 := ⟨_,rfl⟩
 have hvl : v < 18446744073709551616 := by omega
 have hw : IntKind.u64.wrap ((o : Int) - (q : Int) / 2) = (v : Int) := by rw [IntKind.wrap_u64]; omega
 have hs : (binR n 24 x y) = (v % 2 ^ n,0) := by
  rw [binR,if_neg (by decide),if_neg (by decide),if_neg (by decide),if_neg (by decide),if_neg (by decide),if_neg (by decide),if_neg (by decide),if_neg (by decide),if_neg (by decide),if_neg (by decide),if_pos rfl,Nat.mod_eq_of_lt (by omega),hv]
 clear ho hq e1 e2 hol
 rw [hs]
 have HC := hid (cut_any n hn v hvl w)
 obtain ⟨s,hse⟩ : ∃ s : Nat,s = v % 2 ^ n := ⟨_,rfl⟩
 rw [← hse] at HC ⊢
 clear h1 h2 h3 h4 hn hv hvl hs hse hxl hyl
 go_enter Tryz.func68,Tryz.ntmps68
 repeat' (first
  | (with_reducible refine wp_exit ?_; repeat (first | with_reducible refine ex_norm ?_ | with_reducible refine ex_then ?_ | with_reducible refine ex_here ?_ | with_reducible refine ex_pass rfl ?_))
  | (go_big_may; first
   | (go_at_call 75; refine HK.out.mono ?_; rintro e w' ⟨rfl,rfl⟩)
   | (go_at_call 76; ((with_reducible refine HX.out.mono ?_); rintro e w' ⟨rfl,rfl⟩))
   | (go_at_call 76; ((with_reducible refine HY.out.mono ?_); rintro e w' ⟨rfl,rfl⟩))
   | (go_at_call 76; ((with_reducible refine HC.out.mono ?_); rintro e w' ⟨rfl,rfl⟩)))
  | go_values | go_skip | go_guarded | go_step | go_upon | go_back | dsimp only)
 go_ret2
 exact ⟨rfl,rfl⟩
set_option maxHeartbeats 800000 in
theorem Bin_4 (n : Nat) (hn : Okn n) (a b : Nat) (ha : a < 18446744073709551616) (hb : b < 18446744073709551616) (w : World) :
  Calls Tryz.prog 68 #[.int .i64 n,.int .i64 4,.int .u64 a,.int .u64 b] w fun e w' => e = .returned (.tuple #[.int .u64 ((binR n 4 (a % 2 ^ n) (b % 2 ^ n)).1 : Nat),.int .i64 ((binR n 4 (a % 2 ^ n) (b % 2 ^ n)).2 : Nat)]) ∧ w = w' := by
 obtain ⟨h1,h2,h3,h4⟩ := pow_lt64 hn
 have HK := hid (known_yes n hn w)
 have HX := hid (cut_any n hn a ha w)
 have HY := hid (cut_any n hn b hb w)
 obtain ⟨x,hx⟩ : ∃ x : Nat,x = a % 2 ^ n := ⟨_,rfl⟩
 obtain ⟨y,hy⟩ : ∃ y : Nat,y = b % 2 ^ n := ⟨_,rfl⟩
 have hxl : x < 2 ^ n := by rw [hx]; exact Nat.mod_lt _ (Nat.two_pow_pos n)
 have hyl : y < 2 ^ n := by rw [hy]; exact Nat.mod_lt _ (Nat.two_pow_pos n)
 rw [← hx] at HX
 rw [← hy] at HY
 rw [← hx,← hy]
 clear hx hy ha hb
 have HD := hid (divided_any n hn 4 (by decide) (by decide) x y hxl hyl w)
 have hs : binR n 4 x y = divR n 4 x y := by
  rw [binR,if_neg (by decide),if_neg (by decide),if_neg (by decide),if_pos (by decide)]
 rw [hs]
 obtain ⟨d1,h5⟩ : ∃ d : Nat,d = (divR n 4 x y).1 := ⟨_,rfl⟩
 obtain ⟨d2,h6⟩ : ∃ d : Nat,d = (divR n 4 x y).2 := ⟨_,rfl⟩
 rw [← h5,← h6] at HD ⊢
 clear h1 h2 h3 h4 h5 h6 hn hs hxl hyl
 go_enter Tryz.func68,Tryz.ntmps68
 repeat' (first
  | (with_reducible refine wp_exit ?_; repeat (first | with_reducible refine ex_norm ?_ | with_reducible refine ex_then ?_ | with_reducible refine ex_here ?_ | with_reducible refine ex_pass rfl ?_))
  | (go_big_may; first
   | (go_at_call 75; refine HK.out.mono ?_; rintro e w' ⟨rfl,rfl⟩)
   | (go_at_call 76; ((with_reducible refine HX.out.mono ?_); rintro e w' ⟨rfl,rfl⟩))
   | (go_at_call 76; ((with_reducible refine HY.out.mono ?_); rintro e w' ⟨rfl,rfl⟩))
   | (go_at_call 125; refine HD.out.mono ?_; rintro e w' ⟨rfl,rfl⟩))
  | go_values | go_skip | go_guarded | go_step | go_upon | go_back | dsimp only)
 go_ret2
 exact ⟨rfl,rfl⟩
set_option maxHeartbeats 800000 in
theorem Bin_5 (n : Nat) (hn : Okn n) (a b : Nat) (ha : a < 18446744073709551616) (hb : b < 18446744073709551616) (w : World) :
  Calls Tryz.prog 68 #[.int .i64 n,.int .i64 5,.int .u64 a,.int .u64 b] w fun e w' => e = .returned (.tuple #[.int .u64 ((binR n 5 (a % 2 ^ n) (b % 2 ^ n)).1 : Nat),.int .i64 ((binR n 5 (a % 2 ^ n) (b % 2 ^ n)).2 : Nat)]) ∧ w = w' := by
 obtain ⟨h1,h2,h3,h4⟩ := pow_lt64 hn
 have HK := hid (known_yes n hn w)
 have HX := hid (cut_any n hn a ha w)
 have HY := hid (cut_any n hn b hb w)
 obtain ⟨x,hx⟩ : ∃ x : Nat,x = a % 2 ^ n := ⟨_,rfl⟩
 obtain ⟨y,hy⟩ : ∃ y : Nat,y = b % 2 ^ n := ⟨_,rfl⟩
 have hxl : x < 2 ^ n := by rw [hx]; exact Nat.mod_lt _ (Nat.two_pow_pos n)
 have hyl : y < 2 ^ n := by rw [hy]; exact Nat.mod_lt _ (Nat.two_pow_pos n)
 rw [← hx] at HX
 rw [← hy] at HY
 rw [← hx,← hy]
 clear hx hy ha hb
 have HD := hid (divided_any n hn 5 (by decide) (by decide) x y hxl hyl w)
 have hs : binR n 5 x y = divR n 5 x y := by
  rw [binR,if_neg (by decide),if_neg (by decide),if_neg (by decide),if_pos (by decide)]
 rw [hs]
 obtain ⟨d1,h5⟩ : ∃ d : Nat,d = (divR n 5 x y).1 := ⟨_,rfl⟩
 obtain ⟨d2,h6⟩ : ∃ d : Nat,d = (divR n 5 x y).2 := ⟨_,rfl⟩
 rw [← h5,← h6] at HD ⊢
 clear h1 h2 h3 h4 h5 h6 hn hs hxl hyl
 go_enter Tryz.func68,Tryz.ntmps68
 repeat' (first
  | (with_reducible refine wp_exit ?_; repeat (first | with_reducible refine ex_norm ?_ | with_reducible refine ex_then ?_ | with_reducible refine ex_here ?_ | with_reducible refine ex_pass rfl ?_))
  | (go_big_may; first
   | (go_at_call 75; refine HK.out.mono ?_; rintro e w' ⟨rfl,rfl⟩)
   | (go_at_call 76; ((with_reducible refine HX.out.mono ?_); rintro e w' ⟨rfl,rfl⟩))
   | (go_at_call 76; ((with_reducible refine HY.out.mono ?_); rintro e w' ⟨rfl,rfl⟩))
   | (go_at_call 125; refine HD.out.mono ?_; rintro e w' ⟨rfl,rfl⟩))
  | go_values | go_skip | go_guarded | go_step | go_upon | go_back | dsimp only)
 go_ret2
 exact ⟨rfl,rfl⟩
set_option maxHeartbeats 800000 in
theorem Bin_6 (n : Nat) (hn : Okn n) (a b : Nat) (ha : a < 18446744073709551616) (hb : b < 18446744073709551616) (w : World) :
  Calls Tryz.prog 68 #[.int .i64 n,.int .i64 6,.int .u64 a,.int .u64 b] w fun e w' => e = .returned (.tuple #[.int .u64 ((binR n 6 (a % 2 ^ n) (b % 2 ^ n)).1 : Nat),.int .i64 ((binR n 6 (a % 2 ^ n) (b % 2 ^ n)).2 : Nat)]) ∧ w = w' := by
 obtain ⟨h1,h2,h3,h4⟩ := pow_lt64 hn
 have HK := hid (known_yes n hn w)
 have HX := hid (cut_any n hn a ha w)
 have HY := hid (cut_any n hn b hb w)
 obtain ⟨x,hx⟩ : ∃ x : Nat,x = a % 2 ^ n := ⟨_,rfl⟩
 obtain ⟨y,hy⟩ : ∃ y : Nat,y = b % 2 ^ n := ⟨_,rfl⟩
 have hxl : x < 2 ^ n := by rw [hx]; exact Nat.mod_lt _ (Nat.two_pow_pos n)
 have hyl : y < 2 ^ n := by rw [hy]; exact Nat.mod_lt _ (Nat.two_pow_pos n)
 rw [← hx] at HX
 rw [← hy] at HY
 rw [← hx,← hy]
 clear hx hy ha hb
 have HD := hid (divided_any n hn 6 (by decide) (by decide) x y hxl hyl w)
 have hs : binR n 6 x y = divR n 6 x y := by
  rw [binR,if_neg (by decide),if_neg (by decide),if_neg (by decide),if_pos (by decide)]
 rw [hs]
 obtain ⟨d1,h5⟩ : ∃ d : Nat,d = (divR n 6 x y).1 := ⟨_,rfl⟩
 obtain ⟨d2,h6⟩ : ∃ d : Nat,d = (divR n 6 x y).2 := ⟨_,rfl⟩
 rw [← h5,← h6] at HD ⊢
 clear h1 h2 h3 h4 h5 h6 hn hs hxl hyl
 go_enter Tryz.func68,Tryz.ntmps68
 repeat' (first
  | (with_reducible refine wp_exit ?_; repeat (first | with_reducible refine ex_norm ?_ | with_reducible refine ex_then ?_ | with_reducible refine ex_here ?_ | with_reducible refine ex_pass rfl ?_))
  | (go_big_may; first
   | (go_at_call 75; refine HK.out.mono ?_; rintro e w' ⟨rfl,rfl⟩)
   | (go_at_call 76; ((with_reducible refine HX.out.mono ?_); rintro e w' ⟨rfl,rfl⟩))
   | (go_at_call 76; ((with_reducible refine HY.out.mono ?_); rintro e w' ⟨rfl,rfl⟩))
   | (go_at_call 125; refine HD.out.mono ?_; rintro e w' ⟨rfl,rfl⟩))
  | go_values | go_skip | go_guarded | go_step | go_upon | go_back | dsimp only)
 go_ret2
 exact ⟨rfl,rfl⟩
set_option maxHeartbeats 800000 in
theorem Bin_7 (n : Nat) (hn : Okn n) (a b : Nat) (ha : a < 18446744073709551616) (hb : b < 18446744073709551616) (w : World) :
  Calls Tryz.prog 68 #[.int .i64 n,.int .i64 7,.int .u64 a,.int .u64 b] w fun e w' => e = .returned (.tuple #[.int .u64 ((binR n 7 (a % 2 ^ n) (b % 2 ^ n)).1 : Nat),.int .i64 ((binR n 7 (a % 2 ^ n) (b % 2 ^ n)).2 : Nat)]) ∧ w = w' := by
 obtain ⟨h1,h2,h3,h4⟩ := pow_lt64 hn
 have HK := hid (known_yes n hn w)
 have HX := hid (cut_any n hn a ha w)
 have HY := hid (cut_any n hn b hb w)
 obtain ⟨x,hx⟩ : ∃ x : Nat,x = a % 2 ^ n := ⟨_,rfl⟩
 obtain ⟨y,hy⟩ : ∃ y : Nat,y = b % 2 ^ n := ⟨_,rfl⟩
 have hxl : x < 2 ^ n := by rw [hx]; exact Nat.mod_lt _ (Nat.two_pow_pos n)
 have hyl : y < 2 ^ n := by rw [hy]; exact Nat.mod_lt _ (Nat.two_pow_pos n)
 rw [← hx] at HX
 rw [← hy] at HY
 rw [← hx,← hy]
 clear hx hy ha hb
 have HD := hid (divided_any n hn 7 (by decide) (by decide) x y hxl hyl w)
 have hs : binR n 7 x y = divR n 7 x y := by
  rw [binR,if_neg (by decide),if_neg (by decide),if_neg (by decide),if_pos (by decide)]
 rw [hs]
 obtain ⟨d1,h5⟩ : ∃ d : Nat,d = (divR n 7 x y).1 := ⟨_,rfl⟩
 obtain ⟨d2,h6⟩ : ∃ d : Nat,d = (divR n 7 x y).2 := ⟨_,rfl⟩
 rw [← h5,← h6] at HD ⊢
 clear h1 h2 h3 h4 h5 h6 hn hs hxl hyl
 go_enter Tryz.func68,Tryz.ntmps68
 repeat' (first
  | (with_reducible refine wp_exit ?_; repeat (first | with_reducible refine ex_norm ?_ | with_reducible refine ex_then ?_ | with_reducible refine ex_here ?_ | with_reducible refine ex_pass rfl ?_))
  | (go_big_may; first
   | (go_at_call 75; refine HK.out.mono ?_; rintro e w' ⟨rfl,rfl⟩)
   | (go_at_call 76; ((with_reducible refine HX.out.mono ?_); rintro e w' ⟨rfl,rfl⟩))
   | (go_at_call 76; ((with_reducible refine HY.out.mono ?_); rintro e w' ⟨rfl,rfl⟩))
   | (go_at_call 125; refine HD.out.mono ?_; rintro e w' ⟨rfl,rfl⟩))
  | go_values | go_skip | go_guarded | go_step | go_upon | go_back | dsimp only)
 go_ret2
 exact ⟨rfl,rfl⟩
set_option maxHeartbeats 800000 in
theorem Bin_11 (n : Nat) (hn : Okn n) (a b : Nat) (ha : a < 18446744073709551616) (hb : b < 18446744073709551616) (w : World) :
  Calls Tryz.prog 68 #[.int .i64 n,.int .i64 11,.int .u64 a,.int .u64 b] w fun e w' => e = .returned (.tuple #[.int .u64 ((binR n 11 (a % 2 ^ n) (b % 2 ^ n)).1 : Nat),.int .i64 ((binR n 11 (a % 2 ^ n) (b % 2 ^ n)).2 : Nat)]) ∧ w = w' := by
 obtain ⟨h1,h2,h3,h4⟩ := pow_lt64 hn
 have HK := hid (known_yes n hn w)
 have HX := hid (cut_any n hn a ha w)
 have HY := hid (cut_any n hn b hb w)
 obtain ⟨x,hx⟩ : ∃ x : Nat,x = a % 2 ^ n := ⟨_,rfl⟩
 obtain ⟨y,hy⟩ : ∃ y : Nat,y = b % 2 ^ n := ⟨_,rfl⟩
 have hxl : x < 2 ^ n := by rw [hx]; exact Nat.mod_lt _ (Nat.two_pow_pos n)
 have hyl : y < 2 ^ n := by rw [hy]; exact Nat.mod_lt _ (Nat.two_pow_pos n)
 rw [← hx] at HX
 rw [← hy] at HY
 rw [← hx,← hy]
 clear hx hy ha hb
 have HD := hid (shifted_any n hn 11 (by decide) (by decide) x y hxl w)
 have hs : binR n 11 x y = (shiftR n 11 x (y % n),0) := by
  rw [binR,if_neg (by decide),if_neg (by decide),if_neg (by decide),if_neg (by decide),if_neg (by decide),if_neg (by decide),if_neg (by decide),if_pos (by decide)]
 rw [hs]
 obtain ⟨s,h5⟩ : ∃ s : Nat,s = shiftR n 11 x (y % n) := ⟨_,rfl⟩
 rw [← h5] at HD ⊢
 have HN := hid hn
 clear h1 h2 h3 h4 h5 hn hs hxl hyl
 go_enter Tryz.func68,Tryz.ntmps68
 repeat' (first
  | (with_reducible refine wp_exit ?_; repeat (first | with_reducible refine ex_norm ?_ | with_reducible refine ex_then ?_ | with_reducible refine ex_here ?_ | with_reducible refine ex_pass rfl ?_))
  | (go_big_may; first
   | (go_at_call 75; refine HK.out.mono ?_; rintro e w' ⟨rfl,rfl⟩)
   | (go_at_call 76; ((with_reducible refine HX.out.mono ?_); rintro e w' ⟨rfl,rfl⟩))
   | (go_at_call 76; ((with_reducible refine HY.out.mono ?_); rintro e w' ⟨rfl,rfl⟩))
   | (go_at_call 126; refine HD.out.mono ?_; rintro e w' ⟨v,rfl,hv,hc,rfl⟩; have HC := hid (cut_any n HN.out v hv w); rw [hc] at HC; clear hv hc)
   | (go_at_call 76; ((with_reducible refine HC.out.mono ?_); rintro e w' ⟨rfl,rfl⟩)))
  | go_values | go_skip | go_guarded | go_step | go_upon | go_back | dsimp only)
 go_ret2
 exact ⟨rfl,rfl⟩
set_option maxHeartbeats 800000 in
theorem Bin_12 (n : Nat) (hn : Okn n) (a b : Nat) (ha : a < 18446744073709551616) (hb : b < 18446744073709551616) (w : World) :
  Calls Tryz.prog 68 #[.int .i64 n,.int .i64 12,.int .u64 a,.int .u64 b] w fun e w' => e = .returned (.tuple #[.int .u64 ((binR n 12 (a % 2 ^ n) (b % 2 ^ n)).1 : Nat),.int .i64 ((binR n 12 (a % 2 ^ n) (b % 2 ^ n)).2 : Nat)]) ∧ w = w' := by
 obtain ⟨h1,h2,h3,h4⟩ := pow_lt64 hn
 have HK := hid (known_yes n hn w)
 have HX := hid (cut_any n hn a ha w)
 have HY := hid (cut_any n hn b hb w)
 obtain ⟨x,hx⟩ : ∃ x : Nat,x = a % 2 ^ n := ⟨_,rfl⟩
 obtain ⟨y,hy⟩ : ∃ y : Nat,y = b % 2 ^ n := ⟨_,rfl⟩
 have hxl : x < 2 ^ n := by rw [hx]; exact Nat.mod_lt _ (Nat.two_pow_pos n)
 have hyl : y < 2 ^ n := by rw [hy]; exact Nat.mod_lt _ (Nat.two_pow_pos n)
 rw [← hx] at HX
 rw [← hy] at HY
 rw [← hx,← hy]
 clear hx hy ha hb
 have HD := hid (shifted_any n hn 12 (by decide) (by decide) x y hxl w)
 have hs : binR n 12 x y = (shiftR n 12 x (y % n),0) := by
  rw [binR,if_neg (by decide),if_neg (by decide),if_neg (by decide),if_neg (by decide),if_neg (by decide),if_neg (by decide),if_neg (by decide),if_pos (by decide)]
 rw [hs]
 obtain ⟨s,h5⟩ : ∃ s : Nat,s = shiftR n 12 x (y % n) := ⟨_,rfl⟩
 rw [← h5] at HD ⊢
 have HN := hid hn
 clear h1 h2 h3 h4 h5 hn hs hxl hyl
 go_enter Tryz.func68,Tryz.ntmps68
 repeat' (first
  | (with_reducible refine wp_exit ?_; repeat (first | with_reducible refine ex_norm ?_ | with_reducible refine ex_then ?_ | with_reducible refine ex_here ?_ | with_reducible refine ex_pass rfl ?_))
  | (go_big_may; first
   | (go_at_call 75; refine HK.out.mono ?_; rintro e w' ⟨rfl,rfl⟩)
   | (go_at_call 76; ((with_reducible refine HX.out.mono ?_); rintro e w' ⟨rfl,rfl⟩))
   | (go_at_call 76; ((with_reducible refine HY.out.mono ?_); rintro e w' ⟨rfl,rfl⟩))
   | (go_at_call 126; refine HD.out.mono ?_; rintro e w' ⟨v,rfl,hv,hc,rfl⟩; have HC := hid (cut_any n HN.out v hv w); rw [hc] at HC; clear hv hc)
   | (go_at_call 76; ((with_reducible refine HC.out.mono ?_); rintro e w' ⟨rfl,rfl⟩)))
  | go_values | go_skip | go_guarded | go_step | go_upon | go_back | dsimp only)
 go_ret2
 exact ⟨rfl,rfl⟩
set_option maxHeartbeats 800000 in
theorem Bin_13 (n : Nat) (hn : Okn n) (a b : Nat) (ha : a < 18446744073709551616) (hb : b < 18446744073709551616) (w : World) :
  Calls Tryz.prog 68 #[.int .i64 n,.int .i64 13,.int .u64 a,.int .u64 b] w fun e w' => e = .returned (.tuple #[.int .u64 ((binR n 13 (a % 2 ^ n) (b % 2 ^ n)).1 : Nat),.int .i64 ((binR n 13 (a % 2 ^ n) (b % 2 ^ n)).2 : Nat)]) ∧ w = w' := by
 obtain ⟨h1,h2,h3,h4⟩ := pow_lt64 hn
 have HK := hid (known_yes n hn w)
 have HX := hid (cut_any n hn a ha w)
 have HY := hid (cut_any n hn b hb w)
 obtain ⟨x,hx⟩ : ∃ x : Nat,x = a % 2 ^ n := ⟨_,rfl⟩
 obtain ⟨y,hy⟩ : ∃ y : Nat,y = b % 2 ^ n := ⟨_,rfl⟩
 have hxl : x < 2 ^ n := by rw [hx]; exact Nat.mod_lt _ (Nat.two_pow_pos n)
 have hyl : y < 2 ^ n := by rw [hy]; exact Nat.mod_lt _ (Nat.two_pow_pos n)
 rw [← hx] at HX
 rw [← hy] at HY
 rw [← hx,← hy]
 clear hx hy ha hb
 have HD := hid (shifted_any n hn 13 (by decide) (by decide) x y hxl w)
 have hs : binR n 13 x y = (shiftR n 13 x (y % n),0) := by
  rw [binR,if_neg (by decide),if_neg (by decide),if_neg (by decide),if_neg (by decide),if_neg (by decide),if_neg (by decide),if_neg (by decide),if_pos (by decide)]
 rw [hs]
 obtain ⟨s,h5⟩ : ∃ s : Nat,s = shiftR n 13 x (y % n) := ⟨_,rfl⟩
 rw [← h5] at HD ⊢
 have HN := hid hn
 clear h1 h2 h3 h4 h5 hn hs hxl hyl
 go_enter Tryz.func68,Tryz.ntmps68
 repeat' (first
  | (with_reducible refine wp_exit ?_; repeat (first | with_reducible refine ex_norm ?_ | with_reducible refine ex_then ?_ | with_reducible refine ex_here ?_ | with_reducible refine ex_pass rfl ?_))
  | (go_big_may; first
   | (go_at_call 75; refine HK.out.mono ?_; rintro e w' ⟨rfl,rfl⟩)
   | (go_at_call 76; ((with_reducible refine HX.out.mono ?_); rintro e w' ⟨rfl,rfl⟩))
   | (go_at_call 76; ((with_reducible refine HY.out.mono ?_); rintro e w' ⟨rfl,rfl⟩))
   | (go_at_call 126; refine HD.out.mono ?_; rintro e w' ⟨v,rfl,hv,hc,rfl⟩; have HC := hid (cut_any n HN.out v hv w); rw [hc] at HC; clear hv hc)
   | (go_at_call 76; ((with_reducible refine HC.out.mono ?_); rintro e w' ⟨rfl,rfl⟩)))
  | go_values | go_skip | go_guarded | go_step | go_upon | go_back | dsimp only)
 go_ret2
 exact ⟨rfl,rfl⟩
set_option maxHeartbeats 800000 in
theorem Bin_14 (n : Nat) (hn : Okn n) (a b : Nat) (ha : a < 18446744073709551616) (hb : b < 18446744073709551616) (w : World) :
  Calls Tryz.prog 68 #[.int .i64 n,.int .i64 14,.int .u64 a,.int .u64 b] w fun e w' => e = .returned (.tuple #[.int .u64 ((binR n 14 (a % 2 ^ n) (b % 2 ^ n)).1 : Nat),.int .i64 ((binR n 14 (a % 2 ^ n) (b % 2 ^ n)).2 : Nat)]) ∧ w = w' := by
 obtain ⟨h1,h2,h3,h4⟩ := pow_lt64 hn
 have HK := hid (known_yes n hn w)
 have HX := hid (cut_any n hn a ha w)
 have HY := hid (cut_any n hn b hb w)
 obtain ⟨x,hx⟩ : ∃ x : Nat,x = a % 2 ^ n := ⟨_,rfl⟩
 obtain ⟨y,hy⟩ : ∃ y : Nat,y = b % 2 ^ n := ⟨_,rfl⟩
 have hxl : x < 2 ^ n := by rw [hx]; exact Nat.mod_lt _ (Nat.two_pow_pos n)
 have hyl : y < 2 ^ n := by rw [hy]; exact Nat.mod_lt _ (Nat.two_pow_pos n)
 rw [← hx] at HX
 rw [← hy] at HY
 rw [← hx,← hy]
 clear hx hy ha hb
 have HD := hid (shifted_any n hn 14 (by decide) (by decide) x y hxl w)
 have hs : binR n 14 x y = (shiftR n 14 x (y % n),0) := by
  rw [binR,if_neg (by decide),if_neg (by decide),if_neg (by decide),if_neg (by decide),if_neg (by decide),if_neg (by decide),if_neg (by decide),if_pos (by decide)]
 rw [hs]
 obtain ⟨s,h5⟩ : ∃ s : Nat,s = shiftR n 14 x (y % n) := ⟨_,rfl⟩
 rw [← h5] at HD ⊢
 have HN := hid hn
 clear h1 h2 h3 h4 h5 hn hs hxl hyl
 go_enter Tryz.func68,Tryz.ntmps68
 repeat' (first
  | (with_reducible refine wp_exit ?_; repeat (first | with_reducible refine ex_norm ?_ | with_reducible refine ex_then ?_ | with_reducible refine ex_here ?_ | with_reducible refine ex_pass rfl ?_))
  | (go_big_may; first
   | (go_at_call 75; refine HK.out.mono ?_; rintro e w' ⟨rfl,rfl⟩)
   | (go_at_call 76; ((with_reducible refine HX.out.mono ?_); rintro e w' ⟨rfl,rfl⟩))
   | (go_at_call 76; ((with_reducible refine HY.out.mono ?_); rintro e w' ⟨rfl,rfl⟩))
   | (go_at_call 126; refine HD.out.mono ?_; rintro e w' ⟨v,rfl,hv,hc,rfl⟩; have HC := hid (cut_any n HN.out v hv w); rw [hc] at HC; clear hv hc)
   | (go_at_call 76; ((with_reducible refine HC.out.mono ?_); rintro e w' ⟨rfl,rfl⟩)))
  | go_values | go_skip | go_guarded | go_step | go_upon | go_back | dsimp only)
 go_ret2
 exact ⟨rfl,rfl⟩
set_option maxHeartbeats 800000 in
theorem Bin_15 (n : Nat) (hn : Okn n) (a b : Nat) (ha : a < 18446744073709551616) (hb : b < 18446744073709551616) (w : World) :
  Calls Tryz.prog 68 #[.int .i64 n,.int .i64 15,.int .u64 a,.int .u64 b] w fun e w' => e = .returned (.tuple #[.int .u64 ((binR n 15 (a % 2 ^ n) (b % 2 ^ n)).1 : Nat),.int .i64 ((binR n 15 (a % 2 ^ n) (b % 2 ^ n)).2 : Nat)]) ∧ w = w' := by
 obtain ⟨h1,h2,h3,h4⟩ := pow_lt64 hn
 have HK := hid (known_yes n hn w)
 have HX := hid (cut_any n hn a ha w)
 have HY := hid (cut_any n hn b hb w)
 obtain ⟨x,hx⟩ : ∃ x : Nat,x = a % 2 ^ n := ⟨_,rfl⟩
 obtain ⟨y,hy⟩ : ∃ y : Nat,y = b % 2 ^ n := ⟨_,rfl⟩
 have hxl : x < 2 ^ n := by rw [hx]; exact Nat.mod_lt _ (Nat.two_pow_pos n)
 have hyl : y < 2 ^ n := by rw [hy]; exact Nat.mod_lt _ (Nat.two_pow_pos n)
 rw [← hx] at HX
 rw [← hy] at HY
 rw [← hx,← hy]
 clear hx hy ha hb
 have HD := hid (shifted_any n hn 15 (by decide) (by decide) x y hxl w)
 have hs : binR n 15 x y = (shiftR n 15 x (y % n),0) := by
  rw [binR,if_neg (by decide),if_neg (by decide),if_neg (by decide),if_neg (by decide),if_neg (by decide),if_neg (by decide),if_neg (by decide),if_pos (by decide)]
 rw [hs]
 obtain ⟨s,h5⟩ : ∃ s : Nat,s = shiftR n 15 x (y % n) := ⟨_,rfl⟩
 rw [← h5] at HD ⊢
 have HN := hid hn
 clear h1 h2 h3 h4 h5 hn hs hxl hyl
 go_enter Tryz.func68,Tryz.ntmps68
 repeat' (first
  | (with_reducible refine wp_exit ?_; repeat (first | with_reducible refine ex_norm ?_ | with_reducible refine ex_then ?_ | with_reducible refine ex_here ?_ | with_reducible refine ex_pass rfl ?_))
  | (go_big_may; first
   | (go_at_call 75; refine HK.out.mono ?_; rintro e w' ⟨rfl,rfl⟩)
   | (go_at_call 76; ((with_reducible refine HX.out.mono ?_); rintro e w' ⟨rfl,rfl⟩))
   | (go_at_call 76; ((with_reducible refine HY.out.mono ?_); rintro e w' ⟨rfl,rfl⟩))
   | (go_at_call 126; refine HD.out.mono ?_; rintro e w' ⟨v,rfl,hv,hc,rfl⟩; have HC := hid (cut_any n HN.out v hv w); rw [hc] at HC; clear hv hc)
   | (go_at_call 76; ((with_reducible refine HC.out.mono ?_); rintro e w' ⟨rfl,rfl⟩)))
  | go_values | go_skip | go_guarded | go_step | go_upon | go_back | dsimp only)
 go_ret2
 exact ⟨rfl,rfl⟩
set_option maxHeartbeats 800000 in
theorem Bin_16 (n : Nat) (hn : Okn n) (a b : Nat) (ha : a < 18446744073709551616) (hb : b < 18446744073709551616) (w : World) :
  Calls Tryz.prog 68 #[.int .i64 n,.int .i64 16,.int .u64 a,.int .u64 b] w fun e w' => e = .returned (.tuple #[.int .u64 ((binR n 16 (a % 2 ^ n) (b % 2 ^ n)).1 : Nat),.int .i64 ((binR n 16 (a % 2 ^ n) (b % 2 ^ n)).2 : Nat)]) ∧ w = w' := by
 obtain ⟨h1,h2,h3,h4⟩ := pow_lt64 hn
 have HK := hid (known_yes n hn w)
 have HX := hid (cut_any n hn a ha w)
 have HY := hid (cut_any n hn b hb w)
 obtain ⟨x,hx⟩ : ∃ x : Nat,x = a % 2 ^ n := ⟨_,rfl⟩
 obtain ⟨y,hy⟩ : ∃ y : Nat,y = b % 2 ^ n := ⟨_,rfl⟩
 have hxl : x < 2 ^ n := by rw [hx]; exact Nat.mod_lt _ (Nat.two_pow_pos n)
 have hyl : y < 2 ^ n := by rw [hy]; exact Nat.mod_lt _ (Nat.two_pow_pos n)
 rw [← hx] at HX
 rw [← hy] at HY
 rw [← hx,← hy]
 clear hx hy ha hb
 have HD := hid (saturated_any n hn 16 (by decide) (by decide) x y hxl hyl w)
 have hs : binR n 16 x y = (satR n 16 x y,0) := by
  rw [binR,if_neg (by decide),if_neg (by decide),if_neg (by decide),if_neg (by decide),if_neg (by decide),if_neg (by decide),if_neg (by decide),if_neg (by decide),if_pos (by decide)]
 rw [hs]
 obtain ⟨s,h5⟩ : ∃ s : Nat,s = satR n 16 x y := ⟨_,rfl⟩
 rw [← h5] at HD ⊢
 have HN := hid hn
 clear h1 h2 h3 h4 h5 hn hs hxl hyl
 go_enter Tryz.func68,Tryz.ntmps68
 repeat' (first
  | (with_reducible refine wp_exit ?_; repeat (first | with_reducible refine ex_norm ?_ | with_reducible refine ex_then ?_ | with_reducible refine ex_here ?_ | with_reducible refine ex_pass rfl ?_))
  | (go_big_may; first
   | (go_at_call 75; refine HK.out.mono ?_; rintro e w' ⟨rfl,rfl⟩)
   | (go_at_call 76; ((with_reducible refine HX.out.mono ?_); rintro e w' ⟨rfl,rfl⟩))
   | (go_at_call 76; ((with_reducible refine HY.out.mono ?_); rintro e w' ⟨rfl,rfl⟩))
   | (go_at_call 127; refine HD.out.mono ?_; rintro e w' ⟨v,rfl,hv,hc,rfl⟩; have HC := hid (cut_any n HN.out v hv w); rw [hc] at HC; clear hv hc)
   | (go_at_call 76; ((with_reducible refine HC.out.mono ?_); rintro e w' ⟨rfl,rfl⟩)))
  | go_values | go_skip | go_guarded | go_step | go_upon | go_back | dsimp only)
 go_ret2
 exact ⟨rfl,rfl⟩
set_option maxHeartbeats 800000 in
theorem Bin_17 (n : Nat) (hn : Okn n) (a b : Nat) (ha : a < 18446744073709551616) (hb : b < 18446744073709551616) (w : World) :
  Calls Tryz.prog 68 #[.int .i64 n,.int .i64 17,.int .u64 a,.int .u64 b] w fun e w' => e = .returned (.tuple #[.int .u64 ((binR n 17 (a % 2 ^ n) (b % 2 ^ n)).1 : Nat),.int .i64 ((binR n 17 (a % 2 ^ n) (b % 2 ^ n)).2 : Nat)]) ∧ w = w' := by
 obtain ⟨h1,h2,h3,h4⟩ := pow_lt64 hn
 have HK := hid (known_yes n hn w)
 have HX := hid (cut_any n hn a ha w)
 have HY := hid (cut_any n hn b hb w)
 obtain ⟨x,hx⟩ : ∃ x : Nat,x = a % 2 ^ n := ⟨_,rfl⟩
 obtain ⟨y,hy⟩ : ∃ y : Nat,y = b % 2 ^ n := ⟨_,rfl⟩
 have hxl : x < 2 ^ n := by rw [hx]; exact Nat.mod_lt _ (Nat.two_pow_pos n)
 have hyl : y < 2 ^ n := by rw [hy]; exact Nat.mod_lt _ (Nat.two_pow_pos n)
 rw [← hx] at HX
 rw [← hy] at HY
 rw [← hx,← hy]
 clear hx hy ha hb
 have HD := hid (saturated_any n hn 17 (by decide) (by decide) x y hxl hyl w)
 have hs : binR n 17 x y = (satR n 17 x y,0) := by
  rw [binR,if_neg (by decide),if_neg (by decide),if_neg (by decide),if_neg (by decide),if_neg (by decide),if_neg (by decide),if_neg (by decide),if_neg (by decide),if_pos (by decide)]
 rw [hs]
 obtain ⟨s,h5⟩ : ∃ s : Nat,s = satR n 17 x y := ⟨_,rfl⟩
 rw [← h5] at HD ⊢
 have HN := hid hn
 clear h1 h2 h3 h4 h5 hn hs hxl hyl
 go_enter Tryz.func68,Tryz.ntmps68
 repeat' (first
  | (with_reducible refine wp_exit ?_; repeat (first | with_reducible refine ex_norm ?_ | with_reducible refine ex_then ?_ | with_reducible refine ex_here ?_ | with_reducible refine ex_pass rfl ?_))
  | (go_big_may; first
   | (go_at_call 75; refine HK.out.mono ?_; rintro e w' ⟨rfl,rfl⟩)
   | (go_at_call 76; ((with_reducible refine HX.out.mono ?_); rintro e w' ⟨rfl,rfl⟩))
   | (go_at_call 76; ((with_reducible refine HY.out.mono ?_); rintro e w' ⟨rfl,rfl⟩))
   | (go_at_call 127; refine HD.out.mono ?_; rintro e w' ⟨v,rfl,hv,hc,rfl⟩; have HC := hid (cut_any n HN.out v hv w); rw [hc] at HC; clear hv hc)
   | (go_at_call 76; ((with_reducible refine HC.out.mono ?_); rintro e w' ⟨rfl,rfl⟩)))
  | go_values | go_skip | go_guarded | go_step | go_upon | go_back | dsimp only)
 go_ret2
 exact ⟨rfl,rfl⟩
set_option maxHeartbeats 800000 in
theorem Bin_18 (n : Nat) (hn : Okn n) (a b : Nat) (ha : a < 18446744073709551616) (hb : b < 18446744073709551616) (w : World) :
  Calls Tryz.prog 68 #[.int .i64 n,.int .i64 18,.int .u64 a,.int .u64 b] w fun e w' => e = .returned (.tuple #[.int .u64 ((binR n 18 (a % 2 ^ n) (b % 2 ^ n)).1 : Nat),.int .i64 ((binR n 18 (a % 2 ^ n) (b % 2 ^ n)).2 : Nat)]) ∧ w = w' := by
 obtain ⟨h1,h2,h3,h4⟩ := pow_lt64 hn
 have HK := hid (known_yes n hn w)
 have HX := hid (cut_any n hn a ha w)
 have HY := hid (cut_any n hn b hb w)
 obtain ⟨x,hx⟩ : ∃ x : Nat,x = a % 2 ^ n := ⟨_,rfl⟩
 obtain ⟨y,hy⟩ : ∃ y : Nat,y = b % 2 ^ n := ⟨_,rfl⟩
 have hxl : x < 2 ^ n := by rw [hx]; exact Nat.mod_lt _ (Nat.two_pow_pos n)
 have hyl : y < 2 ^ n := by rw [hy]; exact Nat.mod_lt _ (Nat.two_pow_pos n)
 rw [← hx] at HX
 rw [← hy] at HY
 rw [← hx,← hy]
 clear hx hy ha hb
 have HD := hid (saturated_any n hn 18 (by decide) (by decide) x y hxl hyl w)
 have hs : binR n 18 x y = (satR n 18 x y,0) := by
  rw [binR,if_neg (by decide),if_neg (by decide),if_neg (by decide),if_neg (by decide),if_neg (by decide),if_neg (by decide),if_neg (by decide),if_neg (by decide),if_pos (by decide)]
 rw [hs]
 obtain ⟨s,h5⟩ : ∃ s : Nat,s = satR n 18 x y := ⟨_,rfl⟩
 rw [← h5] at HD ⊢
 have HN := hid hn
 clear h1 h2 h3 h4 h5 hn hs hxl hyl
 go_enter Tryz.func68,Tryz.ntmps68
 repeat' (first
  | (with_reducible refine wp_exit ?_; repeat (first | with_reducible refine ex_norm ?_ | with_reducible refine ex_then ?_ | with_reducible refine ex_here ?_ | with_reducible refine ex_pass rfl ?_))
  | (go_big_may; first
   | (go_at_call 75; refine HK.out.mono ?_; rintro e w' ⟨rfl,rfl⟩)
   | (go_at_call 76; ((with_reducible refine HX.out.mono ?_); rintro e w' ⟨rfl,rfl⟩))
   | (go_at_call 76; ((with_reducible refine HY.out.mono ?_); rintro e w' ⟨rfl,rfl⟩))
   | (go_at_call 127; refine HD.out.mono ?_; rintro e w' ⟨v,rfl,hv,hc,rfl⟩; have HC := hid (cut_any n HN.out v hv w); rw [hc] at HC; clear hv hc)
   | (go_at_call 76; ((with_reducible refine HC.out.mono ?_); rintro e w' ⟨rfl,rfl⟩)))
  | go_values | go_skip | go_guarded | go_step | go_upon | go_back | dsimp only)
 go_ret2
 exact ⟨rfl,rfl⟩
set_option maxHeartbeats 800000 in
theorem Bin_19 (n : Nat) (hn : Okn n) (a b : Nat) (ha : a < 18446744073709551616) (hb : b < 18446744073709551616) (w : World) :
  Calls Tryz.prog 68 #[.int .i64 n,.int .i64 19,.int .u64 a,.int .u64 b] w fun e w' => e = .returned (.tuple #[.int .u64 ((binR n 19 (a % 2 ^ n) (b % 2 ^ n)).1 : Nat),.int .i64 ((binR n 19 (a % 2 ^ n) (b % 2 ^ n)).2 : Nat)]) ∧ w = w' := by
 obtain ⟨h1,h2,h3,h4⟩ := pow_lt64 hn
 have HK := hid (known_yes n hn w)
 have HX := hid (cut_any n hn a ha w)
 have HY := hid (cut_any n hn b hb w)
 obtain ⟨x,hx⟩ : ∃ x : Nat,x = a % 2 ^ n := ⟨_,rfl⟩
 obtain ⟨y,hy⟩ : ∃ y : Nat,y = b % 2 ^ n := ⟨_,rfl⟩
 have hxl : x < 2 ^ n := by rw [hx]; exact Nat.mod_lt _ (Nat.two_pow_pos n)
 have hyl : y < 2 ^ n := by rw [hy]; exact Nat.mod_lt _ (Nat.two_pow_pos n)
 rw [← hx] at HX
 rw [← hy] at HY
 rw [← hx,← hy]
 clear hx hy ha hb
 have HD := hid (saturated_any n hn 19 (by decide) (by decide) x y hxl hyl w)
 have hs : binR n 19 x y = (satR n 19 x y,0) := by
  rw [binR,if_neg (by decide),if_neg (by decide),if_neg (by decide),if_neg (by decide),if_neg (by decide),if_neg (by decide),if_neg (by decide),if_neg (by decide),if_pos (by decide)]
 rw [hs]
 obtain ⟨s,h5⟩ : ∃ s : Nat,s = satR n 19 x y := ⟨_,rfl⟩
 rw [← h5] at HD ⊢
 have HN := hid hn
 clear h1 h2 h3 h4 h5 hn hs hxl hyl
 go_enter Tryz.func68,Tryz.ntmps68
 repeat' (first
  | (with_reducible refine wp_exit ?_; repeat (first | with_reducible refine ex_norm ?_ | with_reducible refine ex_then ?_ | with_reducible refine ex_here ?_ | with_reducible refine ex_pass rfl ?_))
  | (go_big_may; first
   | (go_at_call 75; refine HK.out.mono ?_; rintro e w' ⟨rfl,rfl⟩)
   | (go_at_call 76; ((with_reducible refine HX.out.mono ?_); rintro e w' ⟨rfl,rfl⟩))
   | (go_at_call 76; ((with_reducible refine HY.out.mono ?_); rintro e w' ⟨rfl,rfl⟩))
   | (go_at_call 127; refine HD.out.mono ?_; rintro e w' ⟨v,rfl,hv,hc,rfl⟩; have HC := hid (cut_any n HN.out v hv w); rw [hc] at HC; clear hv hc)
   | (go_at_call 76; ((with_reducible refine HC.out.mono ?_); rintro e w' ⟨rfl,rfl⟩)))
  | go_values | go_skip | go_guarded | go_step | go_upon | go_back | dsimp only)
 go_ret2
 exact ⟨rfl,rfl⟩
set_option maxHeartbeats 800000 in
theorem Bin_20 (n : Nat) (hn : Okn n) (a b : Nat) (ha : a < 18446744073709551616) (hb : b < 18446744073709551616) (w : World) :
  Calls Tryz.prog 68 #[.int .i64 n,.int .i64 20,.int .u64 a,.int .u64 b] w fun e w' => e = .returned (.tuple #[.int .u64 ((binR n 20 (a % 2 ^ n) (b % 2 ^ n)).1 : Nat),.int .i64 ((binR n 20 (a % 2 ^ n) (b % 2 ^ n)).2 : Nat)]) ∧ w = w' := by
 obtain ⟨h1,h2,h3,h4⟩ := pow_lt64 hn
 have HK := hid (known_yes n hn w)
 have HX := hid (cut_any n hn a ha w)
 have HY := hid (cut_any n hn b hb w)
 obtain ⟨x,hx⟩ : ∃ x : Nat,x = a % 2 ^ n := ⟨_,rfl⟩
 obtain ⟨y,hy⟩ : ∃ y : Nat,y = b % 2 ^ n := ⟨_,rfl⟩
 have hxl : x < 2 ^ n := by rw [hx]; exact Nat.mod_lt _ (Nat.two_pow_pos n)
 have hyl : y < 2 ^ n := by rw [hy]; exact Nat.mod_lt _ (Nat.two_pow_pos n)
 rw [← hx] at HX
 rw [← hy] at HY
 rw [← hx,← hy]
 clear hx hy ha hb
 have HD := hid (chosen_any n hn 20 (by decide) (by decide) x y hxl hyl w)
 have hs : binR n 20 x y = (mmR n 20 x y,0) := by
  rw [binR,if_neg (by decide),if_neg (by decide),if_neg (by decide),if_neg (by decide),if_neg (by decide),if_neg (by decide),if_neg (by decide),if_neg (by decide),if_neg (by decide),if_pos (by decide)]
 rw [hs]
 obtain ⟨s,h5⟩ : ∃ s : Nat,s = mmR n 20 x y := ⟨_,rfl⟩
 rw [← h5] at HD ⊢
 have HN := hid hn
 clear h1 h2 h3 h4 h5 hn hs hxl hyl
 go_enter Tryz.func68,Tryz.ntmps68
 repeat' (first
  | (with_reducible refine wp_exit ?_; repeat (first | with_reducible refine ex_norm ?_ | with_reducible refine ex_then ?_ | with_reducible refine ex_here ?_ | with_reducible refine ex_pass rfl ?_))
  | (go_big_may; first
   | (go_at_call 75; refine HK.out.mono ?_; rintro e w' ⟨rfl,rfl⟩)
   | (go_at_call 76; ((with_reducible refine HX.out.mono ?_); rintro e w' ⟨rfl,rfl⟩))
   | (go_at_call 76; ((with_reducible refine HY.out.mono ?_); rintro e w' ⟨rfl,rfl⟩))
   | (go_at_call 128; refine HD.out.mono ?_; rintro e w' ⟨v,rfl,hv,hc,rfl⟩; have HC := hid (cut_any n HN.out v hv w); rw [hc] at HC; clear hv hc)
   | (go_at_call 76; ((with_reducible refine HC.out.mono ?_); rintro e w' ⟨rfl,rfl⟩)))
  | go_values | go_skip | go_guarded | go_step | go_upon | go_back | dsimp only)
 go_ret2
 exact ⟨rfl,rfl⟩
set_option maxHeartbeats 800000 in
theorem Bin_21 (n : Nat) (hn : Okn n) (a b : Nat) (ha : a < 18446744073709551616) (hb : b < 18446744073709551616) (w : World) :
  Calls Tryz.prog 68 #[.int .i64 n,.int .i64 21,.int .u64 a,.int .u64 b] w fun e w' => e = .returned (.tuple #[.int .u64 ((binR n 21 (a % 2 ^ n) (b % 2 ^ n)).1 : Nat),.int .i64 ((binR n 21 (a % 2 ^ n) (b % 2 ^ n)).2 : Nat)]) ∧ w = w' := by
 obtain ⟨h1,h2,h3,h4⟩ := pow_lt64 hn
 have HK := hid (known_yes n hn w)
 have HX := hid (cut_any n hn a ha w)
 have HY := hid (cut_any n hn b hb w)
 obtain ⟨x,hx⟩ : ∃ x : Nat,x = a % 2 ^ n := ⟨_,rfl⟩
 obtain ⟨y,hy⟩ : ∃ y : Nat,y = b % 2 ^ n := ⟨_,rfl⟩
 have hxl : x < 2 ^ n := by rw [hx]; exact Nat.mod_lt _ (Nat.two_pow_pos n)
 have hyl : y < 2 ^ n := by rw [hy]; exact Nat.mod_lt _ (Nat.two_pow_pos n)
 rw [← hx] at HX
 rw [← hy] at HY
 rw [← hx,← hy]
 clear hx hy ha hb
 have HD := hid (chosen_any n hn 21 (by decide) (by decide) x y hxl hyl w)
 have hs : binR n 21 x y = (mmR n 21 x y,0) := by
  rw [binR,if_neg (by decide),if_neg (by decide),if_neg (by decide),if_neg (by decide),if_neg (by decide),if_neg (by decide),if_neg (by decide),if_neg (by decide),if_neg (by decide),if_pos (by decide)]
 rw [hs]
 obtain ⟨s,h5⟩ : ∃ s : Nat,s = mmR n 21 x y := ⟨_,rfl⟩
 rw [← h5] at HD ⊢
 have HN := hid hn
 clear h1 h2 h3 h4 h5 hn hs hxl hyl
 go_enter Tryz.func68,Tryz.ntmps68
 repeat' (first
  | (with_reducible refine wp_exit ?_; repeat (first | with_reducible refine ex_norm ?_ | with_reducible refine ex_then ?_ | with_reducible refine ex_here ?_ | with_reducible refine ex_pass rfl ?_))
  | (go_big_may; first
   | (go_at_call 75; refine HK.out.mono ?_; rintro e w' ⟨rfl,rfl⟩)
   | (go_at_call 76; ((with_reducible refine HX.out.mono ?_); rintro e w' ⟨rfl,rfl⟩))
   | (go_at_call 76; ((with_reducible refine HY.out.mono ?_); rintro e w' ⟨rfl,rfl⟩))
   | (go_at_call 128; refine HD.out.mono ?_; rintro e w' ⟨v,rfl,hv,hc,rfl⟩; have HC := hid (cut_any n HN.out v hv w); rw [hc] at HC; clear hv hc)
   | (go_at_call 76; ((with_reducible refine HC.out.mono ?_); rintro e w' ⟨rfl,rfl⟩)))
  | go_values | go_skip | go_guarded | go_step | go_upon | go_back | dsimp only)
 go_ret2
 exact ⟨rfl,rfl⟩
set_option maxHeartbeats 800000 in
theorem Bin_22 (n : Nat) (hn : Okn n) (a b : Nat) (ha : a < 18446744073709551616) (hb : b < 18446744073709551616) (w : World) :
  Calls Tryz.prog 68 #[.int .i64 n,.int .i64 22,.int .u64 a,.int .u64 b] w fun e w' => e = .returned (.tuple #[.int .u64 ((binR n 22 (a % 2 ^ n) (b % 2 ^ n)).1 : Nat),.int .i64 ((binR n 22 (a % 2 ^ n) (b % 2 ^ n)).2 : Nat)]) ∧ w = w' := by
 obtain ⟨h1,h2,h3,h4⟩ := pow_lt64 hn
 have HK := hid (known_yes n hn w)
 have HX := hid (cut_any n hn a ha w)
 have HY := hid (cut_any n hn b hb w)
 obtain ⟨x,hx⟩ : ∃ x : Nat,x = a % 2 ^ n := ⟨_,rfl⟩
 obtain ⟨y,hy⟩ : ∃ y : Nat,y = b % 2 ^ n := ⟨_,rfl⟩
 have hxl : x < 2 ^ n := by rw [hx]; exact Nat.mod_lt _ (Nat.two_pow_pos n)
 have hyl : y < 2 ^ n := by rw [hy]; exact Nat.mod_lt _ (Nat.two_pow_pos n)
 rw [← hx] at HX
 rw [← hy] at HY
 rw [← hx,← hy]
 clear hx hy ha hb
 have HD := hid (chosen_any n hn 22 (by decide) (by decide) x y hxl hyl w)
 have hs : binR n 22 x y = (mmR n 22 x y,0) := by
  rw [binR,if_neg (by decide),if_neg (by decide),if_neg (by decide),if_neg (by decide),if_neg (by decide),if_neg (by decide),if_neg (by decide),if_neg (by decide),if_neg (by decide),if_pos (by decide)]
 rw [hs]
 obtain ⟨s,h5⟩ : ∃ s : Nat,s = mmR n 22 x y := ⟨_,rfl⟩
 rw [← h5] at HD ⊢
 have HN := hid hn
 clear h1 h2 h3 h4 h5 hn hs hxl hyl
 go_enter Tryz.func68,Tryz.ntmps68
 repeat' (first
  | (with_reducible refine wp_exit ?_; repeat (first | with_reducible refine ex_norm ?_ | with_reducible refine ex_then ?_ | with_reducible refine ex_here ?_ | with_reducible refine ex_pass rfl ?_))
  | (go_big_may; first
   | (go_at_call 75; refine HK.out.mono ?_; rintro e w' ⟨rfl,rfl⟩)
   | (go_at_call 76; ((with_reducible refine HX.out.mono ?_); rintro e w' ⟨rfl,rfl⟩))
   | (go_at_call 76; ((with_reducible refine HY.out.mono ?_); rintro e w' ⟨rfl,rfl⟩))
   | (go_at_call 128; refine HD.out.mono ?_; rintro e w' ⟨v,rfl,hv,hc,rfl⟩; have HC := hid (cut_any n HN.out v hv w); rw [hc] at HC; clear hv hc)
   | (go_at_call 76; ((with_reducible refine HC.out.mono ?_); rintro e w' ⟨rfl,rfl⟩)))
  | go_values | go_skip | go_guarded | go_step | go_upon | go_back | dsimp only)
 go_ret2
 exact ⟨rfl,rfl⟩
set_option maxHeartbeats 800000 in
theorem Bin_23 (n : Nat) (hn : Okn n) (a b : Nat) (ha : a < 18446744073709551616) (hb : b < 18446744073709551616) (w : World) :
  Calls Tryz.prog 68 #[.int .i64 n,.int .i64 23,.int .u64 a,.int .u64 b] w fun e w' => e = .returned (.tuple #[.int .u64 ((binR n 23 (a % 2 ^ n) (b % 2 ^ n)).1 : Nat),.int .i64 ((binR n 23 (a % 2 ^ n) (b % 2 ^ n)).2 : Nat)]) ∧ w = w' := by
 obtain ⟨h1,h2,h3,h4⟩ := pow_lt64 hn
 have HK := hid (known_yes n hn w)
 have HX := hid (cut_any n hn a ha w)
 have HY := hid (cut_any n hn b hb w)
 obtain ⟨x,hx⟩ : ∃ x : Nat,x = a % 2 ^ n := ⟨_,rfl⟩
 obtain ⟨y,hy⟩ : ∃ y : Nat,y = b % 2 ^ n := ⟨_,rfl⟩
 have hxl : x < 2 ^ n := by rw [hx]; exact Nat.mod_lt _ (Nat.two_pow_pos n)
 have hyl : y < 2 ^ n := by rw [hy]; exact Nat.mod_lt _ (Nat.two_pow_pos n)
 rw [← hx] at HX
 rw [← hy] at HY
 rw [← hx,← hy]
 clear hx hy ha hb
 have HD := hid (chosen_any n hn 23 (by decide) (by decide) x y hxl hyl w)
 have hs : binR n 23 x y = (mmR n 23 x y,0) := by
  rw [binR,if_neg (by decide),if_neg (by decide),if_neg (by decide),if_neg (by decide),if_neg (by decide),if_neg (by decide),if_neg (by decide),if_neg (by decide),if_neg (by decide),if_pos (by decide)]
 rw [hs]
 obtain ⟨s,h5⟩ : ∃ s : Nat,s = mmR n 23 x y := ⟨_,rfl⟩
 rw [← h5] at HD ⊢
 have HN := hid hn
 clear h1 h2 h3 h4 h5 hn hs hxl hyl
 go_enter Tryz.func68,Tryz.ntmps68
 repeat' (first
  | (with_reducible refine wp_exit ?_; repeat (first | with_reducible refine ex_norm ?_ | with_reducible refine ex_then ?_ | with_reducible refine ex_here ?_ | with_reducible refine ex_pass rfl ?_))
  | (go_big_may; first
   | (go_at_call 75; refine HK.out.mono ?_; rintro e w' ⟨rfl,rfl⟩)
   | (go_at_call 76; ((with_reducible refine HX.out.mono ?_); rintro e w' ⟨rfl,rfl⟩))
   | (go_at_call 76; ((with_reducible refine HY.out.mono ?_); rintro e w' ⟨rfl,rfl⟩))
   | (go_at_call 128; refine HD.out.mono ?_; rintro e w' ⟨v,rfl,hv,hc,rfl⟩; have HC := hid (cut_any n HN.out v hv w); rw [hc] at HC; clear hv hc)
   | (go_at_call 76; ((with_reducible refine HC.out.mono ?_); rintro e w' ⟨rfl,rfl⟩)))
  | go_values | go_skip | go_guarded | go_step | go_upon | go_back | dsimp only)
 go_ret2
 exact ⟨rfl,rfl⟩
end Go.Proofs.YtbbmbhcbncenaaaGreatDoor
