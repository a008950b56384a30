/-
  BinAny, Rel, UnMath, Un1: merged, what the law does not reach left out (each text says what it holds where it lies in wip). No condition.
-/
import Derived.Test.YtbbmbhcbncenaaaGreatDoorG06
import Derived.Test.YtbbmbhcbncenaaaGreatDoorG04
import Derived.Test.YtbbmbhcbncenaaaGreatDoorG05
import Derived.Test.YtbbmbhcbncenaaaGreatDoorG01
set_option linter.unusedSimpArgs false
set_option linter.unusedVariables false
set_option maxRecDepth 100000
namespace Go.Proofs.YtbbmbhcbncenaaaGreatDoor
open Go.RowKit
def binA (bits op : Int) (a b : Nat) : Nat × Nat :=
 if Okn bits.toNat ∧ 1 ≤ op ∧ op ≤ 25 ∧ (op = 25 → bits = 16) then binR bits.toNat op.toNat (a % 2 ^ bits.toNat) (b % 2 ^ bits.toNat) else (0,1)
set_option maxHeartbeats 800000 in
theorem Bin_25 (a b : Nat) (ha : a < 18446744073709551616) (hb : b < 18446744073709551616) (w : World) :
  Calls Tryz.prog 68 #[.int .i64 16,.int .i64 25,.int .u64 a,.int .u64 b] w fun e w' => e = .returned (.tuple #[.int .u64 ((binR 16 25 (a % 2 ^ 16) (b % 2 ^ 16)).1 : Nat),.int .i64 ((binR 16 25 (a % 2 ^ 16) (b % 2 ^ 16)).2 : Nat)]) ∧ w = w' := by
 have hn : Okn 16 := .inr (.inl rfl)
 have HK : Hid (Calls Tryz.prog 75 #[.int .i64 16] w _) := hid (known_yes 16 hn w)
 have HX : Hid (Calls Tryz.prog 76 #[.int .i64 16,.int .u64 a] w _) := hid (cut_any 16 hn a ha w)
 have HY : Hid (Calls Tryz.prog 76 #[.int .i64 16,.int .u64 b] w _) := hid (cut_any 16 hn b hb w)
 obtain ⟨x,hx⟩ : ∃ x : Nat,x = a % 2 ^ 16 := ⟨_,rfl⟩
 obtain ⟨y,hy⟩ : ∃ y : Nat,y = b % 2 ^ 16 := ⟨_,rfl⟩
 have hxl : x < 2 ^ 16 := by rw [hx]; exact Nat.mod_lt _ (Nat.two_pow_pos 16)
 have hyl : y < 2 ^ 16 := by rw [hy]; exact Nat.mod_lt _ (Nat.two_pow_pos 16)
 rw [← hx] at HX
 rw [← hy] at HY
 rw [← hx,← hy]
 clear hx hy ha hb hn
 have HD := hid (fraction_any x y hxl hyl w)
 have hs : binR 16 25 x y = (toN 16 (clampS 16 ((sg 16 x * sg 16 y + 16384) / 32768)),0) := by
  rw [binR,if_neg (by decide),if_neg (by decide),if_neg (by decide),if_neg (by decide),if_neg (by decide),if_neg (by decide),if_neg (by decide),if_neg (by decide),if_neg (by decide),if_neg (by decide),if_neg (by decide)]
 rw [hs]
 obtain ⟨s,h5⟩ : ∃ s : Nat,s = toN 16 (clampS 16 ((sg 16 x * sg 16 y + 16384) / 32768)) := ⟨_,rfl⟩
 rw [← h5] at HD ⊢
 clear h5 hs hxl hyl
 go_enter Tryz.func68,Tryz.ntmps68
 repeat' (first
  | (with_reducible refine wp_exit ?_; repeat (first | with_reducible refine ex_norm ?_ | with_reducible refine ex_then ?_ | with_reducible refine ex_here ?_ | with_reducible refine ex_pass rfl ?_))
  | (go_big_may; first
   | (go_at_call 75; refine HK.out.mono ?_; rintro e w' ⟨rfl,rfl⟩)
   | (go_at_call 76; ((with_reducible refine HX.out.mono ?_); rintro e w' ⟨rfl,rfl⟩))
   | (go_at_call 76; ((with_reducible refine HY.out.mono ?_); rintro e w' ⟨rfl,rfl⟩))
   | (go_at_call 129; refine HD.out.mono ?_; rintro e w' ⟨v,rfl,hv,hc,rfl⟩; have HC : Hid (Calls Tryz.prog 76 #[.int .i64 16,.int .u64 v] w _) := hid (cut_any 16 (.inr (.inl rfl)) v hv w); rw [hc] at HC; clear hv hc)
   | (go_at_call 76; ((with_reducible refine HC.out.mono ?_); rintro e w' ⟨rfl,rfl⟩)))
  | go_values | go_skip | go_guarded | go_step | go_upon | go_back | dsimp only)
 go_ret2
 exact ⟨rfl,rfl⟩
theorem Bin_25no (n : Nat) (hn : Okn n) (h16 : n ≠ 16) (a b : Nat) (ha : a < 18446744073709551616) (hb : b < 18446744073709551616) (w : World) :
  Calls Tryz.prog 68 #[.int .i64 n,.int .i64 25,.int .u64 a,.int .u64 b] w fun e w' => e = .returned (.tuple #[.int .u64 0,.int .i64 1]) ∧ w = w' := by
 have HK := hid (known_yes n hn w)
 have HX := hid (cut_any n hn a ha w)
 have HY := hid (cut_any n hn b hb w)
 have hne : ((n : Int) != 16) = true := by simp; omega
 have hne2 : ((n : Int) == 16) = false := by simp; omega
 clear ha hb hn
 go_enter Tryz.func68,Tryz.ntmps68
 repeat' (first
  | (with_reducible refine wp_exit ?_; repeat (first | with_reducible refine ex_norm ?_ | with_reducible refine ex_then ?_ | with_reducible refine ex_here ?_ | with_reducible refine ex_pass rfl ?_))
  | (go_big_may; first
   | (go_at_call 75; refine HK.out.mono ?_; rintro e w' ⟨rfl,rfl⟩)
   | (go_at_call 76; ((with_reducible refine HX.out.mono ?_); rintro e w' ⟨rfl,rfl⟩))
   | (go_at_call 76; ((with_reducible refine HY.out.mono ?_); rintro e w' ⟨rfl,rfl⟩)))
  | go_values | go_skip | go_guarded | go_step | go_upon | go_back | dsimp only)
 go_ret2
 exact ⟨rfl,rfl⟩
theorem Bin_noBits (b : Int) (hb : Bad b) (op x y : Int) (w : World) :
  Calls Tryz.prog 68 #[.int .i64 b,.int .i64 op,.int .u64 x,.int .u64 y] w fun e w' => e = .returned (.tuple #[.int .u64 0,.int .i64 1]) ∧ w = w' := by
 have HK := hid (known_no b hb w)
 clear hb
 go_enter Tryz.func68,Tryz.ntmps68
 repeat' (first
  | (with_reducible refine wp_exit ?_; repeat (first | with_reducible refine ex_norm ?_ | with_reducible refine ex_then ?_ | with_reducible refine ex_here ?_ | with_reducible refine ex_pass rfl ?_))
  | (go_big_may; first
   | (go_at_call 75; refine HK.out.mono ?_; rintro e w' ⟨rfl,rfl⟩))
  | go_values | go_skip | go_guarded | go_step | go_upon | go_back | dsimp only)
 go_ret2
 exact ⟨rfl,rfl⟩
set_option maxHeartbeats 800000 in
theorem Bin_noOp (n : Nat) (hn : Okn n) (op : Int) (hop : op < 1 ∨ 25 < op) (a b : Nat) (ha : a < 18446744073709551616) (hb : b < 18446744073709551616) (w : World) :
  Calls Tryz.prog 68 #[.int .i64 n,.int .i64 op,.int .u64 a,.int .u64 b] w fun e w' => e = .returned (.tuple #[.int .u64 0,.int .i64 1]) ∧ w = w' := by
 have HK := hid (known_yes n hn w)
 have HX := hid (cut_any n hn a ha w)
 have HY := hid (cut_any n hn b hb w)
 have e1 : (op == 1) = false := by simp; omega
 have e2 : (op == 2) = false := by simp; omega
 have e3 : (op == 3) = false := by simp; omega
 have e4 : (op == 4) = false := by simp; omega
 have e5 : (op == 5) = false := by simp; omega
 have e6 : (op == 6) = false := by simp; omega
 have e7 : (op == 7) = false := by simp; omega
 have e8 : (op == 8) = false := by simp; omega
 have e9 : (op == 9) = false := by simp; omega
 have e10 : (op == 10) = false := by simp; omega
 have e11 : (op == 11) = false := by simp; omega
 have e12 : (op == 12) = false := by simp; omega
 have e13 : (op == 13) = false := by simp; omega
 have e14 : (op == 14) = false := by simp; omega
 have e15 : (op == 15) = false := by simp; omega
 have e16 : (op == 16) = false := by simp; omega
 have e17 : (op == 17) = false := by simp; omega
 have e18 : (op == 18) = false := by simp; omega
 have e19 : (op == 19) = false := by simp; omega
 have e20 : (op == 20) = false := by simp; omega
 have e21 : (op == 21) = false := by simp; omega
 have e22 : (op == 22) = false := by simp; omega
 have e23 : (op == 23) = false := by simp; omega
 have e24 : (op == 24) = false := by simp; omega
 have e25 : (op == 25) = false := by simp; omega
 clear ha hb hn hop
 go_enter Tryz.func68,Tryz.ntmps68
 repeat' (first
  | (with_reducible refine wp_exit ?_; repeat (first | with_reducible refine ex_norm ?_ | with_reducible refine ex_then ?_ | with_reducible refine ex_here ?_ | with_reducible refine ex_pass rfl ?_))
  | (go_big_may; first
   | (go_at_call 75; refine HK.out.mono ?_; rintro e w' ⟨rfl,rfl⟩)
   | (go_at_call 76; ((with_reducible refine HX.out.mono ?_); rintro e w' ⟨rfl,rfl⟩))
   | (go_at_call 76; ((with_reducible refine HY.out.mono ?_); rintro e w' ⟨rfl,rfl⟩)))
  | go_values | go_skip | go_guarded | go_step | go_upon | go_back | dsimp only)
 go_ret2
 exact ⟨rfl,rfl⟩
theorem Bin_any (bits op : Int) (a b : Nat) (ha : a < 18446744073709551616) (hb : b < 18446744073709551616) (w : World) :
  Calls Tryz.prog 68 #[.int .i64 bits,.int .i64 op,.int .u64 a,.int .u64 b] w fun e w' => e = .returned (.tuple #[.int .u64 ((binA bits op a b).1 : Nat),.int .i64 ((binA bits op a b).2 : Nat)]) ∧ w = w' := by
 by_cases hbits : Okn bits.toNat
 ·obtain ⟨n,rfl⟩ : ∃ n : Nat,bits = (n : Int) := ⟨bits.toNat,by have := hbits.le; omega⟩
  rw [Int.toNat_natCast] at hbits
  by_cases hop : 1 ≤ op ∧ op ≤ 25
  ·obtain ⟨k,rfl⟩ : ∃ k : Nat,op = (k : Int) := ⟨op.toNat,by omega⟩
   by_cases h25 : k = 25
   ·subst h25
    by_cases h16 : n = 16
    ·subst h16
     rw [binA,if_pos ⟨by simpa using hbits,by decide,by decide,fun _ => rfl⟩]
     exact Bin_25 a b ha hb w
    ·rw [binA,if_neg (fun h => h16 (by have := h.2.2.2 rfl; omega))]
     exact Bin_25no n hbits h16 a b ha hb w
   ·rw [binA,if_pos ⟨by simpa using hbits,by omega,by omega,fun h => absurd h (by omega)⟩,Int.toNat_natCast,Int.toNat_natCast]
    have hk : k = 1 ∨ k = 2 ∨ k = 3 ∨ k = 4 ∨ k = 5 ∨ k = 6 ∨ k = 7 ∨ k = 8 ∨ k = 9 ∨ k = 10 ∨ k = 11 ∨ k = 12 ∨ k = 13 ∨ k = 14 ∨ k = 15 ∨ k = 16 ∨ k = 17 ∨ k = 18 ∨ k = 19 ∨ k = 20 ∨ k = 21 ∨ k = 22 ∨ k = 23 ∨ k = 24 := by omega
    rcases hk with rfl | rfl | rfl | rfl | rfl | rfl | rfl | rfl | rfl | rfl | rfl | rfl | rfl | rfl | rfl | rfl | rfl | rfl | rfl | rfl | rfl | rfl | rfl | rfl
    ·exact Bin_1 n hbits a b ha hb w
    ·exact Bin_2 n hbits a b ha hb w
    ·exact Bin_3 n hbits a b ha hb w
    ·exact Bin_4 n hbits a b ha hb w
    ·exact Bin_5 n hbits a b ha hb w
    ·exact Bin_6 n hbits a b ha hb w
    ·exact Bin_7 n hbits a b ha hb w
    ·exact Bin_8 n hbits a b ha hb w
    ·exact Bin_9 n hbits a b ha hb w
    ·exact Bin_10 n hbits a b ha hb w
    ·exact Bin_11 n hbits a b ha hb w
    ·exact Bin_12 n hbits a b ha hb w
    ·exact Bin_13 n hbits a b ha hb w
    ·exact Bin_14 n hbits a b ha hb w
    ·exact Bin_15 n hbits a b ha hb w
    ·exact Bin_16 n hbits a b ha hb w
    ·exact Bin_17 n hbits a b ha hb w
    ·exact Bin_18 n hbits a b ha hb w
    ·exact Bin_19 n hbits a b ha hb w
    ·exact Bin_20 n hbits a b ha hb w
    ·exact Bin_21 n hbits a b ha hb w
    ·exact Bin_22 n hbits a b ha hb w
    ·exact Bin_23 n hbits a b ha hb w
    ·exact Bin_24 n hbits a b ha hb w
  ·rw [binA,if_neg (fun h => hop ⟨h.2.1,h.2.2.1⟩)]
   exact Bin_noOp n hbits op (by omega) a b ha hb w
 ·rw [binA,if_neg (fun h => hbits h.1)]
  exact Bin_noBits bits (by unfold Bad; unfold Okn at hbits; omega) op a b w
end Go.Proofs.YtbbmbhcbncenaaaGreatDoor
namespace Go.Proofs.YtbbmbhcbncenaaaGreatDoor
open Go.RowKit
def relA (bits op : Int) (a b : Nat) : Bool × Nat :=
 if Okn bits.toNat ∧ 1 ≤ op ∧ op ≤ 10 then (relR bits.toNat op.toNat (a % 2 ^ bits.toNat) (b % 2 ^ bits.toNat),0) else (false,1)
theorem ret_bi {k : IntKind} {a b : Bool} {c d : Int} (h : a = b) (h' : c = d) : Ending.returned (.tuple #[.bool a,.int k c]) = .returned (.tuple #[.bool b,.int k d]) := by rw [h,h']
set_option maxHeartbeats 800000 in
theorem Rel_1 (n : Nat) (hn : Okn n) (a b : Nat) (ha : a < 18446744073709551616) (hb : b < 18446744073709551616) (w : World) :
  Calls Tryz.prog 66 #[.int .i64 n,.int .i64 1,.int .u64 a,.int .u64 b] w fun e w' => e = .returned (.tuple #[.bool (relR n 1 (a % 2 ^ n) (b % 2 ^ n)),.int .i64 0]) ∧ w = w' := by
 obtain ⟨h1,h2,h3,h4⟩ := pow_lt64 hn
 have HK := hid (known_yes n hn w)
 have HX := hid (cut_any n hn a ha w)
 have HY := hid (cut_any n hn b hb w)
 have HS := hid (sign_any n hn w)
 obtain ⟨x,hx⟩ : ∃ x : Nat,x = a % 2 ^ n := ⟨_,rfl⟩
 obtain ⟨y,hy⟩ : ∃ y : Nat,y = b % 2 ^ n := ⟨_,rfl⟩
 have hxl : x < 2 ^ n := by rw [hx]; exact Nat.mod_lt _ (Nat.two_pow_pos n)
 have hyl : y < 2 ^ n := by rw [hy]; exact Nat.mod_lt _ (Nat.two_pow_pos n)
 rw [← hx] at HX
 rw [← hy] at HY
 rw [← hx,← hy]
 have hs : relR n 1 x y = decide (x = y) := by rw [relR,if_pos rfl]
 rw [hs]
 have hxo := xor_turned hn hxl
 have hyo := xor_turned hn hyl
 have ea := turned_sg (a := x) hn
 have eb := turned_sg (a := y) hn
 obtain ⟨S,hS⟩ : ∃ S : Nat,S = 2 ^ (n - 1) := ⟨_,rfl⟩
 obtain ⟨p,hp⟩ : ∃ p : Nat,p = turned n x := ⟨_,rfl⟩
 obtain ⟨q,hq⟩ : ∃ q : Nat,q = turned n y := ⟨_,rfl⟩
 rw [← hS] at HS hxo hyo ea eb
 rw [← hp] at hxo ea
 rw [← hq] at hyo eb
 have HE := hid (And.intro ea eb)
 clear hx hy ha hb h1 h2 h3 h4 hn hxl hyl hs ea eb hS hp hq
 go_enter Tryz.func66,Tryz.ntmps66
 repeat' (first
  | (with_reducible refine wp_exit ?_; repeat (first | with_reducible refine ex_norm ?_ | with_reducible refine ex_then ?_ | with_reducible refine ex_here ?_ | with_reducible refine ex_pass rfl ?_))
  | (go_big_may; first
   | (go_at_call 75; refine HK.out.mono ?_; rintro e w' ⟨rfl,rfl⟩)
   | (go_at_call 76; ((with_reducible refine HX.out.mono ?_); rintro e w' ⟨rfl,rfl⟩))
   | (go_at_call 76; ((with_reducible refine HY.out.mono ?_); rintro e w' ⟨rfl,rfl⟩))
   | (go_at_call 119; refine HS.out.mono ?_; rintro e w' ⟨rfl,rfl⟩))
  | go_values | go_skip | go_guarded | go_step | go_upon | go_back | dsimp only)
 go_ret2
 obtain ⟨ea,eb⟩ := HE.out
 exact ⟨ret_bi (by first | (rw [Bool.eq_iff_iff]; simp; omega) | (rw [Bool.eq_iff_iff]; simp) | rw [Bool.eq_iff_iff]) rfl,rfl⟩
set_option maxHeartbeats 800000 in
theorem Rel_2 (n : Nat) (hn : Okn n) (a b : Nat) (ha : a < 18446744073709551616) (hb : b < 18446744073709551616) (w : World) :
  Calls Tryz.prog 66 #[.int .i64 n,.int .i64 2,.int .u64 a,.int .u64 b] w fun e w' => e = .returned (.tuple #[.bool (relR n 2 (a % 2 ^ n) (b % 2 ^ n)),.int .i64 0]) ∧ w = w' := by
 obtain ⟨h1,h2,h3,h4⟩ := pow_lt64 hn
 have HK := hid (known_yes n hn w)
 have HX := hid (cut_any n hn a ha w)
 have HY := hid (cut_any n hn b hb w)
 have HS := hid (sign_any n hn w)
 obtain ⟨x,hx⟩ : ∃ x : Nat,x = a % 2 ^ n := ⟨_,rfl⟩
 obtain ⟨y,hy⟩ : ∃ y : Nat,y = b % 2 ^ n := ⟨_,rfl⟩
 have hxl : x < 2 ^ n := by rw [hx]; exact Nat.mod_lt _ (Nat.two_pow_pos n)
 have hyl : y < 2 ^ n := by rw [hy]; exact Nat.mod_lt _ (Nat.two_pow_pos n)
 rw [← hx] at HX
 rw [← hy] at HY
 rw [← hx,← hy]
 have hs : relR n 2 x y = decide (x ≠ y) := by rw [relR,if_neg (by decide),if_pos rfl]
 rw [hs]
 have hxo := xor_turned hn hxl
 have hyo := xor_turned hn hyl
 have ea := turned_sg (a := x) hn
 have eb := turned_sg (a := y) hn
 obtain ⟨S,hS⟩ : ∃ S : Nat,S = 2 ^ (n - 1) := ⟨_,rfl⟩
 obtain ⟨p,hp⟩ : ∃ p : Nat,p = turned n x := ⟨_,rfl⟩
 obtain ⟨q,hq⟩ : ∃ q : Nat,q = turned n y := ⟨_,rfl⟩
 rw [← hS] at HS hxo hyo ea eb
 rw [← hp] at hxo ea
 rw [← hq] at hyo eb
 have HE := hid (And.intro ea eb)
 clear hx hy ha hb h1 h2 h3 h4 hn hxl hyl hs ea eb hS hp hq
 go_enter Tryz.func66,Tryz.ntmps66
 repeat' (first
  | (with_reducible refine wp_exit ?_; repeat (first | with_reducible refine ex_norm ?_ | with_reducible refine ex_then ?_ | with_reducible refine ex_here ?_ | with_reducible refine ex_pass rfl ?_))
  | (go_big_may; first
   | (go_at_call 75; refine HK.out.mono ?_; rintro e w' ⟨rfl,rfl⟩)
   | (go_at_call 76; ((with_reducible refine HX.out.mono ?_); rintro e w' ⟨rfl,rfl⟩))
   | (go_at_call 76; ((with_reducible refine HY.out.mono ?_); rintro e w' ⟨rfl,rfl⟩))
   | (go_at_call 119; refine HS.out.mono ?_; rintro e w' ⟨rfl,rfl⟩))
  | go_values | go_skip | go_guarded | go_step | go_upon | go_back | dsimp only)
 go_ret2
 obtain ⟨ea,eb⟩ := HE.out
 exact ⟨ret_bi (by first | (rw [Bool.eq_iff_iff]; simp; omega) | (rw [Bool.eq_iff_iff]; simp) | rw [Bool.eq_iff_iff]) rfl,rfl⟩
set_option maxHeartbeats 800000 in
theorem Rel_3 (n : Nat) (hn : Okn n) (a b : Nat) (ha : a < 18446744073709551616) (hb : b < 18446744073709551616) (w : World) :
  Calls Tryz.prog 66 #[.int .i64 n,.int .i64 3,.int .u64 a,.int .u64 b] w fun e w' => e = .returned (.tuple #[.bool (relR n 3 (a % 2 ^ n) (b % 2 ^ n)),.int .i64 0]) ∧ w = w' := by
 obtain ⟨h1,h2,h3,h4⟩ := pow_lt64 hn
 have HK := hid (known_yes n hn w)
 have HX := hid (cut_any n hn a ha w)
 have HY := hid (cut_any n hn b hb w)
 have HS := hid (sign_any n hn w)
 obtain ⟨x,hx⟩ : ∃ x : Nat,x = a % 2 ^ n := ⟨_,rfl⟩
 obtain ⟨y,hy⟩ : ∃ y : Nat,y = b % 2 ^ n := ⟨_,rfl⟩
 have hxl : x < 2 ^ n := by rw [hx]; exact Nat.mod_lt _ (Nat.two_pow_pos n)
 have hyl : y < 2 ^ n := by rw [hy]; exact Nat.mod_lt _ (Nat.two_pow_pos n)
 rw [← hx] at HX
 rw [← hy] at HY
 rw [← hx,← hy]
 have hs : relR n 3 x y = decide (sg n x < sg n y) := by rw [relR,if_neg (by decide),if_neg (by decide),if_pos rfl]
 rw [hs]
 have hxo := xor_turned hn hxl
 have hyo := xor_turned hn hyl
 have ea := turned_sg (a := x) hn
 have eb := turned_sg (a := y) hn
 obtain ⟨S,hS⟩ : ∃ S : Nat,S = 2 ^ (n - 1) := ⟨_,rfl⟩
 obtain ⟨p,hp⟩ : ∃ p : Nat,p = turned n x := ⟨_,rfl⟩
 obtain ⟨q,hq⟩ : ∃ q : Nat,q = turned n y := ⟨_,rfl⟩
 rw [← hS] at HS hxo hyo ea eb
 rw [← hp] at hxo ea
 rw [← hq] at hyo eb
 have HE := hid (And.intro ea eb)
 clear hx hy ha hb h1 h2 h3 h4 hn hxl hyl hs ea eb hS hp hq
 go_enter Tryz.func66,Tryz.ntmps66
 repeat' (first
  | (with_reducible refine wp_exit ?_; repeat (first | with_reducible refine ex_norm ?_ | with_reducible refine ex_then ?_ | with_reducible refine ex_here ?_ | with_reducible refine ex_pass rfl ?_))
  | (go_big_may; first
   | (go_at_call 75; refine HK.out.mono ?_; rintro e w' ⟨rfl,rfl⟩)
   | (go_at_call 76; ((with_reducible refine HX.out.mono ?_); rintro e w' ⟨rfl,rfl⟩))
   | (go_at_call 76; ((with_reducible refine HY.out.mono ?_); rintro e w' ⟨rfl,rfl⟩))
   | (go_at_call 119; refine HS.out.mono ?_; rintro e w' ⟨rfl,rfl⟩))
  | go_values | go_skip | go_guarded | go_step | go_upon | go_back | dsimp only)
 go_ret2
 obtain ⟨ea,eb⟩ := HE.out
 exact ⟨ret_bi (by first | (rw [Bool.eq_iff_iff]; simp; omega) | (rw [Bool.eq_iff_iff]; simp) | rw [Bool.eq_iff_iff]) rfl,rfl⟩
set_option maxHeartbeats 800000 in
theorem Rel_4 (n : Nat) (hn : Okn n) (a b : Nat) (ha : a < 18446744073709551616) (hb : b < 18446744073709551616) (w : World) :
  Calls Tryz.prog 66 #[.int .i64 n,.int .i64 4,.int .u64 a,.int .u64 b] w fun e w' => e = .returned (.tuple #[.bool (relR n 4 (a % 2 ^ n) (b % 2 ^ n)),.int .i64 0]) ∧ w = w' := by
 obtain ⟨h1,h2,h3,h4⟩ := pow_lt64 hn
 have HK := hid (known_yes n hn w)
 have HX := hid (cut_any n hn a ha w)
 have HY := hid (cut_any n hn b hb w)
 have HS := hid (sign_any n hn w)
 obtain ⟨x,hx⟩ : ∃ x : Nat,x = a % 2 ^ n := ⟨_,rfl⟩
 obtain ⟨y,hy⟩ : ∃ y : Nat,y = b % 2 ^ n := ⟨_,rfl⟩
 have hxl : x < 2 ^ n := by rw [hx]; exact Nat.mod_lt _ (Nat.two_pow_pos n)
 have hyl : y < 2 ^ n := by rw [hy]; exact Nat.mod_lt _ (Nat.two_pow_pos n)
 rw [← hx] at HX
 rw [← hy] at HY
 rw [← hx,← hy]
 have hs : relR n 4 x y = decide (x < y) := by rw [relR,if_neg (by decide),if_neg (by decide),if_neg (by decide),if_pos rfl]
 rw [hs]
 have hxo := xor_turned hn hxl
 have hyo := xor_turned hn hyl
 have ea := turned_sg (a := x) hn
 have eb := turned_sg (a := y) hn
 obtain ⟨S,hS⟩ : ∃ S : Nat,S = 2 ^ (n - 1) := ⟨_,rfl⟩
 obtain ⟨p,hp⟩ : ∃ p : Nat,p = turned n x := ⟨_,rfl⟩
 obtain ⟨q,hq⟩ : ∃ q : Nat,q = turned n y := ⟨_,rfl⟩
 rw [← hS] at HS hxo hyo ea eb
 rw [← hp] at hxo ea
 rw [← hq] at hyo eb
 have HE := hid (And.intro ea eb)
 clear hx hy ha hb h1 h2 h3 h4 hn hxl hyl hs ea eb hS hp hq
 go_enter Tryz.func66,Tryz.ntmps66
 repeat' (first
  | (with_reducible refine wp_exit ?_; repeat (first | with_reducible refine ex_norm ?_ | with_reducible refine ex_then ?_ | with_reducible refine ex_here ?_ | with_reducible refine ex_pass rfl ?_))
  | (go_big_may; first
   | (go_at_call 75; refine HK.out.mono ?_; rintro e w' ⟨rfl,rfl⟩)
   | (go_at_call 76; ((with_reducible refine HX.out.mono ?_); rintro e w' ⟨rfl,rfl⟩))
   | (go_at_call 76; ((with_reducible refine HY.out.mono ?_); rintro e w' ⟨rfl,rfl⟩))
   | (go_at_call 119; refine HS.out.mono ?_; rintro e w' ⟨rfl,rfl⟩))
  | go_values | go_skip | go_guarded | go_step | go_upon | go_back | dsimp only)
 go_ret2
 obtain ⟨ea,eb⟩ := HE.out
 exact ⟨ret_bi (by first | (rw [Bool.eq_iff_iff]; simp; omega) | (rw [Bool.eq_iff_iff]; simp) | rw [Bool.eq_iff_iff]) rfl,rfl⟩
set_option maxHeartbeats 800000 in
theorem Rel_5 (n : Nat) (hn : Okn n) (a b : Nat) (ha : a < 18446744073709551616) (hb : b < 18446744073709551616) (w : World) :
  Calls Tryz.prog 66 #[.int .i64 n,.int .i64 5,.int .u64 a,.int .u64 b] w fun e w' => e = .returned (.tuple #[.bool (relR n 5 (a % 2 ^ n) (b % 2 ^ n)),.int .i64 0]) ∧ w = w' := by
 obtain ⟨h1,h2,h3,h4⟩ := pow_lt64 hn
 have HK := hid (known_yes n hn w)
 have HX := hid (cut_any n hn a ha w)
 have HY := hid (cut_any n hn b hb w)
 have HS := hid (sign_any n hn w)
 obtain ⟨x,hx⟩ : ∃ x : Nat,x = a % 2 ^ n := ⟨_,rfl⟩
 obtain ⟨y,hy⟩ : ∃ y : Nat,y = b % 2 ^ n := ⟨_,rfl⟩
 have hxl : x < 2 ^ n := by rw [hx]; exact Nat.mod_lt _ (Nat.two_pow_pos n)
 have hyl : y < 2 ^ n := by rw [hy]; exact Nat.mod_lt _ (Nat.two_pow_pos n)
 rw [← hx] at HX
 rw [← hy] at HY
 rw [← hx,← hy]
 have hs : relR n 5 x y = decide (sg n y < sg n x) := by rw [relR,if_neg (by decide),if_neg (by decide),if_neg (by decide),if_neg (by decide),if_pos rfl]
 rw [hs]
 have hxo := xor_turned hn hxl
 have hyo := xor_turned hn hyl
 have ea := turned_sg (a := x) hn
 have eb := turned_sg (a := y) hn
 obtain ⟨S,hS⟩ : ∃ S : Nat,S = 2 ^ (n - 1) := ⟨_,rfl⟩
 obtain ⟨p,hp⟩ : ∃ p : Nat,p = turned n x := ⟨_,rfl⟩
 obtain ⟨q,hq⟩ : ∃ q : Nat,q = turned n y := ⟨_,rfl⟩
 rw [← hS] at HS hxo hyo ea eb
 rw [← hp] at hxo ea
 rw [← hq] at hyo eb
 have HE := hid (And.intro ea eb)
 clear hx hy ha hb h1 h2 h3 h4 hn hxl hyl hs ea eb hS hp hq
 go_enter Tryz.func66,Tryz.ntmps66
 repeat' (first
  | (with_reducible refine wp_exit ?_; repeat (first | with_reducible refine ex_norm ?_ | with_reducible refine ex_then ?_ | with_reducible refine ex_here ?_ | with_reducible refine ex_pass rfl ?_))
  | (go_big_may; first
   | (go_at_call 75; refine HK.out.mono ?_; rintro e w' ⟨rfl,rfl⟩)
   | (go_at_call 76; ((with_reducible refine HX.out.mono ?_); rintro e w' ⟨rfl,rfl⟩))
   | (go_at_call 76; ((with_reducible refine HY.out.mono ?_); rintro e w' ⟨rfl,rfl⟩))
   | (go_at_call 119; refine HS.out.mono ?_; rintro e w' ⟨rfl,rfl⟩))
  | go_values | go_skip | go_guarded | go_step | go_upon | go_back | dsimp only)
 go_ret2
 obtain ⟨ea,eb⟩ := HE.out
 exact ⟨ret_bi (by first | (rw [Bool.eq_iff_iff]; simp; omega) | (rw [Bool.eq_iff_iff]; simp) | rw [Bool.eq_iff_iff]) rfl,rfl⟩
set_option maxHeartbeats 800000 in
theorem Rel_6 (n : Nat) (hn : Okn n) (a b : Nat) (ha : a < 18446744073709551616) (hb : b < 18446744073709551616) (w : World) :
  Calls Tryz.prog 66 #[.int .i64 n,.int .i64 6,.int .u64 a,.int .u64 b] w fun e w' => e = .returned (.tuple #[.bool (relR n 6 (a % 2 ^ n) (b % 2 ^ n)),.int .i64 0]) ∧ w = w' := by
 obtain ⟨h1,h2,h3,h4⟩ := pow_lt64 hn
 have HK := hid (known_yes n hn w)
 have HX := hid (cut_any n hn a ha w)
 have HY := hid (cut_any n hn b hb w)
 have HS := hid (sign_any n hn w)
 obtain ⟨x,hx⟩ : ∃ x : Nat,x = a % 2 ^ n := ⟨_,rfl⟩
 obtain ⟨y,hy⟩ : ∃ y : Nat,y = b % 2 ^ n := ⟨_,rfl⟩
 have hxl : x < 2 ^ n := by rw [hx]; exact Nat.mod_lt _ (Nat.two_pow_pos n)
 have hyl : y < 2 ^ n := by rw [hy]; exact Nat.mod_lt _ (Nat.two_pow_pos n)
 rw [← hx] at HX
 rw [← hy] at HY
 rw [← hx,← hy]
 have hs : relR n 6 x y = decide (y < x) := by rw [relR,if_neg (by decide),if_neg (by decide),if_neg (by decide),if_neg (by decide),if_neg (by decide),if_pos rfl]
 rw [hs]
 have hxo := xor_turned hn hxl
 have hyo := xor_turned hn hyl
 have ea := turned_sg (a := x) hn
 have eb := turned_sg (a := y) hn
 obtain ⟨S,hS⟩ : ∃ S : Nat,S = 2 ^ (n - 1) := ⟨_,rfl⟩
 obtain ⟨p,hp⟩ : ∃ p : Nat,p = turned n x := ⟨_,rfl⟩
 obtain ⟨q,hq⟩ : ∃ q : Nat,q = turned n y := ⟨_,rfl⟩
 rw [← hS] at HS hxo hyo ea eb
 rw [← hp] at hxo ea
 rw [← hq] at hyo eb
 have HE := hid (And.intro ea eb)
 clear hx hy ha hb h1 h2 h3 h4 hn hxl hyl hs ea eb hS hp hq
 go_enter Tryz.func66,Tryz.ntmps66
 repeat' (first
  | (with_reducible refine wp_exit ?_; repeat (first | with_reducible refine ex_norm ?_ | with_reducible refine ex_then ?_ | with_reducible refine ex_here ?_ | with_reducible refine ex_pass rfl ?_))
  | (go_big_may; first
   | (go_at_call 75; refine HK.out.mono ?_; rintro e w' ⟨rfl,rfl⟩)
   | (go_at_call 76; ((with_reducible refine HX.out.mono ?_); rintro e w' ⟨rfl,rfl⟩))
   | (go_at_call 76; ((with_reducible refine HY.out.mono ?_); rintro e w' ⟨rfl,rfl⟩))
   | (go_at_call 119; refine HS.out.mono ?_; rintro e w' ⟨rfl,rfl⟩))
  | go_values | go_skip | go_guarded | go_step | go_upon | go_back | dsimp only)
 go_ret2
 obtain ⟨ea,eb⟩ := HE.out
 exact ⟨ret_bi (by first | (rw [Bool.eq_iff_iff]; simp; omega) | (rw [Bool.eq_iff_iff]; simp) | rw [Bool.eq_iff_iff]) rfl,rfl⟩
set_option maxHeartbeats 800000 in
theorem Rel_7 (n : Nat) (hn : Okn n) (a b : Nat) (ha : a < 18446744073709551616) (hb : b < 18446744073709551616) (w : World) :
  Calls Tryz.prog 66 #[.int .i64 n,.int .i64 7,.int .u64 a,.int .u64 b] w fun e w' => e = .returned (.tuple #[.bool (relR n 7 (a % 2 ^ n) (b % 2 ^ n)),.int .i64 0]) ∧ w = w' := by
 obtain ⟨h1,h2,h3,h4⟩ := pow_lt64 hn
 have HK := hid (known_yes n hn w)
 have HX := hid (cut_any n hn a ha w)
 have HY := hid (cut_any n hn b hb w)
 have HS := hid (sign_any n hn w)
 obtain ⟨x,hx⟩ : ∃ x : Nat,x = a % 2 ^ n := ⟨_,rfl⟩
 obtain ⟨y,hy⟩ : ∃ y : Nat,y = b % 2 ^ n := ⟨_,rfl⟩
 have hxl : x < 2 ^ n := by rw [hx]; exact Nat.mod_lt _ (Nat.two_pow_pos n)
 have hyl : y < 2 ^ n := by rw [hy]; exact Nat.mod_lt _ (Nat.two_pow_pos n)
 rw [← hx] at HX
 rw [← hy] at HY
 rw [← hx,← hy]
 have hs : relR n 7 x y = decide (sg n x ≤ sg n y) := by rw [relR,if_neg (by decide),if_neg (by decide),if_neg (by decide),if_neg (by decide),if_neg (by decide),if_neg (by decide),if_pos rfl]
 rw [hs]
 have hxo := xor_turned hn hxl
 have hyo := xor_turned hn hyl
 have ea := turned_sg (a := x) hn
 have eb := turned_sg (a := y) hn
 obtain ⟨S,hS⟩ : ∃ S : Nat,S = 2 ^ (n - 1) := ⟨_,rfl⟩
 obtain ⟨p,hp⟩ : ∃ p : Nat,p = turned n x := ⟨_,rfl⟩
 obtain ⟨q,hq⟩ : ∃ q : Nat,q = turned n y := ⟨_,rfl⟩
 rw [← hS] at HS hxo hyo ea eb
 rw [← hp] at hxo ea
 rw [← hq] at hyo eb
 have HE := hid (And.intro ea eb)
 clear hx hy ha hb h1 h2 h3 h4 hn hxl hyl hs ea eb hS hp hq
 go_enter Tryz.func66,Tryz.ntmps66
 repeat' (first
  | (with_reducible refine wp_exit ?_; repeat (first | with_reducible refine ex_norm ?_ | with_reducible refine ex_then ?_ | with_reducible refine ex_here ?_ | with_reducible refine ex_pass rfl ?_))
  | (go_big_may; first
   | (go_at_call 75; refine HK.out.mono ?_; rintro e w' ⟨rfl,rfl⟩)
   | (go_at_call 76; ((with_reducible refine HX.out.mono ?_); rintro e w' ⟨rfl,rfl⟩))
   | (go_at_call 76; ((with_reducible refine HY.out.mono ?_); rintro e w' ⟨rfl,rfl⟩))
   | (go_at_call 119; refine HS.out.mono ?_; rintro e w' ⟨rfl,rfl⟩))
  | go_values | go_skip | go_guarded | go_step | go_upon | go_back | dsimp only)
 go_ret2
 obtain ⟨ea,eb⟩ := HE.out
 exact ⟨ret_bi (by first | (rw [Bool.eq_iff_iff]; simp; omega) | (rw [Bool.eq_iff_iff]; simp) | rw [Bool.eq_iff_iff]) rfl,rfl⟩
set_option maxHeartbeats 800000 in
theorem Rel_8 (n : Nat) (hn : Okn n) (a b : Nat) (ha : a < 18446744073709551616) (hb : b < 18446744073709551616) (w : World) :
  Calls Tryz.prog 66 #[.int .i64 n,.int .i64 8,.int .u64 a,.int .u64 b] w fun e w' => e = .returned (.tuple #[.bool (relR n 8 (a % 2 ^ n) (b % 2 ^ n)),.int .i64 0]) ∧ w = w' := by
 obtain ⟨h1,h2,h3,h4⟩ := pow_lt64 hn
 have HK := hid (known_yes n hn w)
 have HX := hid (cut_any n hn a ha w)
 have HY := hid (cut_any n hn b hb w)
 have HS := hid (sign_any n hn w)
 obtain ⟨x,hx⟩ : ∃ x : Nat,x = a % 2 ^ n := ⟨_,rfl⟩
 obtain ⟨y,hy⟩ : ∃ y : Nat,y = b % 2 ^ n := ⟨_,rfl⟩
 have hxl : x < 2 ^ n := by rw [hx]; exact Nat.mod_lt _ (Nat.two_pow_pos n)
 have hyl : y < 2 ^ n := by rw [hy]; exact Nat.mod_lt _ (Nat.two_pow_pos n)
 rw [← hx] at HX
 rw [← hy] at HY
 rw [← hx,← hy]
 have hs : relR n 8 x y = decide (x ≤ y) := by rw [relR,if_neg (by decide),if_neg (by decide),if_neg (by decide),if_neg (by decide),if_neg (by decide),if_neg (by decide),if_neg (by decide),if_pos rfl]
 rw [hs]
 have hxo := xor_turned hn hxl
 have hyo := xor_turned hn hyl
 have ea := turned_sg (a := x) hn
 have eb := turned_sg (a := y) hn
 obtain ⟨S,hS⟩ : ∃ S : Nat,S = 2 ^ (n - 1) := ⟨_,rfl⟩
 obtain ⟨p,hp⟩ : ∃ p : Nat,p = turned n x := ⟨_,rfl⟩
 obtain ⟨q,hq⟩ : ∃ q : Nat,q = turned n y := ⟨_,rfl⟩
 rw [← hS] at HS hxo hyo ea eb
 rw [← hp] at hxo ea
 rw [← hq] at hyo eb
 have HE := hid (And.intro ea eb)
 clear hx hy ha hb h1 h2 h3 h4 hn hxl hyl hs ea eb hS hp hq
 go_enter Tryz.func66,Tryz.ntmps66
 repeat' (first
  | (with_reducible refine wp_exit ?_; repeat (first | with_reducible refine ex_norm ?_ | with_reducible refine ex_then ?_ | with_reducible refine ex_here ?_ | with_reducible refine ex_pass rfl ?_))
  | (go_big_may; first
   | (go_at_call 75; refine HK.out.mono ?_; rintro e w' ⟨rfl,rfl⟩)
   | (go_at_call 76; ((with_reducible refine HX.out.mono ?_); rintro e w' ⟨rfl,rfl⟩))
   | (go_at_call 76; ((with_reducible refine HY.out.mono ?_); rintro e w' ⟨rfl,rfl⟩))
   | (go_at_call 119; refine HS.out.mono ?_; rintro e w' ⟨rfl,rfl⟩))
  | go_values | go_skip | go_guarded | go_step | go_upon | go_back | dsimp only)
 go_ret2
 obtain ⟨ea,eb⟩ := HE.out
 exact ⟨ret_bi (by first | (rw [Bool.eq_iff_iff]; simp; omega) | (rw [Bool.eq_iff_iff]; simp) | rw [Bool.eq_iff_iff]) rfl,rfl⟩
set_option maxHeartbeats 800000 in
theorem Rel_9 (n : Nat) (hn : Okn n) (a b : Nat) (ha : a < 18446744073709551616) (hb : b < 18446744073709551616) (w : World) :
  Calls Tryz.prog 66 #[.int .i64 n,.int .i64 9,.int .u64 a,.int .u64 b] w fun e w' => e = .returned (.tuple #[.bool (relR n 9 (a % 2 ^ n) (b % 2 ^ n)),.int .i64 0]) ∧ w = w' := by
 obtain ⟨h1,h2,h3,h4⟩ := pow_lt64 hn
 have HK := hid (known_yes n hn w)
 have HX := hid (cut_any n hn a ha w)
 have HY := hid (cut_any n hn b hb w)
 have HS := hid (sign_any n hn w)
 obtain ⟨x,hx⟩ : ∃ x : Nat,x = a % 2 ^ n := ⟨_,rfl⟩
 obtain ⟨y,hy⟩ : ∃ y : Nat,y = b % 2 ^ n := ⟨_,rfl⟩
 have hxl : x < 2 ^ n := by rw [hx]; exact Nat.mod_lt _ (Nat.two_pow_pos n)
 have hyl : y < 2 ^ n := by rw [hy]; exact Nat.mod_lt _ (Nat.two_pow_pos n)
 rw [← hx] at HX
 rw [← hy] at HY
 rw [← hx,← hy]
 have hs : relR n 9 x y = decide (sg n y ≤ sg n x) := by rw [relR,if_neg (by decide),if_neg (by decide),if_neg (by decide),if_neg (by decide),if_neg (by decide),if_neg (by decide),if_neg (by decide),if_neg (by decide),if_pos rfl]
 rw [hs]
 have hxo := xor_turned hn hxl
 have hyo := xor_turned hn hyl
 have ea := turned_sg (a := x) hn
 have eb := turned_sg (a := y) hn
 obtain ⟨S,hS⟩ : ∃ S : Nat,S = 2 ^ (n - 1) := ⟨_,rfl⟩
 obtain ⟨p,hp⟩ : ∃ p : Nat,p = turned n x := ⟨_,rfl⟩
 obtain ⟨q,hq⟩ : ∃ q : Nat,q = turned n y := ⟨_,rfl⟩
 rw [← hS] at HS hxo hyo ea eb
 rw [← hp] at hxo ea
 rw [← hq] at hyo eb
 have HE := hid (And.intro ea eb)
 clear hx hy ha hb h1 h2 h3 h4 hn hxl hyl hs ea eb hS hp hq
 go_enter Tryz.func66,Tryz.ntmps66
 repeat' (first
  | (with_reducible refine wp_exit ?_; repeat (first | with_reducible refine ex_norm ?_ | with_reducible refine ex_then ?_ | with_reducible refine ex_here ?_ | with_reducible refine ex_pass rfl ?_))
  | (go_big_may; first
   | (go_at_call 75; refine HK.out.mono ?_; rintro e w' ⟨rfl,rfl⟩)
   | (go_at_call 76; ((with_reducible refine HX.out.mono ?_); rintro e w' ⟨rfl,rfl⟩))
   | (go_at_call 76; ((with_reducible refine HY.out.mono ?_); rintro e w' ⟨rfl,rfl⟩))
   | (go_at_call 119; refine HS.out.mono ?_; rintro e w' ⟨rfl,rfl⟩))
  | go_values | go_skip | go_guarded | go_step | go_upon | go_back | dsimp only)
 go_ret2
 obtain ⟨ea,eb⟩ := HE.out
 exact ⟨ret_bi (by first | (rw [Bool.eq_iff_iff]; simp; omega) | (rw [Bool.eq_iff_iff]; simp) | rw [Bool.eq_iff_iff]) rfl,rfl⟩
set_option maxHeartbeats 800000 in
theorem Rel_10 (n : Nat) (hn : Okn n) (a b : Nat) (ha : a < 18446744073709551616) (hb : b < 18446744073709551616) (w : World) :
  Calls Tryz.prog 66 #[.int .i64 n,.int .i64 10,.int .u64 a,.int .u64 b] w fun e w' => e = .returned (.tuple #[.bool (relR n 10 (a % 2 ^ n) (b % 2 ^ n)),.int .i64 0]) ∧ w = w' := by
 obtain ⟨h1,h2,h3,h4⟩ := pow_lt64 hn
 have HK := hid (known_yes n hn w)
 have HX := hid (cut_any n hn a ha w)
 have HY := hid (cut_any n hn b hb w)
 have HS := hid (sign_any n hn w)
 obtain ⟨x,hx⟩ : ∃ x : Nat,x = a % 2 ^ n := ⟨_,rfl⟩
 obtain ⟨y,hy⟩ : ∃ y : Nat,y = b % 2 ^ n := ⟨_,rfl⟩
 have hxl : x < 2 ^ n := by rw [hx]; exact Nat.mod_lt _ (Nat.two_pow_pos n)
 have hyl : y < 2 ^ n := by rw [hy]; exact Nat.mod_lt _ (Nat.two_pow_pos n)
 rw [← hx] at HX
 rw [← hy] at HY
 rw [← hx,← hy]
 have hs : relR n 10 x y = decide (y ≤ x) := by rw [relR,if_neg (by decide),if_neg (by decide),if_neg (by decide),if_neg (by decide),if_neg (by decide),if_neg (by decide),if_neg (by decide),if_neg (by decide),if_neg (by decide)]
 rw [hs]
 have hxo := xor_turned hn hxl
 have hyo := xor_turned hn hyl
 have ea := turned_sg (a := x) hn
 have eb := turned_sg (a := y) hn
 obtain ⟨S,hS⟩ : ∃ S : Nat,S = 2 ^ (n - 1) := ⟨_,rfl⟩
 obtain ⟨p,hp⟩ : ∃ p : Nat,p = turned n x := ⟨_,rfl⟩
 obtain ⟨q,hq⟩ : ∃ q : Nat,q = turned n y := ⟨_,rfl⟩
 rw [← hS] at HS hxo hyo ea eb
 rw [← hp] at hxo ea
 rw [← hq] at hyo eb
 have HE := hid (And.intro ea eb)
 clear hx hy ha hb h1 h2 h3 h4 hn hxl hyl hs ea eb hS hp hq
 go_enter Tryz.func66,Tryz.ntmps66
 repeat' (first
  | (with_reducible refine wp_exit ?_; repeat (first | with_reducible refine ex_norm ?_ | with_reducible refine ex_then ?_ | with_reducible refine ex_here ?_ | with_reducible refine ex_pass rfl ?_))
  | (go_big_may; first
   | (go_at_call 75; refine HK.out.mono ?_; rintro e w' ⟨rfl,rfl⟩)
   | (go_at_call 76; ((with_reducible refine HX.out.mono ?_); rintro e w' ⟨rfl,rfl⟩))
   | (go_at_call 76; ((with_reducible refine HY.out.mono ?_); rintro e w' ⟨rfl,rfl⟩))
   | (go_at_call 119; refine HS.out.mono ?_; rintro e w' ⟨rfl,rfl⟩))
  | go_values | go_skip | go_guarded | go_step | go_upon | go_back | dsimp only)
 go_ret2
 obtain ⟨ea,eb⟩ := HE.out
 exact ⟨ret_bi (by first | (rw [Bool.eq_iff_iff]; simp; omega) | (rw [Bool.eq_iff_iff]; simp) | rw [Bool.eq_iff_iff]) rfl,rfl⟩
theorem Rel_noBits (b : Int) (hb : Bad b) (op x y : Int) (w : World) :
  Calls Tryz.prog 66 #[.int .i64 b,.int .i64 op,.int .u64 x,.int .u64 y] w fun e w' => e = .returned (.tuple #[.bool false,.int .i64 1]) ∧ w = w' := by
 have HK := hid (known_no b hb w)
 clear hb
 go_enter Tryz.func66,Tryz.ntmps66
 repeat' (first
  | (with_reducible refine wp_exit ?_; repeat (first | with_reducible refine ex_norm ?_ | with_reducible refine ex_then ?_ | with_reducible refine ex_here ?_ | with_reducible refine ex_pass rfl ?_))
  | (go_big_may; first
   | (go_at_call 75; refine HK.out.mono ?_; rintro e w' ⟨rfl,rfl⟩))
  | go_values | go_skip | go_guarded | go_step | go_upon | go_back | dsimp only)
 go_ret2
 exact ⟨rfl,rfl⟩
theorem Rel_noOp (n : Nat) (hn : Okn n) (op : Int) (hop : op < 1 ∨ 10 < op) (a b : Nat) (ha : a < 18446744073709551616) (hb : b < 18446744073709551616) (w : World) :
  Calls Tryz.prog 66 #[.int .i64 n,.int .i64 op,.int .u64 a,.int .u64 b] w fun e w' => e = .returned (.tuple #[.bool false,.int .i64 1]) ∧ w = w' := by
 have HK := hid (known_yes n hn w)
 have HX := hid (cut_any n hn a ha w)
 have HY := hid (cut_any n hn b hb w)
 have HS := hid (sign_any n hn w)
 have e1 : (op == 1) = false := by simp; omega
 have e2 : (op == 2) = false := by simp; omega
 have e3 : (op == 3) = false := by simp; omega
 have e4 : (op == 4) = false := by simp; omega
 have e5 : (op == 5) = false := by simp; omega
 have e6 : (op == 6) = false := by simp; omega
 have e7 : (op == 7) = false := by simp; omega
 have e8 : (op == 8) = false := by simp; omega
 have e9 : (op == 9) = false := by simp; omega
 have e10 : (op == 10) = false := by simp; omega
 clear ha hb hn hop
 go_enter Tryz.func66,Tryz.ntmps66
 repeat' (first
  | (with_reducible refine wp_exit ?_; repeat (first | with_reducible refine ex_norm ?_ | with_reducible refine ex_then ?_ | with_reducible refine ex_here ?_ | with_reducible refine ex_pass rfl ?_))
  | (go_big_may; first
   | (go_at_call 75; refine HK.out.mono ?_; rintro e w' ⟨rfl,rfl⟩)
   | (go_at_call 76; ((with_reducible refine HX.out.mono ?_); rintro e w' ⟨rfl,rfl⟩))
   | (go_at_call 76; ((with_reducible refine HY.out.mono ?_); rintro e w' ⟨rfl,rfl⟩))
   | (go_at_call 119; refine HS.out.mono ?_; rintro e w' ⟨rfl,rfl⟩))
  | go_values | go_skip | go_guarded | go_step | go_upon | go_back | dsimp only)
 go_ret2
 exact ⟨rfl,rfl⟩
theorem Rel_any (bits op : Int) (a b : Nat) (ha : a < 18446744073709551616) (hb : b < 18446744073709551616) (w : World) :
  Calls Tryz.prog 66 #[.int .i64 bits,.int .i64 op,.int .u64 a,.int .u64 b] w fun e w' => e = .returned (.tuple #[.bool (relA bits op a b).1,.int .i64 ((relA bits op a b).2 : Nat)]) ∧ w = w' := by
 by_cases hbits : Okn bits.toNat
 ·obtain ⟨n,rfl⟩ : ∃ n : Nat,bits = (n : Int) := ⟨bits.toNat,by have := hbits.le; omega⟩
  rw [Int.toNat_natCast] at hbits
  by_cases hop : 1 ≤ op ∧ op ≤ 10
  ·obtain ⟨k,rfl⟩ : ∃ k : Nat,op = (k : Int) := ⟨op.toNat,by omega⟩
   rw [relA,if_pos ⟨by simpa using hbits,by omega,by omega⟩,Int.toNat_natCast,Int.toNat_natCast]
   have hk : k = 1 ∨ k = 2 ∨ k = 3 ∨ k = 4 ∨ k = 5 ∨ k = 6 ∨ k = 7 ∨ k = 8 ∨ k = 9 ∨ k = 10 := by omega
   rcases hk with rfl | rfl | rfl | rfl | rfl | rfl | rfl | rfl | rfl | rfl
   ·exact Rel_1 n hbits a b ha hb w
   ·exact Rel_2 n hbits a b ha hb w
   ·exact Rel_3 n hbits a b ha hb w
   ·exact Rel_4 n hbits a b ha hb w
   ·exact Rel_5 n hbits a b ha hb w
   ·exact Rel_6 n hbits a b ha hb w
   ·exact Rel_7 n hbits a b ha hb w
   ·exact Rel_8 n hbits a b ha hb w
   ·exact Rel_9 n hbits a b ha hb w
   ·exact Rel_10 n hbits a b ha hb w
  ·rw [relA,if_neg (fun h => hop ⟨h.2.1,h.2.2⟩)]
   exact Rel_noOp n hbits op (by omega) a b ha hb w
 ·rw [relA,if_neg (fun h => hbits h.1)]
  exact Rel_noBits bits (by unfold Bad; unfold Okn at hbits; omega) op a b w
end Go.Proofs.YtbbmbhcbncenaaaGreatDoor
namespace Go.Proofs.YtbbmbhcbncenaaaGreatDoor
open Go
theorem pop_zero : pop 0 = 0 := by rw [pop]; simp
theorem pop_step {a : Nat} (h : a ≠ 0) : pop a = a % 2 + pop (a / 2) := by rw [pop,dif_neg h]
theorem pop_any (a : Nat) : pop a = a % 2 + pop (a / 2) := by
 by_cases h : a = 0
 ·subst h; simp [pop_zero]
 ·exact pop_step h
theorem pop_le : ∀ (k a : Nat),a < 2 ^ k → pop a ≤ k
 | 0,a,h => by
  have : a = 0 := by simpa using h
  subst this
  simp [pop_zero]
 | k + 1,a,h => by
  have ih := pop_le k (a / 2) (by rw [Nat.pow_succ] at h; omega)
  rw [pop_any]; omega
theorem and_halves (a b : Nat) : (a &&& b) / 2 = a / 2 &&& b / 2 := by
 have := @Nat.and_div_two_pow a b 1
 simpa using this
theorem and_low (a b : Nat) : (a &&& b) % 2 = (a % 2) &&& (b % 2) := by
 have := @Nat.and_mod_two_pow a b 1
 simpa using this
theorem pop_less {a : Nat} (h : a ≠ 0) : pop (a &&& (a - 1)) + 1 = pop a := by
 induction a using Nat.strongRecOn with
 | _ a ih =>
  have e1 := and_halves a (a - 1)
  have e2 := and_low a (a - 1)
  rw [pop_step h,pop_any (a &&& (a - 1)),e1,e2]
  by_cases h2 : a % 2 = 1
  ·have h3 : (a - 1) / 2 = a / 2 := by omega
   have h4 : (a - 1) % 2 = 0 := by omega
   rw [h3,h4,h2,Nat.and_self]
   simp
   omega
  ·have h3 : (a - 1) / 2 = a / 2 - 1 := by omega
   have h5 : a % 2 = 0 := by omega
   have := ih (a / 2) (by omega) (by omega)
   rw [h3,h5]
   simp
   omega
theorem pop_ones : ∀ k : Nat,pop (2 ^ k - 1) = k
 | 0 => by simp [pop_zero]
 | k + 1 => by
  have hp := Nat.two_pow_pos k
  rw [pop_any,Nat.pow_succ]
  have h1 : (2 ^ k * 2 - 1) / 2 = 2 ^ k - 1 := by omega
  have h2 : (2 ^ k * 2 - 1) % 2 = 1 := by omega
  rw [h1,h2,pop_ones k]
  omega
theorem ctzR_zero : ∀ k : Nat,ctzR k 0 = k
 | 0 => rfl
 | k + 1 => by
  rw [ctzR,if_neg (by decide),Nat.zero_div,ctzR_zero k]
  omega
theorem ctzR_le : ∀ k a : Nat,ctzR k a ≤ k
 | 0,_ => Nat.le_refl _
 | k + 1,a => by
  rw [ctzR]
  split
  ·omega
  ·have := ctzR_le k (a / 2)
   omega
theorem ctzR_same : ∀ (n m a : Nat),n ≤ m → 1 ≤ a → a < 2 ^ n → ctzR m a = ctzR n a
 | 0,_,a,_,h1,h2 => by simp at h2; omega
 | n + 1,m,a,hm,h1,h2 => by
  obtain ⟨k,rfl⟩ : ∃ k,m = k + 1 := ⟨m - 1,by omega⟩
  rw [ctzR,ctzR]
  split
  ·rfl
  ·rw [ctzR_same n k (a / 2) (by omega) (by omega) (by rw [Nat.pow_succ] at h2; omega)]
theorem and_not_self : ∀ (W c : Nat),c < 2 ^ W → (2 ^ W - 1 - c) &&& c = 0
 | 0,c,h => by
  have : c = 0 := by simpa using h
  subst this; rfl
 | W + 1,c,h => by
  have hp := Nat.two_pow_pos W
  rw [Nat.pow_succ] at h ⊢
  have ih := and_not_self W (c / 2) (by omega)
  have e1 := and_halves (2 ^ W * 2 - 1 - c) c
  have e2 := and_low (2 ^ W * 2 - 1 - c) c
  have h1 : (2 ^ W * 2 - 1 - c) / 2 = 2 ^ W - 1 - c / 2 := by omega
  rw [h1,ih] at e1
  have h2 : c % 2 = 0 ∨ c % 2 = 1 := by omega
  rcases h2 with h2 | h2
  ·have h3 : (2 ^ W * 2 - 1 - c) % 2 = 1 := by omega
   rw [h2,h3] at e2
   simp at e2
   omega
  ·have h3 : (2 ^ W * 2 - 1 - c) % 2 = 0 := by omega
   rw [h2,h3] at e2
   simp at e2
   omega
theorem low_ones : ∀ (W a : Nat),1 ≤ a → a < 2 ^ W → (2 ^ W - 1 - a) &&& (a - 1) = 2 ^ (ctzR W a) - 1
 | 0,a,h1,h2 => by simp at h2; omega
 | W + 1,a,h1,h2 => by
  have hp := Nat.two_pow_pos W
  rw [Nat.pow_succ] at h2 ⊢
  have e1 := and_halves (2 ^ W * 2 - 1 - a) (a - 1)
  have e2 := and_low (2 ^ W * 2 - 1 - a) (a - 1)
  have h3 : (2 ^ W * 2 - 1 - a) / 2 = 2 ^ W - 1 - a / 2 := by omega
  rw [ctzR]
  split
  ·rename_i h
   have h4 : (a - 1) / 2 = a / 2 := by omega
   have h5 : (a - 1) % 2 = 0 := by omega
   rw [h3,h4,and_not_self W (a / 2) (by omega)] at e1
   rw [h5,Nat.and_zero] at e2
   simp
   omega
  ·rename_i h
   have h4 : (a - 1) / 2 = a / 2 - 1 := by omega
   have h5 : (a - 1) % 2 = 1 := by omega
   have h6 : (2 ^ W * 2 - 1 - a) % 2 = 1 := by omega
   rw [h3,h4,low_ones W (a / 2) (by omega) (by omega)] at e1
   rw [h5,h6] at e2
   have e3 : ((2 ^ W * 2 - 1 - a) &&& (a - 1)) % 2 = 1 := e2
   have hq := Nat.two_pow_pos (ctzR W (a / 2))
   rw [Nat.add_comm 1,Nat.pow_succ]
   omega
theorem ctz_bits {n a : Nat} (hn : Okn n) (ha : a < 2 ^ n) : ((18446744073709551615 - a) &&& ((a + 18446744073709551615) % 18446744073709551616)) % 2 ^ n = 2 ^ (ctzR n a) - 1 := by
 have hn8 := hn.le
 obtain ⟨h1,h2,h3,h4⟩ := pow_lt64 hn
 by_cases h0 : a = 0
 ·subst h0
  rw [ctzR_zero]
  rcases hn with rfl | rfl | rfl | rfl <;> decide
 ·have e : (a + 18446744073709551615) % 18446744073709551616 = a - 1 := by omega
  have hl := low_ones 64 a (by omega) (by omega)
  have hc := ctzR_le n a
  have hle : 2 ^ ctzR n a ≤ 2 ^ n := Nat.pow_le_pow_right (by decide) hc
  have hq := Nat.two_pow_pos (ctzR n a)
  rw [e,show (18446744073709551615 : Nat) = 2 ^ 64 - 1 from rfl,hl,ctzR_same n 64 a hn8.2 (by omega) ha]
  exact Nat.mod_eq_of_lt (by omega)
def revR : Nat → Nat → Nat
 | 0,_ => 0
 | k + 1,a => 2 * revR k a + a / 2 ^ k % 2
theorem revR_lt : ∀ k a : Nat,revR k a < 2 ^ k
 | 0,_ => by simp [revR]
 | k + 1,a => by
  have := revR_lt k a
  rw [revR,Nat.pow_succ]
  omega
theorem ctz_rev : ∀ k a : Nat,ctzR k (revR k a) = clzR k a
 | 0,_ => rfl
 | k + 1,a => by
  have ih := ctz_rev k a
  rw [revR,ctzR,clzR,Nat.testBit_eq_decide_div_mod_eq]
  have h1 : (2 * revR k a + a / 2 ^ k % 2) % 2 = a / 2 ^ k % 2 := by omega
  have h2 : (2 * revR k a + a / 2 ^ k % 2) / 2 = revR k a := by omega
  rw [h1,h2,ih]
  simp
end Go.Proofs.YtbbmbhcbncenaaaGreatDoor
namespace Go.Proofs.YtbbmbhcbncenaaaGreatDoor
open Go.RowKit
set_option maxHeartbeats 800000 in
theorem count_any (a : Nat) (ha : a < 18446744073709551616) (w : World) :
  Calls Tryz.prog 78 #[.int .u64 a] w fun e w' => e = .returned (.int .u64 (pop a : Nat)) ∧ w = w' := by
 have hp : pop a ≤ 64 := pop_le 64 a ha
 have HP := hid (show pop a ≤ 64 ∧ a < 18446744073709551616 from ⟨hp,ha⟩)
 clear hp ha
 go_enter Tryz.func78,Tryz.ntmps78
 go_wp2
 go_loop [0,3] (fun va vn => ∃ x c : Nat,va = .int .u64 (x : Int) ∧ vn = .int .u64 (c : Int) ∧ Hid (pop x + c = pop a ∧ x < 18446744073709551616)) (fun va _ => pop (intOf va).toNat)
 case atStart => exact ⟨a,0,rfl,rfl,hid ⟨by omega,HP.out.2⟩⟩
 case round =>
  obtain ⟨x,c,rfl,rfl,H⟩ := hrel
  by_cases hx : x = 0
  ·subst hx
   have e : c = pop a := by have := H.out.1; rw [pop_zero] at this; omega
   subst e
   clear H
   go_wp2
   go_ret
   exact ⟨rfl,rfl⟩
  ·have hne : ((x : Int) != 0) = true := by simp; omega
   have hne2 : ((x : Int) == 0) = false := by simp; omega
   have h1 := H.out.2
   have h2 := pop_less hx
   have h3 := H.out.1
   have h4 := HP.out.1
   have hw : IntKind.u64.wrap ((x : Int) - 1) = ((x - 1 : Nat) : Int) := by rw [IntKind.wrap_u64]; omega
   have hand := bits_and_u64_nat x (x - 1) h1 (by omega)
   have hc : IntKind.u64.wrap ((c : Int) + 1) = ((c + 1 : Nat) : Int) := by rw [IntKind.wrap_u64]; omega
   have hlt : x &&& (x - 1) < 18446744073709551616 := Nat.and_lt_two_pow (n := 64) _ (by omega)
   obtain ⟨y,hy⟩ : ∃ y : Nat,y = x - 1 := ⟨_,rfl⟩
   obtain ⟨z,hz⟩ : ∃ z : Nat,z = x &&& (x - 1) := ⟨_,rfl⟩
   obtain ⟨d,hd⟩ : ∃ d : Nat,d = c + 1 := ⟨_,rfl⟩
   rw [← hz] at h2 hand hlt
   rw [← hy] at hw hand
   rw [← hd] at hc
   have H2 := hid (show pop z + 1 = pop x ∧ pop z + d = pop a ∧ z < 18446744073709551616 from ⟨h2,by omega,hlt⟩)
   clear h1 h2 h3 h4 hlt hy hz hd H hx
   go_wp2
   go_round
   case rel => exact ⟨z,d,rfl,rfl,hid ⟨H2.out.2.1,H2.out.2.2⟩⟩
   case measure =>
    have := H2.out.1
    simp [intOf]
    omega
set_option maxHeartbeats 800000 in
theorem reversed_any (n : Nat) (hn : Okn n) (a : Nat) (ha : a < 18446744073709551616) (w : World) :
  Calls Tryz.prog 77 #[.int .i64 n,.int .u64 a] w fun e w' => e = .returned (.int .u64 (revR n a : Nat)) ∧ w = w' := by
 have hn8 := hn.le
 have HA := hid ha
 clear ha hn
 go_enter Tryz.func77,Tryz.ntmps77
 go_wp2
 go_loop [1,5,7] (fun va vo vk => ∃ k : Nat,k ≤ n ∧ vk = .int .i64 k ∧ va = .int .u64 ((a / 2 ^ k : Nat) : Int) ∧ vo = .int .u64 ((revR k a : Nat) : Int)) (fun _ _ vk => n - (intOf vk).toNat)
 case atStart => exact ⟨0,Nat.zero_le _,rfl,by simp,rfl⟩
 case round =>
  obtain ⟨k,hk,rfl,rfl,rfl⟩ := hrel
  by_cases hlt : k < n
  ·have hr := revR_lt k a
   have hr64 : 2 * 2 ^ k ≤ 18446744073709551616 := by
    have : 2 ^ (k + 1) ≤ 2 ^ 64 := Nat.pow_le_pow_right (by decide) (by omega)
    rw [Nat.pow_succ] at this
    omega
   have hd : a / 2 ^ k ≤ a := Nat.div_le_self _ _
   have ha := HA.out
   have hx : a / 2 ^ (k + 1) = a / 2 ^ k / 2 := by rw [Nat.pow_succ,Nat.div_div_eq_div_mul]
   have hs : revR (k + 1) a = 2 * revR k a + a / 2 ^ k % 2 := rfl
   obtain ⟨x,hxe⟩ : ∃ x : Nat,x = a / 2 ^ k := ⟨_,rfl⟩
   obtain ⟨r,hre⟩ : ∃ r : Nat,r = revR k a := ⟨_,rfl⟩
   rw [← hxe] at hd hx hs ⊢
   rw [← hre] at hr hs ⊢
   have hw : IntKind.u64.wrap ((r : Int) * 2) = ((2 * r : Nat) : Int) := by rw [IntKind.wrap_u64]; omega
   have hand : bits .and .u64 (x : Int) 1 = ((x % 2 : Nat) : Int) := by
    have := bits_and_u64_nat x 1 (by omega) (by decide)
    rw [Nat.and_one_is_mod] at this
    exact this
   have hor : bits .or .u64 ((2 * r : Nat) : Int) ((x % 2 : Nat) : Int) = ((2 * r + x % 2 : Nat) : Int) := by
    rw [bits_or_u64_nat _ _ (by omega) (by omega)]
    have := Nat.two_pow_add_eq_or_of_lt (i := 1) (b := x % 2) (by omega) r
    simp at this
    rw [← this]
   obtain ⟨t,ht⟩ : ∃ t : Nat,t = 2 * r := ⟨_,rfl⟩
   obtain ⟨b,hb⟩ : ∃ b : Nat,b = x % 2 := ⟨_,rfl⟩
   obtain ⟨q,hq⟩ : ∃ q : Nat,q = 2 * r + x % 2 := ⟨_,rfl⟩
   rw [← hq,← ht,← hb] at hor
   rw [← ht] at hw
   rw [← hb] at hand
   rw [← hq] at hs
   have hdiv : (x : Int) / 2 = ((x / 2 : Nat) : Int) := by simp
   rw [← hx] at hdiv
   have HS := hid hs
   clear hr hr64 hd ha hx hs hxe hre ht hb hq
   go_wp2
   go_round
   case rel => exact ⟨k + 1,by omega,by go_num,rfl,by rw [HS.out]⟩
   case measure => simp [intOf]; omega
  ·obtain rfl : k = n := by omega
   go_wp2
   go_ret
   exact ⟨rfl,rfl⟩
end Go.Proofs.YtbbmbhcbncenaaaGreatDoor
