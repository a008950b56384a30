/-
  The contract of the program's shifted. Condition: the bits are 8, 16, 32 or 64, the number is cut.
-/
import Derived.Test.YticcmbeikdemmaaDiv
namespace Go.Proofs.Yticcmbeikdemmaa
open Go.RowKit

/-- A number that is s when it is cut. -/
def Cuts (n s : Nat) (w : World) (e : Ending) (w' : World) : Prop := ∃ v : Nat, e = .returned (.int .u64 (v : Int)) ∧ v < 18446744073709551616 ∧ v % 2 ^ n = s ∧ w = w'

theorem cuts_nat {n : Nat} {w : World} {s v : Nat} {z : Int} (hz : z = (v : Int)) (hv : v < 18446744073709551616) (h : v % 2 ^ n = s) : Cuts n s w (.returned (.int .u64 z)) w :=
  ⟨v, by rw [hz], hv, h, rfl⟩

theorem mod_mod64 {n : Nat} (hn : Okn n) (x : Nat) : x % 18446744073709551616 % 2 ^ n = x % 2 ^ n := by
  apply Nat.mod_mod_of_dvd
  rcases hn with rfl | rfl | rfl | rfl <;> decide

theorem wrap_toN {n : Nat} (hn : Okn n) (z : Int) : (z % 18446744073709551616).toNat % 2 ^ n = toN n z := by
  unfold toN
  rcases hn with rfl | rfl | rfl | rfl <;> simp <;> omega

theorem cuts_wrap {n : Nat} (hn : Okn n) {w : World} {s : Nat} {z : Int} (h : toN n z = s) : Cuts n s w (.returned (.int .u64 (IntKind.u64.wrap z))) w := by
  refine cuts_nat (v := (z % 18446744073709551616).toNat) (by rw [IntKind.wrap_u64]; omega) (by omega) ?_
  rw [wrap_toN hn, h]

theorem shl_u (n : Nat) (hn : Okn n) (a b : Nat) (w : World) :
    Calls Try.prog 28 #[.int .i64 n, .int .i64 11, .int .u64 a, .int .u64 b] w (Cuts n (shiftR n 11 a (b % n)) w) := by
  have hn8 := hn.le
  obtain ⟨k, hk⟩ : ∃ k : Nat, k = b % n := ⟨_, rfl⟩
  have hkn : k < n := by rw [hk]; exact Nat.mod_lt _ (by omega)
  have hkk : (b : Int) % (n : Int) = (k : Int) := by rw [hk]; simp
  have hnw := wrap_nat (show n < 18446744073709551616 by omega)
  have hn0 : 0 < (n : Int) := by omega
  have hk64 : k ≤ 63 := by omega
  rw [← hk]
  have HN := hid hn
  clear hk hn
  go_enter Try.func28, Try.ntmps28
  go_wp2
  go_ret
  exact cuts_wrap HN.out (by
    rw [shiftR, if_pos rfl, ← toN_nat]
    simp)

theorem sar_u (n : Nat) (hn : Okn n) (a b : Nat) (ha : a < 2 ^ n) (w : World) :
    Calls Try.prog 28 #[.int .i64 n, .int .i64 12, .int .u64 a, .int .u64 b] w (Cuts n (shiftR n 12 a (b % n)) w) := by
  obtain ⟨h1, h2, h3, h4⟩ := pow_lt64 hn
  have hn8 := hn.le
  obtain ⟨k, hk⟩ : ∃ k : Nat, k = b % n := ⟨_, rfl⟩
  have hkn : k < n := by rw [hk]; exact Nat.mod_lt _ (by omega)
  have hkk : (b : Int) % (n : Int) = (k : Int) := by rw [hk]; simp
  have hnw := wrap_nat (show n < 18446744073709551616 by omega)
  have hn0 : 0 < (n : Int) := by omega
  have hk64 : k ≤ 63 := by omega
  have HG := hid (Signed_ok n hn a (by omega) w)
  rw [← hk]
  rw [Nat.mod_eq_of_lt ha] at HG
  have HN := hid hn
  clear h1 h2 h3 h4 hk hn ha
  go_enter Try.func28, Try.ntmps28
  go_wp2_with (go_at_call 22; refine HG.out.mono ?_; rintro e w' ⟨rfl, rfl⟩)
  go_ret
  exact cuts_wrap HN.out (by
    rw [shiftR, if_neg (by decide), if_pos rfl]
    simp)

theorem div_pow_cast (a k : Nat) : (a : Int) / 2 ^ k = ((a / 2 ^ k : Nat) : Int) := by simp

theorem shr_u (n : Nat) (hn : Okn n) (a b : Nat) (ha : a < 2 ^ n) (w : World) :
    Calls Try.prog 28 #[.int .i64 n, .int .i64 13, .int .u64 a, .int .u64 b] w (Cuts n (shiftR n 13 a (b % n)) w) := by
  obtain ⟨h1, h2, h3, h4⟩ := pow_lt64 hn
  have hn8 := hn.le
  obtain ⟨k, hk⟩ : ∃ k : Nat, k = b % n := ⟨_, rfl⟩
  have hkn : k < n := by rw [hk]; exact Nat.mod_lt _ (by omega)
  have hkk : (b : Int) % (n : Int) = (k : Int) := by rw [hk]; simp
  have hnw := wrap_nat (show n < 18446744073709551616 by omega)
  have hn0 : 0 < (n : Int) := by omega
  have hk64 : k ≤ 63 := by omega
  have hd : a / 2 ^ k ≤ a := Nat.div_le_self _ _
  rw [← hk]
  have HD := hid (show a / 2 ^ k < 18446744073709551616 ∧ a / 2 ^ k < 2 ^ n from ⟨by omega, by omega⟩)
  clear h1 h2 h3 h4 hk hn ha hd
  go_enter Try.func28, Try.ntmps28
  go_wp2
  go_ret
  exact cuts_nat (div_pow_cast a k) HD.out.1 (by
    rw [shiftR, if_neg (by decide), if_neg (by decide), if_pos rfl, Nat.mod_eq_of_lt HD.out.2])

theorem or_wraps {n : Nat} (hn : Okn n) (a m j : Nat) (ha : a < 18446744073709551616) : ∃ v : Nat, bits .or .u64 (IntKind.u64.wrap ((a : Int) * 2 ^ m)) ((a : Int) / 2 ^ j) = (v : Int) ∧ v < 18446744073709551616 ∧ v % 2 ^ n = ((a * 2 ^ m) ||| (a / 2 ^ j)) % 2 ^ n := by
  have e1 : IntKind.u64.wrap ((a : Int) * 2 ^ m) = ((a * 2 ^ m % 18446744073709551616 : Nat) : Int) := by
    rw [IntKind.wrap_u64]; simp
  have hd : a / 2 ^ j ≤ a := Nat.div_le_self _ _
  refine ⟨(a * 2 ^ m % 18446744073709551616) ||| (a / 2 ^ j), ?_, ?_, ?_⟩
  · rw [e1, div_pow_cast, bits_or_u64_nat _ _ (Nat.mod_lt _ (by decide)) (by omega)]
  · exact Nat.or_lt_two_pow (n := 64) (Nat.mod_lt _ (by decide)) (by omega)
  · rw [Nat.or_mod_two_pow, mod_mod64 hn, ← Nat.or_mod_two_pow]

theorem rotl_u (n : Nat) (hn : Okn n) (a b : Nat) (ha : a < 2 ^ n) (w : World) :
    Calls Try.prog 28 #[.int .i64 n, .int .i64 14, .int .u64 a, .int .u64 b] w (Cuts n (shiftR n 14 a (b % n)) w) := by
  obtain ⟨h1, h2, h3, h4⟩ := pow_lt64 hn
  have hn8 := hn.le
  obtain ⟨k, hk⟩ : ∃ k : Nat, k = b % n := ⟨_, rfl⟩
  have hkn : k < n := by rw [hk]; exact Nat.mod_lt _ (by omega)
  have hkk : (b : Int) % (n : Int) = (k : Int) := by rw [hk]; simp
  have hnw := wrap_nat (show n < 18446744073709551616 by omega)
  have hn0 : 0 < (n : Int) := by omega
  have hk64 : k ≤ 63 := by omega
  rw [← hk]
  have HV := hid (or_wraps hn a k (n - k) (by omega))
  clear h1 h2 h3 h4 hk hn ha
  go_enter Try.func28, Try.ntmps28
  go_wp2
  go_ret
  obtain ⟨v, e, hv, hc⟩ := HV.out
  exact cuts_nat e hv (by
    rw [shiftR, if_neg (by decide), if_neg (by decide), if_neg (by decide), if_pos rfl, hc])

theorem rotr_u (n : Nat) (hn : Okn n) (a b : Nat) (ha : a < 2 ^ n) (w : World) :
    Calls Try.prog 28 #[.int .i64 n, .int .i64 15, .int .u64 a, .int .u64 b] w (Cuts n (shiftR n 15 a (b % n)) w) := by
  obtain ⟨h1, h2, h3, h4⟩ := pow_lt64 hn
  have hn8 := hn.le
  obtain ⟨k, hk⟩ : ∃ k : Nat, k = b % n := ⟨_, rfl⟩
  have hkn : k < n := by rw [hk]; exact Nat.mod_lt _ (by omega)
  have hkk : (b : Int) % (n : Int) = (k : Int) := by rw [hk]; simp
  have hnw := wrap_nat (show n < 18446744073709551616 by omega)
  have hn0 : 0 < (n : Int) := by omega
  have hk64 : k ≤ 63 := by omega
  rw [← hk]
  have HV := hid (or_wraps hn a (n - k) (n - (n - k)) (by omega))
  have HK := hid (show n - (n - k) = k by omega)
  clear h1 h2 h3 h4 hk hn ha
  go_enter Try.func28, Try.ntmps28
  go_wp2
  go_ret
  obtain ⟨v, e, hv, hc⟩ := HV.out
  exact cuts_nat e hv (by
    rw [shiftR, if_neg (by decide), if_neg (by decide), if_neg (by decide), if_neg (by decide), hc, HK.out])

/-- shifted: the document's number, when it is cut. -/
theorem shifted_any (n : Nat) (hn : Okn n) (op : Nat) (h1 : 11 ≤ op) (h2 : op ≤ 15) (a b : Nat) (ha : a < 2 ^ n) (w : World) :
    Calls Try.prog 28 #[.int .i64 n, .int .i64 op, .int .u64 a, .int .u64 b] w (Cuts n (shiftR n op a (b % n)) w) := by
  have hop : op = 11 ∨ op = 12 ∨ op = 13 ∨ op = 14 ∨ op = 15 := by omega
  rcases hop with rfl | rfl | rfl | rfl | rfl
  · exact shl_u n hn a b w
  · exact sar_u n hn a b ha w
  · exact shr_u n hn a b ha w
  · exact rotl_u n hn a b ha w
  · exact rotr_u n hn a b ha w

end Go.Proofs.Yticcmbeikdemmaa
