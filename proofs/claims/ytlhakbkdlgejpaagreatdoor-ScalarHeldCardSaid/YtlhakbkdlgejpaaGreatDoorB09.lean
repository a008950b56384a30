/-
  SWork: merged (each text says what it holds where it lies in wip). No condition.
-/
import Derived.Test.YtlhakbkdlgejpaaGreatDoorB08
set_option linter.unusedSimpArgs false
set_option linter.unusedVariables false
set_option maxRecDepth 100000
namespace Go.Proofs.YtlhakbkdlgejpaaGreatDoor.Sc
open Go.RowKit

def REL7 : List (List UInt8) := [[], [101, 113], [110, 101], [108, 116, 95, 115], [108, 116, 95, 117], [103, 116, 95, 115], [103, 116, 95, 117], [108, 101, 95, 115], [108, 101, 95, 117], [103, 101, 95, 115], [103, 101, 95, 117]]
def UN7 : List (List UInt8) := [[], [99, 108, 122], [99, 116, 122], [112, 111, 112, 99, 110, 116], [101, 120, 116, 101, 110, 100, 56, 95, 115], [101, 120, 116, 101, 110, 100, 49, 54, 95, 115], [101, 120, 116, 101, 110, 100, 51, 50, 95, 115]]
def BIN7 : List (List UInt8) := [[], [97, 100, 100], [115, 117, 98], [109, 117, 108], [100, 105, 118, 95, 115], [100, 105, 118, 95, 117], [114, 101, 109, 95, 115], [114, 101, 109, 95, 117], [97, 110, 100], [111, 114], [120, 111, 114], [115, 104, 108], [115, 104, 114, 95, 115], [115, 104, 114, 95, 117], [114, 111, 116, 108], [114, 111, 116, 114]]
def FREL : List (List UInt8) := [[], [101, 113], [110, 101], [108, 116], [103, 116], [108, 101], [103, 101]]
def FUN : List (List UInt8) := [[], [97, 98, 115], [110, 101, 103], [115, 113, 114, 116], [99, 101, 105, 108], [102, 108, 111, 111, 114], [116, 114, 117, 110, 99], [110, 101, 97, 114, 101, 115, 116]]
def FBIN : List (List UInt8) := [[], [97, 100, 100], [115, 117, 98], [109, 117, 108], [100, 105, 118], [109, 105, 110], [109, 97, 120], [99, 111, 112, 121, 115, 105, 103, 110]]
theorem pre_of (v : List UInt8) (k : Nat) (x : List UInt8) (b : Bool) (h : (v.take k == x) = b) : (((str v).extract 0 k).toList == x) = b := by rw [cut_str, str_list]; exact h
set_option maxHeartbeats 4000000 in
set_option maxRecDepth 100000 in
theorem worked_iR (kd v : List UInt8) (hk : (kd == [102]) = false) (h0 : (v == [101, 113, 122]) = false) (hl : v.length ≤ 6) (k : Int) (hp : plL REL7 v 0 = k) (hk1 : 1 ≤ k) (n lv : Int) (a b : Nat) (r : Bool) (r2 : Int) (HC : Ans 149 #[.int .i64 n, .int .i64 k, .int .u64 a, .int .u64 b] (.tuple #[.bool r, .int .i64 r2])) :
    Ans 91 #[.string (str kd), .int .i64 n, .int .i64 lv, .string (str v), .int .u64 a, .int .u64 b] (.tuple #[.int .u64 ((if r then 1 else 0 : Nat) : Int), .int .i64 r2]) := fun w => by
  have HCC := fun W => hid (HC W)
  have HO1 := fun W => hid (one_says r W)
  have HP0 := fun W => hid (place_at v REL7 (by decide) #[.string ⟨#[]⟩, .string ⟨#[101, 113]⟩, .string ⟨#[110, 101]⟩, .string ⟨#[108, 116, 95, 115]⟩, .string ⟨#[108, 116, 95, 117]⟩, .string ⟨#[103, 116, 95, 115]⟩, .string ⟨#[103, 116, 95, 117]⟩, .string ⟨#[108, 101, 95, 115]⟩, .string ⟨#[108, 101, 95, 117]⟩, .string ⟨#[103, 101, 95, 115]⟩, .string ⟨#[103, 101, 95, 117]⟩] rfl 11 rfl k hp W)
  have gk : decide ((0 : Int) < k) = true := by simp; omega
  clear hk1
  have g8 : decide ((8 : Int) < ((str v).size : Int)) = false := by rw [str_size]; simp; omega
  have g7 : decide ((7 : Int) < ((str v).size : Int)) = false := by rw [str_size]; simp; omega
  have g6 : decide ((6 : Int) < ((str v).size : Int)) = false := by rw [str_size]; simp; omega
  have q9 : ((str kd).toList == [102]) = false := by rw [str_list]; exact hk
  have q0 : ((str v).toList == [101, 113, 122]) = false := by rw [str_list]; exact h0
  generalize ((if r then 1 else 0 : Nat) : Int) = z at *
  clear HC hk h0 hl 
  generalize str v = s at *
  generalize str kd = sk at *
  go_enter Tryz.func91, Tryz.ntmps91
  go_wp2_with (first
    | (go_at_call 145; (with_reducible refine (HP0 _).out.mono ?_); rintro e w0 ⟨rfl, rfl⟩; have HB0 := hid (((Below.refl _ w)).alloc (Nat.le_refl _) (.cells #[.string ⟨#[]⟩, .string ⟨#[101, 113]⟩, .string ⟨#[110, 101]⟩, .string ⟨#[108, 116, 95, 115]⟩, .string ⟨#[108, 116, 95, 117]⟩, .string ⟨#[103, 116, 95, 115]⟩, .string ⟨#[103, 116, 95, 117]⟩, .string ⟨#[108, 101, 95, 115]⟩, .string ⟨#[108, 101, 95, 117]⟩, .string ⟨#[103, 101, 95, 115]⟩, .string ⟨#[103, 101, 95, 117]⟩] 9)); generalize w.alloc (.cells #[.string ⟨#[]⟩, .string ⟨#[101, 113]⟩, .string ⟨#[110, 101]⟩, .string ⟨#[108, 116, 95, 115]⟩, .string ⟨#[108, 116, 95, 117]⟩, .string ⟨#[103, 116, 95, 115]⟩, .string ⟨#[103, 116, 95, 117]⟩, .string ⟨#[108, 101, 95, 115]⟩, .string ⟨#[108, 101, 95, 117]⟩, .string ⟨#[103, 101, 95, 115]⟩, .string ⟨#[103, 101, 95, 117]⟩] 9) = V0 at *)
    | (go_at_call 149; (with_reducible refine (HCC _).out.mono ?_); rintro e w1 ⟨rfl, hb⟩; have HB1 := hid (HB0.out.trans (hb.mono HB0.out.size)); clear hb)
    | (go_at_call 142; (with_reducible refine (HO1 _).out.mono ?_); rintro e w2 ⟨rfl, hb⟩; have HB2 := hid (HB1.out.trans (hb.mono HB1.out.size)); clear hb)
    )
  go_ret2
  exact ⟨rfl, HB2.out⟩
set_option maxHeartbeats 4000000 in
set_option maxRecDepth 100000 in
theorem worked_iUA (kd v : List UInt8) (hk : (kd == [102]) = false) (h0 : (v == [101, 113, 122]) = false) (hl : v.length ≤ 6) (k : Int) (hp : plL REL7 v 0 = -1) (hp2 : plL UN7 v 0 = k) (hk1 : 1 ≤ k) (n lv : Int) (a b : Nat) (r : Int) (r2 : Int) (HC : Ans 150 #[.int .i64 n, .int .i64 k, .int .u64 a] (.tuple #[.int .u64 r, .int .i64 r2])) :
    Ans 91 #[.string (str kd), .int .i64 n, .int .i64 lv, .string (str v), .int .u64 a, .int .u64 b] (.tuple #[.int .u64 r, .int .i64 r2]) := fun w => by
  have HCC := fun W => hid (HC W)
  have HP0 := fun W => hid (place_at v REL7 (by decide) #[.string ⟨#[]⟩, .string ⟨#[101, 113]⟩, .string ⟨#[110, 101]⟩, .string ⟨#[108, 116, 95, 115]⟩, .string ⟨#[108, 116, 95, 117]⟩, .string ⟨#[103, 116, 95, 115]⟩, .string ⟨#[103, 116, 95, 117]⟩, .string ⟨#[108, 101, 95, 115]⟩, .string ⟨#[108, 101, 95, 117]⟩, .string ⟨#[103, 101, 95, 115]⟩, .string ⟨#[103, 101, 95, 117]⟩] rfl 11 rfl (-1) hp W)
  have HP1 := fun W => hid (place_at v UN7 (by decide) #[.string ⟨#[]⟩, .string ⟨#[99, 108, 122]⟩, .string ⟨#[99, 116, 122]⟩, .string ⟨#[112, 111, 112, 99, 110, 116]⟩, .string ⟨#[101, 120, 116, 101, 110, 100, 56, 95, 115]⟩, .string ⟨#[101, 120, 116, 101, 110, 100, 49, 54, 95, 115]⟩, .string ⟨#[101, 120, 116, 101, 110, 100, 51, 50, 95, 115]⟩] rfl 7 rfl k hp2 W)
  have gk : decide ((0 : Int) < k) = true := by simp; omega
  have gm : decide ((0 : Int) < -1) = false := rfl
  clear hk1
  have g8 : decide ((8 : Int) < ((str v).size : Int)) = false := by rw [str_size]; simp; omega
  have g7 : decide ((7 : Int) < ((str v).size : Int)) = false := by rw [str_size]; simp; omega
  have g6 : decide ((6 : Int) < ((str v).size : Int)) = false := by rw [str_size]; simp; omega
  have q9 : ((str kd).toList == [102]) = false := by rw [str_list]; exact hk
  have q0 : ((str v).toList == [101, 113, 122]) = false := by rw [str_list]; exact h0
  clear HC hk h0 hl 
  generalize str v = s at *
  generalize str kd = sk at *
  go_enter Tryz.func91, Tryz.ntmps91
  go_wp2_with (first
    | (go_at_call 145; (with_reducible refine (HP0 _).out.mono ?_); rintro e w0 ⟨rfl, rfl⟩; have HB0 := hid (((Below.refl _ w)).alloc (Nat.le_refl _) (.cells #[.string ⟨#[]⟩, .string ⟨#[101, 113]⟩, .string ⟨#[110, 101]⟩, .string ⟨#[108, 116, 95, 115]⟩, .string ⟨#[108, 116, 95, 117]⟩, .string ⟨#[103, 116, 95, 115]⟩, .string ⟨#[103, 116, 95, 117]⟩, .string ⟨#[108, 101, 95, 115]⟩, .string ⟨#[108, 101, 95, 117]⟩, .string ⟨#[103, 101, 95, 115]⟩, .string ⟨#[103, 101, 95, 117]⟩] 9)); generalize w.alloc (.cells #[.string ⟨#[]⟩, .string ⟨#[101, 113]⟩, .string ⟨#[110, 101]⟩, .string ⟨#[108, 116, 95, 115]⟩, .string ⟨#[108, 116, 95, 117]⟩, .string ⟨#[103, 116, 95, 115]⟩, .string ⟨#[103, 116, 95, 117]⟩, .string ⟨#[108, 101, 95, 115]⟩, .string ⟨#[108, 101, 95, 117]⟩, .string ⟨#[103, 101, 95, 115]⟩, .string ⟨#[103, 101, 95, 117]⟩] 9) = V0 at *)
    | (go_at_call 145; (with_reducible refine (HP1 _).out.mono ?_); rintro e w1 ⟨rfl, rfl⟩; have HB1 := hid (((HB0.out)).alloc (HB0.out.size) (.cells #[.string ⟨#[]⟩, .string ⟨#[99, 108, 122]⟩, .string ⟨#[99, 116, 122]⟩, .string ⟨#[112, 111, 112, 99, 110, 116]⟩, .string ⟨#[101, 120, 116, 101, 110, 100, 56, 95, 115]⟩, .string ⟨#[101, 120, 116, 101, 110, 100, 49, 54, 95, 115]⟩, .string ⟨#[101, 120, 116, 101, 110, 100, 51, 50, 95, 115]⟩] 9)); generalize V0.alloc (.cells #[.string ⟨#[]⟩, .string ⟨#[99, 108, 122]⟩, .string ⟨#[99, 116, 122]⟩, .string ⟨#[112, 111, 112, 99, 110, 116]⟩, .string ⟨#[101, 120, 116, 101, 110, 100, 56, 95, 115]⟩, .string ⟨#[101, 120, 116, 101, 110, 100, 49, 54, 95, 115]⟩, .string ⟨#[101, 120, 116, 101, 110, 100, 51, 50, 95, 115]⟩] 9) = V1 at *)
    | (go_at_call 150; (with_reducible refine (HCC _).out.mono ?_); rintro e w2 ⟨rfl, hb⟩; have HB2 := hid (HB1.out.trans (hb.mono HB1.out.size)); clear hb)
    )
  go_ret2
  exact ⟨rfl, HB2.out⟩
set_option maxHeartbeats 4000000 in
set_option maxRecDepth 100000 in
theorem worked_iUD (kd v : List UInt8) (hk : (kd == [102]) = false) (h0 : (v == [101, 113, 122]) = false) (hl : 8 < v.length) (hl2 : v.length ≤ 1000) (px : (v.take 8 == [101, 120, 116, 101, 110, 100, 95, 105]) = false) (pt : (v.take 5 == [116, 114, 117, 110, 99]) = false) (pc : (v.take 7 == [99, 111, 110, 118, 101, 114, 116]) = false) (pw : (v.take 4 == [119, 114, 97, 112]) = false) (pd : (v.take 6 == [100, 101, 109, 111, 116, 101]) = false) (pp : (v.take 6 == [112, 114, 111, 109, 111, 116]) = false) (pr : (v.take 6 == [114, 101, 105, 110, 116, 101]) = false) (k : Int) (hp : plL REL7 v 0 = -1) (hp2 : plL UN7 v 0 = k) (hk1 : 1 ≤ k) (n lv : Int) (a b : Nat) (r : Int) (r2 : Int) (HC : Ans 150 #[.int .i64 n, .int .i64 k, .int .u64 a] (.tuple #[.int .u64 r, .int .i64 r2])) :
    Ans 91 #[.string (str kd), .int .i64 n, .int .i64 lv, .string (str v), .int .u64 a, .int .u64 b] (.tuple #[.int .u64 r, .int .i64 r2]) := fun w => by
  have HCC := fun W => hid (HC W)
  have HP0 := fun W => hid (place_at v REL7 (by decide) #[.string ⟨#[]⟩, .string ⟨#[101, 113]⟩, .string ⟨#[110, 101]⟩, .string ⟨#[108, 116, 95, 115]⟩, .string ⟨#[108, 116, 95, 117]⟩, .string ⟨#[103, 116, 95, 115]⟩, .string ⟨#[103, 116, 95, 117]⟩, .string ⟨#[108, 101, 95, 115]⟩, .string ⟨#[108, 101, 95, 117]⟩, .string ⟨#[103, 101, 95, 115]⟩, .string ⟨#[103, 101, 95, 117]⟩] rfl 11 rfl (-1) hp W)
  have HP1 := fun W => hid (place_at v UN7 (by decide) #[.string ⟨#[]⟩, .string ⟨#[99, 108, 122]⟩, .string ⟨#[99, 116, 122]⟩, .string ⟨#[112, 111, 112, 99, 110, 116]⟩, .string ⟨#[101, 120, 116, 101, 110, 100, 56, 95, 115]⟩, .string ⟨#[101, 120, 116, 101, 110, 100, 49, 54, 95, 115]⟩, .string ⟨#[101, 120, 116, 101, 110, 100, 51, 50, 95, 115]⟩] rfl 7 rfl k hp2 W)
  have gk : decide ((0 : Int) < k) = true := by simp; omega
  have gm : decide ((0 : Int) < -1) = false := rfl
  clear hk1
  have ux := pre_of v 8 _ _ px
  have ut := pre_of v 5 _ _ pt
  have uc := pre_of v 7 _ _ pc
  have uw := pre_of v 4 _ _ pw
  have ud := pre_of v 6 _ _ pd
  have up := pre_of v 6 _ _ pp
  have ur := pre_of v 6 _ _ pr
  have g8 : decide ((8 : Int) < ((str v).size : Int)) = true := by rw [str_size]; simp; omega
  have s8 : 8 ≤ (str v).size := by rw [str_size]; omega
  have g7 : decide ((7 : Int) < ((str v).size : Int)) = true := by rw [str_size]; simp; omega
  have s7 : 7 ≤ (str v).size := by rw [str_size]; omega
  have g6 : decide ((6 : Int) < ((str v).size : Int)) = true := by rw [str_size]; simp; omega
  have s6 : 6 ≤ (str v).size := by rw [str_size]; omega
  have s4 : 4 ≤ (str v).size := by rw [str_size]; omega
  have s5 : 5 ≤ (str v).size := by rw [str_size]; omega
  have sm : (str v).size ≤ 1000 := by rw [str_size]; omega
  have q9 : ((str kd).toList == [102]) = false := by rw [str_list]; exact hk
  have q0 : ((str v).toList == [101, 113, 122]) = false := by rw [str_list]; exact h0
  clear HC hk h0 px pt pc pw pd pp pr hl hl2 
  generalize str v = s at *
  generalize str kd = sk at *
  go_enter Tryz.func91, Tryz.ntmps91
  go_wp2_with (first
    | (go_at_call 145; (with_reducible refine (HP0 _).out.mono ?_); rintro e w0 ⟨rfl, rfl⟩; have HB0 := hid (((Below.refl _ w)).alloc (Nat.le_refl _) (.cells #[.string ⟨#[]⟩, .string ⟨#[101, 113]⟩, .string ⟨#[110, 101]⟩, .string ⟨#[108, 116, 95, 115]⟩, .string ⟨#[108, 116, 95, 117]⟩, .string ⟨#[103, 116, 95, 115]⟩, .string ⟨#[103, 116, 95, 117]⟩, .string ⟨#[108, 101, 95, 115]⟩, .string ⟨#[108, 101, 95, 117]⟩, .string ⟨#[103, 101, 95, 115]⟩, .string ⟨#[103, 101, 95, 117]⟩] 9)); generalize w.alloc (.cells #[.string ⟨#[]⟩, .string ⟨#[101, 113]⟩, .string ⟨#[110, 101]⟩, .string ⟨#[108, 116, 95, 115]⟩, .string ⟨#[108, 116, 95, 117]⟩, .string ⟨#[103, 116, 95, 115]⟩, .string ⟨#[103, 116, 95, 117]⟩, .string ⟨#[108, 101, 95, 115]⟩, .string ⟨#[108, 101, 95, 117]⟩, .string ⟨#[103, 101, 95, 115]⟩, .string ⟨#[103, 101, 95, 117]⟩] 9) = V0 at *)
    | (go_at_call 145; (with_reducible refine (HP1 _).out.mono ?_); rintro e w1 ⟨rfl, rfl⟩; have HB1 := hid (((HB0.out)).alloc (HB0.out.size) (.cells #[.string ⟨#[]⟩, .string ⟨#[99, 108, 122]⟩, .string ⟨#[99, 116, 122]⟩, .string ⟨#[112, 111, 112, 99, 110, 116]⟩, .string ⟨#[101, 120, 116, 101, 110, 100, 56, 95, 115]⟩, .string ⟨#[101, 120, 116, 101, 110, 100, 49, 54, 95, 115]⟩, .string ⟨#[101, 120, 116, 101, 110, 100, 51, 50, 95, 115]⟩] 9)); generalize V0.alloc (.cells #[.string ⟨#[]⟩, .string ⟨#[99, 108, 122]⟩, .string ⟨#[99, 116, 122]⟩, .string ⟨#[112, 111, 112, 99, 110, 116]⟩, .string ⟨#[101, 120, 116, 101, 110, 100, 56, 95, 115]⟩, .string ⟨#[101, 120, 116, 101, 110, 100, 49, 54, 95, 115]⟩, .string ⟨#[101, 120, 116, 101, 110, 100, 51, 50, 95, 115]⟩] 9) = V1 at *)
    | (go_at_call 150; (with_reducible refine (HCC _).out.mono ?_); rintro e w2 ⟨rfl, hb⟩; have HB2 := hid (HB1.out.trans (hb.mono HB1.out.size)); clear hb)
    )
  go_ret2
  exact ⟨rfl, HB2.out⟩
set_option maxHeartbeats 4000000 in
set_option maxRecDepth 100000 in
theorem worked_iB (kd v : List UInt8) (hk : (kd == [102]) = false) (h0 : (v == [101, 113, 122]) = false) (hl : v.length ≤ 6) (k : Int) (hp : plL REL7 v 0 = -1) (hp2 : plL UN7 v 0 = -1) (hp3 : plL BIN7 v 0 = k) (n lv : Int) (a b : Nat) (r : Int) (r2 : Int) (HC : Ans 151 #[.int .i64 n, .int .i64 k, .int .u64 a, .int .u64 b] (.tuple #[.int .u64 r, .int .i64 r2])) :
    Ans 91 #[.string (str kd), .int .i64 n, .int .i64 lv, .string (str v), .int .u64 a, .int .u64 b] (.tuple #[.int .u64 r, .int .i64 r2]) := fun w => by
  have HCC := fun W => hid (HC W)
  have HP0 := fun W => hid (place_at v REL7 (by decide) #[.string ⟨#[]⟩, .string ⟨#[101, 113]⟩, .string ⟨#[110, 101]⟩, .string ⟨#[108, 116, 95, 115]⟩, .string ⟨#[108, 116, 95, 117]⟩, .string ⟨#[103, 116, 95, 115]⟩, .string ⟨#[103, 116, 95, 117]⟩, .string ⟨#[108, 101, 95, 115]⟩, .string ⟨#[108, 101, 95, 117]⟩, .string ⟨#[103, 101, 95, 115]⟩, .string ⟨#[103, 101, 95, 117]⟩] rfl 11 rfl (-1) hp W)
  have HP1 := fun W => hid (place_at v UN7 (by decide) #[.string ⟨#[]⟩, .string ⟨#[99, 108, 122]⟩, .string ⟨#[99, 116, 122]⟩, .string ⟨#[112, 111, 112, 99, 110, 116]⟩, .string ⟨#[101, 120, 116, 101, 110, 100, 56, 95, 115]⟩, .string ⟨#[101, 120, 116, 101, 110, 100, 49, 54, 95, 115]⟩, .string ⟨#[101, 120, 116, 101, 110, 100, 51, 50, 95, 115]⟩] rfl 7 rfl (-1) hp2 W)
  have HP2 := fun W => hid (place_at v BIN7 (by decide) #[.string ⟨#[]⟩, .string ⟨#[97, 100, 100]⟩, .string ⟨#[115, 117, 98]⟩, .string ⟨#[109, 117, 108]⟩, .string ⟨#[100, 105, 118, 95, 115]⟩, .string ⟨#[100, 105, 118, 95, 117]⟩, .string ⟨#[114, 101, 109, 95, 115]⟩, .string ⟨#[114, 101, 109, 95, 117]⟩, .string ⟨#[97, 110, 100]⟩, .string ⟨#[111, 114]⟩, .string ⟨#[120, 111, 114]⟩, .string ⟨#[115, 104, 108]⟩, .string ⟨#[115, 104, 114, 95, 115]⟩, .string ⟨#[115, 104, 114, 95, 117]⟩, .string ⟨#[114, 111, 116, 108]⟩, .string ⟨#[114, 111, 116, 114]⟩] rfl 16 rfl k hp3 W)
  have gm : decide ((0 : Int) < -1) = false := rfl
  have g8 : decide ((8 : Int) < ((str v).size : Int)) = false := by rw [str_size]; simp; omega
  have g7 : decide ((7 : Int) < ((str v).size : Int)) = false := by rw [str_size]; simp; omega
  have g6 : decide ((6 : Int) < ((str v).size : Int)) = false := by rw [str_size]; simp; omega
  have q9 : ((str kd).toList == [102]) = false := by rw [str_list]; exact hk
  have q0 : ((str v).toList == [101, 113, 122]) = false := by rw [str_list]; exact h0
  clear HC hk h0 hl 
  generalize str v = s at *
  generalize str kd = sk at *
  go_enter Tryz.func91, Tryz.ntmps91
  go_wp2_with (first
    | (go_at_call 145; (with_reducible refine (HP0 _).out.mono ?_); rintro e w0 ⟨rfl, rfl⟩; have HB0 := hid (((Below.refl _ w)).alloc (Nat.le_refl _) (.cells #[.string ⟨#[]⟩, .string ⟨#[101, 113]⟩, .string ⟨#[110, 101]⟩, .string ⟨#[108, 116, 95, 115]⟩, .string ⟨#[108, 116, 95, 117]⟩, .string ⟨#[103, 116, 95, 115]⟩, .string ⟨#[103, 116, 95, 117]⟩, .string ⟨#[108, 101, 95, 115]⟩, .string ⟨#[108, 101, 95, 117]⟩, .string ⟨#[103, 101, 95, 115]⟩, .string ⟨#[103, 101, 95, 117]⟩] 9)); generalize w.alloc (.cells #[.string ⟨#[]⟩, .string ⟨#[101, 113]⟩, .string ⟨#[110, 101]⟩, .string ⟨#[108, 116, 95, 115]⟩, .string ⟨#[108, 116, 95, 117]⟩, .string ⟨#[103, 116, 95, 115]⟩, .string ⟨#[103, 116, 95, 117]⟩, .string ⟨#[108, 101, 95, 115]⟩, .string ⟨#[108, 101, 95, 117]⟩, .string ⟨#[103, 101, 95, 115]⟩, .string ⟨#[103, 101, 95, 117]⟩] 9) = V0 at *)
    | (go_at_call 145; (with_reducible refine (HP1 _).out.mono ?_); rintro e w1 ⟨rfl, rfl⟩; have HB1 := hid (((HB0.out)).alloc (HB0.out.size) (.cells #[.string ⟨#[]⟩, .string ⟨#[99, 108, 122]⟩, .string ⟨#[99, 116, 122]⟩, .string ⟨#[112, 111, 112, 99, 110, 116]⟩, .string ⟨#[101, 120, 116, 101, 110, 100, 56, 95, 115]⟩, .string ⟨#[101, 120, 116, 101, 110, 100, 49, 54, 95, 115]⟩, .string ⟨#[101, 120, 116, 101, 110, 100, 51, 50, 95, 115]⟩] 9)); generalize V0.alloc (.cells #[.string ⟨#[]⟩, .string ⟨#[99, 108, 122]⟩, .string ⟨#[99, 116, 122]⟩, .string ⟨#[112, 111, 112, 99, 110, 116]⟩, .string ⟨#[101, 120, 116, 101, 110, 100, 56, 95, 115]⟩, .string ⟨#[101, 120, 116, 101, 110, 100, 49, 54, 95, 115]⟩, .string ⟨#[101, 120, 116, 101, 110, 100, 51, 50, 95, 115]⟩] 9) = V1 at *)
    | (go_at_call 145; (with_reducible refine (HP2 _).out.mono ?_); rintro e w2 ⟨rfl, rfl⟩; have HB2 := hid (((HB1.out)).alloc (HB1.out.size) (.cells #[.string ⟨#[]⟩, .string ⟨#[97, 100, 100]⟩, .string ⟨#[115, 117, 98]⟩, .string ⟨#[109, 117, 108]⟩, .string ⟨#[100, 105, 118, 95, 115]⟩, .string ⟨#[100, 105, 118, 95, 117]⟩, .string ⟨#[114, 101, 109, 95, 115]⟩, .string ⟨#[114, 101, 109, 95, 117]⟩, .string ⟨#[97, 110, 100]⟩, .string ⟨#[111, 114]⟩, .string ⟨#[120, 111, 114]⟩, .string ⟨#[115, 104, 108]⟩, .string ⟨#[115, 104, 114, 95, 115]⟩, .string ⟨#[115, 104, 114, 95, 117]⟩, .string ⟨#[114, 111, 116, 108]⟩, .string ⟨#[114, 111, 116, 114]⟩] 9)); generalize V1.alloc (.cells #[.string ⟨#[]⟩, .string ⟨#[97, 100, 100]⟩, .string ⟨#[115, 117, 98]⟩, .string ⟨#[109, 117, 108]⟩, .string ⟨#[100, 105, 118, 95, 115]⟩, .string ⟨#[100, 105, 118, 95, 117]⟩, .string ⟨#[114, 101, 109, 95, 115]⟩, .string ⟨#[114, 101, 109, 95, 117]⟩, .string ⟨#[97, 110, 100]⟩, .string ⟨#[111, 114]⟩, .string ⟨#[120, 111, 114]⟩, .string ⟨#[115, 104, 108]⟩, .string ⟨#[115, 104, 114, 95, 115]⟩, .string ⟨#[115, 104, 114, 95, 117]⟩, .string ⟨#[114, 111, 116, 108]⟩, .string ⟨#[114, 111, 116, 114]⟩] 9) = V2 at *)
    | (go_at_call 151; (with_reducible refine (HCC _).out.mono ?_); rintro e w3 ⟨rfl, hb⟩; have HB3 := hid (HB2.out.trans (hb.mono HB2.out.size)); clear hb)
    )
  go_ret2
  exact ⟨rfl, HB3.out⟩
set_option maxHeartbeats 4000000 in
set_option maxRecDepth 100000 in
theorem worked_fR (kd v : List UInt8) (hk : (kd == [102]) = true) (h0 : (v == [101, 113, 122]) = false) (hl : v.length ≤ 6) (k : Int) (hp : plL FREL v 0 = k) (hk1 : 1 ≤ k) (n lv : Int) (a b : Nat) (r : Bool) (r2 : Int) (HC : Ans 146 #[.int .i64 n, .int .i64 k, .int .u64 a, .int .u64 b] (.tuple #[.bool r, .int .i64 r2])) :
    Ans 91 #[.string (str kd), .int .i64 n, .int .i64 lv, .string (str v), .int .u64 a, .int .u64 b] (.tuple #[.int .u64 ((if r then 1 else 0 : Nat) : Int), .int .i64 r2]) := fun w => by
  have HCC := fun W => hid (HC W)
  have HO1 := fun W => hid (one_says r W)
  have HP0 := fun W => hid (place_at v FREL (by decide) #[.string ⟨#[]⟩, .string ⟨#[101, 113]⟩, .string ⟨#[110, 101]⟩, .string ⟨#[108, 116]⟩, .string ⟨#[103, 116]⟩, .string ⟨#[108, 101]⟩, .string ⟨#[103, 101]⟩] rfl 7 rfl k hp W)
  have gk : decide ((0 : Int) < k) = true := by simp; omega
  clear hk1
  have g8 : decide ((8 : Int) < ((str v).size : Int)) = false := by rw [str_size]; simp; omega
  have g7 : decide ((7 : Int) < ((str v).size : Int)) = false := by rw [str_size]; simp; omega
  have g6 : decide ((6 : Int) < ((str v).size : Int)) = false := by rw [str_size]; simp; omega
  have q9 : ((str kd).toList == [102]) = true := by rw [str_list]; exact hk
  have q0 : ((str v).toList == [101, 113, 122]) = false := by rw [str_list]; exact h0
  generalize ((if r then 1 else 0 : Nat) : Int) = z at *
  clear HC hk h0 hl 
  generalize str v = s at *
  generalize str kd = sk at *
  go_enter Tryz.func91, Tryz.ntmps91
  go_wp2_with (first
    | (go_at_call 145; (with_reducible refine (HP0 _).out.mono ?_); rintro e w0 ⟨rfl, rfl⟩; have HB0 := hid (((Below.refl _ w)).alloc (Nat.le_refl _) (.cells #[.string ⟨#[]⟩, .string ⟨#[101, 113]⟩, .string ⟨#[110, 101]⟩, .string ⟨#[108, 116]⟩, .string ⟨#[103, 116]⟩, .string ⟨#[108, 101]⟩, .string ⟨#[103, 101]⟩] 9)); generalize w.alloc (.cells #[.string ⟨#[]⟩, .string ⟨#[101, 113]⟩, .string ⟨#[110, 101]⟩, .string ⟨#[108, 116]⟩, .string ⟨#[103, 116]⟩, .string ⟨#[108, 101]⟩, .string ⟨#[103, 101]⟩] 9) = V0 at *)
    | (go_at_call 146; (with_reducible refine (HCC _).out.mono ?_); rintro e w1 ⟨rfl, hb⟩; have HB1 := hid (HB0.out.trans (hb.mono HB0.out.size)); clear hb)
    | (go_at_call 142; (with_reducible refine (HO1 _).out.mono ?_); rintro e w2 ⟨rfl, hb⟩; have HB2 := hid (HB1.out.trans (hb.mono HB1.out.size)); clear hb)
    )
  go_ret2
  exact ⟨rfl, HB2.out⟩
set_option maxHeartbeats 4000000 in
set_option maxRecDepth 100000 in
theorem worked_fUA (kd v : List UInt8) (hk : (kd == [102]) = true) (h0 : (v == [101, 113, 122]) = false) (hl : v.length ≤ 6) (k : Int) (hp : plL FREL v 0 = -1) (hp2 : plL FUN v 0 = k) (hk1 : 1 ≤ k) (n lv : Int) (a b : Nat) (r : Int) (r2 : Int) (HC : Ans 147 #[.int .i64 n, .int .i64 k, .int .u64 a] (.tuple #[.int .u64 r, .int .i64 r2])) :
    Ans 91 #[.string (str kd), .int .i64 n, .int .i64 lv, .string (str v), .int .u64 a, .int .u64 b] (.tuple #[.int .u64 r, .int .i64 r2]) := fun w => by
  have HCC := fun W => hid (HC W)
  have HP0 := fun W => hid (place_at v FREL (by decide) #[.string ⟨#[]⟩, .string ⟨#[101, 113]⟩, .string ⟨#[110, 101]⟩, .string ⟨#[108, 116]⟩, .string ⟨#[103, 116]⟩, .string ⟨#[108, 101]⟩, .string ⟨#[103, 101]⟩] rfl 7 rfl (-1) hp W)
  have HP1 := fun W => hid (place_at v FUN (by decide) #[.string ⟨#[]⟩, .string ⟨#[97, 98, 115]⟩, .string ⟨#[110, 101, 103]⟩, .string ⟨#[115, 113, 114, 116]⟩, .string ⟨#[99, 101, 105, 108]⟩, .string ⟨#[102, 108, 111, 111, 114]⟩, .string ⟨#[116, 114, 117, 110, 99]⟩, .string ⟨#[110, 101, 97, 114, 101, 115, 116]⟩] rfl 8 rfl k hp2 W)
  have gk : decide ((0 : Int) < k) = true := by simp; omega
  have gm : decide ((0 : Int) < -1) = false := rfl
  clear hk1
  have g8 : decide ((8 : Int) < ((str v).size : Int)) = false := by rw [str_size]; simp; omega
  have g7 : decide ((7 : Int) < ((str v).size : Int)) = false := by rw [str_size]; simp; omega
  have g6 : decide ((6 : Int) < ((str v).size : Int)) = false := by rw [str_size]; simp; omega
  have q9 : ((str kd).toList == [102]) = true := by rw [str_list]; exact hk
  have q0 : ((str v).toList == [101, 113, 122]) = false := by rw [str_list]; exact h0
  clear HC hk h0 hl 
  generalize str v = s at *
  generalize str kd = sk at *
  go_enter Tryz.func91, Tryz.ntmps91
  go_wp2_with (first
    | (go_at_call 145; (with_reducible refine (HP0 _).out.mono ?_); rintro e w0 ⟨rfl, rfl⟩; have HB0 := hid (((Below.refl _ w)).alloc (Nat.le_refl _) (.cells #[.string ⟨#[]⟩, .string ⟨#[101, 113]⟩, .string ⟨#[110, 101]⟩, .string ⟨#[108, 116]⟩, .string ⟨#[103, 116]⟩, .string ⟨#[108, 101]⟩, .string ⟨#[103, 101]⟩] 9)); generalize w.alloc (.cells #[.string ⟨#[]⟩, .string ⟨#[101, 113]⟩, .string ⟨#[110, 101]⟩, .string ⟨#[108, 116]⟩, .string ⟨#[103, 116]⟩, .string ⟨#[108, 101]⟩, .string ⟨#[103, 101]⟩] 9) = V0 at *)
    | (go_at_call 145; (with_reducible refine (HP1 _).out.mono ?_); rintro e w1 ⟨rfl, rfl⟩; have HB1 := hid (((HB0.out)).alloc (HB0.out.size) (.cells #[.string ⟨#[]⟩, .string ⟨#[97, 98, 115]⟩, .string ⟨#[110, 101, 103]⟩, .string ⟨#[115, 113, 114, 116]⟩, .string ⟨#[99, 101, 105, 108]⟩, .string ⟨#[102, 108, 111, 111, 114]⟩, .string ⟨#[116, 114, 117, 110, 99]⟩, .string ⟨#[110, 101, 97, 114, 101, 115, 116]⟩] 9)); generalize V0.alloc (.cells #[.string ⟨#[]⟩, .string ⟨#[97, 98, 115]⟩, .string ⟨#[110, 101, 103]⟩, .string ⟨#[115, 113, 114, 116]⟩, .string ⟨#[99, 101, 105, 108]⟩, .string ⟨#[102, 108, 111, 111, 114]⟩, .string ⟨#[116, 114, 117, 110, 99]⟩, .string ⟨#[110, 101, 97, 114, 101, 115, 116]⟩] 9) = V1 at *)
    | (go_at_call 147; (with_reducible refine (HCC _).out.mono ?_); rintro e w2 ⟨rfl, hb⟩; have HB2 := hid (HB1.out.trans (hb.mono HB1.out.size)); clear hb)
    )
  go_ret2
  exact ⟨rfl, HB2.out⟩
set_option maxHeartbeats 4000000 in
set_option maxRecDepth 100000 in
theorem worked_fUB (kd v : List UInt8) (hk : (kd == [102]) = true) (h0 : (v == [101, 113, 122]) = false) (hl : v.length = 7) (pw : (v.take 4 == [119, 114, 97, 112]) = false) (pd : (v.take 6 == [100, 101, 109, 111, 116, 101]) = false) (pp : (v.take 6 == [112, 114, 111, 109, 111, 116]) = false) (pr : (v.take 6 == [114, 101, 105, 110, 116, 101]) = false) (k : Int) (hp : plL FREL v 0 = -1) (hp2 : plL FUN v 0 = k) (hk1 : 1 ≤ k) (n lv : Int) (a b : Nat) (r : Int) (r2 : Int) (HC : Ans 147 #[.int .i64 n, .int .i64 k, .int .u64 a] (.tuple #[.int .u64 r, .int .i64 r2])) :
    Ans 91 #[.string (str kd), .int .i64 n, .int .i64 lv, .string (str v), .int .u64 a, .int .u64 b] (.tuple #[.int .u64 r, .int .i64 r2]) := fun w => by
  have HCC := fun W => hid (HC W)
  have HP0 := fun W => hid (place_at v FREL (by decide) #[.string ⟨#[]⟩, .string ⟨#[101, 113]⟩, .string ⟨#[110, 101]⟩, .string ⟨#[108, 116]⟩, .string ⟨#[103, 116]⟩, .string ⟨#[108, 101]⟩, .string ⟨#[103, 101]⟩] rfl 7 rfl (-1) hp W)
  have HP1 := fun W => hid (place_at v FUN (by decide) #[.string ⟨#[]⟩, .string ⟨#[97, 98, 115]⟩, .string ⟨#[110, 101, 103]⟩, .string ⟨#[115, 113, 114, 116]⟩, .string ⟨#[99, 101, 105, 108]⟩, .string ⟨#[102, 108, 111, 111, 114]⟩, .string ⟨#[116, 114, 117, 110, 99]⟩, .string ⟨#[110, 101, 97, 114, 101, 115, 116]⟩] rfl 8 rfl k hp2 W)
  have gk : decide ((0 : Int) < k) = true := by simp; omega
  have gm : decide ((0 : Int) < -1) = false := rfl
  clear hk1
  have uw := pre_of v 4 _ _ pw
  have ud := pre_of v 6 _ _ pd
  have up := pre_of v 6 _ _ pp
  have ur := pre_of v 6 _ _ pr
  have g8 : decide ((8 : Int) < ((str v).size : Int)) = false := by rw [str_size]; simp; omega
  have g7 : decide ((7 : Int) < ((str v).size : Int)) = false := by rw [str_size]; simp; omega
  have g6 : decide ((6 : Int) < ((str v).size : Int)) = true := by rw [str_size]; simp; omega
  have s6 : 6 ≤ (str v).size := by rw [str_size]; omega
  have s4 : 4 ≤ (str v).size := by rw [str_size]; omega
  have s5 : 5 ≤ (str v).size := by rw [str_size]; omega
  have sm : (str v).size ≤ 1000 := by rw [str_size]; omega
  have q9 : ((str kd).toList == [102]) = true := by rw [str_list]; exact hk
  have q0 : ((str v).toList == [101, 113, 122]) = false := by rw [str_list]; exact h0
  clear HC hk h0 pw pd pp pr hl 
  generalize str v = s at *
  generalize str kd = sk at *
  go_enter Tryz.func91, Tryz.ntmps91
  go_wp2_with (first
    | (go_at_call 145; (with_reducible refine (HP0 _).out.mono ?_); rintro e w0 ⟨rfl, rfl⟩; have HB0 := hid (((Below.refl _ w)).alloc (Nat.le_refl _) (.cells #[.string ⟨#[]⟩, .string ⟨#[101, 113]⟩, .string ⟨#[110, 101]⟩, .string ⟨#[108, 116]⟩, .string ⟨#[103, 116]⟩, .string ⟨#[108, 101]⟩, .string ⟨#[103, 101]⟩] 9)); generalize w.alloc (.cells #[.string ⟨#[]⟩, .string ⟨#[101, 113]⟩, .string ⟨#[110, 101]⟩, .string ⟨#[108, 116]⟩, .string ⟨#[103, 116]⟩, .string ⟨#[108, 101]⟩, .string ⟨#[103, 101]⟩] 9) = V0 at *)
    | (go_at_call 145; (with_reducible refine (HP1 _).out.mono ?_); rintro e w1 ⟨rfl, rfl⟩; have HB1 := hid (((HB0.out)).alloc (HB0.out.size) (.cells #[.string ⟨#[]⟩, .string ⟨#[97, 98, 115]⟩, .string ⟨#[110, 101, 103]⟩, .string ⟨#[115, 113, 114, 116]⟩, .string ⟨#[99, 101, 105, 108]⟩, .string ⟨#[102, 108, 111, 111, 114]⟩, .string ⟨#[116, 114, 117, 110, 99]⟩, .string ⟨#[110, 101, 97, 114, 101, 115, 116]⟩] 9)); generalize V0.alloc (.cells #[.string ⟨#[]⟩, .string ⟨#[97, 98, 115]⟩, .string ⟨#[110, 101, 103]⟩, .string ⟨#[115, 113, 114, 116]⟩, .string ⟨#[99, 101, 105, 108]⟩, .string ⟨#[102, 108, 111, 111, 114]⟩, .string ⟨#[116, 114, 117, 110, 99]⟩, .string ⟨#[110, 101, 97, 114, 101, 115, 116]⟩] 9) = V1 at *)
    | (go_at_call 147; (with_reducible refine (HCC _).out.mono ?_); rintro e w2 ⟨rfl, hb⟩; have HB2 := hid (HB1.out.trans (hb.mono HB1.out.size)); clear hb)
    )
  go_ret2
  exact ⟨rfl, HB2.out⟩
set_option maxHeartbeats 4000000 in
set_option maxRecDepth 100000 in
theorem worked_fBA (kd v : List UInt8) (hk : (kd == [102]) = true) (h0 : (v == [101, 113, 122]) = false) (hl : v.length ≤ 6) (k : Int) (hp : plL FREL v 0 = -1) (hp2 : plL FUN v 0 = -1) (hp3 : plL FBIN v 0 = k) (n lv : Int) (a b : Nat) (r : Int) (r2 : Int) (HC : Ans 148 #[.int .i64 n, .int .i64 k, .int .u64 a, .int .u64 b] (.tuple #[.int .u64 r, .int .i64 r2])) :
    Ans 91 #[.string (str kd), .int .i64 n, .int .i64 lv, .string (str v), .int .u64 a, .int .u64 b] (.tuple #[.int .u64 r, .int .i64 r2]) := fun w => by
  have HCC := fun W => hid (HC W)
  have HP0 := fun W => hid (place_at v FREL (by decide) #[.string ⟨#[]⟩, .string ⟨#[101, 113]⟩, .string ⟨#[110, 101]⟩, .string ⟨#[108, 116]⟩, .string ⟨#[103, 116]⟩, .string ⟨#[108, 101]⟩, .string ⟨#[103, 101]⟩] rfl 7 rfl (-1) hp W)
  have HP1 := fun W => hid (place_at v FUN (by decide) #[.string ⟨#[]⟩, .string ⟨#[97, 98, 115]⟩, .string ⟨#[110, 101, 103]⟩, .string ⟨#[115, 113, 114, 116]⟩, .string ⟨#[99, 101, 105, 108]⟩, .string ⟨#[102, 108, 111, 111, 114]⟩, .string ⟨#[116, 114, 117, 110, 99]⟩, .string ⟨#[110, 101, 97, 114, 101, 115, 116]⟩] rfl 8 rfl (-1) hp2 W)
  have HP2 := fun W => hid (place_at v FBIN (by decide) #[.string ⟨#[]⟩, .string ⟨#[97, 100, 100]⟩, .string ⟨#[115, 117, 98]⟩, .string ⟨#[109, 117, 108]⟩, .string ⟨#[100, 105, 118]⟩, .string ⟨#[109, 105, 110]⟩, .string ⟨#[109, 97, 120]⟩, .string ⟨#[99, 111, 112, 121, 115, 105, 103, 110]⟩] rfl 8 rfl k hp3 W)
  have gm : decide ((0 : Int) < -1) = false := rfl
  have g8 : decide ((8 : Int) < ((str v).size : Int)) = false := by rw [str_size]; simp; omega
  have g7 : decide ((7 : Int) < ((str v).size : Int)) = false := by rw [str_size]; simp; omega
  have g6 : decide ((6 : Int) < ((str v).size : Int)) = false := by rw [str_size]; simp; omega
  have q9 : ((str kd).toList == [102]) = true := by rw [str_list]; exact hk
  have q0 : ((str v).toList == [101, 113, 122]) = false := by rw [str_list]; exact h0
  clear HC hk h0 hl 
  generalize str v = s at *
  generalize str kd = sk at *
  go_enter Tryz.func91, Tryz.ntmps91
  go_wp2_with (first
    | (go_at_call 145; (with_reducible refine (HP0 _).out.mono ?_); rintro e w0 ⟨rfl, rfl⟩; have HB0 := hid (((Below.refl _ w)).alloc (Nat.le_refl _) (.cells #[.string ⟨#[]⟩, .string ⟨#[101, 113]⟩, .string ⟨#[110, 101]⟩, .string ⟨#[108, 116]⟩, .string ⟨#[103, 116]⟩, .string ⟨#[108, 101]⟩, .string ⟨#[103, 101]⟩] 9)); generalize w.alloc (.cells #[.string ⟨#[]⟩, .string ⟨#[101, 113]⟩, .string ⟨#[110, 101]⟩, .string ⟨#[108, 116]⟩, .string ⟨#[103, 116]⟩, .string ⟨#[108, 101]⟩, .string ⟨#[103, 101]⟩] 9) = V0 at *)
    | (go_at_call 145; (with_reducible refine (HP1 _).out.mono ?_); rintro e w1 ⟨rfl, rfl⟩; have HB1 := hid (((HB0.out)).alloc (HB0.out.size) (.cells #[.string ⟨#[]⟩, .string ⟨#[97, 98, 115]⟩, .string ⟨#[110, 101, 103]⟩, .string ⟨#[115, 113, 114, 116]⟩, .string ⟨#[99, 101, 105, 108]⟩, .string ⟨#[102, 108, 111, 111, 114]⟩, .string ⟨#[116, 114, 117, 110, 99]⟩, .string ⟨#[110, 101, 97, 114, 101, 115, 116]⟩] 9)); generalize V0.alloc (.cells #[.string ⟨#[]⟩, .string ⟨#[97, 98, 115]⟩, .string ⟨#[110, 101, 103]⟩, .string ⟨#[115, 113, 114, 116]⟩, .string ⟨#[99, 101, 105, 108]⟩, .string ⟨#[102, 108, 111, 111, 114]⟩, .string ⟨#[116, 114, 117, 110, 99]⟩, .string ⟨#[110, 101, 97, 114, 101, 115, 116]⟩] 9) = V1 at *)
    | (go_at_call 145; (with_reducible refine (HP2 _).out.mono ?_); rintro e w2 ⟨rfl, rfl⟩; have HB2 := hid (((HB1.out)).alloc (HB1.out.size) (.cells #[.string ⟨#[]⟩, .string ⟨#[97, 100, 100]⟩, .string ⟨#[115, 117, 98]⟩, .string ⟨#[109, 117, 108]⟩, .string ⟨#[100, 105, 118]⟩, .string ⟨#[109, 105, 110]⟩, .string ⟨#[109, 97, 120]⟩, .string ⟨#[99, 111, 112, 121, 115, 105, 103, 110]⟩] 9)); generalize V1.alloc (.cells #[.string ⟨#[]⟩, .string ⟨#[97, 100, 100]⟩, .string ⟨#[115, 117, 98]⟩, .string ⟨#[109, 117, 108]⟩, .string ⟨#[100, 105, 118]⟩, .string ⟨#[109, 105, 110]⟩, .string ⟨#[109, 97, 120]⟩, .string ⟨#[99, 111, 112, 121, 115, 105, 103, 110]⟩] 9) = V2 at *)
    | (go_at_call 148; (with_reducible refine (HCC _).out.mono ?_); rintro e w3 ⟨rfl, hb⟩; have HB3 := hid (HB2.out.trans (hb.mono HB2.out.size)); clear hb)
    )
  go_ret2
  exact ⟨rfl, HB3.out⟩
set_option maxHeartbeats 4000000 in
set_option maxRecDepth 100000 in
theorem worked_fBC (kd v : List UInt8) (hk : (kd == [102]) = true) (h0 : (v == [101, 113, 122]) = false) (hl : v.length = 8) (pt : (v.take 5 == [116, 114, 117, 110, 99]) = false) (pc : (v.take 7 == [99, 111, 110, 118, 101, 114, 116]) = false) (pw : (v.take 4 == [119, 114, 97, 112]) = false) (pd : (v.take 6 == [100, 101, 109, 111, 116, 101]) = false) (pp : (v.take 6 == [112, 114, 111, 109, 111, 116]) = false) (pr : (v.take 6 == [114, 101, 105, 110, 116, 101]) = false) (k : Int) (hp : plL FREL v 0 = -1) (hp2 : plL FUN v 0 = -1) (hp3 : plL FBIN v 0 = k) (n lv : Int) (a b : Nat) (r : Int) (r2 : Int) (HC : Ans 148 #[.int .i64 n, .int .i64 k, .int .u64 a, .int .u64 b] (.tuple #[.int .u64 r, .int .i64 r2])) :
    Ans 91 #[.string (str kd), .int .i64 n, .int .i64 lv, .string (str v), .int .u64 a, .int .u64 b] (.tuple #[.int .u64 r, .int .i64 r2]) := fun w => by
  have HCC := fun W => hid (HC W)
  have HP0 := fun W => hid (place_at v FREL (by decide) #[.string ⟨#[]⟩, .string ⟨#[101, 113]⟩, .string ⟨#[110, 101]⟩, .string ⟨#[108, 116]⟩, .string ⟨#[103, 116]⟩, .string ⟨#[108, 101]⟩, .string ⟨#[103, 101]⟩] rfl 7 rfl (-1) hp W)
  have HP1 := fun W => hid (place_at v FUN (by decide) #[.string ⟨#[]⟩, .string ⟨#[97, 98, 115]⟩, .string ⟨#[110, 101, 103]⟩, .string ⟨#[115, 113, 114, 116]⟩, .string ⟨#[99, 101, 105, 108]⟩, .string ⟨#[102, 108, 111, 111, 114]⟩, .string ⟨#[116, 114, 117, 110, 99]⟩, .string ⟨#[110, 101, 97, 114, 101, 115, 116]⟩] rfl 8 rfl (-1) hp2 W)
  have HP2 := fun W => hid (place_at v FBIN (by decide) #[.string ⟨#[]⟩, .string ⟨#[97, 100, 100]⟩, .string ⟨#[115, 117, 98]⟩, .string ⟨#[109, 117, 108]⟩, .string ⟨#[100, 105, 118]⟩, .string ⟨#[109, 105, 110]⟩, .string ⟨#[109, 97, 120]⟩, .string ⟨#[99, 111, 112, 121, 115, 105, 103, 110]⟩] rfl 8 rfl k hp3 W)
  have gm : decide ((0 : Int) < -1) = false := rfl
  have ut := pre_of v 5 _ _ pt
  have uc := pre_of v 7 _ _ pc
  have uw := pre_of v 4 _ _ pw
  have ud := pre_of v 6 _ _ pd
  have up := pre_of v 6 _ _ pp
  have ur := pre_of v 6 _ _ pr
  have g8 : decide ((8 : Int) < ((str v).size : Int)) = false := by rw [str_size]; simp; omega
  have g7 : decide ((7 : Int) < ((str v).size : Int)) = true := by rw [str_size]; simp; omega
  have s7 : 7 ≤ (str v).size := by rw [str_size]; omega
  have g6 : decide ((6 : Int) < ((str v).size : Int)) = true := by rw [str_size]; simp; omega
  have s6 : 6 ≤ (str v).size := by rw [str_size]; omega
  have s4 : 4 ≤ (str v).size := by rw [str_size]; omega
  have s5 : 5 ≤ (str v).size := by rw [str_size]; omega
  have sm : (str v).size ≤ 1000 := by rw [str_size]; omega
  have q9 : ((str kd).toList == [102]) = true := by rw [str_list]; exact hk
  have q0 : ((str v).toList == [101, 113, 122]) = false := by rw [str_list]; exact h0
  clear HC hk h0 pt pc pw pd pp pr hl 
  generalize str v = s at *
  generalize str kd = sk at *
  go_enter Tryz.func91, Tryz.ntmps91
  go_wp2_with (first
    | (go_at_call 145; (with_reducible refine (HP0 _).out.mono ?_); rintro e w0 ⟨rfl, rfl⟩; have HB0 := hid (((Below.refl _ w)).alloc (Nat.le_refl _) (.cells #[.string ⟨#[]⟩, .string ⟨#[101, 113]⟩, .string ⟨#[110, 101]⟩, .string ⟨#[108, 116]⟩, .string ⟨#[103, 116]⟩, .string ⟨#[108, 101]⟩, .string ⟨#[103, 101]⟩] 9)); generalize w.alloc (.cells #[.string ⟨#[]⟩, .string ⟨#[101, 113]⟩, .string ⟨#[110, 101]⟩, .string ⟨#[108, 116]⟩, .string ⟨#[103, 116]⟩, .string ⟨#[108, 101]⟩, .string ⟨#[103, 101]⟩] 9) = V0 at *)
    | (go_at_call 145; (with_reducible refine (HP1 _).out.mono ?_); rintro e w1 ⟨rfl, rfl⟩; have HB1 := hid (((HB0.out)).alloc (HB0.out.size) (.cells #[.string ⟨#[]⟩, .string ⟨#[97, 98, 115]⟩, .string ⟨#[110, 101, 103]⟩, .string ⟨#[115, 113, 114, 116]⟩, .string ⟨#[99, 101, 105, 108]⟩, .string ⟨#[102, 108, 111, 111, 114]⟩, .string ⟨#[116, 114, 117, 110, 99]⟩, .string ⟨#[110, 101, 97, 114, 101, 115, 116]⟩] 9)); generalize V0.alloc (.cells #[.string ⟨#[]⟩, .string ⟨#[97, 98, 115]⟩, .string ⟨#[110, 101, 103]⟩, .string ⟨#[115, 113, 114, 116]⟩, .string ⟨#[99, 101, 105, 108]⟩, .string ⟨#[102, 108, 111, 111, 114]⟩, .string ⟨#[116, 114, 117, 110, 99]⟩, .string ⟨#[110, 101, 97, 114, 101, 115, 116]⟩] 9) = V1 at *)
    | (go_at_call 145; (with_reducible refine (HP2 _).out.mono ?_); rintro e w2 ⟨rfl, rfl⟩; have HB2 := hid (((HB1.out)).alloc (HB1.out.size) (.cells #[.string ⟨#[]⟩, .string ⟨#[97, 100, 100]⟩, .string ⟨#[115, 117, 98]⟩, .string ⟨#[109, 117, 108]⟩, .string ⟨#[100, 105, 118]⟩, .string ⟨#[109, 105, 110]⟩, .string ⟨#[109, 97, 120]⟩, .string ⟨#[99, 111, 112, 121, 115, 105, 103, 110]⟩] 9)); generalize V1.alloc (.cells #[.string ⟨#[]⟩, .string ⟨#[97, 100, 100]⟩, .string ⟨#[115, 117, 98]⟩, .string ⟨#[109, 117, 108]⟩, .string ⟨#[100, 105, 118]⟩, .string ⟨#[109, 105, 110]⟩, .string ⟨#[109, 97, 120]⟩, .string ⟨#[99, 111, 112, 121, 115, 105, 103, 110]⟩] 9) = V2 at *)
    | (go_at_call 148; (with_reducible refine (HCC _).out.mono ?_); rintro e w3 ⟨rfl, hb⟩; have HB3 := hid (HB2.out.trans (hb.mono HB2.out.size)); clear hb)
    )
  go_ret2
  exact ⟨rfl, HB3.out⟩
theorem worked_ez (kd : List UInt8) (n lv : Int) (a b : Nat) : Ans 91 #[.string (str kd), .int .i64 n, .int .i64 lv, .string (str [101, 113, 122]), .int .u64 a, .int .u64 b] (.tuple #[.int .u64 ((if a = 0 then 1 else 0 : Nat) : Int), .int .i64 0]) := fun w => by
  have HO1 := fun W => hid (one_says (decide (a = 0)) W)
  have q0 : ((str [101, 113, 122]).toList == [101, 113, 122]) = true := by rw [str_list]; rfl
  have qa : ((a : Int) == 0) = decide (a = 0) := by rw [Bool.eq_iff_iff]; simp
  have e1 : (if decide (a = 0) then 1 else 0 : Nat) = (if a = 0 then 1 else 0 : Nat) := by simp
  rw [e1] at HO1
  generalize (if a = 0 then 1 else 0 : Nat) = z at *
  generalize decide (a = 0) = da at *
  clear e1
  generalize str [101, 113, 122] = s at *
  generalize str kd = sk at *
  go_enter Tryz.func91, Tryz.ntmps91
  go_wp2_with (go_at_call 142; (with_reducible refine (HO1 _).out.mono ?_); rintro e w1 ⟨rfl, hb⟩; have HB1 := hid hb; clear hb)
  go_ret2
  exact ⟨rfl, HB1.out⟩
set_option maxHeartbeats 4000000 in
set_option maxRecDepth 100000 in
theorem turned_sat (v : List UInt8) (hl : v.length = 15) (p4 : (v.take 4 == [116, 114, 117, 110]) = true) (p9 : (v.take 9 == [116, 114, 117, 110, 99, 95, 115, 97, 116]) = true) (sg : Bool) (ps : (v.drop 13 == [95, 115]) = sg) (n m : Int) (a : Nat) (r r2 : Int)
    (HC : Ans 211 #[.int .i64 n, .int .i64 m, .bool sg, .bool true, .int .u64 a] (.tuple #[.int .u64 r, .int .i64 r2])) : Ans 144 #[.string (str v), .int .i64 n, .int .i64 m, .int .u64 a] (.tuple #[.int .u64 r, .int .i64 r2]) := fun w => by
  have HCC := fun W => hid (HC W)
  have u4 := pre_of v 4 _ _ p4
  have u9 := pre_of v 9 _ _ p9
  have us : (((str v).extract 13 15).toList == [95, 115]) = sg := by rw [ext_list v 13 15 (by omega), List.take_of_length_le (by rw [List.length_drop]; omega)]; exact ps
  have hz : (str v).size = 15 := by rw [str_size]; exact hl
  clear hl p4 p9 ps HC
  generalize str v = s at *
  go_enter Tryz.func144, Tryz.ntmps144
  go_wp2_with (go_at_call 211; (with_reducible refine (HCC _).out.mono ?_); rintro e w1 ⟨rfl, hb⟩; have HB1 := hid hb; clear hb)
  go_ret2
  exact ⟨rfl, HB1.out⟩
set_option maxHeartbeats 4000000 in
set_option maxRecDepth 100000 in
theorem worked_sat (kd v : List UInt8) (h0 : (v == [101, 113, 122]) = false) (hl : v.length = 15) (px : (v.take 8 == [101, 120, 116, 101, 110, 100, 95, 105]) = false) (pt : (v.take 5 == [116, 114, 117, 110, 99]) = true) (n lv : Int) (a b : Nat) (r r2 : Int)
    (HC : Ans 144 #[.string (str v), .int .i64 n, .int .i64 (bitsT lv : Nat), .int .u64 a] (.tuple #[.int .u64 r, .int .i64 r2])) : Ans 91 #[.string (str kd), .int .i64 n, .int .i64 lv, .string (str v), .int .u64 a, .int .u64 b] (.tuple #[.int .u64 r, .int .i64 r2]) := fun w => by
  have HCC := fun W => hid (HC W)
  have HBT := fun W => hid (Bits_says lv W)
  have ux := pre_of v 8 _ _ px
  have ut := pre_of v 5 _ _ pt
  have q0 : ((str v).toList == [101, 113, 122]) = false := by rw [str_list]; exact h0
  have hz : (str v).size = 15 := by rw [str_size]; exact hl
  clear hl px pt HC h0
  generalize str v = s at *
  generalize str kd = sk at *
  go_enter Tryz.func91, Tryz.ntmps91
  go_wp2_with (first
    | (go_at_call 92; (with_reducible refine (HBT _).out.mono ?_); rintro e w0 ⟨rfl, rfl⟩)
    | (go_at_call 144; (with_reducible refine (HCC _).out.mono ?_); rintro e w1 ⟨rfl, hb⟩; have HB1 := hid hb; clear hb))
  go_ret2
  exact ⟨rfl, HB1.out⟩
end Go.Proofs.YtlhakbkdlgejpaaGreatDoor.Sc
