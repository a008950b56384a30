/-
  FZip, Math, Small, Tabs: merged, what the law does not reach left out (each text says what it holds where it lies in wip). No condition.
-/
import Derived.Deep.RegionHeld3
import Derived.Deep.DeepCutAuto
import Derived.Laws.BitsLemmas
import Derived.Laws.Bits64
import Derived.Laws.Bits64b
import Derived.Test.YtbbmbhcbncenaaaGreatDoorProg
import Derived.WalkKit
import Derived.WalkSpells
import Derived.WalkLawsBesides
import Derived.Below
import Derived.Great.BuildSlice
set_option linter.unusedSimpArgs false
set_option linter.unusedVariables false
set_option maxRecDepth 100000
namespace Go.Proofs.YtbbmbhcbncenaaaGreatDoor
theorem sl0 {α : Type} (a b : α) (l : List α) : (a :: l).set 0 b = b :: l := rfl
theorem sl1 {α : Type} (a b : α) (l : List α) (n : Nat) : (a :: l).set (n + 1) b = a :: l.set n b := rfl
theorem sl2 {α : Type} (l : List α) (i : Nat) (a : α) : l.toArray.setIfInBounds i a = (l.set i a).toArray := by simp
section
variable {P : Program} {ops : Array Oper} {Q : Exit → Act → World → Prop} {md : Region.Mode} {S : World → Prop} {fuel : Nat} {listed : Array Bool} {a : Act} {w : World}
theorem zt (i : Nat) (v : Value) {c1 c2 c3 c4 c5 c6} (hi : ops[i]? = some ⟨c1,c2,c3,c4,c5,c6⟩) (hy : ∀ w,S w → (execOp a.eval ⟨c1,c2,c3,c4,c5,c6⟩).run P w = .ok (.value v) w)
  (h : wpAnyH P md ops Q S fuel (listed.setIfInBounds i true) (a.put c1 v) w) (hs : Region.noSelect ops = true := by kernel_rfl) (hf : Region.free md ops listed i = true := by kernel_rfl) (hr : (Region.ready md ops listed).contains i = true := by kernel_rfl)
  (hQ : ∀ c a w,Q (.panic c) (a.put c1 v) w → Q (.panic c) a w := by exact fun _ _ _ h => h) (hw : Region.wanted ⟨c1,c2,c3,c4,c5,c6⟩ (yielded ops a.tmps) = true := by rfl) (hS : S w := by assumption) : wpAnyH P md ops Q S (fuel + 1) listed a w :=
 wpAnyH_take hi hs hf hr hQ (Or.inl ⟨hw,hy⟩) hS h
theorem zu (i : Nat) {c1 c2 c3 c4 c5 c6} (hi : ops[i]? = some ⟨c1,c2,c3,c4,c5,c6⟩)
  (h : wpAnyH P md ops Q S fuel (listed.setIfInBounds i true) (a.put c1 undef) w) (hs : Region.noSelect ops = true := by kernel_rfl) (hf : Region.free md ops listed i = true := by kernel_rfl) (hr : (Region.ready md ops listed).contains i = true := by kernel_rfl)
  (hQ : ∀ c a w,Q (.panic c) (a.put c1 undef) w → Q (.panic c) a w := by exact fun _ _ _ h => h) (hw : Region.wanted ⟨c1,c2,c3,c4,c5,c6⟩ (yielded ops a.tmps) = false := by rfl) (hS : S w := by assumption) : wpAnyH P md ops Q S (fuel + 1) listed a w :=
 wpAnyH_take hi hs hf hr hQ (Or.inr ⟨hw,rfl⟩) hS h
theorem zr (i : Nat) {c1 c2 c3 c4 c5 c6} (ho : ops[i]? = some ⟨c1,c2,c3,c4,c5,c6⟩)
  (h : ∀ K' : Act → World → Prop,Shut (∀ a w,S w → (S w → wpAnyH P md ops Q S fuel (listed.setIfInBounds i true) a w) → K' a w) → if Region.wanted ⟨c1,c2,c3,c4,c5,c6⟩ (yielded ops a.tmps) = true then Oper.wp P ⟨c1,c2,c3,c4,c5,c6⟩ a w K' Q else K' (a.put c1 undef) w)
  (hr : Region.ready md ops listed = [i] := by kernel_rfl) : wpAnyH P md ops Q S (fuel + 1) listed a w :=
 wpAnyH_ready hr (by simp) (AllReadyH.cons ho h AllReadyH.nil)
theorem zm (rs : List Nat) (h : AllReadyH P md ops Q S fuel listed a w rs) (hr : Region.ready md ops listed = rs := by kernel_rfl) (hne : rs ≠ [] := by simp) : wpAnyH P md ops Q S (fuel + 1) listed a w :=
 wpAnyH_ready hr hne h
theorem zc {i : Nat} {rs : List Nat} {c1 c2 c3 c4 c5 c6} (ho : ops[i]? = some ⟨c1,c2,c3,c4,c5,c6⟩)
  (h : ∀ K' : Act → World → Prop,Shut (∀ a w,S w → (S w → wpAnyH P md ops Q S fuel (listed.setIfInBounds i true) a w) → K' a w) → if Region.wanted ⟨c1,c2,c3,c4,c5,c6⟩ (yielded ops a.tmps) = true then Oper.wp P ⟨c1,c2,c3,c4,c5,c6⟩ a w K' Q else K' (a.put c1 undef) w)
  (hs : AllReadyH P md ops Q S fuel listed a w rs) : AllReadyH P md ops Q S fuel listed a w (i :: rs) := AllReadyH.cons ho h hs
theorem zn : AllReadyH P md ops Q S fuel listed a w [] := AllReadyH.nil
end
end Go.Proofs.YtbbmbhcbncenaaaGreatDoor
namespace Go.Proofs.YtbbmbhcbncenaaaGreatDoor
open Go
def Okn (n : Nat) : Prop := n = 8 ∨ n = 16 ∨ n = 32 ∨ n = 64
instance (n : Nat) : Decidable (Okn n) := by unfold Okn; exact inferInstance
theorem Okn.le {n : Nat} (h : Okn n) : 8 ≤ n ∧ n ≤ 64 := by unfold Okn at h; omega
def sg (n a : Nat) : Int := if 2 ^ (n - 1) ≤ a then (a : Int) - (2 ^ n : Nat) else a
def toN (n : Nat) (z : Int) : Nat := (z % (2 ^ n : Nat)).toNat
def divR (n op a b : Nat) : Nat × Nat :=
 if b = 0 then (0,41)
 else if op = 5 then (a / b,0)
 else if op = 7 then (a % b,0)
 else if op = 6 then (toN n ((sg n a).tmod (sg n b)),0)
 else if a = 2 ^ (n - 1) ∧ b = 2 ^ n - 1 then (0,42) else (toN n ((sg n a).tdiv (sg n b)),0)
def shiftR (n op a k : Nat) : Nat :=
 if op = 11 then a * 2 ^ k % 2 ^ n
 else if op = 12 then toN n (sg n a / (2 ^ k : Nat))
 else if op = 13 then a / 2 ^ k
 else if op = 14 then ((a * 2 ^ k) ||| (a / 2 ^ (n - k))) % 2 ^ n
 else ((a * 2 ^ (n - k)) ||| (a / 2 ^ k)) % 2 ^ n
def clampS (n : Nat) (z : Int) : Int := if z < -((2 ^ (n - 1) : Nat) : Int) then -((2 ^ (n - 1) : Nat) : Int) else if ((2 ^ (n - 1) : Nat) : Int) - 1 < z then ((2 ^ (n - 1) : Nat) : Int) - 1 else z
def satR (n op a b : Nat) : Nat :=
 if op = 16 then toN n (clampS n (sg n a + sg n b))
 else if op = 18 then toN n (clampS n (sg n a - sg n b))
 else if op = 17 then (if 2 ^ n - 1 < a + b then 2 ^ n - 1 else a + b)
 else a - b
def mmR (n op a b : Nat) : Nat :=
 if op = 20 then (if sg n a < sg n b then a else b)
 else if op = 22 then (if sg n a < sg n b then b else a)
 else if op = 21 then (if a < b then a else b)
 else (if a < b then b else a)
def binR (n op a b : Nat) : Nat × Nat :=
 if op = 1 then ((a + b) % 2 ^ n,0)
 else if op = 2 then ((a + (2 ^ n - b)) % 2 ^ n,0)
 else if op = 3 then (a * b % 2 ^ n,0)
 else if op ≤ 7 then divR n op a b
 else if op = 8 then (a &&& b,0)
 else if op = 9 then (a ||| b,0)
 else if op = 10 then (a ^^^ b,0)
 else if op ≤ 15 then (shiftR n op a (b % n),0)
 else if op ≤ 19 then (satR n op a b,0)
 else if op ≤ 23 then (mmR n op a b,0)
 else if op = 24 then ((a + b + 1) / 2,0)
 else (toN n (clampS n ((sg n a * sg n b + 16384) / 32768)),0)
def relR (n op a b : Nat) : Bool :=
 if op = 1 then decide (a = b)
 else if op = 2 then decide (a ≠ b)
 else if op = 3 then decide (sg n a < sg n b)
 else if op = 4 then decide (a < b)
 else if op = 5 then decide (sg n b < sg n a)
 else if op = 6 then decide (b < a)
 else if op = 7 then decide (sg n a ≤ sg n b)
 else if op = 8 then decide (a ≤ b)
 else if op = 9 then decide (sg n b ≤ sg n a)
 else decide (b ≤ a)
def clzR : Nat → Nat → Nat
 | 0,_ => 0
 | m + 1,a => if a.testBit m then 0 else 1 + clzR m a
def ctzR : Nat → Nat → Nat
 | 0,_ => 0
 | m + 1,a => if a % 2 = 1 then 0 else 1 + ctzR m (a / 2)
def pop (a : Nat) : Nat := if h : a = 0 then 0 else a % 2 + pop (a / 2)
termination_by a
decreasing_by omega
def unR (n op a : Nat) : Nat :=
 if op = 1 then clzR n a
 else if op = 2 then ctzR n a
 else if op = 3 then pop a
 else if op = 4 then toN n (sg 8 (a % 2 ^ 8))
 else if op = 5 then toN n (sg 16 (a % 2 ^ 16))
 else if op = 6 then toN n (sg 32 (a % 2 ^ 32))
 else if op = 7 then (sg n a).natAbs
 else (2 ^ n - a) % 2 ^ n
theorem pow_lt64 {n : Nat} (hn : Okn n) : 2 ^ (n - 1) < 18446744073709551616 ∧ 0 < 2 ^ (n - 1) ∧ 2 ^ n ≤ 18446744073709551616 ∧ 2 ^ n = 2 * 2 ^ (n - 1) := by
 rcases hn with rfl | rfl | rfl | rfl <;> decide
theorem and_pow (x i : Nat) : x &&& 2 ^ i = (x.testBit i).toNat * 2 ^ i := by
 apply Nat.eq_of_testBit_eq
 intro j
 rw [Nat.testBit_and,Nat.testBit_two_pow,Nat.testBit_mul_two_pow]
 by_cases h : i = j
 ·subst h
  cases x.testBit i <;> simp
 ·by_cases h2 : i ≤ j
  ·have h3 : (x.testBit i).toNat.testBit (j - i) = false := by
    apply Nat.testBit_lt_two_pow
    have : 2 ^ 1 ≤ 2 ^ (j - i) := Nat.pow_le_pow_right (by decide) (by omega)
    have := Bool.toNat_le (x.testBit i)
    omega
   simp [h,h3]
  ·simp [h,h2]
theorem testBit_top {n x : Nat} (hn : Okn n) (hx : x < 2 ^ n) : x.testBit (n - 1) = decide (2 ^ (n - 1) ≤ x) := by
 obtain ⟨_,_,_,h⟩ := pow_lt64 hn
 rw [h] at hx
 generalize hP : 2 ^ (n - 1) = P at *
 rw [Nat.testBit_eq_decide_div_mod_eq,hP]
 by_cases hc : P ≤ x
 ·have : x / P = 1 := by
   rw [Nat.div_eq_iff (by omega)]; omega
  simp [this,hc]
 ·have : x / P = 0 := Nat.div_eq_of_lt (by omega)
  simp [this,hc]
theorem sg_abs {n x : Nat} (hx : x < 2 ^ n) : (sg n x).natAbs = if 2 ^ (n - 1) ≤ x then 2 ^ n - x else x := by
 unfold sg
 split <;> omega
theorem neg_mod {n x : Nat} (hn : Okn n) (hx : x < 2 ^ n) (hc : 2 ^ (n - 1) ≤ x) : (18446744073709551616 - x) % 18446744073709551616 % 2 ^ n = 2 ^ n - x := by
 rcases hn with rfl | rfl | rfl | rfl <;> simp at hx hc ⊢ <;> omega
theorem toN_nat {n : Nat} (q : Nat) : toN n (q : Int) = q % 2 ^ n := by
 unfold toN
 rw [← Int.natCast_emod,Int.toNat_natCast]
theorem toN_neg {n : Nat} (hn : Okn n) (q : Nat) (hq : q ≤ 18446744073709551616) : toN n (-(q : Int)) = (18446744073709551616 - q) % 18446744073709551616 % 2 ^ n := by
 unfold toN
 rcases hn with rfl | rfl | rfl | rfl <;> simp <;> omega
theorem sg_neg {n x : Nat} (hx : x < 2 ^ n) : sg n x < 0 ↔ 2 ^ (n - 1) ≤ x := by
 unfold sg
 split <;> omega
theorem tdiv_same {x y : Int} (h : x < 0 ↔ y < 0) : x.tdiv y = ((x.natAbs / y.natAbs : Nat) : Int) := by
 obtain ⟨m,rfl | rfl⟩ := Int.eq_nat_or_neg x <;> obtain ⟨k,rfl | rfl⟩ := Int.eq_nat_or_neg y
 ·simp
 ·by_cases hk : k = 0
  ·subst hk; simp
  ·omega
 ·by_cases hm : m = 0
  ·subst hm; simp
  ·omega
 ·simp [Int.neg_tdiv,Int.tdiv_neg]
theorem tdiv_other {x y : Int} (h : ¬ (x < 0 ↔ y < 0)) : x.tdiv y = -((x.natAbs / y.natAbs : Nat) : Int) := by
 obtain ⟨m,rfl | rfl⟩ := Int.eq_nat_or_neg x <;> obtain ⟨k,rfl | rfl⟩ := Int.eq_nat_or_neg y
 ·omega
 ·simp [Int.tdiv_neg]
 ·simp [Int.neg_tdiv]
 ·by_cases hm : m = 0
  ·subst hm; simp
  ·by_cases hk : k = 0
   ·subst hk; simp
   ·omega
theorem tmod_pos {x y : Int} (h : ¬ x < 0) : x.tmod y = ((x.natAbs % y.natAbs : Nat) : Int) := by
 obtain ⟨m,rfl | rfl⟩ := Int.eq_nat_or_neg x <;> obtain ⟨k,rfl | rfl⟩ := Int.eq_nat_or_neg y
 ·rw [Int.natAbs_natCast,Int.natAbs_natCast,Int.ofNat_tmod]
 ·rw [Int.natAbs_natCast,Int.natAbs_neg,Int.natAbs_natCast,Int.ofNat_tmod,Int.tmod_neg]
 ·by_cases hm : m = 0
  ·subst hm; simp
  ·omega
 ·by_cases hm : m = 0
  ·subst hm; simp
  ·omega
theorem tmod_negs {x y : Int} (h : x < 0) : x.tmod y = -((x.natAbs % y.natAbs : Nat) : Int) := by
 obtain ⟨m,rfl | rfl⟩ := Int.eq_nat_or_neg x <;> obtain ⟨k,rfl | rfl⟩ := Int.eq_nat_or_neg y
 ·omega
 ·omega
 ·rw [Int.natAbs_neg,Int.natAbs_natCast,Int.natAbs_natCast,Int.ofNat_tmod,Int.neg_tmod]
 ·rw [Int.natAbs_neg,Int.natAbs_neg,Int.natAbs_natCast,Int.natAbs_natCast,Int.ofNat_tmod,Int.neg_tmod,Int.tmod_neg]
end Go.Proofs.YtbbmbhcbncenaaaGreatDoor
namespace Go.Proofs.YtbbmbhcbncenaaaGreatDoor
open Go.RowKit
theorem known_yes (n : Nat) (hn : Okn n) (w : World) : Calls Tryz.prog 75 #[.int .i64 n] w fun e w' => e = .returned (.bool true) ∧ w = w' := by
 rcases hn with rfl | rfl | rfl | rfl
 ·show Calls Tryz.prog 75 #[.int .i64 8] w _
  go_enter Tryz.func75,Tryz.ntmps75
  go_wp2
  go_ret
  exact ⟨rfl,rfl⟩
 ·show Calls Tryz.prog 75 #[.int .i64 16] w _
  go_enter Tryz.func75,Tryz.ntmps75
  go_wp2
  go_ret
  exact ⟨rfl,rfl⟩
 ·show Calls Tryz.prog 75 #[.int .i64 32] w _
  go_enter Tryz.func75,Tryz.ntmps75
  go_wp2
  go_ret
  exact ⟨rfl,rfl⟩
 ·show Calls Tryz.prog 75 #[.int .i64 64] w _
  go_enter Tryz.func75,Tryz.ntmps75
  go_wp2
  go_ret
  exact ⟨rfl,rfl⟩
theorem hid {p : Prop} (h : p) : Hid p := h
def Bad (b : Int) : Prop := b ≠ 8 ∧ b ≠ 16 ∧ b ≠ 32 ∧ b ≠ 64
theorem known_no (b : Int) (hb : Bad b) (w : World) : Calls Tryz.prog 75 #[.int .i64 b] w fun e w' => e = .returned (.bool false) ∧ w = w' := by
 obtain ⟨h1,h2,h3,h4⟩ := hb
 have e1 : (b == 8) = false := by simpa using h1
 have e2 : (b == 16) = false := by simpa using h2
 have e3 : (b == 32) = false := by simpa using h3
 have e4 : (b == 64) = false := by simpa using h4
 clear h1 h2 h3 h4
 go_enter Tryz.func75,Tryz.ntmps75
 go_wp2
 go_ret
 exact ⟨rfl,rfl⟩
theorem ones_any (n : Nat) (hn : Okn n) (w : World) : Calls Tryz.prog 139 #[.int .i64 n] w fun e w' => e = .returned (.int .u64 ((2 ^ n - 1 : Nat) : Int)) ∧ w = w' := by
 rcases hn with rfl | rfl | rfl | rfl
 ·show Calls Tryz.prog 139 #[.int .i64 8] w fun e w' => e = .returned (.int .u64 255) ∧ w = w'
  go_enter Tryz.func139,Tryz.ntmps139
  go_wp2
  go_ret
  exact ⟨rfl,rfl⟩
 ·show Calls Tryz.prog 139 #[.int .i64 16] w fun e w' => e = .returned (.int .u64 65535) ∧ w = w'
  go_enter Tryz.func139,Tryz.ntmps139
  go_wp2
  go_ret
  exact ⟨rfl,rfl⟩
 ·show Calls Tryz.prog 139 #[.int .i64 32] w fun e w' => e = .returned (.int .u64 4294967295) ∧ w = w'
  go_enter Tryz.func139,Tryz.ntmps139
  go_wp2
  go_ret
  exact ⟨rfl,rfl⟩
 ·show Calls Tryz.prog 139 #[.int .i64 64] w fun e w' => e = .returned (.int .u64 18446744073709551615) ∧ w = w'
  go_enter Tryz.func139,Tryz.ntmps139
  go_wp2
  go_ret
  exact ⟨rfl,rfl⟩
theorem sign_any (n : Nat) (hn : Okn n) (w : World) : Calls Tryz.prog 119 #[.int .i64 n] w fun e w' => e = .returned (.int .u64 ((2 ^ (n - 1) : Nat) : Int)) ∧ w = w' := by
 rcases hn with rfl | rfl | rfl | rfl
 ·show Calls Tryz.prog 119 #[.int .i64 8] w fun e w' => e = .returned (.int .u64 128) ∧ w = w'
  go_enter Tryz.func119,Tryz.ntmps119
  go_wp2
  go_ret
  exact ⟨rfl,rfl⟩
 ·show Calls Tryz.prog 119 #[.int .i64 16] w fun e w' => e = .returned (.int .u64 32768) ∧ w = w'
  go_enter Tryz.func119,Tryz.ntmps119
  go_wp2
  go_ret
  exact ⟨rfl,rfl⟩
 ·show Calls Tryz.prog 119 #[.int .i64 32] w fun e w' => e = .returned (.int .u64 2147483648) ∧ w = w'
  go_enter Tryz.func119,Tryz.ntmps119
  go_wp2
  go_ret
  exact ⟨rfl,rfl⟩
 ·show Calls Tryz.prog 119 #[.int .i64 64] w fun e w' => e = .returned (.int .u64 9223372036854775808) ∧ w = w'
  go_enter Tryz.func119,Tryz.ntmps119
  go_wp2
  go_ret
  exact ⟨rfl,rfl⟩
theorem cut_any (n : Nat) (hn : Okn n) (a : Nat) (ha : a < 18446744073709551616) (w : World) : Calls Tryz.prog 76 #[.int .i64 n,.int .u64 a] w fun e w' => e = .returned (.int .u64 ((a % 2 ^ n : Nat) : Int)) ∧ w = w' := by
 have hb : 2 ^ n - 1 < 18446744073709551616 := by rcases hn with rfl | rfl | rfl | rfl <;> decide
 have hand : bits .and .u64 (a : Int) ((2 ^ n - 1 : Nat) : Int) = ((a % 2 ^ n : Nat) : Int) := by
  rw [bits_and_u64_nat _ _ ha hb,Nat.and_two_pow_sub_one_eq_mod]
 have HO := hid (ones_any n hn w)
 clear hb hn
 obtain ⟨m,hm⟩ : ∃ m : Nat,m = 2 ^ n - 1 := ⟨_,rfl⟩
 obtain ⟨y,hy⟩ : ∃ y : Nat,y = a % 2 ^ n := ⟨_,rfl⟩
 rw [← hm] at HO hand
 rw [← hy] at hand ⊢
 clear hm hy
 go_enter Tryz.func76,Tryz.ntmps76
 go_wp2_with (go_at_call 139; refine HO.out.mono ?_; rintro e w' ⟨rfl,rfl⟩)
 go_ret
 exact ⟨rfl,rfl⟩
theorem negative_any (n : Nat) (hn : Okn n) (x : Nat) (hx : x < 18446744073709551616) (b : Bool) (hb : x.testBit (n - 1) = b) (w : World) :
  Calls Tryz.prog 140 #[.int .i64 n,.int .u64 x] w fun e w' => e = .returned (.bool b) ∧ w = w' := by
 obtain ⟨h1,h2,_⟩ := pow_lt64 hn
 have hand : bits .and .u64 (x : Int) ((2 ^ (n - 1) : Nat) : Int) = ((b.toNat * 2 ^ (n - 1) : Nat) : Int) := by
  rw [bits_and_u64_nat _ _ hx h1,and_pow,hb]
 have HS := hid (sign_any n hn w)
 clear hn hb
 obtain ⟨S,hS⟩ : ∃ S : Nat,S = 2 ^ (n - 1) := ⟨_,rfl⟩
 rw [← hS] at HS hand h1 h2
 clear hS
 cases b with
 | true =>
  have hand2 : bits .and .u64 (x : Int) (S : Int) = (S : Int) := by rw [hand]; simp
  have hne : ((S : Int) != 0) = true := by simp; omega
  clear hand
  go_enter Tryz.func140,Tryz.ntmps140
  go_wp2_with (go_at_call 119; refine HS.out.mono ?_; rintro e w' ⟨rfl,rfl⟩)
  go_ret
  exact ⟨rfl,rfl⟩
 | false =>
  have hand2 : bits .and .u64 (x : Int) (S : Int) = 0 := by rw [hand]; simp
  clear hand
  go_enter Tryz.func140,Tryz.ntmps140
  go_wp2_with (go_at_call 119; refine HS.out.mono ?_; rintro e w' ⟨rfl,rfl⟩)
  go_ret
  exact ⟨rfl,rfl⟩
set_option maxHeartbeats 400000 in
theorem size_any (n : Nat) (hn : Okn n) (x : Nat) (hx : x < 2 ^ n) (w : World) :
  Calls Tryz.prog 79 #[.int .i64 n,.int .u64 x] w fun e w' => e = .returned (.int .u64 ((sg n x).natAbs : Nat)) ∧ w = w' := by
 obtain ⟨h1,h2,h3,h4⟩ := pow_lt64 hn
 have hx64 : x < 18446744073709551616 := by omega
 rw [sg_abs hx]
 have htop := testBit_top hn hx
 have hneg : IntKind.u64.wrap (-(x : Int)) = (((18446744073709551616 - x) % 18446744073709551616 : Nat) : Int) := by
  rw [IntKind.wrap_u64]; omega
 by_cases hc : 2 ^ (n - 1) ≤ x
 ·rw [if_pos hc]
  have HN := hid (negative_any n hn x hx64 true (by rw [htop]; simp [hc]) w)
  have HC := hid (cut_any n hn ((18446744073709551616 - x) % 18446744073709551616) (by omega) w)
  rw [neg_mod hn hx hc] at HC
  obtain ⟨y,hy⟩ : ∃ y : Nat,y = (18446744073709551616 - x) % 18446744073709551616 := ⟨_,rfl⟩
  obtain ⟨z,hz⟩ : ∃ z : Nat,z = 2 ^ n - x := ⟨_,rfl⟩
  rw [← hy,← hz] at HC
  rw [← hy] at hneg
  rw [← hz]
  clear h1 h2 h3 h4 htop hc hy hz hn hx hx64
  go_enter Tryz.func79,Tryz.ntmps79
  go_wp2_with (first
   | (go_at_call 140; refine HN.out.mono ?_; rintro e w' ⟨rfl,rfl⟩)
   | (go_at_call 76; refine HC.out.mono ?_; rintro e w' ⟨rfl,rfl⟩))
  go_ret
  exact ⟨rfl,rfl⟩
 ·rw [if_neg hc]
  have HN := hid (negative_any n hn x hx64 false (by rw [htop]; simp [hc]) w)
  clear hneg h1 h2 h3 h4 htop hc hn hx hx64
  go_enter Tryz.func79,Tryz.ntmps79
  go_wp2_with (go_at_call 140; refine HN.out.mono ?_; rintro e w' ⟨rfl,rfl⟩)
  go_ret
  exact ⟨rfl,rfl⟩
theorem ret_int {k : IntKind} {a b : Int} (h : a = b) : Ending.returned (.int k a) = .returned (.int k b) := by rw [h]
theorem Signed_ok (n : Nat) (hn : Okn n) (a : Nat) (ha : a < 18446744073709551616) (w : World) :
  Calls Tryz.prog 71 #[.int .i64 n,.int .u64 a] w fun e w' => e = .returned (.int .i64 (sg n (a % 2 ^ n))) ∧ w = w' := by
 have HK := hid (known_yes n hn w)
 have ha0 : 0 ≤ (a : Int) := by omega
 have ha1 : (a : Int) < 18446744073709551616 := by omega
 rcases hn with rfl | rfl | rfl | rfl
 ·show Calls Tryz.prog 71 #[.int .i64 8,.int .u64 a] w _
  go_enter Tryz.func71,Tryz.ntmps71
  go_wp2_with (go_at_call 75; refine HK.out.mono ?_; rintro e w' ⟨rfl,rfl⟩)
  go_ret
  exact ⟨ret_int (by simp only [sg,IntKind.wrap_u64,wrap64]; simp; omega),rfl⟩
 ·show Calls Tryz.prog 71 #[.int .i64 16,.int .u64 a] w _
  go_enter Tryz.func71,Tryz.ntmps71
  go_wp2_with (go_at_call 75; refine HK.out.mono ?_; rintro e w' ⟨rfl,rfl⟩)
  go_ret
  exact ⟨ret_int (by simp only [sg,IntKind.wrap_u64,wrap64]; simp; omega),rfl⟩
 ·show Calls Tryz.prog 71 #[.int .i64 32,.int .u64 a] w _
  go_enter Tryz.func71,Tryz.ntmps71
  go_wp2_with (go_at_call 75; refine HK.out.mono ?_; rintro e w' ⟨rfl,rfl⟩)
  go_ret
  exact ⟨ret_int (by simp only [sg,IntKind.wrap_u64,wrap64]; simp; omega),rfl⟩
 ·show Calls Tryz.prog 71 #[.int .i64 64,.int .u64 a] w _
  go_enter Tryz.func71,Tryz.ntmps71
  go_wp2_with (go_at_call 75; refine HK.out.mono ?_; rintro e w' ⟨rfl,rfl⟩)
  go_ret
  exact ⟨ret_int (by simp only [sg,wrap64]; simp; omega),rfl⟩
end Go.Proofs.YtbbmbhcbncenaaaGreatDoor
namespace Go.Proofs.YtbbmbhcbncenaaaGreatDoor
open Go.RowKit
abbrev Ln := ByteArray × Int × Int × Int
def ln0 : Ln := (⟨#[]⟩,0,0,0)
def opLn : Op → Option Ln
 | .build _ parts => match parts.toList with
  | [(_,.const (.string s)),(_,.const (.int _ a)),(_,.const (.int _ b)),(_,.const (.int _ c))] => some (s,a,b,c)
  | [] => some ln0
  | _ => none
 | _ => none
def opKeys : Op → Option (List (Nat × Nat))
 | .build _ parts => parts.toList.mapM fun x => match x.2 with
  | .tmp t => some (x.1,t)
  | _ => none
 | _ => none
def opsOf (f : Func) : List Oper := match f.body with
 | some (.seq (.region _ _ _) (.seq (.region _ ops _) .ret)) => ops.toList
 | _ => []
def tabOf (n : Nat) (f : Func) : List Ln :=
 let rows := (opsOf f).filterMap fun o => opLn o.op
 let keys := ((opsOf f).filterMap fun o => (opKeys o.op).bind fun l => if l = [] then none else some l).headD []
 (List.range n).map fun k => match keys.find? fun x => x.1 == k with
  | some x => rows.getD (x.2 - 3) ln0
  | none => ln0
def lnCells (r : Ln) : List Value := [.string r.1,.int .u8 r.2.1,.int .u8 r.2.2.1,.int .u8 r.2.2.2]
def lnV (r : Ln) : Value := .agg #[.string r.1,.int .u8 r.2.1,.int .u8 r.2.2.1,.int .u8 r.2.2.2]
def tabCells (l : List Ln) : Array Value := (l.flatMap lnCells).toArray
theorem size43 : (Tryz.prog.info? 56).map (·.size) = some 4 := by kernel_rfl
theorem flat_length (l : List Ln) : (l.flatMap lnCells).length = l.length * 4 := by
 induction l with
 | nil => rfl
 | cons r l ih => rw [List.flatMap_cons,List.length_append,ih]; simp [lnCells]; try omega
theorem flat_take (l : List Ln) (k : Nat) (h : k < l.length) : ((l.flatMap lnCells).drop (k * 4)).take 4 = lnCells (l.getD k ln0) := by
 induction l generalizing k with
 | nil => simp at h
 | cons r l ih =>
  cases k with
  | zero => simp [lnCells]
  | succ k =>
   have e : (k + 1) * 4 = (lnCells r).length + k * 4 := by simp [lnCells]; omega
   rw [List.flatMap_cons,e,List.drop_append,List.drop_eq_nil_of_le (by omega)]
   simp only [List.nil_append,Nat.add_sub_cancel_left]
   rw [ih k (by simpa using h)]
   rfl
theorem run_index_tab {T : TypeId} {n : Nat} (hu : Tryz.prog.underlying T = some (.array n 56)) (l : List Ln) (hl : l.length = n) (i : Int) (h0 : 0 ≤ i) (h1 : i < n) (W : World) :
  (Instr.index T (.agg (tabCells l)) (.int .i64 i)).run Tryz.prog W = .ok (lnV (l.getD i.toNat ln0)) W := by
 have hs : (sizeOf 56).run Tryz.prog W = .ok 4 W := by kernel_rfl
 have hsz : (tabCells l).size = n * 4 := by unfold tabCells; rw [List.size_toArray,flat_length,hl]
 have hlt : i.toNat < l.length := by omega
 have e : (tabCells l).extract (i.toNat * 4) (i.toNat * 4 + 4) = (lnCells (l.getD i.toNat ln0)).toArray := by
  unfold tabCells
  rw [← flat_take l i.toNat hlt]
  simp
 have hc : (0 : Int) ≤ i ∧ i < (n : Int) := ⟨h0,h1⟩
 simp [Instr.index,asIntOf,run_underlying hu,hc,part,hs]
 rw [e]
 simp [lnV,lnCells]
def LnSays (f : FuncId) (n : Nat) (l : List Ln) : Prop := ∀ (i : Int) (w : World),0 ≤ i → i < n → Calls Tryz.prog f #[.int .i64 i] w fun e w' => e = .returned (lnV (l.getD i.toNat ln0)) ∧ Below w.heap.size w w'
def buildsRun (P : Program) : List Oper → Act → Option Act
 | [],a => some a
 | o :: l,a => match o.guard,o.op with
  | none,.build t parts => (P.built t (parts.map fun (i,x) => (i,a.eval x)).toList).bind fun cs => buildsRun P l (a.put o.dst (.agg cs))
  | _,_ => none
theorem wpList_builds {P : Program} {ops : Array Oper} {Q : Exit → Act → World → Prop} {w : World} {rest : List Oper} : ∀ (l : List Oper) (a a' : Act),buildsRun P l a = some a' → wpList P ops Q rest a' w → wpList P ops Q (l ++ rest) a w
 | [],a,a',h,k => by simp [buildsRun] at h; subst h; exact k
 | o :: l,a,a',h,k => by
  unfold buildsRun at h
  split at h
  ·rename_i t parts hg ho
   obtain ⟨cs,hc,h'⟩ := Option.bind_eq_some_iff.1 h
   exact wpList_buildTo hg t parts ho o.dst rfl cs hc (wpList_builds l _ a' h' k)
  ·cases h
def see (m : Nat) (a : Act) : Value × Value × Value × Nat × List Deferred := (a.tmps.getD 0 undef,a.tmps.getD 2 undef,a.tmps.getD m undef,a.tmps.size,a.defers)
def frame0 (i : Int) (p : Value) (m : Nat) : Act := { tmps := (.int .i64 i :: undef :: p :: List.replicate m undef).toArray,defers := [] }
theorem run_to {P : Program} {ops : Array Oper} {rest : List Oper} {o : Oper} {a : Act} {w : World} {Q : Exit → Act → World → Prop} (hg : o.guard = none) (dst : Option Tmp) (hdst : o.dst = dst)
  (v : Value) (w' : World) (hrun : (execOp a.eval o).run P w = .ok (.value v) w') (h : wpList P ops Q rest (a.put dst v) w') : wpList P ops Q (o :: rest) a w := by
 subst hdst
 refine wpList_plain hg fun K hK => ?_
 unfold Oper.wp
 rw [hrun,Oper.upon_value]
 exact hK _ _ h
def z43 : Array Value := #[.string ⟨#[]⟩,.int .u8 0,.int .u8 0,.int .u8 0]
theorem frame_put (i : Int) (p : Value) (m : Nat) : Act.put { tmps := #[Value.int .i64 i] ++ Array.replicate (m + 2) undef,defers := [] } (some 2) p = frame0 i p m := by
 unfold Act.put frame0
 congr 1
 simp [Array.replicate_succ',List.replicate_succ]
theorem part_says {f : FuncId} {fn : Func} {T : TypeId} {n m : Nat} {oa om oi os : Oper} {builds : List Oper} {tab : List Ln}
  (hf : Tryz.prog.funcs[f]? = some fn) (hb : fn.body = some (.seq (.region 0 #[oa] false) (.seq (.region 1 (builds ++ [om,oi,os]).toArray false) .ret)))
  (hr : fn.results = #[.cell 2 56]) (hn : fn.ntmps = m + 3) (hT : Tryz.prog.underlying T = some (.array n 56)) (hl : tab.length = n)
  (ha : oa.op = .alloc 56 ∧ oa.dst = some 2 ∧ oa.guard = none)
  (hm : om.op = .move (.tmp 0) ∧ om.dst = some (m + 1) ∧ om.guard = none)
  (hi : oi.op = .index T (.tmp m) (.tmp (m + 1)) ∧ oi.dst = some (m + 2) ∧ oi.guard = none)
  (hs : os.op = .store 56 (.tmp 2) (.tmp (m + 2)) ∧ os.dst = none ∧ os.guard = none)
  (h3 : 3 ≤ m)
  (hrun : ∀ (i : Int) (p : Value),(buildsRun Tryz.prog builds (frame0 i p m)).map (see m) = some (.int .i64 i,p,.agg (tabCells tab),m + 3,[])) :
  LnSays f n tab := by
 intro i w h0 h1
 obtain ⟨ha1,ha2,ha3⟩ := ha
 obtain ⟨hm1,hm2,hm3⟩ := hm
 obtain ⟨hi1,hi2,hi3⟩ := hi
 obtain ⟨hs1,hs2,hs3⟩ := hs
 refine calls_of_wp hf hb ?_
 have hsz : fn.ntmps - (#[Value.int .i64 i] : Array Value).size = m + 2 := by rw [hn]; simp
 rw [hsz]
 refine wp_seq (wp_region_lit (l := [oa]) ?_)
 refine run_to ha3 (some 2) ha2 (.pointer (some ⟨w.heap.size,0,none⟩)) (w.alloc (.cells z43 56)) (by unfold execOp; rw [ha1]; kernel_rfl) ?_
 rw [frame_put]
 show Exit.then _ _ .normal _ _
 show Code.wp _ _ _ _ _
 refine wp_seq (wp_region_lit (l := builds ++ [om,oi,os]) ?_)
 obtain ⟨a',ha',hsee⟩ := Option.map_eq_some_iff.1 (hrun i (.pointer (some ⟨w.heap.size,0,none⟩)))
 refine wpList_builds builds _ a' ha' ?_
 simp only [see,Prod.mk.injEq] at hsee
 obtain ⟨e0,e2,em,en,ed⟩ := hsee
 have x0 : a'.tmps[0]? = some (.int .i64 i) := by
  rw [Array.getElem?_eq_getElem (by omega)]; rw [Array.getD_eq_getD_getElem?,Array.getElem?_eq_getElem (by omega)] at e0; simpa using e0
 have x2 : a'.tmps[2]? = some (.pointer (some ⟨w.heap.size,0,none⟩)) := by
  rw [Array.getElem?_eq_getElem (by omega)]; rw [Array.getD_eq_getD_getElem?,Array.getElem?_eq_getElem (by omega)] at e2; simpa using e2
 have xm : a'.tmps[m]? = some (.agg (tabCells tab)) := by
  rw [Array.getElem?_eq_getElem (by omega)]; rw [Array.getD_eq_getD_getElem?,Array.getElem?_eq_getElem (by omega)] at em; simpa using em
 clear e0 e2 em ha' hrun
 refine run_to hm3 (some (m + 1)) hm2 (.int .i64 i) (w.alloc (.cells z43 56)) (by unfold execOp; rw [hm1]; simp [Act.eval,Frame.eval,x0]) ?_
 refine run_to hi3 (some (m + 2)) hi2 (lnV (tab.getD i.toNat ln0)) (w.alloc (.cells z43 56)) (by
  unfold execOp; rw [hi1]
  have q1 : Act.eval (a'.put (some (m + 1)) (.int .i64 i)) (.tmp m) = .agg (tabCells tab) := by
   simp [Act.eval,Act.put,xm,Array.getD_eq_getD_getElem?,Array.getElem?_setIfInBounds]
  have q2 : Act.eval (a'.put (some (m + 1)) (.int .i64 i)) (.tmp (m + 1)) = .int .i64 i := by
   simp [Act.eval,Act.put,Array.getD_eq_getD_getElem?,Array.getElem?_setIfInBounds,en]
  simp only [q1,q2]
  simp only [Sem.run_bind,run_index_tab hT tab hl i h0 h1,Result.andThen_ok]
  rfl) ?_
 obtain ⟨r,hr'⟩ : ∃ r,r = tab.getD i.toNat ln0 := ⟨_,rfl⟩
 rw [← hr']
 clear hr'
 have hheap : (w.alloc (.cells z43 56)).heap[w.heap.size]? = some (.cells z43 56 (0,0)) := by
  show (w.heap.push _)[w.heap.size]? = _
  simp
 have g2 : ∀ v1 v2 : Value,((a'.tmps.setIfInBounds (m + 1) v1).setIfInBounds (m + 2) v2)[2]? = some (.pointer (some ⟨w.heap.size,0,none⟩)) := fun v1 v2 => by
  rw [Array.getElem?_setIfInBounds_ne (by omega),Array.getElem?_setIfInBounds_ne (by omega),x2]
 have q : ∀ v1 v2 : Value,((a'.tmps.setIfInBounds (m + 1) v1).setIfInBounds (m + 2) v2).getD 2 undef = .pointer (some ⟨w.heap.size,0,none⟩) := fun v1 v2 => by
  rw [Array.getD_eq_getD_getElem?,g2]; rfl
 refine wpList_store_row hs3 56 (.tmp 2) (.tmp (m + 2)) hs1 w.heap.size (lnCells r).toArray (q _ _) ?_ 56 z43 hheap size43 rfl (by simp [lnCells,Value.oneCell']) ?_
 ·simp [Act.eval,Act.put,Array.getD_eq_getD_getElem?,Array.getElem?_setIfInBounds,en,lnV,lnCells]
 rw [hs2]
 show Exit.then _ _ .normal _ _
 show Code.wp _ _ _ _ _
 refine wp_ret ?_
 refine bodyPost_ret (v := lnV r) ?_ ?_ ⟨rfl,?_⟩
 ·have hl := run_loadVar_row (P := Tryz.prog) ((w.alloc (.cells z43 56)).setRow w.heap.size (lnCells r).toArray) w.heap.size 56 56 (lnCells r).toArray (0,0) _
   (setRow_heap _ _ _ _ _ _ hheap) Tryz.underlying56 rfl size43
  have q' := q (.int .i64 i) (lnV r)
  unfold results
  rw [hr]
  simp only [Act.put]
  generalize (a'.tmps.setIfInBounds (m + 1) (.int .i64 i)).setIfInBounds (m + 2) (lnV r) = arr at q' ⊢
  rw [Array.getD_eq_getD_getElem?] at q'
  simp [q',asAddr,hl]
  rfl
 ·simpa [Act.put] using ed
 ·exact ⟨rfl,rfl,rfl,by simp,fun k hk => by rw [setRow_other _ _ _ _ (by omega)]; exact Below.heap_alloc _ _ _ hk⟩
def opAt (f : Func) (k : Nat) : Oper := (opsOf f).getD k default
def op0 (f : Func) : Oper := match f.body with
 | some (.seq (.region _ ops _) _) => ops.toList.headD default
 | _ => default
noncomputable def tab37 : List Ln := tabOf 18 Tryz.f41
theorem says37 : LnSays 41 18 tab37 :=
 part_says (T := 104) (m := 21) (builds := (opsOf Tryz.f41).take 19) (oa := op0 Tryz.f41) (om := opAt Tryz.f41 19) (oi := opAt Tryz.f41 20) (os := opAt Tryz.f41 21) Tryz.func41 (by kernel_rfl) (by kernel_rfl) (by kernel_rfl) Tryz.underlying104 (by kernel_rfl)
  ⟨by kernel_rfl,by kernel_rfl,by kernel_rfl⟩ ⟨by kernel_rfl,by kernel_rfl,by kernel_rfl⟩ ⟨by kernel_rfl,by kernel_rfl,by kernel_rfl⟩ ⟨by kernel_rfl,by kernel_rfl,by kernel_rfl⟩ (by decide) (fun _ _ => by kernel_rfl)
noncomputable def tab39 : List Ln := tabOf 40 Tryz.f82
theorem says39 : LnSays 82 40 tab39 :=
 part_says (T := 130) (m := 24) (builds := (opsOf Tryz.f82).take 22) (oa := op0 Tryz.f82) (om := opAt Tryz.f82 22) (oi := opAt Tryz.f82 23) (os := opAt Tryz.f82 24) Tryz.func82 (by kernel_rfl) (by kernel_rfl) (by kernel_rfl) Tryz.underlying130 (by kernel_rfl)
  ⟨by kernel_rfl,by kernel_rfl,by kernel_rfl⟩ ⟨by kernel_rfl,by kernel_rfl,by kernel_rfl⟩ ⟨by kernel_rfl,by kernel_rfl,by kernel_rfl⟩ ⟨by kernel_rfl,by kernel_rfl,by kernel_rfl⟩ (by decide) (fun _ _ => by kernel_rfl)
noncomputable def tab40 : List Ln := tabOf 29 Tryz.f83
theorem says40 : LnSays 83 29 tab40 :=
 part_says (T := 131) (m := 32) (builds := (opsOf Tryz.f83).take 30) (oa := op0 Tryz.f83) (om := opAt Tryz.f83 30) (oi := opAt Tryz.f83 31) (os := opAt Tryz.f83 32) Tryz.func83 (by kernel_rfl) (by kernel_rfl) (by kernel_rfl) Tryz.underlying131 (by kernel_rfl)
  ⟨by kernel_rfl,by kernel_rfl,by kernel_rfl⟩ ⟨by kernel_rfl,by kernel_rfl,by kernel_rfl⟩ ⟨by kernel_rfl,by kernel_rfl,by kernel_rfl⟩ ⟨by kernel_rfl,by kernel_rfl,by kernel_rfl⟩ (by decide) (fun _ _ => by kernel_rfl)
noncomputable def tab41 : List Ln := tabOf 34 Tryz.f84
theorem says41 : LnSays 84 34 tab41 :=
 part_says (T := 132) (m := 37) (builds := (opsOf Tryz.f84).take 35) (oa := op0 Tryz.f84) (om := opAt Tryz.f84 35) (oi := opAt Tryz.f84 36) (os := opAt Tryz.f84 37) Tryz.func84 (by kernel_rfl) (by kernel_rfl) (by kernel_rfl) Tryz.underlying132 (by kernel_rfl)
  ⟨by kernel_rfl,by kernel_rfl,by kernel_rfl⟩ ⟨by kernel_rfl,by kernel_rfl,by kernel_rfl⟩ ⟨by kernel_rfl,by kernel_rfl,by kernel_rfl⟩ ⟨by kernel_rfl,by kernel_rfl,by kernel_rfl⟩ (by decide) (fun _ _ => by kernel_rfl)
noncomputable def tab42 : List Ln := tabOf 36 Tryz.f85
theorem says42 : LnSays 85 36 tab42 :=
 part_says (T := 133) (m := 39) (builds := (opsOf Tryz.f85).take 37) (oa := op0 Tryz.f85) (om := opAt Tryz.f85 37) (oi := opAt Tryz.f85 38) (os := opAt Tryz.f85 39) Tryz.func85 (by kernel_rfl) (by kernel_rfl) (by kernel_rfl) Tryz.underlying133 (by kernel_rfl)
  ⟨by kernel_rfl,by kernel_rfl,by kernel_rfl⟩ ⟨by kernel_rfl,by kernel_rfl,by kernel_rfl⟩ ⟨by kernel_rfl,by kernel_rfl,by kernel_rfl⟩ ⟨by kernel_rfl,by kernel_rfl,by kernel_rfl⟩ (by decide) (fun _ _ => by kernel_rfl)
noncomputable def tab43 : List Ln := tabOf 28 Tryz.f86
theorem says43 : LnSays 86 28 tab43 :=
 part_says (T := 134) (m := 31) (builds := (opsOf Tryz.f86).take 29) (oa := op0 Tryz.f86) (om := opAt Tryz.f86 29) (oi := opAt Tryz.f86 30) (os := opAt Tryz.f86 31) Tryz.func86 (by kernel_rfl) (by kernel_rfl) (by kernel_rfl) Tryz.underlying134 (by kernel_rfl)
  ⟨by kernel_rfl,by kernel_rfl,by kernel_rfl⟩ ⟨by kernel_rfl,by kernel_rfl,by kernel_rfl⟩ ⟨by kernel_rfl,by kernel_rfl,by kernel_rfl⟩ ⟨by kernel_rfl,by kernel_rfl,by kernel_rfl⟩ (by decide) (fun _ _ => by kernel_rfl)
noncomputable def tab44 : List Ln := tabOf 30 Tryz.f87
theorem says44 : LnSays 87 30 tab44 :=
 part_says (T := 135) (m := 33) (builds := (opsOf Tryz.f87).take 31) (oa := op0 Tryz.f87) (om := opAt Tryz.f87 31) (oi := opAt Tryz.f87 32) (os := opAt Tryz.f87 33) Tryz.func87 (by kernel_rfl) (by kernel_rfl) (by kernel_rfl) Tryz.underlying135 (by kernel_rfl)
  ⟨by kernel_rfl,by kernel_rfl,by kernel_rfl⟩ ⟨by kernel_rfl,by kernel_rfl,by kernel_rfl⟩ ⟨by kernel_rfl,by kernel_rfl,by kernel_rfl⟩ ⟨by kernel_rfl,by kernel_rfl,by kernel_rfl⟩ (by decide) (fun _ _ => by kernel_rfl)
noncomputable def tab45 : List Ln := tabOf 3 Tryz.f88
theorem says45 : LnSays 88 3 tab45 :=
 part_says (T := 136) (m := 6) (builds := (opsOf Tryz.f88).take 4) (oa := op0 Tryz.f88) (om := opAt Tryz.f88 4) (oi := opAt Tryz.f88 5) (os := opAt Tryz.f88 6) Tryz.func88 (by kernel_rfl) (by kernel_rfl) (by kernel_rfl) Tryz.underlying136 (by kernel_rfl)
  ⟨by kernel_rfl,by kernel_rfl,by kernel_rfl⟩ ⟨by kernel_rfl,by kernel_rfl,by kernel_rfl⟩ ⟨by kernel_rfl,by kernel_rfl,by kernel_rfl⟩ ⟨by kernel_rfl,by kernel_rfl,by kernel_rfl⟩ (by decide) (fun _ _ => by kernel_rfl)
noncomputable def tab46 : List Ln := tabOf 14 Tryz.f89
theorem says46 : LnSays 89 14 tab46 :=
 part_says (T := 137) (m := 17) (builds := (opsOf Tryz.f89).take 15) (oa := op0 Tryz.f89) (om := opAt Tryz.f89 15) (oi := opAt Tryz.f89 16) (os := opAt Tryz.f89 17) Tryz.func89 (by kernel_rfl) (by kernel_rfl) (by kernel_rfl) Tryz.underlying137 (by kernel_rfl)
  ⟨by kernel_rfl,by kernel_rfl,by kernel_rfl⟩ ⟨by kernel_rfl,by kernel_rfl,by kernel_rfl⟩ ⟨by kernel_rfl,by kernel_rfl,by kernel_rfl⟩ ⟨by kernel_rfl,by kernel_rfl,by kernel_rfl⟩ (by decide) (fun _ _ => by kernel_rfl)
noncomputable def tab47 : List Ln := tabOf 21 Tryz.f90
theorem says47 : LnSays 90 21 tab47 :=
 part_says (T := 138) (m := 24) (builds := (opsOf Tryz.f90).take 22) (oa := op0 Tryz.f90) (om := opAt Tryz.f90 22) (oi := opAt Tryz.f90 23) (os := opAt Tryz.f90 24) Tryz.func90 (by kernel_rfl) (by kernel_rfl) (by kernel_rfl) Tryz.underlying138 (by kernel_rfl)
  ⟨by kernel_rfl,by kernel_rfl,by kernel_rfl⟩ ⟨by kernel_rfl,by kernel_rfl,by kernel_rfl⟩ ⟨by kernel_rfl,by kernel_rfl,by kernel_rfl⟩ ⟨by kernel_rfl,by kernel_rfl,by kernel_rfl⟩ (by decide) (fun _ _ => by kernel_rfl)
noncomputable def tab48 : List Ln := tabOf 42 Tryz.f91
theorem says48 : LnSays 91 42 tab48 :=
 part_says (T := 139) (m := 45) (builds := (opsOf Tryz.f91).take 43) (oa := op0 Tryz.f91) (om := opAt Tryz.f91 43) (oi := opAt Tryz.f91 44) (os := opAt Tryz.f91 45) Tryz.func91 (by kernel_rfl) (by kernel_rfl) (by kernel_rfl) Tryz.underlying139 (by kernel_rfl)
  ⟨by kernel_rfl,by kernel_rfl,by kernel_rfl⟩ ⟨by kernel_rfl,by kernel_rfl,by kernel_rfl⟩ ⟨by kernel_rfl,by kernel_rfl,by kernel_rfl⟩ ⟨by kernel_rfl,by kernel_rfl,by kernel_rfl⟩ (by decide) (fun _ _ => by kernel_rfl)
noncomputable def tab49 : List Ln := tabOf 19 Tryz.f92
theorem says49 : LnSays 92 19 tab49 :=
 part_says (T := 140) (m := 22) (builds := (opsOf Tryz.f92).take 20) (oa := op0 Tryz.f92) (om := opAt Tryz.f92 20) (oi := opAt Tryz.f92 21) (os := opAt Tryz.f92 22) Tryz.func92 (by kernel_rfl) (by kernel_rfl) (by kernel_rfl) Tryz.underlying140 (by kernel_rfl)
  ⟨by kernel_rfl,by kernel_rfl,by kernel_rfl⟩ ⟨by kernel_rfl,by kernel_rfl,by kernel_rfl⟩ ⟨by kernel_rfl,by kernel_rfl,by kernel_rfl⟩ ⟨by kernel_rfl,by kernel_rfl,by kernel_rfl⟩ (by decide) (fun _ _ => by kernel_rfl)
noncomputable def tab50 : List Ln := tabOf 32 Tryz.f93
theorem says50 : LnSays 93 32 tab50 :=
 part_says (T := 141) (m := 35) (builds := (opsOf Tryz.f93).take 33) (oa := op0 Tryz.f93) (om := opAt Tryz.f93 33) (oi := opAt Tryz.f93 34) (os := opAt Tryz.f93 35) Tryz.func93 (by kernel_rfl) (by kernel_rfl) (by kernel_rfl) Tryz.underlying141 (by kernel_rfl)
  ⟨by kernel_rfl,by kernel_rfl,by kernel_rfl⟩ ⟨by kernel_rfl,by kernel_rfl,by kernel_rfl⟩ ⟨by kernel_rfl,by kernel_rfl,by kernel_rfl⟩ ⟨by kernel_rfl,by kernel_rfl,by kernel_rfl⟩ (by decide) (fun _ _ => by kernel_rfl)
noncomputable def tab51 : List Ln := tabOf 32 Tryz.f94
theorem says51 : LnSays 94 32 tab51 :=
 part_says (T := 141) (m := 35) (builds := (opsOf Tryz.f94).take 33) (oa := op0 Tryz.f94) (om := opAt Tryz.f94 33) (oi := opAt Tryz.f94 34) (os := opAt Tryz.f94 35) Tryz.func94 (by kernel_rfl) (by kernel_rfl) (by kernel_rfl) Tryz.underlying141 (by kernel_rfl)
  ⟨by kernel_rfl,by kernel_rfl,by kernel_rfl⟩ ⟨by kernel_rfl,by kernel_rfl,by kernel_rfl⟩ ⟨by kernel_rfl,by kernel_rfl,by kernel_rfl⟩ ⟨by kernel_rfl,by kernel_rfl,by kernel_rfl⟩ (by decide) (fun _ _ => by kernel_rfl)
noncomputable def tab52 : List Ln := tabOf 32 Tryz.f95
theorem says52 : LnSays 95 32 tab52 :=
 part_says (T := 141) (m := 35) (builds := (opsOf Tryz.f95).take 33) (oa := op0 Tryz.f95) (om := opAt Tryz.f95 33) (oi := opAt Tryz.f95 34) (os := opAt Tryz.f95 35) Tryz.func95 (by kernel_rfl) (by kernel_rfl) (by kernel_rfl) Tryz.underlying141 (by kernel_rfl)
  ⟨by kernel_rfl,by kernel_rfl,by kernel_rfl⟩ ⟨by kernel_rfl,by kernel_rfl,by kernel_rfl⟩ ⟨by kernel_rfl,by kernel_rfl,by kernel_rfl⟩ ⟨by kernel_rfl,by kernel_rfl,by kernel_rfl⟩ (by decide) (fun _ _ => by kernel_rfl)
noncomputable def tab53 : List Ln := tabOf 32 Tryz.f96
theorem says53 : LnSays 96 32 tab53 :=
 part_says (T := 141) (m := 35) (builds := (opsOf Tryz.f96).take 33) (oa := op0 Tryz.f96) (om := opAt Tryz.f96 33) (oi := opAt Tryz.f96 34) (os := opAt Tryz.f96 35) Tryz.func96 (by kernel_rfl) (by kernel_rfl) (by kernel_rfl) Tryz.underlying141 (by kernel_rfl)
  ⟨by kernel_rfl,by kernel_rfl,by kernel_rfl⟩ ⟨by kernel_rfl,by kernel_rfl,by kernel_rfl⟩ ⟨by kernel_rfl,by kernel_rfl,by kernel_rfl⟩ ⟨by kernel_rfl,by kernel_rfl,by kernel_rfl⟩ (by decide) (fun _ _ => by kernel_rfl)
noncomputable def tab54 : List Ln := tabOf 32 Tryz.f97
theorem says54 : LnSays 97 32 tab54 :=
 part_says (T := 141) (m := 35) (builds := (opsOf Tryz.f97).take 33) (oa := op0 Tryz.f97) (om := opAt Tryz.f97 33) (oi := opAt Tryz.f97 34) (os := opAt Tryz.f97 35) Tryz.func97 (by kernel_rfl) (by kernel_rfl) (by kernel_rfl) Tryz.underlying141 (by kernel_rfl)
  ⟨by kernel_rfl,by kernel_rfl,by kernel_rfl⟩ ⟨by kernel_rfl,by kernel_rfl,by kernel_rfl⟩ ⟨by kernel_rfl,by kernel_rfl,by kernel_rfl⟩ ⟨by kernel_rfl,by kernel_rfl,by kernel_rfl⟩ (by decide) (fun _ _ => by kernel_rfl)
end Go.Proofs.YtbbmbhcbncenaaaGreatDoor
