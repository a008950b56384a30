/-
  FSumMath, FPartsMath, FSum, FOpMath, FQuo, FProdMath, FApi, FWholeMath, FWholeA, FFUnA, LFMath: merged, what the law does not reach left out (each text says what it holds where it lies in wip). No condition.
-/
import Derived.Test.YtlhakbkdlgejpaaGreatDoorR21
import Derived.Test.YtlhakbkdlgejpaaGreatDoorR23
import Derived.Test.YtlhakbkdlgejpaaGreatDoorR22
import Derived.RegionTactic
import Derived.Test.YtlhakbkdlgejpaaGreatDoorR20
import Derived.Deep.RegionWith
set_option linter.unusedSimpArgs false
set_option linter.unusedVariables false
set_option maxRecDepth 100000
namespace Go.Proofs.YtlhakbkdlgejpaaGreatDoor.Fl
open Ieee
theorem signed_shift (s : Bool) (m k : Nat) : signed s m k = if s then -((m * 2 ^ k : Nat) : Int) else ((m * 2 ^ k : Nat) : Int) := by
  unfold signed; rw [Nat.shiftLeft_eq]
end Go.Proofs.YtlhakbkdlgejpaaGreatDoor.Fl
namespace Go.Proofs.YtlhakbkdlgejpaaGreatDoor.Fl
open Ieee
theorem pe_eq (P : Nat) (low : Int) (s : Nat) : pe P low s = low + ((s / 2 ^ P - 1 : Nat) : Int) := by
  unfold pe; split
  · rename_i h; rw [h]; simp
  · rfl
theorem pm_lt (P s : Nat) : pm P s < 2 ^ (P + 1) := by
  have hp : 0 < 2 ^ P := Nat.two_pow_pos P
  have hm := Nat.mod_lt s hp
  have e : (2 : Nat) ^ (P + 1) = 2 * 2 ^ P := by rw [Nat.pow_succ]; omega
  have hdm := Nat.div_add_mod s (2 ^ P)
  unfold pm; split
  · rename_i h; rw [h] at hdm; simp at hdm; omega
  · omega
theorem pm_ge (P s : Nat) (h : s / 2 ^ P ≠ 0) : 2 ^ P ≤ pm P s := by
  unfold pm; rw [if_neg h]; omega
theorem pm_small (P s : Nat) (h : s / 2 ^ P ≤ 1) : pm P s = s := by
  have hdm := Nat.div_add_mod s (2 ^ P)
  unfold pm; split
  · rfl
  · rename_i h0
    have h1 : s / 2 ^ P = 1 := by generalize s / 2 ^ P = q at *; omega
    rw [h1] at hdm; omega
/-- What a finite word stands for. -/
theorem read_fin {f : Format} {a SB P : Nat} {low : Int} (hSB : f.signWeight = SB) (hP : f.fractionBits = P) (hlow : f.leastPlace = low) (ha : a < 2 * SB) (h : a % SB < f.infRung) :
    f.read a = .number (decide (SB ≤ a)) (pm P (a % SB)) (pe P low (a % SB)) := by
  subst hSB hP hlow
  have hp : 0 < 2 ^ f.fractionBits := Nat.two_pow_pos _
  have hsg : (a / f.signWeight % 2 == 1) = decide (f.signWeight ≤ a) := by
    by_cases hc : f.signWeight ≤ a
    · have : a / f.signWeight = 1 := by rw [Nat.div_eq_iff (by omega)]; omega
      simp [this, hc]
    · have : a / f.signWeight = 0 := Nat.div_eq_of_lt (by omega)
      simp [this, hc]
  unfold Format.read
  simp only [hsg]
  by_cases hb : a % f.signWeight < f.binade
  · rw [if_pos hb]
    have h0 : a % f.signWeight / 2 ^ f.fractionBits = 0 := Nat.div_eq_of_lt hb
    unfold pm pe; rw [if_pos h0, if_pos h0]
  · rw [if_neg hb, if_pos h]
    have h0 : ¬ a % f.signWeight / 2 ^ f.fractionBits = 0 := by
      intro h0
      rcases Nat.lt_or_ge (a % f.signWeight) (2 ^ f.fractionBits) with h2 | h2
      · exact hb h2
      · have := Nat.div_pos h2 hp; omega
    unfold pm pe; rw [if_neg h0, if_neg h0, Nat.add_comm]; rfl
theorem read_inf {f : Format} {a SB : Nat} (hSB : f.signWeight = SB) (ha : a < 2 * SB) (hb : f.binade ≤ f.infRung) (h : a % SB = f.infRung) :
    f.read a = .infinity (decide (SB ≤ a)) := by
  subst hSB
  have hsg : (a / f.signWeight % 2 == 1) = decide (f.signWeight ≤ a) := by
    by_cases hc : f.signWeight ≤ a
    · have : a / f.signWeight = 1 := by rw [Nat.div_eq_iff (by omega)]; omega
      simp [this, hc]
    · have : a / f.signWeight = 0 := Nat.div_eq_of_lt (by omega)
      simp [this, hc]
  unfold Format.read
  simp only [hsg]
  rw [if_neg (by omega), if_neg (by omega), if_pos h]
theorem read_nan {f : Format} {a SB : Nat} (hSB : f.signWeight = SB) (hb : f.binade ≤ f.infRung) (h : f.infRung < a % SB) :
    ∃ s t, f.read a = .nan s t := by
  subst hSB
  unfold Format.read
  simp only []
  rw [if_neg (by omega), if_neg (by omega), if_neg (by omega)]
  exact ⟨_, _, rfl⟩
end Go.Proofs.YtlhakbkdlgejpaaGreatDoor.Fl
namespace Go.Proofs.YtlhakbkdlgejpaaGreatDoor.Fl
open Go.RowKit
/-- A word with the other sign. -/
def oppN (SB a : Nat) : Nat := if SB ≤ a then a - SB else a + SB
end Go.Proofs.YtlhakbkdlgejpaaGreatDoor.Fl
namespace Go.Proofs.YtlhakbkdlgejpaaGreatDoor.Fl
open Ieee
/-- A format's numbers. -/
structure Fmt (f : Format) (SB INF P : Nat) (low : Int) : Prop where
  sb : f.signWeight = SB
  inf : f.infRung = INF
  fr : f.fractionBits = P
  lp : f.leastPlace = low
  bi : f.binade ≤ f.infRung
  p52 : P ≤ 52
  inf0 : 0 < INF
theorem fmt_single : Fmt single 2147483648 2139095040 23 (-149) := ⟨rfl, rfl, rfl, rfl, by decide, by decide, by decide⟩
theorem fmt_double : Fmt double 9223372036854775808 9218868437227405312 52 (-1074) := ⟨rfl, rfl, rfl, rfl, by decide, by decide, by decide⟩
theorem kind1 {INF s : Nat} : kindOf INF s = 1 ↔ s = 0 := by
  unfold kindOf; split
  · simp [*]
  · split
    · simp [*]
    · split
      · simp; omega
      · simp [*]
theorem kind3 {INF s : Nat} (h0 : 0 < INF) : kindOf INF s = 3 ↔ s = INF := by
  unfold kindOf; split
  · simp; omega
  · split
    · simp; omega
    · split <;> simp [*]
theorem kind2 {INF s : Nat} : kindOf INF s = 2 ↔ s ≠ 0 ∧ s < INF := by
  unfold kindOf; split
  · simp [*]
  · split
    · simp [*]
    · split
      · simp; omega
      · simp; omega
theorem kind_le {INF s : Nat} (h : s ≤ INF) : kindOf INF s = 1 ∨ kindOf INF s = 2 ∨ kindOf INF s = 3 := by
  unfold kindOf; split
  · exact .inl rfl
  · split
    · exact .inr (.inl rfl)
    · rw [if_pos (by omega)]; exact .inr (.inr rfl)
section
variable {f : Format} {SB INF P : Nat} {low : Int} (F : Fmt f SB INF P low) {a b : Nat}
include F
theorem rk1 (ha : a < 2 * SB) (h : kindOf INF (a % SB) = 1) : f.read a = .number (decide (SB ≤ a)) 0 (pe P low (a % SB)) := by
  have h0 := kind1.1 h
  rw [read_fin F.sb F.fr F.lp ha (by rw [F.inf, h0]; exact F.inf0)]
  have : pm P (a % SB) = 0 := by rw [h0]; unfold pm; simp
  rw [this]
theorem rk2 (ha : a < 2 * SB) (h : kindOf INF (a % SB) = 2) : f.read a = .number (decide (SB ≤ a)) (pm P (a % SB)) (pe P low (a % SB)) ∧ pm P (a % SB) ≠ 0 := by
  have h0 := kind2.1 h
  refine ⟨read_fin F.sb F.fr F.lp ha (by rw [F.inf]; exact h0.2), ?_⟩
  unfold pm; split
  · exact h0.1
  · have := Nat.two_pow_pos P; omega
theorem rk3 (ha : a < 2 * SB) (h : kindOf INF (a % SB) = 3) : f.read a = .infinity (decide (SB ≤ a)) :=
  read_inf F.sb ha F.bi (by rw [F.inf]; exact (kind3 F.inf0).1 h)
theorem div_zero (ha : a < 2 * SB) (hb : b < 2 * SB) (h : kindOf INF (a % SB) = 1 ∧ (kindOf INF (b % SB) = 2 ∨ kindOf INF (b % SB) = 3) ∨ kindOf INF (a % SB) = 2 ∧ kindOf INF (b % SB) = 3) :
    f.div a b = some (f.word (decide (SB ≤ a) ^^ decide (SB ≤ b)) 0) := by
  unfold Format.div
  rcases h with ⟨h1, h2 | h2⟩ | ⟨h1, h2⟩
  · have h3 := rk2 F hb h2
    rw [rk1 F ha h1, h3.1]
    simp only [Datum.quotient, if_neg h3.2, Nat.zero_shiftLeft, Nat.zero_div, Nat.zero_mod, Option.map_some, Format.write]
    rw [nearest_eq]; rfl
  · rw [rk1 F ha h1, rk3 F hb h2]
    simp only [Datum.quotient, Option.map_some, Format.write]
    rw [nearest_eq]; rfl
  · rw [(rk2 F ha h1).1, rk3 F hb h2]
    simp only [Datum.quotient, Option.map_some, Format.write]
    rw [nearest_eq]; rfl
end
/-- The sign of two words held against each other. -/
theorem xor_top {k a b : Nat} (ha : a < 2 * 2 ^ k) (hb : b < 2 * 2 ^ k) : decide (2 ^ k ≤ a ^^^ b) = (decide (2 ^ k ≤ a) ^^ decide (2 ^ k ≤ b)) ∧ a ^^^ b < 2 * 2 ^ k := by
  have top : ∀ x, x < 2 * 2 ^ k → x.testBit k = decide (2 ^ k ≤ x) := fun x hx => by
    have hp : 0 < 2 ^ k := Nat.two_pow_pos k
    rw [Nat.testBit_eq_decide_div_mod_eq]
    by_cases hc : 2 ^ k ≤ x
    · have : x / 2 ^ k = 1 := by rw [Nat.div_eq_iff hp]; omega
      simp [this, hc]
    · have : x / 2 ^ k = 0 := Nat.div_eq_of_lt (by omega)
      simp [this, hc]
  have e : 2 * 2 ^ k = 2 ^ (k + 1) := by rw [Nat.pow_succ]; omega
  have hx : a ^^^ b < 2 * 2 ^ k := by rw [e] at ha hb ⊢; exact Nat.xor_lt_two_pow ha hb
  exact ⟨by rw [← top _ hx, ← top a ha, ← top b hb, Nat.testBit_xor], hx⟩
end Go.Proofs.YtlhakbkdlgejpaaGreatDoor.Fl
namespace Go.Proofs.YtlhakbkdlgejpaaGreatDoor.Fl
open Go.RowKit
/-- What a number moved up to 64 bits is. -/
def NJ (m : Nat) (e : Int) (j y : Nat) (d : Int) : Prop := j ≤ 63 ∧ (m ≠ 0 → 9223372036854775808 ≤ m * 2 ^ j) ∧ m * 2 ^ j < 18446744073709551616 ∧ y = m * 2 ^ j ∧ d = e - j
theorem or_one (q : Nat) : 2 * q ||| 1 = 2 * q + 1 := by
 have := Nat.two_pow_add_eq_or_of_lt (i := 1) (b := 1) (by decide) q
 rw [show 2 ^ 1 * q = 2 * q by rfl] at this
 exact this.symm
end Go.Proofs.YtlhakbkdlgejpaaGreatDoor.Fl
namespace Go.Proofs.YtlhakbkdlgejpaaGreatDoor.Fl
open Ieee
open Go.RowKit
theorem pwrap_in (x : Int) (h : -9223372036854775808 ≤ x) (h2 : x ≤ 9223372036854775807) : wrap64 x = x := by unfold wrap64; omega
end Go.Proofs.YtlhakbkdlgejpaaGreatDoor.Fl
namespace Go.Proofs.YtlhakbkdlgejpaaGreatDoor.Fl
open Go.RowKit
/-- Block g holds the format, and nothing elder has turned. -/
def Sg (E P : Int) (w : World) (g : Nat) (W : World) : Prop := Fb E P g W ∧ w.heap.size ≤ g ∧ Below w.heap.size w W
theorem Sg.call {E P : Int} {w W W' : World} {g : Nat} (h : Sg E P w g W) (hb : Below W.heap.size W W') : Sg E P w g W' := ⟨h.1.call hb, h.2.1, bnext h.2.2 hb⟩
theorem Sg.drew {E P : Int} {w W : World} {g : Nat} (h : Sg E P w g W) : Sg E P w g W.drew := ⟨h.1, h.2.1, h.2.2.drew⟩
theorem Sg.drewN {E P : Int} {w W : World} {g : Nat} (h : Sg E P w g W) (n : Nat) : Sg E P w g (W.drewN n) := ⟨h.1, h.2.1, below_drewN h.2.2 n⟩
theorem Sg.alloc {E P : Int} {w W : World} {g : Nat} (h : Sg E P w g W) (o : Obj) : Sg E P w g (W.alloc o) := h.call (ball W o)
theorem Sg.lt {E P : Int} {w W : World} {g : Nat} (h : Sg E P w g W) : g < W.heap.size := h.1.lt
theorem Sg.new (E P : Int) {w w1 : World} (hb : Below w.heap.size w w1) : Sg E P w w1.heap.size (w1.alloc (.cells #[.int .i64 E, .int .i64 P] 141)) := ⟨Fb.new E P w1, hb.size, balloc hb _⟩
end Go.Proofs.YtlhakbkdlgejpaaGreatDoor.Fl
namespace Go.Proofs.YtlhakbkdlgejpaaGreatDoor.Fl
open Ieee
/-- Whether one is added where n is cut by d digits. -/
def cutUp (way : Toward) (neg : Bool) (n d : Nat) : Bool :=
  match way with
  | .even => decide (2 ^ d < 2 * (n % 2 ^ d)) || (2 ^ d == 2 * (n % 2 ^ d) && n / 2 ^ d % 2 == 1)
  | .down => neg && n % 2 ^ d != 0
  | .up => !neg && n % 2 ^ d != 0
  | .zero => false
theorem cut_plain (way : Toward) (neg : Bool) (n d : Nat) : way.cut neg n d = n / 2 ^ d + (cutUp way neg n d).toNat := by
  by_cases h : d ≤ n.log2 + 2
  · unfold Toward.cut cutUp
    simp only [Nat.one_shiftLeft]
    rw [Nat.min_eq_left h]
    cases way <;> rfl
  · have hn := @Nat.lt_log2_self n
    have e : (2 : Nat) ^ (n.log2 + 2) = 2 * 2 ^ (n.log2 + 1) := by rw [show n.log2 + 2 = (n.log2 + 1) + 1 by omega, Nat.pow_succ]; omega
    have hle : (2 : Nat) ^ (n.log2 + 2) ≤ 2 ^ d := Nat.pow_le_pow_right (by omega) (by omega)
    have d1 : n / 2 ^ d = 0 := Nat.div_eq_of_lt (by omega)
    have m1 : n % 2 ^ d = n := Nat.mod_eq_of_lt (by omega)
    have d2 : n / 2 ^ (n.log2 + 2) = 0 := Nat.div_eq_of_lt (by omega)
    have m2 : n % 2 ^ (n.log2 + 2) = n := Nat.mod_eq_of_lt (by omega)
    unfold Toward.cut cutUp
    simp only [Nat.one_shiftLeft]
    rw [Nat.min_eq_right (by omega), d1, m1, d2, m2]
    cases way
    · have e1 : decide (2 ^ d < 2 * n) = false := by simp; omega
      have e2 : (2 ^ d == 2 * n) = false := by simp; omega
      have e3 : decide (2 ^ (n.log2 + 2) < 2 * n) = false := by simp; omega
      have e4 : (2 ^ (n.log2 + 2) == 2 * n) = false := by simp; omega
      simp only [e1, e2, e3, e4]
    · rfl
    · rfl
    · rfl
/-- Behind 63 places nothing of a number below 2^62 is left, and less than a half. -/
theorem cutUp_far (way : Toward) (neg : Bool) (n d : Nat) (hn : n < 4611686018427387904) (hd : 63 ≤ d) : n / 2 ^ d = n / 2 ^ 63 ∧ cutUp way neg n d = cutUp way neg n 63 := by
  have hle : (2 : Nat) ^ 63 ≤ 2 ^ d := Nat.pow_le_pow_right (by omega) hd
  have h63 : (2 : Nat) ^ 63 = 9223372036854775808 := by decide
  have d1 : n / 2 ^ d = 0 := Nat.div_eq_of_lt (by omega)
  have m1 : n % 2 ^ d = n := Nat.mod_eq_of_lt (by omega)
  have d2 : n / 2 ^ 63 = 0 := Nat.div_eq_of_lt (by omega)
  have m2 : n % 2 ^ 63 = n := Nat.mod_eq_of_lt (by omega)
  refine ⟨by rw [d1, d2], ?_⟩
  unfold cutUp
  rw [d1, m1, d2, m2]
  cases way
  · have e1 : decide (2 ^ d < 2 * n) = false := by simp; omega
    have e2 : (2 ^ d == 2 * n) = false := by simp; omega
    have e3 : decide (2 ^ 63 < 2 * n) = false := by simp; omega
    have e4 : (2 ^ 63 == 2 * n) = false := by simp; omega
    simp only [e1, e2, e3, e4]
  · rfl
  · rfl
  · rfl
/-- The way of an operation. -/
def wayOf (op : Nat) : Toward := if op = 4 then .up else if op = 5 then .down else if op = 6 then .zero else .even
section
variable {f : Format} {SB INF P : Nat} {low : Int} (F : Fmt f SB INF P low) {a : Nat}
include F
theorem rungOf_parts {s : Nat} (hs : s < INF) : rungOf f (pm P s) (pe P low s) = s := by
  have hp : 0 < 2 ^ P := Nat.two_pow_pos P
  have hi := F.inf
  have hdm := Nat.div_add_mod s (2 ^ P)
  have hml := Nat.mod_lt s hp
  by_cases hq : s / 2 ^ P = 0
  · have e1 : pm P s = s := by unfold pm; rw [if_pos hq]
    have e2 : pe P low s = low := by unfold pe; rw [if_pos hq]
    rw [e1, e2]
    by_cases h0 : s = 0
    · subst h0; rfl
    · have hsp : s < 2 ^ P := by
        rcases Nat.lt_or_ge s (2 ^ P) with h | h
        · exact h
        · have := Nat.div_pos h hp; omega
      have hlog : s.log2 < P := log2_lt_of h0 hsp
      have hL : lastP f s low = low := by
        unfold lastP; rw [F.fr, F.lp]; omega
      unfold rungOf
      rw [if_neg h0, hL, F.lp, F.inf]
      unfold rneI
      rw [show low - low = 0 by omega, if_pos (by omega)]
      simp [rne_zero]
      omega
  · have e1 : pm P s = s % 2 ^ P + 2 ^ P := by unfold pm; rw [if_neg hq]
    have e2 := pe_eq P low s
    have hne : pm P s ≠ 0 := by omega
    have hlog : (pm P s).log2 = P := by
      rw [Nat.log2_eq_iff hne, e1]
      have : (2 : Nat) ^ (P + 1) = 2 * 2 ^ P := by rw [Nat.pow_succ]; omega
      omega
    have hL : lastP f (pm P s) (pe P low s) = pe P low s := by
      unfold lastP; rw [F.fr, F.lp, hlog]; omega
    unfold rungOf
    rw [if_neg hne, hL, F.lp, F.inf, F.fr]
    unfold rneI
    rw [show pe P low s - pe P low s = 0 by omega, if_pos (by omega)]
    simp only [Int.toNat_zero, rne_zero]
    rw [show (pe P low s - low).toNat = s / 2 ^ P - 1 by rw [e2]; generalize s / 2 ^ P = q; omega, e1]
    have : (s / 2 ^ P - 1) * 2 ^ P + (s % 2 ^ P + 2 ^ P) = s := by
      obtain ⟨q, hqe⟩ : ∃ q, s / 2 ^ P = q + 1 := ⟨s / 2 ^ P - 1, by generalize s / 2 ^ P = z at *; omega⟩
      rw [hqe] at hdm ⊢
      rw [Nat.mul_add, Nat.mul_one, Nat.mul_comm] at hdm
      rw [show q + 1 - 1 = q by omega]
      omega
    rw [this]
    omega
theorem word_sz (ha : a < 2 * SB) : f.word (decide (SB ≤ a)) (a % SB) = a := by
  unfold Format.word
  rw [F.sb]
  by_cases h : SB ≤ a
  · have : a % SB = a - SB := by rw [Nat.mod_eq_sub_mod h, Nat.mod_eq_of_lt (by omega)]
    simp [h, this]
  · simp [h, Nat.mod_eq_of_lt (show a < SB by omega)]
theorem read_12 (ha : a < 2 * SB) (h : kindOf INF (a % SB) = 1 ∨ kindOf INF (a % SB) = 2) : f.read a = .number (decide (SB ≤ a)) (pm P (a % SB)) (pe P low (a % SB)) ∧ a % SB < INF := by
  have hfin : a % SB < INF := by
    rcases h with h | h
    · rw [kind1.1 h]; exact F.inf0
    · exact (kind2.1 h).2
  exact ⟨read_fin F.sb F.fr F.lp ha (by rw [F.inf]; exact hfin), hfin⟩
theorem whole_inf (ha : a < 2 * SB) (h : kindOf INF (a % SB) = 3) (way : Toward) : f.write ((f.read a).integral way) = a := by
  rw [rk3 F ha h]
  show f.word _ f.infRung = a
  have h3 := (kind3 F.inf0).1 h
  have := word_sz F ha
  rw [h3] at this
  rw [F.inf]; exact this
theorem whole_big (ha : a < 2 * SB) (h : kindOf INF (a % SB) = 1 ∨ kindOf INF (a % SB) = 2) (he : 0 ≤ pe P low (a % SB)) (way : Toward) : f.write ((f.read a).integral way) = a := by
  have h1 := read_12 F ha h
  rw [h1.1]
  simp only [Datum.integral, Format.write]
  rw [nearest_eq, cut_plain, show (-pe P low (a % SB)).toNat = 0 by omega, Nat.shiftLeft_eq]
  have hup : cutUp way (decide (SB ≤ a)) (pm P (a % SB) * 2 ^ (pe P low (a % SB)).toNat) 0 = false := by
    unfold cutUp; cases way <;> simp [Nat.mod_one]
  rw [hup, Nat.pow_zero, Nat.div_one]
  have := rungOf_scale f (pm P (a % SB)) (pe P low (a % SB)) (pe P low (a % SB)).toNat
  rw [show pe P low (a % SB) - ((pe P low (a % SB)).toNat : Int) = 0 by omega] at this
  show f.word _ (rungOf f (pm P (a % SB) * 2 ^ (pe P low (a % SB)).toNat + 0) 0) = a
  rw [Nat.add_zero, this, rungOf_parts F h1.2, word_sz F ha]
theorem whole_small (ha : a < 2 * SB) (h : kindOf INF (a % SB) = 1 ∨ kindOf INF (a % SB) = 2) {K pl : Nat} (hK : pe P low (a % SB) = -(K : Int)) (hpl : pl = min K 63) (way : Toward) :
    f.write ((f.read a).integral way) = f.word (decide (SB ≤ a)) (rungR f (pm P (a % SB) / 2 ^ pl + (cutUp way (decide (SB ≤ a)) (pm P (a % SB)) pl).toNat) 0 false) := by
  have h1 := read_12 F ha h
  rw [h1.1, rungR_false]
  simp only [Datum.integral, Format.write]
  rw [nearest_eq, cut_plain, show (-pe P low (a % SB)).toNat = K by omega, show (pe P low (a % SB)).toNat = 0 by omega]
  simp only [Nat.shiftLeft_zero]
  have hm : pm P (a % SB) < 4611686018427387904 := by
    have h2 := pm_lt P (a % SB)
    have h3 : (2 : Nat) ^ (P + 1) ≤ 2 ^ 53 := Nat.pow_le_pow_right (by decide) (by have := F.p52; omega)
    have h4 : (2 : Nat) ^ 53 = 9007199254740992 := by decide
    omega
  by_cases hc : K ≤ 63
  · rw [show pl = K by omega]
  · have hp : pl = 63 := by omega
    have := cutUp_far way (decide (SB ≤ a)) _ K hm (by omega)
    rw [hp, this.1, this.2]
end
end Go.Proofs.YtlhakbkdlgejpaaGreatDoor.Fl
namespace Go.Proofs.YtlhakbkdlgejpaaGreatDoor.Fl
open Go.RowKit
/-- What the program's whole comes to. -/
def wholeW (f : Ieee.Format) (SB INF CAN op a : Nat) : Nat := if kindOf INF (a % SB) = 4 then CAN else f.write ((f.read a).integral (wayOf op))
theorem kind_cases {INF s : Nat} : kindOf INF s = 4 ∨ kindOf INF s = 3 ∨ kindOf INF s = 1 ∨ kindOf INF s = 2 := by
 unfold kindOf; split
 ·simp
 ·split
  ·simp
  ·split <;> simp
theorem mask_bits (Y k : Nat) (hk : k ≤ 63) (hY : Y < 18446744073709551616) : bits .and .u64 (Y : Int) (IntKind.u64.wrap (IntKind.u64.wrap (2 ^ k) - 1)) = ((Y % 2 ^ k : Nat) : Int) := by
 have hlt : (2 : Nat) ^ k ≤ 2 ^ 63 := Nat.pow_le_pow_right (by decide) hk
 have h63 : (2 : Nat) ^ 63 = 9223372036854775808 := by decide
 have hp : 0 < 2 ^ k := Nat.two_pow_pos k
 have e1 : IntKind.u64.wrap ((2 : Int) ^ k) = ((2 ^ k : Nat) : Int) := by
  rw [IntKind.wrap_u64, show ((2 : Int) ^ k) = ((2 ^ k : Nat) : Int) by rw [Int.natCast_pow]; rfl]; omega
 have e2 : IntKind.u64.wrap (((2 ^ k : Nat) : Int) - 1) = ((2 ^ k - 1 : Nat) : Int) := by
  rw [IntKind.wrap_u64]; omega
 rw [e1, e2, bits_and_u64_nat _ _ hY (by omega), Nat.and_two_pow_sub_one_eq_mod]
theorem half_bits (k : Nat) (hk : k ≤ 63) : IntKind.u64.wrap ((2 : Int) ^ k) = ((2 ^ k : Nat) : Int) := by
 have hlt : (2 : Nat) ^ k ≤ 2 ^ 63 := Nat.pow_le_pow_right (by decide) hk
 have h63 : (2 : Nat) ^ 63 = 9223372036854775808 := by decide
 have hp : 0 < 2 ^ k := Nat.two_pow_pos k
 rw [IntKind.wrap_u64, show ((2 : Int) ^ k) = ((2 ^ k : Nat) : Int) by rw [Int.natCast_pow]; rfl]; omega
theorem cut4 (n : Bool) (m pl : Nat) : cutUp (wayOf 4) n m pl = (!n && m % 2 ^ pl != 0) := rfl
theorem cut5 (n : Bool) (m pl : Nat) : cutUp (wayOf 5) n m pl = (n && m % 2 ^ pl != 0) := rfl
theorem cut6 (n : Bool) (m pl : Nat) : cutUp (wayOf 6) n m pl = false := rfl
theorem cut7 (n : Bool) (m pl : Nat) (h : 1 ≤ pl) : cutUp (wayOf 7) n m pl = (decide (2 ^ (pl - 1) < m % 2 ^ pl) || (m % 2 ^ pl == 2 ^ (pl - 1) && m / 2 ^ pl % 2 == 1)) := by
 obtain ⟨c, rfl⟩ : ∃ c, pl = c + 1 := ⟨pl - 1, by omega⟩
 show (decide (2 ^ (c + 1) < 2 * (m % 2 ^ (c + 1))) || (2 ^ (c + 1) == 2 * (m % 2 ^ (c + 1)) && m / 2 ^ (c + 1) % 2 == 1)) = _
 have e : (2 : Nat) ^ (c + 1) = 2 * 2 ^ c := by rw [Nat.pow_succ]; omega
 rw [show c + 1 - 1 = c by omega]
 generalize m / 2 ^ (c + 1) % 2 = q
 generalize m % 2 ^ (c + 1) = r
 rw [e]
 generalize 2 ^ c = h
 have e1 : decide (2 * h < 2 * r) = decide (h < r) := decide_eq_decide.2 (by omega)
 have e2 : (2 * h == 2 * r) = (r == h) := Bool.eq_iff_iff.2 (by rw [beq_iff_eq, beq_iff_eq]; omega)
 rw [e1, e2]
set_option maxRecDepth 20000 in
set_option maxHeartbeats 12800000 in
theorem whole_32 (op : Nat) (hop : op = 4 ∨ op = 5 ∨ op = 6 ∨ op = 7) (a : Nat) (ha : a < 4294967296) (w : World) :
  Calls Tryz.prog 185 #[.agg #[.int .i64 8, .int .i64 23], .int .i64 op, .int .u64 a] w fun r w' => r = .returned (.int .u64 ((wholeW Ieee.single 2147483648 2139095040 2143289344 op a : Nat) : Int)) ∧ Below w.heap.size w w' := by
 have KA := fun w => hid (kind_32 a ha w)
 obtain ⟨RR, hRR⟩ : ∃ RR : Nat, RR = wholeW Ieee.single 2147483648 2139095040 2143289344 op a := ⟨_, rfl⟩
 rw [← hRR]
 have hS := Sx.new 8 23 w
 obtain ⟨c0, c1⟩ := id hS.1
 rcases kind_cases (INF := 2139095040) (s := a % 2147483648) with h | h | h
 ·rw [h] at KA
  have hR : RR = 2143289344 := by rw [hRR]; unfold wholeW; rw [if_pos h]
  subst hR
  clear hRR h ha hop
  go_enter Tryz.func185, Tryz.ntmps185
  go_wp2_with (first
   | (go_at_call 241; ((with_reducible refine (KA _).out.mono ?_); rintro e w1 ⟨rfl, hb⟩; replace hS := hS.call hb; have c0 := hS.1.1; have c1 := hS.1.2))
   | (go_at_call 242; ((with_reducible refine (canonical_32 _).mono ?_); rintro e w1 ⟨rfl, hb⟩; replace hS := hS.call hb)))
  go_ret
  exact ⟨rfl, hS.2⟩
 ·rw [h] at KA
  have hR : RR = a := by rw [hRR]; unfold wholeW; rw [if_neg (by rw [h]; decide), whole_inf fmt_single (by omega) h]
  subst hR
  clear hRR h ha hop
  go_enter Tryz.func185, Tryz.ntmps185
  go_wp2_with (first
   | (go_at_call 241; ((with_reducible refine (KA _).out.mono ?_); rintro e w1 ⟨rfl, hb⟩; replace hS := hS.call hb; have c0 := hS.1.1; have c1 := hS.1.2)))
  go_ret
  exact ⟨rfl, hS.2⟩
 ·have PA := fun w => hid (parts_32 a ha w)
  have hR : RR = (Ieee.single).write (((Ieee.single).read a).integral (wayOf op)) := by rw [hRR]; unfold wholeW; rw [if_neg (by omega)]
  have hbig := whole_big fmt_single (a := a) (by omega) h
  have hsmall := fun K pl => whole_small fmt_single (a := a) (by omega) h (K := K) (pl := pl)
  obtain ⟨ka, hka⟩ : ∃ ka : Nat, ka = kindOf 2139095040 (a % 2147483648) := ⟨_, rfl⟩
  rw [← hka] at KA
  have k1 : ((ka : Int) == 4) = false := by simp; omega
  have k2 : ((ka : Int) == 3) = false := by simp; omega
  have hmb := pm_lt 23 (a % 2147483648)
  have heb := pe_eq 23 (-149) (a % 2147483648)
  have hq : a % 2147483648 / 2 ^ 23 ≤ 2048 := by
   have h2 : a % 2147483648 < 2139095040 := by
    rcases h with h | h
    ·rw [kind1.1 h]; decide
    ·exact (kind2.1 h).2
   show a % 2147483648 / 8388608 ≤ 2048; omega
  obtain ⟨n1, hn1⟩ : ∃ n1 : Bool, n1 = decide (2147483648 ≤ a) := ⟨_, rfl⟩
  obtain ⟨m1, hm1⟩ : ∃ m1 : Nat, m1 = pm 23 (a % 2147483648) := ⟨_, rfl⟩
  obtain ⟨e1, he1⟩ : ∃ e1 : Int, e1 = pe 23 (-149) (a % 2147483648) := ⟨_, rfl⟩
  rw [← hn1, ← hm1, ← he1] at PA
  simp only [← hn1, ← hm1, ← he1] at hsmall hbig
  rw [← hm1] at hmb
  rw [← he1] at heb
  have hmb2 : m1 < 9007199254740992 := by have : m1 < 8388608 * 2 := hmb; omega
  generalize a % 2147483648 / 2 ^ 23 = q1 at *
  have heb2 : -1100 ≤ e1 ∧ e1 ≤ 2100 := by omega
  have HR := hid hR
  have HSM := hid hsmall
  have HBG := hid hbig
  have HMB := hid hmb2
  have HEB := hid heb2
  clear hRR h ha hbig hsmall hka hmb heb hq hn1 hm1 he1 hR hmb2 heb2
  go_enter Tryz.func185, Tryz.ntmps185
  go_upto_region 5 with (first
   | (go_at_call 241; ((with_reducible refine (KA _).out.mono ?_); rintro e w1 ⟨rfl, hb⟩; replace hS := hS.call hb; have c0 := hS.1.1; have c1 := hS.1.2)))
  go_cut [7] (fun s7 wx => ∃ gx : Nat, s7 = .pointer (some ⟨gx, 0, none⟩) ∧ Nb gx n1 m1 e1 wx ∧ w.heap.size < gx ∧ Sx 8 23 w wx)
  case first =>
   go_wp2_with (go_at_call 244; ((with_reducible refine (PA _).out.mono ?_); rintro e w2 ⟨rfl, hb⟩; replace hS := hS.call hb))
   go_meet
   exact ⟨w2.heap.size, rfl, Nb.new n1 m1 e1 w2, hS.lt, hS.alloc _⟩
  case rest =>
   clear hS c0 c1 PA KA k1 k2
   obtain ⟨gx, rfl, hX, hgx, hS⟩ := hcut
   have HX := hid hX
   have HS := hid hS
   have HG := hid hgx
   obtain ⟨c0, c1⟩ := id hS.1
   obtain ⟨⟨x0, x1, x2⟩, x3, x4, x5⟩ := id hX
   clear hX hS hgx
   by_cases he : 0 ≤ e1
   ·have hR2 : RR = a := by rw [HR.out]; exact HBG.out he _
    subst hR2
    have hd : decide (0 ≤ e1) = true := by simp [he]
    go_wp2
    go_ret
    exact ⟨rfl, HS.out.2⟩
   ·obtain ⟨K, hK⟩ : ∃ K : Nat, e1 = -(K : Int) := ⟨(-e1).toNat, by omega⟩
    obtain ⟨pl, hpl⟩ : ∃ pl : Nat, pl = min K 63 := ⟨_, rfl⟩
    have hd : decide (0 ≤ e1) = false := by simp; omega
    have hRs : RR = (Ieee.single).word n1 (rungR Ieee.single (m1 / 2 ^ pl + (cutUp (wayOf op) n1 m1 pl).toNat) 0 false) := by rw [HR.out]; exact HSM.out K pl hK hpl _
    have hpl1 : 1 ≤ pl ∧ pl ≤ 63 := by omega
    have HRS := hid hRs
    have HPL := hid hpl
    have HPL1 := hid hpl1
    have g1 : -e1 = (K : Int) := by omega
    have g2 : wrap64 (K : Int) = (K : Int) := by have := HEB.out; unfold wrap64; omega
    have g3 : IntKind.i64.wrap (K : Int) = (K : Int) := by have := HEB.out; rw [IntKind.wrap_i64]; omega
    clear hRs he hpl hpl1 HR HSM HBG
    have HK := hid hK
    clear hK
    go_upto_region 8 with fail
    go_cut [8] (fun s8 wx => s8 = .int .i64 pl ∧ Nb gx n1 m1 e1 wx ∧ Sx 8 23 w wx)
    case first =>
     by_cases hc : 63 < K
     ·have e63 : pl = 63 := by have := HPL.out; omega
      subst e63
      have g4 : (63 : Int) < (K : Int) := by omega
      go_wp2
      all_goals
       go_meet
       exact ⟨rfl, HX.out, HS.out⟩
     ·have ek : pl = K := by have := HPL.out; omega
      subst ek
      by_cases hc2 : pl = 63
      ·subst hc2
       go_wp2
       all_goals
        go_meet
        exact ⟨rfl, HX.out, HS.out⟩
      ·have g4 : (pl : Int) < 63 := by omega
       go_wp2
       all_goals
        go_meet
        exact ⟨rfl, HX.out, HS.out⟩
    case rest =>
     clear g1 g2 g3 hd HX HS c0 c1 x0 x1 x2 x3 x4 x5
     obtain ⟨rfl, hX, hS⟩ := hcut
     have HX := hid hX
     have HS := hid hS
     obtain ⟨c0, c1⟩ := id hS.1
     obtain ⟨⟨x0, x1, x2⟩, x3, x4, x5⟩ := id hX
     clear hX hS
     obtain ⟨lost, hlost⟩ : ∃ lost : Nat, lost = m1 % 2 ^ pl := ⟨_, rfl⟩
     obtain ⟨half, hhalf⟩ : ∃ half : Nat, half = 2 ^ (pl - 1) := ⟨_, rfl⟩
     obtain ⟨mq, hmq⟩ : ∃ mq : Nat, mq = m1 / 2 ^ pl := ⟨_, rfl⟩
     obtain ⟨pp, hpp⟩ : ∃ pp : Nat, pp = pl - 1 := ⟨_, rfl⟩
     have g1 : (pl : Int) - 1 = (pp : Int) := by have := HPL1.out; omega
     have g2 : IntKind.i64.wrap (pp : Int) = (pp : Int) := by have := HPL1.out; rw [IntKind.wrap_i64]; omega
     have g3 : (0 : Int) ≤ (pl : Int) := by omega
     have g4 : pl ≤ 64 := by have := HPL1.out; omega
     have g5 : (0 : Int) ≤ (pp : Int) := by omega
     have g6 : pp ≤ 64 := by have := HPL1.out; omega
     have HL := hid hlost
     have HH := hid hhalf
     have HQ := hid hmq
     have HPP := hid hpp
     clear hlost hhalf hmq hpp
     go_upto_region 9 with fail
     go_cut [9, 10] (fun s9 s10 wx => s9 = .int .u64 lost ∧ s10 = .int .u64 half ∧ Nb gx n1 m1 e1 wx ∧ Sx 8 23 w wx)
     case first =>
      go_quiet (fail)
      (go_wp2_with fail)
      go_meet
      have hh := HPL1.out
      exact ⟨congrArg (Value.int .u64) (by rw [HL.out]; first | exact mask_bits m1 pl hh.2 (by have := HMB.out; omega) | (rw [Nat.min_eq_left (by omega)]; exact mask_bits m1 pl hh.2 (by have := HMB.out; omega))), congrArg (Value.int .u64) (by rw [HH.out, ← HPP.out]; first | exact half_bits pp (by have := HPP.out; omega) | (rw [Nat.min_eq_left (by omega)]; exact half_bits pp (by have := HPP.out; omega))), HX.out, HS.out.drewN _⟩
     case rest =>
      clear g1 g2 g5 g6 HX HS c0 c1 x0 x1 x2 x3 x4 x5
      obtain ⟨rfl, rfl, hX, hS⟩ := hcut
      have HX := hid hX
      have HS := hid hS
      obtain ⟨c0, c1⟩ := id hS.1
      obtain ⟨⟨x0, x1, x2⟩, x3, x4, x5⟩ := id hX
      clear hX hS
      have g1 : (m1 : Int) / 2 ^ pl = (mq : Int) := by rw [HQ.out, Int.natCast_ediv, Int.natCast_pow]; rfl
      go_upto_region 10 with fail
      go_cut [9] (fun s9 wx => s9 = .int .u64 lost ∧ Nb gx n1 mq 0 wx ∧ Sx 8 23 w wx)
      case first =>
       go_wp2
       go_meet
       exact ⟨rfl, HX.out.setm.sete, (HS.out.set HG.out).set HG.out⟩
      case rest =>
       clear g1 g3 g4 HX HS c0 c1 x0 x1 x2 x3 x4 x5
       obtain ⟨rfl, hX, hS⟩ := hcut
       have HX := hid hX
       have HS := hid hS
       obtain ⟨c0, c1⟩ := id hS.1
       obtain ⟨⟨x0, x1, x2⟩, x3, x4, x5⟩ := id hX
       clear hX hS
       have hgF : gx ≠ w.heap.size := by have := HG.out; omega
       have hgF2 : w.heap.size ≠ gx := Ne.symm hgF
       have hmq : mq < 9007199254740993 := by have h1 := HMB.out; rw [HQ.out]; exact Nat.lt_of_le_of_lt (Nat.div_le_self _ _) (by omega)
       have v2 : IntKind.u64.wrap ((mq : Int) + 1) = (mq : Int) + 1 := by rw [IntKind.wrap_u64]; omega
       have HMQ := hid hmq
       have R0 : cutUp (wayOf op) n1 m1 pl = false → ∀ W, Hid (Calls Tryz.prog 245 #[.agg #[.int .i64 8, .int .i64 23], .agg #[.bool n1, .int .u64 mq, .int .i64 0], .bool false] W fun r w' => r = .returned (.int .u64 (RR : Int)) ∧ Below W.heap.size W w') := fun h W => by
        have := round_32 n1 mq (by omega) 0 (by decide) (by decide) false (fun h => by cases h) W
        rw [HRS.out, h, ← HQ.out]
        exact this
       have R1 : cutUp (wayOf op) n1 m1 pl = true → ∀ W, Hid (Calls Tryz.prog 245 #[.agg #[.int .i64 8, .int .i64 23], .agg #[.bool n1, .int .u64 ((mq : Int) + 1), .int .i64 0], .bool false] W fun r w' => r = .returned (.int .u64 (RR : Int)) ∧ Below W.heap.size W w') := fun h W => by
        have := round_32 n1 (mq + 1) (by omega) 0 (by decide) (by decide) false (fun h => by cases h) W
        rw [HRS.out, h, ← HQ.out]
        exact this
       have HR0 := hid R0
       have HR1 := hid R1
       clear R0 R1 hmq HRS
       rcases hop with rfl | rfl | rfl | rfl
       ·have hup := cut4 n1 m1 pl
        rw [← HL.out] at hup
        have HUP := hid hup
        clear hup
        by_cases hl : lost = 0
        ·subst hl
         have RC := HR0.out (by rw [HUP.out]; cases n1 <;> rfl)
         go_wp2_with (go_at_call 245; (with_reducible refine (RC _).out.mono ?_); rintro e w5 ⟨rfl, hb5⟩; have HF := hid (bnext HS.out.2 hb5))
         all_goals
          go_ret
          exact ⟨rfl, HF.out⟩
        ·have hl2 : ((lost : Int) != 0) = true := by simp; omega
         cases n1 with
         | true =>
          have RC := HR0.out (by rw [HUP.out]; rfl)
          clear hl
          go_wp2_with (go_at_call 245; (with_reducible refine (RC _).out.mono ?_); rintro e w5 ⟨rfl, hb5⟩; have HF := hid (bnext HS.out.2 hb5))
          all_goals
           go_ret
           exact ⟨rfl, HF.out⟩
         | false =>
          have RC := HR1.out (by rw [HUP.out]; simp [hl])
          clear hl
          go_wp2_with (go_at_call 245; (with_reducible refine (RC _).out.mono ?_); rintro e w5 ⟨rfl, hb5⟩; have HF := hid (bnext (bset (c := gx) (o := 1) (u := .int .u64 ((mq : Int) + 1)) HS.out.2 (Nat.le_of_lt HG.out)) hb5))
          all_goals
           go_ret
           exact ⟨rfl, HF.out⟩
       ·have hup := cut5 n1 m1 pl
        rw [← HL.out] at hup
        have HUP := hid hup
        clear hup
        by_cases hl : lost = 0
        ·subst hl
         have RC := HR0.out (by rw [HUP.out]; cases n1 <;> rfl)
         go_wp2_with (go_at_call 245; (with_reducible refine (RC _).out.mono ?_); rintro e w5 ⟨rfl, hb5⟩; have HF := hid (bnext HS.out.2 hb5))
         all_goals
          go_ret
          exact ⟨rfl, HF.out⟩
        ·have hl2 : ((lost : Int) != 0) = true := by simp; omega
         cases n1 with
         | true =>
          have RC := HR1.out (by rw [HUP.out]; simp [hl])
          clear hl
          go_wp2_with (go_at_call 245; (with_reducible refine (RC _).out.mono ?_); rintro e w5 ⟨rfl, hb5⟩; have HF := hid (bnext (bset (c := gx) (o := 1) (u := .int .u64 ((mq : Int) + 1)) HS.out.2 (Nat.le_of_lt HG.out)) hb5))
          all_goals
           go_ret
           exact ⟨rfl, HF.out⟩
         | false =>
          have RC := HR0.out (by rw [HUP.out]; rfl)
          clear hl
          go_wp2_with (go_at_call 245; (with_reducible refine (RC _).out.mono ?_); rintro e w5 ⟨rfl, hb5⟩; have HF := hid (bnext HS.out.2 hb5))
          all_goals
           go_ret
           exact ⟨rfl, HF.out⟩
       ·have RC := HR0.out (cut6 n1 m1 pl)
        go_wp2_with (go_at_call 245; (with_reducible refine (RC _).out.mono ?_); rintro e w5 ⟨rfl, hb5⟩; have HF := hid (bnext HS.out.2 hb5))
        all_goals
         go_ret
         exact ⟨rfl, HF.out⟩
       ·have hup := cut7 n1 m1 pl HPL1.out.1
        rw [← HL.out, ← HH.out, ← HQ.out] at hup
        have HUP := hid hup
        have HAND := hid (bits_and_u64_nat mq 1 (by have := HMQ.out; omega) (by decide))
        clear hup
        rcases Nat.lt_trichotomy lost half with hc | hc | hc
        ·have b1 : decide ((half : Int) < (lost : Int)) = false := by simp; omega
         have b1' : decide (half < lost) = false := by simp; omega
         have b2 : ((lost : Int) == (half : Int)) = false := by simp; omega
         have RC := HR0.out (by
          have b4 : (lost == half) = false := by simp; omega
          rw [HUP.out, b1', b4]; rfl)
         clear hc
         go_wp2_with (go_at_call 245; (with_reducible refine (RC _).out.mono ?_); rintro e w5 ⟨rfl, hb5⟩; have HF := hid (bnext HS.out.2 hb5))
         all_goals
          go_ret
          exact ⟨rfl, HF.out⟩
        ·subst hc
         rcases Nat.mod_two_eq_zero_or_one mq with h2 | h2
         ·have hand : bits .and .u64 (mq : Int) 1 = 0 := by
           have := HAND.out
           rw [Nat.and_one_is_mod, h2] at this
           exact this
          have RC := HR0.out (by rw [HUP.out, h2]; simp)
          clear h2
          go_wp2_with (go_at_call 245; (with_reducible refine (RC _).out.mono ?_); rintro e w5 ⟨rfl, hb5⟩; have HF := hid (bnext HS.out.2 hb5))
          all_goals
           go_ret
           exact ⟨rfl, HF.out⟩
         ·have hand : bits .and .u64 (mq : Int) 1 = 1 := by
           have := HAND.out
           rw [Nat.and_one_is_mod, h2] at this
           exact this
          have RC := HR1.out (by rw [HUP.out, h2]; simp)
          clear h2
          go_wp2_with (go_at_call 245; (with_reducible refine (RC _).out.mono ?_); rintro e w5 ⟨rfl, hb5⟩; have HF := hid (bnext (bset (c := gx) (o := 1) (u := .int .u64 ((mq : Int) + 1)) HS.out.2 (Nat.le_of_lt HG.out)) hb5))
          all_goals
           go_ret
           exact ⟨rfl, HF.out⟩
        ·have b1 : decide ((half : Int) < (lost : Int)) = true := by simp; omega
         have b1' : decide (half < lost) = true := by simp; omega
         have RC := HR1.out (by rw [HUP.out, b1']; rfl)
         clear hc
         go_wp2_with (go_at_call 245; (with_reducible refine (RC _).out.mono ?_); rintro e w5 ⟨rfl, hb5⟩; have HF := hid (bnext (bset (c := gx) (o := 1) (u := .int .u64 ((mq : Int) + 1)) HS.out.2 (Nat.le_of_lt HG.out)) hb5))
         all_goals
          go_ret
          exact ⟨rfl, HF.out⟩
end Go.Proofs.YtlhakbkdlgejpaaGreatDoor.Fl
namespace Go.Proofs.YtlhakbkdlgejpaaGreatDoor.Fl
open Go.RowKit
/-- What a cut word comes to. -/
def unW (f : Ieee.Format) (SB INF CAN op a : Nat) : Nat :=
  if op = 1 then a % SB else if op = 2 then oppN SB a else if op = 3 then (f.sqrt a).getD CAN else wholeW f SB INF CAN op a
set_option maxHeartbeats 1600000 in
theorem Un_32_7 (a : Nat) (ha : a < 18446744073709551616) (w : World) :
    Calls Tryz.prog 109 #[.int .i64 32, .int .i64 7, .int .u64 a] w fun e w' => e = .returned (.tuple #[.int .u64 ((unW Ieee.single 2147483648 2139095040 2143289344 7 (a % 4294967296) : Nat) : Int), .int .i64 0]) ∧ Below w.heap.size w w' := by
  have CA := fun w => hid (cut_32 a ha w)
  have ha1 : a % 4294967296 < 4294967296 := by omega
  generalize a % 4294967296 = a1 at *
  have CC : ∀ W, Hid (Calls Tryz.prog 185 #[.agg #[.int .i64 8, .int .i64 23], .int .i64 7, .int .u64 a1] W fun r w' => r = .returned (.int .u64 ((unW Ieee.single 2147483648 2139095040 2143289344 7 a1 : Nat) : Int)) ∧ Below W.heap.size W w') := fun W => hid (whole_32 7 (by decide) a1 ha1 W)
  obtain ⟨RR, hRR⟩ : ∃ RR : Nat, RR = unW Ieee.single 2147483648 2139095040 2143289344 7 a1 := ⟨_, rfl⟩
  rw [← hRR] at CC ⊢
  clear ha ha1 hRR
  go_enter Tryz.func109, Tryz.ntmps109
  go_wp2_with (first
    | (go_at_call 179; ((with_reducible refine (formatOf_32 _).mono ?_); rintro e w1 ⟨rfl, hb1⟩))
    | (go_at_call 180; ((with_reducible refine (known_32 _).mono ?_); rintro e w2 ⟨rfl, hb2⟩; have hS := (Sg.new 8 23 hb1).call hb2; have c0 := hS.1.1; have c1 := hS.1.2))
    | (go_at_call 181; ((with_reducible refine (CA _).out.mono ?_); rintro e w3 ⟨rfl, hb3⟩; replace hS := hS.call hb3; clear c0 c1; have c0 := hS.1.1; have c1 := hS.1.2))
    | (go_at_call 185; ((with_reducible refine (CC _).out.mono ?_); rintro e w4 ⟨rfl, hb4⟩; replace hS := hS.call hb4)))
  go_ret2
  exact ⟨rfl, hS.2.2⟩
end Go.Proofs.YtlhakbkdlgejpaaGreatDoor.Fl
namespace Go.Proofs.YtlhakbkdlgejpaaGreatDoor.Fl
open Go.RowKit
open Ieee
structure Wd (f : Format) (SB : Nat) : Prop where
  sb : f.signWeight = SB
  room : f.infRung + f.binade ≤ SB
theorem wd_single : Wd single 2147483648 := ⟨rfl, by decide⟩
theorem wd_double : Wd double 9223372036854775808 := ⟨rfl, by decide⟩
theorem binade_pos (f : Format) : 0 < f.binade := Nat.two_pow_pos _
theorem word_lt {f : Format} {SB : Nat} (h : Wd f SB) (s : Bool) (r : Nat) (hr : r < SB) : f.word s r < 2 * SB := by
  unfold Format.word
  rw [h.sb]
  split <;> omega
theorem rung_le (f : Format) (n : Nat) (e : Int) : rungOf f n e ≤ f.infRung := by
  unfold rungOf
  split
  · exact Nat.zero_le _
  · exact Nat.min_le_right _ _
theorem write_lt {f : Format} {SB : Nat} (h : Wd f SB) (d : Datum) : f.write d < 2 * SB := by
  have h1 := h.room
  have h2 := binade_pos f
  cases d with
  | number s m p =>
    show f.nearest s m p < _
    rw [nearest_eq]
    have h3 := rung_le f m p
    exact word_lt h s _ (by omega)
  | infinity s => exact word_lt h s _ (by omega)
  | nan s t => exact word_lt h s _ (by have := Nat.mod_lt t h2; omega)
theorem map_lt {f : Format} {SB CAN : Nat} (h : Wd f SB) (o : Option Datum) (hc : CAN < 2 * SB) : (o.map f.write).getD CAN < 2 * SB := by
  cases o with
  | none => exact hc
  | some d => exact write_lt h d
theorem oppN_lt {SB a : Nat} (ha : a < 2 * SB) : oppN SB a < 2 * SB := by
  unfold oppN
  split <;> omega
theorem unW_lt {f : Format} {SB INF CAN : Nat} (h : Wd f SB) (hs : 0 < SB) (hc : CAN < 2 * SB) (op a : Nat) (ha : a < 2 * SB) : unW f SB INF CAN op a < 2 * SB := by
  unfold unW
  by_cases c1 : op = 1
  · rw [if_pos c1]; have := Nat.mod_lt a hs; omega
  rw [if_neg c1]
  by_cases c2 : op = 2
  · rw [if_pos c2]; exact oppN_lt ha
  rw [if_neg c2]
  by_cases c3 : op = 3
  · rw [if_pos c3]; exact map_lt h _ hc
  rw [if_neg c3]
  unfold wholeW
  split
  · exact hc
  · exact write_lt h _
end Go.Proofs.YtlhakbkdlgejpaaGreatDoor.Fl
