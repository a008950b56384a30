/-
  RefBin2, RefBin3, RefBinAny, LRLane, LOps: merged, what the law does not reach left out (each text says what it holds where it lies in wip). No condition.
-/
import Derived.Test.YtlhakbkdlgejpaaGreatDoorK21
import Derived.Deep.QuietTactic
import Derived.BigQuiet
import Derived.Test.YtlhakbkdlgejpaaGreatDoorK17
import Derived.Test.YtlhakbkdlgejpaaGreatDoorK01
import Derived.Test.YtlhakbkdlgejpaaGreatDoorK02
import Derived.Test.YtlhakbkdlgejpaaGreatDoorK16
import Derived.Test.YtlhakbkdlgejpaaGreatDoorK19
set_option linter.unusedSimpArgs false
set_option linter.unusedVariables false
set_option maxRecDepth 100000
namespace Go.Proofs.YtlhakbkdlgejpaaGreatDoor
open Go.RowKit
theorem mul_step (x y i : Nat) : x * (y % 2 ^ (i + 1)) = x * (y % 2 ^ i) + x * 2 ^ i * btN y i := by
  unfold btN
  rw [Nat.pow_succ, Nat.mod_mul, Nat.mul_add, Nat.mul_assoc]
set_option maxRecDepth 100000 in
set_option maxHeartbeats 1600000 in
theorem RBin_3 (n : Nat) (hn : Okn n) (a b : Nat) (ha : a < 18446744073709551616) (hb : b < 18446744073709551616) (w : World) :
    Calls Tryz.prog 151 #[.int .i64 n, .int .i64 3, .int .u64 a, .int .u64 b] w (DivPost w (binR n 3 (a % 2 ^ n) (b % 2 ^ n))) := by
  obtain ⟨h1, h2, h3, h4⟩ := pow_lt64 hn
  have hn8 := hn.le
  have HK := hid (Right_yes n hn w)
  have HX := hid (Cut_any n hn a ha w)
  have HY := hid (Cut_any n hn b hb w)
  obtain ⟨x, hx⟩ : ∃ x : Nat, x = a % 2 ^ n := ⟨_, rfl⟩
  obtain ⟨y, hy⟩ : ∃ y : Nat, y = b % 2 ^ n := ⟨_, rfl⟩
  have hxl : x < 2 ^ n := by rw [hx]; exact Nat.mod_lt _ (Nat.two_pow_pos n)
  have hyl : y < 2 ^ n := by rw [hy]; exact Nat.mod_lt _ (Nat.two_pow_pos n)
  have HSX := hid (RSigned_cut n hn x hxl w)
  have HSY := hid (RSigned_cut n hn y hyl w)
  rw [← hx] at HX
  rw [← hy] at HY
  rw [← hx, ← hy]
  obtain ⟨k, hk⟩ : ∃ k : Nat, k = y % n := ⟨_, rfl⟩
  have hkn : k < n := by rw [hk]; exact Nat.mod_lt _ (by omega)
  have hkk : (y : Int) % (n : Int) = (k : Int) := by rw [hk]; simp
  have hnw := wrap_nat (show n < 18446744073709551616 by omega)
  have hn0 : 0 < (n : Int) := by omega
  have hk64 : k ≤ 63 := by omega
  clear hx hy ha hb
  have hs : binR n 3 x y = (x * y % 2 ^ n, 0) := by rw [binR, if_neg (by decide), if_neg (by decide), if_pos rfl]
  rw [hs]
  have HC : Hid (Calls Tryz.prog 81 #[.int .i64 n, .int .u64 (x * y % 18446744073709551616 : Nat)] w fun e w' => e = .returned (.int .u64 (x * y % 2 ^ n : Nat)) ∧ w = w') := by
    have := Cut_any n hn (x * y % 18446744073709551616) (Nat.mod_lt _ (by decide)) w
    rw [mod_mod64 hn] at this
    exact this
  have HE : Hid (y % 2 ^ n = y) := Nat.mod_eq_of_lt hyl
  have HB : Hid (∀ i : Nat, i ≤ 1000 → Calls Tryz.prog 210 #[.int .u64 y, .int .i64 i] w fun e w' => e = .returned (.int .u64 (btN y i : Nat)) ∧ w = w') := fun i hi => bit_any y i hi (by omega) w
  obtain ⟨s, hse⟩ : ∃ s : Nat, s = x * y % 2 ^ n := ⟨_, rfl⟩
  rw [← hse] at HC ⊢
  have HX64 := hid (show x < 18446744073709551616 by omega)
  have hn64 := hn8.2
  obtain ⟨sx, hsx⟩ : ∃ s, s = sg n x := ⟨_, rfl⟩
  obtain ⟨sy, hsy⟩ : ∃ s, s = sg n y := ⟨_, rfl⟩
  rw [← hsx] at HSX
  rw [← hsy] at HSY
  clear h1 h2 h3 h4 hn hxl hyl hs hse hsx hsy hk hn8
  go_enter Tryz.func151, Tryz.ntmps151
  repeat' (first
    | (with_reducible refine wp_exit ?_; repeat (first | with_reducible refine ex_norm ?_ | with_reducible refine ex_then ?_ | with_reducible refine ex_here ?_ | with_reducible refine ex_pass rfl ?_))
    | (go_big_may; first
      | (go_at_call 196; refine HK.out.mono ?_; rintro e w' ⟨rfl, rfl⟩)
      | (go_at_call 81; ((with_reducible refine HX.out.mono ?_); rintro e w' ⟨rfl, rfl⟩))
      | (go_at_call 81; ((with_reducible refine HY.out.mono ?_); rintro e w' ⟨rfl, rfl⟩))
      | (go_at_call 143; ((with_reducible refine HSX.out.mono ?_); rintro e w' ⟨rfl, rfl⟩))
      | (go_at_call 143; ((with_reducible refine HSY.out.mono ?_); rintro e w' ⟨rfl, rfl⟩)))
    | go_values | go_skip | go_guarded | go_step | go_upon | go_back | dsimp only)
  clear hkk
  go_loop [2, 14, 15] (fun va vs vi => ∃ i : Nat, i ≤ n ∧ vi = .int .i64 i ∧ va = .int .u64 ((x * 2 ^ i % 18446744073709551616 : Nat) : Int) ∧ vs = .int .u64 ((x * (y % 2 ^ i) % 18446744073709551616 : Nat) : Int)) (fun _ _ vi => n - (intOf vi).toNat)
  case atStart => exact ⟨0, Nat.zero_le _, rfl, by rw [Nat.pow_zero, Nat.mul_one, Nat.mod_eq_of_lt HX64.out], by rw [Nat.pow_zero, Nat.mod_one, Nat.mul_zero]; rfl⟩
  case round =>
    obtain ⟨i, hi, rfl, rfl, rfl⟩ := hrel
    by_cases hlt : i < n
    · have hst := mul_step x y i
      have hpw : x * 2 ^ (i + 1) = x * 2 ^ i * 2 := by rw [Nat.pow_succ, Nat.mul_assoc]
      have hBt := HB.out i (by omega)
      have hb := btN_le y i
      obtain ⟨t, ht⟩ : ∃ t : Nat, t = btN y i := ⟨_, rfl⟩
      rw [← ht] at hst hBt hb
      obtain ⟨A, hA⟩ : ∃ A : Nat, A = x * 2 ^ i := ⟨_, rfl⟩
      obtain ⟨S, hS⟩ : ∃ S : Nat, S = x * (y % 2 ^ i) := ⟨_, rfl⟩
      rw [← hA] at hst hpw
      rw [← hS] at hst
      rw [← hA, ← hS]
      obtain ⟨c, hc⟩ : ∃ c : Nat, c = A % 18446744073709551616 := ⟨_, rfl⟩
      obtain ⟨d, hd⟩ : ∃ d : Nat, d = S % 18446744073709551616 := ⟨_, rfl⟩
      have hw1 : IntKind.u64.wrap ((c : Int) * 2) = ((x * 2 ^ (i + 1) % 18446744073709551616 : Nat) : Int) := by
        rw [hpw, IntKind.wrap_u64]; omega
      obtain ⟨c2, hc2⟩ : ∃ c2 : Nat, c2 = x * 2 ^ (i + 1) % 18446744073709551616 := ⟨_, rfl⟩
      rw [← hc2] at hw1
      have HC2 := hid hc2
      rw [← hc, ← hd]
      have ht2 : t = 0 ∨ t = 1 := by omega
      rcases ht2 with rfl | rfl
      · have e : x * (y % 2 ^ (i + 1)) % 18446744073709551616 = d := by rw [hst, hd]; simp
        have HE2 := hid e
        have HBt : Hid (Calls Tryz.prog 210 #[.int .u64 y, .int .i64 i] w fun e w' => e = .returned (.int .u64 0) ∧ w = w') := hBt
        clear hst hpw hBt hb ht hA hS hc hd hc2 e
        go_wp2_with (go_at_call 210; refine HBt.out.mono ?_; rintro e w' ⟨rfl, rfl⟩)
        go_round
        case rel => exact ⟨i + 1, by omega, by go_num, by rw [HC2.out], by rw [HE2.out]⟩
        case measure => simp [intOf]; omega
      · have hw2 : IntKind.u64.wrap ((d : Int) + (c : Int)) = ((x * (y % 2 ^ (i + 1)) % 18446744073709551616 : Nat) : Int) := by
          rw [hst, IntKind.wrap_u64, Nat.mul_one]; omega
        obtain ⟨d2, hd2⟩ : ∃ d2 : Nat, d2 = x * (y % 2 ^ (i + 1)) % 18446744073709551616 := ⟨_, rfl⟩
        rw [← hd2] at hw2
        have HD2 := hid hd2
        have HBt : Hid (Calls Tryz.prog 210 #[.int .u64 y, .int .i64 i] w fun e w' => e = .returned (.int .u64 1) ∧ w = w') := hBt
        clear hst hpw hBt hb ht hA hS hc hd hc2 hd2
        go_wp2_with (go_at_call 210; refine HBt.out.mono ?_; rintro e w' ⟨rfl, rfl⟩)
        go_round
        case rel => exact ⟨i + 1, by omega, by go_num, by rw [HC2.out], by rw [HD2.out]⟩
        case measure => simp [intOf]; omega
    · obtain rfl : i = n := by omega
      rw [HE.out]
      obtain ⟨v, hv⟩ : ∃ v : Nat, v = x * y % 18446744073709551616 := ⟨_, rfl⟩
      rw [← hv] at HC ⊢
      clear hv
      go_wp2_with (go_at_call 81; refine HC.out.mono ?_; rintro e w' ⟨rfl, rfl⟩)
      go_ret2
      exact div_post rfl rfl (Below.refl _ _)
end Go.Proofs.YtlhakbkdlgejpaaGreatDoor
namespace Go.Proofs.YtlhakbkdlgejpaaGreatDoor
open Go.RowKit
theorem own_below2 {w w' : World} {B base : Nat} {e : TypeId} {size n cap g : Nat} {xs : List Value} (h : w.ownsRow base e size (.slice (some ⟨g, 0, none⟩) n cap) n xs) (hb : Below B w w') (hg : g < B) : w'.ownsRow base e size (.slice (some ⟨g, 0, none⟩) n cap) n xs := by
  refine ⟨h.1, ?_⟩
  rcases h.2 with h | ⟨g', cap', cur, h1, h2, h3, h4⟩
  · exact .inl h
  · have e : g' = g := by injection h1 with a b c; injection a with a; injection a with a _; exact a.symm
    subst e
    exact .inr ⟨g', cap', cur, h1, h2, (hb.block g' hg).trans h3, h4⟩
/-- Behind i rounds and a store of c: the other number's bits as they were, i bits of the result, c. -/
def BwMid (w : World) (g1 g2 cap n x y : Nat) (F : Nat → Nat) (i c : Nat) (wr : World) : Prop :=
  g1 ≠ g2 ∧ w.heap.size ≤ g1 ∧ (∀ j, j < n → wr.cell? ⟨g2, j, none⟩ = some (.int .u64 (btN y j : Nat))) ∧
    wr.ownsRow w.heap.size 22 1 (.slice (some ⟨g1, 0, none⟩) n cap) n (fc n (fun j => if j = i then c else if j < i then F j else btN x j)) ∧ Below w.heap.size w wr
theorem bw_start {w w1 w2 : World} {g1 g2 c1 c2 n x y : Nat} {F : Nat → Nat} (hown1 : w1.ownsRow w.heap.size 22 1 (.slice (some ⟨g1, 0, none⟩) n c1) n (fc n (btN x))) (hB1 : Below w.heap.size w w1)
    (hown2 : w2.ownsRow w1.heap.size 22 1 (.slice (some ⟨g2, 0, none⟩) n c2) n (fc n (btN y))) (hB2 : Below w1.heap.size w1 w2) : BwMid w g1 g2 c1 n x y F 0 (btN x 0) w2 := by
  have h1 := hown1.lt g1 rfl
  have h2 := hown2.lt g2 rfl
  have hsz := hB1.size
  refine ⟨by omega, h1.1, fun j hj => ?_, ?_, hB1.trans (hB2.mono hsz)⟩
  · rw [hown2.cellAt j (by omega), fc_get hj]
  · rw [fc_congr (g := btN x) (fun j _ => by
      by_cases hj : j = 0
      · subst hj; simp
      · simp [hj])]
    exact own_below2 hown1 hB2 h1.2
theorem bw_next {w wr : World} {g1 g2 cap n x y i c : Nat} {F : Nat → Nat} (h : BwMid w g1 g2 cap n x y F i c wr) (hF : F i = c) : BwMid w g1 g2 cap n x y F (i + 1) (btN x (i + 1)) wr := by
  obtain ⟨h1, h2, h3, h4, h5⟩ := h
  refine ⟨h1, h2, h3, ?_, h5⟩
  rw [fc_congr (g := fun j => if j = i then c else if j < i then F j else btN x j) (fun j _ => by
    by_cases hj : j = i
    · subst hj; simp [hF]
    · by_cases hj2 : j = i + 1
      · subst hj2; simp [show ¬ i + 1 < i by omega]
      · by_cases hlt : j < i
        · simp [hj, hj2, hlt, show j < i + 1 by omega]
        · simp [hj, hj2, hlt, show ¬ j < i + 1 by omega])]
  exact h4
theorem bw_drew {w wr : World} {g1 g2 cap n x y i c q : Nat} {F : Nat → Nat} (h : BwMid w g1 g2 cap n x y F i c wr) : BwMid w g1 g2 cap n x y F i c (wr.drewN q) := by
  obtain ⟨h1, h2, h3, h4, h5⟩ := h
  exact ⟨h1, h2, h3, h4, ⟨h5.os, h5.tape, h5.output, h5.size, h5.block⟩⟩
theorem bw_store {w wr : World} {g1 g2 cap n x y i c : Nat} {F : Nat → Nat} (h : BwMid w g1 g2 cap n x y F i c wr) (d : Nat) : BwMid w g1 g2 cap n x y F i d (wr.setCell ⟨g1, i, none⟩ (.int .u64 (d : Nat))) := by
  obtain ⟨h1, h2, h3, h4, h5⟩ := h
  refine ⟨h1, h2, fun j hj => ?_, ?_, h5.setCell (p := ⟨g1, i, none⟩) h2 _⟩
  · rw [World.cell?_setCell_other wr ⟨g1, i, none⟩ ⟨g2, j, none⟩ _ (fun e => by injection e with e1; omega)]
    exact h3 j hj
  · have := (h4.stored i (.int .u64 (d : Nat))).1
    rw [fc_set] at this
    rw [fc_congr (g := fun j => if j = i then d else if j = i then c else if j < i then F j else btN x j) (fun j _ => by
      by_cases hj : j = i
      · simp [hj]
      · simp [hj])]
    exact this
theorem bw_store0 {w wr : World} {g1 g2 cap n x y i c : Nat} {F : Nat → Nat} (h : BwMid w g1 g2 cap n x y F i c wr) : BwMid w g1 g2 cap n x y F i 0 (wr.setCell ⟨g1, i, none⟩ (.int .u64 0)) := bw_store h 0
theorem bw_store1 {w wr : World} {g1 g2 cap n x y i c : Nat} {F : Nat → Nat} (h : BwMid w g1 g2 cap n x y F i c wr) : BwMid w g1 g2 cap n x y F i 1 (wr.setCell ⟨g1, i, none⟩ (.int .u64 1)) := bw_store h 1
theorem bw_cells {w wr : World} {g1 g2 cap n x y i c : Nat} {F : Nat → Nat} (h : BwMid w g1 g2 cap n x y F i c wr) (hi : i < n) : wr.cell? ⟨g1, i, none⟩ = some (.int .u64 (c : Nat)) ∧ wr.frozen? ⟨g1, i, none⟩ = false ∧ wr.cell? ⟨g2, i, none⟩ = some (.int .u64 (btN y i : Nat)) := by
  obtain ⟨h1, h2, h3, h4, h5⟩ := h
  refine ⟨?_, h4.frozenAt i, h3 i hi⟩
  rw [h4.cellAt i (by omega), fc_get hi]
  simp
theorem bw_end {w wr : World} {g1 g2 cap n x y i c : Nat} {F : Nat → Nat} (h : BwMid w g1 g2 cap n x y F i c wr) (hi : n ≤ i) : wr.ownsRow w.heap.size 22 1 (.slice (some ⟨g1, 0, none⟩) n cap) n (fc n F) ∧ Below w.heap.size w wr := by
  obtain ⟨h1, h2, h3, h4, h5⟩ := h
  refine ⟨?_, h5⟩
  rw [fc_congr (g := fun j => if j = i then c else if j < i then F j else btN x j) (fun j hj => by simp [show j < i by omega, show j ≠ i by omega])]
  exact h4
theorem own_cap {w : World} {base n cap g : Nat} {xs : List Value} (h : w.ownsRow base 22 1 (.slice (some ⟨g, 0, none⟩) n cap) n xs) : n ≤ cap := by
  rcases h.2 with ⟨h, _⟩ | ⟨g', cap', cur, h, _, _, hnc, _⟩
  · simp at h
  · injection h with h1 h2 h3
    omega
/-- Two bits, by an operation. -/
def bwF (op s t : Nat) : Nat := if op = 8 then (if s + t = 2 then 1 else 0) else if op = 9 then (if 0 < s + t then 1 else 0) else (if s + t = 1 then 1 else 0)
theorem bwF_le (op s t : Nat) : bwF op s t ≤ 1 := by unfold bwF; repeat' split
                                                     all_goals omega
theorem bw_bits {n op x y : Nat} (hop : op = 8 ∨ op = 9 ∨ op = 10) (hx : x < 2 ^ n) (hy : y < 2 ^ n) : binR n op x y = (ofF n (fun j => bwF op (btN x j) (btN y j)), 0) := by
  have hb : ∀ j, (btN x j = 0 ∨ btN x j = 1) ∧ (btN y j = 0 ∨ btN y j = 1) := fun j => ⟨by have := btN_le x j; omega, by have := btN_le y j; omega⟩
  rcases hop with rfl | rfl | rfl
  · have e : ofF n (fun j => bwF 8 (btN x j) (btN y j)) = x &&& y := ofF_eq (fun j => bwF_le _ _ _) (Nat.and_lt_two_pow _ hy) (fun i _ => by
      rw [Nat.testBit_and, ← btN_bit, ← btN_bit]
      obtain ⟨h1 | h1, h2 | h2⟩ := hb i <;> rw [h1, h2] <;> rfl)
    rw [e]; rfl
  · have e : ofF n (fun j => bwF 9 (btN x j) (btN y j)) = x ||| y := ofF_eq (fun j => bwF_le _ _ _) (Nat.or_lt_two_pow hx hy) (fun i _ => by
      rw [Nat.testBit_or, ← btN_bit, ← btN_bit]
      obtain ⟨h1 | h1, h2 | h2⟩ := hb i <;> rw [h1, h2] <;> rfl)
    rw [e]; rfl
  · have e : ofF n (fun j => bwF 10 (btN x j) (btN y j)) = x ^^^ y := ofF_eq (fun j => bwF_le _ _ _) (Nat.xor_lt_two_pow hx hy) (fun i _ => by
      rw [Nat.testBit_xor, ← btN_bit, ← btN_bit]
      obtain ⟨h1 | h1, h2 | h2⟩ := hb i <;> rw [h1, h2] <;> rfl)
    rw [e]; rfl
set_option maxRecDepth 100000 in
set_option maxHeartbeats 1600000 in
theorem RBin_8 (n : Nat) (hn : Okn n) (a b : Nat) (ha : a < 18446744073709551616) (hb : b < 18446744073709551616) (w : World) :
    Calls Tryz.prog 151 #[.int .i64 n, .int .i64 8, .int .u64 a, .int .u64 b] w (DivPost w (binR n 8 (a % 2 ^ n) (b % 2 ^ n))) := by
  obtain ⟨h1, h2, h3, h4⟩ := pow_lt64 hn
  have hn8 := hn.le
  have HK := hid (Right_yes n hn w)
  have HX := hid (Cut_any n hn a ha w)
  have HY := hid (Cut_any n hn b hb w)
  obtain ⟨x, hx⟩ : ∃ x : Nat, x = a % 2 ^ n := ⟨_, rfl⟩
  obtain ⟨y, hy⟩ : ∃ y : Nat, y = b % 2 ^ n := ⟨_, rfl⟩
  have hxl : x < 2 ^ n := by rw [hx]; exact Nat.mod_lt _ (Nat.two_pow_pos n)
  have hyl : y < 2 ^ n := by rw [hy]; exact Nat.mod_lt _ (Nat.two_pow_pos n)
  have HSX := hid (RSigned_cut n hn x hxl w)
  have HSY := hid (RSigned_cut n hn y hyl w)
  rw [← hx] at HX
  rw [← hy] at HY
  rw [← hx, ← hy]
  obtain ⟨k, hk⟩ : ∃ k : Nat, k = y % n := ⟨_, rfl⟩
  have hkn : k < n := by rw [hk]; exact Nat.mod_lt _ (by omega)
  have hkk : (y : Int) % (n : Int) = (k : Int) := by rw [hk]; simp
  have hnw := wrap_nat (show n < 18446744073709551616 by omega)
  have hn0 : 0 < (n : Int) := by omega
  have hk64 : k ≤ 63 := by omega
  clear hx hy ha hb
  rw [bw_bits (by decide) hxl hyl]
  have hn1 : 1 ≤ n := by omega
  have hn64 : n ≤ 64 := hn8.2
  have HL1 := fun W => list_any n hn64 x (by omega) W
  have HL2 := fun W => list_any n hn64 y (by omega) W
  have H1 := hid HL1
  have H2 := hid HL2
  obtain ⟨sx, hsx⟩ : ∃ s, s = sg n x := ⟨_, rfl⟩
  obtain ⟨sy, hsy⟩ : ∃ s, s = sg n y := ⟨_, rfl⟩
  rw [← hsx] at HSX
  rw [← hsy] at HSY
  clear h1 h2 h3 h4 hn hxl hyl hsx hsy hk hn8 HL1 HL2
  go_enter Tryz.func151, Tryz.ntmps151
  repeat' (first
    | (with_reducible refine wp_exit ?_; repeat (first | with_reducible refine ex_norm ?_ | with_reducible refine ex_then ?_ | with_reducible refine ex_here ?_ | with_reducible refine ex_pass rfl ?_))
    | (go_big_may; first
      | (go_at_call 196; refine HK.out.mono ?_; rintro e w' ⟨rfl, rfl⟩)
      | (go_at_call 81; ((with_reducible refine HX.out.mono ?_); rintro e w' ⟨rfl, rfl⟩))
      | (go_at_call 81; ((with_reducible refine HY.out.mono ?_); rintro e w' ⟨rfl, rfl⟩))
      | (go_at_call 143; ((with_reducible refine HSX.out.mono ?_); rintro e w' ⟨rfl, rfl⟩))
      | (go_at_call 143; ((with_reducible refine HSY.out.mono ?_); rintro e w' ⟨rfl, rfl⟩))
      | (go_at_call 228; ((with_reducible refine (H1.out _).mono ?_); rintro e w1 ⟨v1, rfl, hown1, hB1⟩; have K1 := hid hown1; have K2 := hid hB1; clear hown1 hB1))
      | (go_at_call 228; ((with_reducible refine (H2.out _).mono ?_); rintro e w2 ⟨v2, rfl, hown2, hB2⟩; have K3 := hid hown2; have K4 := hid hB2; clear hown2 hB2)))
    | go_values | go_skip | go_guarded | go_step | go_upon | go_back | dsimp only)
  obtain ⟨g1, c1, rfl⟩ := owned_at K1.out hn1
  obtain ⟨g2, c2, rfl⟩ := owned_at K3.out hn1
  have hcap1 := own_cap K1.out
  have hcap2 := own_cap K3.out
  have HS := hid (bw_start (F := fun j => bwF 8 (btN x j) (btN y j)) K1.out K2.out K3.out K4.out)
  clear K1 K2 K3 K4 hkk
  have hw0 : IntKind.u64.wrap 0 = 0 := by decide
  have hw1 : IntKind.u64.wrap 1 = 1 := by decide
  have hw2 : IntKind.u64.wrap 2 = 2 := by decide
  go_loopw [18] (fun vi wr => ∃ i : Nat, i ≤ n ∧ vi = .int .i64 i ∧ BwMid w g1 g2 c1 n x y (fun j => bwF 8 (btN x j) (btN y j)) i (btN x i) wr) (fun vi _ => n - (intOf vi).toNat)
  case atStart => exact ⟨0, Nat.zero_le _, rfl, HS.out⟩
  case round =>
    obtain ⟨i, hi, rfl, hI⟩ := hrel
    by_cases hlt : i < n
    · obtain ⟨q1, q2, q3⟩ := bw_cells hI hlt
      have hb1 : btN x i = 0 ∨ btN x i = 1 := by have := btN_le x i; omega
      have hb2 : btN y i = 0 ∨ btN y i = 1 := by have := btN_le y i; omega
      have HI := hid hI
      clear hI
      rcases hb1 with hb1 | hb1 <;> rcases hb2 with hb2 | hb2 <;> rw [hb1] at q1 <;> rw [hb2] at q3
      · have HF : Hid (bwF 8 (btN x i) (btN y i) = 0) := by rw [hb1, hb2]; rfl
        clear hb1 hb2
        simp only [Int.natCast_zero] at q1
        simp only [Int.natCast_zero] at q3
        go_wp2
        go_quiet (fail)
        go_wp2
        go_roundw
        case rel => exact ⟨i + 1, by omega, by go_num, bw_next (bw_store0 (bw_drew HI.out)) HF.out⟩
        case measure => simp [intOf]; omega
      · have HF : Hid (bwF 8 (btN x i) (btN y i) = 0) := by rw [hb1, hb2]; rfl
        clear hb1 hb2
        simp only [Int.natCast_zero] at q1
        simp only [Int.natCast_one] at q3
        go_wp2
        go_quiet (fail)
        go_wp2
        go_roundw
        case rel => exact ⟨i + 1, by omega, by go_num, bw_next (bw_store0 (bw_drew HI.out)) HF.out⟩
        case measure => simp [intOf]; omega
      · have HF : Hid (bwF 8 (btN x i) (btN y i) = 0) := by rw [hb1, hb2]; rfl
        clear hb1 hb2
        simp only [Int.natCast_one] at q1
        simp only [Int.natCast_zero] at q3
        go_wp2
        go_quiet (fail)
        go_wp2
        go_roundw
        case rel => exact ⟨i + 1, by omega, by go_num, bw_next (bw_store0 (bw_drew HI.out)) HF.out⟩
        case measure => simp [intOf]; omega
      · have HF : Hid (bwF 8 (btN x i) (btN y i) = 1) := by rw [hb1, hb2]; rfl
        clear hb1 hb2
        simp only [Int.natCast_one] at q1
        simp only [Int.natCast_one] at q3
        go_wp2
        go_quiet (fail)
        go_wp2
        go_roundw
        case rel => exact ⟨i + 1, by omega, by go_num, bw_next (bw_store1 (bw_store0 (bw_drew HI.out))) HF.out⟩
        case measure => simp [intOf]; omega
    · have hE := bw_end hI (by omega)
      have HOf := hid (of_any n hn1 hn64 _ (fun j => bwF_le _ _ _) wr w.heap.size _ hE.1)
      have HB := hid hE.2
      clear hE hI
      go_wp2_with (go_at_call 229; refine HOf.out.mono ?_; rintro e w' ⟨rfl, rfl⟩)
      go_ret2
      exact div_post rfl rfl HB.out
set_option maxRecDepth 100000 in
set_option maxHeartbeats 1600000 in
theorem RBin_9 (n : Nat) (hn : Okn n) (a b : Nat) (ha : a < 18446744073709551616) (hb : b < 18446744073709551616) (w : World) :
    Calls Tryz.prog 151 #[.int .i64 n, .int .i64 9, .int .u64 a, .int .u64 b] w (DivPost w (binR n 9 (a % 2 ^ n) (b % 2 ^ n))) := by
  obtain ⟨h1, h2, h3, h4⟩ := pow_lt64 hn
  have hn8 := hn.le
  have HK := hid (Right_yes n hn w)
  have HX := hid (Cut_any n hn a ha w)
  have HY := hid (Cut_any n hn b hb w)
  obtain ⟨x, hx⟩ : ∃ x : Nat, x = a % 2 ^ n := ⟨_, rfl⟩
  obtain ⟨y, hy⟩ : ∃ y : Nat, y = b % 2 ^ n := ⟨_, rfl⟩
  have hxl : x < 2 ^ n := by rw [hx]; exact Nat.mod_lt _ (Nat.two_pow_pos n)
  have hyl : y < 2 ^ n := by rw [hy]; exact Nat.mod_lt _ (Nat.two_pow_pos n)
  have HSX := hid (RSigned_cut n hn x hxl w)
  have HSY := hid (RSigned_cut n hn y hyl w)
  rw [← hx] at HX
  rw [← hy] at HY
  rw [← hx, ← hy]
  obtain ⟨k, hk⟩ : ∃ k : Nat, k = y % n := ⟨_, rfl⟩
  have hkn : k < n := by rw [hk]; exact Nat.mod_lt _ (by omega)
  have hkk : (y : Int) % (n : Int) = (k : Int) := by rw [hk]; simp
  have hnw := wrap_nat (show n < 18446744073709551616 by omega)
  have hn0 : 0 < (n : Int) := by omega
  have hk64 : k ≤ 63 := by omega
  clear hx hy ha hb
  rw [bw_bits (by decide) hxl hyl]
  have hn1 : 1 ≤ n := by omega
  have hn64 : n ≤ 64 := hn8.2
  have HL1 := fun W => list_any n hn64 x (by omega) W
  have HL2 := fun W => list_any n hn64 y (by omega) W
  have H1 := hid HL1
  have H2 := hid HL2
  obtain ⟨sx, hsx⟩ : ∃ s, s = sg n x := ⟨_, rfl⟩
  obtain ⟨sy, hsy⟩ : ∃ s, s = sg n y := ⟨_, rfl⟩
  rw [← hsx] at HSX
  rw [← hsy] at HSY
  clear h1 h2 h3 h4 hn hxl hyl hsx hsy hk hn8 HL1 HL2
  go_enter Tryz.func151, Tryz.ntmps151
  repeat' (first
    | (with_reducible refine wp_exit ?_; repeat (first | with_reducible refine ex_norm ?_ | with_reducible refine ex_then ?_ | with_reducible refine ex_here ?_ | with_reducible refine ex_pass rfl ?_))
    | (go_big_may; first
      | (go_at_call 196; refine HK.out.mono ?_; rintro e w' ⟨rfl, rfl⟩)
      | (go_at_call 81; ((with_reducible refine HX.out.mono ?_); rintro e w' ⟨rfl, rfl⟩))
      | (go_at_call 81; ((with_reducible refine HY.out.mono ?_); rintro e w' ⟨rfl, rfl⟩))
      | (go_at_call 143; ((with_reducible refine HSX.out.mono ?_); rintro e w' ⟨rfl, rfl⟩))
      | (go_at_call 143; ((with_reducible refine HSY.out.mono ?_); rintro e w' ⟨rfl, rfl⟩))
      | (go_at_call 228; ((with_reducible refine (H1.out _).mono ?_); rintro e w1 ⟨v1, rfl, hown1, hB1⟩; have K1 := hid hown1; have K2 := hid hB1; clear hown1 hB1))
      | (go_at_call 228; ((with_reducible refine (H2.out _).mono ?_); rintro e w2 ⟨v2, rfl, hown2, hB2⟩; have K3 := hid hown2; have K4 := hid hB2; clear hown2 hB2)))
    | go_values | go_skip | go_guarded | go_step | go_upon | go_back | dsimp only)
  obtain ⟨g1, c1, rfl⟩ := owned_at K1.out hn1
  obtain ⟨g2, c2, rfl⟩ := owned_at K3.out hn1
  have hcap1 := own_cap K1.out
  have hcap2 := own_cap K3.out
  have HS := hid (bw_start (F := fun j => bwF 9 (btN x j) (btN y j)) K1.out K2.out K3.out K4.out)
  clear K1 K2 K3 K4 hkk
  have hw0 : IntKind.u64.wrap 0 = 0 := by decide
  have hw1 : IntKind.u64.wrap 1 = 1 := by decide
  have hw2 : IntKind.u64.wrap 2 = 2 := by decide
  go_loopw [18] (fun vi wr => ∃ i : Nat, i ≤ n ∧ vi = .int .i64 i ∧ BwMid w g1 g2 c1 n x y (fun j => bwF 9 (btN x j) (btN y j)) i (btN x i) wr) (fun vi _ => n - (intOf vi).toNat)
  case atStart => exact ⟨0, Nat.zero_le _, rfl, HS.out⟩
  case round =>
    obtain ⟨i, hi, rfl, hI⟩ := hrel
    by_cases hlt : i < n
    · obtain ⟨q1, q2, q3⟩ := bw_cells hI hlt
      have hb1 : btN x i = 0 ∨ btN x i = 1 := by have := btN_le x i; omega
      have hb2 : btN y i = 0 ∨ btN y i = 1 := by have := btN_le y i; omega
      have HI := hid hI
      clear hI
      rcases hb1 with hb1 | hb1 <;> rcases hb2 with hb2 | hb2 <;> rw [hb1] at q1 <;> rw [hb2] at q3
      · have HF : Hid (bwF 9 (btN x i) (btN y i) = 0) := by rw [hb1, hb2]; rfl
        clear hb1 hb2
        simp only [Int.natCast_zero] at q1
        simp only [Int.natCast_zero] at q3
        go_wp2
        go_quiet (fail)
        go_wp2
        go_roundw
        case rel => exact ⟨i + 1, by omega, by go_num, bw_next (bw_store0 (bw_drew HI.out)) HF.out⟩
        case measure => simp [intOf]; omega
      · have HF : Hid (bwF 9 (btN x i) (btN y i) = 1) := by rw [hb1, hb2]; rfl
        clear hb1 hb2
        simp only [Int.natCast_zero] at q1
        simp only [Int.natCast_one] at q3
        go_wp2
        go_quiet (fail)
        go_wp2
        go_roundw
        case rel => exact ⟨i + 1, by omega, by go_num, bw_next (bw_store1 (bw_store0 (bw_drew HI.out))) HF.out⟩
        case measure => simp [intOf]; omega
      · have HF : Hid (bwF 9 (btN x i) (btN y i) = 1) := by rw [hb1, hb2]; rfl
        clear hb1 hb2
        simp only [Int.natCast_one] at q1
        simp only [Int.natCast_zero] at q3
        go_wp2
        go_quiet (fail)
        go_wp2
        go_roundw
        case rel => exact ⟨i + 1, by omega, by go_num, bw_next (bw_store1 (bw_store0 (bw_drew HI.out))) HF.out⟩
        case measure => simp [intOf]; omega
      · have HF : Hid (bwF 9 (btN x i) (btN y i) = 1) := by rw [hb1, hb2]; rfl
        clear hb1 hb2
        simp only [Int.natCast_one] at q1
        simp only [Int.natCast_one] at q3
        go_wp2
        go_quiet (fail)
        go_wp2
        go_roundw
        case rel => exact ⟨i + 1, by omega, by go_num, bw_next (bw_store1 (bw_store0 (bw_drew HI.out))) HF.out⟩
        case measure => simp [intOf]; omega
    · have hE := bw_end hI (by omega)
      have HOf := hid (of_any n hn1 hn64 _ (fun j => bwF_le _ _ _) wr w.heap.size _ hE.1)
      have HB := hid hE.2
      clear hE hI
      go_wp2_with (go_at_call 229; refine HOf.out.mono ?_; rintro e w' ⟨rfl, rfl⟩)
      go_ret2
      exact div_post rfl rfl HB.out
set_option maxRecDepth 100000 in
set_option maxHeartbeats 1600000 in
theorem RBin_10 (n : Nat) (hn : Okn n) (a b : Nat) (ha : a < 18446744073709551616) (hb : b < 18446744073709551616) (w : World) :
    Calls Tryz.prog 151 #[.int .i64 n, .int .i64 10, .int .u64 a, .int .u64 b] w (DivPost w (binR n 10 (a % 2 ^ n) (b % 2 ^ n))) := by
  obtain ⟨h1, h2, h3, h4⟩ := pow_lt64 hn
  have hn8 := hn.le
  have HK := hid (Right_yes n hn w)
  have HX := hid (Cut_any n hn a ha w)
  have HY := hid (Cut_any n hn b hb w)
  obtain ⟨x, hx⟩ : ∃ x : Nat, x = a % 2 ^ n := ⟨_, rfl⟩
  obtain ⟨y, hy⟩ : ∃ y : Nat, y = b % 2 ^ n := ⟨_, rfl⟩
  have hxl : x < 2 ^ n := by rw [hx]; exact Nat.mod_lt _ (Nat.two_pow_pos n)
  have hyl : y < 2 ^ n := by rw [hy]; exact Nat.mod_lt _ (Nat.two_pow_pos n)
  have HSX := hid (RSigned_cut n hn x hxl w)
  have HSY := hid (RSigned_cut n hn y hyl w)
  rw [← hx] at HX
  rw [← hy] at HY
  rw [← hx, ← hy]
  obtain ⟨k, hk⟩ : ∃ k : Nat, k = y % n := ⟨_, rfl⟩
  have hkn : k < n := by rw [hk]; exact Nat.mod_lt _ (by omega)
  have hkk : (y : Int) % (n : Int) = (k : Int) := by rw [hk]; simp
  have hnw := wrap_nat (show n < 18446744073709551616 by omega)
  have hn0 : 0 < (n : Int) := by omega
  have hk64 : k ≤ 63 := by omega
  clear hx hy ha hb
  rw [bw_bits (by decide) hxl hyl]
  have hn1 : 1 ≤ n := by omega
  have hn64 : n ≤ 64 := hn8.2
  have HL1 := fun W => list_any n hn64 x (by omega) W
  have HL2 := fun W => list_any n hn64 y (by omega) W
  have H1 := hid HL1
  have H2 := hid HL2
  obtain ⟨sx, hsx⟩ : ∃ s, s = sg n x := ⟨_, rfl⟩
  obtain ⟨sy, hsy⟩ : ∃ s, s = sg n y := ⟨_, rfl⟩
  rw [← hsx] at HSX
  rw [← hsy] at HSY
  clear h1 h2 h3 h4 hn hxl hyl hsx hsy hk hn8 HL1 HL2
  go_enter Tryz.func151, Tryz.ntmps151
  repeat' (first
    | (with_reducible refine wp_exit ?_; repeat (first | with_reducible refine ex_norm ?_ | with_reducible refine ex_then ?_ | with_reducible refine ex_here ?_ | with_reducible refine ex_pass rfl ?_))
    | (go_big_may; first
      | (go_at_call 196; refine HK.out.mono ?_; rintro e w' ⟨rfl, rfl⟩)
      | (go_at_call 81; ((with_reducible refine HX.out.mono ?_); rintro e w' ⟨rfl, rfl⟩))
      | (go_at_call 81; ((with_reducible refine HY.out.mono ?_); rintro e w' ⟨rfl, rfl⟩))
      | (go_at_call 143; ((with_reducible refine HSX.out.mono ?_); rintro e w' ⟨rfl, rfl⟩))
      | (go_at_call 143; ((with_reducible refine HSY.out.mono ?_); rintro e w' ⟨rfl, rfl⟩))
      | (go_at_call 228; ((with_reducible refine (H1.out _).mono ?_); rintro e w1 ⟨v1, rfl, hown1, hB1⟩; have K1 := hid hown1; have K2 := hid hB1; clear hown1 hB1))
      | (go_at_call 228; ((with_reducible refine (H2.out _).mono ?_); rintro e w2 ⟨v2, rfl, hown2, hB2⟩; have K3 := hid hown2; have K4 := hid hB2; clear hown2 hB2)))
    | go_values | go_skip | go_guarded | go_step | go_upon | go_back | dsimp only)
  obtain ⟨g1, c1, rfl⟩ := owned_at K1.out hn1
  obtain ⟨g2, c2, rfl⟩ := owned_at K3.out hn1
  have hcap1 := own_cap K1.out
  have hcap2 := own_cap K3.out
  have HS := hid (bw_start (F := fun j => bwF 10 (btN x j) (btN y j)) K1.out K2.out K3.out K4.out)
  clear K1 K2 K3 K4 hkk
  have hw0 : IntKind.u64.wrap 0 = 0 := by decide
  have hw1 : IntKind.u64.wrap 1 = 1 := by decide
  have hw2 : IntKind.u64.wrap 2 = 2 := by decide
  go_loopw [18] (fun vi wr => ∃ i : Nat, i ≤ n ∧ vi = .int .i64 i ∧ BwMid w g1 g2 c1 n x y (fun j => bwF 10 (btN x j) (btN y j)) i (btN x i) wr) (fun vi _ => n - (intOf vi).toNat)
  case atStart => exact ⟨0, Nat.zero_le _, rfl, HS.out⟩
  case round =>
    obtain ⟨i, hi, rfl, hI⟩ := hrel
    by_cases hlt : i < n
    · obtain ⟨q1, q2, q3⟩ := bw_cells hI hlt
      have hb1 : btN x i = 0 ∨ btN x i = 1 := by have := btN_le x i; omega
      have hb2 : btN y i = 0 ∨ btN y i = 1 := by have := btN_le y i; omega
      have HI := hid hI
      clear hI
      rcases hb1 with hb1 | hb1 <;> rcases hb2 with hb2 | hb2 <;> rw [hb1] at q1 <;> rw [hb2] at q3
      · have HF : Hid (bwF 10 (btN x i) (btN y i) = 0) := by rw [hb1, hb2]; rfl
        clear hb1 hb2
        simp only [Int.natCast_zero] at q1
        simp only [Int.natCast_zero] at q3
        go_wp2
        go_quiet (fail)
        go_wp2
        go_roundw
        case rel => exact ⟨i + 1, by omega, by go_num, bw_next (bw_store0 (bw_drew HI.out)) HF.out⟩
        case measure => simp [intOf]; omega
      · have HF : Hid (bwF 10 (btN x i) (btN y i) = 1) := by rw [hb1, hb2]; rfl
        clear hb1 hb2
        simp only [Int.natCast_zero] at q1
        simp only [Int.natCast_one] at q3
        go_wp2
        go_quiet (fail)
        go_wp2
        go_roundw
        case rel => exact ⟨i + 1, by omega, by go_num, bw_next (bw_store1 (bw_store0 (bw_drew HI.out))) HF.out⟩
        case measure => simp [intOf]; omega
      · have HF : Hid (bwF 10 (btN x i) (btN y i) = 1) := by rw [hb1, hb2]; rfl
        clear hb1 hb2
        simp only [Int.natCast_one] at q1
        simp only [Int.natCast_zero] at q3
        go_wp2
        go_quiet (fail)
        go_wp2
        go_roundw
        case rel => exact ⟨i + 1, by omega, by go_num, bw_next (bw_store1 (bw_store0 (bw_drew HI.out))) HF.out⟩
        case measure => simp [intOf]; omega
      · have HF : Hid (bwF 10 (btN x i) (btN y i) = 0) := by rw [hb1, hb2]; rfl
        clear hb1 hb2
        simp only [Int.natCast_one] at q1
        simp only [Int.natCast_one] at q3
        go_wp2
        go_quiet (fail)
        go_wp2
        go_roundw
        case rel => exact ⟨i + 1, by omega, by go_num, bw_next (bw_store0 (bw_drew HI.out)) HF.out⟩
        case measure => simp [intOf]; omega
    · have hE := bw_end hI (by omega)
      have HOf := hid (of_any n hn1 hn64 _ (fun j => bwF_le _ _ _) wr w.heap.size _ hE.1)
      have HB := hid hE.2
      clear hE hI
      go_wp2_with (go_at_call 229; refine HOf.out.mono ?_; rintro e w' ⟨rfl, rfl⟩)
      go_ret2
      exact div_post rfl rfl HB.out
end Go.Proofs.YtlhakbkdlgejpaaGreatDoor
namespace Go.Proofs.YtlhakbkdlgejpaaGreatDoor
open Go.RowKit
set_option maxRecDepth 100000 in
theorem RBin_noBits (b : Int) (hb : Bad b) (op x y : Int) (w : World) :
    Calls Tryz.prog 151 #[.int .i64 b, .int .i64 op, .int .u64 x, .int .u64 y] w (DivPost w (0, 1)) := by
  have HK := hid (Right_no b hb w)
  clear hb
  go_enter Tryz.func151, Tryz.ntmps151
  repeat' (first
    | (with_reducible refine wp_exit ?_; repeat (first | with_reducible refine ex_norm ?_ | with_reducible refine ex_then ?_ | with_reducible refine ex_here ?_ | with_reducible refine ex_pass rfl ?_))
    | (go_big_may; first
      | (go_at_call 196; refine HK.out.mono ?_; rintro e w' ⟨rfl, rfl⟩))
    | go_values | go_skip | go_guarded | go_step | go_upon | go_back | dsimp only)
  go_ret2
  exact div_post rfl rfl (Below.refl _ _)
set_option maxRecDepth 100000 in
theorem RBin_low (n : Nat) (hn : Okn n) (op x y : Int) (hop : op < 1) (w : World) :
    Calls Tryz.prog 151 #[.int .i64 n, .int .i64 op, .int .u64 x, .int .u64 y] w (DivPost w (0, 1)) := by
  have HK := hid (Right_yes n hn w)
  have h1 : decide (op < 1) = true := decide_eq_true hop
  clear hn hop
  go_enter Tryz.func151, Tryz.ntmps151
  repeat' (first
    | (with_reducible refine wp_exit ?_; repeat (first | with_reducible refine ex_norm ?_ | with_reducible refine ex_then ?_ | with_reducible refine ex_here ?_ | with_reducible refine ex_pass rfl ?_))
    | (go_big_may; first
      | (go_at_call 196; refine HK.out.mono ?_; rintro e w' ⟨rfl, rfl⟩))
    | go_values | go_skip | go_guarded | go_step | go_upon | go_back | dsimp only)
  go_ret2
  exact div_post rfl rfl (Below.refl _ _)
set_option maxRecDepth 100000 in
theorem RBin_high (n : Nat) (hn : Okn n) (op x y : Int) (hop : 25 < op) (w : World) :
    Calls Tryz.prog 151 #[.int .i64 n, .int .i64 op, .int .u64 x, .int .u64 y] w (DivPost w (0, 1)) := by
  have HK := hid (Right_yes n hn w)
  have h1 : decide (op < 1) = false := decide_eq_false (by omega)
  have h2 : decide (25 < op) = true := decide_eq_true hop
  clear hn hop
  go_enter Tryz.func151, Tryz.ntmps151
  repeat' (first
    | (with_reducible refine wp_exit ?_; repeat (first | with_reducible refine ex_norm ?_ | with_reducible refine ex_then ?_ | with_reducible refine ex_here ?_ | with_reducible refine ex_pass rfl ?_))
    | (go_big_may; first
      | (go_at_call 196; refine HK.out.mono ?_; rintro e w' ⟨rfl, rfl⟩))
    | go_values | go_skip | go_guarded | go_step | go_upon | go_back | dsimp only)
  go_ret2
  exact div_post rfl rfl (Below.refl _ _)
set_option maxRecDepth 100000 in
theorem RBin_25no (n : Nat) (hn : Okn n) (h16 : n ≠ 16) (x y : Int) (w : World) :
    Calls Tryz.prog 151 #[.int .i64 n, .int .i64 25, .int .u64 x, .int .u64 y] w (DivPost w (0, 1)) := by
  have HK := hid (Right_yes n hn w)
  have hne : ((n : Int) != 16) = true := by simp; omega
  clear hn h16
  go_enter Tryz.func151, Tryz.ntmps151
  repeat' (first
    | (with_reducible refine wp_exit ?_; repeat (first | with_reducible refine ex_norm ?_ | with_reducible refine ex_then ?_ | with_reducible refine ex_here ?_ | with_reducible refine ex_pass rfl ?_))
    | (go_big_may; first
      | (go_at_call 196; refine HK.out.mono ?_; rintro e w' ⟨rfl, rfl⟩))
    | go_values | go_skip | go_guarded | go_step | go_upon | go_back | dsimp only)
  go_ret2
  exact div_post rfl rfl (Below.refl _ _)
set_option maxRecDepth 100000 in
set_option maxHeartbeats 1600000 in
theorem RBin_25 (a b : Nat) (ha : a < 18446744073709551616) (hb : b < 18446744073709551616) (w : World) :
    Calls Tryz.prog 151 #[.int .i64 16, .int .i64 25, .int .u64 a, .int .u64 b] w (DivPost w (binR 16 25 (a % 2 ^ 16) (b % 2 ^ 16))) := by
  have hn : Okn 16 := .inr (.inl rfl)
  have HK : Hid (Calls Tryz.prog 196 #[.int .i64 16] w _) := hid (Right_yes 16 hn w)
  have HX : Hid (Calls Tryz.prog 81 #[.int .i64 16, .int .u64 a] w _) := hid (Cut_any 16 hn a ha w)
  have HY : Hid (Calls Tryz.prog 81 #[.int .i64 16, .int .u64 b] w _) := hid (Cut_any 16 hn b hb w)
  obtain ⟨x, hx⟩ : ∃ x : Nat, x = a % 2 ^ 16 := ⟨_, rfl⟩
  obtain ⟨y, hy⟩ : ∃ y : Nat, y = b % 2 ^ 16 := ⟨_, rfl⟩
  have hxl : x < 2 ^ 16 := by rw [hx]; exact Nat.mod_lt _ (Nat.two_pow_pos 16)
  have hyl : y < 2 ^ 16 := by rw [hy]; exact Nat.mod_lt _ (Nat.two_pow_pos 16)
  have HSX : Hid (Calls Tryz.prog 143 #[.int .i64 16, .int .u64 x] w _) := hid (RSigned_cut 16 hn x hxl w)
  have HSY : Hid (Calls Tryz.prog 143 #[.int .i64 16, .int .u64 y] w _) := hid (RSigned_cut 16 hn y hyl w)
  rw [← hx] at HX
  rw [← hy] at HY
  rw [← hx, ← hy]
  have hs : binR 16 25 x y = (toN 16 (clampS 16 ((sg 16 x * sg 16 y + 16384) / 32768)), 0) := by
    rw [binR, if_neg (by decide), if_neg (by decide), if_neg (by decide), if_neg (by decide), if_neg (by decide), if_neg (by decide), if_neg (by decide), if_neg (by decide), if_neg (by decide), if_neg (by decide), if_neg (by decide)]
  rw [hs]
  have HD := hid (held_25 x y hxl hyl w)
  obtain ⟨s, h5⟩ : ∃ s : Nat, s = toN 16 (clampS 16 ((sg 16 x * sg 16 y + 16384) / 32768)) := ⟨_, rfl⟩
  rw [← h5] at HD ⊢
  obtain ⟨sx, hsx⟩ : ∃ s, s = sg 16 x := ⟨_, rfl⟩
  obtain ⟨sy, hsy⟩ : ∃ s, s = sg 16 y := ⟨_, rfl⟩
  rw [← hsx] at HSX HD
  rw [← hsy] at HSY HD
  clear ha hb hx hy hn hxl hyl hs h5 hsx hsy
  go_enter Tryz.func151, Tryz.ntmps151
  repeat' (first
    | (with_reducible refine wp_exit ?_; repeat (first | with_reducible refine ex_norm ?_ | with_reducible refine ex_then ?_ | with_reducible refine ex_here ?_ | with_reducible refine ex_pass rfl ?_))
    | (go_big_may; first
      | (go_at_call 196; refine HK.out.mono ?_; rintro e w' ⟨rfl, rfl⟩)
      | (go_at_call 81; ((with_reducible refine HX.out.mono ?_); rintro e w' ⟨rfl, rfl⟩))
      | (go_at_call 81; ((with_reducible refine HY.out.mono ?_); rintro e w' ⟨rfl, rfl⟩))
      | (go_at_call 143; ((with_reducible refine HSX.out.mono ?_); rintro e w' ⟨rfl, rfl⟩))
      | (go_at_call 143; ((with_reducible refine HSY.out.mono ?_); rintro e w' ⟨rfl, rfl⟩))
      | (go_at_call 232; refine HD.out.mono ?_; rintro e w' ⟨rfl, rfl⟩))
    | go_values | go_skip | go_guarded | go_step | go_upon | go_back | dsimp only)
  go_ret2
  exact div_post rfl rfl (Below.refl _ _)
/-- Bin of the document: the number and error, whatever is asked. -/
theorem RBin_any (bits op : Int) (a b : Nat) (ha : a < 18446744073709551616) (hb : b < 18446744073709551616) (w : World) :
    Calls Tryz.prog 151 #[.int .i64 bits, .int .i64 op, .int .u64 a, .int .u64 b] w (DivPost w (binA bits op a b)) := by
  by_cases hbits : Okn bits.toNat
  · obtain ⟨n, rfl⟩ : ∃ n : Nat, bits = (n : Int) := ⟨bits.toNat, by have := hbits.le; omega⟩
    rw [Int.toNat_natCast] at hbits
    by_cases hop : 1 ≤ op ∧ op ≤ 25
    · obtain ⟨k, rfl⟩ : ∃ k : Nat, op = (k : Int) := ⟨op.toNat, by omega⟩
      by_cases h25 : k = 25
      · subst h25
        by_cases h16 : n = 16
        · subst h16
          rw [binA, if_pos ⟨by simpa using hbits, by decide, by decide, fun _ => rfl⟩]
          exact RBin_25 a b ha hb w
        · rw [binA, if_neg (fun h => h16 (by have := h.2.2.2 rfl; omega))]
          exact RBin_25no n hbits h16 a b w
      · rw [binA, if_pos ⟨by simpa using hbits, by omega, by omega, fun h => absurd h (by omega)⟩, Int.toNat_natCast, Int.toNat_natCast]
        have hk : k = 1 ∨ k = 2 ∨ k = 3 ∨ k = 4 ∨ k = 5 ∨ k = 6 ∨ k = 7 ∨ k = 8 ∨ k = 9 ∨ k = 10 ∨ k = 11 ∨ k = 12 ∨ k = 13 ∨ k = 14 ∨ k = 15 ∨ k = 16 ∨ k = 17 ∨ k = 18 ∨ k = 19 ∨ k = 20 ∨ k = 21 ∨ k = 22 ∨ k = 23 ∨ k = 24 := by omega
        rcases hk with rfl | rfl | rfl | rfl | rfl | rfl | rfl | rfl | rfl | rfl | rfl | rfl | rfl | rfl | rfl | rfl | rfl | rfl | rfl | rfl | rfl | rfl | rfl | rfl
        · exact RBin_1 n hbits a b ha hb w
        · exact RBin_2 n hbits a b ha hb w
        · exact RBin_3 n hbits a b ha hb w
        · exact RBin_4 n hbits a b ha hb w
        · exact RBin_5 n hbits a b ha hb w
        · exact RBin_6 n hbits a b ha hb w
        · exact RBin_7 n hbits a b ha hb w
        · exact RBin_8 n hbits a b ha hb w
        · exact RBin_9 n hbits a b ha hb w
        · exact RBin_10 n hbits a b ha hb w
        · exact RBin_11 n hbits a b ha hb w
        · exact RBin_12 n hbits a b ha hb w
        · exact RBin_13 n hbits a b ha hb w
        · exact RBin_14 n hbits a b ha hb w
        · exact RBin_15 n hbits a b ha hb w
        · exact RBin_16 n hbits a b ha hb w
        · exact RBin_17 n hbits a b ha hb w
        · exact RBin_18 n hbits a b ha hb w
        · exact RBin_19 n hbits a b ha hb w
        · exact RBin_20 n hbits a b ha hb w
        · exact RBin_21 n hbits a b ha hb w
        · exact RBin_22 n hbits a b ha hb w
        · exact RBin_23 n hbits a b ha hb w
        · exact RBin_24 n hbits a b ha hb w
    · rw [binA, if_neg (fun h => hop ⟨h.2.1, h.2.2.1⟩)]
      by_cases h1 : op < 1
      · exact RBin_low n hbits op a b h1 w
      · exact RBin_high n hbits op a b (by omega) w
  · rw [binA, if_neg (fun h => hbits h.1)]
    exact RBin_noBits bits (by unfold Bad; unfold Okn at hbits; omega) op a b w
end Go.Proofs.YtlhakbkdlgejpaaGreatDoor
namespace Go.Proofs.YtlhakbkdlgejpaaGreatDoor
open Go.RowKit
def RELI : List (List UInt8) := [[], [101, 113], [110, 101], [108, 116, 95, 115], [108, 116, 95, 117], [103, 116, 95, 115], [103, 116, 95, 117], [108, 101, 95, 115], [108, 101, 95, 117], [103, 101, 95, 115], [103, 101, 95, 117]]
def BINI : List (List UInt8) := [[], [97, 100, 100], [115, 117, 98], [109, 117, 108], [], [], [], [], [], [], [], [115, 104, 108], [115, 104, 114, 95, 115], [115, 104, 114, 95, 117], [], [], [97, 100, 100, 95, 115, 97, 116, 95, 115], [97, 100, 100, 95, 115, 97, 116, 95, 117], [115, 117, 98, 95, 115, 97, 116, 95, 115], [115, 117, 98, 95, 115, 97, 116, 95, 117], [109, 105, 110, 95, 115], [109, 105, 110, 95, 117], [109, 97, 120, 95, 115], [109, 97, 120, 95, 117], [97, 118, 103, 114, 95, 117], [113, 49, 53, 109, 117, 108, 114, 95, 115, 97, 116, 95, 115]]
theorem place_at (v : List UInt8) (L : List (List UInt8)) (hL : L.length ≤ 30) (cs : Array Value) (hcs : cs = (sc L).toArray) (n : Nat) (hn : n = L.length) (k : Int) (hk : plL L v 0 = k) :
    ∀ (W : World), Calls Tryz.prog 195 #[.string (str v), .slice (some ⟨W.heap.size, 0, none⟩) n n] (W.alloc (.cells cs 9)) fun e w' => e = .returned (.int .i64 k) ∧ (W.alloc (.cells cs 9)) = w' := fun W => by
  subst hcs
  rw [← hk]
  exact RPlace_says v L hL _ n hn _ (CA.new W _ 9)
end Go.Proofs.YtlhakbkdlgejpaaGreatDoor
namespace Go.Proofs.YtlhakbkdlgejpaaGreatDoor
open Go.RowKit
noncomputable def nmL (op : Int) : List UInt8 := (lineL op).1.toList
/-- What all kinds share. -/
noncomputable def chkC (two : Bool) (op : Int) : Bool :=
  knB (lineL op) && decide (64768 ≤ op) && decide (op < 65024) && ((lineL op).2.1 == 0) && (laL op == (if two then [123, 123] else [123])) && (lbL op == [123]) && eachV (verbL (nmL op)) && decide ((nmL op).length ≤ 1000) && ((xsL (nmL op)).2 == 0) &&
  decide (Okn (toL (nmL op)).2.toNat) && ((toL (nmL op)).2 == (((toL (nmL op)).2.toNat : Nat) : Int)) && !(verbL (nmL op) == [110, 111, 116]) && !(verbL (nmL op) == [97, 110, 100, 110, 111, 116]) &&
  decide (0 ≤ (ofL op).1) && ((ofL op).2.1 == nmL op) && ((ofL op).2.2.1 == 0) && decide ((ofL op).2.2.2.1.length ≤ 100) && decide ((ofL op).2.2.2.2.1.length ≤ 100) && (tyL (ofL op).2.2.2.1 == (if two then [123, 123] else [123])) && (tyL (ofL op).2.2.2.2.1 == [123]) &&
  (biL (headC (nmL op) 46) == (toL (nmL op)).2) && !(tailC (nmL op) 46 == [115, 112, 108, 97, 116]) && !(tailC (nmL op) 46 == [115, 119, 105, 122, 122, 108, 101]) && !(tailC (nmL op) 46 == [97, 108, 108, 95, 116, 114, 117, 101]) && !(tailC (nmL op) 46 == [98, 105, 116, 109, 97, 115, 107]) && noSh 10 (tailC (nmL op) 46)
noncomputable def chkI (op : Int) : Bool := ((toL (nmL op)).1 == false) && ((headC (nmL op) 46).headD 0 == 105) && decide (1 ≤ (headC (nmL op) 46).length)
noncomputable def chkBin (op : Int) : Bool := chkC true op && chkI op && (swL IU (verbL (nmL op)) == 0) && (swL (IR (sgL (nmL op))) (verbL (nmL op)) == 0) && (plL RELI (tailC (nmL op) 46) 0 == -1) && (plL BINI (tailC (nmL op) 46) 0 == swL (IB (sgL (nmL op))) (verbL (nmL op))) &&
  !(tailC (nmL op) 46 == [97, 98, 115]) && !(tailC (nmL op) 46 == [110, 101, 103]) && !(tailC (nmL op) 46 == [112, 111, 112, 99, 110, 116])
end Go.Proofs.YtlhakbkdlgejpaaGreatDoor
