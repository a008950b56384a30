/-
  RefUn2: merged (each text says what it holds where it lies in wip). No condition.
-/
import Derived.Test.YtlhakbkdlgejpaaGreatDoorI09
set_option linter.unusedSimpArgs false
set_option linter.unusedVariables false
set_option maxRecDepth 100000
namespace Go.Proofs.YtlhakbkdlgejpaaGreatDoor
open Go.RowKit

/-- The bits of a number of d bits, with its sign bit above them. -/
def exF (d x j : Nat) : Nat := if j < d then btN x j else btN x (d - 1)

theorem exF_le (d x j : Nat) : exF d x j ≤ 1 := by unfold exF; split <;> exact btN_le _ _

theorem low_bit (d x i : Nat) : (x % 2 ^ d).testBit i = (decide (i < d) && x.testBit i) := by rw [Nat.testBit_mod_two_pow]

theorem ext_bits {n d x : Nat} (hd : Okn d) (hdn : d < n) : ofF n (exF d x) = toN n (sg d (x % 2 ^ d)) := by
  have hd8 := hd.le
  have hy : x % 2 ^ d < 2 ^ d := Nat.mod_lt _ (Nat.two_pow_pos d)
  have hpp : 2 ^ d < 2 ^ n := Nat.pow_lt_pow_right (by decide) hdn
  have htop := testBit_top hd hy
  rw [low_bit] at htop
  have hb : ∀ i, (x % 2 ^ d).testBit i = (decide (i < d) && x.testBit i) := low_bit d x
  have hd1 : d - 1 < d := by omega
  simp only [hd1, decide_true, Bool.true_and] at htop
  generalize x % 2 ^ d = y at *
  by_cases hc : 2 ^ (d - 1) ≤ y
  · have e : sg d y = (y : Int) - (2 ^ d : Nat) := by unfold sg; rw [if_pos hc]
    have e2 : toN n ((y : Int) - (2 ^ d : Nat)) = 2 ^ n - ((2 ^ d - (y + 1)) + 1) := by
      unfold toN
      have h3 : (y : Int) - (2 ^ d : Nat) = ((2 ^ n - ((2 ^ d - (y + 1)) + 1) : Nat) : Int) + ((2 ^ n : Nat) : Int) * -1 := by omega
      rw [h3, Int.add_mul_emod_self_left, ← Int.natCast_emod, Int.toNat_natCast, Nat.mod_eq_of_lt (by omega)]
    rw [e, e2]
    refine ofF_eq (exF_le d x) (by omega) (fun i hi => ?_)
    rw [Nat.testBit_two_pow_sub_succ (by omega), Nat.testBit_two_pow_sub_succ hy, hb i, exF]
    by_cases h : i < d
    · rw [if_pos h, btN_bit]
      simp [hi, h]
    · rw [if_neg h, btN_bit, htop]
      simp [hi, h, hc]
  · have e : sg d y = (y : Int) := by unfold sg; rw [if_neg hc]
    rw [e, toN_nat, Nat.mod_eq_of_lt (by omega)]
    refine ofF_eq (exF_le d x) (by omega) (fun i hi => ?_)
    rw [hb i, exF]
    by_cases h : i < d
    · rw [if_pos h, btN_bit]
      simp [h]
    · rw [if_neg h, btN_bit, htop]
      simp [h, hc]

def ExInv (w : World) (g cap n x d i : Nat) (wr : World) : Prop :=
  w.heap.size ≤ g ∧ wr.ownsRow w.heap.size 22 1 (.slice (some ⟨g, 0, none⟩) n cap) n (fc n (fun j => if d ≤ j ∧ j < i then btN x (d - 1) else btN x j)) ∧ Below w.heap.size w wr

theorem ex_start {w w1 : World} {g cap n x d : Nat} (h : w1.ownsRow w.heap.size 22 1 (.slice (some ⟨g, 0, none⟩) n cap) n (fc n (btN x))) (hb : Below w.heap.size w w1) (o : Obj) : ExInv w g cap n x d d (w1.alloc o) := by
  refine ⟨(h.lt g rfl).1, ?_, hb.alloc hb.size o⟩
  rw [fc_congr (g := btN x) (fun j _ => by
    by_cases h1 : d ≤ j
    · simp [h1, show ¬ j < d by omega]
    · simp [h1])]
  exact h.alloc o

theorem ex_next {w wr : World} {g cap n x d i : Nat} (h : ExInv w g cap n x d i wr) (hi : d ≤ i) : ExInv w g cap n x d (i + 1) (wr.setCell ⟨g, i, none⟩ (.int .u64 (btN x (d - 1) : Nat))) := by
  obtain ⟨h1, h2, h3⟩ := h
  refine ⟨h1, ?_, h3.setCell (p := ⟨g, i, none⟩) h1 _⟩
  have := (h2.stored i (.int .u64 (btN x (d - 1) : Nat))).1
  rw [fc_set] at this
  rw [fc_congr (g := fun j => if j = i then btN x (d - 1) else if d ≤ j ∧ j < i then btN x (d - 1) else btN x j) (fun j _ => by
    by_cases h4 : j = i
    · subst h4; simp [hi]
    · by_cases h5 : d ≤ j ∧ j < i
      · simp [h4, h5, show j < i + 1 by omega]
      · rw [if_neg h4, if_neg h5, if_neg (by omega)])]
  exact this

theorem ex_cells {w wr : World} {g cap n x d i : Nat} (h : ExInv w g cap n x d i wr) (hd : 1 ≤ d) (hi : d ≤ i) (hin : i < n) : wr.cell? ⟨g, i, none⟩ = some (.int .u64 (btN x i : Nat)) ∧ wr.frozen? ⟨g, i, none⟩ = false ∧ wr.cell? ⟨g, d - 1, none⟩ = some (.int .u64 (btN x (d - 1) : Nat)) := by
  obtain ⟨h1, h2, h3⟩ := h
  refine ⟨?_, h2.frozenAt i, ?_⟩
  · rw [h2.cellAt i (by omega), fc_get hin]
    simp
  · rw [h2.cellAt (d - 1) (by omega), fc_get (by omega), if_neg (by omega)]

theorem ex_end {w wr : World} {g cap n x d i : Nat} (h : ExInv w g cap n x d i wr) (hi : n ≤ i) : wr.ownsRow w.heap.size 22 1 (.slice (some ⟨g, 0, none⟩) n cap) n (fc n (exF d x)) ∧ Below w.heap.size w wr := by
  obtain ⟨h1, h2, h3⟩ := h
  refine ⟨?_, h3⟩
  rw [fc_congr (g := fun j => if d ≤ j ∧ j < i then btN x (d - 1) else btN x j) (fun j hj => by
    unfold exF
    by_cases h4 : j < d
    · rw [if_pos h4, if_neg (by omega)]
    · rw [if_neg h4, if_pos (by omega)])]
  exact h2

set_option maxRecDepth 100000 in
set_option maxHeartbeats 1600000 in
theorem RUn_4 (n : Nat) (hn : Okn n) (hw : 8 < n) (a : Nat) (ha : a < 18446744073709551616) (w : World) :
    Calls Tryz.prog 150 #[.int .i64 n, .int .i64 4, .int .u64 a] w (DivPost w (unR n 4 (a % 2 ^ n), 0)) := by
  obtain ⟨h1, h2, h3, h4⟩ := pow_lt64 hn
  have hn8 := hn.le
  have HK := hid (Right_yes n hn w)
  have HX := hid (Cut_any n hn a ha w)
  obtain ⟨x, hx⟩ : ∃ x : Nat, x = a % 2 ^ n := ⟨_, rfl⟩
  have hxl : x < 2 ^ n := by rw [hx]; exact Nat.mod_lt _ (Nat.two_pow_pos n)
  have HL := hid (list_any n hn8.2 x (by omega) w)
  rw [← hx] at HX
  rw [← hx]
  have hn64 : n ≤ 64 := hn8.2
  have hn1 : 1 ≤ n := by omega
  clear hx ha
  have hs : unR n 4 x = toN n (sg 8 (x % 2 ^ 8)) := by rw [unR, if_neg (by decide), if_neg (by decide), if_neg (by decide), if_pos rfl]
  rw [hs, ← ext_bits (d := 8) (.inl rfl) hw]
  have hle : decide ((n : Int) ≤ 8) = false := decide_eq_false (by omega)
  have hwn : (8 : Nat) ≤ n := by omega
  clear h1 h2 h3 h4 hn hn8 hs hxl hw
  go_enter Tryz.func150, Tryz.ntmps150
  repeat' (first
    | (with_reducible refine wp_exit ?_; repeat (first | with_reducible refine ex_norm ?_ | with_reducible refine ex_then ?_ | with_reducible refine ex_here ?_ | with_reducible refine ex_pass rfl ?_))
    | (go_big_may; first
      | (go_at_call 196; refine HK.out.mono ?_; rintro e w' ⟨rfl, rfl⟩)
      | (go_at_call 81; ((with_reducible refine HX.out.mono ?_); rintro e w' ⟨rfl, rfl⟩))
      | (go_at_call 228; refine HL.out.mono ?_; rintro e w1 ⟨v1, rfl, hown1, hB1⟩; have K1 := hid hown1; have K2 := hid hB1; clear hown1 hB1; obtain ⟨g, cap, rfl⟩ := owned_at K1.out hn1; have hcap := own_cap2 K1.out))
    | go_values | go_skip | go_guarded | go_step | go_upon | go_back | dsimp only)
  go_loopw [15] (fun vi wr => ∃ i : Nat, 8 ≤ i ∧ i ≤ n ∧ vi = .int .i64 i ∧ ExInv w g cap n x 8 i wr) (fun vi _ => n - (intOf vi).toNat)
  case atStart => exact ⟨8, Nat.le_refl _, hwn, rfl, ex_start K1.out K2.out _⟩
  case round =>
    obtain ⟨i, hi1, hi2, rfl, hI⟩ := hrel
    by_cases hlt : i < n
    · obtain ⟨q1, q2, q3⟩ := ex_cells hI (by decide) hi1 hlt
      have hnx := ex_next hI hi1
      obtain ⟨t, ht⟩ : ∃ t : Nat, t = btN x (8 - 1) := ⟨_, rfl⟩
      rw [← ht] at q3 hnx
      simp only [Nat.reduceSub] at q3
      have HX2 := hid hnx
      clear hI hnx ht
      go_wp2
      go_roundw
      case rel => exact ⟨i + 1, by omega, by omega, by go_num, HX2.out⟩
      case measure => simp [intOf]; omega
    · rename_i wr _
      have hE := ex_end hI (by omega)
      have HOf := hid (of_any n hn1 hn64 _ (exF_le 8 x) _ w.heap.size _ hE.1)
      have HB := hid hE.2
      obtain ⟨s, hse⟩ : ∃ s : Nat, s = ofF n (exF 8 x) := ⟨_, rfl⟩
      rw [← hse] at HOf
      have HS := hid hse
      clear hE hI hse
      go_wp2_with (go_at_call 229; refine HOf.out.mono ?_; rintro e w' ⟨rfl, rfl⟩)
      go_ret2
      exact div_post (by rw [HS.out]) rfl HB.out

set_option maxRecDepth 100000 in
theorem RUn_4no (n : Nat) (hn : Okn n) (hw : n ≤ 8) (x : Int) (w : World) :
    Calls Tryz.prog 150 #[.int .i64 n, .int .i64 4, .int .u64 x] w (DivPost w (0, 1)) := by
  have HK := hid (Right_yes n hn w)
  have hle : decide ((n : Int) ≤ 8) = true := decide_eq_true (by omega)
  clear hn hw
  go_enter Tryz.func150, Tryz.ntmps150
  repeat' (first
    | (with_reducible refine wp_exit ?_; repeat (first | with_reducible refine ex_norm ?_ | with_reducible refine ex_then ?_ | with_reducible refine ex_here ?_ | with_reducible refine ex_pass rfl ?_))
    | (go_big_may; first
      | (go_at_call 196; refine HK.out.mono ?_; rintro e w' ⟨rfl, rfl⟩))
    | go_values | go_skip | go_guarded | go_step | go_upon | go_back | dsimp only)
  go_ret2
  exact div_post rfl rfl (Below.refl _ _)

set_option maxRecDepth 100000 in
set_option maxHeartbeats 1600000 in
theorem RUn_5 (n : Nat) (hn : Okn n) (hw : 16 < n) (a : Nat) (ha : a < 18446744073709551616) (w : World) :
    Calls Tryz.prog 150 #[.int .i64 n, .int .i64 5, .int .u64 a] w (DivPost w (unR n 5 (a % 2 ^ n), 0)) := by
  obtain ⟨h1, h2, h3, h4⟩ := pow_lt64 hn
  have hn8 := hn.le
  have HK := hid (Right_yes n hn w)
  have HX := hid (Cut_any n hn a ha w)
  obtain ⟨x, hx⟩ : ∃ x : Nat, x = a % 2 ^ n := ⟨_, rfl⟩
  have hxl : x < 2 ^ n := by rw [hx]; exact Nat.mod_lt _ (Nat.two_pow_pos n)
  have HL := hid (list_any n hn8.2 x (by omega) w)
  rw [← hx] at HX
  rw [← hx]
  have hn64 : n ≤ 64 := hn8.2
  have hn1 : 1 ≤ n := by omega
  clear hx ha
  have hs : unR n 5 x = toN n (sg 16 (x % 2 ^ 16)) := by rw [unR, if_neg (by decide), if_neg (by decide), if_neg (by decide), if_neg (by decide), if_pos rfl]
  rw [hs, ← ext_bits (d := 16) (.inr (.inl rfl)) hw]
  have hle : decide ((n : Int) ≤ 16) = false := decide_eq_false (by omega)
  have hwn : (16 : Nat) ≤ n := by omega
  clear h1 h2 h3 h4 hn hn8 hs hxl hw
  go_enter Tryz.func150, Tryz.ntmps150
  repeat' (first
    | (with_reducible refine wp_exit ?_; repeat (first | with_reducible refine ex_norm ?_ | with_reducible refine ex_then ?_ | with_reducible refine ex_here ?_ | with_reducible refine ex_pass rfl ?_))
    | (go_big_may; first
      | (go_at_call 196; refine HK.out.mono ?_; rintro e w' ⟨rfl, rfl⟩)
      | (go_at_call 81; ((with_reducible refine HX.out.mono ?_); rintro e w' ⟨rfl, rfl⟩))
      | (go_at_call 228; refine HL.out.mono ?_; rintro e w1 ⟨v1, rfl, hown1, hB1⟩; have K1 := hid hown1; have K2 := hid hB1; clear hown1 hB1; obtain ⟨g, cap, rfl⟩ := owned_at K1.out hn1; have hcap := own_cap2 K1.out))
    | go_values | go_skip | go_guarded | go_step | go_upon | go_back | dsimp only)
  go_loopw [15] (fun vi wr => ∃ i : Nat, 16 ≤ i ∧ i ≤ n ∧ vi = .int .i64 i ∧ ExInv w g cap n x 16 i wr) (fun vi _ => n - (intOf vi).toNat)
  case atStart => exact ⟨16, Nat.le_refl _, hwn, rfl, ex_start K1.out K2.out _⟩
  case round =>
    obtain ⟨i, hi1, hi2, rfl, hI⟩ := hrel
    by_cases hlt : i < n
    · obtain ⟨q1, q2, q3⟩ := ex_cells hI (by decide) hi1 hlt
      have hnx := ex_next hI hi1
      obtain ⟨t, ht⟩ : ∃ t : Nat, t = btN x (16 - 1) := ⟨_, rfl⟩
      rw [← ht] at q3 hnx
      simp only [Nat.reduceSub] at q3
      have HX2 := hid hnx
      clear hI hnx ht
      go_wp2
      go_roundw
      case rel => exact ⟨i + 1, by omega, by omega, by go_num, HX2.out⟩
      case measure => simp [intOf]; omega
    · rename_i wr _
      have hE := ex_end hI (by omega)
      have HOf := hid (of_any n hn1 hn64 _ (exF_le 16 x) _ w.heap.size _ hE.1)
      have HB := hid hE.2
      obtain ⟨s, hse⟩ : ∃ s : Nat, s = ofF n (exF 16 x) := ⟨_, rfl⟩
      rw [← hse] at HOf
      have HS := hid hse
      clear hE hI hse
      go_wp2_with (go_at_call 229; refine HOf.out.mono ?_; rintro e w' ⟨rfl, rfl⟩)
      go_ret2
      exact div_post (by rw [HS.out]) rfl HB.out

set_option maxRecDepth 100000 in
theorem RUn_5no (n : Nat) (hn : Okn n) (hw : n ≤ 16) (x : Int) (w : World) :
    Calls Tryz.prog 150 #[.int .i64 n, .int .i64 5, .int .u64 x] w (DivPost w (0, 1)) := by
  have HK := hid (Right_yes n hn w)
  have hle : decide ((n : Int) ≤ 16) = true := decide_eq_true (by omega)
  clear hn hw
  go_enter Tryz.func150, Tryz.ntmps150
  repeat' (first
    | (with_reducible refine wp_exit ?_; repeat (first | with_reducible refine ex_norm ?_ | with_reducible refine ex_then ?_ | with_reducible refine ex_here ?_ | with_reducible refine ex_pass rfl ?_))
    | (go_big_may; first
      | (go_at_call 196; refine HK.out.mono ?_; rintro e w' ⟨rfl, rfl⟩))
    | go_values | go_skip | go_guarded | go_step | go_upon | go_back | dsimp only)
  go_ret2
  exact div_post rfl rfl (Below.refl _ _)

set_option maxRecDepth 100000 in
set_option maxHeartbeats 1600000 in
theorem RUn_6 (n : Nat) (hn : Okn n) (hw : 32 < n) (a : Nat) (ha : a < 18446744073709551616) (w : World) :
    Calls Tryz.prog 150 #[.int .i64 n, .int .i64 6, .int .u64 a] w (DivPost w (unR n 6 (a % 2 ^ n), 0)) := by
  obtain ⟨h1, h2, h3, h4⟩ := pow_lt64 hn
  have hn8 := hn.le
  have HK := hid (Right_yes n hn w)
  have HX := hid (Cut_any n hn a ha w)
  obtain ⟨x, hx⟩ : ∃ x : Nat, x = a % 2 ^ n := ⟨_, rfl⟩
  have hxl : x < 2 ^ n := by rw [hx]; exact Nat.mod_lt _ (Nat.two_pow_pos n)
  have HL := hid (list_any n hn8.2 x (by omega) w)
  rw [← hx] at HX
  rw [← hx]
  have hn64 : n ≤ 64 := hn8.2
  have hn1 : 1 ≤ n := by omega
  clear hx ha
  have hs : unR n 6 x = toN n (sg 32 (x % 2 ^ 32)) := by rw [unR, if_neg (by decide), if_neg (by decide), if_neg (by decide), if_neg (by decide), if_neg (by decide), if_pos rfl]
  rw [hs, ← ext_bits (d := 32) (.inr (.inr (.inl rfl))) hw]
  have hle : decide ((n : Int) ≤ 32) = false := decide_eq_false (by omega)
  have hwn : (32 : Nat) ≤ n := by omega
  clear h1 h2 h3 h4 hn hn8 hs hxl hw
  go_enter Tryz.func150, Tryz.ntmps150
  repeat' (first
    | (with_reducible refine wp_exit ?_; repeat (first | with_reducible refine ex_norm ?_ | with_reducible refine ex_then ?_ | with_reducible refine ex_here ?_ | with_reducible refine ex_pass rfl ?_))
    | (go_big_may; first
      | (go_at_call 196; refine HK.out.mono ?_; rintro e w' ⟨rfl, rfl⟩)
      | (go_at_call 81; ((with_reducible refine HX.out.mono ?_); rintro e w' ⟨rfl, rfl⟩))
      | (go_at_call 228; refine HL.out.mono ?_; rintro e w1 ⟨v1, rfl, hown1, hB1⟩; have K1 := hid hown1; have K2 := hid hB1; clear hown1 hB1; obtain ⟨g, cap, rfl⟩ := owned_at K1.out hn1; have hcap := own_cap2 K1.out))
    | go_values | go_skip | go_guarded | go_step | go_upon | go_back | dsimp only)
  go_loopw [15] (fun vi wr => ∃ i : Nat, 32 ≤ i ∧ i ≤ n ∧ vi = .int .i64 i ∧ ExInv w g cap n x 32 i wr) (fun vi _ => n - (intOf vi).toNat)
  case atStart => exact ⟨32, Nat.le_refl _, hwn, rfl, ex_start K1.out K2.out _⟩
  case round =>
    obtain ⟨i, hi1, hi2, rfl, hI⟩ := hrel
    by_cases hlt : i < n
    · obtain ⟨q1, q2, q3⟩ := ex_cells hI (by decide) hi1 hlt
      have hnx := ex_next hI hi1
      obtain ⟨t, ht⟩ : ∃ t : Nat, t = btN x (32 - 1) := ⟨_, rfl⟩
      rw [← ht] at q3 hnx
      simp only [Nat.reduceSub] at q3
      have HX2 := hid hnx
      clear hI hnx ht
      go_wp2
      go_roundw
      case rel => exact ⟨i + 1, by omega, by omega, by go_num, HX2.out⟩
      case measure => simp [intOf]; omega
    · rename_i wr _
      have hE := ex_end hI (by omega)
      have HOf := hid (of_any n hn1 hn64 _ (exF_le 32 x) _ w.heap.size _ hE.1)
      have HB := hid hE.2
      obtain ⟨s, hse⟩ : ∃ s : Nat, s = ofF n (exF 32 x) := ⟨_, rfl⟩
      rw [← hse] at HOf
      have HS := hid hse
      clear hE hI hse
      go_wp2_with (go_at_call 229; refine HOf.out.mono ?_; rintro e w' ⟨rfl, rfl⟩)
      go_ret2
      exact div_post (by rw [HS.out]) rfl HB.out

set_option maxRecDepth 100000 in
theorem RUn_6no (n : Nat) (hn : Okn n) (hw : n ≤ 32) (x : Int) (w : World) :
    Calls Tryz.prog 150 #[.int .i64 n, .int .i64 6, .int .u64 x] w (DivPost w (0, 1)) := by
  have HK := hid (Right_yes n hn w)
  have hle : decide ((n : Int) ≤ 32) = true := decide_eq_true (by omega)
  clear hn hw
  go_enter Tryz.func150, Tryz.ntmps150
  repeat' (first
    | (with_reducible refine wp_exit ?_; repeat (first | with_reducible refine ex_norm ?_ | with_reducible refine ex_then ?_ | with_reducible refine ex_here ?_ | with_reducible refine ex_pass rfl ?_))
    | (go_big_may; first
      | (go_at_call 196; refine HK.out.mono ?_; rintro e w' ⟨rfl, rfl⟩))
    | go_values | go_skip | go_guarded | go_step | go_upon | go_back | dsimp only)
  go_ret2
  exact div_post rfl rfl (Below.refl _ _)

set_option maxRecDepth 100000 in
theorem RUn_noBits (b : Int) (hb : Bad b) (op x : Int) (w : World) :
    Calls Tryz.prog 150 #[.int .i64 b, .int .i64 op, .int .u64 x] w (DivPost w (0, 1)) := by
  have HK := hid (Right_no b hb w)
  clear hb
  go_enter Tryz.func150, Tryz.ntmps150
  repeat' (first
    | (with_reducible refine wp_exit ?_; repeat (first | with_reducible refine ex_norm ?_ | with_reducible refine ex_then ?_ | with_reducible refine ex_here ?_ | with_reducible refine ex_pass rfl ?_))
    | (go_big_may; first
      | (go_at_call 196; refine HK.out.mono ?_; rintro e w' ⟨rfl, rfl⟩))
    | go_values | go_skip | go_guarded | go_step | go_upon | go_back | dsimp only)
  go_ret2
  exact div_post rfl rfl (Below.refl _ _)

set_option maxRecDepth 100000 in
theorem RUn_low (n : Nat) (hn : Okn n) (op x : Int) (hop : op < 1) (w : World) :
    Calls Tryz.prog 150 #[.int .i64 n, .int .i64 op, .int .u64 x] w (DivPost w (0, 1)) := by
  have HK := hid (Right_yes n hn w)
  have h1 : decide (op < 1) = true := decide_eq_true hop
  clear hn hop
  go_enter Tryz.func150, Tryz.ntmps150
  repeat' (first
    | (with_reducible refine wp_exit ?_; repeat (first | with_reducible refine ex_norm ?_ | with_reducible refine ex_then ?_ | with_reducible refine ex_here ?_ | with_reducible refine ex_pass rfl ?_))
    | (go_big_may; first
      | (go_at_call 196; refine HK.out.mono ?_; rintro e w' ⟨rfl, rfl⟩))
    | go_values | go_skip | go_guarded | go_step | go_upon | go_back | dsimp only)
  go_ret2
  exact div_post rfl rfl (Below.refl _ _)

set_option maxRecDepth 100000 in
theorem RUn_high (n : Nat) (hn : Okn n) (op x : Int) (hop : 8 < op) (w : World) :
    Calls Tryz.prog 150 #[.int .i64 n, .int .i64 op, .int .u64 x] w (DivPost w (0, 1)) := by
  have HK := hid (Right_yes n hn w)
  have h1 : decide (op < 1) = false := decide_eq_false (by omega)
  have h2 : decide (8 < op) = true := decide_eq_true hop
  clear hn hop
  go_enter Tryz.func150, Tryz.ntmps150
  repeat' (first
    | (with_reducible refine wp_exit ?_; repeat (first | with_reducible refine ex_norm ?_ | with_reducible refine ex_then ?_ | with_reducible refine ex_here ?_ | with_reducible refine ex_pass rfl ?_))
    | (go_big_may; first
      | (go_at_call 196; refine HK.out.mono ?_; rintro e w' ⟨rfl, rfl⟩))
    | go_values | go_skip | go_guarded | go_step | go_upon | go_back | dsimp only)
  go_ret2
  exact div_post rfl rfl (Below.refl _ _)

/-- Un of the document: the number and error, whatever is asked. -/
theorem RUn_any (bits op : Int) (a : Nat) (ha : a < 18446744073709551616) (w : World) :
    Calls Tryz.prog 150 #[.int .i64 bits, .int .i64 op, .int .u64 a] w (DivPost w (unA bits op a)) := by
  by_cases hbits : Okn bits.toNat
  · obtain ⟨n, rfl⟩ : ∃ n : Nat, bits = (n : Int) := ⟨bits.toNat, by have := hbits.le; omega⟩
    rw [Int.toNat_natCast] at hbits
    by_cases hop : 1 ≤ op ∧ op ≤ 8
    · obtain ⟨k, rfl⟩ : ∃ k : Nat, op = (k : Int) := ⟨op.toNat, by omega⟩
      by_cases hok : (k = 4 → 8 < n) ∧ (k = 5 → 16 < n) ∧ (k = 6 → 32 < n)
      · obtain ⟨q4, q5, q6⟩ := hok
        rw [unA, if_pos ⟨by simpa using hbits, by omega, by omega, by omega, by omega, by omega⟩, Int.toNat_natCast, Int.toNat_natCast]
        have hk : k = 1 ∨ k = 2 ∨ k = 3 ∨ k = 4 ∨ k = 5 ∨ k = 6 ∨ k = 7 ∨ k = 8 := by omega
        rcases hk with rfl | rfl | rfl | rfl | rfl | rfl | rfl | rfl
        · exact RUn_1 n hbits a ha w
        · exact RUn_2 n hbits a ha w
        · exact RUn_3 n hbits a ha w
        · exact RUn_4 n hbits (q4 rfl) a ha w
        · exact RUn_5 n hbits (q5 rfl) a ha w
        · exact RUn_6 n hbits (q6 rfl) a ha w
        · exact RUn_7 n hbits a ha w
        · exact RUn_8 n hbits a ha w
      · rw [unA, if_neg (fun h => hok ⟨by omega, by omega, by omega⟩)]
        have hk : k = 4 ∧ n ≤ 8 ∨ k = 5 ∧ n ≤ 16 ∨ k = 6 ∧ n ≤ 32 := by omega
        rcases hk with ⟨rfl, hw⟩ | ⟨rfl, hw⟩ | ⟨rfl, hw⟩
        · exact RUn_4no n hbits hw a w
        · exact RUn_5no n hbits hw a w
        · exact RUn_6no n hbits hw a w
    · rw [unA, if_neg (fun h => hop ⟨h.2.1, h.2.2.1⟩)]
      by_cases h1 : op < 1
      · exact RUn_low n hbits op a h1 w
      · exact RUn_high n hbits op a (by omega) w
  · rw [unA, if_neg (fun h => hbits h.1)]
    exact RUn_noBits bits (by unfold Bad; unfold Okn at hbits; omega) op a w

end Go.Proofs.YtlhakbkdlgejpaaGreatDoor
