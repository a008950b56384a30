/-
  LRDo, RefHeld, RefHeld2, RefQuo: merged, what the law does not reach left out (each text says what it holds where it lies in wip). No condition.
-/
import Derived.Test.YtlhakbkdlgejpaaGreatDoorK18
import Derived.Test.YtlhakbkdlgejpaaGreatDoorK14
import Derived.Test.YtlhakbkdlgejpaaGreatDoorK09
import Derived.Test.YtlhakbkdlgejpaaGreatDoorK02
import Derived.Test.YtlhakbkdlgejpaaGreatDoorK08
set_option linter.unusedSimpArgs false
set_option linter.unusedVariables false
set_option maxRecDepth 100000
namespace Go.Proofs.YtlhakbkdlgejpaaGreatDoor
open Go.RowKit
set_option maxHeartbeats 4000000 in
set_option maxRecDepth 100000 in
theorem RDo_vec (op : Int) (h64 : 64768 ≤ op) (ro : Int) (nm : List UInt8) (tk lv : List UInt8) (fx : Bool) (hr : ofL op = (ro, nm, 0, tk, lv, fx)) (hro : 0 ≤ ro) (htk : tk.length ≤ 100) (hlv : lv.length ≤ 100) (hlv2 : tyL lv = [123])
    (l : List Av) (hT : tyL tk = l.map (·.1)) (hl1 : 1 ≤ l.length) (hl : l.length ≤ 10) (va : Value) (w : World) (ha : AR w va l) (lo hi : Nat)
    (HD : ∀ W, Below w.heap.size w W → Calls Tryz.prog 80 #[rwV (ro, nm, 0, tk, lv, fx), .slice none 0 0, va] W fun e w' => e = .returned (vv 123 lo hi false) ∧ Below W.heap.size W w') :
    Calls Tryz.prog 38 #[.int .i64 op, .slice none 0 0, va] w fun e w' => e = .returned (.tuple #[vv 123 lo hi false, .int .i64 0]) ∧ Below w.heap.size w w' := by
  have HO := fun W => hid (Of_says op W)
  rw [hr] at HO
  have HT1 := fun W => hid (reftypes_says tk htk W)
  have HT2 := fun W => hid (reftypes_says lv hlv W)
  rw [hlv2] at HT2
  have HDD := fun W h => hid (HD W h)
  have HT := hid hT
  have hlen : (tyL tk).length = l.length := by rw [hT, List.length_map]
  obtain ⟨ga, ca, rfl, hga, hca, hata⟩ := ha
  have HA := hid hata
  obtain ⟨n, hn⟩ : ∃ n, n = l.length := ⟨_, rfl⟩
  rw [← hn] at hca hl1 hl hlen ⊢
  rw [← hn] at HDD
  have HN := hid hn
  have hop : ¬ (op < 64768) := by omega
  have hro2 : ¬ (ro < 0) := by omega
  unfold vv at HDD ⊢
  unfold rwV at HO HDD
  generalize tyL tk = ta at *
  clear hr hlv2 HD hT hata hn h64 hro
  go_enter Tryz.func38, Tryz.ntmps38
  go_upto_region 9 with (first
    | (go_at_call 23; refine (HO _).out.mono ?_; rintro e w1 ⟨rfl, hb1⟩; have HX1 := hid (below_new hb1); clear hb1)
    | (go_at_call 25; (with_reducible refine (HT1 _).out.mono ?_); rintro e w2 ⟨v2, rfl, ho2, hb2⟩; have HO2 := hid ho2; have HX2 := hid (below_new hb2); have m0 := HX2.out.1.at (k := 0) (v := .int .i64 ro) rfl; have m1 := HX2.out.1.at (k := 1) (v := .string (str nm)) rfl; have m2 := HX2.out.1.at (k := 2) (v := .int .i64 0) rfl; have m3 := HX2.out.1.at (k := 3) (v := .string (str tk)) rfl; have m4 := HX2.out.1.at (k := 4) (v := .string (str lv)) rfl; have m5 := HX2.out.1.at (k := 5) (v := .bool fx) rfl; clear hb2 ho2)
    | (go_at_call 25; (with_reducible refine (HT2 _).out.mono ?_); rintro e w3 ⟨v3, rfl, ho3, hb3⟩; have HO3 := hid ho3; have HO2' := hid (own_below HO2.out hb3 (Nat.le_refl _)); have HX3 := hid (And.intro (HX2.out.1.call hb3) (HX2.out.2.trans (hb3.mono HX2.out.2.size))); clear m0 m1 m2 m3 m4 m5; have p0 := HX3.out.1.at (k := 0) (v := .int .i64 ro) rfl; have p1 := HX3.out.1.at (k := 1) (v := .string (str nm)) rfl; have p2 := HX3.out.1.at (k := 2) (v := .int .i64 0) rfl; have p3 := HX3.out.1.at (k := 3) (v := .string (str tk)) rfl; have p4 := HX3.out.1.at (k := 4) (v := .string (str lv)) rfl; have p5 := HX3.out.1.at (k := 5) (v := .bool fx) rfl; clear hb3 ho3))
  obtain ⟨g2, c2, rfl⟩ := owned_at HO2'.out (by omega)
  obtain ⟨g3, c3, rfl⟩ : ∃ g cap, v3 = .slice (some ⟨g, 0, none⟩) 1 cap := owned_at HO3.out (Nat.le_refl _)
  have k3 : w3.cell? ⟨g3, 0, none⟩ = some (.int .i64 123) := HO3.out.cellAt 0 (by decide)
  have hg3 : g3 < w3.heap.size := (HO3.out.lt g3 rfl).2
  have hg2 : g2 < w3.heap.size := (HO2'.out.lt g2 rfl).2
  have HTC : Hid (∀ j a, l[j]? = some a → w3.cell? ⟨g2, j, none⟩ = some (.int .i64 a.1)) := fun j a hj => by
    have hjl : j < l.length := (List.getElem?_eq_some_iff.1 hj).1
    rw [HO2'.out.cellAt j (by rw [hlen, HN.out]; omega), HT.out]
    simp [ic, hj]
  have hB3 : Below w.heap.size w w3 := HX1.out.2.trans (HX3.out.2.mono HX1.out.2.size)
  have hR3 : CA w.heap.size #[.int .i64 0, .int .u64 0, .int .u64 0, .bool false] 24 w3 := HX1.out.1.call HX3.out.2
  have HXR := hid HX3.out.1
  have HB3 := hid hB3
  have HR3 := hid hR3
  have hwg : w.heap.size < w1.heap.size := HX1.out.1.lt
  generalize w1.heap.size = g8 at *
  rw [hlen]
  have hz : ((0 : Nat) : Int) = 0 := rfl
  clear HX1 HX2 HX3 HO2 HO2' HO3 HT hlen hB3 hR3
  go_wp2
  go_loopw [12] (fun vi wr => vi = .int .i64 0 ∧ wr = w3) (fun _ _ => 1)
  case atStart => exact ⟨rfl, rfl⟩
  case round =>
    obtain ⟨rfl, rfl⟩ := hrel
    go_wp2
    go_loopw [13] (fun vi ws => ∃ i : Nat, i ≤ n ∧ vi = .int .i64 i ∧ Hid (Below wr.heap.size wr ws)) (fun vi _ => n - (intOf vi).toNat)
    case atStart => exact ⟨0, Nat.zero_le _, rfl, Below.refl _ _⟩
    case round =>
      obtain ⟨i, hin, rfl, HB⟩ := hrel
      by_cases hlt : i < n
      · obtain ⟨a, hja⟩ : ∃ a, l[i]? = some a := ⟨l[i]'(by rw [← HN.out]; exact hlt), by simp [← HN.out, hlt]⟩
        obtain ⟨h0, _, _, _⟩ := HA.out i a hja
        have ht0 := HTC.out i a hja
        have e0 := (HB.out.cell (p := ⟨ga, i * 4, none⟩) (Nat.lt_of_lt_of_le hga HB3.out.size)).trans ((HB3.out.cell (p := ⟨ga, i * 4, none⟩) hga).trans h0)
        have e1 := (HB.out.cell (p := ⟨g2, i, none⟩) hg2).trans ht0
        generalize a.1 = t at *
        have ett : (t != t) = false := by simp
        clear h0 ht0 hja
        go_wp2
        go_region
        go_wp2
        go_roundw
        case rel => exact ⟨i + 1, by omega, by go_num, HB.out.drew⟩
        case measure => simp [intOf]; omega
      · obtain rfl : i = n := by omega
        have hXs := HXR.out.call HB.out
        have hRs := HR3.out.call HB.out
        have hBs := HB3.out.trans (HB.out.mono HB3.out.size)
        have HDW := HDD wr hBs
        have s0 := hXs.at (k := 0) (v := .int .i64 ro) rfl
        have s1 := hXs.at (k := 1) (v := .string (str nm)) rfl
        have s2 := hXs.at (k := 2) (v := .int .i64 0) rfl
        have s3 := hXs.at (k := 3) (v := .string (str tk)) rfl
        have s4 := hXs.at (k := 4) (v := .string (str lv)) rfl
        have s5 := hXs.at (k := 5) (v := .bool fx) rfl
        have k3' := (HB.out.cell (p := ⟨g3, 0, none⟩) hg3).trans k3
        have HRs := hid hRs
        have HBs := hid hBs
        have hg3s : g3 < wr.heap.size := Nat.lt_of_lt_of_le hg3 HB.out.size
        clear hXs hRs hBs
        go_wp2_with (go_at_call 80; refine HDW.out.mono ?_; rintro e w9 ⟨rfl, hb9⟩; have HR9 := hid (HRs.out.call hb9); have HB9 := hid (HBs.out.trans (hb9.mono HBs.out.size)); have k9 : ∀ o, (w9.alloc o).cell? ⟨g3, 0, none⟩ = some (.int .i64 123) := fun o => by { rw [((Below.refl _ w9).alloc (Nat.le_refl _) o).cell (p := ⟨g3, 0, none⟩) (Nat.lt_of_lt_of_le hg3s hb9.size), hb9.cell (p := ⟨g3, 0, none⟩) hg3s]; exact k3' }; have r0 := fun o => (HR9.out.alloc o).at (k := 0) (v := .int .i64 0) rfl; have r1 := fun o => (HR9.out.alloc o).at (k := 1) (v := .int .u64 0) rfl; have r2 := fun o => (HR9.out.alloc o).at (k := 2) (v := .int .u64 0) rfl; have r3 := fun o => (HR9.out.alloc o).at (k := 3) (v := .bool false) rfl; have f0 := fun o => (HR9.out.alloc o).free 0; have f1 := fun o => (HR9.out.alloc o).free 1; have f2 := fun o => (HR9.out.alloc o).free 2; have f3 := fun o => (HR9.out.alloc o).free 3; clear hb9)
        have hBF : Below w.heap.size w _ := ((((HB9.out.alloc HB9.out.size (.cells #[.int .i64 123, .int .u64 (lo : Nat), .int .u64 (hi : Nat), .bool false] 24)).setCell (p := ⟨w.heap.size, 0, none⟩) (Nat.le_refl _) (.int .i64 123)).setCell (p := ⟨w.heap.size, 1, none⟩) (Nat.le_refl _) (.int .u64 (lo : Nat))).setCell (p := ⟨w.heap.size, 2, none⟩) (Nat.le_refl _) (.int .u64 (hi : Nat))).setCell (p := ⟨w.heap.size, 3, none⟩) (Nat.le_refl _) (.bool false)
        refine bodyPost_ret (v := .tuple #[.agg #[.int .i64 123, .int .u64 (lo : Nat), .int .u64 (hi : Nat), .bool false], .int .i64 0]) ?_ rfl ⟨rfl, hBF⟩
        simp [results, Tryz.results38, go_sem, r0, r1, r2, r3]
end Go.Proofs.YtlhakbkdlgejpaaGreatDoor
namespace Go.Proofs.YtlhakbkdlgejpaaGreatDoor
open Go.RowKit
theorem rsize_any (x : Int) (h1 : -9223372036854775808 ≤ x) (h2 : x < 9223372036854775808) (w : World) :
    Calls Tryz.prog 264 #[.int .i64 x] w fun e w' => e = .returned (.int .u64 (x.natAbs : Nat)) ∧ w = w' := by
  by_cases hx : x < 0
  · have hw : IntKind.u64.wrap (-(x + 1)) = ((x.natAbs - 1 : Nat) : Int) := by rw [IntKind.wrap_u64]; omega
    obtain ⟨m, hm⟩ : ∃ m : Nat, m = x.natAbs - 1 := ⟨_, rfl⟩
    have hw2 : IntKind.u64.wrap ((m : Int) + 1) = ((x.natAbs : Nat) : Int) := by rw [IntKind.wrap_u64]; omega
    rw [← hm] at hw
    obtain ⟨r, hr⟩ : ∃ r : Nat, r = x.natAbs := ⟨_, rfl⟩
    rw [← hr] at hw2 ⊢
    clear hm hr
    go_enter Tryz.func264, Tryz.ntmps264
    go_wp2
    go_ret
    exact ⟨rfl, rfl⟩
  · have hw : IntKind.u64.wrap x = ((x.natAbs : Nat) : Int) := by rw [IntKind.wrap_u64]; omega
    obtain ⟨r, hr⟩ : ∃ r : Nat, r = x.natAbs := ⟨_, rfl⟩
    rw [← hr] at hw ⊢
    clear hr
    go_enter Tryz.func264, Tryz.ntmps264
    go_wp2
    go_ret
    exact ⟨rfl, rfl⟩
def clampM (M z : Int) : Int := if z < -M - 1 then -M - 1 else if M < z then M else z
set_option maxHeartbeats 800000 in
theorem within_less (x y M : Int) (h0 : 0 ≤ M) (h1 : M ≤ 9223372036854775807) (hx1 : -M - 1 ≤ x) (hx2 : x ≤ M) (hy1 : -M - 1 ≤ y) (hy2 : y ≤ M) (w : World) :
    Calls Tryz.prog 265 #[.int .i64 x, .int .i64 y, .int .i64 M, .bool true] w fun e w' => e = .returned (.int .i64 (clampM M (x - y))) ∧ w = w' := by
  by_cases hp : 0 < y
  · have hn : ¬ y < 0 := by omega
    by_cases hc : x < -M - 1 + y
    · have e : clampM M (x - y) = -M - 1 := by unfold clampM; rw [if_pos (by omega)]
      rw [e]
      go_enter Tryz.func265, Tryz.ntmps265
      go_wp2
      go_ret
      exact ⟨rfl, rfl⟩
    · have e : clampM M (x - y) = x - y := by unfold clampM; rw [if_neg (by omega), if_neg (by omega)]
      rw [e]
      go_enter Tryz.func265, Tryz.ntmps265
      go_wp2
      go_ret
      exact ⟨rfl, rfl⟩
  · by_cases hn : y < 0
    · by_cases hc : M + y < x
      · have e : clampM M (x - y) = M := by unfold clampM; rw [if_neg (by omega), if_pos (by omega)]
        rw [e]
        go_enter Tryz.func265, Tryz.ntmps265
        go_wp2
        go_ret
        exact ⟨rfl, rfl⟩
      · have e : clampM M (x - y) = x - y := by unfold clampM; rw [if_neg (by omega), if_neg (by omega)]
        rw [e]
        go_enter Tryz.func265, Tryz.ntmps265
        go_wp2
        go_ret
        exact ⟨rfl, rfl⟩
    · have e : clampM M (x - y) = x - y := by unfold clampM; rw [if_neg (by omega), if_neg (by omega)]
      rw [e]
      go_enter Tryz.func265, Tryz.ntmps265
      go_wp2
      go_ret
      exact ⟨rfl, rfl⟩
set_option maxHeartbeats 800000 in
theorem within_more (x y M : Int) (h0 : 0 ≤ M) (h1 : M ≤ 9223372036854775807) (hx1 : -M - 1 ≤ x) (hx2 : x ≤ M) (hy1 : -M - 1 ≤ y) (hy2 : y ≤ M) (w : World) :
    Calls Tryz.prog 265 #[.int .i64 x, .int .i64 y, .int .i64 M, .bool false] w fun e w' => e = .returned (.int .i64 (clampM M (x + y))) ∧ w = w' := by
  by_cases hp : 0 < y
  · have hn : ¬ y < 0 := by omega
    by_cases hc : M - y < x
    · have e : clampM M (x + y) = M := by unfold clampM; rw [if_neg (by omega), if_pos (by omega)]
      rw [e]
      go_enter Tryz.func265, Tryz.ntmps265
      go_wp2
      go_ret
      exact ⟨rfl, rfl⟩
    · have e : clampM M (x + y) = x + y := by unfold clampM; rw [if_neg (by omega), if_neg (by omega)]
      rw [e]
      go_enter Tryz.func265, Tryz.ntmps265
      go_wp2
      go_ret
      exact ⟨rfl, rfl⟩
  · by_cases hn : y < 0
    · by_cases hc : x < -M - 1 - y
      · have e : clampM M (x + y) = -M - 1 := by unfold clampM; rw [if_pos (by omega)]
        rw [e]
        go_enter Tryz.func265, Tryz.ntmps265
        go_wp2
        go_ret
        exact ⟨rfl, rfl⟩
      · have e : clampM M (x + y) = x + y := by unfold clampM; rw [if_neg (by omega), if_neg (by omega)]
        rw [e]
        go_enter Tryz.func265, Tryz.ntmps265
        go_wp2
        go_ret
        exact ⟨rfl, rfl⟩
    · have e : clampM M (x + y) = x + y := by unfold clampM; rw [if_neg (by omega), if_neg (by omega)]
      rw [e]
      go_enter Tryz.func265, Tryz.ntmps265
      go_wp2
      go_ret
      exact ⟨rfl, rfl⟩
end Go.Proofs.YtlhakbkdlgejpaaGreatDoor
namespace Go.Proofs.YtlhakbkdlgejpaaGreatDoor
open Go.RowKit
theorem clampM_eq {n : Nat} (z : Int) : clampM (((2 ^ (n - 1) : Nat) : Int) - 1) z = clampS n z := by
  unfold clampM clampS
  have e : -(((2 ^ (n - 1) : Nat) : Int) - 1) - 1 = -((2 ^ (n - 1) : Nat) : Int) := by omega
  rw [e]
theorem all_ones {n : Nat} (hn : Okn n) : 18446744073709551615 % 2 ^ n = 2 ^ n - 1 ∧ (2 ^ n - 1) / 2 = 2 ^ (n - 1) - 1 := by
  rcases hn with rfl | rfl | rfl | rfl <;> decide
theorem clampS_range {n : Nat} (hn : Okn n) (z : Int) : -9223372036854775808 ≤ clampS n z ∧ clampS n z < 9223372036854775808 := by
  obtain ⟨h1, h2, h3, h4⟩ := pow_lt64 hn
  unfold clampS
  split
  · omega
  · split <;> omega
/-- What held begins with: all ones, and the greatest number with a sign. -/
theorem ones_cut (n : Nat) (hn : Okn n) (W : World) : Calls Tryz.prog 81 #[.int .i64 n, .int .u64 18446744073709551615] W fun e w' => e = .returned (.int .u64 ((2 ^ n - 1 : Nat) : Int)) ∧ W = w' := by
  have := Cut_any n hn 18446744073709551615 (by decide) W
  rw [(all_ones hn).1] at this
  exact this
set_option maxHeartbeats 800000 in
theorem held_sat (n : Nat) (hn : Okn n) (op : Nat) (hop : op = 16 ∨ op = 18) (a b : Nat) (ha : a < 2 ^ n) (hb : b < 2 ^ n) (w : World) :
    Calls Tryz.prog 232 #[.int .i64 n, .int .i64 op, .int .u64 a, .int .u64 b, .int .i64 (sg n a), .int .i64 (sg n b)] w fun e w' => e = .returned (.int .u64 (satR n op a b : Nat)) ∧ w = w' := by
  obtain ⟨h1, h2, h3, h4⟩ := pow_lt64 hn
  have HO := hid (ones_cut n hn)
  have rA := sg_range hn ha
  have rB := sg_range hn hb
  obtain ⟨x, hx⟩ : ∃ x, x = sg n a := ⟨_, rfl⟩
  obtain ⟨y, hy⟩ : ∃ y, y = sg n b := ⟨_, rfl⟩
  obtain ⟨M, hM⟩ : ∃ M : Nat, M = (2 ^ n - 1) / 2 := ⟨_, rfl⟩
  have hM2 := (all_ones hn).2
  rw [← hM] at hM2
  have hMc : (M : Int) = ((2 ^ (n - 1) : Nat) : Int) - 1 := by omega
  obtain ⟨O, hO⟩ : ∃ O : Nat, O = 2 ^ n - 1 := ⟨_, rfl⟩
  rw [← hO] at HO hM
  have hOM : (O : Int) / 2 = (M : Int) := by rw [hM]; simp
  have hM64 : (M : Int) ≤ 9223372036854775807 := by omega
  rw [← hx] at rA
  rw [← hy] at rB
  have hwO := wrap_nat (show M < 18446744073709551616 by omega)
  rcases hop with rfl | rfl
  · have hW := within_more x y M (by omega) hM64 (by omega) (by omega) (by omega) (by omega) w
    rw [hMc, clampM_eq, ← hMc] at hW
    have hr := clampS_range hn (x + y)
    rw [satR, if_pos rfl, ← hx, ← hy]
    obtain ⟨z, hz⟩ : ∃ z, z = clampS n (x + y) := ⟨_, rfl⟩
    rw [← hz] at hW hr ⊢
    have hv := wrap_toN hn z
    obtain ⟨v, hve⟩ : ∃ v : Nat, v = (z % 18446744073709551616).toNat := ⟨_, rfl⟩
    have hvw : IntKind.u64.wrap z = (v : Int) := by rw [IntKind.wrap_u64]; omega
    have hC := Cut_any n hn v (by omega) w
    rw [← hve] at hv
    rw [hv] at hC
    obtain ⟨s, hse⟩ : ∃ s : Nat, s = toN n z := ⟨_, rfl⟩
    rw [← hse] at hC ⊢
    have HC := hid hC
    have HW := hid hW
    clear h1 h2 h3 h4 hn ha hb rA rB hx hy hM hM2 hMc hO hW hr hz hv hve hC hse
    show Calls Tryz.prog 232 #[.int .i64 n, .int .i64 16, .int .u64 a, .int .u64 b, .int .i64 x, .int .i64 y] w _
    go_enter Tryz.func232, Tryz.ntmps232
    go_wp2_with (first
      | (go_at_call 81; ((with_reducible refine (HO.out _).mono ?_); rintro e w' ⟨rfl, rfl⟩))
      | (go_at_call 265; refine HW.out.mono ?_; rintro e w' ⟨rfl, rfl⟩)
      | (go_at_call 81; ((with_reducible refine HC.out.mono ?_); rintro e w' ⟨rfl, rfl⟩)))
    go_ret
    exact ⟨rfl, rfl⟩
  · have hW := within_less x y M (by omega) hM64 (by omega) (by omega) (by omega) (by omega) w
    rw [hMc, clampM_eq, ← hMc] at hW
    have hr := clampS_range hn (x - y)
    rw [satR, if_neg (by decide), if_pos rfl, ← hx, ← hy]
    obtain ⟨z, hz⟩ : ∃ z, z = clampS n (x - y) := ⟨_, rfl⟩
    rw [← hz] at hW hr ⊢
    have hv := wrap_toN hn z
    obtain ⟨v, hve⟩ : ∃ v : Nat, v = (z % 18446744073709551616).toNat := ⟨_, rfl⟩
    have hvw : IntKind.u64.wrap z = (v : Int) := by rw [IntKind.wrap_u64]; omega
    have hC := Cut_any n hn v (by omega) w
    rw [← hve] at hv
    rw [hv] at hC
    obtain ⟨s, hse⟩ : ∃ s : Nat, s = toN n z := ⟨_, rfl⟩
    rw [← hse] at hC ⊢
    have HC := hid hC
    have HW := hid hW
    clear h1 h2 h3 h4 hn ha hb rA rB hx hy hM hM2 hMc hO hW hr hz hv hve hC hse
    show Calls Tryz.prog 232 #[.int .i64 n, .int .i64 18, .int .u64 a, .int .u64 b, .int .i64 x, .int .i64 y] w _
    go_enter Tryz.func232, Tryz.ntmps232
    go_wp2_with (first
      | (go_at_call 81; ((with_reducible refine (HO.out _).mono ?_); rintro e w' ⟨rfl, rfl⟩))
      | (go_at_call 265; refine HW.out.mono ?_; rintro e w' ⟨rfl, rfl⟩)
      | (go_at_call 81; ((with_reducible refine HC.out.mono ?_); rintro e w' ⟨rfl, rfl⟩)))
    go_ret
    exact ⟨rfl, rfl⟩
set_option maxHeartbeats 800000 in
theorem held_17 (n : Nat) (hn : Okn n) (a b : Nat) (ha : a < 2 ^ n) (hb : b < 2 ^ n) (w : World) :
    Calls Tryz.prog 232 #[.int .i64 n, .int .i64 17, .int .u64 a, .int .u64 b, .int .i64 (sg n a), .int .i64 (sg n b)] w fun e w' => e = .returned (.int .u64 (satR n 17 a b : Nat)) ∧ w = w' := by
  obtain ⟨h1, h2, h3, h4⟩ := pow_lt64 hn
  have HO := hid (ones_cut n hn)
  obtain ⟨x, hx⟩ : ∃ x, x = sg n a := ⟨_, rfl⟩
  obtain ⟨y, hy⟩ : ∃ y, y = sg n b := ⟨_, rfl⟩
  obtain ⟨M, hM⟩ : ∃ M : Nat, M = (2 ^ n - 1) / 2 := ⟨_, rfl⟩
  have hM2 := (all_ones hn).2
  rw [← hM] at hM2
  obtain ⟨O, hO⟩ : ∃ O : Nat, O = 2 ^ n - 1 := ⟨_, rfl⟩
  rw [← hO] at HO hM
  have hOM : (O : Int) / 2 = (M : Int) := by rw [hM]; simp
  have hM64 : (M : Int) ≤ 9223372036854775807 := by omega
  have hwO := wrap_nat (show M < 18446744073709551616 by omega)
  rw [satR, if_neg (by decide), if_neg (by decide), if_pos rfl, ← hO, ← hx, ← hy]
  have hw : IntKind.u64.wrap ((O : Int) - (b : Int)) = ((O - b : Nat) : Int) := by rw [IntKind.wrap_u64]; omega
  obtain ⟨d, hd⟩ : ∃ d : Nat, d = O - b := ⟨_, rfl⟩
  rw [← hd] at hw
  by_cases hc : d < a
  · rw [if_pos (by omega)]
    have hd2 : decide (d < a) = true := decide_eq_true hc
    clear h1 h2 h3 h4 hn ha hb hx hy hM hM2 hO hd
    go_enter Tryz.func232, Tryz.ntmps232
    go_wp2_with (go_at_call 81; ((with_reducible refine (HO.out _).mono ?_); rintro e w' ⟨rfl, rfl⟩))
    go_ret
    exact ⟨rfl, rfl⟩
  · rw [if_neg (by omega)]
    have hd2 : decide (d < a) = false := decide_eq_false hc
    have hw2 : IntKind.u64.wrap ((a : Int) + (b : Int)) = ((a + b : Nat) : Int) := by rw [IntKind.wrap_u64]; omega
    clear h1 h2 h3 h4 hn ha hb hx hy hM hM2 hO hd
    go_enter Tryz.func232, Tryz.ntmps232
    go_wp2_with (go_at_call 81; ((with_reducible refine (HO.out _).mono ?_); rintro e w' ⟨rfl, rfl⟩))
    go_ret
    exact ⟨rfl, rfl⟩
set_option maxHeartbeats 800000 in
theorem held_19 (n : Nat) (hn : Okn n) (a b : Nat) (ha : a < 2 ^ n) (hb : b < 2 ^ n) (w : World) :
    Calls Tryz.prog 232 #[.int .i64 n, .int .i64 19, .int .u64 a, .int .u64 b, .int .i64 (sg n a), .int .i64 (sg n b)] w fun e w' => e = .returned (.int .u64 (satR n 19 a b : Nat)) ∧ w = w' := by
  obtain ⟨h1, h2, h3, h4⟩ := pow_lt64 hn
  have HO := hid (ones_cut n hn)
  obtain ⟨x, hx⟩ : ∃ x, x = sg n a := ⟨_, rfl⟩
  obtain ⟨y, hy⟩ : ∃ y, y = sg n b := ⟨_, rfl⟩
  obtain ⟨M, hM⟩ : ∃ M : Nat, M = (2 ^ n - 1) / 2 := ⟨_, rfl⟩
  have hM2 := (all_ones hn).2
  rw [← hM] at hM2
  obtain ⟨O, hO⟩ : ∃ O : Nat, O = 2 ^ n - 1 := ⟨_, rfl⟩
  rw [← hO] at HO hM
  have hOM : (O : Int) / 2 = (M : Int) := by rw [hM]; simp
  have hM64 : (M : Int) ≤ 9223372036854775807 := by omega
  have hwO := wrap_nat (show M < 18446744073709551616 by omega)
  rw [satR, if_neg (by decide), if_neg (by decide), if_neg (by decide), ← hx, ← hy]
  by_cases hc : a < b
  · have hd2 : decide (a < b) = true := decide_eq_true hc
    have e : a - b = 0 := by omega
    rw [e]
    clear h1 h2 h3 h4 hn ha hb hx hy hM hM2 hO e
    go_enter Tryz.func232, Tryz.ntmps232
    go_wp2_with (go_at_call 81; ((with_reducible refine (HO.out _).mono ?_); rintro e w' ⟨rfl, rfl⟩))
    go_ret
    exact ⟨rfl, rfl⟩
  · have hd2 : decide (a < b) = false := decide_eq_false hc
    have hw2 : IntKind.u64.wrap ((a : Int) - (b : Int)) = ((a - b : Nat) : Int) := by rw [IntKind.wrap_u64]; omega
    clear h1 h2 h3 h4 hn ha hb hx hy hM hM2 hO
    go_enter Tryz.func232, Tryz.ntmps232
    go_wp2_with (go_at_call 81; ((with_reducible refine (HO.out _).mono ?_); rintro e w' ⟨rfl, rfl⟩))
    go_ret
    exact ⟨rfl, rfl⟩
set_option maxHeartbeats 800000 in
theorem held_20 (n : Nat) (hn : Okn n) (a b : Nat) (ha : a < 2 ^ n) (hb : b < 2 ^ n) (w : World) :
    Calls Tryz.prog 232 #[.int .i64 n, .int .i64 20, .int .u64 a, .int .u64 b, .int .i64 (sg n a), .int .i64 (sg n b)] w fun e w' => e = .returned (.int .u64 (mmR n 20 a b : Nat)) ∧ w = w' := by
  obtain ⟨h1, h2, h3, h4⟩ := pow_lt64 hn
  have HO := hid (ones_cut n hn)
  obtain ⟨x, hx⟩ : ∃ x, x = sg n a := ⟨_, rfl⟩
  obtain ⟨y, hy⟩ : ∃ y, y = sg n b := ⟨_, rfl⟩
  obtain ⟨M, hM⟩ : ∃ M : Nat, M = (2 ^ n - 1) / 2 := ⟨_, rfl⟩
  have hM2 := (all_ones hn).2
  rw [← hM] at hM2
  obtain ⟨O, hO⟩ : ∃ O : Nat, O = 2 ^ n - 1 := ⟨_, rfl⟩
  rw [← hO] at HO hM
  have hOM : (O : Int) / 2 = (M : Int) := by rw [hM]; simp
  have hM64 : (M : Int) ≤ 9223372036854775807 := by omega
  have hwO := wrap_nat (show M < 18446744073709551616 by omega)
  rw [mmR, if_pos rfl, ← hx, ← hy]
  by_cases hc : x < y
  · rw [if_pos hc]
    have hd2 : decide (x < y) = true := decide_eq_true hc
    clear h1 h2 h3 h4 hn ha hb hx hy hM hM2 hO hc
    go_enter Tryz.func232, Tryz.ntmps232
    go_wp2_with (go_at_call 81; ((with_reducible refine (HO.out _).mono ?_); rintro e w' ⟨rfl, rfl⟩))
    go_ret
    exact ⟨rfl, rfl⟩
  · rw [if_neg hc]
    have hd2 : decide (x < y) = false := decide_eq_false hc
    clear h1 h2 h3 h4 hn ha hb hx hy hM hM2 hO hc
    go_enter Tryz.func232, Tryz.ntmps232
    go_wp2_with (go_at_call 81; ((with_reducible refine (HO.out _).mono ?_); rintro e w' ⟨rfl, rfl⟩))
    go_ret
    exact ⟨rfl, rfl⟩
set_option maxHeartbeats 800000 in
theorem held_22 (n : Nat) (hn : Okn n) (a b : Nat) (ha : a < 2 ^ n) (hb : b < 2 ^ n) (w : World) :
    Calls Tryz.prog 232 #[.int .i64 n, .int .i64 22, .int .u64 a, .int .u64 b, .int .i64 (sg n a), .int .i64 (sg n b)] w fun e w' => e = .returned (.int .u64 (mmR n 22 a b : Nat)) ∧ w = w' := by
  obtain ⟨h1, h2, h3, h4⟩ := pow_lt64 hn
  have HO := hid (ones_cut n hn)
  obtain ⟨x, hx⟩ : ∃ x, x = sg n a := ⟨_, rfl⟩
  obtain ⟨y, hy⟩ : ∃ y, y = sg n b := ⟨_, rfl⟩
  obtain ⟨M, hM⟩ : ∃ M : Nat, M = (2 ^ n - 1) / 2 := ⟨_, rfl⟩
  have hM2 := (all_ones hn).2
  rw [← hM] at hM2
  obtain ⟨O, hO⟩ : ∃ O : Nat, O = 2 ^ n - 1 := ⟨_, rfl⟩
  rw [← hO] at HO hM
  have hOM : (O : Int) / 2 = (M : Int) := by rw [hM]; simp
  have hM64 : (M : Int) ≤ 9223372036854775807 := by omega
  have hwO := wrap_nat (show M < 18446744073709551616 by omega)
  rw [mmR, if_neg (by decide), if_pos rfl, ← hx, ← hy]
  by_cases hc : x < y
  · rw [if_pos hc]
    have hd2 : decide (x < y) = true := decide_eq_true hc
    clear h1 h2 h3 h4 hn ha hb hx hy hM hM2 hO hc
    go_enter Tryz.func232, Tryz.ntmps232
    go_wp2_with (go_at_call 81; ((with_reducible refine (HO.out _).mono ?_); rintro e w' ⟨rfl, rfl⟩))
    go_ret
    exact ⟨rfl, rfl⟩
  · rw [if_neg hc]
    have hd2 : decide (x < y) = false := decide_eq_false hc
    clear h1 h2 h3 h4 hn ha hb hx hy hM hM2 hO hc
    go_enter Tryz.func232, Tryz.ntmps232
    go_wp2_with (go_at_call 81; ((with_reducible refine (HO.out _).mono ?_); rintro e w' ⟨rfl, rfl⟩))
    go_ret
    exact ⟨rfl, rfl⟩
set_option maxHeartbeats 800000 in
theorem held_21 (n : Nat) (hn : Okn n) (a b : Nat) (ha : a < 2 ^ n) (hb : b < 2 ^ n) (w : World) :
    Calls Tryz.prog 232 #[.int .i64 n, .int .i64 21, .int .u64 a, .int .u64 b, .int .i64 (sg n a), .int .i64 (sg n b)] w fun e w' => e = .returned (.int .u64 (mmR n 21 a b : Nat)) ∧ w = w' := by
  obtain ⟨h1, h2, h3, h4⟩ := pow_lt64 hn
  have HO := hid (ones_cut n hn)
  obtain ⟨x, hx⟩ : ∃ x, x = sg n a := ⟨_, rfl⟩
  obtain ⟨y, hy⟩ : ∃ y, y = sg n b := ⟨_, rfl⟩
  obtain ⟨M, hM⟩ : ∃ M : Nat, M = (2 ^ n - 1) / 2 := ⟨_, rfl⟩
  have hM2 := (all_ones hn).2
  rw [← hM] at hM2
  obtain ⟨O, hO⟩ : ∃ O : Nat, O = 2 ^ n - 1 := ⟨_, rfl⟩
  rw [← hO] at HO hM
  have hOM : (O : Int) / 2 = (M : Int) := by rw [hM]; simp
  have hM64 : (M : Int) ≤ 9223372036854775807 := by omega
  have hwO := wrap_nat (show M < 18446744073709551616 by omega)
  rw [mmR, if_neg (by decide), if_neg (by decide), if_pos rfl, ← hx, ← hy]
  by_cases hc : a < b
  · rw [if_pos hc]
    have hd2 : decide (a < b) = true := decide_eq_true hc
    clear h1 h2 h3 h4 hn ha hb hx hy hM hM2 hO hc
    go_enter Tryz.func232, Tryz.ntmps232
    go_wp2_with (go_at_call 81; ((with_reducible refine (HO.out _).mono ?_); rintro e w' ⟨rfl, rfl⟩))
    go_ret
    exact ⟨rfl, rfl⟩
  · rw [if_neg hc]
    have hd2 : decide (a < b) = false := decide_eq_false hc
    clear h1 h2 h3 h4 hn ha hb hx hy hM hM2 hO hc
    go_enter Tryz.func232, Tryz.ntmps232
    go_wp2_with (go_at_call 81; ((with_reducible refine (HO.out _).mono ?_); rintro e w' ⟨rfl, rfl⟩))
    go_ret
    exact ⟨rfl, rfl⟩
set_option maxHeartbeats 800000 in
theorem held_23 (n : Nat) (hn : Okn n) (a b : Nat) (ha : a < 2 ^ n) (hb : b < 2 ^ n) (w : World) :
    Calls Tryz.prog 232 #[.int .i64 n, .int .i64 23, .int .u64 a, .int .u64 b, .int .i64 (sg n a), .int .i64 (sg n b)] w fun e w' => e = .returned (.int .u64 (mmR n 23 a b : Nat)) ∧ w = w' := by
  obtain ⟨h1, h2, h3, h4⟩ := pow_lt64 hn
  have HO := hid (ones_cut n hn)
  obtain ⟨x, hx⟩ : ∃ x, x = sg n a := ⟨_, rfl⟩
  obtain ⟨y, hy⟩ : ∃ y, y = sg n b := ⟨_, rfl⟩
  obtain ⟨M, hM⟩ : ∃ M : Nat, M = (2 ^ n - 1) / 2 := ⟨_, rfl⟩
  have hM2 := (all_ones hn).2
  rw [← hM] at hM2
  obtain ⟨O, hO⟩ : ∃ O : Nat, O = 2 ^ n - 1 := ⟨_, rfl⟩
  rw [← hO] at HO hM
  have hOM : (O : Int) / 2 = (M : Int) := by rw [hM]; simp
  have hM64 : (M : Int) ≤ 9223372036854775807 := by omega
  have hwO := wrap_nat (show M < 18446744073709551616 by omega)
  rw [mmR, if_neg (by decide), if_neg (by decide), if_neg (by decide), ← hx, ← hy]
  by_cases hc : a < b
  · rw [if_pos hc]
    have hd2 : decide (a < b) = true := decide_eq_true hc
    clear h1 h2 h3 h4 hn ha hb hx hy hM hM2 hO hc
    go_enter Tryz.func232, Tryz.ntmps232
    go_wp2_with (go_at_call 81; ((with_reducible refine (HO.out _).mono ?_); rintro e w' ⟨rfl, rfl⟩))
    go_ret
    exact ⟨rfl, rfl⟩
  · rw [if_neg hc]
    have hd2 : decide (a < b) = false := decide_eq_false hc
    clear h1 h2 h3 h4 hn ha hb hx hy hM hM2 hO hc
    go_enter Tryz.func232, Tryz.ntmps232
    go_wp2_with (go_at_call 81; ((with_reducible refine (HO.out _).mono ?_); rintro e w' ⟨rfl, rfl⟩))
    go_ret
    exact ⟨rfl, rfl⟩
set_option maxHeartbeats 800000 in
theorem held_24 (n : Nat) (hn : Okn n) (a b : Nat) (ha : a < 2 ^ n) (hb : b < 2 ^ n) (w : World) :
    Calls Tryz.prog 232 #[.int .i64 n, .int .i64 24, .int .u64 a, .int .u64 b, .int .i64 (sg n a), .int .i64 (sg n b)] w fun e w' => e = .returned (.int .u64 (((a + b + 1) / 2) : Nat)) ∧ w = w' := by
  obtain ⟨h1, h2, h3, h4⟩ := pow_lt64 hn
  have HO := hid (ones_cut n hn)
  obtain ⟨x, hx⟩ : ∃ x, x = sg n a := ⟨_, rfl⟩
  obtain ⟨y, hy⟩ : ∃ y, y = sg n b := ⟨_, rfl⟩
  obtain ⟨M, hM⟩ : ∃ M : Nat, M = (2 ^ n - 1) / 2 := ⟨_, rfl⟩
  have hM2 := (all_ones hn).2
  rw [← hM] at hM2
  obtain ⟨O, hO⟩ : ∃ O : Nat, O = 2 ^ n - 1 := ⟨_, rfl⟩
  rw [← hO] at HO hM
  have hOM : (O : Int) / 2 = (M : Int) := by rw [hM]; simp
  have hM64 : (M : Int) ≤ 9223372036854775807 := by omega
  have hwO := wrap_nat (show M < 18446744073709551616 by omega)
  rw [← hx, ← hy]
  have ha64 : (a : Int) < 18446744073709551616 := by omega
  have hb64 : (b : Int) < 18446744073709551616 := by omega
  have hr := hid (show (a : Int) / 2 + (b : Int) / 2 + ((a : Int) % 2 + (b : Int) % 2 + 1) / 2 = (((a + b + 1) / 2 : Nat) : Int) by omega)
  have hr2 := hid (show (((a + b + 1) / 2 : Nat) : Int) < 18446744073709551616 by omega)
  clear h1 h2 h3 h4 hn ha hb hx hy hM hM2 hO
  go_enter Tryz.func232, Tryz.ntmps232
  go_wp2_with (go_at_call 81; ((with_reducible refine (HO.out _).mono ?_); rintro e w' ⟨rfl, rfl⟩))
  go_ret
  refine ⟨ret_int ?_, rfl⟩
  have h1 := hr.out
  have h2 := hr2.out
  first
    | exact h1
    | (simp only [IntKind.wrap_u64]; omega)
theorem frac_parts (p : Int) : ∃ T R : Int, p.tdiv 32768 = T ∧ p.tmod 32768 = R ∧ (R < 0 → p / 32768 = T - 1) ∧ (0 ≤ R → p / 32768 = T) := by
  refine ⟨_, _, rfl, rfl, ?_, ?_⟩
  · intro h
    have e1 := Int.mul_tdiv_add_tmod p 32768
    have e2 : -32768 < p.tmod 32768 := by
      have := Int.lt_tmod_of_pos p (show (0 : Int) < 32768 by decide)
      omega
    generalize p.tdiv 32768 = T at *
    generalize p.tmod 32768 = R at *
    omega
  · intro h
    have e1 := Int.mul_tdiv_add_tmod p 32768
    have e2 : p.tmod 32768 < 32768 := Int.tmod_lt_of_pos p (by decide)
    generalize p.tdiv 32768 = T at *
    generalize p.tmod 32768 = R at *
    omega
set_option maxHeartbeats 1600000 in
theorem held_25 (a b : Nat) (ha : a < 2 ^ 16) (hb : b < 2 ^ 16) (w : World) :
    Calls Tryz.prog 232 #[.int .i64 16, .int .i64 25, .int .u64 a, .int .u64 b, .int .i64 (sg 16 a), .int .i64 (sg 16 b)] w fun e w' => e = .returned (.int .u64 (toN 16 (clampS 16 ((sg 16 a * sg 16 b + 16384) / 32768)) : Nat)) ∧ w = w' := by
  have hn : Okn 16 := .inr (.inl rfl)
  obtain ⟨O, hO⟩ : ∃ O : Nat, O = 2 ^ 16 - 1 := ⟨_, rfl⟩
  obtain ⟨M, hM⟩ : ∃ M : Nat, M = 32767 := ⟨_, rfl⟩
  have HO : Hid (∀ W : World, Calls Tryz.prog 81 #[.int .i64 16, .int .u64 18446744073709551615] W fun e w' => e = .returned (.int .u64 (O : Int)) ∧ W = w') := fun W => by
    rw [hO]
    exact ones_cut 16 hn W
  have hOM : (O : Int) / 2 = (M : Int) := by rw [hO, hM]; rfl
  have hwO := wrap_nat (show M < 18446744073709551616 by omega)
  have hrA := sg_range hn ha
  have hrB := sg_range hn hb
  obtain ⟨x, hx⟩ : ∃ x, x = sg 16 a := ⟨_, rfl⟩
  obtain ⟨y, hy⟩ : ∃ y, y = sg 16 b := ⟨_, rfl⟩
  rw [← hx] at hrA
  rw [← hy] at hrB
  rw [← hx, ← hy]
  have hm := mul_range (A := x) (B := y) (by simpa using hrA.1) (by have := hrA.2; simp at this; omega) (by simpa using hrB.1) (by have := hrB.2; simp at this; omega)
  obtain ⟨P, hP⟩ : ∃ P, P = x * y := ⟨_, rfl⟩
  rw [← hP] at hm ⊢
  have hw1 : wrap64 (x * y) = P := by rw [← hP]; unfold wrap64; omega
  obtain ⟨p, hp⟩ : ∃ p, p = P + 16384 := ⟨_, rfl⟩
  have hw2 : wrap64 (P + 16384) = p := by rw [hp]; unfold wrap64; omega
  have hw3 : P + 16384 = p := hp.symm
  rw [← hp]
  obtain ⟨T, R, hT, hR, hd1, hd2⟩ := frac_parts p
  obtain ⟨F, hF⟩ : ∃ F, F = p / 32768 := ⟨_, rfl⟩
  rw [← hF] at hd1 hd2 ⊢
  have hFr : -32768 ≤ F ∧ F ≤ 32768 := by omega
  have hcl : clampS 16 F = if 32767 < F then 32767 else F := by
    unfold clampS
    simp only [Nat.reduceSub, Nat.reducePow]
    split
    · omega
    · split <;> split <;> omega
  rw [hcl]
  obtain ⟨z, hz⟩ : ∃ z, z = if 32767 < F then 32767 else F := ⟨_, rfl⟩
  rw [← hz]
  have hv := wrap_toN hn z
  obtain ⟨v, hve⟩ : ∃ v : Nat, v = (z % 18446744073709551616).toNat := ⟨_, rfl⟩
  have hvw : IntKind.u64.wrap z = (v : Int) := by rw [IntKind.wrap_u64]; omega
  have hC : Calls Tryz.prog 81 #[.int .i64 16, .int .u64 v] w _ := Cut_any 16 hn v (by omega) w
  rw [← hve] at hv
  rw [hv] at hC
  obtain ⟨s, hse⟩ : ∃ s : Nat, s = toN 16 z := ⟨_, rfl⟩
  rw [← hse] at hC ⊢
  have HC := hid hC
  have HZ : Hid ((32767 < F → z = 32767) ∧ (¬ 32767 < F → z = F)) := ⟨fun h => by rw [hz, if_pos h], fun h => by rw [hz, if_neg h]⟩
  have HD := hid (And.intro hd1 hd2)
  have HV := hid hve
  have HF := hid (And.intro hm (And.intro hp hF))
  clear ha hb hn hO hrA hrB hx hy hcl hv hve hC hse hz hd1 hd2
  obtain ⟨hd1, hd2⟩ := HD.out
  have hMv : (M : Int) = 32767 := by omega
  have hwp : wrap64 p = p := by unfold wrap64; omega
  have hwM : wrap64 (M : Int) = (M : Int) := by unfold wrap64; omega
  have hwF : wrap64 F = F := by unfold wrap64; omega
  clear hm hp hF hP
  by_cases hneg : R < 0
  · have e := hd1 hneg
    have hn1 : decide (R < 0) = true := decide_eq_true hneg
    have hTF : wrap64 (T - 1) = F := by unfold wrap64; omega
    have hwT : wrap64 T = T := by unfold wrap64; omega
    have hTF2 : T - 1 = F := by omega
    by_cases hov : 32767 < F
    · have e3 := HZ.out.1 hov
      have hn2 : decide ((M : Int) < F) = true := by rw [hMv]; exact decide_eq_true hov
      obtain rfl : M = v := by have := HV.out; omega
      clear hd1 hd2 hneg hov e3 hvw hMv hM e hFr HD HZ hTF2 HF HV
      go_enter Tryz.func232, Tryz.ntmps232
      go_wp2_with (first
        | (go_at_call 81; ((with_reducible refine (HO.out _).mono ?_); rintro e w' ⟨rfl, rfl⟩))
        | (go_at_call 81; ((with_reducible refine HC.out.mono ?_); rintro e w' ⟨rfl, rfl⟩)))
      go_ret
      exact ⟨rfl, rfl⟩
    · have e3 := HZ.out.2 hov
      have hn2 : decide ((M : Int) < F) = false := by rw [hMv]; exact decide_eq_false hov
      rw [e3] at hvw
      clear hd1 hd2 hneg hov e3 hMv hM e hFr HD HZ hTF2 HF HV
      go_enter Tryz.func232, Tryz.ntmps232
      go_wp2_with (first
        | (go_at_call 81; ((with_reducible refine (HO.out _).mono ?_); rintro e w' ⟨rfl, rfl⟩))
        | (go_at_call 81; ((with_reducible refine HC.out.mono ?_); rintro e w' ⟨rfl, rfl⟩)))
      go_ret
      exact ⟨rfl, rfl⟩
  · have e := hd2 (by omega)
    have hn1 : decide (R < 0) = false := decide_eq_false hneg
    obtain rfl : F = T := e
    by_cases hov : 32767 < F
    · have e3 := HZ.out.1 hov
      have hn2 : decide ((M : Int) < F) = true := by rw [hMv]; exact decide_eq_true hov
      obtain rfl : M = v := by have := HV.out; omega
      clear hd1 hd2 hneg hov e3 hvw hMv hM hFr HD HZ HF HV
      go_enter Tryz.func232, Tryz.ntmps232
      go_wp2_with (first
        | (go_at_call 81; ((with_reducible refine (HO.out _).mono ?_); rintro e w' ⟨rfl, rfl⟩))
        | (go_at_call 81; ((with_reducible refine HC.out.mono ?_); rintro e w' ⟨rfl, rfl⟩)))
      go_ret
      exact ⟨rfl, rfl⟩
    · have e3 := HZ.out.2 hov
      have hn2 : decide ((M : Int) < F) = false := by rw [hMv]; exact decide_eq_false hov
      rw [e3] at hvw
      clear hd1 hd2 hneg hov e3 hMv hM hFr HD HZ HF HV
      go_enter Tryz.func232, Tryz.ntmps232
      go_wp2_with (first
        | (go_at_call 81; ((with_reducible refine (HO.out _).mono ?_); rintro e w' ⟨rfl, rfl⟩))
        | (go_at_call 81; ((with_reducible refine HC.out.mono ?_); rintro e w' ⟨rfl, rfl⟩)))
      go_ret
      exact ⟨rfl, rfl⟩
end Go.Proofs.YtlhakbkdlgejpaaGreatDoor
namespace Go.Proofs.YtlhakbkdlgejpaaGreatDoor
open Go.RowKit
theorem list_64 (a : Nat) (ha : a < 18446744073709551616) (w : World) : Calls Tryz.prog 228 #[.int .i64 64, .int .u64 a] w (ListPost w 64 a) := list_any 64 (Nat.le_refl _) a ha w
theorem quo_step {A b q r t : Nat} (hb : b ≠ 0) (hq : q = A / b) (hr : r = A % b) (ht : t ≤ 1) :
    (b ≤ 2 * r + t → (2 * A + t) / b = 2 * q + 1 ∧ (2 * A + t) % b = 2 * r + t - b) ∧ (2 * r + t < b → (2 * A + t) / b = 2 * q ∧ (2 * A + t) % b = 2 * r + t) := by
  have hd := Nat.div_add_mod A b
  have hl := Nat.mod_lt A (show 0 < b by omega)
  rw [← hq, ← hr] at hd
  rw [← hr] at hl
  have e : 2 * A + t = b * (2 * q) + (2 * r + t) := by
    rw [← hd, Nat.mul_add, ← Nat.mul_assoc, Nat.mul_comm 2 b, Nat.mul_assoc]; omega
  constructor
  · intro h
    have e2 : 2 * A + t = b * (2 * q + 1) + (2 * r + t - b) := by rw [e, Nat.mul_add, Nat.mul_one]; omega
    rw [e2]
    constructor
    · rw [Nat.mul_add_div (by omega), Nat.div_eq_of_lt (by omega)]
    · rw [Nat.mul_add_mod, Nat.mod_eq_of_lt (by omega)]
  · intro h
    rw [e]
    constructor
    · rw [Nat.mul_add_div (by omega), Nat.div_eq_of_lt h, Nat.add_zero]
    · rw [Nat.mul_add_mod, Nat.mod_eq_of_lt h]
theorem half_bit (a k : Nat) : a / 2 ^ k = 2 * (a / 2 ^ (k + 1)) + btN a k := by
  unfold btN
  rw [Nat.pow_succ, ← Nat.div_div_eq_div_mul]
  omega
def QuoPost (w : World) (a b : Nat) (e : Ending) (w' : World) : Prop := e = .returned (.tuple #[.int .u64 (a / b : Nat), .int .u64 (a % b : Nat)]) ∧ Below w.heap.size w w'
set_option maxHeartbeats 1600000 in
theorem quo_any (a b : Nat) (ha : a < 18446744073709551616) (hb : b ≠ 0) (hb2 : b < 18446744073709551616) (w : World) :
    Calls Tryz.prog 263 #[.int .u64 a, .int .u64 b] w (QuoPost w a b) := by
  have HB := hid (And.intro hb hb2)
  have HL := hid (list_64 a ha w)
  have HA := hid ha
  clear ha hb hb2
  go_enter Tryz.func263, Tryz.ntmps263
  go_wp2_with (go_at_call 228; refine HL.out.mono ?_; rintro e w1 ⟨v1, rfl, hown1, hB1⟩)
  obtain ⟨g, cap, rfl⟩ := owned_at hown1 (by decide)
  have HW := hid hown1
  have HB1 := hid hB1
  clear hown1 hB1
  go_loop [6, 7, 9] (fun vq vr vi => ∃ m : Nat, m ≤ 64 ∧ vi = .int .i64 ((m : Int) - 1) ∧ vq = .int .u64 ((a / 2 ^ m / b : Nat) : Int) ∧ vr = .int .u64 ((a / 2 ^ m % b : Nat) : Int)) (fun _ _ vi => (intOf vi + 1).toNat)
  case atStart =>
    have e : a / 2 ^ 64 = 0 := Nat.div_eq_of_lt HA.out
    exact ⟨64, Nat.le_refl _, rfl, by rw [e, Nat.zero_div]; rfl, by rw [e, Nat.zero_mod]; rfl⟩
  case round =>
    obtain ⟨m, hm, rfl, rfl, rfl⟩ := hrel
    by_cases h0 : m = 0
    · subst h0
      rw [Nat.pow_zero, Nat.div_one]
      go_wp2
      go_ret2
      exact ⟨rfl, HB1.out⟩
    · obtain ⟨k, rfl⟩ : ∃ k, m = k + 1 := ⟨m - 1, by omega⟩
      have ek : ((k + 1 : Nat) : Int) - 1 = (k : Int) := by omega
      have hc : w1.cell? ⟨g, k, none⟩ = some (.int .u64 (btN a k : Nat)) := by
        rw [HW.out.cellAt k (by omega), fc_get (by omega)]
      have ht := btN_le a k
      have hh := half_bit a k
      obtain ⟨hb, hb2⟩ := HB.out
      rw [ek]
      have hstep := quo_step (A := a / 2 ^ (k + 1)) hb rfl rfl ht
      rw [← hh] at hstep
      have hql : a / 2 ^ (k + 1) / b ≤ a / 2 ^ (k + 1) := Nat.div_le_self _ _
      have hrl : a / 2 ^ (k + 1) % b < b := Nat.mod_lt _ (by omega)
      have hal : 2 * (a / 2 ^ (k + 1)) ≤ a := by
        have := Nat.div_le_self a (2 ^ k)
        omega
      have ha := HA.out
      obtain ⟨q, hq⟩ : ∃ q : Nat, q = a / 2 ^ (k + 1) / b := ⟨_, rfl⟩
      obtain ⟨r, hr⟩ : ∃ r : Nat, r = a / 2 ^ (k + 1) % b := ⟨_, rfl⟩
      obtain ⟨c, hce⟩ : ∃ c : Nat, c = btN a k := ⟨_, rfl⟩
      rw [← hq] at hql
      rw [← hr] at hrl
      rw [← hq, ← hr, ← hce] at hstep
      rw [← hce] at hc ht
      rw [← hq, ← hr]
      have hw3 : IntKind.u64.wrap ((q : Int) * 2) = ((2 * q : Nat) : Int) := by rw [IntKind.wrap_u64]; omega
      by_cases hov : 9223372036854775808 ≤ r
      · have hd : decide (9223372036854775808 ≤ (r : Int)) = true := by simp; omega
        have hw1 : IntKind.u64.wrap ((r : Int) * 2) = ((2 * r - 18446744073709551616 : Nat) : Int) := by rw [IntKind.wrap_u64]; omega
        obtain ⟨B, hB⟩ : ∃ B : Nat, B = 2 * r - 18446744073709551616 := ⟨_, rfl⟩
        have hw2 : IntKind.u64.wrap ((B : Int) + (c : Int)) = ((2 * r + c - 18446744073709551616 : Nat) : Int) := by rw [IntKind.wrap_u64]; omega
        obtain ⟨C, hC⟩ : ∃ C : Nat, C = 2 * r + c - 18446744073709551616 := ⟨_, rfl⟩
        have hw4 : IntKind.u64.wrap ((C : Int) - (b : Int)) = ((2 * r + c - b : Nat) : Int) := by rw [IntKind.wrap_u64]; omega
        obtain ⟨D, hD⟩ : ∃ D : Nat, D = 2 * q := ⟨_, rfl⟩
        have hw5 : IntKind.u64.wrap ((D : Int) + 1) = ((2 * q + 1 : Nat) : Int) := by rw [IntKind.wrap_u64]; omega
        have hs := hstep.1 (by omega)
        rw [← hB] at hw1
        rw [← hC] at hw2
        rw [← hD] at hw3
        rw [← hs.2] at hw4
        rw [← hs.1] at hw5
        clear hstep hql hrl hal ha hq hr hce hB hC hD hs h0 ek hh hb hb2 ht hov
        go_wp2
        go_round
        case rel => exact ⟨k, by omega, rfl, rfl, rfl⟩
        case measure => simp [intOf]
      · have hd : decide (9223372036854775808 ≤ (r : Int)) = false := by simp; omega
        have hw1 : IntKind.u64.wrap ((r : Int) * 2) = ((2 * r : Nat) : Int) := by rw [IntKind.wrap_u64]; omega
        obtain ⟨B, hB⟩ : ∃ B : Nat, B = 2 * r := ⟨_, rfl⟩
        have hw2 : IntKind.u64.wrap ((B : Int) + (c : Int)) = ((2 * r + c : Nat) : Int) := by rw [IntKind.wrap_u64]; omega
        obtain ⟨C, hC⟩ : ∃ C : Nat, C = 2 * r + c := ⟨_, rfl⟩
        by_cases hge : b ≤ 2 * r + c
        · have hd2 : decide (b ≤ C) = true := by simp; omega
          have hw4 : IntKind.u64.wrap ((C : Int) - (b : Int)) = ((2 * r + c - b : Nat) : Int) := by rw [IntKind.wrap_u64]; omega
          obtain ⟨D, hD⟩ : ∃ D : Nat, D = 2 * q := ⟨_, rfl⟩
          have hw5 : IntKind.u64.wrap ((D : Int) + 1) = ((2 * q + 1 : Nat) : Int) := by rw [IntKind.wrap_u64]; omega
          have hs := hstep.1 (by omega)
          rw [← hB] at hw1
          rw [← hC] at hw2
          rw [← hD] at hw3
          rw [← hs.2] at hw4
          rw [← hs.1] at hw5
          clear hstep hql hrl hal ha hq hr hce hB hC hD hs h0 ek hh hb hb2 ht hov hge
          go_wp2
          go_round
          case rel => exact ⟨k, by omega, rfl, rfl, rfl⟩
          case measure => simp [intOf]
        · have hd2 : decide (b ≤ C) = false := by simp; omega
          have hs := hstep.2 (by omega)
          have hq2 : ((a / 2 ^ k / b : Nat) : Int) = ((2 * q : Nat) : Int) := by rw [hs.1]
          have hr2 : ((a / 2 ^ k % b : Nat) : Int) = (C : Int) := by rw [hs.2, hC]
          obtain ⟨D, hD⟩ : ∃ D : Nat, D = 2 * q := ⟨_, rfl⟩
          rw [← hD] at hw3 hq2
          have HQ := hid hq2
          have HR := hid hr2
          rw [← hB] at hw1
          rw [← hC] at hw2
          clear hstep hql hrl hal ha hq hr hce hB hC hD hs h0 ek hh hb hb2 ht hov hge hq2 hr2
          go_wp2
          go_round
          case rel => exact ⟨k, by omega, rfl, by rw [HQ.out], by rw [HR.out]⟩
          case measure => simp [intOf]
end Go.Proofs.YtlhakbkdlgejpaaGreatDoor
