/-
  LRDo, LRLane, LOps, LAgree, LAgree2, LAwakeB, LAwakeC, LBProg, LXExt, LVNar: merged, what the law does not reach left out (each text says what it holds where it lies in wip). No condition.
-/
import Derived.Test.YtlhakbkdlgejpaaGreatDoorH13
import Derived.Test.YtlhakbkdlgejpaaGreatDoorH10
import Derived.Test.YtlhakbkdlgejpaaGreatDoorH12
import Derived.Test.YtlhakbkdlgejpaaGreatDoorH01
import Derived.Deep.QuietTactic
import Derived.BigQuiet
import Derived.Deep.DeepCutAuto
import Derived.Deep.RegionHeld3
import Derived.Test.YtlhakbkdlgejpaaGreatDoorH06
import Derived.Test.YtlhakbkdlgejpaaGreatDoorH05
import Derived.Laws.Bits64b
import Derived.Test.YtlhakbkdlgejpaaGreatDoorH03
import Derived.Laws.AppendOwn
set_option linter.unusedSimpArgs false
set_option linter.unusedVariables false
set_option maxRecDepth 100000
namespace Go.Proofs.YtlhakbkdlgejpaaGreatDoor
open Go.RowKit
set_option maxHeartbeats 4000000 in
set_option maxRecDepth 100000 in
theorem RDo_vec (op : Int) (h64 : 64768 ≤ op) (ro : Int) (nm : List UInt8) (tk lv : List UInt8) (fx : Bool) (hr : ofL op = (ro, nm, 0, tk, lv, fx)) (hro : 0 ≤ ro) (htk : tk.length ≤ 100) (hlv : lv.length ≤ 100) (hlv2 : tyL lv = [123])
    (l : List Av) (hT : tyL tk = l.map (·.1)) (hl1 : 1 ≤ l.length) (hl : l.length ≤ 10) (va : Value) (w : World) (ha : AR w va l) (lo hi : Nat)
    (HD : ∀ W, Below w.heap.size w W → Calls Tryz.prog 80 #[rwV (ro, nm, 0, tk, lv, fx), .slice none 0 0, va] W fun e w' => e = .returned (vv 123 lo hi false) ∧ Below W.heap.size W w') :
    Calls Tryz.prog 38 #[.int .i64 op, .slice none 0 0, va] w fun e w' => e = .returned (.tuple #[vv 123 lo hi false, .int .i64 0]) ∧ Below w.heap.size w w' := by
  have HO := fun W => hid (Of_says op W)
  rw [hr] at HO
  have HT1 := fun W => hid (reftypes_says tk htk W)
  have HT2 := fun W => hid (reftypes_says lv hlv W)
  rw [hlv2] at HT2
  have HDD := fun W h => hid (HD W h)
  have HT := hid hT
  have hlen : (tyL tk).length = l.length := by rw [hT, List.length_map]
  obtain ⟨ga, ca, rfl, hga, hca, hata⟩ := ha
  have HA := hid hata
  obtain ⟨n, hn⟩ : ∃ n, n = l.length := ⟨_, rfl⟩
  rw [← hn] at hca hl1 hl hlen ⊢
  rw [← hn] at HDD
  have HN := hid hn
  have hop : ¬ (op < 64768) := by omega
  have hro2 : ¬ (ro < 0) := by omega
  unfold vv at HDD ⊢
  unfold rwV at HO HDD
  generalize tyL tk = ta at *
  clear hr hlv2 HD hT hata hn h64 hro
  go_enter Tryz.func38, Tryz.ntmps38
  go_upto_region 9 with (first
    | (go_at_call 23; refine (HO _).out.mono ?_; rintro e w1 ⟨rfl, hb1⟩; have HX1 := hid (below_new hb1); clear hb1)
    | (go_at_call 25; (with_reducible refine (HT1 _).out.mono ?_); rintro e w2 ⟨v2, rfl, ho2, hb2⟩; have HO2 := hid ho2; have HX2 := hid (below_new hb2); have m0 := HX2.out.1.at (k := 0) (v := .int .i64 ro) rfl; have m1 := HX2.out.1.at (k := 1) (v := .string (str nm)) rfl; have m2 := HX2.out.1.at (k := 2) (v := .int .i64 0) rfl; have m3 := HX2.out.1.at (k := 3) (v := .string (str tk)) rfl; have m4 := HX2.out.1.at (k := 4) (v := .string (str lv)) rfl; have m5 := HX2.out.1.at (k := 5) (v := .bool fx) rfl; clear hb2 ho2)
    | (go_at_call 25; (with_reducible refine (HT2 _).out.mono ?_); rintro e w3 ⟨v3, rfl, ho3, hb3⟩; have HO3 := hid ho3; have HO2' := hid (own_below HO2.out hb3 (Nat.le_refl _)); have HX3 := hid (And.intro (HX2.out.1.call hb3) (HX2.out.2.trans (hb3.mono HX2.out.2.size))); clear m0 m1 m2 m3 m4 m5; have p0 := HX3.out.1.at (k := 0) (v := .int .i64 ro) rfl; have p1 := HX3.out.1.at (k := 1) (v := .string (str nm)) rfl; have p2 := HX3.out.1.at (k := 2) (v := .int .i64 0) rfl; have p3 := HX3.out.1.at (k := 3) (v := .string (str tk)) rfl; have p4 := HX3.out.1.at (k := 4) (v := .string (str lv)) rfl; have p5 := HX3.out.1.at (k := 5) (v := .bool fx) rfl; clear hb3 ho3))
  obtain ⟨g2, c2, rfl⟩ := owned_at HO2'.out (by omega)
  obtain ⟨g3, c3, rfl⟩ : ∃ g cap, v3 = .slice (some ⟨g, 0, none⟩) 1 cap := owned_at HO3.out (Nat.le_refl _)
  have k3 : w3.cell? ⟨g3, 0, none⟩ = some (.int .i64 123) := HO3.out.cellAt 0 (by decide)
  have hg3 : g3 < w3.heap.size := (HO3.out.lt g3 rfl).2
  have hg2 : g2 < w3.heap.size := (HO2'.out.lt g2 rfl).2
  have HTC : Hid (∀ j a, l[j]? = some a → w3.cell? ⟨g2, j, none⟩ = some (.int .i64 a.1)) := fun j a hj => by
    have hjl : j < l.length := (List.getElem?_eq_some_iff.1 hj).1
    rw [HO2'.out.cellAt j (by rw [hlen, HN.out]; omega), HT.out]
    simp [ic, hj]
  have hB3 : Below w.heap.size w w3 := HX1.out.2.trans (HX3.out.2.mono HX1.out.2.size)
  have hR3 : CA w.heap.size #[.int .i64 0, .int .u64 0, .int .u64 0, .bool false] 24 w3 := HX1.out.1.call HX3.out.2
  have HXR := hid HX3.out.1
  have HB3 := hid hB3
  have HR3 := hid hR3
  have hwg : w.heap.size < w1.heap.size := HX1.out.1.lt
  generalize w1.heap.size = g8 at *
  rw [hlen]
  have hz : ((0 : Nat) : Int) = 0 := rfl
  clear HX1 HX2 HX3 HO2 HO2' HO3 HT hlen hB3 hR3
  go_wp2
  go_loopw [12] (fun vi wr => vi = .int .i64 0 ∧ wr = w3) (fun _ _ => 1)
  case atStart => exact ⟨rfl, rfl⟩
  case round =>
    obtain ⟨rfl, rfl⟩ := hrel
    go_wp2
    go_loopw [13] (fun vi ws => ∃ i : Nat, i ≤ n ∧ vi = .int .i64 i ∧ Hid (Below wr.heap.size wr ws)) (fun vi _ => n - (intOf vi).toNat)
    case atStart => exact ⟨0, Nat.zero_le _, rfl, Below.refl _ _⟩
    case round =>
      obtain ⟨i, hin, rfl, HB⟩ := hrel
      by_cases hlt : i < n
      · obtain ⟨a, hja⟩ : ∃ a, l[i]? = some a := ⟨l[i]'(by rw [← HN.out]; exact hlt), by simp [← HN.out, hlt]⟩
        obtain ⟨h0, _, _, _⟩ := HA.out i a hja
        have ht0 := HTC.out i a hja
        have e0 := (HB.out.cell (p := ⟨ga, i * 4, none⟩) (Nat.lt_of_lt_of_le hga HB3.out.size)).trans ((HB3.out.cell (p := ⟨ga, i * 4, none⟩) hga).trans h0)
        have e1 := (HB.out.cell (p := ⟨g2, i, none⟩) hg2).trans ht0
        generalize a.1 = t at *
        have ett : (t != t) = false := by simp
        clear h0 ht0 hja
        go_wp2
        go_region
        go_wp2
        go_roundw
        case rel => exact ⟨i + 1, by omega, by go_num, HB.out.drew⟩
        case measure => simp [intOf]; omega
      · obtain rfl : i = n := by omega
        have hXs := HXR.out.call HB.out
        have hRs := HR3.out.call HB.out
        have hBs := HB3.out.trans (HB.out.mono HB3.out.size)
        have HDW := HDD wr hBs
        have s0 := hXs.at (k := 0) (v := .int .i64 ro) rfl
        have s1 := hXs.at (k := 1) (v := .string (str nm)) rfl
        have s2 := hXs.at (k := 2) (v := .int .i64 0) rfl
        have s3 := hXs.at (k := 3) (v := .string (str tk)) rfl
        have s4 := hXs.at (k := 4) (v := .string (str lv)) rfl
        have s5 := hXs.at (k := 5) (v := .bool fx) rfl
        have k3' := (HB.out.cell (p := ⟨g3, 0, none⟩) hg3).trans k3
        have HRs := hid hRs
        have HBs := hid hBs
        have hg3s : g3 < wr.heap.size := Nat.lt_of_lt_of_le hg3 HB.out.size
        clear hXs hRs hBs
        go_wp2_with (go_at_call 80; refine HDW.out.mono ?_; rintro e w9 ⟨rfl, hb9⟩; have HR9 := hid (HRs.out.call hb9); have HB9 := hid (HBs.out.trans (hb9.mono HBs.out.size)); have k9 : ∀ o, (w9.alloc o).cell? ⟨g3, 0, none⟩ = some (.int .i64 123) := fun o => by { rw [((Below.refl _ w9).alloc (Nat.le_refl _) o).cell (p := ⟨g3, 0, none⟩) (Nat.lt_of_lt_of_le hg3s hb9.size), hb9.cell (p := ⟨g3, 0, none⟩) hg3s]; exact k3' }; have r0 := fun o => (HR9.out.alloc o).at (k := 0) (v := .int .i64 0) rfl; have r1 := fun o => (HR9.out.alloc o).at (k := 1) (v := .int .u64 0) rfl; have r2 := fun o => (HR9.out.alloc o).at (k := 2) (v := .int .u64 0) rfl; have r3 := fun o => (HR9.out.alloc o).at (k := 3) (v := .bool false) rfl; have f0 := fun o => (HR9.out.alloc o).free 0; have f1 := fun o => (HR9.out.alloc o).free 1; have f2 := fun o => (HR9.out.alloc o).free 2; have f3 := fun o => (HR9.out.alloc o).free 3; clear hb9)
        have hBF : Below w.heap.size w _ := ((((HB9.out.alloc HB9.out.size (.cells #[.int .i64 123, .int .u64 (lo : Nat), .int .u64 (hi : Nat), .bool false] 24)).setCell (p := ⟨w.heap.size, 0, none⟩) (Nat.le_refl _) (.int .i64 123)).setCell (p := ⟨w.heap.size, 1, none⟩) (Nat.le_refl _) (.int .u64 (lo : Nat))).setCell (p := ⟨w.heap.size, 2, none⟩) (Nat.le_refl _) (.int .u64 (hi : Nat))).setCell (p := ⟨w.heap.size, 3, none⟩) (Nat.le_refl _) (.bool false)
        refine bodyPost_ret (v := .tuple #[.agg #[.int .i64 123, .int .u64 (lo : Nat), .int .u64 (hi : Nat), .bool false], .int .i64 0]) ?_ rfl ⟨rfl, hBF⟩
        simp [results, Tryz.results38, go_sem, r0, r1, r2, r3]
end Go.Proofs.YtlhakbkdlgejpaaGreatDoor
namespace Go.Proofs.YtlhakbkdlgejpaaGreatDoor
open Go.RowKit
def RELI : List (List UInt8) := [[], [101, 113], [110, 101], [108, 116, 95, 115], [108, 116, 95, 117], [103, 116, 95, 115], [103, 116, 95, 117], [108, 101, 95, 115], [108, 101, 95, 117], [103, 101, 95, 115], [103, 101, 95, 117]]
def BINI : List (List UInt8) := [[], [97, 100, 100], [115, 117, 98], [109, 117, 108], [], [], [], [], [], [], [], [115, 104, 108], [115, 104, 114, 95, 115], [115, 104, 114, 95, 117], [], [], [97, 100, 100, 95, 115, 97, 116, 95, 115], [97, 100, 100, 95, 115, 97, 116, 95, 117], [115, 117, 98, 95, 115, 97, 116, 95, 115], [115, 117, 98, 95, 115, 97, 116, 95, 117], [109, 105, 110, 95, 115], [109, 105, 110, 95, 117], [109, 97, 120, 95, 115], [109, 97, 120, 95, 117], [97, 118, 103, 114, 95, 117], [113, 49, 53, 109, 117, 108, 114, 95, 115, 97, 116, 95, 115]]
end Go.Proofs.YtlhakbkdlgejpaaGreatDoor
namespace Go.Proofs.YtlhakbkdlgejpaaGreatDoor
open Go.RowKit
noncomputable def nmL (op : Int) : List UInt8 := (lineL op).1.toList
/-- What all kinds share. -/
noncomputable def chkC (two : Bool) (op : Int) : Bool :=
  knB (lineL op) && decide (64768 ≤ op) && decide (op < 65024) && ((lineL op).2.1 == 0) && (laL op == (if two then [123, 123] else [123])) && (lbL op == [123]) && eachV (verbL (nmL op)) && decide ((nmL op).length ≤ 1000) && ((xsL (nmL op)).2 == 0) &&
  decide (Okn (toL (nmL op)).2.toNat) && ((toL (nmL op)).2 == (((toL (nmL op)).2.toNat : Nat) : Int)) && !(verbL (nmL op) == [110, 111, 116]) && !(verbL (nmL op) == [97, 110, 100, 110, 111, 116]) &&
  decide (0 ≤ (ofL op).1) && ((ofL op).2.1 == nmL op) && ((ofL op).2.2.1 == 0) && decide ((ofL op).2.2.2.1.length ≤ 100) && decide ((ofL op).2.2.2.2.1.length ≤ 100) && (tyL (ofL op).2.2.2.1 == (if two then [123, 123] else [123])) && (tyL (ofL op).2.2.2.2.1 == [123]) &&
  (biL (headC (nmL op) 46) == (toL (nmL op)).2) && !(tailC (nmL op) 46 == [115, 112, 108, 97, 116]) && !(tailC (nmL op) 46 == [115, 119, 105, 122, 122, 108, 101]) && !(tailC (nmL op) 46 == [97, 108, 108, 95, 116, 114, 117, 101]) && !(tailC (nmL op) 46 == [98, 105, 116, 109, 97, 115, 107]) && noSh 10 (tailC (nmL op) 46)
noncomputable def chkI (op : Int) : Bool := ((toL (nmL op)).1 == false) && ((headC (nmL op) 46).headD 0 == 105) && decide (1 ≤ (headC (nmL op) 46).length)
noncomputable def chkBin (op : Int) : Bool := chkC true op && chkI op && (swL IU (verbL (nmL op)) == 0) && (swL (IR (sgL (nmL op))) (verbL (nmL op)) == 0) && (plL RELI (tailC (nmL op) 46) 0 == -1) && (plL BINI (tailC (nmL op) 46) 0 == swL (IB (sgL (nmL op))) (verbL (nmL op))) &&
  !(tailC (nmL op) 46 == [97, 98, 115]) && !(tailC (nmL op) 46 == [110, 101, 103]) && !(tailC (nmL op) 46 == [112, 111, 112, 99, 110, 116])
end Go.Proofs.YtlhakbkdlgejpaaGreatDoor
namespace Go.Proofs.YtlhakbkdlgejpaaGreatDoor
open Go.RowKit
theorem toN_lt (n : Nat) (z : Int) : toN n z < 2 ^ n := by
  unfold toN
  have h : (0 : Int) < ((2 ^ n : Nat) : Int) := by exact_mod_cast Nat.two_pow_pos n
  have h1 := Int.emod_nonneg z (Int.ne_of_gt h)
  have h2 := Int.emod_lt_of_pos z h
  omega
theorem divR_lt {n : Nat} (op a b : Nat) (ha : a < 2 ^ n) (hb : b < 2 ^ n) : (divR n op a b).1 < 2 ^ n := by
  have h0 := Nat.two_pow_pos n
  have ht := toN_lt n
  have h1 : a / b < 2 ^ n := Nat.lt_of_le_of_lt (Nat.div_le_self _ _) ha
  have h2 : a % b < 2 ^ n := Nat.lt_of_le_of_lt (Nat.mod_le _ _) ha
  have h3 := ht ((sg n a).tmod (sg n b))
  have h4 := ht ((sg n a).tdiv (sg n b))
  unfold divR
  generalize toN n ((sg n a).tmod (sg n b)) = t1 at *
  generalize toN n ((sg n a).tdiv (sg n b)) = t2 at *
  generalize a / b = t3 at *
  generalize a % b = t4 at *
  by_cases c0 : b = 0
  · rw [if_pos c0]; exact h0
  rw [if_neg c0]
  by_cases c1 : op = 5
  · rw [if_pos c1]; exact h1
  rw [if_neg c1]
  by_cases c2 : op = 7
  · rw [if_pos c2]; exact h2
  rw [if_neg c2]
  by_cases c3 : op = 6
  · rw [if_pos c3]; exact h3
  rw [if_neg c3]
  by_cases c4 : a = 2 ^ (n - 1) ∧ b = 2 ^ n - 1
  · rw [if_pos c4]; exact h0
  rw [if_neg c4]; exact h4
theorem shiftR_lt {n : Nat} (op a k : Nat) (ha : a < 2 ^ n) : shiftR n op a k < 2 ^ n := by
  have h0 := Nat.two_pow_pos n
  have hm : ∀ x : Nat, x % 2 ^ n < 2 ^ n := fun x => Nat.mod_lt _ h0
  have ht := toN_lt n
  unfold shiftR
  by_cases c0 : op = 11
  · rw [if_pos c0]; exact hm _
  rw [if_neg c0]
  by_cases c1 : op = 12
  · rw [if_pos c1]; exact ht _
  rw [if_neg c1]
  by_cases c2 : op = 13
  · rw [if_pos c2]; exact Nat.lt_of_le_of_lt (Nat.div_le_self _ _) ha
  rw [if_neg c2]
  by_cases c3 : op = 14
  · rw [if_pos c3]; exact hm _
  rw [if_neg c3]; exact hm _
theorem satR_lt {n : Nat} (op a b : Nat) (ha : a < 2 ^ n) (hb : b < 2 ^ n) : satR n op a b < 2 ^ n := by
  have h0 := Nat.two_pow_pos n
  have ht := toN_lt n
  unfold satR
  by_cases c0 : op = 16
  · rw [if_pos c0]; exact ht _
  rw [if_neg c0]
  by_cases c1 : op = 18
  · rw [if_pos c1]; exact ht _
  rw [if_neg c1]
  by_cases c2 : op = 17
  · rw [if_pos c2]
    by_cases c3 : 2 ^ n - 1 < a + b
    · rw [if_pos c3]; omega
    · rw [if_neg c3]; omega
  rw [if_neg c2]; omega
theorem mmR_lt {n : Nat} (op a b : Nat) (ha : a < 2 ^ n) (hb : b < 2 ^ n) : mmR n op a b < 2 ^ n := by
  unfold mmR
  by_cases c0 : op = 20
  · rw [if_pos c0]; split <;> assumption
  rw [if_neg c0]
  by_cases c1 : op = 22
  · rw [if_pos c1]; split <;> assumption
  rw [if_neg c1]
  by_cases c2 : op = 21
  · rw [if_pos c2]; split <;> assumption
  rw [if_neg c2]; split <;> assumption
theorem binR_lt {n : Nat} (hn : Okn n) (op a b : Nat) (ha : a < 2 ^ n) (hb : b < 2 ^ n) : (binR n op a b).1 < 2 ^ n := by
  have h0 := Nat.two_pow_pos n
  have hm : ∀ x : Nat, x % 2 ^ n < 2 ^ n := fun x => Nat.mod_lt _ h0
  have ht := toN_lt n
  unfold binR
  by_cases c1 : op = 1
  · rw [if_pos c1]; exact hm _
  rw [if_neg c1]
  by_cases c2 : op = 2
  · rw [if_pos c2]; exact hm _
  rw [if_neg c2]
  by_cases c3 : op = 3
  · rw [if_pos c3]; exact hm _
  rw [if_neg c3]
  by_cases c4 : op ≤ 7
  · rw [if_pos c4]; exact divR_lt _ _ _ ha hb
  rw [if_neg c4]
  by_cases c5 : op = 8
  · rw [if_pos c5]; exact Nat.and_lt_two_pow _ hb
  rw [if_neg c5]
  by_cases c6 : op = 9
  · rw [if_pos c6]; exact Nat.or_lt_two_pow ha hb
  rw [if_neg c6]
  by_cases c7 : op = 10
  · rw [if_pos c7]; exact Nat.xor_lt_two_pow ha hb
  rw [if_neg c7]
  by_cases c8 : op ≤ 15
  · rw [if_pos c8]; exact shiftR_lt _ _ _ ha
  rw [if_neg c8]
  by_cases c9 : op ≤ 19
  · rw [if_pos c9]; exact satR_lt _ _ _ ha hb
  rw [if_neg c9]
  by_cases c10 : op ≤ 23
  · rw [if_pos c10]; exact mmR_lt _ _ _ ha hb
  rw [if_neg c10]
  by_cases c11 : op = 24
  · rw [if_pos c11]; show (a + b + 1) / 2 < 2 ^ n; omega
  rw [if_neg c11]; exact ht _
theorem binA_lt (n : Nat) (hn : Okn n) (k : Int) (x y : Nat) : (binA n k x y).1 < 18446744073709551616 := by
  have h64 : 2 ^ n ≤ 18446744073709551616 := (pow_lt64 hn).2.2.1
  unfold binA
  split
  · exact Nat.lt_of_lt_of_le (binR_lt (by simpa using hn) _ _ _ (Nat.mod_lt _ (Nat.two_pow_pos _)) (Nat.mod_lt _ (Nat.two_pow_pos _))) h64
  · decide
theorem ix_str (b : UInt8) (t : List UInt8) (W : World) : (Instr.index 9 (.string (str (b :: t))) (.int .i64 0)).run Tryz.prog W = .ok (.int .u8 b.toNat) W := by
  simp [Instr.index, asIntOf, run_underlying Tryz.underlying9, str]
  rfl
end Go.Proofs.YtlhakbkdlgejpaaGreatDoor
namespace Go.Proofs.YtlhakbkdlgejpaaGreatDoor
open Go.RowKit
/-- What the Boolean of all kinds says. -/
structure PC (two : Bool) (op : Int) (n : Nat) (vb : List UInt8) (sg : Bool) (sh what nm : List UInt8) (ro : Int) (tk lv : List UInt8) (fx : Bool) : Prop where
  kn : knB (lineL op) = true
  lo : 64768 ≤ op
  hi : op < 65024
  im : (lineL op).2.1 = 0
  la : laL op = (if two then [123, 123] else [123])
  lb : lbL op = [123]
  ea : eachV vb = true
  len : nm.length ≤ 1000
  xs : ((xsL nm).2 == 0) = true
  okn : Okn n
  n0 : (vb == [110, 111, 116]) = false
  n1 : (vb == [97, 110, 100, 110, 111, 116]) = false
  ro0 : 0 ≤ ro
  of : ofL op = (ro, nm, 0, tk, lv, fx)
  tk1 : tk.length ≤ 100
  lv1 : lv.length ≤ 100
  tk2 : tyL tk = (if two then [123, 123] else [123])
  lv2 : tyL lv = [123]
  bi : biL sh = n
  w0 : (what == [115, 112, 108, 97, 116]) = false
  w1 : (what == [115, 119, 105, 122, 122, 108, 101]) = false
  w2 : (what == [97, 108, 108, 95, 116, 114, 117, 101]) = false
  w3 : (what == [98, 105, 116, 109, 97, 115, 107]) = false
  ns : noSh 10 what = true
  par : parV nm = insV vb false n false n sg
  nm1 : (lineL op).1 = str nm
  shE : headC nm 46 = sh
  whE : tailC nm 46 = what
  ix : ∀ W, (Instr.index 9 (.string (str sh)) (.int .i64 0)).run Tryz.prog W = .ok (.int .u8 105) W
theorem PC_of (two : Bool) (op : Int) (h : chkC two op = true) (h' : chkI op = true) :
    ∃ n ro tk lv fx, PC two op n (verbL (nmL op)) (sgL (nmL op)) (headC (nmL op) 46) (tailC (nmL op) 46) (nmL op) ro tk lv fx := by
  unfold chkC at h
  unfold chkI at h'
  have e1 : (lineL op).1 = str (nmL op) := (list_str _).symm
  generalize nmL op = nm at *
  obtain ⟨⟨ro, nm', im, tk, lv, fx⟩, hr⟩ : ∃ r, ofL op = r := ⟨_, rfl⟩
  rw [hr] at h
  obtain ⟨n, hn⟩ : ∃ n, n = (toL nm).2.toNat := ⟨_, rfl⟩
  rw [← hn] at h
  simp only [Bool.and_eq_true, decide_eq_true_eq, beq_iff_eq, Bool.not_eq_true'] at h h'
  obtain ⟨⟨⟨⟨⟨⟨⟨⟨⟨⟨⟨⟨⟨⟨⟨⟨⟨⟨⟨⟨⟨⟨⟨⟨⟨a1, a2⟩, a3⟩, a4⟩, a5⟩, a6⟩, a7⟩, a8⟩, a9⟩, a10⟩, a11⟩, a12⟩, a13⟩, b1⟩, b2⟩, b3⟩, b4⟩, b5⟩, b6⟩, b7⟩, c1⟩, c2⟩, c3⟩, c4⟩, c5⟩, c6⟩ := h
  obtain ⟨⟨d1, d2⟩, d3⟩ := h'
  subst b2
  subst b3
  have x0 : ((xsL nm').2 == 0) = true := by rw [a9]; rfl
  refine ⟨n, ro, tk, lv, fx, a1, a2, a3, a4, a5, a6, a7, a8, x0, a10, a12, a13, b1, hr, b4, b5, b6, b7, by rw [c1, a11], c2, c3, c4, c5, c6, ?_, e1, rfl, rfl, ?_⟩
  · unfold parV
    have hf : fromL nm' = toL nm' := by unfold fromL; rw [if_pos x0]
    rw [hf, d1, a11]
  · cases hc : headC nm' 46 with
    | nil => rw [hc] at d3; simp at d3
    | cons b t =>
      rw [hc] at d2
      obtain rfl : b = 105 := d2
      exact fun W => ix_str 105 t W
end Go.Proofs.YtlhakbkdlgejpaaGreatDoor
namespace Go.Proofs.YtlhakbkdlgejpaaGreatDoor
open Go.RowKit
theorem Two_add : Two 108 8 1 (fun x y => (binA 8 1 x y).1) := fun x y W hx hy => by
  have hh : Okn ((8 : Int)).toNat := .inl rfl
  have H := Bin_1 8 (.inl rfl) x y hx hy W
  have e : binA 8 1 x y = binR 8 1 (x % 2 ^ 8) (y % 2 ^ 8) := by rw [binA, if_pos ⟨hh, by decide, by decide, fun h => by cases h⟩]; rfl
  show Calls Tryz.prog 108 _ _ fun e w' => (∃ c : Int, e = .returned (.tuple #[.int .u64 ((binA 8 1 x y).1 : Nat), .int .i64 c])) ∧ _
  rw [e]
  exact H.mono fun e w' ⟨he, hw⟩ => ⟨⟨_, he⟩, hw ▸ Below.refl _ _⟩
theorem bin64878 : chkBin 64878 = true := by kernel_rfl
theorem name64878 : nmL 64878 = [105, 56, 120, 49, 54, 46, 97, 100, 100] := by kernel_rfl
/-- What the program's Do comes to at 64878 (a sum of sixteen lanes) of awake's two vectors. -/
theorem Do_awake (w : World) (hg : Glob w) (va : Value) (ha : AR w va [(123, 14468034567615334600, 14468034567615334600, false), (123, 100, 56, false)]) :
    Calls Tryz.prog 20 #[.int .i64 64878, .slice none 0 0, va] w fun e w' => e = .returned (.tuple #[vv 123 14468034567615334444 14468034567615334400 false, .int .i64 0]) ∧ Below w.heap.size w w' := by
  have h := bin64878
  unfold chkBin at h
  simp only [Bool.and_eq_true, Bool.not_eq_true'] at h
  obtain ⟨⟨⟨⟨⟨⟨⟨⟨hc, hi⟩, u0⟩, u1⟩, u2⟩, u3⟩, v0⟩, v1⟩, v2⟩ := h
  obtain ⟨n, ro, tk, lv, fx, P⟩ := PC_of true 64878 hc hi
  have hbi := P.bi
  rw [name64878] at P u0 u1 u3 hbi
  have hn : n = 8 := by
    have e : biL (headC [105, 56, 120, 49, 54, 46, 97, 100, 100] 46) = 8 := by decide +kernel
    rw [e] at hbi; omega
  subst hn
  have e1 : verbL [105, 56, 120, 49, 54, 46, 97, 100, 100] = [97, 100, 100] := by decide +kernel
  have e2 : sgL [105, 56, 120, 49, 54, 46, 97, 100, 100] = false := by decide +kernel
  rw [e1, e2] at P
  have H := Do_each2 64878 [105, 56, 120, 49, 54, 46, 97, 100, 100] [97, 100, 100] 8 P.okn false false 0 false P.nm1 P.par P.len (fun hx => by rw [P.xs] at hx; cases hx) P.lo P.kn P.im P.la P.lb P.ea (fun x y => (binA 8 1 x y).1)
    (fun W => operation_bin_i [97, 100, 100] false 8 8 false 1 (by decide +kernel) (by decide +kernel) (by decide +kernel) _ Two_add P.n0 P.n1 W) (fun x y _ _ => binA_lt 8 P.okn 1 x y) 14468034567615334600 14468034567615334600 100 56 false false (by decide) (by decide) (by decide) (by decide) w hg va ha
  have x1 : loF 8 (fun i => (binA 8 1 (splitF 8 14468034567615334600 14468034567615334600 i) (splitF 8 100 56 i)).1) = 14468034567615334444 := by decide +kernel
  have x2 : hiF 8 (fun i => (binA 8 1 (splitF 8 14468034567615334600 14468034567615334600 i) (splitF 8 100 56 i)).1) = 14468034567615334400 := by decide +kernel
  rw [x1, x2] at H
  exact H
end Go.Proofs.YtlhakbkdlgejpaaGreatDoor
namespace Go.Proofs.YtlhakbkdlgejpaaGreatDoor
open Go.RowKit
theorem and_1023 (a : Int) : ∃ K : Nat, K ≤ 1023 ∧ bits .and .i64 a 1023 = (K : Int) := by
  refine ⟨(BitVec.ofInt 64 a).toNat &&& 1023, Nat.and_le_right, ?_⟩
  have hle : (BitVec.ofInt 64 a).toNat &&& 1023 ≤ 1023 := Nat.and_le_right
  have e2 : BitVec.toNat (BitVec.ofInt 64 1023) = 1023 := by decide
  show IntKind.i64.wrap ((BitVec.ofInt 64 a &&& BitVec.ofInt 64 1023).toNat : Int) = _
  rw [BitVec.toNat_and, e2, IntKind.wrap_i64]
  generalize (BitVec.ofInt 64 a).toNat &&& 1023 = q at *
  omega
theorem row16 (w : World) : RowAt (w.alloc (.cells #[.int .u64 200, .int .u64 200, .int .u64 200, .int .u64 200, .int .u64 200, .int .u64 200, .int .u64 200, .int .u64 200, .int .u64 200, .int .u64 200, .int .u64 200, .int .u64 200, .int .u64 200, .int .u64 200, .int .u64 200, .int .u64 200] 22)) (.slice (some ⟨w.heap.size, 0, none⟩) 16 16) 16 (fun _ => 200) := by
  have h := CA.new w #[.int .u64 200, .int .u64 200, .int .u64 200, .int .u64 200, .int .u64 200, .int .u64 200, .int .u64 200, .int .u64 200, .int .u64 200, .int .u64 200, .int .u64 200, .int .u64 200, .int .u64 200, .int .u64 200, .int .u64 200, .int .u64 200] 22
  refine ⟨_, 0, 16, rfl, h.lt, Nat.le_refl _, fun j hj => ?_⟩
  rw [Nat.zero_add]
  refine ⟨h.at (k := j) ?_, h.free j⟩
  rcases (show j = 0 ∨ j = 1 ∨ j = 2 ∨ j = 3 ∨ j = 4 ∨ j = 5 ∨ j = 6 ∨ j = 7 ∨ j = 8 ∨ j = 9 ∨ j = 10 ∨ j = 11 ∨ j = 12 ∨ j = 13 ∨ j = 14 ∨ j = 15 by omega) with rfl | rfl | rfl | rfl | rfl | rfl | rfl | rfl | rfl | rfl | rfl | rfl | rfl | rfl | rfl | rfl <;> rfl
theorem ar_two (w : World) (alo ahi blo bhi : Nat) (T : TypeId) : AR (w.alloc (.cells #[.int .i64 123, .int .u64 (alo : Nat), .int .u64 (ahi : Nat), .bool false, .int .i64 123, .int .u64 (blo : Nat), .int .u64 (bhi : Nat), .bool false] T)) (.slice (some ⟨w.heap.size, 0, none⟩) 2 2) [(123, alo, ahi, false), (123, blo, bhi, false)] := by
  have h := CA.new w #[.int .i64 123, .int .u64 (alo : Nat), .int .u64 (ahi : Nat), .bool false, .int .i64 123, .int .u64 (blo : Nat), .int .u64 (bhi : Nat), .bool false] T
  refine ⟨_, 2, rfl, h.lt, Nat.le_refl _, fun j c hj => ?_⟩
  match j, hj with
  | 0, hj =>
    obtain rfl : (123, alo, ahi, false) = c := by simpa using hj
    exact ⟨h.at (k := 0) rfl, h.at (k := 1) rfl, h.at (k := 2) rfl, h.at (k := 3) rfl⟩
  | 1, hj =>
    obtain rfl : (123, blo, bhi, false) = c := by simpa using hj
    exact ⟨h.at (k := 4) rfl, h.at (k := 5) rfl, h.at (k := 6) rfl, h.at (k := 7) rfl⟩
  | j + 2, hj => simp at hj
set_option maxHeartbeats 4000000 in
set_option maxRecDepth 100000 in
theorem awake_says (w : World) (hg : Glob w) : Calls Tryz.prog 19 #[] w fun e w' => e = .returned (.bool true) ∧ Below w.heap.size w w' := by
  have HS : ∀ W, Hid (Calls Tryz.prog 28 #[.int .i64 32, .agg #[.int .i64 0, .int .u64 4294967297, .int .u64 3, .bool false]] W (LPost W 4 (splitF 32 4294967297 3))) := fun W => hid (Split_says 32 (by right; right; left; rfl) 0 4294967297 3 false (by decide) (by decide) W)
  have hJ1 : loF 8 (fun _ => 200) = 14468034567615334600 := by decide +kernel
  have hJ2 : hiF 8 (fun _ => 200) = 14468034567615334600 := by decide +kernel
  have HJ : ∀ W v, RowAt W v 16 (fun _ => 200) → Hid (Calls Tryz.prog 29 #[.int .i64 8, v] W fun e w' => e = .returned (.tuple #[.agg #[.int .i64 123, .int .u64 14468034567615334600, .int .u64 14468034567615334600, .bool false], .int .i64 0]) ∧ Below W.heap.size W w') := fun W v h => by
    have H := Join_says 8 (by left; rfl) v (fun _ => 200) W h (fun _ _ => by decide)
    rw [hJ1, hJ2] at H
    exact hid H
  have HD : ∀ W, Glob W → ∀ va, AR W va [(123, 14468034567615334600, 14468034567615334600, false), (123, 100, 56, false)] → Hid (Calls Tryz.prog 20 #[.int .i64 64878, .slice none 0 0, va] W fun e w' => e = .returned (.tuple #[.agg #[.int .i64 123, .int .u64 14468034567615334444, .int .u64 14468034567615334400, .bool false], .int .i64 0]) ∧ Below W.heap.size W w') := fun W h va ha => hid (Do_awake W h va ha)
  have HL : ∀ vi va W, Hid (Calls Tryz.prog 20 #[.int .i64 106, vi, va] W fun e w' => e = .returned (.tuple #[.agg #[.int .i64 0, .int .u64 0, .int .u64 0, .bool false], .int .i64 1]) ∧ Below W.heap.size W w') := fun vi va W => hid (Do_low 106 (by decide) vi va W)
  have HG := hid hg
  clear hJ1 hJ2 hg
  go_enter Tryz.func19, Tryz.ntmps19
  go_upto_region 2 with (go_at_call 28; (with_reducible refine (HS _).out.mono ?_); rintro e w1 ⟨v1, rfl, ho1, hb1⟩; have HO1 := hid ho1; have HB1 := hid hb1; clear ho1 hb1)
  obtain ⟨g1, c1, rfl⟩ : ∃ g cap, v1 = .slice (some ⟨g, 0, none⟩) 4 cap := owned_at HO1.out (by decide)
  have k0 : w1.cell? ⟨g1, 0, none⟩ = some (.int .u64 1) := HO1.out.cellAt 0 (by decide)
  have k2 : w1.cell? ⟨g1, 2, none⟩ = some (.int .u64 3) := HO1.out.cellAt 2 (by decide)
  have hg1 : g1 < w1.heap.size := (HO1.out.lt g1 rfl).2
  clear HO1 HS
  have HJ1 := HJ _ _ (row16 w1)
  clear HJ
  go_upto_region 3 with (go_at_call 29; (with_reducible refine HJ1.out.mono ?_); rintro e w2 ⟨rfl, hb2⟩; have HN2 := hid (below_new hb2); clear hb2)
  have hB2 : Below w.heap.size w w2 := HB1.out.trans (HN2.out.2.mono HB1.out.size)
  have k02 := (HN2.out.2.cell (p := ⟨g1, 0, none⟩) hg1).trans k0
  have k22 := (HN2.out.2.cell (p := ⟨g1, 2, none⟩) hg1).trans k2
  have hg2 : g1 < w2.heap.size := Nat.lt_of_lt_of_le hg1 HN2.out.2.size
  have HG3 := hid (HG.out.next (hB2.alloc hB2.size (.cells #[.int .i64 123, .int .u64 14468034567615334600, .int .u64 14468034567615334600, .bool false] 24)))
  have HB3 := hid (hB2.alloc hB2.size (.cells #[.int .i64 123, .int .u64 14468034567615334600, .int .u64 14468034567615334600, .bool false] 24))
  have hC3 := CA.new w2 #[.int .i64 123, .int .u64 14468034567615334600, .int .u64 14468034567615334600, .bool false] 24
  have k03 := (((Below.refl _ w2).alloc (Nat.le_refl _) (.cells #[.int .i64 123, .int .u64 14468034567615334600, .int .u64 14468034567615334600, .bool false] 24)).cell (p := ⟨g1, 0, none⟩) hg2).trans k02
  have k23 := (((Below.refl _ w2).alloc (Nat.le_refl _) (.cells #[.int .i64 123, .int .u64 14468034567615334600, .int .u64 14468034567615334600, .bool false] 24)).cell (p := ⟨g1, 2, none⟩) hg2).trans k22
  have hg3 : g1 < (w2.alloc (.cells #[.int .i64 123, .int .u64 14468034567615334600, .int .u64 14468034567615334600, .bool false] 24)).heap.size := by rw [size_al]; omega
  generalize w2.alloc (.cells #[.int .i64 123, .int .u64 14468034567615334600, .int .u64 14468034567615334600, .bool false] 24) = W3 at *
  generalize w2.heap.size = g2 at *
  clear k0 k2 k02 k22 hg1 hg2 HN2 hB2 HJ1 HB1
  have a0 := hC3.at (k := 0) (v := .int .i64 123) rfl
  have a1 := hC3.at (k := 1) (v := .int .u64 14468034567615334600) rfl
  have a2 := hC3.at (k := 2) (v := .int .u64 14468034567615334600) rfl
  have a3 := hC3.at (k := 3) (v := .bool false) rfl
  have HD1 := HD _ (HG.out.next (HB3.out.alloc HB3.out.size (.cells #[.int .i64 123, .int .u64 14468034567615334600, .int .u64 14468034567615334600, .bool false, .int .i64 123, .int .u64 100, .int .u64 56, .bool false] 24))) _ (ar_two W3 14468034567615334600 14468034567615334600 100 56 24)
  have HBB := hid (HB3.out.alloc HB3.out.size (.cells #[.int .i64 123, .int .u64 14468034567615334600, .int .u64 14468034567615334600, .bool false, .int .i64 123, .int .u64 100, .int .u64 56, .bool false] 24))
  have kk := fun o => (((Below.refl _ W3).alloc (Nat.le_refl _) o).cell (p := ⟨g1, 0, none⟩) hg3).trans k03
  have kk2 := fun o => (((Below.refl _ W3).alloc (Nat.le_refl _) o).cell (p := ⟨g1, 2, none⟩) hg3).trans k23
  have hsz3 : ∀ o, g1 < (W3.alloc o).heap.size := fun o => by rw [size_al]; omega
  clear HD
  go_upto_region 4 with (go_at_call 20; (with_reducible refine HD1.out.mono ?_); rintro e w4 ⟨rfl, hb4⟩; have HN4 := hid hb4; clear hb4)
  have HB4 := hid (HBB.out.trans (HN4.out.mono HBB.out.size))
  have p0 := (HN4.out.cell (p := ⟨g1, 0, none⟩) (hsz3 _)).trans (kk _)
  have p2 := (HN4.out.cell (p := ⟨g1, 2, none⟩) (hsz3 _)).trans (kk2 _)
  have hg4 : g1 < w4.heap.size := Nat.lt_of_lt_of_le (hsz3 _) HN4.out.size
  have HB5 := hid (HB4.out.alloc HB4.out.size (.cells #[.int .i64 123, .int .u64 14468034567615334444, .int .u64 14468034567615334400, .bool false] 24))
  have HC5 := hid (CA.new w4 #[.int .i64 123, .int .u64 14468034567615334444, .int .u64 14468034567615334400, .bool false] 24)
  have q0 := (((Below.refl _ w4).alloc (Nat.le_refl _) (.cells #[.int .i64 123, .int .u64 14468034567615334444, .int .u64 14468034567615334400, .bool false] 24)).cell (p := ⟨g1, 0, none⟩) hg4).trans p0
  have q2 := (((Below.refl _ w4).alloc (Nat.le_refl _) (.cells #[.int .i64 123, .int .u64 14468034567615334444, .int .u64 14468034567615334400, .bool false] 24)).cell (p := ⟨g1, 2, none⟩) hg4).trans p2
  have hg5 : g1 < (w4.alloc (.cells #[.int .i64 123, .int .u64 14468034567615334444, .int .u64 14468034567615334400, .bool false] 24)).heap.size := by rw [size_al]; omega
  clear kk kk2 hsz3 HD1 HN4 HBB p0 p2 hg4 k03 k23 a0 a1 a2 a3 hC3 hg3 HB3 HG3
  generalize w4.alloc (.cells #[.int .i64 123, .int .u64 14468034567615334444, .int .u64 14468034567615334400, .bool false] 24) = W5 at *
  generalize w4.heap.size = g4 at *
  clear HB4
  have HL1 := HL (.slice none 0 0) (.slice none 0 0) W5
  clear HL
  go_upto_region 5 with (go_at_call 20; (with_reducible refine HL1.out.mono ?_); rintro e w6 ⟨rfl, hb6⟩; have HN6 := hid hb6; clear hb6)
  have HB6 := hid (HB5.out.trans (HN6.out.mono HB5.out.size))
  have HB7 := hid (HB6.out.alloc HB6.out.size (.cells #[.int .i64 0, .int .u64 0, .int .u64 0, .bool false] 24))
  have HC7 := hid ((HC5.out.call HN6.out).alloc (.cells #[.int .i64 0, .int .u64 0, .int .u64 0, .bool false] 24))
  have r0 := (((Below.refl _ w6).alloc (Nat.le_refl _) (.cells #[.int .i64 0, .int .u64 0, .int .u64 0, .bool false] 24)).cell (p := ⟨g1, 0, none⟩) (Nat.lt_of_lt_of_le hg5 HN6.out.size)).trans ((HN6.out.cell (p := ⟨g1, 0, none⟩) hg5).trans q0)
  have r2 := (((Below.refl _ w6).alloc (Nat.le_refl _) (.cells #[.int .i64 0, .int .u64 0, .int .u64 0, .bool false] 24)).cell (p := ⟨g1, 2, none⟩) (Nat.lt_of_lt_of_le hg5 HN6.out.size)).trans ((HN6.out.cell (p := ⟨g1, 2, none⟩) hg5).trans q2)
  clear q0 q2 hg5 HB6 HB5 HC5 HL1 HN6
  generalize w6.alloc (.cells #[.int .i64 0, .int .u64 0, .int .u64 0, .bool false] 24) = W7 at *
  have t0 := HC7.out.at (k := 0) (v := .int .i64 123) rfl
  have t1 := HC7.out.at (k := 1) (v := .int .u64 14468034567615334444) rfl
  have t2 := HC7.out.at (k := 2) (v := .int .u64 14468034567615334400) rfl
  clear HG HC7
  go_upto_region 6 with fail
  go_wp2
  go_ret
  exact ⟨rfl, HB7.out⟩
end Go.Proofs.YtlhakbkdlgejpaaGreatDoor
namespace Go.Proofs.YtlhakbkdlgejpaaGreatDoor
open Go.RowKit
instance (c : Nat) (p : Nat → Prop) [DecidablePred p] : Decidable (∃ i, i < c ∧ p i) := decidable_of_iff (¬ ∀ i, i < c → ¬ p i) (by simp)
end Go.Proofs.YtlhakbkdlgejpaaGreatDoor
namespace Go.Proofs.YtlhakbkdlgejpaaGreatDoor
open Go.RowKit
/-- A lane in 64 bits, with its sign or without. -/
def extF (n : Nat) (s : Bool) (x : Nat) : Nat := if s then toN 64 (sg n (x % 2 ^ n)) else x
/-- A function value that works with one lane. -/
def Does1 (g : Nat) (lb : Array Value) (f : Nat → Nat) (w : World) : Prop :=
  ∀ (W : World) (x : Nat), Below w.heap.size w W → x < 18446744073709551616 →
    Calls Tryz.prog g (#[.int .u64 x] ++ lb) W fun e w' => e = .returned (.int .u64 (f x : Nat)) ∧ Below W.heap.size W w'
theorem u64_toN (z : Int) : IntKind.u64.wrap z = ((toN 64 z : Nat) : Int) := by
  rw [IntKind.wrap_u64]
  unfold toN
  rw [Int.toNat_of_nonneg (Int.emod_nonneg _ (by decide))]
  rfl
theorem extF_lt (n : Nat) (s : Bool) (x : Nat) (hx : x < 18446744073709551616) : extF n s x < 18446744073709551616 := by
  unfold extF
  split
  · exact by unfold toN; exact (Int.toNat_lt (Int.emod_nonneg _ (by decide))).2 (Int.emod_lt_of_pos _ (by decide))
  · exact hx
theorem clo_ext (n : Nat) (hn : Okn n) (s : Bool) (b1 b2 : Nat) (w : World) (c1 : w.cell? ⟨b1, 0, none⟩ = some (.bool s)) (c2 : w.cell? ⟨b2, 0, none⟩ = some (.int .i64 n)) :
    Does1 120 #[.pointer (some ⟨b1, 0, none⟩), .pointer (some ⟨b2, 0, none⟩)] (extF n s) w := fun W x hb hx => by
  have d1 := (hb.cell (p := ⟨b1, 0, none⟩) (World.block_lt_of_cell? _ _ c1)).trans c1
  have d2 := (hb.cell (p := ⟨b2, 0, none⟩) (World.block_lt_of_cell? _ _ c2)).trans c2
  have H := fun W => hid (Signed_ok n hn x hx W)
  show Calls Tryz.prog 120 #[.int .u64 x, .pointer (some ⟨b1, 0, none⟩), .pointer (some ⟨b2, 0, none⟩)] W _
  clear c1 c2 hb hn
  cases s with
  | false =>
    show Calls _ _ _ _ fun e w' => e = .returned (.int .u64 (x : Nat)) ∧ _
    clear H
    go_enter Tryz.func120, Tryz.ntmps120
    go_wp2
    go_ret
    exact ⟨rfl, Below.refl _ _⟩
  | true =>
    show Calls _ _ _ _ fun e w' => e = .returned (.int .u64 (toN 64 (sg n (x % 2 ^ n)) : Nat)) ∧ _
    have hz := u64_toN (sg n (x % 2 ^ n))
    generalize sg n (x % 2 ^ n) = z at *
    generalize toN 64 z = r at *
    clear hx
    go_enter Tryz.func120, Tryz.ntmps120
    go_wp2_with (go_at_call 121; refine (H _).out.mono ?_; rintro e w1 ⟨rfl, rfl⟩)
    go_ret
    exact ⟨rfl, Below.refl _ _⟩
theorem ext_says (n : Nat) (hn : Okn n) (s : Bool) (w : World) : Calls Tryz.prog 77 #[.int .i64 n, .bool s] w fun e w' => (∃ lb, e = .returned (.func (.func 120) #[] lb) ∧ Does1 120 lb (extF n s) w') ∧ Below w.heap.size w w' := by
  have hmf : ∀ (fn : Fn) (first cap : Array Value) (w : World), (Instr.makeFunc fn first cap).run Tryz.prog w = .ok (.func fn first cap) w := fun _ _ _ _ => rfl
  have HC := fun b1 b2 w h1 h2 => hid (clo_ext n hn s b1 b2 w h1 h2)
  clear hn
  go_enter Tryz.func77, Tryz.ntmps77
  go_wp2
  go_ret
  refine ⟨⟨_, rfl, (HC _ _ _ ?_ ?_).out⟩, ((Below.refl _ w).alloc (Nat.le_refl _) _).alloc (by simp) _⟩
  · have := (CA.new (w.alloc (.cells #[.int .i64 n] 3)) #[.bool s] 4).at (k := 0) (v := .bool s) rfl
    rw [size_al] at this
    exact this
  · exact ((CA.new w #[.int .i64 n] 3).alloc _).at (k := 0) rfl
set_option maxHeartbeats 4000000 in
theorem number_ext (vb : List UInt8) (q0 : (vb == [97, 110, 121, 95, 116, 114, 117, 101]) = false) (q1 : (vb == [97, 108, 108, 95, 116, 114, 117, 101]) = false) (q2 : (vb == [98, 105, 116, 109, 97, 115, 107]) = false) (ff : Bool) (n : Nat) (hn : Okn n) (tf : Bool) (tb : Int) (sg : Bool) (gi ci : Nat) (va : Value) (at_ c : Nat) (hc1 : 1 ≤ c) (hat : at_ < c) (F : Nat → Nat) (hF : F at_ < 18446744073709551616) (w : World) (hgi : w.cell? ⟨gi, 0, none⟩ = some (.int .i64 at_))
    (H0 : ∀ W, Below w.heap.size w W → Calls Tryz.prog 64 #[insV vb ff n tf tb sg, va, .int .i64 0] W (LPost W c F)) :
    Calls Tryz.prog 36 #[insV vb ff n tf tb sg, .slice (some ⟨gi, 0, none⟩) 1 ci, va] w fun e w' => e = .returned (.int .u64 (extF n sg (F at_) : Nat)) ∧ Below w.heap.size w w' := by
  have hgl : gi < w.heap.size := World.block_lt_of_cell? _ _ hgi
  unfold insV at H0 ⊢
  obtain ⟨s, hs⟩ : ∃ s, s = str vb := ⟨_, rfl⟩
  rw [← hs] at H0 ⊢
  have z0 : (s.toList == [97, 110, 121, 95, 116, 114, 117, 101]) = false := by rw [hs, str_list]; exact q0
  have z1 : (s.toList == [97, 108, 108, 95, 116, 114, 117, 101]) = false := by rw [hs, str_list]; exact q1
  have z2 : (s.toList == [98, 105, 116, 109, 97, 115, 107]) = false := by rw [hs, str_list]; exact q2
  have HH0 := fun W h => hid (H0 W h)
  have HE := fun W => hid (ext_says n hn sg W)
  have HFF := hid hF
  obtain ⟨r, hr⟩ : ∃ r, r = extF n sg (F at_) := ⟨_, rfl⟩
  rw [← hr]
  have HRR := hid hr
  clear hr
  have eg : ∀ args w, (callFunc 120 args).run Tryz.prog w = .ok (.enter 120 args) w := enters_of Tryz.func120 (by kernel_rfl) rfl
  clear q0 q1 q2 hs H0 hn hF
  go_enter Tryz.func36, Tryz.ntmps36
  go_upto_region 15 with (go_at_call 64; (with_reducible refine (HH0 _ ((Below.refl _ w).alloc (Nat.le_refl _) _)).out.mono ?_); rintro e w1 ⟨v1, rfl, ho1, hb1⟩; have HO1 := hid ho1; have HX1 := hid (And.intro ((CA.new w _ 50).call hb1) (((Below.refl _ w).alloc (Nat.le_refl _) _).trans (hb1.mono (by simp)))); have x0 := HX1.out.1.at (k := 0) (v := .string s) rfl; clear ho1 hb1)
  obtain ⟨g1, o1, cap1, rfl, hg1, hcap1, hat1⟩ := RowAt.of_own HO1.out hc1
  have k1 := (hat1 at_ hat).1
  have x2 := HX1.out.1.at (k := 2) (v := .int .i64 n) rfl
  have x5 := HX1.out.1.at (k := 5) (v := .bool sg) rfl
  have xi := (HX1.out.2.cell (p := ⟨gi, 0, none⟩) hgl).trans hgi
  have hgi1 : gi < w1.heap.size := Nat.lt_of_lt_of_le hgl HX1.out.2.size
  have HB1 := hid HX1.out.2
  clear hat1 HO1 HX1 HH0 x0 hgi
  go_upto_region 16 with (go_at_call 77; refine (HE _).out.mono ?_; rintro e w2 ⟨⟨lb, rfl, hd⟩, hb2⟩; have HD2 := hid hd; have HN2 := hid hb2; clear hd hb2)
  have k2 := (HN2.out.cell (p := ⟨g1, o1 + at_, none⟩) hg1).trans k1
  have xi2 := (HN2.out.cell (p := ⟨gi, 0, none⟩) hgi1).trans xi
  have HB2 := hid (HB1.out.trans (HN2.out.mono HB1.out.size))
  have hf2 := HD2.out w2 (F at_) (Below.refl _ _) HFF.out
  rw [← HRR.out] at hf2
  have HF2 := hid hf2
  clear hf2
  clear k1 xi HN2 HB1 HD2 HE HFF HRR
  generalize F at_ = q at *
  go_wp2_with (go_at_fn 120; (with_reducible refine HF2.out.mono ?_); rintro e w3 ⟨rfl, hb3⟩; have HB3 := hid (HB2.out.trans (hb3.mono HB2.out.size)); clear hb3)
  go_ret
  exact ⟨rfl, HB3.out⟩
end Go.Proofs.YtlhakbkdlgejpaaGreatDoor
namespace Go.Proofs.YtlhakbkdlgejpaaGreatDoor
open Go.RowKit
theorem add_plain (g o j : Nat) : ((⟨g, o, none⟩ : Addr).add j) = ⟨g, o + j, none⟩ := by (simp [Addr.add]; try (intro h; subst h; rfl))
theorem fc_append (c d : Nat) (F G : Nat → Nat) : fc c F ++ fc d G = fc (c + d) (fun i => if i < c then F i else G (i - c)) := by
  apply List.ext_getElem?
  intro j
  rw [List.getElem?_append, fc_length]
  by_cases h1 : j < c
  · rw [if_pos h1, fc_get h1, fc_get (by omega), if_pos h1]
  · rw [if_neg h1]
    by_cases h2 : j < c + d
    · rw [fc_get (by omega), fc_get h2, if_neg h1]
    · rw [List.getElem?_eq_none (by rw [fc_length]; omega), List.getElem?_eq_none (by rw [fc_length]; omega)]
end Go.Proofs.YtlhakbkdlgejpaaGreatDoor
