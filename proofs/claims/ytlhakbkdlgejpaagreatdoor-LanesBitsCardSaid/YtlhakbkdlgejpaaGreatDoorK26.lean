/-
  LBTold, LXDo, LBDo: merged, what the law does not reach left out (each text says what it holds where it lies in wip). No condition.
-/
import Derived.Test.YtlhakbkdlgejpaaGreatDoorK23
import Derived.Test.YtlhakbkdlgejpaaGreatDoorK18
import Derived.Test.YtlhakbkdlgejpaaGreatDoorK10
import Derived.Test.YtlhakbkdlgejpaaGreatDoorK15
import Derived.Test.YtlhakbkdlgejpaaGreatDoorK09
import Derived.Test.YtlhakbkdlgejpaaGreatDoorK08
import Derived.Test.YtlhakbkdlgejpaaGreatDoorK19
set_option linter.unusedSimpArgs false
set_option linter.unusedVariables false
set_option maxRecDepth 100000
namespace Go.Proofs.YtlhakbkdlgejpaaGreatDoor
open Go.RowKit
theorem sg_sign (n x : Nat) (hn : 1 ≤ n) (hx : x < 2 ^ n) : (sg n (x % 2 ^ n) < 0 ↔ x / 2 ^ (n - 1) = 1) ∧ x / 2 ^ (n - 1) < 2 := by
  have e : 2 ^ n = 2 * 2 ^ (n - 1) := by rw [Nat.mul_comm, ← Nat.pow_succ]; congr 1; omega
  have hp : 0 < 2 ^ (n - 1) := Nat.two_pow_pos _
  rw [Nat.mod_eq_of_lt hx]
  unfold sg
  rw [e] at hx ⊢
  generalize 2 ^ (n - 1) = p at *
  have h2 : x / p < 2 := (Nat.div_lt_iff_lt_mul hp).2 hx
  refine ⟨?_, h2⟩
  by_cases h : x < p
  · have h0 : x / p = 0 := Nat.div_eq_of_lt h
    rw [h0]
    constructor
    · intro hh; split at hh <;> omega
    · intro hh; omega
  · have h1 : x / p = 1 := by
      have := Nat.div_le_div_right (c := p) (Nat.le_of_not_lt h)
      rw [Nat.div_self hp] at this
      omega
    rw [h1]
    constructor
    · intro _; rfl
    · intro _; split <;> omega
/-- What is told of the lanes from the m-th one on. -/
def tellN (c n : Nat) (F : Nat → Nat) (m : Nat) : Nat := packF 1 (c - m) (fun j => F (m + j) / 2 ^ (n - 1))
def tellA (c : Nat) (F : Nat → Nat) (m : Nat) : Nat := if ∀ i, i < c → m ≤ i → F i ≠ 0 then 1 else 0
theorem tellN_next (c n : Nat) (F : Nat → Nat) (q : Nat) (h : q < c) (hb : F q / 2 ^ (n - 1) < 2) : tellN c n F q = F q / 2 ^ (n - 1) + 2 * tellN c n F (q + 1) := by
  unfold tellN
  obtain ⟨d, hd⟩ : ∃ d, c - q = d + 1 := ⟨c - q - 1, by omega⟩
  rw [hd, show c - (q + 1) = d by omega, packF_front]
  simp only [Nat.add_zero, Nat.pow_one]
  rw [Nat.mod_eq_of_lt hb]
  congr 2
  refine packF_congr 1 d _ _ fun i _ => ?_
  rw [show q + (i + 1) = q + 1 + i by omega]
theorem tellN_lt (c n : Nat) (hc : c ≤ 16) (F : Nat → Nat) (m : Nat) : tellN c n F m < 65536 := by
  have := packF_lt 1 (c - m) (fun j => F (m + j) / 2 ^ (n - 1))
  refine Nat.lt_of_lt_of_le this ?_
  rw [Nat.one_mul]
  exact (show 2 ^ (c - m) ≤ 2 ^ 16 from Nat.pow_le_pow_right (by decide) (by omega))
theorem tellA_next (c : Nat) (F : Nat → Nat) (q : Nat) (h : q < c) : tellA c F q = if F q = 0 then 0 else tellA c F (q + 1) := by
  unfold tellA
  by_cases h0 : F q = 0
  · rw [if_pos h0, if_neg (fun hh => hh q h (Nat.le_refl _) h0)]
  · rw [if_neg h0]
    by_cases h1 : ∀ i, i < c → q + 1 ≤ i → F i ≠ 0
    · rw [if_pos h1, if_pos (fun i hi hq => by rcases Nat.eq_or_lt_of_le hq with rfl | hlt; exact h0; exact h1 i hi hlt)]
    · rw [if_neg h1, if_neg (fun hh => h1 (fun i hi hq => hh i hi (by omega)))]
set_option maxHeartbeats 4000000 in
theorem told_says (k : Bool) (what : List UInt8) (hk : (what == [97, 108, 108, 95, 116, 114, 117, 101]) = k) (n : Nat) (hn : Okn n) (c : Nat) (hc : c ≤ 16) (F : Nat → Nat) (hF : ∀ i, F i < 2 ^ n) (v : Value) (w : World) (hr : RowAt w v c F) :
    Calls Tryz.prog 127 #[.int .i64 n, .string (str what), v] w fun e w' => e = .returned (vv 0 (if k then (if allN c F then 1 else 0) else maskN c n F) 0 false) ∧ Below w.heap.size w w' := by
  obtain ⟨sw, hsw⟩ : ∃ sw, sw = str what := ⟨_, rfl⟩
  have HQ := hid (show (sw.toList == [97, 108, 108, 95, 116, 114, 117, 101]) = k by rw [hsw, str_list]; exact hk)
  rw [← hsw]
  have hn1 : 1 ≤ n := by have := hn.cases; omega
  have hn64 : n ≤ 64 := by have := hn.cases; omega
  have HSGN := fun x (hx : x < 18446744073709551616) W => hid (RSigned_ok n hn x hx W)
  have HNEG := hid (fun i => sg_sign n (F i) hn1 (hF i))
  have HF64 := hid (show ∀ i, F i < 18446744073709551616 from fun i => Nat.lt_of_lt_of_le (hF i) (Nat.pow_le_pow_right (by decide) hn64))
  have HTL := hid (fun m => tellN_lt c n hc F m)
  have HTN := hid (fun q h hb => tellN_next c n F q h hb)
  have HTA := hid (fun q h => tellA_next c F q h)
  have HT0 := hid (show tellN c n F c = 0 ∧ tellA c F c = 1 from ⟨by unfold tellN; rw [Nat.sub_self]; rfl, by unfold tellA; rw [if_pos (fun i h1 h2 => absurd h1 (by omega))]⟩)
  have HTE := hid (show maskN c n F = tellN c n F 0 ∧ (if allN c F then 1 else 0) = tellA c F 0 from ⟨by unfold maskN tellN; rw [Nat.sub_zero]; exact packF_congr 1 c _ _ (fun i _ => by rw [Nat.zero_add]), by
    unfold tellA allN
    by_cases h : ∀ i, i < c → F i ≠ 0
    · rw [if_pos (decide_eq_true h), if_pos (fun i h1 _ => h i h1)]
    · rw [if_neg (fun hh => h (of_decide_eq_true hh)), if_neg (fun hh => h (fun i h1 => hh i h1 (Nat.zero_le _)))]⟩)
  rw [HTE.out.1, HTE.out.2]
  have HTA1 := hid (show ∀ m, tellA c F m ≤ 1 from fun m => by unfold tellA; split <;> omega)
  clear HTE hsw hk
  generalize tellN c n F = TN at *
  generalize tellA c F = TA at *
  obtain ⟨g, o, cap, rfl, hg, hcap, hat⟩ := hr
  have HA := hid hat
  unfold vv
  clear hat hF hn hn1 hn64
  go_enter Tryz.func127, Tryz.ntmps127
  go_upto_region 3 with fail
  have HC0 := hid (CA.new w #[.int .i64 0, .int .u64 0, .int .u64 0, .bool false] 24)
  have HB0 := hid ((Below.refl _ w).alloc (Nat.le_refl _) (.cells #[.int .i64 0, .int .u64 0, .int .u64 0, .bool false] 24))
  generalize w.alloc (.cells #[.int .i64 0, .int .u64 0, .int .u64 0, .bool false] 24) = W0 at *
  go_wp2_with fail
  go_loopw [7, 8, 9] (fun vn va vi wr => ∃ m : Nat, m ≤ c ∧ vi = .int .i64 ((m : Int) - 1) ∧ vn = .int .u64 (TN m : Nat) ∧ va = .int .u64 (TA m : Nat) ∧ W0 = wr) (fun _ _ vi _ => (intOf vi + 1).toNat)
  case atStart => exact ⟨c, Nat.le_refl _, rfl, by rw [HT0.out.1]; rfl, by rw [HT0.out.2]; rfl, rfl⟩
  case round =>
    obtain ⟨m, hmc, rfl, rfl, rfl, rfl⟩ := hrel
    by_cases hlt : 0 < m
    · obtain ⟨q, rfl⟩ : ∃ q, m = q + 1 := ⟨m - 1, by omega⟩
      have hqc : q < c := by omega
      rw [show (((q + 1 : Nat) : Int) - 1) = (q : Int) by omega]
      have k1 : W0.cell? ⟨g, o + q, none⟩ = some (.int .u64 (F q : Nat)) := (HB0.out.cell (p := ⟨g, o + q, none⟩) hg).trans (HA.out q hqc).1
      have hsg := HNEG.out q
      have hx64 := HF64.out q
      have htn := HTN.out q hqc hsg.2
      have hta := HTA.out q hqc
      have htl := HTL.out (q + 1)
      have htl2 := HTL.out q
      have HSG := fun W => HSGN (F q) hx64 W
      have w1 : IntKind.u64.wrap ((TN (q + 1) : Int) * 2) = ((2 * TN (q + 1) : Nat) : Int) := by rw [IntKind.wrap_u64]; omega
      have w2 : IntKind.u64.wrap (((2 * TN (q + 1) : Nat) : Int) + 1) = ((2 * TN (q + 1) + 1 : Nat) : Int) := by rw [IntKind.wrap_u64]; omega
      have hz0 : (F q = 0) = ((F q : Int) = 0) := by simp
      clear HNEG HF64 HTN HTA HTL HSGN HA HQ HT0 HTA1
      generalize hzz : sg n (F q % 2 ^ n) = z at *
      generalize F q / 2 ^ (n - 1) = b at *
      have hgo : ∀ (u t : Nat), TN q = u → TA q = t → True := fun _ _ _ _ => trivial
      clear hgo
      rcases Nat.eq_zero_or_pos (F q) with h0 | h0
      · rw [if_pos h0] at hta
        have k1 : W0.cell? ⟨g, o + q, none⟩ = some (.int .u64 0) := by rw [h0] at k1; exact k1
        have HSG : ∀ W, Hid (Calls Tryz.prog 143 #[.int .i64 n, .int .u64 0] W fun e w' => e = .returned (.int .i64 z) ∧ W = w') := fun W => by have h := HSG W; rw [h0] at h; exact h
        by_cases hneg : z < 0
        · have hb := hsg.1.1 hneg
          rw [hb] at htn
          have HTN2 := hid htn
          have HTA2 := hid hta
          clear hsg htn hta hz0 hzz hx64 hb htl htl2
          generalize 2 * TN (q + 1) = d at *
          go_wp2_with (go_at_call 143; (with_reducible refine (HSG _).out.mono ?_); rintro e w6 ⟨rfl, rfl⟩)
          go_roundw
          case rel => exact ⟨q, by omega, by first | rfl | go_num, by (rw [HTN2.out, Nat.add_comm]; try rfl), by rw [HTA2.out]; rfl, by first | rfl | trivial⟩
          case measure => (simp [intOf] <;> omega)
        · have hb : b = 0 := by have h1 := mt hsg.1.2 hneg; have h2 := hsg.2; omega
          rw [hb] at htn
          have HTN2 := hid htn
          have HTA2 := hid hta
          clear hsg htn hta hz0 hzz hx64 hb htl htl2 w2
          generalize 2 * TN (q + 1) = d at *
          go_wp2_with (go_at_call 143; (with_reducible refine (HSG _).out.mono ?_); rintro e w6 ⟨rfl, rfl⟩)
          go_roundw
          case rel => exact ⟨q, by omega, by first | rfl | go_num, by rw [HTN2.out, Nat.zero_add], by rw [HTA2.out]; rfl, by first | rfl | trivial⟩
          case measure => (simp [intOf] <;> omega)
      · rw [if_neg (by omega)] at hta
        have hne : ¬ ((F q : Int) = 0) := by omega
        by_cases hneg : z < 0
        · have hb := hsg.1.1 hneg
          rw [hb] at htn
          have HTN2 := hid htn
          have HTA2 := hid hta
          clear hsg htn hta hz0 hzz hx64 hb htl htl2
          generalize 2 * TN (q + 1) = d at *
          generalize F q = x at *
          go_wp2_with (go_at_call 143; (with_reducible refine (HSG _).out.mono ?_); rintro e w6 ⟨rfl, rfl⟩)
          go_roundw
          case rel => exact ⟨q, by omega, by first | rfl | go_num, by (rw [HTN2.out, Nat.add_comm]; try rfl), by rw [HTA2.out], by first | rfl | trivial⟩
          case measure => (simp [intOf] <;> omega)
        · have hb : b = 0 := by have h1 := mt hsg.1.2 hneg; have h2 := hsg.2; omega
          rw [hb] at htn
          have HTN2 := hid htn
          have HTA2 := hid hta
          clear hsg htn hta hz0 hzz hx64 hb htl htl2 w2
          generalize 2 * TN (q + 1) = d at *
          generalize F q = x at *
          go_wp2_with (go_at_call 143; (with_reducible refine (HSG _).out.mono ?_); rintro e w6 ⟨rfl, rfl⟩)
          go_roundw
          case rel => exact ⟨q, by omega, by first | rfl | go_num, by rw [HTN2.out, Nat.zero_add], by rw [HTA2.out], by first | rfl | trivial⟩
          case measure => (simp [intOf] <;> omega)
    · obtain rfl : m = 0 := by omega
      rw [show (((0 : Nat) : Int) - 1) = -1 by omega]
      have r0 := HC0.out.at (k := 0) (v := .int .i64 0) rfl
      have r1 := HC0.out.at (k := 1) (v := .int .u64 0) rfl
      have r2 := HC0.out.at (k := 2) (v := .int .u64 0) rfl
      have r3 := HC0.out.at (k := 3) (v := .bool false) rfl
      have f0 := HC0.out.free 0
      have f1 := HC0.out.free 1
      have f2 := HC0.out.free 2
      have f3 := HC0.out.free 3
      clear HNEG HF64 HTN HTA HTL HSGN HA HT0 HTA1 HC0
      cases k with
      | true =>
        have q : (sw.toList == [97, 108, 108, 95, 116, 114, 117, 101]) = true := HQ.out
        clear HQ
        go_wp2
        refine bodyPost_ret (v := .agg #[.int .i64 0, .int .u64 (TA 0 : Nat), .int .u64 0, .bool false]) ?_ rfl ⟨rfl, (((HB0.out.setCell (p := ⟨w.heap.size, 0, none⟩) (Nat.le_refl _) _).setCell (p := ⟨w.heap.size, 1, none⟩) (Nat.le_refl _) _).setCell (p := ⟨w.heap.size, 2, none⟩) (Nat.le_refl _) _).setCell (p := ⟨w.heap.size, 3, none⟩) (Nat.le_refl _) _⟩
        simp [results, Tryz.results127, go_sem, r0, r1, r2, r3]
      | false =>
        have q : (sw.toList == [97, 108, 108, 95, 116, 114, 117, 101]) = false := HQ.out
        clear HQ
        go_wp2
        refine bodyPost_ret (v := .agg #[.int .i64 0, .int .u64 (TN 0 : Nat), .int .u64 0, .bool false]) ?_ rfl ⟨rfl, (((HB0.out.setCell (p := ⟨w.heap.size, 0, none⟩) (Nat.le_refl _) _).setCell (p := ⟨w.heap.size, 1, none⟩) (Nat.le_refl _) _).setCell (p := ⟨w.heap.size, 2, none⟩) (Nat.le_refl _) _).setCell (p := ⟨w.heap.size, 3, none⟩) (Nat.le_refl _) _⟩
        simp [results, Tryz.results127, go_sem, r0, r1, r2, r3]
set_option maxHeartbeats 4000000 in
theorem RDone_whole (r : Rw) (sh what : List UInt8) (hsh : headC r.2.1 46 = sh) (hwhat : tailC r.2.1 46 = what) (hnl : r.2.1.length ≤ 1000) (hbi : biL sh = 0)
    (vi va : Value) (w : World) (T : Int) (lo hi : Nat) (HW : ∀ W, Below w.heap.size w W → Calls Tryz.prog 124 #[.string (str what), va] W fun e w' => e = .returned (vv T lo hi false) ∧ Below W.heap.size W w') :
    Calls Tryz.prog 80 #[rwV r, vi, va] w fun e w' => e = .returned (vv T lo hi false) ∧ Below w.heap.size w w' := by
  obtain ⟨ro, nm, im, tk, lv, fx⟩ := r
  simp only [] at hsh hwhat hnl
  have HCT := fun W => hid (RCut_says nm hnl 46 46 rfl W)
  rw [hsh, hwhat] at HCT
  have HBI := fun W => hid (RBits_says sh W)
  rw [hbi] at HBI
  have HWW := fun W h => hid (HW W h)
  unfold vv at HWW ⊢
  unfold rwV
  generalize str what = sw at *
  generalize str sh = ss at *
  generalize str nm = sn at *
  clear hsh hwhat hbi hnl HW
  go_enter Tryz.func80, Tryz.ntmps80
  go_wp2_with (first
    | (go_at_call 122; refine (HCT _).out.mono ?_; rintro e w1 ⟨rfl, hb1⟩; have hX1 := (And.intro ((CA.new _ _ 24).call hb1) (((((Below.refl w.heap.size w).alloc (Nat.le_refl _) _).alloc (by first | omega | (simp <;> omega)) _)).trans (hb1.mono (by first | omega | (simp <;> omega))))); have HX1 := hid hX1; clear hb1 hX1)
    | (go_at_call 123; refine (HBI _).out.mono ?_; rintro e w2 ⟨rfl, rfl⟩)
    | (go_at_call 124; (with_reducible refine (HWW _ HX1.out.2).out.mono ?_); rintro e w9 ⟨rfl, hb9⟩; have hC9 := HX1.out.1.call hb9; rw [size_al] at hC9; have HC9 := hid hC9; have HB10 := hid (HX1.out.2.trans (hb9.mono HX1.out.2.size)); have r0 := hC9.at (k := 0) (v := .int .i64 0) rfl; have r1 := hC9.at (k := 1) (v := .int .u64 0) rfl; have r2 := hC9.at (k := 2) (v := .int .u64 0) rfl; have r3 := hC9.at (k := 3) (v := .bool false) rfl; have f0 := hC9.free 0; have f1 := hC9.free 1; have f2 := hC9.free 2; have f3 := hC9.free 3; clear hb9 hC9))
  refine bodyPost_ret (v := .agg #[.int .i64 T, .int .u64 (lo : Nat), .int .u64 (hi : Nat), .bool false]) ?_ rfl ⟨rfl, (((HB10.out.setCell (p := ⟨w.heap.size + 1, 0, none⟩) (Nat.le_succ _) _).setCell (p := ⟨w.heap.size + 1, 1, none⟩) (Nat.le_succ _) _).setCell (p := ⟨w.heap.size + 1, 2, none⟩) (Nat.le_succ _) _).setCell (p := ⟨w.heap.size + 1, 3, none⟩) (Nat.le_succ _) _⟩
  simp [results, Tryz.results80, go_sem, r0, r1, r2, r3]
set_option maxHeartbeats 4000000 in
theorem RDone_told (r : Rw) (sh what : List UInt8) (hsh : headC r.2.1 46 = sh) (hwhat : tailC r.2.1 46 = what) (hnl : r.2.1.length ≤ 1000) (n : Nat) (hn : Okn n) (hbi : biL sh = n) (him : (r.2.2.1 == 25) = false) (him2 : (r.2.2.1 == 24) = false)
    (hw0 : (what == [115, 112, 108, 97, 116]) = false) (hw1 : (what == [115, 119, 105, 122, 122, 108, 101]) = false) (k : Bool) (hw2 : (what == [97, 108, 108, 95, 116, 114, 117, 101]) = k) (hw3 : (what == [98, 105, 116, 109, 97, 115, 107]) = !k)
    (vi va : Value) (l : List Av) (lo hi : Nat) (nl : Bool) (hl0 : l[0]? = some (123, lo, hi, nl)) (hlo : lo < 18446744073709551616) (hhi : hi < 18446744073709551616) (w : World) (ha : AR w va l) (x : Nat)
    (HO : ∀ W v, Below w.heap.size w W → RowAt W v (cnt n) (splitF n lo hi) → Calls Tryz.prog 127 #[.int .i64 n, .string (str what), v] W fun e w' => e = .returned (vv 0 x 0 false) ∧ Below W.heap.size W w') :
    Calls Tryz.prog 80 #[rwV r, vi, va] w fun e w' => e = .returned (vv 0 x 0 false) ∧ Below w.heap.size w w' := by
  obtain ⟨ro, nm, im, tk, lv, fx⟩ := r
  simp only [] at hsh hwhat hnl him him2
  have HCT := fun W => hid (RCut_says nm hnl 46 46 rfl W)
  rw [hsh, hwhat] at HCT
  have HBI := fun W => hid (RBits_says sh W)
  rw [hbi] at HBI
  have hwl : what.length ≤ 1000 := by
    rw [← hwhat]; unfold tailC; split
    · rw [List.length_drop]; omega
    · simp
  have HSP := fun W => hid (RSplit_says n hn 123 lo hi nl hlo hhi W)
  have hc1 : 1 ≤ cnt n := by rcases hn.cases with ⟨_, _, h⟩ | ⟨_, _, h⟩ | ⟨_, _, h⟩ | ⟨_, _, h⟩ <;> omega
  have hn0 : ((n : Int) == 0) = false := by have := hn.le; simp; have := hn.cases; omega
  have q0 : ((str what).toList == [115, 112, 108, 97, 116]) = false := by rw [str_list]; exact hw0
  have q1 : ((str what).toList == [115, 119, 105, 122, 122, 108, 101]) = false := by rw [str_list]; exact hw1
  have q2 : ((str what).toList == [97, 108, 108, 95, 116, 114, 117, 101]) = k := by rw [str_list]; exact hw2
  have q3 : ((str what).toList == [98, 105, 116, 109, 97, 115, 107]) = !k := by rw [str_list]; exact hw3
  have HOO := fun W v h h2 => hid (HO W v h h2)
  have hll : 1 ≤ l.length := by have := (List.getElem?_eq_some_iff.1 hl0).1; omega
  obtain ⟨ga, ca, rfl, hga, hca, hata⟩ := ha
  obtain ⟨a0, a1, a2, a3⟩ := hata 0 (123, lo, hi, nl) hl0
  simp only [Nat.zero_mul, Nat.zero_add] at a0 a1 a2 a3
  obtain ⟨ll, hle⟩ : ∃ ll, ll = l.length := ⟨_, rfl⟩
  rw [← hle] at hll hca ⊢
  unfold vv at HSP HOO ⊢
  unfold rwV
  generalize cnt n = c at *
  generalize str what = sw at *
  generalize str sh = ss at *
  generalize str nm = sn at *
  generalize splitF n lo hi = F at *
  clear hsh hwhat hbi hlo hhi hata HO hw0 hw1 hw2 hw3 hn hnl hwl hle hl0
  cases k
  · go_enter Tryz.func80, Tryz.ntmps80
    go_wp2_with (first
      | (go_at_call 122; refine (HCT _).out.mono ?_; rintro e w1 ⟨rfl, hb1⟩; have hX1 := (And.intro ((CA.new _ _ 24).call hb1) (((((Below.refl w.heap.size w).alloc (Nat.le_refl _) _).alloc (by first | omega | (simp <;> omega)) _)).trans (hb1.mono (by first | omega | (simp <;> omega))))); have HX1 := hid hX1; have a0' := (hX1.2.cell (p := ⟨ga, 0, none⟩) hga).trans a0; have a1' := (hX1.2.cell (p := ⟨ga, 1, none⟩) hga).trans a1; have a2' := (hX1.2.cell (p := ⟨ga, 2, none⟩) hga).trans a2; have a3' := (hX1.2.cell (p := ⟨ga, 3, none⟩) hga).trans a3; have hbx := (((CA.new w _ 36).alloc _).call hb1).at (k := 2) (v := .int .i64 im) rfl; clear hb1 hX1)
      | (go_at_call 123; refine (HBI _).out.mono ?_; rintro e w2 ⟨rfl, rfl⟩)
      | (go_at_call 126; (with_reducible refine (HSP _).out.mono ?_); rintro e w3 ⟨v3, rfl, ho3, hb3⟩; have HR3 := hid (RowAt.of_own ho3 hc1); have HX3 := hid (And.intro (HX1.out.1.call hb3) (HX1.out.2.trans (hb3.mono HX1.out.2.size))); clear hb3 ho3)
      | (go_at_call 127; (with_reducible refine (HOO _ _ HX3.out.2 HR3.out).out.mono ?_); rintro e w9 ⟨rfl, hb9⟩; have hC9 := HX3.out.1.call hb9; rw [size_al] at hC9; have HC9 := hid hC9; have HB10 := hid (HX3.out.2.trans (hb9.mono HX3.out.2.size)); have r0 := hC9.at (k := 0) (v := .int .i64 0) rfl; have r1 := hC9.at (k := 1) (v := .int .u64 0) rfl; have r2 := hC9.at (k := 2) (v := .int .u64 0) rfl; have r3 := hC9.at (k := 3) (v := .bool false) rfl; have f0 := hC9.free 0; have f1 := hC9.free 1; have f2 := hC9.free 2; have f3 := hC9.free 3; clear hb9 hC9))
    refine bodyPost_ret (v := .agg #[.int .i64 0, .int .u64 (x : Nat), .int .u64 0, .bool false]) ?_ rfl ⟨rfl, (((HB10.out.setCell (p := ⟨w.heap.size + 1, 0, none⟩) (Nat.le_succ _) _).setCell (p := ⟨w.heap.size + 1, 1, none⟩) (Nat.le_succ _) _).setCell (p := ⟨w.heap.size + 1, 2, none⟩) (Nat.le_succ _) _).setCell (p := ⟨w.heap.size + 1, 3, none⟩) (Nat.le_succ _) _⟩
    simp [results, Tryz.results80, go_sem, r0, r1, r2, r3]
  · go_enter Tryz.func80, Tryz.ntmps80
    go_wp2_with (first
      | (go_at_call 122; refine (HCT _).out.mono ?_; rintro e w1 ⟨rfl, hb1⟩; have hX1 := (And.intro ((CA.new _ _ 24).call hb1) (((((Below.refl w.heap.size w).alloc (Nat.le_refl _) _).alloc (by first | omega | (simp <;> omega)) _)).trans (hb1.mono (by first | omega | (simp <;> omega))))); have HX1 := hid hX1; have a0' := (hX1.2.cell (p := ⟨ga, 0, none⟩) hga).trans a0; have a1' := (hX1.2.cell (p := ⟨ga, 1, none⟩) hga).trans a1; have a2' := (hX1.2.cell (p := ⟨ga, 2, none⟩) hga).trans a2; have a3' := (hX1.2.cell (p := ⟨ga, 3, none⟩) hga).trans a3; have hbx := (((CA.new w _ 36).alloc _).call hb1).at (k := 2) (v := .int .i64 im) rfl; clear hb1 hX1)
      | (go_at_call 123; refine (HBI _).out.mono ?_; rintro e w2 ⟨rfl, rfl⟩)
      | (go_at_call 126; (with_reducible refine (HSP _).out.mono ?_); rintro e w3 ⟨v3, rfl, ho3, hb3⟩; have HR3 := hid (RowAt.of_own ho3 hc1); have HX3 := hid (And.intro (HX1.out.1.call hb3) (HX1.out.2.trans (hb3.mono HX1.out.2.size))); clear hb3 ho3)
      | (go_at_call 127; (with_reducible refine (HOO _ _ HX3.out.2 HR3.out).out.mono ?_); rintro e w9 ⟨rfl, hb9⟩; have hC9 := HX3.out.1.call hb9; rw [size_al] at hC9; have HC9 := hid hC9; have HB10 := hid (HX3.out.2.trans (hb9.mono HX3.out.2.size)); have r0 := hC9.at (k := 0) (v := .int .i64 0) rfl; have r1 := hC9.at (k := 1) (v := .int .u64 0) rfl; have r2 := hC9.at (k := 2) (v := .int .u64 0) rfl; have r3 := hC9.at (k := 3) (v := .bool false) rfl; have f0 := hC9.free 0; have f1 := hC9.free 1; have f2 := hC9.free 2; have f3 := hC9.free 3; clear hb9 hC9))
    refine bodyPost_ret (v := .agg #[.int .i64 0, .int .u64 (x : Nat), .int .u64 0, .bool false]) ?_ rfl ⟨rfl, (((HB10.out.setCell (p := ⟨w.heap.size + 1, 0, none⟩) (Nat.le_succ _) _).setCell (p := ⟨w.heap.size + 1, 1, none⟩) (Nat.le_succ _) _).setCell (p := ⟨w.heap.size + 1, 2, none⟩) (Nat.le_succ _) _).setCell (p := ⟨w.heap.size + 1, 3, none⟩) (Nat.le_succ _) _⟩
    simp [results, Tryz.results80, go_sem, r0, r1, r2, r3]
end Go.Proofs.YtlhakbkdlgejpaaGreatDoor
namespace Go.Proofs.YtlhakbkdlgejpaaGreatDoor
open Go.RowKit
theorem store4 {g : Nat} {x0 x1 x2 x3 : Value} {T : TypeId} {W : World} (h : CA g #[x0, x1, x2, x3] T W) (a b c d : Value) : CA g #[a, b, c, d] T ((((W.setCell ⟨g, 0, none⟩ a).setCell ⟨g, 1, none⟩ b).setCell ⟨g, 2, none⟩ c).setCell ⟨g, 3, none⟩ d) :=
  (((h.set (k := 0) a).set (k := 1) b).set (k := 2) c).set (k := 3) d
set_option maxHeartbeats 4000000 in
theorem Do_num32 (op : Int) (nm : List UInt8) (hnm : (lineL op).1 = str nm) (vb : List UInt8) (ff : Bool) (fb : Int) (tf : Bool) (n : Int) (sg : Bool) (hpar : parV nm = insV vb ff fb tf n sg) (hn1 : nm.length ≤ 1000) (hok : ((xsL nm).2 == 0) = false → 0 ≤ laL6 nm) (hlb : lbL op = [127])
    (vi va : Value) (w : World) (hg : Glob w) (Hfit : ∀ W, Below w.heap.size w W → Calls Tryz.prog 30 #[.int .i64 op, vi, va] W fun e w' => e = .returned (.bool true) ∧ Below W.heap.size W w')
    (r : Nat) (hr : r < 18446744073709551616) (Hnum : ∀ W, Below w.heap.size w W → Calls Tryz.prog 36 #[insV vb ff fb tf n sg, vi, va] W fun e w' => e = .returned (.int .u64 (r : Nat)) ∧ Below W.heap.size W w') :
    Calls Tryz.prog 20 #[.int .i64 op, vi, va] w fun e w' => e = .returned (.tuple #[vv 127 (r % 2 ^ 32) 0 false, .int .i64 0]) ∧ Below w.heap.size w w' := by
  have HFI := fun W h => hid (Hfit W h)
  have HN := fun W => hid (Name_says op W)
  rw [hnm] at HN
  have HP := fun W => hid (parsed_says nm hn1 hok W)
  rw [hpar] at HP
  have HSG := fun W (h : Glob W) => hid (Sign_any op W h)
  rw [hlb] at HSG
  have HV := fun W h => hid (Hnum W h)
  have HCU := fun W => hid (lcut_any 32 (by right; right; left; rfl) r hr W)
  have hr2 : r % 2 ^ 32 < 18446744073709551616 := Nat.lt_of_le_of_lt (Nat.mod_le _ _) hr
  obtain ⟨rr, hr2e⟩ : ∃ rr, rr = r % 2 ^ 32 := ⟨_, rfl⟩
  rw [← hr2e] at HCU hr2 ⊢
  have HCU : ∀ W, Hid (Calls Tryz.prog 35 #[.int .i64 32, .int .u64 (r : Nat)] W fun e w' => e = .returned (.int .u64 (rr : Nat)) ∧ W = w') := HCU
  have HGL := hid hg
  unfold insV at HP HV
  unfold vv
  generalize laL op = la at *
  generalize fxB (lineL op) = fx at *
  generalize str nm = s at *
  generalize str vb = s2 at *
  clear hnm hpar hn1 hok hlb hg Hfit Hnum hr2e
  go_enter Tryz.func20, Tryz.ntmps20
  go_upto_region 5 with (first
    | (go_at_call 30; refine (HFI _ ((Below.refl _ w).alloc (Nat.le_refl _) _)).out.mono ?_; rintro e w1 ⟨rfl, hb1⟩; have HR1 := hid (below_new hb1); clear hb1)
    | (go_at_call 32; refine (HN _).out.mono ?_; rintro e w2 ⟨rfl, hb2⟩; have HR2 := hid (And.intro (HR1.out.1.call hb2) (HR1.out.2.trans (hb2.mono HR1.out.2.size))); clear hb2)
    | (go_at_call 31; refine (HP _).out.mono ?_; rintro e w3 ⟨rfl, hb3⟩; have HR3 := hid (And.intro (HR2.out.1.call hb3) (HR2.out.2.trans (hb3.mono HR2.out.2.size))); clear hb3)
    | (go_at_call 33; refine (HSG _ (HGL.out.next (HR3.out.2.alloc HR3.out.2.size _))).out.mono ?_; rintro e w5 ⟨v1, v2, B2, rfl, ho1, ho2, hB2, hsep, hb⟩; have HL := hid ho2; have HN5 := hid (below_new hb); clear hb ho1 ho2 hB2 hsep))
  obtain ⟨gt, ct, rfl⟩ : ∃ g cap, v2 = .slice (some ⟨g, 0, none⟩) 1 cap := owned_at HL.out (Nat.le_refl _)
  have k0 : w5.cell? ⟨gt, 0, none⟩ = some (.int .i64 127) := HL.out.cellAt 0 (by decide)
  have hX : CA w3.heap.size #[.string s2, .bool ff, .int .i64 fb, .bool tf, .int .i64 n, .bool sg] 50 w5 := HN5.out.1
  have hR : CA w.heap.size #[.int .i64 0, .int .u64 0, .int .u64 0, .bool false] 24 w5 := HR3.out.1.call HN5.out.2
  have hB : Below w.heap.size w w5 := HR3.out.2.trans (HN5.out.2.mono HR3.out.2.size)
  have hne : w.heap.size ≠ w3.heap.size := Nat.ne_of_lt HR3.out.1.lt
  generalize w3.heap.size = g8 at *
  clear HN5 HR3 HR2 HR1 HL HSG HP HN HFI
  have x0 := hX.at (k := 0) (v := .string s2) rfl
  have x1 := hX.at (k := 1) (v := .bool ff) rfl
  have x2 := hX.at (k := 2) (v := .int .i64 fb) rfl
  have x3 := hX.at (k := 3) (v := .bool tf) rfl
  have x4 := hX.at (k := 4) (v := .int .i64 n) rfl
  have x5 := hX.at (k := 5) (v := .bool sg) rfl
  have HB5 := hid hB
  have HR5 := hid hR
  clear hX hB hR
  go_wp2_with (first
    | (go_at_call 36; (with_reducible refine (HV _ HB5.out).out.mono ?_); rintro e w7 ⟨rfl, hb7⟩; have HB7 := hid (HB5.out.trans (hb7.mono HB5.out.size)); have HR7 := hid (HR5.out.call hb7); have r0 := HR7.out.at (k := 0) (v := .int .i64 0) rfl; have r1 := HR7.out.at (k := 1) (v := .int .u64 0) rfl; have r2 := HR7.out.at (k := 2) (v := .int .u64 0) rfl; have r3 := HR7.out.at (k := 3) (v := .bool false) rfl; have f0 := HR7.out.free 0; have f1 := HR7.out.free 1; have f2 := HR7.out.free 2; have f3 := HR7.out.free 3; clear hb7)
    | (go_at_call 35; (with_reducible refine (HCU _).out.mono ?_); rintro e w8 ⟨rfl, rfl⟩))
  have q := store4 HR7.out (.int .i64 127) (.int .u64 (rr : Nat)) (.int .u64 0) (.bool false)
  have hb9 := ((((HB7.out.setCell (p := ⟨w.heap.size, 0, none⟩) (Nat.le_refl _) (.int .i64 127)).setCell (p := ⟨w.heap.size, 1, none⟩) (Nat.le_refl _) (.int .u64 (rr : Nat))).setCell (p := ⟨w.heap.size, 2, none⟩) (Nat.le_refl _) (.int .u64 0)).setCell (p := ⟨w.heap.size, 3, none⟩) (Nat.le_refl _) (.bool false))
  clear r0 r1 r2 r3 f0 f1 f2 f3
  generalize (((w7.setCell ⟨w.heap.size, 0, none⟩ (.int .i64 127)).setCell ⟨w.heap.size, 1, none⟩ (.int .u64 (rr : Nat))).setCell ⟨w.heap.size, 2, none⟩ (.int .u64 0)).setCell ⟨w.heap.size, 3, none⟩ (.bool false) = W3 at *
  have r0 := q.at (k := 0) (v := .int .i64 127) rfl
  have r1 := q.at (k := 1) (v := .int .u64 (rr : Nat)) rfl
  have r2 := q.at (k := 2) (v := .int .u64 0) rfl
  have r3 := q.at (k := 3) (v := .bool false) rfl
  exact bodyPost_ret (v := .tuple #[.agg #[.int .i64 127, .int .u64 (rr : Nat), .int .u64 0, .bool false], .int .i64 0]) (by simp [results, Tryz.results20, go_sem, r0, r1, r2, r3]) rfl ⟨rfl, hb9⟩
end Go.Proofs.YtlhakbkdlgejpaaGreatDoor
namespace Go.Proofs.YtlhakbkdlgejpaaGreatDoor
open Go.RowKit
set_option maxHeartbeats 4000000 in
set_option maxRecDepth 100000 in
theorem RDo_i32 (op : Int) (h64 : 64768 ≤ op) (ro : Int) (nm : List UInt8) (tk lv : List UInt8) (fx : Bool) (hr : ofL op = (ro, nm, 0, tk, lv, fx)) (hro : 0 ≤ ro) (htk : tk.length ≤ 100) (hlv : lv.length ≤ 100) (hlv2 : tyL lv = [127])
    (l : List Av) (hT : tyL tk = l.map (·.1)) (hl1 : 1 ≤ l.length) (hl : l.length ≤ 10) (va : Value) (w : World) (ha : AR w va l) (lo : Nat) (hlo : lo < 18446744073709551616)
    (HD : ∀ W, Below w.heap.size w W → Calls Tryz.prog 80 #[rwV (ro, nm, 0, tk, lv, fx), .slice none 0 0, va] W fun e w' => e = .returned (vv 0 lo 0 false) ∧ Below W.heap.size W w') :
    Calls Tryz.prog 38 #[.int .i64 op, .slice none 0 0, va] w fun e w' => e = .returned (.tuple #[vv 127 (lo % 2 ^ 32) 0 false, .int .i64 0]) ∧ Below w.heap.size w w' := by
  have HO := fun W => hid (Of_says op W)
  rw [hr] at HO
  have HT1 := fun W => hid (reftypes_says tk htk W)
  have HT2 := fun W => hid (reftypes_says lv hlv W)
  rw [hlv2] at HT2
  have HDD := fun W h => hid (HD W h)
  have HCUT : ∀ W, Hid (Calls Tryz.prog 81 #[.int .i64 32, .int .u64 (lo : Nat)] W fun e w' => e = .returned (.int .u64 ((lo % 2 ^ 32 : Nat) : Int)) ∧ W = w') := fun W => hid (Cut_any 32 (by decide) lo hlo W)
  generalize lo % 2 ^ 32 = l32 at *
  have HT := hid hT
  have hlen : (tyL tk).length = l.length := by rw [hT, List.length_map]
  obtain ⟨ga, ca, rfl, hga, hca, hata⟩ := ha
  have HA := hid hata
  obtain ⟨n, hn⟩ : ∃ n, n = l.length := ⟨_, rfl⟩
  rw [← hn] at hca hl1 hl hlen ⊢
  rw [← hn] at HDD
  have HN := hid hn
  have hop : ¬ (op < 64768) := by omega
  have hro2 : ¬ (ro < 0) := by omega
  unfold vv at HDD ⊢
  unfold rwV at HO HDD
  generalize tyL tk = ta at *
  clear hr hlv2 HD hT hata hn h64 hro
  go_enter Tryz.func38, Tryz.ntmps38
  go_upto_region 9 with (first
    | (go_at_call 23; refine (HO _).out.mono ?_; rintro e w1 ⟨rfl, hb1⟩; have HX1 := hid (below_new hb1); clear hb1)
    | (go_at_call 25; (with_reducible refine (HT1 _).out.mono ?_); rintro e w2 ⟨v2, rfl, ho2, hb2⟩; have HO2 := hid ho2; have HX2 := hid (below_new hb2); have m0 := HX2.out.1.at (k := 0) (v := .int .i64 ro) rfl; have m1 := HX2.out.1.at (k := 1) (v := .string (str nm)) rfl; have m2 := HX2.out.1.at (k := 2) (v := .int .i64 0) rfl; have m3 := HX2.out.1.at (k := 3) (v := .string (str tk)) rfl; have m4 := HX2.out.1.at (k := 4) (v := .string (str lv)) rfl; have m5 := HX2.out.1.at (k := 5) (v := .bool fx) rfl; clear hb2 ho2)
    | (go_at_call 25; (with_reducible refine (HT2 _).out.mono ?_); rintro e w3 ⟨v3, rfl, ho3, hb3⟩; have HO3 := hid ho3; have HO2' := hid (own_below HO2.out hb3 (Nat.le_refl _)); have HX3 := hid (And.intro (HX2.out.1.call hb3) (HX2.out.2.trans (hb3.mono HX2.out.2.size))); clear m0 m1 m2 m3 m4 m5; have p0 := HX3.out.1.at (k := 0) (v := .int .i64 ro) rfl; have p1 := HX3.out.1.at (k := 1) (v := .string (str nm)) rfl; have p2 := HX3.out.1.at (k := 2) (v := .int .i64 0) rfl; have p3 := HX3.out.1.at (k := 3) (v := .string (str tk)) rfl; have p4 := HX3.out.1.at (k := 4) (v := .string (str lv)) rfl; have p5 := HX3.out.1.at (k := 5) (v := .bool fx) rfl; clear hb3 ho3))
  obtain ⟨g2, c2, rfl⟩ := owned_at HO2'.out (by omega)
  obtain ⟨g3, c3, rfl⟩ : ∃ g cap, v3 = .slice (some ⟨g, 0, none⟩) 1 cap := owned_at HO3.out (Nat.le_refl _)
  have k3 : w3.cell? ⟨g3, 0, none⟩ = some (.int .i64 127) := HO3.out.cellAt 0 (by decide)
  have hg3 : g3 < w3.heap.size := (HO3.out.lt g3 rfl).2
  have hg2 : g2 < w3.heap.size := (HO2'.out.lt g2 rfl).2
  have HTC : Hid (∀ j a, l[j]? = some a → w3.cell? ⟨g2, j, none⟩ = some (.int .i64 a.1)) := fun j a hj => by
    have hjl : j < l.length := (List.getElem?_eq_some_iff.1 hj).1
    rw [HO2'.out.cellAt j (by rw [hlen, HN.out]; omega), HT.out]
    simp [ic, hj]
  have hB3 : Below w.heap.size w w3 := HX1.out.2.trans (HX3.out.2.mono HX1.out.2.size)
  have hR3 : CA w.heap.size #[.int .i64 0, .int .u64 0, .int .u64 0, .bool false] 24 w3 := HX1.out.1.call HX3.out.2
  have HXR := hid HX3.out.1
  have HB3 := hid hB3
  have HR3 := hid hR3
  have hwg : w.heap.size < w1.heap.size := HX1.out.1.lt
  generalize w1.heap.size = g8 at *
  rw [hlen]
  have hz : ((0 : Nat) : Int) = 0 := rfl
  clear HX1 HX2 HX3 HO2 HO2' HO3 HT hlen hB3 hR3
  go_wp2
  go_loopw [12] (fun vi wr => vi = .int .i64 0 ∧ wr = w3) (fun _ _ => 1)
  case atStart => exact ⟨rfl, rfl⟩
  case round =>
    obtain ⟨rfl, rfl⟩ := hrel
    go_wp2
    go_loopw [13] (fun vi ws => ∃ i : Nat, i ≤ n ∧ vi = .int .i64 i ∧ Hid (Below wr.heap.size wr ws)) (fun vi _ => n - (intOf vi).toNat)
    case atStart => exact ⟨0, Nat.zero_le _, rfl, Below.refl _ _⟩
    case round =>
      obtain ⟨i, hin, rfl, HB⟩ := hrel
      by_cases hlt : i < n
      · obtain ⟨a, hja⟩ : ∃ a, l[i]? = some a := ⟨l[i]'(by rw [← HN.out]; exact hlt), by simp [← HN.out, hlt]⟩
        obtain ⟨h0, _, _, _⟩ := HA.out i a hja
        have ht0 := HTC.out i a hja
        have e0 := (HB.out.cell (p := ⟨ga, i * 4, none⟩) (Nat.lt_of_lt_of_le hga HB3.out.size)).trans ((HB3.out.cell (p := ⟨ga, i * 4, none⟩) hga).trans h0)
        have e1 := (HB.out.cell (p := ⟨g2, i, none⟩) hg2).trans ht0
        generalize a.1 = t at *
        have ett : (t != t) = false := by simp
        clear h0 ht0 hja
        go_wp2
        go_region
        go_wp2
        go_roundw
        case rel => exact ⟨i + 1, by omega, by go_num, HB.out.drew⟩
        case measure => simp [intOf]; omega
      · obtain rfl : i = n := by omega
        have hXs := HXR.out.call HB.out
        have hRs := HR3.out.call HB.out
        have hBs := HB3.out.trans (HB.out.mono HB3.out.size)
        have HDW := HDD wr hBs
        have s0 := hXs.at (k := 0) (v := .int .i64 ro) rfl
        have s1 := hXs.at (k := 1) (v := .string (str nm)) rfl
        have s2 := hXs.at (k := 2) (v := .int .i64 0) rfl
        have s3 := hXs.at (k := 3) (v := .string (str tk)) rfl
        have s4 := hXs.at (k := 4) (v := .string (str lv)) rfl
        have s5 := hXs.at (k := 5) (v := .bool fx) rfl
        have k3' := (HB.out.cell (p := ⟨g3, 0, none⟩) hg3).trans k3
        have HRs := hid hRs
        have HBs := hid hBs
        have hg3s : g3 < wr.heap.size := Nat.lt_of_lt_of_le hg3 HB.out.size
        clear hXs hRs hBs
        go_wp2_with (first
          | (go_at_call 80; refine HDW.out.mono ?_; rintro e w9 ⟨rfl, hb9⟩; have HR9 := hid (HRs.out.call hb9); have HB9 := hid (HBs.out.trans (hb9.mono HBs.out.size)); have k9 : ∀ o, (w9.alloc o).cell? ⟨g3, 0, none⟩ = some (.int .i64 127) := fun o => by { rw [((Below.refl _ w9).alloc (Nat.le_refl _) o).cell (p := ⟨g3, 0, none⟩) (Nat.lt_of_lt_of_le hg3s hb9.size), hb9.cell (p := ⟨g3, 0, none⟩) hg3s]; exact k3' }; have r0 := fun o => (HR9.out.alloc o).at (k := 0) (v := .int .i64 0) rfl; have r1 := fun o => (HR9.out.alloc o).at (k := 1) (v := .int .u64 0) rfl; have r2 := fun o => (HR9.out.alloc o).at (k := 2) (v := .int .u64 0) rfl; have r3 := fun o => (HR9.out.alloc o).at (k := 3) (v := .bool false) rfl; have f0 := fun o => (HR9.out.alloc o).free 0; have f1 := fun o => (HR9.out.alloc o).free 1; have f2 := fun o => (HR9.out.alloc o).free 2; have f3 := fun o => (HR9.out.alloc o).free 3; clear hb9)
          | (go_at_call 81; (with_reducible refine (HCUT _).out.mono ?_); rintro e wc ⟨rfl, rfl⟩))
        refine bodyPost_ret (v := .tuple #[.agg #[.int .i64 127, .int .u64 (l32 : Nat), .int .u64 0, .bool false], .int .i64 0]) ?_ rfl ⟨rfl, ?_⟩
        · simp [results, Tryz.results38, go_sem, r0, r1, r2, r3]
        · exact ((((HB9.out.alloc HB9.out.size _).setCell (p := ⟨w.heap.size, 0, none⟩) (Nat.le_refl _) _).setCell (p := ⟨w.heap.size, 1, none⟩) (Nat.le_refl _) _).setCell (p := ⟨w.heap.size, 2, none⟩) (Nat.le_refl _) _).setCell (p := ⟨w.heap.size, 3, none⟩) (Nat.le_refl _) _
end Go.Proofs.YtlhakbkdlgejpaaGreatDoor
