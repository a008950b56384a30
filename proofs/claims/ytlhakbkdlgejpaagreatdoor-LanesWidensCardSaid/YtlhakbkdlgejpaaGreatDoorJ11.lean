/-
  LJoin: merged, what the law does not reach left out (each text says what it holds where it lies in wip). No condition.
-/
import Derived.Test.YtlhakbkdlgejpaaGreatDoorJ03
import Derived.Deep.DeepCutAuto
import Derived.Deep.RegionHeld3
set_option linter.unusedSimpArgs false
set_option linter.unusedVariables false
set_option maxRecDepth 100000
namespace Go.Proofs.YtlhakbkdlgejpaaGreatDoor
open Go.RowKit
def loK (n q k : Nat) (F : Nat → Nat) : Nat := packF n (if k < q then k else q) F
def hiK (n q k : Nat) (F : Nat → Nat) : Nat := packF n (k - q) (fun i => F (i + q))
theorem join_lo {n q : Nat} (F : Nat → Nat) (j : Nat) (hj : j < q) : loK n q j F ||| F j % 2 ^ n * 2 ^ (n * j) = loK n q (j + 1) F ∧ hiK n q (j + 1) F = hiK n q j F := by
 unfold loK hiK
 rw [if_pos hj, show j - q = 0 by omega, show j + 1 - q = 0 by omega, packF_or]
 refine ⟨?_, rfl⟩
 by_cases h : j + 1 < q
 ·rw [if_pos h]
 ·rw [if_neg h, show q = j + 1 by omega]
theorem join_hi {n q : Nat} (F : Nat → Nat) (j : Nat) : hiK n q (q + j) F ||| F (q + j) % 2 ^ n * 2 ^ (n * j) = hiK n q (q + j + 1) F ∧ loK n q (q + j + 1) F = loK n q (q + j) F := by
 unfold loK hiK
 rw [if_neg (by omega), if_neg (by omega), show q + j - q = j by omega, show q + j + 1 - q = j + 1 by omega]
 refine ⟨?_, rfl⟩
 have := packF_or n j (fun i => F (i + q))
 simp only [Nat.add_comm j q] at this
 exact this
theorem loK_lt {n q k : Nat} (h : n * q = 64) (F : Nat → Nat) : loK n q k F < 18446744073709551616 := by
 unfold loK
 refine Nat.lt_of_lt_of_le (packF_lt n _ F) ?_
 show _ ≤ 2 ^ 64
 refine Nat.pow_le_pow_right (by decide) ?_
 rw [← h]
 exact Nat.mul_le_mul_left _ (by split <;> omega)
theorem hiK_lt {n q k : Nat} (h : n * q = 64) (hk : k ≤ 2 * q) (F : Nat → Nat) : hiK n q k F < 18446744073709551616 := by
 unfold hiK
 refine Nat.lt_of_lt_of_le (packF_lt n _ _) ?_
 show _ ≤ 2 ^ 64
 refine Nat.pow_le_pow_right (by decide) ?_
 rw [← h]
 exact Nat.mul_le_mul_left _ (by omega)
theorem shl_or {x y s : Nat} (hx : x < 18446744073709551616) (hy : y * 2 ^ s < 18446744073709551616) :
  bits .or .u64 (x : Int) (IntKind.u64.wrap ((y : Int) * 2 ^ s)) = ((x ||| y * 2 ^ s : Nat) : Int) := by
 have e : IntKind.u64.wrap ((y : Int) * 2 ^ s) = ((y * 2 ^ s : Nat) : Int) := by
  rw [show ((y : Int) * 2 ^ s) = ((y * 2 ^ s : Nat) : Int) by simp]
  exact wrap_nat hy
 rw [e, bits_or_u64_nat _ _ hx hy]
theorem lane_up {n q : Nat} (h : n * q = 64) (a j : Nat) (hj : j < q) : a % 2 ^ n * 2 ^ (n * j) < 18446744073709551616 := by
 have h1 : a % 2 ^ n < 2 ^ n := Nat.mod_lt _ (Nat.two_pow_pos n)
 calc a % 2 ^ n * 2 ^ (n * j) < 2 ^ n * 2 ^ (n * j) := Nat.mul_lt_mul_of_pos_right h1 (Nat.two_pow_pos _)
  _ = 2 ^ (n * (j + 1)) := by rw [← Nat.pow_add, Nat.mul_add, Nat.mul_one, Nat.add_comm]
  _ ≤ 2 ^ (n * q) := Nat.pow_le_pow_right (by decide) (Nat.mul_le_mul_left _ hj)
  _ = 18446744073709551616 := by rw [h]
theorem div64 {a b h : Nat} (e : a = 64 * h + b) (hb : b < 64) : (a : Int) / 64 = h ∧ (a : Int) % 64 = b := by omega
theorem at_lo {n q k at_ : Nat} (hn : 0 < n) (hq : n * q = 64) (e : at_ = k * n) (hk : k < q) : at_ = 64 * 0 + n * k ∧ n * k < 64 := by
 have h1 : n * k < n * q := Nat.mul_lt_mul_of_pos_left hk hn
 rw [hq] at h1
 rw [e, Nat.mul_comm k n]
 omega
theorem at_hi {n q k at_ : Nat} (hn : 0 < n) (hq : n * q = 64) (e : at_ = k * n) (hk : q ≤ k) (hk2 : k < 2 * q) : at_ = 64 * 1 + n * (k - q) ∧ n * (k - q) < 64 := by
 obtain ⟨j, rfl⟩ : ∃ j, k = q + j := ⟨k - q, by omega⟩
 have h1 : n * j < n * q := Nat.mul_lt_mul_of_pos_left (by omega) hn
 rw [hq] at h1
 rw [e, Nat.mul_comm _ n, Nat.mul_add, hq, Nat.add_sub_cancel_left]
 omega
/-- What a round of Join keeps. -/
def JS (w : World) (F : Nat → Nat) (x y : Nat) (W : World) : Prop :=
 Below w.heap.size w W ∧ CA w.heap.size #[.int .i64 0, .int .u64 0, .int .u64 0, .bool false] 24 W ∧ CA (w.heap.size + 1) #[.int .u64 x, .int .u64 y] 65 W
theorem JS.call {w : World} {F : Nat → Nat} {x y : Nat} {W W' : World} (h : JS w F x y W) (hb : W = W') : JS w F x y W' := hb ▸ h
theorem JS.drew {w : World} {F : Nat → Nat} {x y : Nat} {W : World} (h : JS w F x y W) : JS w F x y W.drew := ⟨h.1.drew, h.2.1, h.2.2⟩
theorem JS.start (w : World) (F : Nat → Nat) : JS w F 0 0 ((w.alloc (.cells #[.int .i64 0, .int .u64 0, .int .u64 0, .bool false] 24)).alloc (.cells #[.int .u64 0, .int .u64 0] 65)) := by
 refine ⟨((Below.refl _ _).alloc (Nat.le_refl _) _).alloc (by simp) _, (CA.new w _ _).alloc _, ?_⟩
 have := CA.new (w.alloc (.cells #[.int .i64 0, .int .u64 0, .int .u64 0, .bool false] 24)) #[.int .u64 0, .int .u64 0] 65
 simpa using this
theorem JS.lo {w : World} {F : Nat → Nat} {x y x' : Nat} {W : World} (h : JS w F x y W) : JS w F x' y (W.setCell ⟨w.heap.size + 1, 0, none⟩ (.int .u64 (x' : Nat))) :=
 ⟨h.1.setCell (Nat.le_succ _) _, h.2.1.far (by omega) _, h.2.2.set _⟩
theorem JS.hi {w : World} {F : Nat → Nat} {x y y' : Nat} {W : World} (h : JS w F x y W) : JS w F x y' (W.setCell ⟨w.heap.size + 1, 1, none⟩ (.int .u64 (y' : Nat))) :=
 ⟨h.1.setCell (Nat.le_succ _) _, h.2.1.far (by omega) _, h.2.2.set _⟩
set_option maxHeartbeats 4000000 in
set_option maxRecDepth 100000 in
theorem Join_says (n : Nat) (hn : Okn n) (v : Value) (F : Nat → Nat) (w : World) (hr : RowAt w v (cnt n) F) (hF : ∀ i, i < cnt n → F i < 18446744073709551616) :
  Calls Tryz.prog 29 #[.int .i64 n, v] w fun e w' => e = .returned (.tuple #[vv 123 (loF n F) (hiF n F) false, .int .i64 0]) ∧ Below w.heap.size w w' := by
 have HC := fun W => hid (lcount_any n hn W)
 have HCU := fun (a : Nat) (ha : a < 18446744073709551616) W => hid (lcut_any n hn a ha W)
 have hc0 : ((cnt n : Nat) : Int) ≠ 0 := by rcases hn.cases with ⟨_, _, h⟩ | ⟨_, _, h⟩ | ⟨_, _, h⟩ | ⟨_, _, h⟩ <;> rw [h] <;> decide
 have hc : (((cnt n : Nat) : Int) == 0) = false := by simpa using hc0
 obtain ⟨g, o, cap, rfl, hg, hcap, hat⟩ := hr
 have hlf : loF n F = loK n (64 / n) (cnt n) F := by unfold loF loK; rw [if_neg]; rcases hn.cases with ⟨_, h, h'⟩ | ⟨_, h, h'⟩ | ⟨_, h, h'⟩ | ⟨_, h, h'⟩ <;> omega
 have hhf : hiF n F = hiK n (64 / n) (cnt n) F := by
  unfold hiF hiK
  have : cnt n - 64 / n = 64 / n := by rcases hn.cases with ⟨_, h, h'⟩ | ⟨_, h, h'⟩ | ⟨_, h, h'⟩ | ⟨_, h, h'⟩ <;> omega
  rw [this]
 obtain ⟨c, hce⟩ : ∃ c, c = cnt n := ⟨_, rfl⟩
 rw [← hce] at hc HC hat hcap hF hlf hhf ⊢
 rw [hlf, hhf]
 have hn8 := hn.le
 have hq : n * (64 / n) = 64 := hn.half
 have hq2 : c = 2 * (64 / n) := by rw [hce]; rcases hn.cases with ⟨_, h, h'⟩ | ⟨_, h, h'⟩ | ⟨_, h, h'⟩ | ⟨_, h, h'⟩ <;> omega
 have hq8 : 64 / n ≤ 8 := by rcases hn.cases with ⟨_, h, _⟩ | ⟨_, h, _⟩ | ⟨_, h, _⟩ | ⟨_, h, _⟩ <;> omega
 obtain ⟨q, hqe⟩ : ∃ q, q = 64 / n := ⟨_, rfl⟩
 rw [← hqe] at hq hq2 hq8 ⊢
 have hc16 : c ≤ 16 := by omega
 have HQ := hid hq
 have HQ2 := hid hq2
 have HAT := hid hat
 have HF := hid hF
 have hz : loK n q 0 F = 0 ∧ hiK n q 0 F = 0 := by
  unfold loK hiK
  refine ⟨?_, by rw [Nat.zero_sub]; rfl⟩
  split
  ·rfl
  ·rw [show q = 0 by omega]; rfl
 have HZ := hid hz
 clear hc0 hce hn hqe hq hq2 hat hF hlf hhf hz
 go_enter Tryz.func29, Tryz.ntmps29
 go_wp2_with (first
  | (go_at_call 52; refine (HC _).out.mono ?_; rintro e w' ⟨rfl, rfl⟩))
 go_loopw [23] (fun vi wr => ∃ k : Nat, k ≤ c ∧ vi = .int .i64 k ∧ Hid (JS w F (loK n q k F) (hiK n q k F) wr)) (fun vi _ => c - (intOf vi).toNat)
 case atStart =>
  refine ⟨0, Nat.zero_le _, rfl, ?_⟩
  rw [HZ.out.1, HZ.out.2]
  exact JS.start w F
 case round =>
  obtain ⟨k, hk, rfl, HJ⟩ := hrel
  have hsz := HJ.out.1.size
  by_cases hlt : k < c
  ·have hck := (HAT.out k hlt).1
   have hcw : wr.cell? ⟨g, o + k, none⟩ = some (.int .u64 (F k : Nat)) := by rw [HJ.out.1.cell (p := ⟨g, o + k, none⟩) hg]; exact hck
   have hFk := HF.out k hlt
   have HU := fun W => HCU (F k) hFk W
   have hkn : k * n ≤ 128 := by
    have h1 : n * k ≤ n * (2 * q) := Nat.mul_le_mul_left _ (by have := HQ2.out; omega)
    have h2 : n * (2 * q) = 128 := by rw [Nat.mul_left_comm, HQ.out]
    rw [Nat.mul_comm]; omega
   obtain ⟨at_, hat_⟩ : ∃ at_ : Nat, at_ = k * n := ⟨_, rfl⟩
   have hw : wrap64 ((k : Int) * (n : Int)) = (at_ : Int) := by
    rw [hat_, ← wrap64_nat' hkn]; simp
   have HA := hid hat_
   clear hck hat_
   by_cases hh : k < q
   ·have hj := join_lo (n := n) F k hh
    have hb := at_lo (show 0 < n by omega) HQ.out HA.out hh
    have hdm := div64 hb.1 hb.2
    have hlo := loK_lt (k := k) HQ.out F
    have hup := lane_up HQ.out (F k) k hh
    have hor := shl_or hlo hup
    rw [hj.1] at hor
    have HJ2 := hid hj.2
    have hd : (at_ : Int) / 64 = 0 := hdm.1
    have hm : (at_ : Int).tmod 64 = ((n * k : Nat) : Int) := by rw [Int.tmod_eq_emod_of_nonneg (Int.natCast_nonneg _)]; exact hdm.2
    have hmin : min (n * k) 64 = n * k := Nat.min_eq_left (Nat.le_of_lt hb.2)
    have hwz : IntKind.i64.wrap 0 = 0 := by kernel_rfl
    have HLT := hid hlt
    obtain ⟨j, hje⟩ : ∃ j, j = n * k := ⟨_, rfl⟩
    obtain ⟨x, hx⟩ : ∃ x, x = loK n q k F := ⟨_, rfl⟩
    obtain ⟨y, hy⟩ : ∃ y, y = hiK n q k F := ⟨_, rfl⟩
    obtain ⟨x', hx'⟩ : ∃ x', x' = loK n q (k + 1) F := ⟨_, rfl⟩
    obtain ⟨z, hz⟩ : ∃ z, z = F k % 2 ^ n := ⟨_, rfl⟩
    rw [← hje] at hm hor hmin
    rw [← hx] at hor HJ
    rw [← hy] at HJ HJ2
    rw [← hx'] at hor
    rw [← hz] at hor HU
    have HX := hid hx'
    clear hj hb hdm hlo hup hje hx hy hx' hz hlt
    go_upto_region 8 with fail
    rw [show ((k : Int) * (n : Int)) = (at_ : Int) by rw [HA.out]; simp]
    have HJW := HJ.out.drew
    have hS := HJW.1
    refine wp_region_held_drew (S := Below w.heap.size w) (by kernel_rfl) hS (fun _ => ?_)
    generalize wr.drew = W at *
    refine wpAnyH_take (oi := ⟨_, _, _, _, _, _⟩) (i := 0) (v := .int .i64 at_) rfl (by kernel_rfl) (by kernel_rfl) (by kernel_rfl) (fun _ _ _ h => h) (Or.inl ⟨by rfl, ?_⟩) (by assumption) ?_
    ·(intro W hSw; skip; go_simp; try (with_reducible rfl))
    try simp only [Act.put, List.setIfInBounds_toArray, List.set_cons_zero, List.set_cons_succ]
    refine wpAnyH_take (oi := ⟨_, _, _, _, _, _⟩) (i := 1) (v := .int .i64 0) rfl (by kernel_rfl) (by kernel_rfl) (by kernel_rfl) (fun _ _ _ h => h) (Or.inl ⟨by rfl, ?_⟩) (by assumption) ?_
    ·(intro W hSw; skip; go_simp; try (with_reducible rfl))
    try simp only [Act.put, List.setIfInBounds_toArray, List.set_cons_zero, List.set_cons_succ]
    refine wpAnyH_take (oi := ⟨_, _, _, _, _, _⟩) (i := 2) (v := .pointer (some ⟨w.heap.size + 1, 0, none⟩)) rfl (by kernel_rfl) (by kernel_rfl) (by kernel_rfl) (fun _ _ _ h => h) (Or.inl ⟨by rfl, ?_⟩) (by assumption) ?_
    ·(intro W hSw; skip; go_simp; try (with_reducible rfl))
    try simp only [Act.put, List.setIfInBounds_toArray, List.set_cons_zero, List.set_cons_succ]
    refine wpAnyH_take (oi := ⟨_, _, _, _, _, _⟩) (i := 4) (v := .int .i64 n) rfl (by kernel_rfl) (by kernel_rfl) (by kernel_rfl) (fun _ _ _ h => h) (Or.inl ⟨by rfl, ?_⟩) (by assumption) ?_
    ·(intro W hSw; skip; go_simp; try (with_reducible rfl))
    try simp only [Act.put, List.setIfInBounds_toArray, List.set_cons_zero, List.set_cons_succ]
    refine wpAnyH_take (oi := ⟨_, _, _, _, _, _⟩) (i := 5) (v := .int .u64 (F k : Nat)) rfl (by kernel_rfl) (by kernel_rfl) (by kernel_rfl) (fun _ _ _ h => h) (Or.inl ⟨by rfl, ?_⟩) (by assumption) ?_
    ·(intro W hSw; skip; go_simp; try (with_reducible rfl))
    try simp only [Act.put, List.setIfInBounds_toArray, List.set_cons_zero, List.set_cons_succ]
    refine wpAnyH_take (oi := ⟨_, _, _, _, _, _⟩) (i := 7) (v := .int .i64 at_) rfl (by kernel_rfl) (by kernel_rfl) (by kernel_rfl) (fun _ _ _ h => h) (Or.inl ⟨by rfl, ?_⟩) (by assumption) ?_
    ·(intro W hSw; skip; go_simp; try (with_reducible rfl))
    try simp only [Act.put, List.setIfInBounds_toArray, List.set_cons_zero, List.set_cons_succ]
    refine wpAnyH_take (oi := ⟨_, _, _, _, _, _⟩) (i := 8) (v := .int .i64 (j : Int)) rfl (by kernel_rfl) (by kernel_rfl) (by kernel_rfl) (fun _ _ _ h => h) (Or.inl ⟨by rfl, ?_⟩) (by assumption) ?_
    ·(intro W hSw; skip; go_simp; try (with_reducible rfl))
    try simp only [Act.put, List.setIfInBounds_toArray, List.set_cons_zero, List.set_cons_succ]
    refine wpAnyH_ready (rs := [3, 6]) (by kernel_rfl) (by simp) ?_
    refine AllReadyH.cons (o := ⟨_, _, _, _, _, _⟩) rfl (fun K hK => ?_) ?_
    ·have z0 := HJW.2.2.at (k := 0) rfl
     have z1 := HJW.2.2.at (k := 1) rfl
     simp only [List.getElem_toArray, List.getElem_cons_zero, List.getElem_cons_succ] at z0 z1
     go_simp
     clear z0 z1
     refine hK.out _ _ hS (fun _ => ?_)
     clear hK K
     try simp only [Act.put, List.setIfInBounds_toArray, List.set_cons_zero, List.set_cons_succ]
     refine wpAnyH_ready (rs := [6]) (by kernel_rfl) (by simp) ?_
     refine AllReadyH.cons (o := ⟨_, _, _, _, _, _⟩) rfl (fun K hK => ?_) ?_
     ·go_simp
      go_at_call 35
      (with_reducible refine (HU _).out.mono ?_)
      rintro e W1 ⟨rfl, hb⟩
      replace hS : Below w.heap.size w W1 := hb ▸ hS
      replace HJW := JS.call HJW hb
      clear hb
      refine hK.out _ _ hS (fun _ => ?_)
      clear hK K
      try simp only [Act.put, List.setIfInBounds_toArray, List.set_cons_zero, List.set_cons_succ]
      refine wpAnyH_take (oi := ⟨_, _, _, _, _, _⟩) (i := 9) (v := .int .u64 (IntKind.u64.wrap ((z : Int) * 2 ^ j))) rfl (by kernel_rfl) (by kernel_rfl) (by kernel_rfl) (fun _ _ _ h => h) (Or.inl ⟨by rfl, ?_⟩) (by assumption) ?_
      ·(intro W hSw; skip; go_simp; try (with_reducible rfl))
      try simp only [Act.put, List.setIfInBounds_toArray, List.set_cons_zero, List.set_cons_succ]
      refine wpAnyH_take (oi := ⟨_, _, _, _, _, _⟩) (i := 10) (v := .int .u64 (x' : Nat)) rfl (by kernel_rfl) (by kernel_rfl) (by kernel_rfl) (fun _ _ _ h => h) (Or.inl ⟨by rfl, ?_⟩) (by assumption) ?_
      ·(intro W hSw; skip; go_simp; try (with_reducible rfl))
      try simp only [Act.put, List.setIfInBounds_toArray, List.set_cons_zero, List.set_cons_succ]
      refine wpAnyH_take (oi := ⟨_, _, _, _, _, _⟩) (i := 11) (v := .pointer (some ⟨w.heap.size + 1, 0, none⟩)) rfl (by kernel_rfl) (by kernel_rfl) (by kernel_rfl) (fun _ _ _ h => h) (Or.inl ⟨by rfl, ?_⟩) (by assumption) ?_
      ·(intro W hSw; skip; go_simp; try (with_reducible rfl))
      try simp only [Act.put, List.setIfInBounds_toArray, List.set_cons_zero, List.set_cons_succ]
      refine wpAnyH_ready (rs := [12]) (by kernel_rfl) (by simp) ?_
      refine AllReadyH.cons (o := ⟨_, _, _, _, _, _⟩) rfl (fun K hK => ?_) ?_
      ·have z0 := HJW.2.2.at (k := 0) rfl
       have z1 := HJW.2.2.at (k := 1) rfl
       have z2 := HJW.2.2.free 0
       have z3 := HJW.2.2.free 1
       simp only [List.getElem_toArray, List.getElem_cons_zero, List.getElem_cons_succ] at z0 z1
       go_simp
       clear z0 z1 z2 z3
       replace HJW := JS.lo (x' := x') HJW
       refine hK.out _ _ HJW.1 (fun _ => ?_)
       clear hK K
       try simp only [Act.put, List.setIfInBounds_toArray, List.set_cons_zero, List.set_cons_succ]
       refine wpAnyH_done (by kernel_rfl) ?_ _
       go_wp2_with fail
       go_roundw
       case rel => exact ⟨k + 1, HLT.out, by go_num, by rw [← HX.out, HJ2.out]; exact HJW⟩
       case measure => (simp [intOf]; have := HLT.out; omega)
      exact AllReadyH.nil
     exact AllReadyH.nil
    refine AllReadyH.cons (o := ⟨_, _, _, _, _, _⟩) rfl (fun K hK => ?_) ?_
    ·go_simp
     go_at_call 35
     (with_reducible refine (HU _).out.mono ?_)
     rintro e W1 ⟨rfl, hb⟩
     replace hS : Below w.heap.size w W1 := hb ▸ hS
     replace HJW := JS.call HJW hb
     clear hb
     refine hK.out _ _ hS (fun _ => ?_)
     clear hK K
     try simp only [Act.put, List.setIfInBounds_toArray, List.set_cons_zero, List.set_cons_succ]
     refine wpAnyH_take (oi := ⟨_, _, _, _, _, _⟩) (i := 9) (v := .int .u64 (IntKind.u64.wrap ((z : Int) * 2 ^ j))) rfl (by kernel_rfl) (by kernel_rfl) (by kernel_rfl) (fun _ _ _ h => h) (Or.inl ⟨by rfl, ?_⟩) (by assumption) ?_
     ·(intro W hSw; skip; go_simp; try (with_reducible rfl))
     try simp only [Act.put, List.setIfInBounds_toArray, List.set_cons_zero, List.set_cons_succ]
     refine wpAnyH_ready (rs := [3]) (by kernel_rfl) (by simp) ?_
     refine AllReadyH.cons (o := ⟨_, _, _, _, _, _⟩) rfl (fun K hK => ?_) ?_
     ·have z0 := HJW.2.2.at (k := 0) rfl
      have z1 := HJW.2.2.at (k := 1) rfl
      simp only [List.getElem_toArray, List.getElem_cons_zero, List.getElem_cons_succ] at z0 z1
      go_simp
      clear z0 z1
      refine hK.out _ _ hS (fun _ => ?_)
      clear hK K
      try simp only [Act.put, List.setIfInBounds_toArray, List.set_cons_zero, List.set_cons_succ]
      refine wpAnyH_take (oi := ⟨_, _, _, _, _, _⟩) (i := 10) (v := .int .u64 (x' : Nat)) rfl (by kernel_rfl) (by kernel_rfl) (by kernel_rfl) (fun _ _ _ h => h) (Or.inl ⟨by rfl, ?_⟩) (by assumption) ?_
      ·(intro W hSw; skip; go_simp; try (with_reducible rfl))
      try simp only [Act.put, List.setIfInBounds_toArray, List.set_cons_zero, List.set_cons_succ]
      refine wpAnyH_take (oi := ⟨_, _, _, _, _, _⟩) (i := 11) (v := .pointer (some ⟨w.heap.size + 1, 0, none⟩)) rfl (by kernel_rfl) (by kernel_rfl) (by kernel_rfl) (fun _ _ _ h => h) (Or.inl ⟨by rfl, ?_⟩) (by assumption) ?_
      ·(intro W hSw; skip; go_simp; try (with_reducible rfl))
      try simp only [Act.put, List.setIfInBounds_toArray, List.set_cons_zero, List.set_cons_succ]
      refine wpAnyH_ready (rs := [12]) (by kernel_rfl) (by simp) ?_
      refine AllReadyH.cons (o := ⟨_, _, _, _, _, _⟩) rfl (fun K hK => ?_) ?_
      ·have z0 := HJW.2.2.at (k := 0) rfl
       have z1 := HJW.2.2.at (k := 1) rfl
       have z2 := HJW.2.2.free 0
       have z3 := HJW.2.2.free 1
       simp only [List.getElem_toArray, List.getElem_cons_zero, List.getElem_cons_succ] at z0 z1
       go_simp
       clear z0 z1 z2 z3
       replace HJW := JS.lo (x' := x') HJW
       refine hK.out _ _ HJW.1 (fun _ => ?_)
       clear hK K
       try simp only [Act.put, List.setIfInBounds_toArray, List.set_cons_zero, List.set_cons_succ]
       refine wpAnyH_done (by kernel_rfl) ?_ _
       go_wp2_with fail
       go_roundw
       case rel => exact ⟨k + 1, HLT.out, by go_num, by rw [← HX.out, HJ2.out]; exact HJW⟩
       case measure => (simp [intOf]; have := HLT.out; omega)
      exact AllReadyH.nil
     exact AllReadyH.nil
    exact AllReadyH.nil
   ·have hj := join_hi (n := n) (q := q) F (k - q)
    have hb := at_hi (show 0 < n by omega) HQ.out HA.out (by omega) (by have := HQ2.out; omega)
    rw [show q + (k - q) = k by omega] at hj
    have hdm := div64 hb.1 hb.2
    have hlo := hiK_lt (k := k) HQ.out (by have := HQ2.out; omega) F
    have hup := lane_up HQ.out (F k) (k - q) (by have := HQ2.out; omega)
    have hor := shl_or hlo hup
    rw [hj.1] at hor
    have HJ2 := hid hj.2
    have hd : (at_ : Int) / 64 = 1 := hdm.1
    have hm : (at_ : Int).tmod 64 = ((n * (k - q) : Nat) : Int) := by rw [Int.tmod_eq_emod_of_nonneg (Int.natCast_nonneg _)]; exact hdm.2
    have hmin : min (n * (k - q)) 64 = n * (k - q) := Nat.min_eq_left (Nat.le_of_lt hb.2)
    have hwz : IntKind.i64.wrap 1 = 1 := by kernel_rfl
    have HLT := hid hlt
    obtain ⟨j, hje⟩ : ∃ j, j = n * (k - q) := ⟨_, rfl⟩
    obtain ⟨x, hx⟩ : ∃ x, x = loK n q k F := ⟨_, rfl⟩
    obtain ⟨y, hy⟩ : ∃ y, y = hiK n q k F := ⟨_, rfl⟩
    obtain ⟨x', hx'⟩ : ∃ x', x' = hiK n q (k + 1) F := ⟨_, rfl⟩
    obtain ⟨z, hz⟩ : ∃ z, z = F k % 2 ^ n := ⟨_, rfl⟩
    rw [← hje] at hm hor hmin
    rw [← hx] at HJ HJ2
    rw [← hy] at hor HJ
    rw [← hx'] at hor
    rw [← hz] at hor HU
    have HX := hid hx'
    clear hj hb hdm hlo hup hje hx hy hx' hz hlt
    go_upto_region 8 with fail
    rw [show ((k : Int) * (n : Int)) = (at_ : Int) by rw [HA.out]; simp]
    have HJW := HJ.out.drew
    have hS := HJW.1
    refine wp_region_held_drew (S := Below w.heap.size w) (by kernel_rfl) hS (fun _ => ?_)
    generalize wr.drew = W at *
    refine wpAnyH_take (oi := ⟨_, _, _, _, _, _⟩) (i := 0) (v := .int .i64 at_) rfl (by kernel_rfl) (by kernel_rfl) (by kernel_rfl) (fun _ _ _ h => h) (Or.inl ⟨by rfl, ?_⟩) (by assumption) ?_
    ·(intro W hSw; skip; go_simp; try (with_reducible rfl))
    try simp only [Act.put, List.setIfInBounds_toArray, List.set_cons_zero, List.set_cons_succ]
    refine wpAnyH_take (oi := ⟨_, _, _, _, _, _⟩) (i := 1) (v := .int .i64 1) rfl (by kernel_rfl) (by kernel_rfl) (by kernel_rfl) (fun _ _ _ h => h) (Or.inl ⟨by rfl, ?_⟩) (by assumption) ?_
    ·(intro W hSw; skip; go_simp; try (with_reducible rfl))
    try simp only [Act.put, List.setIfInBounds_toArray, List.set_cons_zero, List.set_cons_succ]
    refine wpAnyH_take (oi := ⟨_, _, _, _, _, _⟩) (i := 2) (v := .pointer (some ⟨w.heap.size + 1, 1, none⟩)) rfl (by kernel_rfl) (by kernel_rfl) (by kernel_rfl) (fun _ _ _ h => h) (Or.inl ⟨by rfl, ?_⟩) (by assumption) ?_
    ·(intro W hSw; skip; go_simp; try (with_reducible rfl))
    try simp only [Act.put, List.setIfInBounds_toArray, List.set_cons_zero, List.set_cons_succ]
    refine wpAnyH_take (oi := ⟨_, _, _, _, _, _⟩) (i := 4) (v := .int .i64 n) rfl (by kernel_rfl) (by kernel_rfl) (by kernel_rfl) (fun _ _ _ h => h) (Or.inl ⟨by rfl, ?_⟩) (by assumption) ?_
    ·(intro W hSw; skip; go_simp; try (with_reducible rfl))
    try simp only [Act.put, List.setIfInBounds_toArray, List.set_cons_zero, List.set_cons_succ]
    refine wpAnyH_take (oi := ⟨_, _, _, _, _, _⟩) (i := 5) (v := .int .u64 (F k : Nat)) rfl (by kernel_rfl) (by kernel_rfl) (by kernel_rfl) (fun _ _ _ h => h) (Or.inl ⟨by rfl, ?_⟩) (by assumption) ?_
    ·(intro W hSw; skip; go_simp; try (with_reducible rfl))
    try simp only [Act.put, List.setIfInBounds_toArray, List.set_cons_zero, List.set_cons_succ]
    refine wpAnyH_take (oi := ⟨_, _, _, _, _, _⟩) (i := 7) (v := .int .i64 at_) rfl (by kernel_rfl) (by kernel_rfl) (by kernel_rfl) (fun _ _ _ h => h) (Or.inl ⟨by rfl, ?_⟩) (by assumption) ?_
    ·(intro W hSw; skip; go_simp; try (with_reducible rfl))
    try simp only [Act.put, List.setIfInBounds_toArray, List.set_cons_zero, List.set_cons_succ]
    refine wpAnyH_take (oi := ⟨_, _, _, _, _, _⟩) (i := 8) (v := .int .i64 (j : Int)) rfl (by kernel_rfl) (by kernel_rfl) (by kernel_rfl) (fun _ _ _ h => h) (Or.inl ⟨by rfl, ?_⟩) (by assumption) ?_
    ·(intro W hSw; skip; go_simp; try (with_reducible rfl))
    try simp only [Act.put, List.setIfInBounds_toArray, List.set_cons_zero, List.set_cons_succ]
    refine wpAnyH_ready (rs := [3, 6]) (by kernel_rfl) (by simp) ?_
    refine AllReadyH.cons (o := ⟨_, _, _, _, _, _⟩) rfl (fun K hK => ?_) ?_
    ·have z0 := HJW.2.2.at (k := 0) rfl
     have z1 := HJW.2.2.at (k := 1) rfl
     simp only [List.getElem_toArray, List.getElem_cons_zero, List.getElem_cons_succ] at z0 z1
     go_simp
     clear z0 z1
     refine hK.out _ _ hS (fun _ => ?_)
     clear hK K
     try simp only [Act.put, List.setIfInBounds_toArray, List.set_cons_zero, List.set_cons_succ]
     refine wpAnyH_ready (rs := [6]) (by kernel_rfl) (by simp) ?_
     refine AllReadyH.cons (o := ⟨_, _, _, _, _, _⟩) rfl (fun K hK => ?_) ?_
     ·go_simp
      go_at_call 35
      (with_reducible refine (HU _).out.mono ?_)
      rintro e W1 ⟨rfl, hb⟩
      replace hS : Below w.heap.size w W1 := hb ▸ hS
      replace HJW := JS.call HJW hb
      clear hb
      refine hK.out _ _ hS (fun _ => ?_)
      clear hK K
      try simp only [Act.put, List.setIfInBounds_toArray, List.set_cons_zero, List.set_cons_succ]
      refine wpAnyH_take (oi := ⟨_, _, _, _, _, _⟩) (i := 9) (v := .int .u64 (IntKind.u64.wrap ((z : Int) * 2 ^ j))) rfl (by kernel_rfl) (by kernel_rfl) (by kernel_rfl) (fun _ _ _ h => h) (Or.inl ⟨by rfl, ?_⟩) (by assumption) ?_
      ·(intro W hSw; skip; go_simp; try (with_reducible rfl))
      try simp only [Act.put, List.setIfInBounds_toArray, List.set_cons_zero, List.set_cons_succ]
      refine wpAnyH_take (oi := ⟨_, _, _, _, _, _⟩) (i := 10) (v := .int .u64 (x' : Nat)) rfl (by kernel_rfl) (by kernel_rfl) (by kernel_rfl) (fun _ _ _ h => h) (Or.inl ⟨by rfl, ?_⟩) (by assumption) ?_
      ·(intro W hSw; skip; go_simp; try (with_reducible rfl))
      try simp only [Act.put, List.setIfInBounds_toArray, List.set_cons_zero, List.set_cons_succ]
      refine wpAnyH_take (oi := ⟨_, _, _, _, _, _⟩) (i := 11) (v := .pointer (some ⟨w.heap.size + 1, 1, none⟩)) rfl (by kernel_rfl) (by kernel_rfl) (by kernel_rfl) (fun _ _ _ h => h) (Or.inl ⟨by rfl, ?_⟩) (by assumption) ?_
      ·(intro W hSw; skip; go_simp; try (with_reducible rfl))
      try simp only [Act.put, List.setIfInBounds_toArray, List.set_cons_zero, List.set_cons_succ]
      refine wpAnyH_ready (rs := [12]) (by kernel_rfl) (by simp) ?_
      refine AllReadyH.cons (o := ⟨_, _, _, _, _, _⟩) rfl (fun K hK => ?_) ?_
      ·have z0 := HJW.2.2.at (k := 0) rfl
       have z1 := HJW.2.2.at (k := 1) rfl
       have z2 := HJW.2.2.free 0
       have z3 := HJW.2.2.free 1
       simp only [List.getElem_toArray, List.getElem_cons_zero, List.getElem_cons_succ] at z0 z1
       go_simp
       clear z0 z1 z2 z3
       replace HJW := JS.hi (y' := x') HJW
       refine hK.out _ _ HJW.1 (fun _ => ?_)
       clear hK K
       try simp only [Act.put, List.setIfInBounds_toArray, List.set_cons_zero, List.set_cons_succ]
       refine wpAnyH_done (by kernel_rfl) ?_ _
       go_wp2_with fail
       go_roundw
       case rel => exact ⟨k + 1, HLT.out, by go_num, by rw [← HX.out, HJ2.out]; exact HJW⟩
       case measure => (simp [intOf]; have := HLT.out; omega)
      exact AllReadyH.nil
     exact AllReadyH.nil
    refine AllReadyH.cons (o := ⟨_, _, _, _, _, _⟩) rfl (fun K hK => ?_) ?_
    ·go_simp
     go_at_call 35
     (with_reducible refine (HU _).out.mono ?_)
     rintro e W1 ⟨rfl, hb⟩
     replace hS : Below w.heap.size w W1 := hb ▸ hS
     replace HJW := JS.call HJW hb
     clear hb
     refine hK.out _ _ hS (fun _ => ?_)
     clear hK K
     try simp only [Act.put, List.setIfInBounds_toArray, List.set_cons_zero, List.set_cons_succ]
     refine wpAnyH_take (oi := ⟨_, _, _, _, _, _⟩) (i := 9) (v := .int .u64 (IntKind.u64.wrap ((z : Int) * 2 ^ j))) rfl (by kernel_rfl) (by kernel_rfl) (by kernel_rfl) (fun _ _ _ h => h) (Or.inl ⟨by rfl, ?_⟩) (by assumption) ?_
     ·(intro W hSw; skip; go_simp; try (with_reducible rfl))
     try simp only [Act.put, List.setIfInBounds_toArray, List.set_cons_zero, List.set_cons_succ]
     refine wpAnyH_ready (rs := [3]) (by kernel_rfl) (by simp) ?_
     refine AllReadyH.cons (o := ⟨_, _, _, _, _, _⟩) rfl (fun K hK => ?_) ?_
     ·have z0 := HJW.2.2.at (k := 0) rfl
      have z1 := HJW.2.2.at (k := 1) rfl
      simp only [List.getElem_toArray, List.getElem_cons_zero, List.getElem_cons_succ] at z0 z1
      go_simp
      clear z0 z1
      refine hK.out _ _ hS (fun _ => ?_)
      clear hK K
      try simp only [Act.put, List.setIfInBounds_toArray, List.set_cons_zero, List.set_cons_succ]
      refine wpAnyH_take (oi := ⟨_, _, _, _, _, _⟩) (i := 10) (v := .int .u64 (x' : Nat)) rfl (by kernel_rfl) (by kernel_rfl) (by kernel_rfl) (fun _ _ _ h => h) (Or.inl ⟨by rfl, ?_⟩) (by assumption) ?_
      ·(intro W hSw; skip; go_simp; try (with_reducible rfl))
      try simp only [Act.put, List.setIfInBounds_toArray, List.set_cons_zero, List.set_cons_succ]
      refine wpAnyH_take (oi := ⟨_, _, _, _, _, _⟩) (i := 11) (v := .pointer (some ⟨w.heap.size + 1, 1, none⟩)) rfl (by kernel_rfl) (by kernel_rfl) (by kernel_rfl) (fun _ _ _ h => h) (Or.inl ⟨by rfl, ?_⟩) (by assumption) ?_
      ·(intro W hSw; skip; go_simp; try (with_reducible rfl))
      try simp only [Act.put, List.setIfInBounds_toArray, List.set_cons_zero, List.set_cons_succ]
      refine wpAnyH_ready (rs := [12]) (by kernel_rfl) (by simp) ?_
      refine AllReadyH.cons (o := ⟨_, _, _, _, _, _⟩) rfl (fun K hK => ?_) ?_
      ·have z0 := HJW.2.2.at (k := 0) rfl
       have z1 := HJW.2.2.at (k := 1) rfl
       have z2 := HJW.2.2.free 0
       have z3 := HJW.2.2.free 1
       simp only [List.getElem_toArray, List.getElem_cons_zero, List.getElem_cons_succ] at z0 z1
       go_simp
       clear z0 z1 z2 z3
       replace HJW := JS.hi (y' := x') HJW
       refine hK.out _ _ HJW.1 (fun _ => ?_)
       clear hK K
       try simp only [Act.put, List.setIfInBounds_toArray, List.set_cons_zero, List.set_cons_succ]
       refine wpAnyH_done (by kernel_rfl) ?_ _
       go_wp2_with fail
       go_roundw
       case rel => exact ⟨k + 1, HLT.out, by go_num, by rw [← HX.out, HJ2.out]; exact HJW⟩
       case measure => (simp [intOf]; have := HLT.out; omega)
      exact AllReadyH.nil
     exact AllReadyH.nil
    exact AllReadyH.nil
  ·obtain rfl : k = c := by omega
   obtain ⟨hB, hR, hH⟩ := HJ.out
   have h0 := hH.at (k := 0) rfl
   have h1 := hH.at (k := 1) rfl
   have r0 := hR.at (k := 0) rfl
   have r1 := hR.at (k := 1) rfl
   have r2 := hR.at (k := 2) rfl
   have r3 := hR.at (k := 3) rfl
   have f0 := hR.free 0
   have f1 := hR.free 1
   have f2 := hR.free 2
   have f3 := hR.free 3
   simp only [List.getElem_toArray, List.getElem_cons_zero, List.getElem_cons_succ] at h0 h1 r0 r1 r2 r3
   go_wp2
   refine bodyPost_ret (v := .tuple #[vv 123 (loK n q k F) (hiK n q k F) false, .int .i64 0]) ?_ rfl ⟨rfl, (((hB.setCell (p := ⟨w.heap.size, 0, none⟩) (Nat.le_refl _) _).setCell (p := ⟨w.heap.size, 1, none⟩) (Nat.le_refl _) _).setCell (p := ⟨w.heap.size, 2, none⟩) (Nat.le_refl _) _).setCell (p := ⟨w.heap.size, 3, none⟩) (Nat.le_refl _) _⟩
   simp [results, Tryz.results29, go_sem, vv, r0, r1, r2, r3]
end Go.Proofs.YtlhakbkdlgejpaaGreatDoor
