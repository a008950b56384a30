/-
  LJoin, LDo: merged, what the law does not reach left out (each text says what it holds where it lies in wip). No condition.
-/
import Derived.Test.YtlhakbkdlgejpaaGreatDoorH03
import Derived.Deep.DeepCutAuto
import Derived.Deep.RegionHeld3
import Derived.Test.YtlhakbkdlgejpaaGreatDoorH10
set_option linter.unusedSimpArgs false
set_option linter.unusedVariables false
set_option maxRecDepth 100000
namespace Go.Proofs.YtlhakbkdlgejpaaGreatDoor
open Go.RowKit
def loK (n q k : Nat) (F : Nat → Nat) : Nat := packF n (if k < q then k else q) F
def hiK (n q k : Nat) (F : Nat → Nat) : Nat := packF n (k - q) (fun i => F (i + q))
theorem join_lo {n q : Nat} (F : Nat → Nat) (j : Nat) (hj : j < q) : loK n q j F ||| F j % 2 ^ n * 2 ^ (n * j) = loK n q (j + 1) F ∧ hiK n q (j + 1) F = hiK n q j F := by
  unfold loK hiK
  rw [if_pos hj, show j - q = 0 by omega, show j + 1 - q = 0 by omega, packF_or]
  refine ⟨?_, rfl⟩
  by_cases h : j + 1 < q
  · rw [if_pos h]
  · rw [if_neg h, show q = j + 1 by omega]
theorem join_hi {n q : Nat} (F : Nat → Nat) (j : Nat) : hiK n q (q + j) F ||| F (q + j) % 2 ^ n * 2 ^ (n * j) = hiK n q (q + j + 1) F ∧ loK n q (q + j + 1) F = loK n q (q + j) F := by
  unfold loK hiK
  rw [if_neg (by omega), if_neg (by omega), show q + j - q = j by omega, show q + j + 1 - q = j + 1 by omega]
  refine ⟨?_, rfl⟩
  have := packF_or n j (fun i => F (i + q))
  simp only [Nat.add_comm j q] at this
  exact this
theorem loK_lt {n q k : Nat} (h : n * q = 64) (F : Nat → Nat) : loK n q k F < 18446744073709551616 := by
  unfold loK
  refine Nat.lt_of_lt_of_le (packF_lt n _ F) ?_
  show _ ≤ 2 ^ 64
  refine Nat.pow_le_pow_right (by decide) ?_
  rw [← h]
  exact Nat.mul_le_mul_left _ (by split <;> omega)
theorem hiK_lt {n q k : Nat} (h : n * q = 64) (hk : k ≤ 2 * q) (F : Nat → Nat) : hiK n q k F < 18446744073709551616 := by
  unfold hiK
  refine Nat.lt_of_lt_of_le (packF_lt n _ _) ?_
  show _ ≤ 2 ^ 64
  refine Nat.pow_le_pow_right (by decide) ?_
  rw [← h]
  exact Nat.mul_le_mul_left _ (by omega)
theorem shl_or {x y s : Nat} (hx : x < 18446744073709551616) (hy : y * 2 ^ s < 18446744073709551616) :
    bits .or .u64 (x : Int) (IntKind.u64.wrap ((y : Int) * 2 ^ s)) = ((x ||| y * 2 ^ s : Nat) : Int) := by
  have e : IntKind.u64.wrap ((y : Int) * 2 ^ s) = ((y * 2 ^ s : Nat) : Int) := by
    rw [show ((y : Int) * 2 ^ s) = ((y * 2 ^ s : Nat) : Int) by simp]
    exact wrap_nat hy
  rw [e, bits_or_u64_nat _ _ hx hy]
theorem lane_up {n q : Nat} (h : n * q = 64) (a j : Nat) (hj : j < q) : a % 2 ^ n * 2 ^ (n * j) < 18446744073709551616 := by
  have h1 : a % 2 ^ n < 2 ^ n := Nat.mod_lt _ (Nat.two_pow_pos n)
  calc a % 2 ^ n * 2 ^ (n * j) < 2 ^ n * 2 ^ (n * j) := Nat.mul_lt_mul_of_pos_right h1 (Nat.two_pow_pos _)
    _ = 2 ^ (n * (j + 1)) := by rw [← Nat.pow_add, Nat.mul_add, Nat.mul_one, Nat.add_comm]
    _ ≤ 2 ^ (n * q) := Nat.pow_le_pow_right (by decide) (Nat.mul_le_mul_left _ hj)
    _ = 18446744073709551616 := by rw [h]
theorem div64 {a b h : Nat} (e : a = 64 * h + b) (hb : b < 64) : (a : Int) / 64 = h ∧ (a : Int) % 64 = b := by omega
theorem at_lo {n q k at_ : Nat} (hn : 0 < n) (hq : n * q = 64) (e : at_ = k * n) (hk : k < q) : at_ = 64 * 0 + n * k ∧ n * k < 64 := by
  have h1 : n * k < n * q := Nat.mul_lt_mul_of_pos_left hk hn
  rw [hq] at h1
  rw [e, Nat.mul_comm k n]
  omega
theorem at_hi {n q k at_ : Nat} (hn : 0 < n) (hq : n * q = 64) (e : at_ = k * n) (hk : q ≤ k) (hk2 : k < 2 * q) : at_ = 64 * 1 + n * (k - q) ∧ n * (k - q) < 64 := by
  obtain ⟨j, rfl⟩ : ∃ j, k = q + j := ⟨k - q, by omega⟩
  have h1 : n * j < n * q := Nat.mul_lt_mul_of_pos_left (by omega) hn
  rw [hq] at h1
  rw [e, Nat.mul_comm _ n, Nat.mul_add, hq, Nat.add_sub_cancel_left]
  omega
/-- What a round of Join keeps. -/
def JS (w : World) (F : Nat → Nat) (x y : Nat) (W : World) : Prop :=
  Below w.heap.size w W ∧ CA w.heap.size #[.int .i64 0, .int .u64 0, .int .u64 0, .bool false] 24 W ∧ CA (w.heap.size + 1) #[.int .u64 x, .int .u64 y] 65 W
theorem JS.call {w : World} {F : Nat → Nat} {x y : Nat} {W W' : World} (h : JS w F x y W) (hb : W = W') : JS w F x y W' := hb ▸ h
theorem JS.drew {w : World} {F : Nat → Nat} {x y : Nat} {W : World} (h : JS w F x y W) : JS w F x y W.drew := ⟨h.1.drew, h.2.1, h.2.2⟩
theorem JS.start (w : World) (F : Nat → Nat) : JS w F 0 0 ((w.alloc (.cells #[.int .i64 0, .int .u64 0, .int .u64 0, .bool false] 24)).alloc (.cells #[.int .u64 0, .int .u64 0] 65)) := by
  refine ⟨((Below.refl _ _).alloc (Nat.le_refl _) _).alloc (by simp) _, (CA.new w _ _).alloc _, ?_⟩
  have := CA.new (w.alloc (.cells #[.int .i64 0, .int .u64 0, .int .u64 0, .bool false] 24)) #[.int .u64 0, .int .u64 0] 65
  simpa using this
theorem JS.lo {w : World} {F : Nat → Nat} {x y x' : Nat} {W : World} (h : JS w F x y W) : JS w F x' y (W.setCell ⟨w.heap.size + 1, 0, none⟩ (.int .u64 (x' : Nat))) :=
  ⟨h.1.setCell (Nat.le_succ _) _, h.2.1.far (by omega) _, h.2.2.set _⟩
theorem JS.hi {w : World} {F : Nat → Nat} {x y y' : Nat} {W : World} (h : JS w F x y W) : JS w F x y' (W.setCell ⟨w.heap.size + 1, 1, none⟩ (.int .u64 (y' : Nat))) :=
  ⟨h.1.setCell (Nat.le_succ _) _, h.2.1.far (by omega) _, h.2.2.set _⟩
set_option maxHeartbeats 4000000 in
set_option maxRecDepth 100000 in
theorem Join_says (n : Nat) (hn : Okn n) (v : Value) (F : Nat → Nat) (w : World) (hr : RowAt w v (cnt n) F) (hF : ∀ i, i < cnt n → F i < 18446744073709551616) :
    Calls Tryz.prog 29 #[.int .i64 n, v] w fun e w' => e = .returned (.tuple #[vv 123 (loF n F) (hiF n F) false, .int .i64 0]) ∧ Below w.heap.size w w' := by
  have HC := fun W => hid (lcount_any n hn W)
  have HCU := fun (a : Nat) (ha : a < 18446744073709551616) W => hid (lcut_any n hn a ha W)
  have hc0 : ((cnt n : Nat) : Int) ≠ 0 := by rcases hn.cases with ⟨_, _, h⟩ | ⟨_, _, h⟩ | ⟨_, _, h⟩ | ⟨_, _, h⟩ <;> rw [h] <;> decide
  have hc : (((cnt n : Nat) : Int) == 0) = false := by simpa using hc0
  obtain ⟨g, o, cap, rfl, hg, hcap, hat⟩ := hr
  have hlf : loF n F = loK n (64 / n) (cnt n) F := by unfold loF loK; rw [if_neg]; rcases hn.cases with ⟨_, h, h'⟩ | ⟨_, h, h'⟩ | ⟨_, h, h'⟩ | ⟨_, h, h'⟩ <;> omega
  have hhf : hiF n F = hiK n (64 / n) (cnt n) F := by
    unfold hiF hiK
    have : cnt n - 64 / n = 64 / n := by rcases hn.cases with ⟨_, h, h'⟩ | ⟨_, h, h'⟩ | ⟨_, h, h'⟩ | ⟨_, h, h'⟩ <;> omega
    rw [this]
  obtain ⟨c, hce⟩ : ∃ c, c = cnt n := ⟨_, rfl⟩
  rw [← hce] at hc HC hat hcap hF hlf hhf ⊢
  rw [hlf, hhf]
  have hn8 := hn.le
  have hq : n * (64 / n) = 64 := hn.half
  have hq2 : c = 2 * (64 / n) := by rw [hce]; rcases hn.cases with ⟨_, h, h'⟩ | ⟨_, h, h'⟩ | ⟨_, h, h'⟩ | ⟨_, h, h'⟩ <;> omega
  have hq8 : 64 / n ≤ 8 := by rcases hn.cases with ⟨_, h, _⟩ | ⟨_, h, _⟩ | ⟨_, h, _⟩ | ⟨_, h, _⟩ <;> omega
  obtain ⟨q, hqe⟩ : ∃ q, q = 64 / n := ⟨_, rfl⟩
  rw [← hqe] at hq hq2 hq8 ⊢
  have hc16 : c ≤ 16 := by omega
  have HQ := hid hq
  have HQ2 := hid hq2
  have HAT := hid hat
  have HF := hid hF
  have hz : loK n q 0 F = 0 ∧ hiK n q 0 F = 0 := by
    unfold loK hiK
    refine ⟨?_, by rw [Nat.zero_sub]; rfl⟩
    split
    · rfl
    · rw [show q = 0 by omega]; rfl
  have HZ := hid hz
  clear hc0 hce hn hqe hq hq2 hat hF hlf hhf hz
  go_enter Tryz.func29, Tryz.ntmps29
  go_wp2_with (first
    | (go_at_call 52; refine (HC _).out.mono ?_; rintro e w' ⟨rfl, rfl⟩))
  go_loopw [23] (fun vi wr => ∃ k : Nat, k ≤ c ∧ vi = .int .i64 k ∧ Hid (JS w F (loK n q k F) (hiK n q k F) wr)) (fun vi _ => c - (intOf vi).toNat)
  case atStart =>
    refine ⟨0, Nat.zero_le _, rfl, ?_⟩
    rw [HZ.out.1, HZ.out.2]
    exact JS.start w F
  case round =>
    obtain ⟨k, hk, rfl, HJ⟩ := hrel
    have hsz := HJ.out.1.size
    by_cases hlt : k < c
    · have hck := (HAT.out k hlt).1
      have hcw : wr.cell? ⟨g, o + k, none⟩ = some (.int .u64 (F k : Nat)) := by rw [HJ.out.1.cell (p := ⟨g, o + k, none⟩) hg]; exact hck
      have hFk := HF.out k hlt
      have HU := fun W => HCU (F k) hFk W
      have hkn : k * n ≤ 128 := by
        have h1 : n * k ≤ n * (2 * q) := Nat.mul_le_mul_left _ (by have := HQ2.out; omega)
        have h2 : n * (2 * q) = 128 := by rw [Nat.mul_left_comm, HQ.out]
        rw [Nat.mul_comm]; omega
      obtain ⟨at_, hat_⟩ : ∃ at_ : Nat, at_ = k * n := ⟨_, rfl⟩
      have hw : wrap64 ((k : Int) * (n : Int)) = (at_ : Int) := by
        rw [hat_, ← wrap64_nat' hkn]; simp
      have HA := hid hat_
      clear hck hat_
      by_cases hh : k < q
      · have hj := join_lo (n := n) F k hh
        have hb := at_lo (show 0 < n by omega) HQ.out HA.out hh
        have hdm := div64 hb.1 hb.2
        have hlo := loK_lt (k := k) HQ.out F
        have hup := lane_up HQ.out (F k) k hh
        have hor := shl_or hlo hup
        rw [hj.1] at hor
        have HJ2 := hid hj.2
        have hd : (at_ : Int) / 64 = 0 := hdm.1
        have hm : (at_ : Int).tmod 64 = ((n * k : Nat) : Int) := by rw [Int.tmod_eq_emod_of_nonneg (Int.natCast_nonneg _)]; exact hdm.2
        have hmin : min (n * k) 64 = n * k := Nat.min_eq_left (Nat.le_of_lt hb.2)
        have hwz : IntKind.i64.wrap 0 = 0 := by kernel_rfl
        have HLT := hid hlt
        obtain ⟨j, hje⟩ : ∃ j, j = n * k := ⟨_, rfl⟩
        obtain ⟨x, hx⟩ : ∃ x, x = loK n q k F := ⟨_, rfl⟩
        obtain ⟨y, hy⟩ : ∃ y, y = hiK n q k F := ⟨_, rfl⟩
        obtain ⟨x', hx'⟩ : ∃ x', x' = loK n q (k + 1) F := ⟨_, rfl⟩
        obtain ⟨z, hz⟩ : ∃ z, z = F k % 2 ^ n := ⟨_, rfl⟩
        rw [← hje] at hm hor hmin
        rw [← hx] at hor HJ
        rw [← hy] at HJ HJ2
        rw [← hx'] at hor
        rw [← hz] at hor HU
        have HX := hid hx'
        clear hj hb hdm hlo hup hje hx hy hx' hz hlt
        go_upto_region 8 with fail
        rw [show ((k : Int) * (n : Int)) = (at_ : Int) by rw [HA.out]; simp]
        have HJW := HJ.out.drew
        have hS := HJW.1
        refine wp_region_held_drew (S := Below w.heap.size w) (by kernel_rfl) hS (fun _ => ?_)
        generalize wr.drew = W at *
        refine wpAnyH_take (oi := ⟨_, _, _, _, _, _⟩) (i := 0) (v := .int .i64 at_) rfl (by kernel_rfl) (by kernel_rfl) (by kernel_rfl) (fun _ _ _ h => h) (Or.inl ⟨by rfl, ?_⟩) (by assumption) ?_
        · (intro W hSw; skip; go_simp; try (with_reducible rfl))
        try simp only [Act.put, List.setIfInBounds_toArray, List.set_cons_zero, List.set_cons_succ]
        refine wpAnyH_take (oi := ⟨_, _, _, _, _, _⟩) (i := 1) (v := .int .i64 0) rfl (by kernel_rfl) (by kernel_rfl) (by kernel_rfl) (fun _ _ _ h => h) (Or.inl ⟨by rfl, ?_⟩) (by assumption) ?_
        · (intro W hSw; skip; go_simp; try (with_reducible rfl))
        try simp only [Act.put, List.setIfInBounds_toArray, List.set_cons_zero, List.set_cons_succ]
        refine wpAnyH_take (oi := ⟨_, _, _, _, _, _⟩) (i := 2) (v := .pointer (some ⟨w.heap.size + 1, 0, none⟩)) rfl (by kernel_rfl) (by kernel_rfl) (by kernel_rfl) (fun _ _ _ h => h) (Or.inl ⟨by rfl, ?_⟩) (by assumption) ?_
        · (intro W hSw; skip; go_simp; try (with_reducible rfl))
        try simp only [Act.put, List.setIfInBounds_toArray, List.set_cons_zero, List.set_cons_succ]
        refine wpAnyH_take (oi := ⟨_, _, _, _, _, _⟩) (i := 4) (v := .int .i64 n) rfl (by kernel_rfl) (by kernel_rfl) (by kernel_rfl) (fun _ _ _ h => h) (Or.inl ⟨by rfl, ?_⟩) (by assumption) ?_
        · (intro W hSw; skip; go_simp; try (with_reducible rfl))
        try simp only [Act.put, List.setIfInBounds_toArray, List.set_cons_zero, List.set_cons_succ]
        refine wpAnyH_take (oi := ⟨_, _, _, _, _, _⟩) (i := 5) (v := .int .u64 (F k : Nat)) rfl (by kernel_rfl) (by kernel_rfl) (by kernel_rfl) (fun _ _ _ h => h) (Or.inl ⟨by rfl, ?_⟩) (by assumption) ?_
        · (intro W hSw; skip; go_simp; try (with_reducible rfl))
        try simp only [Act.put, List.setIfInBounds_toArray, List.set_cons_zero, List.set_cons_succ]
        refine wpAnyH_take (oi := ⟨_, _, _, _, _, _⟩) (i := 7) (v := .int .i64 at_) rfl (by kernel_rfl) (by kernel_rfl) (by kernel_rfl) (fun _ _ _ h => h) (Or.inl ⟨by rfl, ?_⟩) (by assumption) ?_
        · (intro W hSw; skip; go_simp; try (with_reducible rfl))
        try simp only [Act.put, List.setIfInBounds_toArray, List.set_cons_zero, List.set_cons_succ]
        refine wpAnyH_take (oi := ⟨_, _, _, _, _, _⟩) (i := 8) (v := .int .i64 (j : Int)) rfl (by kernel_rfl) (by kernel_rfl) (by kernel_rfl) (fun _ _ _ h => h) (Or.inl ⟨by rfl, ?_⟩) (by assumption) ?_
        · (intro W hSw; skip; go_simp; try (with_reducible rfl))
        try simp only [Act.put, List.setIfInBounds_toArray, List.set_cons_zero, List.set_cons_succ]
        refine wpAnyH_ready (rs := [3, 6]) (by kernel_rfl) (by simp) ?_
        refine AllReadyH.cons (o := ⟨_, _, _, _, _, _⟩) rfl (fun K hK => ?_) ?_
        · have z0 := HJW.2.2.at (k := 0) rfl
          have z1 := HJW.2.2.at (k := 1) rfl
          simp only [List.getElem_toArray, List.getElem_cons_zero, List.getElem_cons_succ] at z0 z1
          go_simp
          clear z0 z1
          refine hK.out _ _ hS (fun _ => ?_)
          clear hK K
          try simp only [Act.put, List.setIfInBounds_toArray, List.set_cons_zero, List.set_cons_succ]
          refine wpAnyH_ready (rs := [6]) (by kernel_rfl) (by simp) ?_
          refine AllReadyH.cons (o := ⟨_, _, _, _, _, _⟩) rfl (fun K hK => ?_) ?_
          · go_simp
            go_at_call 35
            (with_reducible refine (HU _).out.mono ?_)
            rintro e W1 ⟨rfl, hb⟩
            replace hS : Below w.heap.size w W1 := hb ▸ hS
            replace HJW := JS.call HJW hb
            clear hb
            refine hK.out _ _ hS (fun _ => ?_)
            clear hK K
            try simp only [Act.put, List.setIfInBounds_toArray, List.set_cons_zero, List.set_cons_succ]
            refine wpAnyH_take (oi := ⟨_, _, _, _, _, _⟩) (i := 9) (v := .int .u64 (IntKind.u64.wrap ((z : Int) * 2 ^ j))) rfl (by kernel_rfl) (by kernel_rfl) (by kernel_rfl) (fun _ _ _ h => h) (Or.inl ⟨by rfl, ?_⟩) (by assumption) ?_
            · (intro W hSw; skip; go_simp; try (with_reducible rfl))
            try simp only [Act.put, List.setIfInBounds_toArray, List.set_cons_zero, List.set_cons_succ]
            refine wpAnyH_take (oi := ⟨_, _, _, _, _, _⟩) (i := 10) (v := .int .u64 (x' : Nat)) rfl (by kernel_rfl) (by kernel_rfl) (by kernel_rfl) (fun _ _ _ h => h) (Or.inl ⟨by rfl, ?_⟩) (by assumption) ?_
            · (intro W hSw; skip; go_simp; try (with_reducible rfl))
            try simp only [Act.put, List.setIfInBounds_toArray, List.set_cons_zero, List.set_cons_succ]
            refine wpAnyH_take (oi := ⟨_, _, _, _, _, _⟩) (i := 11) (v := .pointer (some ⟨w.heap.size + 1, 0, none⟩)) rfl (by kernel_rfl) (by kernel_rfl) (by kernel_rfl) (fun _ _ _ h => h) (Or.inl ⟨by rfl, ?_⟩) (by assumption) ?_
            · (intro W hSw; skip; go_simp; try (with_reducible rfl))
            try simp only [Act.put, List.setIfInBounds_toArray, List.set_cons_zero, List.set_cons_succ]
            refine wpAnyH_ready (rs := [12]) (by kernel_rfl) (by simp) ?_
            refine AllReadyH.cons (o := ⟨_, _, _, _, _, _⟩) rfl (fun K hK => ?_) ?_
            · have z0 := HJW.2.2.at (k := 0) rfl
              have z1 := HJW.2.2.at (k := 1) rfl
              have z2 := HJW.2.2.free 0
              have z3 := HJW.2.2.free 1
              simp only [List.getElem_toArray, List.getElem_cons_zero, List.getElem_cons_succ] at z0 z1
              go_simp
              clear z0 z1 z2 z3
              replace HJW := JS.lo (x' := x') HJW
              refine hK.out _ _ HJW.1 (fun _ => ?_)
              clear hK K
              try simp only [Act.put, List.setIfInBounds_toArray, List.set_cons_zero, List.set_cons_succ]
              refine wpAnyH_done (by kernel_rfl) ?_ _
              go_wp2_with fail
              go_roundw
              case rel => exact ⟨k + 1, HLT.out, by go_num, by rw [← HX.out, HJ2.out]; exact HJW⟩
              case measure => (simp [intOf]; have := HLT.out; omega)
            exact AllReadyH.nil
          exact AllReadyH.nil
        refine AllReadyH.cons (o := ⟨_, _, _, _, _, _⟩) rfl (fun K hK => ?_) ?_
        · go_simp
          go_at_call 35
          (with_reducible refine (HU _).out.mono ?_)
          rintro e W1 ⟨rfl, hb⟩
          replace hS : Below w.heap.size w W1 := hb ▸ hS
          replace HJW := JS.call HJW hb
          clear hb
          refine hK.out _ _ hS (fun _ => ?_)
          clear hK K
          try simp only [Act.put, List.setIfInBounds_toArray, List.set_cons_zero, List.set_cons_succ]
          refine wpAnyH_take (oi := ⟨_, _, _, _, _, _⟩) (i := 9) (v := .int .u64 (IntKind.u64.wrap ((z : Int) * 2 ^ j))) rfl (by kernel_rfl) (by kernel_rfl) (by kernel_rfl) (fun _ _ _ h => h) (Or.inl ⟨by rfl, ?_⟩) (by assumption) ?_
          · (intro W hSw; skip; go_simp; try (with_reducible rfl))
          try simp only [Act.put, List.setIfInBounds_toArray, List.set_cons_zero, List.set_cons_succ]
          refine wpAnyH_ready (rs := [3]) (by kernel_rfl) (by simp) ?_
          refine AllReadyH.cons (o := ⟨_, _, _, _, _, _⟩) rfl (fun K hK => ?_) ?_
          · have z0 := HJW.2.2.at (k := 0) rfl
            have z1 := HJW.2.2.at (k := 1) rfl
            simp only [List.getElem_toArray, List.getElem_cons_zero, List.getElem_cons_succ] at z0 z1
            go_simp
            clear z0 z1
            refine hK.out _ _ hS (fun _ => ?_)
            clear hK K
            try simp only [Act.put, List.setIfInBounds_toArray, List.set_cons_zero, List.set_cons_succ]
            refine wpAnyH_take (oi := ⟨_, _, _, _, _, _⟩) (i := 10) (v := .int .u64 (x' : Nat)) rfl (by kernel_rfl) (by kernel_rfl) (by kernel_rfl) (fun _ _ _ h => h) (Or.inl ⟨by rfl, ?_⟩) (by assumption) ?_
            · (intro W hSw; skip; go_simp; try (with_reducible rfl))
            try simp only [Act.put, List.setIfInBounds_toArray, List.set_cons_zero, List.set_cons_succ]
            refine wpAnyH_take (oi := ⟨_, _, _, _, _, _⟩) (i := 11) (v := .pointer (some ⟨w.heap.size + 1, 0, none⟩)) rfl (by kernel_rfl) (by kernel_rfl) (by kernel_rfl) (fun _ _ _ h => h) (Or.inl ⟨by rfl, ?_⟩) (by assumption) ?_
            · (intro W hSw; skip; go_simp; try (with_reducible rfl))
            try simp only [Act.put, List.setIfInBounds_toArray, List.set_cons_zero, List.set_cons_succ]
            refine wpAnyH_ready (rs := [12]) (by kernel_rfl) (by simp) ?_
            refine AllReadyH.cons (o := ⟨_, _, _, _, _, _⟩) rfl (fun K hK => ?_) ?_
            · have z0 := HJW.2.2.at (k := 0) rfl
              have z1 := HJW.2.2.at (k := 1) rfl
              have z2 := HJW.2.2.free 0
              have z3 := HJW.2.2.free 1
              simp only [List.getElem_toArray, List.getElem_cons_zero, List.getElem_cons_succ] at z0 z1
              go_simp
              clear z0 z1 z2 z3
              replace HJW := JS.lo (x' := x') HJW
              refine hK.out _ _ HJW.1 (fun _ => ?_)
              clear hK K
              try simp only [Act.put, List.setIfInBounds_toArray, List.set_cons_zero, List.set_cons_succ]
              refine wpAnyH_done (by kernel_rfl) ?_ _
              go_wp2_with fail
              go_roundw
              case rel => exact ⟨k + 1, HLT.out, by go_num, by rw [← HX.out, HJ2.out]; exact HJW⟩
              case measure => (simp [intOf]; have := HLT.out; omega)
            exact AllReadyH.nil
          exact AllReadyH.nil
        exact AllReadyH.nil
      · have hj := join_hi (n := n) (q := q) F (k - q)
        have hb := at_hi (show 0 < n by omega) HQ.out HA.out (by omega) (by have := HQ2.out; omega)
        rw [show q + (k - q) = k by omega] at hj
        have hdm := div64 hb.1 hb.2
        have hlo := hiK_lt (k := k) HQ.out (by have := HQ2.out; omega) F
        have hup := lane_up HQ.out (F k) (k - q) (by have := HQ2.out; omega)
        have hor := shl_or hlo hup
        rw [hj.1] at hor
        have HJ2 := hid hj.2
        have hd : (at_ : Int) / 64 = 1 := hdm.1
        have hm : (at_ : Int).tmod 64 = ((n * (k - q) : Nat) : Int) := by rw [Int.tmod_eq_emod_of_nonneg (Int.natCast_nonneg _)]; exact hdm.2
        have hmin : min (n * (k - q)) 64 = n * (k - q) := Nat.min_eq_left (Nat.le_of_lt hb.2)
        have hwz : IntKind.i64.wrap 1 = 1 := by kernel_rfl
        have HLT := hid hlt
        obtain ⟨j, hje⟩ : ∃ j, j = n * (k - q) := ⟨_, rfl⟩
        obtain ⟨x, hx⟩ : ∃ x, x = loK n q k F := ⟨_, rfl⟩
        obtain ⟨y, hy⟩ : ∃ y, y = hiK n q k F := ⟨_, rfl⟩
        obtain ⟨x', hx'⟩ : ∃ x', x' = hiK n q (k + 1) F := ⟨_, rfl⟩
        obtain ⟨z, hz⟩ : ∃ z, z = F k % 2 ^ n := ⟨_, rfl⟩
        rw [← hje] at hm hor hmin
        rw [← hx] at HJ HJ2
        rw [← hy] at hor HJ
        rw [← hx'] at hor
        rw [← hz] at hor HU
        have HX := hid hx'
        clear hj hb hdm hlo hup hje hx hy hx' hz hlt
        go_upto_region 8 with fail
        rw [show ((k : Int) * (n : Int)) = (at_ : Int) by rw [HA.out]; simp]
        have HJW := HJ.out.drew
        have hS := HJW.1
        refine wp_region_held_drew (S := Below w.heap.size w) (by kernel_rfl) hS (fun _ => ?_)
        generalize wr.drew = W at *
        refine wpAnyH_take (oi := ⟨_, _, _, _, _, _⟩) (i := 0) (v := .int .i64 at_) rfl (by kernel_rfl) (by kernel_rfl) (by kernel_rfl) (fun _ _ _ h => h) (Or.inl ⟨by rfl, ?_⟩) (by assumption) ?_
        · (intro W hSw; skip; go_simp; try (with_reducible rfl))
        try simp only [Act.put, List.setIfInBounds_toArray, List.set_cons_zero, List.set_cons_succ]
        refine wpAnyH_take (oi := ⟨_, _, _, _, _, _⟩) (i := 1) (v := .int .i64 1) rfl (by kernel_rfl) (by kernel_rfl) (by kernel_rfl) (fun _ _ _ h => h) (Or.inl ⟨by rfl, ?_⟩) (by assumption) ?_
        · (intro W hSw; skip; go_simp; try (with_reducible rfl))
        try simp only [Act.put, List.setIfInBounds_toArray, List.set_cons_zero, List.set_cons_succ]
        refine wpAnyH_take (oi := ⟨_, _, _, _, _, _⟩) (i := 2) (v := .pointer (some ⟨w.heap.size + 1, 1, none⟩)) rfl (by kernel_rfl) (by kernel_rfl) (by kernel_rfl) (fun _ _ _ h => h) (Or.inl ⟨by rfl, ?_⟩) (by assumption) ?_
        · (intro W hSw; skip; go_simp; try (with_reducible rfl))
        try simp only [Act.put, List.setIfInBounds_toArray, List.set_cons_zero, List.set_cons_succ]
        refine wpAnyH_take (oi := ⟨_, _, _, _, _, _⟩) (i := 4) (v := .int .i64 n) rfl (by kernel_rfl) (by kernel_rfl) (by kernel_rfl) (fun _ _ _ h => h) (Or.inl ⟨by rfl, ?_⟩) (by assumption) ?_
        · (intro W hSw; skip; go_simp; try (with_reducible rfl))
        try simp only [Act.put, List.setIfInBounds_toArray, List.set_cons_zero, List.set_cons_succ]
        refine wpAnyH_take (oi := ⟨_, _, _, _, _, _⟩) (i := 5) (v := .int .u64 (F k : Nat)) rfl (by kernel_rfl) (by kernel_rfl) (by kernel_rfl) (fun _ _ _ h => h) (Or.inl ⟨by rfl, ?_⟩) (by assumption) ?_
        · (intro W hSw; skip; go_simp; try (with_reducible rfl))
        try simp only [Act.put, List.setIfInBounds_toArray, List.set_cons_zero, List.set_cons_succ]
        refine wpAnyH_take (oi := ⟨_, _, _, _, _, _⟩) (i := 7) (v := .int .i64 at_) rfl (by kernel_rfl) (by kernel_rfl) (by kernel_rfl) (fun _ _ _ h => h) (Or.inl ⟨by rfl, ?_⟩) (by assumption) ?_
        · (intro W hSw; skip; go_simp; try (with_reducible rfl))
        try simp only [Act.put, List.setIfInBounds_toArray, List.set_cons_zero, List.set_cons_succ]
        refine wpAnyH_take (oi := ⟨_, _, _, _, _, _⟩) (i := 8) (v := .int .i64 (j : Int)) rfl (by kernel_rfl) (by kernel_rfl) (by kernel_rfl) (fun _ _ _ h => h) (Or.inl ⟨by rfl, ?_⟩) (by assumption) ?_
        · (intro W hSw; skip; go_simp; try (with_reducible rfl))
        try simp only [Act.put, List.setIfInBounds_toArray, List.set_cons_zero, List.set_cons_succ]
        refine wpAnyH_ready (rs := [3, 6]) (by kernel_rfl) (by simp) ?_
        refine AllReadyH.cons (o := ⟨_, _, _, _, _, _⟩) rfl (fun K hK => ?_) ?_
        · have z0 := HJW.2.2.at (k := 0) rfl
          have z1 := HJW.2.2.at (k := 1) rfl
          simp only [List.getElem_toArray, List.getElem_cons_zero, List.getElem_cons_succ] at z0 z1
          go_simp
          clear z0 z1
          refine hK.out _ _ hS (fun _ => ?_)
          clear hK K
          try simp only [Act.put, List.setIfInBounds_toArray, List.set_cons_zero, List.set_cons_succ]
          refine wpAnyH_ready (rs := [6]) (by kernel_rfl) (by simp) ?_
          refine AllReadyH.cons (o := ⟨_, _, _, _, _, _⟩) rfl (fun K hK => ?_) ?_
          · go_simp
            go_at_call 35
            (with_reducible refine (HU _).out.mono ?_)
            rintro e W1 ⟨rfl, hb⟩
            replace hS : Below w.heap.size w W1 := hb ▸ hS
            replace HJW := JS.call HJW hb
            clear hb
            refine hK.out _ _ hS (fun _ => ?_)
            clear hK K
            try simp only [Act.put, List.setIfInBounds_toArray, List.set_cons_zero, List.set_cons_succ]
            refine wpAnyH_take (oi := ⟨_, _, _, _, _, _⟩) (i := 9) (v := .int .u64 (IntKind.u64.wrap ((z : Int) * 2 ^ j))) rfl (by kernel_rfl) (by kernel_rfl) (by kernel_rfl) (fun _ _ _ h => h) (Or.inl ⟨by rfl, ?_⟩) (by assumption) ?_
            · (intro W hSw; skip; go_simp; try (with_reducible rfl))
            try simp only [Act.put, List.setIfInBounds_toArray, List.set_cons_zero, List.set_cons_succ]
            refine wpAnyH_take (oi := ⟨_, _, _, _, _, _⟩) (i := 10) (v := .int .u64 (x' : Nat)) rfl (by kernel_rfl) (by kernel_rfl) (by kernel_rfl) (fun _ _ _ h => h) (Or.inl ⟨by rfl, ?_⟩) (by assumption) ?_
            · (intro W hSw; skip; go_simp; try (with_reducible rfl))
            try simp only [Act.put, List.setIfInBounds_toArray, List.set_cons_zero, List.set_cons_succ]
            refine wpAnyH_take (oi := ⟨_, _, _, _, _, _⟩) (i := 11) (v := .pointer (some ⟨w.heap.size + 1, 1, none⟩)) rfl (by kernel_rfl) (by kernel_rfl) (by kernel_rfl) (fun _ _ _ h => h) (Or.inl ⟨by rfl, ?_⟩) (by assumption) ?_
            · (intro W hSw; skip; go_simp; try (with_reducible rfl))
            try simp only [Act.put, List.setIfInBounds_toArray, List.set_cons_zero, List.set_cons_succ]
            refine wpAnyH_ready (rs := [12]) (by kernel_rfl) (by simp) ?_
            refine AllReadyH.cons (o := ⟨_, _, _, _, _, _⟩) rfl (fun K hK => ?_) ?_
            · have z0 := HJW.2.2.at (k := 0) rfl
              have z1 := HJW.2.2.at (k := 1) rfl
              have z2 := HJW.2.2.free 0
              have z3 := HJW.2.2.free 1
              simp only [List.getElem_toArray, List.getElem_cons_zero, List.getElem_cons_succ] at z0 z1
              go_simp
              clear z0 z1 z2 z3
              replace HJW := JS.hi (y' := x') HJW
              refine hK.out _ _ HJW.1 (fun _ => ?_)
              clear hK K
              try simp only [Act.put, List.setIfInBounds_toArray, List.set_cons_zero, List.set_cons_succ]
              refine wpAnyH_done (by kernel_rfl) ?_ _
              go_wp2_with fail
              go_roundw
              case rel => exact ⟨k + 1, HLT.out, by go_num, by rw [← HX.out, HJ2.out]; exact HJW⟩
              case measure => (simp [intOf]; have := HLT.out; omega)
            exact AllReadyH.nil
          exact AllReadyH.nil
        refine AllReadyH.cons (o := ⟨_, _, _, _, _, _⟩) rfl (fun K hK => ?_) ?_
        · go_simp
          go_at_call 35
          (with_reducible refine (HU _).out.mono ?_)
          rintro e W1 ⟨rfl, hb⟩
          replace hS : Below w.heap.size w W1 := hb ▸ hS
          replace HJW := JS.call HJW hb
          clear hb
          refine hK.out _ _ hS (fun _ => ?_)
          clear hK K
          try simp only [Act.put, List.setIfInBounds_toArray, List.set_cons_zero, List.set_cons_succ]
          refine wpAnyH_take (oi := ⟨_, _, _, _, _, _⟩) (i := 9) (v := .int .u64 (IntKind.u64.wrap ((z : Int) * 2 ^ j))) rfl (by kernel_rfl) (by kernel_rfl) (by kernel_rfl) (fun _ _ _ h => h) (Or.inl ⟨by rfl, ?_⟩) (by assumption) ?_
          · (intro W hSw; skip; go_simp; try (with_reducible rfl))
          try simp only [Act.put, List.setIfInBounds_toArray, List.set_cons_zero, List.set_cons_succ]
          refine wpAnyH_ready (rs := [3]) (by kernel_rfl) (by simp) ?_
          refine AllReadyH.cons (o := ⟨_, _, _, _, _, _⟩) rfl (fun K hK => ?_) ?_
          · have z0 := HJW.2.2.at (k := 0) rfl
            have z1 := HJW.2.2.at (k := 1) rfl
            simp only [List.getElem_toArray, List.getElem_cons_zero, List.getElem_cons_succ] at z0 z1
            go_simp
            clear z0 z1
            refine hK.out _ _ hS (fun _ => ?_)
            clear hK K
            try simp only [Act.put, List.setIfInBounds_toArray, List.set_cons_zero, List.set_cons_succ]
            refine wpAnyH_take (oi := ⟨_, _, _, _, _, _⟩) (i := 10) (v := .int .u64 (x' : Nat)) rfl (by kernel_rfl) (by kernel_rfl) (by kernel_rfl) (fun _ _ _ h => h) (Or.inl ⟨by rfl, ?_⟩) (by assumption) ?_
            · (intro W hSw; skip; go_simp; try (with_reducible rfl))
            try simp only [Act.put, List.setIfInBounds_toArray, List.set_cons_zero, List.set_cons_succ]
            refine wpAnyH_take (oi := ⟨_, _, _, _, _, _⟩) (i := 11) (v := .pointer (some ⟨w.heap.size + 1, 1, none⟩)) rfl (by kernel_rfl) (by kernel_rfl) (by kernel_rfl) (fun _ _ _ h => h) (Or.inl ⟨by rfl, ?_⟩) (by assumption) ?_
            · (intro W hSw; skip; go_simp; try (with_reducible rfl))
            try simp only [Act.put, List.setIfInBounds_toArray, List.set_cons_zero, List.set_cons_succ]
            refine wpAnyH_ready (rs := [12]) (by kernel_rfl) (by simp) ?_
            refine AllReadyH.cons (o := ⟨_, _, _, _, _, _⟩) rfl (fun K hK => ?_) ?_
            · have z0 := HJW.2.2.at (k := 0) rfl
              have z1 := HJW.2.2.at (k := 1) rfl
              have z2 := HJW.2.2.free 0
              have z3 := HJW.2.2.free 1
              simp only [List.getElem_toArray, List.getElem_cons_zero, List.getElem_cons_succ] at z0 z1
              go_simp
              clear z0 z1 z2 z3
              replace HJW := JS.hi (y' := x') HJW
              refine hK.out _ _ HJW.1 (fun _ => ?_)
              clear hK K
              try simp only [Act.put, List.setIfInBounds_toArray, List.set_cons_zero, List.set_cons_succ]
              refine wpAnyH_done (by kernel_rfl) ?_ _
              go_wp2_with fail
              go_roundw
              case rel => exact ⟨k + 1, HLT.out, by go_num, by rw [← HX.out, HJ2.out]; exact HJW⟩
              case measure => (simp [intOf]; have := HLT.out; omega)
            exact AllReadyH.nil
          exact AllReadyH.nil
        exact AllReadyH.nil
    · obtain rfl : k = c := by omega
      obtain ⟨hB, hR, hH⟩ := HJ.out
      have h0 := hH.at (k := 0) rfl
      have h1 := hH.at (k := 1) rfl
      have r0 := hR.at (k := 0) rfl
      have r1 := hR.at (k := 1) rfl
      have r2 := hR.at (k := 2) rfl
      have r3 := hR.at (k := 3) rfl
      have f0 := hR.free 0
      have f1 := hR.free 1
      have f2 := hR.free 2
      have f3 := hR.free 3
      simp only [List.getElem_toArray, List.getElem_cons_zero, List.getElem_cons_succ] at h0 h1 r0 r1 r2 r3
      go_wp2
      refine bodyPost_ret (v := .tuple #[vv 123 (loK n q k F) (hiK n q k F) false, .int .i64 0]) ?_ rfl ⟨rfl, (((hB.setCell (p := ⟨w.heap.size, 0, none⟩) (Nat.le_refl _) _).setCell (p := ⟨w.heap.size, 1, none⟩) (Nat.le_refl _) _).setCell (p := ⟨w.heap.size, 2, none⟩) (Nat.le_refl _) _).setCell (p := ⟨w.heap.size, 3, none⟩) (Nat.le_refl _) _⟩
      simp [results, Tryz.results29, go_sem, vv, r0, r1, r2, r3]
end Go.Proofs.YtlhakbkdlgejpaaGreatDoor
namespace Go.Proofs.YtlhakbkdlgejpaaGreatDoor
open Go.RowKit
set_option maxHeartbeats 4000000 in
set_option maxRecDepth 100000 in
theorem Do_vec (op : Int) (nm : List UInt8) (hnm : (lineL op).1 = str nm) (vb : List UInt8) (ff : Bool) (fb : Int) (tf : Bool) (n : Nat) (hn : Okn n) (sg : Bool) (hpar : parV nm = insV vb ff fb tf n sg) (hn1 : nm.length ≤ 1000) (hok : ((xsL nm).2 == 0) = false → 0 ≤ laL6 nm) (hlb : lbL op = [123])
    (vi va : Value) (w : World) (hg : Glob w) (Hfit : ∀ W, Below w.heap.size w W → Calls Tryz.prog 30 #[.int .i64 op, vi, va] W fun e w' => e = .returned (.bool true) ∧ Below W.heap.size W w')
    (F : Nat → Nat) (hF : ∀ i, i < cnt n → F i < 18446744073709551616) (Hvec : ∀ W, Below w.heap.size w W → Calls Tryz.prog 34 #[insV vb ff fb tf n sg, vi, va] W (LPost W (cnt n) F)) :
    Calls Tryz.prog 20 #[.int .i64 op, vi, va] w fun e w' => e = .returned (.tuple #[vv 123 (loF n F) (hiF n F) false, .int .i64 0]) ∧ Below w.heap.size w w' := by
  have HFI := fun W h => hid (Hfit W h)
  have HN := fun W => hid (Name_says op W)
  rw [hnm] at HN
  have HP := fun W => hid (parsed_says nm hn1 hok W)
  rw [hpar] at HP
  have HSG := fun W (h : Glob W) => hid (Sign_any op W h)
  rw [hlb] at HSG
  have HV := fun W h => hid (Hvec W h)
  have hc1 : 1 ≤ cnt n := by rcases hn.cases with ⟨_, _, h⟩ | ⟨_, _, h⟩ | ⟨_, _, h⟩ | ⟨_, _, h⟩ <;> omega
  have HJ := fun v W (h : RowAt W v (cnt n) F) => hid (Join_says n hn v F W h hF)
  have HGL := hid hg
  unfold insV at HP HV
  unfold vv at HJ ⊢
  generalize loF n F = lo at *
  generalize hiF n F = hi at *
  generalize laL op = la at *
  generalize fxB (lineL op) = fx at *
  generalize str nm = s at *
  generalize str vb = s2 at *
  generalize cnt n = c at *
  clear hnm hpar hn1 hok hlb hg Hfit Hvec hF hn
  go_enter Tryz.func20, Tryz.ntmps20
  go_upto_region 5 with (first
    | (go_at_call 30; refine (HFI _ ((Below.refl _ w).alloc (Nat.le_refl _) _)).out.mono ?_; rintro e w1 ⟨rfl, hb1⟩; have HR1 := hid (below_new hb1); clear hb1)
    | (go_at_call 32; refine (HN _).out.mono ?_; rintro e w2 ⟨rfl, hb2⟩; have HR2 := hid (And.intro (HR1.out.1.call hb2) (HR1.out.2.trans (hb2.mono HR1.out.2.size))); clear hb2)
    | (go_at_call 31; refine (HP _).out.mono ?_; rintro e w3 ⟨rfl, hb3⟩; have HR3 := hid (And.intro (HR2.out.1.call hb3) (HR2.out.2.trans (hb3.mono HR2.out.2.size))); clear hb3)
    | (go_at_call 33; refine (HSG _ (HGL.out.next (HR3.out.2.alloc HR3.out.2.size _))).out.mono ?_; rintro e w5 ⟨v1, v2, B2, rfl, ho1, ho2, hB2, hsep, hb⟩; have HL := hid ho2; have HN5 := hid (below_new hb); clear hb ho1 ho2 hB2 hsep))
  obtain ⟨gt, ct, rfl⟩ : ∃ g cap, v2 = .slice (some ⟨g, 0, none⟩) 1 cap := owned_at HL.out (Nat.le_refl _)
  have k0 : w5.cell? ⟨gt, 0, none⟩ = some (.int .i64 123) := HL.out.cellAt 0 (by decide)
  have hX : CA w3.heap.size #[.string s2, .bool ff, .int .i64 fb, .bool tf, .int .i64 n, .bool sg] 50 w5 := HN5.out.1
  have hR : CA w.heap.size #[.int .i64 0, .int .u64 0, .int .u64 0, .bool false] 24 w5 := HR3.out.1.call HN5.out.2
  have hB : Below w.heap.size w w5 := HR3.out.2.trans (HN5.out.2.mono HR3.out.2.size)
  have hne : w.heap.size ≠ w3.heap.size := Nat.ne_of_lt HR3.out.1.lt
  generalize w3.heap.size = g8 at *
  clear HN5 HR3 HR2 HR1 HL HSG HP HN HFI
  go_upto_region 7 with fail
  have hS : Below w.heap.size w w5.drew ∧ CA g8 #[.string s2, .bool ff, .int .i64 fb, .bool tf, .int .i64 n, .bool sg] 50 w5.drew := ⟨hB.drew, hX.drew⟩
  have HJW : CA w.heap.size #[.int .i64 0, .int .u64 0, .int .u64 0, .bool false] 24 w5.drew := hR.drew
  clear k0 hX hR hB
  refine wp_region_held_drew (S := fun W => Below w.heap.size w W ∧ CA g8 #[.string s2, .bool ff, .int .i64 fb, .bool tf, .int .i64 n, .bool sg] 50 W) (by kernel_rfl) hS (fun _ => ?_)
  generalize w5.drew = W at *
  refine wpAnyH_take (oi := ⟨_, _, _, _, _, _⟩) (i := 0) (v := .pointer (some ⟨g8, 3, none⟩)) rfl (by kernel_rfl) (by kernel_rfl) (by kernel_rfl) (fun _ _ _ h => h) (Or.inl ⟨by rfl, ?_⟩) (by assumption) ?_
  · (intro W hSw; have x0 := hSw.2.at (k := 0) (v := .string s2) rfl; have x1 := hSw.2.at (k := 1) (v := .bool ff) rfl; have x2 := hSw.2.at (k := 2) (v := .int .i64 fb) rfl; have x3 := hSw.2.at (k := 3) (v := .bool tf) rfl; have x4 := hSw.2.at (k := 4) (v := .int .i64 n) rfl; have x5 := hSw.2.at (k := 5) (v := .bool sg) rfl; go_simp; try (with_reducible rfl))
  try simp only [Act.put, List.setIfInBounds_toArray, List.set_cons_zero, List.set_cons_succ]
  refine wpAnyH_take (oi := ⟨_, _, _, _, _, _⟩) (i := 1) (v := .pointer (some ⟨g8, 4, none⟩)) rfl (by kernel_rfl) (by kernel_rfl) (by kernel_rfl) (fun _ _ _ h => h) (Or.inl ⟨by rfl, ?_⟩) (by assumption) ?_
  · (intro W hSw; have x0 := hSw.2.at (k := 0) (v := .string s2) rfl; have x1 := hSw.2.at (k := 1) (v := .bool ff) rfl; have x2 := hSw.2.at (k := 2) (v := .int .i64 fb) rfl; have x3 := hSw.2.at (k := 3) (v := .bool tf) rfl; have x4 := hSw.2.at (k := 4) (v := .int .i64 n) rfl; have x5 := hSw.2.at (k := 5) (v := .bool sg) rfl; go_simp; try (with_reducible rfl))
  try simp only [Act.put, List.setIfInBounds_toArray, List.set_cons_zero, List.set_cons_succ]
  refine wpAnyH_take (oi := ⟨_, _, _, _, _, _⟩) (i := 2) (v := .int .i64 n) rfl (by kernel_rfl) (by kernel_rfl) (by kernel_rfl) (fun _ _ _ h => h) (Or.inl ⟨by rfl, ?_⟩) (by assumption) ?_
  · (intro W hSw; have x0 := hSw.2.at (k := 0) (v := .string s2) rfl; have x1 := hSw.2.at (k := 1) (v := .bool ff) rfl; have x2 := hSw.2.at (k := 2) (v := .int .i64 fb) rfl; have x3 := hSw.2.at (k := 3) (v := .bool tf) rfl; have x4 := hSw.2.at (k := 4) (v := .int .i64 n) rfl; have x5 := hSw.2.at (k := 5) (v := .bool sg) rfl; go_simp; try (with_reducible rfl))
  try simp only [Act.put, List.setIfInBounds_toArray, List.set_cons_zero, List.set_cons_succ]
  refine wpAnyH_take (oi := ⟨_, _, _, _, _, _⟩) (i := 3) (v := .agg #[.string s2, .bool ff, .int .i64 fb, .bool tf, .int .i64 n, .bool sg]) rfl (by kernel_rfl) (by kernel_rfl) (by kernel_rfl) (fun _ _ _ h => h) (Or.inl ⟨by rfl, ?_⟩) (by assumption) ?_
  · (intro W hSw; have x0 := hSw.2.at (k := 0) (v := .string s2) rfl; have x1 := hSw.2.at (k := 1) (v := .bool ff) rfl; have x2 := hSw.2.at (k := 2) (v := .int .i64 fb) rfl; have x3 := hSw.2.at (k := 3) (v := .bool tf) rfl; have x4 := hSw.2.at (k := 4) (v := .int .i64 n) rfl; have x5 := hSw.2.at (k := 5) (v := .bool sg) rfl; go_simp; try (with_reducible rfl))
  try simp only [Act.put, List.setIfInBounds_toArray, List.set_cons_zero, List.set_cons_succ]
  refine wpAnyH_take (oi := ⟨_, _, _, _, _, _⟩) (i := 4) (v := vi) rfl (by kernel_rfl) (by kernel_rfl) (by kernel_rfl) (fun _ _ _ h => h) (Or.inl ⟨by rfl, ?_⟩) (by assumption) ?_
  · (intro W hSw; have x0 := hSw.2.at (k := 0) (v := .string s2) rfl; have x1 := hSw.2.at (k := 1) (v := .bool ff) rfl; have x2 := hSw.2.at (k := 2) (v := .int .i64 fb) rfl; have x3 := hSw.2.at (k := 3) (v := .bool tf) rfl; have x4 := hSw.2.at (k := 4) (v := .int .i64 n) rfl; have x5 := hSw.2.at (k := 5) (v := .bool sg) rfl; go_simp; try (with_reducible rfl))
  try simp only [Act.put, List.setIfInBounds_toArray, List.set_cons_zero, List.set_cons_succ]
  refine wpAnyH_take (oi := ⟨_, _, _, _, _, _⟩) (i := 5) (v := va) rfl (by kernel_rfl) (by kernel_rfl) (by kernel_rfl) (fun _ _ _ h => h) (Or.inl ⟨by rfl, ?_⟩) (by assumption) ?_
  · (intro W hSw; have x0 := hSw.2.at (k := 0) (v := .string s2) rfl; have x1 := hSw.2.at (k := 1) (v := .bool ff) rfl; have x2 := hSw.2.at (k := 2) (v := .int .i64 fb) rfl; have x3 := hSw.2.at (k := 3) (v := .bool tf) rfl; have x4 := hSw.2.at (k := 4) (v := .int .i64 n) rfl; have x5 := hSw.2.at (k := 5) (v := .bool sg) rfl; go_simp; try (with_reducible rfl))
  try simp only [Act.put, List.setIfInBounds_toArray, List.set_cons_zero, List.set_cons_succ]
  refine wpAnyH_ready (rs := [6]) (by kernel_rfl) (by simp) ?_
  refine AllReadyH.cons (o := ⟨_, _, _, _, _, _⟩) rfl (fun K hK => ?_) ?_
  · go_simp
    go_at_call 34
    (with_reducible refine (HV _ hS.1).out.mono ?_)
    rintro e W1 ⟨v1, rfl, ho1, hb⟩
    replace hS := And.intro (hS.1.trans (hb.mono hS.1.size)) (hS.2.call hb)
    replace HJW := HJW.call hb
    have HR1 := RowAt.of_own ho1 hc1
    clear hb ho1
    refine hK.out _ _ hS (fun _ => ?_)
    clear hK K
    try simp only [Act.put, List.setIfInBounds_toArray, List.set_cons_zero, List.set_cons_succ]
    refine wpAnyH_ready (rs := [7]) (by kernel_rfl) (by simp) ?_
    refine AllReadyH.cons (o := ⟨_, _, _, _, _, _⟩) rfl (fun K hK => ?_) ?_
    · go_simp
      go_at_call 29
      (with_reducible refine (HJ _ _ HR1).out.mono ?_)
      rintro e W2 ⟨rfl, hb⟩
      replace hS := And.intro (hS.1.trans (hb.mono hS.1.size)) (hS.2.call hb)
      replace HJW := HJW.call hb
      clear hb HR1
      refine hK.out _ _ hS (fun _ => ?_)
      clear hK K
      try simp only [Act.put, List.setIfInBounds_toArray, List.set_cons_zero, List.set_cons_succ]
      refine wpAnyH_take (oi := ⟨_, _, _, _, _, _⟩) (i := 8) (v := .agg #[.int .i64 123, .int .u64 (lo : Nat), .int .u64 (hi : Nat), .bool false]) rfl (by kernel_rfl) (by kernel_rfl) (by kernel_rfl) (fun _ _ _ h => h) (Or.inl ⟨by rfl, ?_⟩) (by assumption) ?_
      · (intro W hSw; have x0 := hSw.2.at (k := 0) (v := .string s2) rfl; have x1 := hSw.2.at (k := 1) (v := .bool ff) rfl; have x2 := hSw.2.at (k := 2) (v := .int .i64 fb) rfl; have x3 := hSw.2.at (k := 3) (v := .bool tf) rfl; have x4 := hSw.2.at (k := 4) (v := .int .i64 n) rfl; have x5 := hSw.2.at (k := 5) (v := .bool sg) rfl; go_simp; try (with_reducible rfl))
      try simp only [Act.put, List.setIfInBounds_toArray, List.set_cons_zero, List.set_cons_succ]
      refine wpAnyH_take (oi := ⟨_, _, _, _, _, _⟩) (i := 9) (v := .int .i64 0) rfl (by kernel_rfl) (by kernel_rfl) (by kernel_rfl) (fun _ _ _ h => h) (Or.inl ⟨by rfl, ?_⟩) (by assumption) ?_
      · (intro W hSw; have x0 := hSw.2.at (k := 0) (v := .string s2) rfl; have x1 := hSw.2.at (k := 1) (v := .bool ff) rfl; have x2 := hSw.2.at (k := 2) (v := .int .i64 fb) rfl; have x3 := hSw.2.at (k := 3) (v := .bool tf) rfl; have x4 := hSw.2.at (k := 4) (v := .int .i64 n) rfl; have x5 := hSw.2.at (k := 5) (v := .bool sg) rfl; go_simp; try (with_reducible rfl))
      try simp only [Act.put, List.setIfInBounds_toArray, List.set_cons_zero, List.set_cons_succ]
      refine wpAnyH_ready (rs := [10]) (by kernel_rfl) (by simp) ?_
      refine AllReadyH.cons (o := ⟨_, _, _, _, _, _⟩) rfl (fun K hK => ?_) ?_
      · have r0 := HJW.at (k := 0) (v := .int .i64 0) rfl
        have r1 := HJW.at (k := 1) (v := .int .u64 0) rfl
        have r2 := HJW.at (k := 2) (v := .int .u64 0) rfl
        have r3 := HJW.at (k := 3) (v := .bool false) rfl
        have f0 := HJW.free 0
        have f1 := HJW.free 1
        have f2 := HJW.free 2
        have f3 := HJW.free 3
        go_simp
        clear r0 r1 r2 r3 f0 f1 f2 f3
        have hS2 := And.intro ((((hS.1.setCell (p := ⟨w.heap.size, 0, none⟩) (Nat.le_refl _) (.int .i64 123)).setCell (p := ⟨w.heap.size, 1, none⟩) (Nat.le_refl _) (.int .u64 (lo : Nat))).setCell (p := ⟨w.heap.size, 2, none⟩) (Nat.le_refl _) (.int .u64 (hi : Nat))).setCell (p := ⟨w.heap.size, 3, none⟩) (Nat.le_refl _) (.bool false)) ((((hS.2.far (o := 0) hne (.int .i64 123)).far (o := 1) hne (.int .u64 (lo : Nat))).far (o := 2) hne (.int .u64 (hi : Nat))).far (o := 3) hne (.bool false))
        have HJ2 := (((HJW.set (k := 0) (.int .i64 123)).set (k := 1) (.int .u64 (lo : Nat))).set (k := 2) (.int .u64 (hi : Nat))).set (k := 3) (.bool false)
        clear hS HJW
        have hS := hS2
        have HJW := HJ2
        clear hS2 HJ2
        generalize (((W2.setCell ⟨w.heap.size, 0, none⟩ (.int .i64 123)).setCell ⟨w.heap.size, 1, none⟩ (.int .u64 (lo : Nat))).setCell ⟨w.heap.size, 2, none⟩ (.int .u64 (hi : Nat))).setCell ⟨w.heap.size, 3, none⟩ (.bool false) = W3 at *
        refine hK.out _ _ hS (fun _ => ?_)
        clear hK K
        try simp only [Act.put, List.setIfInBounds_toArray, List.set_cons_zero, List.set_cons_succ]
        refine wpAnyH_take (oi := ⟨_, _, _, _, _, _⟩) (i := 11) (v := .int .i64 0) rfl (by kernel_rfl) (by kernel_rfl) (by kernel_rfl) (fun _ _ _ h => h) (Or.inl ⟨by rfl, ?_⟩) (by assumption) ?_
        · (intro W hSw; have x0 := hSw.2.at (k := 0) (v := .string s2) rfl; have x1 := hSw.2.at (k := 1) (v := .bool ff) rfl; have x2 := hSw.2.at (k := 2) (v := .int .i64 fb) rfl; have x3 := hSw.2.at (k := 3) (v := .bool tf) rfl; have x4 := hSw.2.at (k := 4) (v := .int .i64 n) rfl; have x5 := hSw.2.at (k := 5) (v := .bool sg) rfl; go_simp; try (with_reducible rfl))
        try simp only [Act.put, List.setIfInBounds_toArray, List.set_cons_zero, List.set_cons_succ]
        refine wpAnyH_done (by kernel_rfl) ?_ _
        have r0 := HJW.at (k := 0) (v := .int .i64 123) rfl
        have r1 := HJW.at (k := 1) (v := .int .u64 (lo : Nat)) rfl
        have r2 := HJW.at (k := 2) (v := .int .u64 (hi : Nat)) rfl
        have r3 := HJW.at (k := 3) (v := .bool false) rfl
        go_wp2_with fail
        exact bodyPost_ret (v := .tuple #[.agg #[.int .i64 123, .int .u64 (lo : Nat), .int .u64 (hi : Nat), .bool false], .int .i64 0]) (by simp [results, Tryz.results20, go_sem, r0, r1, r2, r3]) rfl ⟨rfl, hS.1⟩
      exact AllReadyH.nil
    exact AllReadyH.nil
  exact AllReadyH.nil
end Go.Proofs.YtlhakbkdlgejpaaGreatDoor
