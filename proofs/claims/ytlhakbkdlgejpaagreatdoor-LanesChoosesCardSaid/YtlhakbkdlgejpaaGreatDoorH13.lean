/-
  LRVec, LRDone: merged, what the law does not reach left out (each text says what it holds where it lies in wip). No condition.
-/
import Derived.Test.YtlhakbkdlgejpaaGreatDoorH03
import Derived.Test.YtlhakbkdlgejpaaGreatDoorH01
import Derived.Deep.DeepCutAuto
import Derived.Deep.RegionHeld3
import Derived.Test.YtlhakbkdlgejpaaGreatDoorH12
import Derived.Test.YtlhakbkdlgejpaaGreatDoorH06
import Derived.Test.YtlhakbkdlgejpaaGreatDoorH09
set_option linter.unusedSimpArgs false
set_option linter.unusedVariables false
set_option maxRecDepth 100000
namespace Go.Proofs.YtlhakbkdlgejpaaGreatDoor
open Go.RowKit
/-- What a round of vector keeps. -/
def VS (w : World) (x y : Nat) (W : World) : Prop :=
  Below w.heap.size w W ∧ CA w.heap.size #[.int .i64 0, .int .u64 0, .int .u64 0, .bool false] 24 W ∧ CA (w.heap.size + 1) #[.int .i64 123, .int .u64 x, .int .u64 y, .bool false] 24 W
theorem VS.call {w : World} {x y : Nat} {W W' : World} (h : VS w x y W) (hb : W = W') : VS w x y W' := hb ▸ h
theorem VS.drew {w : World} {x y : Nat} {W : World} (h : VS w x y W) : VS w x y W.drew := ⟨h.1.drew, h.2.1, h.2.2⟩
theorem VS.lo {w : World} {x y x' : Nat} {W : World} (h : VS w x y W) : VS w x' y (W.setCell ⟨w.heap.size + 1, 1, none⟩ (.int .u64 (x' : Nat))) :=
  ⟨h.1.setCell (Nat.le_succ _) _, h.2.1.far (by omega) _, h.2.2.set _⟩
theorem VS.hi {w : World} {x y y' : Nat} {W : World} (h : VS w x y W) : VS w x y' (W.setCell ⟨w.heap.size + 1, 2, none⟩ (.int .u64 (y' : Nat))) :=
  ⟨h.1.setCell (Nat.le_succ _) _, h.2.1.far (by omega) _, h.2.2.set _⟩
theorem VS.start (w : World) : VS w 0 0 ((w.alloc (.cells #[.int .i64 0, .int .u64 0, .int .u64 0, .bool false] 24)).alloc (.cells #[.int .i64 123, .int .u64 0, .int .u64 0, .bool false] 24)) := by
  refine ⟨((Below.refl _ _).alloc (Nat.le_refl _) _).alloc (by simp) _, (CA.new w _ _).alloc _, ?_⟩
  have := CA.new (w.alloc (.cells #[.int .i64 0, .int .u64 0, .int .u64 0, .bool false] 24)) #[.int .i64 123, .int .u64 0, .int .u64 0, .bool false] 24
  simpa using this
def tailF (n q m : Nat) (F : Nat → Nat) : Nat := packF n (q - m) (fun j => F (m + j))
theorem tailF_next {n q m : Nat} (F : Nat → Nat) (h : m < q) : tailF n q m F = tailF n q (m + 1) F * 2 ^ n + F m % 2 ^ n := by
  unfold tailF
  rw [show q - m = (q - (m + 1)) + 1 by omega, packF_front, Nat.add_zero, Nat.add_comm, Nat.mul_comm]
  congr 2
  exact packF_congr n _ _ _ (fun i _ => by rw [show m + (i + 1) = m + 1 + i by omega])
theorem tailF_lt {n q m : Nat} (hq : n * q = 64) (F : Nat → Nat) (h : m < q) (k : Nat) (hk : k ≤ n) : tailF n q (m + 1) F * 2 ^ k < 18446744073709551616 := by
  have h1 := packF_lt n (q - (m + 1)) (fun j => F (m + 1 + j))
  have h2 : tailF n q (m + 1) F * 2 ^ k < 2 ^ (n * (q - (m + 1))) * 2 ^ n :=
    Nat.lt_of_lt_of_le (Nat.mul_lt_mul_of_pos_right h1 (Nat.two_pow_pos k)) (Nat.mul_le_mul_left _ (Nat.pow_le_pow_right (by decide) hk))
  rw [← Nat.pow_add] at h2
  refine Nat.lt_of_lt_of_le h2 ?_
  show _ ≤ 2 ^ 64
  refine Nat.pow_le_pow_right (by decide) ?_
  rw [← hq, show n * (q - (m + 1)) + n = n * (q - (m + 1) + 1) by rw [Nat.mul_add, Nat.mul_one]]
  exact Nat.mul_le_mul_left _ (by omega)
theorem tailF_sum {n q m : Nat} (hq : n * q = 64) (F : Nat → Nat) (h : m < q) : tailF n q m F < 18446744073709551616 := by
  have h1 := packF_lt n (q - m) (fun j => F (m + j))
  refine Nat.lt_of_lt_of_le h1 ?_
  show _ ≤ 2 ^ 64
  refine Nat.pow_le_pow_right (by decide) ?_
  rw [← hq]
  exact Nat.mul_le_mul_left _ (by omega)
theorem dbl {x k y : Nat} (e : y = x * 2 ^ (k + 1)) (h : y < 18446744073709551616) : IntKind.u64.wrap (((x * 2 ^ k : Nat) : Int) * 2) = (y : Int) := by
  have : ((x * 2 ^ k : Nat) : Int) * 2 = (y : Int) := by rw [e, Nat.pow_succ, ← Nat.mul_assoc]; simp
  rw [this]
  exact wrap_nat h
theorem addc {x z y : Nat} (e : y = x + z) (h : y < 18446744073709551616) : IntKind.u64.wrap ((x : Int) + (z : Int)) = (y : Int) := by
  rw [e, ← wrap_nat (show x + z < 18446744073709551616 by omega)]
  simp
set_option maxHeartbeats 4000000 in
set_option maxRecDepth 100000 in
theorem RVector_says (n : Nat) (hn : Okn n) (v : Value) (c : Nat) (hc : cnt n ≤ c) (hc2 : c ≤ 1000) (F : Nat → Nat) (w : World) (hr : RowAt w v c F) (hF : ∀ i, i < cnt n → F i < 18446744073709551616) :
    Calls Tryz.prog 129 #[.int .i64 n, v] w fun e w' => e = .returned (vv 123 (loF n F) (hiF n F) false) ∧ Below w.heap.size w w' := by
  have HCU := fun (a : Nat) (ha : a < 18446744073709551616) W => hid (Cut_any n hn a ha W)
  obtain ⟨g, o, cap, rfl, hg, hcap, hat⟩ := hr
  have hlf : loF n F = tailF n (64 / n) 0 F := by unfold loF tailF; rw [Nat.sub_zero]; congr 1; funext j; rw [Nat.zero_add]
  have hhf : hiF n F = tailF n (64 / n) 0 (fun i => F (i + 64 / n)) := by unfold hiF tailF; rw [Nat.sub_zero]; congr 1; funext j; rw [Nat.zero_add]
  have hn8 := hn.le
  have hn0 : 0 < (n : Int) := by omega
  have hq : n * (64 / n) = 64 := hn.half
  have hq2 : cnt n = 2 * (64 / n) := by rcases hn.cases with ⟨_, h, h'⟩ | ⟨_, h, h'⟩ | ⟨_, h, h'⟩ | ⟨_, h, h'⟩ <;> omega
  have hq8 : 64 / n ≤ 8 := by rcases hn.cases with ⟨_, h, _⟩ | ⟨_, h, _⟩ | ⟨_, h, _⟩ | ⟨_, h, _⟩ <;> omega
  have hqi : (64 : Int) / (n : Int) = ((64 / n : Nat) : Int) := by simp
  rw [hlf, hhf]
  obtain ⟨q, hqe⟩ : ∃ q, q = 64 / n := ⟨_, rfl⟩
  rw [← hqe] at hq hq2 hq8 hqi ⊢
  have hqc : 2 * q ≤ c := by omega
  have HQ := hid hq
  have HAT := hid hat
  have HF : Hid (∀ i, i < 2 * q → F i < 18446744073709551616) := fun i hi => hF i (by omega)
  obtain ⟨G, hG⟩ : ∃ G : Nat → Nat, G = fun i => F (i + q) := ⟨_, rfl⟩
  rw [← hG]
  have HG : Hid (∀ i, G i = F (i + q)) := fun i => by rw [hG]
  clear hqe hq hat hF hlf hhf hn hc hG hq2
  unfold vv
  go_enter Tryz.func129, Tryz.ntmps129
  go_wp2
  rw [hqi]
  clear hqi
  go_loopw [7] (fun vi wr => ∃ m : Nat, m ≤ q ∧ vi = .int .i64 ((m : Int) - 1) ∧ Hid (VS w (tailF n q m F) (tailF n q m G) wr)) (fun vi _ => (intOf vi + 1).toNat)
  case atStart =>
    refine ⟨q, Nat.le_refl _, rfl, ?_⟩
    have e : ∀ H : Nat → Nat, tailF n q q H = 0 := fun H => by unfold tailF; rw [Nat.sub_self]; rfl
    rw [e, e]
    exact VS.start w
  case round =>
    obtain ⟨m, hm, rfl, HJ⟩ := hrel
    cases m with
    | zero =>
      obtain ⟨hB, hR, hV⟩ := HJ.out
      have e : (((0 : Nat) : Int) - 1) = -1 := by decide
      rw [e]
      have r0 := hR.at (k := 0) (v := .int .i64 0) rfl
      have r1 := hR.at (k := 1) (v := .int .u64 0) rfl
      have r2 := hR.at (k := 2) (v := .int .u64 0) rfl
      have r3 := hR.at (k := 3) (v := .bool false) rfl
      have f0 := hR.free 0
      have f1 := hR.free 1
      have f2 := hR.free 2
      have f3 := hR.free 3
      have v0 := hV.at (k := 0) (v := .int .i64 123) rfl
      have v1 := hV.at (k := 1) (v := .int .u64 (tailF n q 0 F : Nat)) rfl
      have v2 := hV.at (k := 2) (v := .int .u64 (tailF n q 0 G : Nat)) rfl
      have v3 := hV.at (k := 3) (v := .bool false) rfl
      have HBB := hid hB
      clear HJ hR hV
      go_wp2
      refine bodyPost_ret (v := .agg #[.int .i64 123, .int .u64 (tailF n q 0 F : Nat), .int .u64 (tailF n q 0 G : Nat), .bool false]) ?_ rfl ⟨rfl, (((hB.setCell (p := ⟨w.heap.size, 0, none⟩) (Nat.le_refl _) _).setCell (p := ⟨w.heap.size, 1, none⟩) (Nat.le_refl _) _).setCell (p := ⟨w.heap.size, 2, none⟩) (Nat.le_refl _) _).setCell (p := ⟨w.heap.size, 3, none⟩) (Nat.le_refl _) _⟩
      simp [results, Tryz.results129, go_sem, r0, r1, r2, r3]
    | succ m =>
      have e : (((m + 1 : Nat) : Int) - 1) = (m : Int) := by omega
      rw [e]
      have hmq : m < q := by omega
      have hmc : m < c := by omega
      obtain ⟨t, ht⟩ : ∃ t, t = m + q := ⟨_, rfl⟩
      have htc : t < c := by omega
      have HWI := hid (show IntKind.i64.wrap ((m : Int) + (q : Int)) = (t : Int) from by rw [ht, IntKind.wrap_i64]; omega)
      have HLX := hid (tailF_lt HQ.out F hmq)
      have HLY := hid (tailF_lt HQ.out G hmq)
      have HNX : Hid (tailF n q m F = tailF n q (m + 1) F * 2 ^ n + F m % 2 ^ n) := tailF_next F hmq
      have HNY : Hid (tailF n q m G = tailF n q (m + 1) G * 2 ^ n + F t % 2 ^ n) := by show tailF n q m G = _; rw [tailF_next G hmq, HG.out m, ht]
      have HSX := hid (tailF_sum HQ.out F hmq)
      have HSY := hid (tailF_sum HQ.out G hmq)
      have hcl := (HAT.out m (by omega)).1
      have hch := (HAT.out t htc).1
      have HFl := hid (HF.out m (by omega))
      have HFh := hid (HF.out t (by omega))
      obtain ⟨x, hx⟩ : ∃ x, x = tailF n q (m + 1) F := ⟨_, rfl⟩
      obtain ⟨y, hy⟩ : ∃ y, y = tailF n q (m + 1) G := ⟨_, rfl⟩
      obtain ⟨x2, hx2⟩ : ∃ x, x = tailF n q m F := ⟨_, rfl⟩
      obtain ⟨y2, hy2⟩ : ∃ y, y = tailF n q m G := ⟨_, rfl⟩
      rw [← hx] at HJ HLX HNX
      rw [← hy] at HJ HLY HNY
      rw [← hx2] at HNX HSX
      rw [← hy2] at HNY HSY
      have HX2 := hid hx2
      have HY2 := hid hy2
      clear hx hy hx2 hy2 e ht
      go_wp2
      go_loopw [8] (fun vk wr => ∃ k : Nat, k ≤ n ∧ vk = .int .i64 (k : Int) ∧ Hid (VS w (x * 2 ^ k) (y * 2 ^ k) wr)) (fun vk _ => n - (intOf vk).toNat)
      case atStart => exact ⟨0, Nat.zero_le _, rfl, by rw [Nat.pow_zero, Nat.mul_one, Nat.mul_one]; exact HJ⟩
      case round =>
        obtain ⟨k, hk, rfl, HK⟩ := hrel
        by_cases hkn : k < n
        · obtain ⟨x', hx'⟩ : ∃ x', x' = x * 2 ^ (k + 1) := ⟨_, rfl⟩
          obtain ⟨y', hy'⟩ : ∃ y', y' = y * 2 ^ (k + 1) := ⟨_, rfl⟩
          have d1 := dbl hx' (by rw [hx']; exact HLX.out (k + 1) hkn)
          have d2 := dbl hy' (by rw [hy']; exact HLY.out (k + 1) hkn)
          obtain ⟨x0, hx0⟩ : ∃ x0, x0 = x * 2 ^ k := ⟨_, rfl⟩
          obtain ⟨y0, hy0⟩ : ∃ y0, y0 = y * 2 ^ k := ⟨_, rfl⟩
          rw [← hx0] at d1 HK
          rw [← hy0] at d2 HK
          have v1 := HK.out.2.2.at (k := 1) (v := .int .u64 x0) rfl
          have v2 := HK.out.2.2.at (k := 2) (v := .int .u64 y0) rfl
          have g1 := HK.out.2.2.free 1
          have g2 := HK.out.2.2.free 2
          have HN := hid ((VS.lo (x' := x') HK.out).hi (y' := y'))
          have HE := hid (And.intro hx' hy')
          clear hx' hy' hx0 hy0
          go_wp2
          go_roundw
          case rel => exact ⟨k + 1, hkn, by go_num, by rw [← HE.out.1, ← HE.out.2]; exact HN⟩
          case measure => simp [intOf]; omega
        · obtain rfl : k = n := by omega
          obtain ⟨x0, hx0⟩ : ∃ x0, x0 = x * 2 ^ k := ⟨_, rfl⟩
          obtain ⟨y0, hy0⟩ : ∃ y0, y0 = y * 2 ^ k := ⟨_, rfl⟩
          rw [← hx0] at HK HNX
          rw [← hy0] at HK HNY
          have HUl := fun W => HCU (F m) HFl.out W
          have HUh := fun W => HCU (F t) HFh.out W
          have ax := addc HNX.out HSX.out
          have ay := addc HNY.out HSY.out
          obtain ⟨zl, hzl⟩ : ∃ z, z = F m % 2 ^ k := ⟨_, rfl⟩
          obtain ⟨zh, hzh⟩ : ∃ z, z = F t % 2 ^ k := ⟨_, rfl⟩
          rw [← hzl] at HUl ax
          rw [← hzh] at HUh ay
          clear hzl hzh hx0 hy0 hkn HLX HLY
          have HKD := HK
          go_upto_region 11 with fail
          have HJW := HK.out.drew
          have hS := HJW.1
          clear HK HKD HJ
          refine wp_region_held_drew (S := Below w.heap.size w) (by kernel_rfl) hS (fun _ => ?_)
          generalize wr.drew = W at *
          refine wpAnyH_take (oi := ⟨_, _, _, _, _, _⟩) (i := 0) (v := .pointer (some ⟨w.heap.size + 1, 1, none⟩)) rfl (by kernel_rfl) (by kernel_rfl) (by kernel_rfl) (fun _ _ _ h => h) (Or.inl ⟨by rfl, ?_⟩) (by assumption) ?_
          · (intro W hSw; have wi := HWI.out; have y1 := (hSw.cell (p := ⟨g, o + (m), none⟩) hg).trans hcl; go_simp; try (with_reducible rfl))
          try simp only [Act.put, List.setIfInBounds_toArray, List.set_cons_zero, List.set_cons_succ]
          refine wpAnyH_take (oi := ⟨_, _, _, _, _, _⟩) (i := 2) (v := .int .i64 k) rfl (by kernel_rfl) (by kernel_rfl) (by kernel_rfl) (fun _ _ _ h => h) (Or.inl ⟨by rfl, ?_⟩) (by assumption) ?_
          · (intro W hSw; have wi := HWI.out; have y1 := (hSw.cell (p := ⟨g, o + (m), none⟩) hg).trans hcl; go_simp; try (with_reducible rfl))
          try simp only [Act.put, List.setIfInBounds_toArray, List.set_cons_zero, List.set_cons_succ]
          refine wpAnyH_take (oi := ⟨_, _, _, _, _, _⟩) (i := 3) (v := .slice (some ⟨g, o, none⟩) c cap) rfl (by kernel_rfl) (by kernel_rfl) (by kernel_rfl) (fun _ _ _ h => h) (Or.inl ⟨by rfl, ?_⟩) (by assumption) ?_
          · (intro W hSw; have wi := HWI.out; have y1 := (hSw.cell (p := ⟨g, o + (m), none⟩) hg).trans hcl; go_simp; try (with_reducible rfl))
          try simp only [Act.put, List.setIfInBounds_toArray, List.set_cons_zero, List.set_cons_succ]
          refine wpAnyH_take (oi := ⟨_, _, _, _, _, _⟩) (i := 4) (v := .int .i64 m) rfl (by kernel_rfl) (by kernel_rfl) (by kernel_rfl) (fun _ _ _ h => h) (Or.inl ⟨by rfl, ?_⟩) (by assumption) ?_
          · (intro W hSw; have wi := HWI.out; have y1 := (hSw.cell (p := ⟨g, o + (m), none⟩) hg).trans hcl; go_simp; try (with_reducible rfl))
          try simp only [Act.put, List.setIfInBounds_toArray, List.set_cons_zero, List.set_cons_succ]
          refine wpAnyH_take (oi := ⟨_, _, _, _, _, _⟩) (i := 5) (v := .pointer (some ⟨g, o + m, none⟩)) rfl (by kernel_rfl) (by kernel_rfl) (by kernel_rfl) (fun _ _ _ h => h) (Or.inl ⟨by rfl, ?_⟩) (by assumption) ?_
          · (intro W hSw; have wi := HWI.out; have y1 := (hSw.cell (p := ⟨g, o + (m), none⟩) hg).trans hcl; go_simp; try (with_reducible rfl))
          try simp only [Act.put, List.setIfInBounds_toArray, List.set_cons_zero, List.set_cons_succ]
          refine wpAnyH_take (oi := ⟨_, _, _, _, _, _⟩) (i := 6) (v := .int .u64 (F m : Nat)) rfl (by kernel_rfl) (by kernel_rfl) (by kernel_rfl) (fun _ _ _ h => h) (Or.inl ⟨by rfl, ?_⟩) (by assumption) ?_
          · (intro W hSw; have wi := HWI.out; have y1 := (hSw.cell (p := ⟨g, o + (m), none⟩) hg).trans hcl; go_simp; try (with_reducible rfl))
          try simp only [Act.put, List.setIfInBounds_toArray, List.set_cons_zero, List.set_cons_succ]
          refine wpAnyH_ready (rs := [1, 7]) (by kernel_rfl) (by simp) ?_
          refine AllReadyH.cons (o := ⟨_, _, _, _, _, _⟩) rfl (fun K hK => ?_) ?_
          · have z1 := HJW.2.2.at (k := 1) (v := .int .u64 x0) rfl
            go_simp
            clear z1
            refine hK.out _ _ hS (fun _ => ?_)
            clear hK K
            try simp only [Act.put, List.setIfInBounds_toArray, List.set_cons_zero, List.set_cons_succ]
            refine wpAnyH_ready (rs := [7]) (by kernel_rfl) (by simp) ?_
            refine AllReadyH.cons (o := ⟨_, _, _, _, _, _⟩) rfl (fun K hK => ?_) ?_
            · go_simp
              go_at_call 81
              (with_reducible refine (HUl _).out.mono ?_)
              rintro e W111 ⟨rfl, hb⟩
              replace hS : Below w.heap.size w W111 := hb ▸ hS
              replace HJW := VS.call HJW hb
              clear hb
              refine hK.out _ _ hS (fun _ => ?_)
              clear hK K
              try simp only [Act.put, List.setIfInBounds_toArray, List.set_cons_zero, List.set_cons_succ]
              refine wpAnyH_take (oi := ⟨_, _, _, _, _, _⟩) (i := 8) (v := .int .u64 x2) rfl (by kernel_rfl) (by kernel_rfl) (by kernel_rfl) (fun _ _ _ h => h) (Or.inl ⟨by rfl, ?_⟩) (by assumption) ?_
              · (intro W hSw; have wi := HWI.out; have y1 := (hSw.cell (p := ⟨g, o + (m), none⟩) hg).trans hcl; go_simp; try (with_reducible rfl))
              try simp only [Act.put, List.setIfInBounds_toArray, List.set_cons_zero, List.set_cons_succ]
              refine wpAnyH_take (oi := ⟨_, _, _, _, _, _⟩) (i := 9) (v := .pointer (some ⟨w.heap.size + 1, 1, none⟩)) rfl (by kernel_rfl) (by kernel_rfl) (by kernel_rfl) (fun _ _ _ h => h) (Or.inl ⟨by rfl, ?_⟩) (by assumption) ?_
              · (intro W hSw; have wi := HWI.out; have y1 := (hSw.cell (p := ⟨g, o + (m), none⟩) hg).trans hcl; go_simp; try (with_reducible rfl))
              try simp only [Act.put, List.setIfInBounds_toArray, List.set_cons_zero, List.set_cons_succ]
              refine wpAnyH_ready (rs := [10]) (by kernel_rfl) (by simp) ?_
              refine AllReadyH.cons (o := ⟨_, _, _, _, _, _⟩) rfl (fun K hK => ?_) ?_
              · have z1 := HJW.2.2.at (k := 1) (v := .int .u64 x0) rfl
                have z2 := HJW.2.2.free 1
                go_simp
                clear z1 z2
                replace HJW := VS.lo (x' := x2) HJW
                have hS2 := HJW.1
                clear hS
                have hS := hS2
                clear hS2
                generalize W111.setCell ⟨w.heap.size + 1, 1, none⟩ (.int .u64 (x2 : Nat)) = V11 at *
                refine hK.out _ _ hS (fun _ => ?_)
                clear hK K
                try simp only [Act.put, List.setIfInBounds_toArray, List.set_cons_zero, List.set_cons_succ]
                refine wpAnyH_done (by kernel_rfl) ?_ _
                go_upto_region 12 with fail
                replace HJW := HJW.drew
                clear hS
                have hS := HJW.1
                refine wp_region_held_drew (S := Below w.heap.size w) (by kernel_rfl) hS (fun _ => ?_)
                generalize V11.drew = W at *
                refine wpAnyH_take (oi := ⟨_, _, _, _, _, _⟩) (i := 0) (v := .pointer (some ⟨w.heap.size + 1, 2, none⟩)) rfl (by kernel_rfl) (by kernel_rfl) (by kernel_rfl) (fun _ _ _ h => h) (Or.inl ⟨by rfl, ?_⟩) (by assumption) ?_
                · (intro W hSw; have wi := HWI.out; have y1 := (hSw.cell (p := ⟨g, o + (t), none⟩) hg).trans hch; go_simp; try (with_reducible rfl))
                try simp only [Act.put, List.setIfInBounds_toArray, List.set_cons_zero, List.set_cons_succ]
                refine wpAnyH_take (oi := ⟨_, _, _, _, _, _⟩) (i := 2) (v := .int .i64 k) rfl (by kernel_rfl) (by kernel_rfl) (by kernel_rfl) (fun _ _ _ h => h) (Or.inl ⟨by rfl, ?_⟩) (by assumption) ?_
                · (intro W hSw; have wi := HWI.out; have y1 := (hSw.cell (p := ⟨g, o + (t), none⟩) hg).trans hch; go_simp; try (with_reducible rfl))
                try simp only [Act.put, List.setIfInBounds_toArray, List.set_cons_zero, List.set_cons_succ]
                refine wpAnyH_take (oi := ⟨_, _, _, _, _, _⟩) (i := 3) (v := .slice (some ⟨g, o, none⟩) c cap) rfl (by kernel_rfl) (by kernel_rfl) (by kernel_rfl) (fun _ _ _ h => h) (Or.inl ⟨by rfl, ?_⟩) (by assumption) ?_
                · (intro W hSw; have wi := HWI.out; have y1 := (hSw.cell (p := ⟨g, o + (t), none⟩) hg).trans hch; go_simp; try (with_reducible rfl))
                try simp only [Act.put, List.setIfInBounds_toArray, List.set_cons_zero, List.set_cons_succ]
                refine wpAnyH_take (oi := ⟨_, _, _, _, _, _⟩) (i := 4) (v := .int .i64 m) rfl (by kernel_rfl) (by kernel_rfl) (by kernel_rfl) (fun _ _ _ h => h) (Or.inl ⟨by rfl, ?_⟩) (by assumption) ?_
                · (intro W hSw; have wi := HWI.out; have y1 := (hSw.cell (p := ⟨g, o + (t), none⟩) hg).trans hch; go_simp; try (with_reducible rfl))
                try simp only [Act.put, List.setIfInBounds_toArray, List.set_cons_zero, List.set_cons_succ]
                refine wpAnyH_take (oi := ⟨_, _, _, _, _, _⟩) (i := 5) (v := .int .i64 q) rfl (by kernel_rfl) (by kernel_rfl) (by kernel_rfl) (fun _ _ _ h => h) (Or.inl ⟨by rfl, ?_⟩) (by assumption) ?_
                · (intro W hSw; have wi := HWI.out; have y1 := (hSw.cell (p := ⟨g, o + (t), none⟩) hg).trans hch; go_simp; try (with_reducible rfl))
                try simp only [Act.put, List.setIfInBounds_toArray, List.set_cons_zero, List.set_cons_succ]
                refine wpAnyH_take (oi := ⟨_, _, _, _, _, _⟩) (i := 6) (v := .int .i64 (t : Int)) rfl (by kernel_rfl) (by kernel_rfl) (by kernel_rfl) (fun _ _ _ h => h) (Or.inl ⟨by rfl, ?_⟩) (by assumption) ?_
                · (intro W hSw; have wi := HWI.out; have y1 := (hSw.cell (p := ⟨g, o + (t), none⟩) hg).trans hch; go_simp; try (with_reducible rfl))
                try simp only [Act.put, List.setIfInBounds_toArray, List.set_cons_zero, List.set_cons_succ]
                refine wpAnyH_take (oi := ⟨_, _, _, _, _, _⟩) (i := 7) (v := .pointer (some ⟨g, o + t, none⟩)) rfl (by kernel_rfl) (by kernel_rfl) (by kernel_rfl) (fun _ _ _ h => h) (Or.inl ⟨by rfl, ?_⟩) (by assumption) ?_
                · (intro W hSw; have wi := HWI.out; have y1 := (hSw.cell (p := ⟨g, o + (t), none⟩) hg).trans hch; go_simp; try (with_reducible rfl))
                try simp only [Act.put, List.setIfInBounds_toArray, List.set_cons_zero, List.set_cons_succ]
                refine wpAnyH_take (oi := ⟨_, _, _, _, _, _⟩) (i := 8) (v := .int .u64 (F t : Nat)) rfl (by kernel_rfl) (by kernel_rfl) (by kernel_rfl) (fun _ _ _ h => h) (Or.inl ⟨by rfl, ?_⟩) (by assumption) ?_
                · (intro W hSw; have wi := HWI.out; have y1 := (hSw.cell (p := ⟨g, o + (t), none⟩) hg).trans hch; go_simp; try (with_reducible rfl))
                try simp only [Act.put, List.setIfInBounds_toArray, List.set_cons_zero, List.set_cons_succ]
                refine wpAnyH_ready (rs := [1, 9]) (by kernel_rfl) (by simp) ?_
                refine AllReadyH.cons (o := ⟨_, _, _, _, _, _⟩) rfl (fun K hK => ?_) ?_
                · have z1 := HJW.2.2.at (k := 2) (v := .int .u64 y0) rfl
                  go_simp
                  clear z1
                  refine hK.out _ _ hS (fun _ => ?_)
                  clear hK K
                  try simp only [Act.put, List.setIfInBounds_toArray, List.set_cons_zero, List.set_cons_succ]
                  refine wpAnyH_ready (rs := [9]) (by kernel_rfl) (by simp) ?_
                  refine AllReadyH.cons (o := ⟨_, _, _, _, _, _⟩) rfl (fun K hK => ?_) ?_
                  · go_simp
                    go_at_call 81
                    (with_reducible refine (HUh _).out.mono ?_)
                    rintro e W121 ⟨rfl, hb⟩
                    replace hS : Below w.heap.size w W121 := hb ▸ hS
                    replace HJW := VS.call HJW hb
                    clear hb
                    refine hK.out _ _ hS (fun _ => ?_)
                    clear hK K
                    try simp only [Act.put, List.setIfInBounds_toArray, List.set_cons_zero, List.set_cons_succ]
                    refine wpAnyH_take (oi := ⟨_, _, _, _, _, _⟩) (i := 10) (v := .int .u64 y2) rfl (by kernel_rfl) (by kernel_rfl) (by kernel_rfl) (fun _ _ _ h => h) (Or.inl ⟨by rfl, ?_⟩) (by assumption) ?_
                    · (intro W hSw; have wi := HWI.out; have y1 := (hSw.cell (p := ⟨g, o + (t), none⟩) hg).trans hch; go_simp; try (with_reducible rfl))
                    try simp only [Act.put, List.setIfInBounds_toArray, List.set_cons_zero, List.set_cons_succ]
                    refine wpAnyH_take (oi := ⟨_, _, _, _, _, _⟩) (i := 11) (v := .pointer (some ⟨w.heap.size + 1, 2, none⟩)) rfl (by kernel_rfl) (by kernel_rfl) (by kernel_rfl) (fun _ _ _ h => h) (Or.inl ⟨by rfl, ?_⟩) (by assumption) ?_
                    · (intro W hSw; have wi := HWI.out; have y1 := (hSw.cell (p := ⟨g, o + (t), none⟩) hg).trans hch; go_simp; try (with_reducible rfl))
                    try simp only [Act.put, List.setIfInBounds_toArray, List.set_cons_zero, List.set_cons_succ]
                    refine wpAnyH_ready (rs := [12]) (by kernel_rfl) (by simp) ?_
                    refine AllReadyH.cons (o := ⟨_, _, _, _, _, _⟩) rfl (fun K hK => ?_) ?_
                    · have z1 := HJW.2.2.at (k := 2) (v := .int .u64 y0) rfl
                      have z2 := HJW.2.2.free 2
                      go_simp
                      clear z1 z2
                      replace HJW := VS.hi (y' := y2) HJW
                      have hS2 := HJW.1
                      clear hS
                      have hS := hS2
                      clear hS2
                      generalize W121.setCell ⟨w.heap.size + 1, 2, none⟩ (.int .u64 (y2 : Nat)) = V12 at *
                      refine hK.out _ _ hS (fun _ => ?_)
                      clear hK K
                      try simp only [Act.put, List.setIfInBounds_toArray, List.set_cons_zero, List.set_cons_succ]
                      refine wpAnyH_done (by kernel_rfl) ?_ _
                      go_wp2_with fail
                      go_roundw
                      case rel => exact ⟨m, by omega, by go_num, by rw [← HX2.out, ← HY2.out]; exact HJW⟩
                      case measure => (simp [intOf])
                    exact AllReadyH.nil
                  exact AllReadyH.nil
                refine AllReadyH.cons (o := ⟨_, _, _, _, _, _⟩) rfl (fun K hK => ?_) ?_
                · go_simp
                  go_at_call 81
                  (with_reducible refine (HUh _).out.mono ?_)
                  rintro e W121 ⟨rfl, hb⟩
                  replace hS : Below w.heap.size w W121 := hb ▸ hS
                  replace HJW := VS.call HJW hb
                  clear hb
                  refine hK.out _ _ hS (fun _ => ?_)
                  clear hK K
                  try simp only [Act.put, List.setIfInBounds_toArray, List.set_cons_zero, List.set_cons_succ]
                  refine wpAnyH_ready (rs := [1]) (by kernel_rfl) (by simp) ?_
                  refine AllReadyH.cons (o := ⟨_, _, _, _, _, _⟩) rfl (fun K hK => ?_) ?_
                  · have z1 := HJW.2.2.at (k := 2) (v := .int .u64 y0) rfl
                    go_simp
                    clear z1
                    refine hK.out _ _ hS (fun _ => ?_)
                    clear hK K
                    try simp only [Act.put, List.setIfInBounds_toArray, List.set_cons_zero, List.set_cons_succ]
                    refine wpAnyH_take (oi := ⟨_, _, _, _, _, _⟩) (i := 10) (v := .int .u64 y2) rfl (by kernel_rfl) (by kernel_rfl) (by kernel_rfl) (fun _ _ _ h => h) (Or.inl ⟨by rfl, ?_⟩) (by assumption) ?_
                    · (intro W hSw; have wi := HWI.out; have y1 := (hSw.cell (p := ⟨g, o + (t), none⟩) hg).trans hch; go_simp; try (with_reducible rfl))
                    try simp only [Act.put, List.setIfInBounds_toArray, List.set_cons_zero, List.set_cons_succ]
                    refine wpAnyH_take (oi := ⟨_, _, _, _, _, _⟩) (i := 11) (v := .pointer (some ⟨w.heap.size + 1, 2, none⟩)) rfl (by kernel_rfl) (by kernel_rfl) (by kernel_rfl) (fun _ _ _ h => h) (Or.inl ⟨by rfl, ?_⟩) (by assumption) ?_
                    · (intro W hSw; have wi := HWI.out; have y1 := (hSw.cell (p := ⟨g, o + (t), none⟩) hg).trans hch; go_simp; try (with_reducible rfl))
                    try simp only [Act.put, List.setIfInBounds_toArray, List.set_cons_zero, List.set_cons_succ]
                    refine wpAnyH_ready (rs := [12]) (by kernel_rfl) (by simp) ?_
                    refine AllReadyH.cons (o := ⟨_, _, _, _, _, _⟩) rfl (fun K hK => ?_) ?_
                    · have z1 := HJW.2.2.at (k := 2) (v := .int .u64 y0) rfl
                      have z2 := HJW.2.2.free 2
                      go_simp
                      clear z1 z2
                      replace HJW := VS.hi (y' := y2) HJW
                      have hS2 := HJW.1
                      clear hS
                      have hS := hS2
                      clear hS2
                      generalize W121.setCell ⟨w.heap.size + 1, 2, none⟩ (.int .u64 (y2 : Nat)) = V12 at *
                      refine hK.out _ _ hS (fun _ => ?_)
                      clear hK K
                      try simp only [Act.put, List.setIfInBounds_toArray, List.set_cons_zero, List.set_cons_succ]
                      refine wpAnyH_done (by kernel_rfl) ?_ _
                      go_wp2_with fail
                      go_roundw
                      case rel => exact ⟨m, by omega, by go_num, by rw [← HX2.out, ← HY2.out]; exact HJW⟩
                      case measure => (simp [intOf])
                    exact AllReadyH.nil
                  exact AllReadyH.nil
                exact AllReadyH.nil
              exact AllReadyH.nil
            exact AllReadyH.nil
          refine AllReadyH.cons (o := ⟨_, _, _, _, _, _⟩) rfl (fun K hK => ?_) ?_
          · go_simp
            go_at_call 81
            (with_reducible refine (HUl _).out.mono ?_)
            rintro e W111 ⟨rfl, hb⟩
            replace hS : Below w.heap.size w W111 := hb ▸ hS
            replace HJW := VS.call HJW hb
            clear hb
            refine hK.out _ _ hS (fun _ => ?_)
            clear hK K
            try simp only [Act.put, List.setIfInBounds_toArray, List.set_cons_zero, List.set_cons_succ]
            refine wpAnyH_ready (rs := [1]) (by kernel_rfl) (by simp) ?_
            refine AllReadyH.cons (o := ⟨_, _, _, _, _, _⟩) rfl (fun K hK => ?_) ?_
            · have z1 := HJW.2.2.at (k := 1) (v := .int .u64 x0) rfl
              go_simp
              clear z1
              refine hK.out _ _ hS (fun _ => ?_)
              clear hK K
              try simp only [Act.put, List.setIfInBounds_toArray, List.set_cons_zero, List.set_cons_succ]
              refine wpAnyH_take (oi := ⟨_, _, _, _, _, _⟩) (i := 8) (v := .int .u64 x2) rfl (by kernel_rfl) (by kernel_rfl) (by kernel_rfl) (fun _ _ _ h => h) (Or.inl ⟨by rfl, ?_⟩) (by assumption) ?_
              · (intro W hSw; have wi := HWI.out; have y1 := (hSw.cell (p := ⟨g, o + (m), none⟩) hg).trans hcl; go_simp; try (with_reducible rfl))
              try simp only [Act.put, List.setIfInBounds_toArray, List.set_cons_zero, List.set_cons_succ]
              refine wpAnyH_take (oi := ⟨_, _, _, _, _, _⟩) (i := 9) (v := .pointer (some ⟨w.heap.size + 1, 1, none⟩)) rfl (by kernel_rfl) (by kernel_rfl) (by kernel_rfl) (fun _ _ _ h => h) (Or.inl ⟨by rfl, ?_⟩) (by assumption) ?_
              · (intro W hSw; have wi := HWI.out; have y1 := (hSw.cell (p := ⟨g, o + (m), none⟩) hg).trans hcl; go_simp; try (with_reducible rfl))
              try simp only [Act.put, List.setIfInBounds_toArray, List.set_cons_zero, List.set_cons_succ]
              refine wpAnyH_ready (rs := [10]) (by kernel_rfl) (by simp) ?_
              refine AllReadyH.cons (o := ⟨_, _, _, _, _, _⟩) rfl (fun K hK => ?_) ?_
              · have z1 := HJW.2.2.at (k := 1) (v := .int .u64 x0) rfl
                have z2 := HJW.2.2.free 1
                go_simp
                clear z1 z2
                replace HJW := VS.lo (x' := x2) HJW
                have hS2 := HJW.1
                clear hS
                have hS := hS2
                clear hS2
                generalize W111.setCell ⟨w.heap.size + 1, 1, none⟩ (.int .u64 (x2 : Nat)) = V11 at *
                refine hK.out _ _ hS (fun _ => ?_)
                clear hK K
                try simp only [Act.put, List.setIfInBounds_toArray, List.set_cons_zero, List.set_cons_succ]
                refine wpAnyH_done (by kernel_rfl) ?_ _
                go_upto_region 12 with fail
                replace HJW := HJW.drew
                clear hS
                have hS := HJW.1
                refine wp_region_held_drew (S := Below w.heap.size w) (by kernel_rfl) hS (fun _ => ?_)
                generalize V11.drew = W at *
                refine wpAnyH_take (oi := ⟨_, _, _, _, _, _⟩) (i := 0) (v := .pointer (some ⟨w.heap.size + 1, 2, none⟩)) rfl (by kernel_rfl) (by kernel_rfl) (by kernel_rfl) (fun _ _ _ h => h) (Or.inl ⟨by rfl, ?_⟩) (by assumption) ?_
                · (intro W hSw; have wi := HWI.out; have y1 := (hSw.cell (p := ⟨g, o + (t), none⟩) hg).trans hch; go_simp; try (with_reducible rfl))
                try simp only [Act.put, List.setIfInBounds_toArray, List.set_cons_zero, List.set_cons_succ]
                refine wpAnyH_take (oi := ⟨_, _, _, _, _, _⟩) (i := 2) (v := .int .i64 k) rfl (by kernel_rfl) (by kernel_rfl) (by kernel_rfl) (fun _ _ _ h => h) (Or.inl ⟨by rfl, ?_⟩) (by assumption) ?_
                · (intro W hSw; have wi := HWI.out; have y1 := (hSw.cell (p := ⟨g, o + (t), none⟩) hg).trans hch; go_simp; try (with_reducible rfl))
                try simp only [Act.put, List.setIfInBounds_toArray, List.set_cons_zero, List.set_cons_succ]
                refine wpAnyH_take (oi := ⟨_, _, _, _, _, _⟩) (i := 3) (v := .slice (some ⟨g, o, none⟩) c cap) rfl (by kernel_rfl) (by kernel_rfl) (by kernel_rfl) (fun _ _ _ h => h) (Or.inl ⟨by rfl, ?_⟩) (by assumption) ?_
                · (intro W hSw; have wi := HWI.out; have y1 := (hSw.cell (p := ⟨g, o + (t), none⟩) hg).trans hch; go_simp; try (with_reducible rfl))
                try simp only [Act.put, List.setIfInBounds_toArray, List.set_cons_zero, List.set_cons_succ]
                refine wpAnyH_take (oi := ⟨_, _, _, _, _, _⟩) (i := 4) (v := .int .i64 m) rfl (by kernel_rfl) (by kernel_rfl) (by kernel_rfl) (fun _ _ _ h => h) (Or.inl ⟨by rfl, ?_⟩) (by assumption) ?_
                · (intro W hSw; have wi := HWI.out; have y1 := (hSw.cell (p := ⟨g, o + (t), none⟩) hg).trans hch; go_simp; try (with_reducible rfl))
                try simp only [Act.put, List.setIfInBounds_toArray, List.set_cons_zero, List.set_cons_succ]
                refine wpAnyH_take (oi := ⟨_, _, _, _, _, _⟩) (i := 5) (v := .int .i64 q) rfl (by kernel_rfl) (by kernel_rfl) (by kernel_rfl) (fun _ _ _ h => h) (Or.inl ⟨by rfl, ?_⟩) (by assumption) ?_
                · (intro W hSw; have wi := HWI.out; have y1 := (hSw.cell (p := ⟨g, o + (t), none⟩) hg).trans hch; go_simp; try (with_reducible rfl))
                try simp only [Act.put, List.setIfInBounds_toArray, List.set_cons_zero, List.set_cons_succ]
                refine wpAnyH_take (oi := ⟨_, _, _, _, _, _⟩) (i := 6) (v := .int .i64 (t : Int)) rfl (by kernel_rfl) (by kernel_rfl) (by kernel_rfl) (fun _ _ _ h => h) (Or.inl ⟨by rfl, ?_⟩) (by assumption) ?_
                · (intro W hSw; have wi := HWI.out; have y1 := (hSw.cell (p := ⟨g, o + (t), none⟩) hg).trans hch; go_simp; try (with_reducible rfl))
                try simp only [Act.put, List.setIfInBounds_toArray, List.set_cons_zero, List.set_cons_succ]
                refine wpAnyH_take (oi := ⟨_, _, _, _, _, _⟩) (i := 7) (v := .pointer (some ⟨g, o + t, none⟩)) rfl (by kernel_rfl) (by kernel_rfl) (by kernel_rfl) (fun _ _ _ h => h) (Or.inl ⟨by rfl, ?_⟩) (by assumption) ?_
                · (intro W hSw; have wi := HWI.out; have y1 := (hSw.cell (p := ⟨g, o + (t), none⟩) hg).trans hch; go_simp; try (with_reducible rfl))
                try simp only [Act.put, List.setIfInBounds_toArray, List.set_cons_zero, List.set_cons_succ]
                refine wpAnyH_take (oi := ⟨_, _, _, _, _, _⟩) (i := 8) (v := .int .u64 (F t : Nat)) rfl (by kernel_rfl) (by kernel_rfl) (by kernel_rfl) (fun _ _ _ h => h) (Or.inl ⟨by rfl, ?_⟩) (by assumption) ?_
                · (intro W hSw; have wi := HWI.out; have y1 := (hSw.cell (p := ⟨g, o + (t), none⟩) hg).trans hch; go_simp; try (with_reducible rfl))
                try simp only [Act.put, List.setIfInBounds_toArray, List.set_cons_zero, List.set_cons_succ]
                refine wpAnyH_ready (rs := [1, 9]) (by kernel_rfl) (by simp) ?_
                refine AllReadyH.cons (o := ⟨_, _, _, _, _, _⟩) rfl (fun K hK => ?_) ?_
                · have z1 := HJW.2.2.at (k := 2) (v := .int .u64 y0) rfl
                  go_simp
                  clear z1
                  refine hK.out _ _ hS (fun _ => ?_)
                  clear hK K
                  try simp only [Act.put, List.setIfInBounds_toArray, List.set_cons_zero, List.set_cons_succ]
                  refine wpAnyH_ready (rs := [9]) (by kernel_rfl) (by simp) ?_
                  refine AllReadyH.cons (o := ⟨_, _, _, _, _, _⟩) rfl (fun K hK => ?_) ?_
                  · go_simp
                    go_at_call 81
                    (with_reducible refine (HUh _).out.mono ?_)
                    rintro e W121 ⟨rfl, hb⟩
                    replace hS : Below w.heap.size w W121 := hb ▸ hS
                    replace HJW := VS.call HJW hb
                    clear hb
                    refine hK.out _ _ hS (fun _ => ?_)
                    clear hK K
                    try simp only [Act.put, List.setIfInBounds_toArray, List.set_cons_zero, List.set_cons_succ]
                    refine wpAnyH_take (oi := ⟨_, _, _, _, _, _⟩) (i := 10) (v := .int .u64 y2) rfl (by kernel_rfl) (by kernel_rfl) (by kernel_rfl) (fun _ _ _ h => h) (Or.inl ⟨by rfl, ?_⟩) (by assumption) ?_
                    · (intro W hSw; have wi := HWI.out; have y1 := (hSw.cell (p := ⟨g, o + (t), none⟩) hg).trans hch; go_simp; try (with_reducible rfl))
                    try simp only [Act.put, List.setIfInBounds_toArray, List.set_cons_zero, List.set_cons_succ]
                    refine wpAnyH_take (oi := ⟨_, _, _, _, _, _⟩) (i := 11) (v := .pointer (some ⟨w.heap.size + 1, 2, none⟩)) rfl (by kernel_rfl) (by kernel_rfl) (by kernel_rfl) (fun _ _ _ h => h) (Or.inl ⟨by rfl, ?_⟩) (by assumption) ?_
                    · (intro W hSw; have wi := HWI.out; have y1 := (hSw.cell (p := ⟨g, o + (t), none⟩) hg).trans hch; go_simp; try (with_reducible rfl))
                    try simp only [Act.put, List.setIfInBounds_toArray, List.set_cons_zero, List.set_cons_succ]
                    refine wpAnyH_ready (rs := [12]) (by kernel_rfl) (by simp) ?_
                    refine AllReadyH.cons (o := ⟨_, _, _, _, _, _⟩) rfl (fun K hK => ?_) ?_
                    · have z1 := HJW.2.2.at (k := 2) (v := .int .u64 y0) rfl
                      have z2 := HJW.2.2.free 2
                      go_simp
                      clear z1 z2
                      replace HJW := VS.hi (y' := y2) HJW
                      have hS2 := HJW.1
                      clear hS
                      have hS := hS2
                      clear hS2
                      generalize W121.setCell ⟨w.heap.size + 1, 2, none⟩ (.int .u64 (y2 : Nat)) = V12 at *
                      refine hK.out _ _ hS (fun _ => ?_)
                      clear hK K
                      try simp only [Act.put, List.setIfInBounds_toArray, List.set_cons_zero, List.set_cons_succ]
                      refine wpAnyH_done (by kernel_rfl) ?_ _
                      go_wp2_with fail
                      go_roundw
                      case rel => exact ⟨m, by omega, by go_num, by rw [← HX2.out, ← HY2.out]; exact HJW⟩
                      case measure => (simp [intOf])
                    exact AllReadyH.nil
                  exact AllReadyH.nil
                refine AllReadyH.cons (o := ⟨_, _, _, _, _, _⟩) rfl (fun K hK => ?_) ?_
                · go_simp
                  go_at_call 81
                  (with_reducible refine (HUh _).out.mono ?_)
                  rintro e W121 ⟨rfl, hb⟩
                  replace hS : Below w.heap.size w W121 := hb ▸ hS
                  replace HJW := VS.call HJW hb
                  clear hb
                  refine hK.out _ _ hS (fun _ => ?_)
                  clear hK K
                  try simp only [Act.put, List.setIfInBounds_toArray, List.set_cons_zero, List.set_cons_succ]
                  refine wpAnyH_ready (rs := [1]) (by kernel_rfl) (by simp) ?_
                  refine AllReadyH.cons (o := ⟨_, _, _, _, _, _⟩) rfl (fun K hK => ?_) ?_
                  · have z1 := HJW.2.2.at (k := 2) (v := .int .u64 y0) rfl
                    go_simp
                    clear z1
                    refine hK.out _ _ hS (fun _ => ?_)
                    clear hK K
                    try simp only [Act.put, List.setIfInBounds_toArray, List.set_cons_zero, List.set_cons_succ]
                    refine wpAnyH_take (oi := ⟨_, _, _, _, _, _⟩) (i := 10) (v := .int .u64 y2) rfl (by kernel_rfl) (by kernel_rfl) (by kernel_rfl) (fun _ _ _ h => h) (Or.inl ⟨by rfl, ?_⟩) (by assumption) ?_
                    · (intro W hSw; have wi := HWI.out; have y1 := (hSw.cell (p := ⟨g, o + (t), none⟩) hg).trans hch; go_simp; try (with_reducible rfl))
                    try simp only [Act.put, List.setIfInBounds_toArray, List.set_cons_zero, List.set_cons_succ]
                    refine wpAnyH_take (oi := ⟨_, _, _, _, _, _⟩) (i := 11) (v := .pointer (some ⟨w.heap.size + 1, 2, none⟩)) rfl (by kernel_rfl) (by kernel_rfl) (by kernel_rfl) (fun _ _ _ h => h) (Or.inl ⟨by rfl, ?_⟩) (by assumption) ?_
                    · (intro W hSw; have wi := HWI.out; have y1 := (hSw.cell (p := ⟨g, o + (t), none⟩) hg).trans hch; go_simp; try (with_reducible rfl))
                    try simp only [Act.put, List.setIfInBounds_toArray, List.set_cons_zero, List.set_cons_succ]
                    refine wpAnyH_ready (rs := [12]) (by kernel_rfl) (by simp) ?_
                    refine AllReadyH.cons (o := ⟨_, _, _, _, _, _⟩) rfl (fun K hK => ?_) ?_
                    · have z1 := HJW.2.2.at (k := 2) (v := .int .u64 y0) rfl
                      have z2 := HJW.2.2.free 2
                      go_simp
                      clear z1 z2
                      replace HJW := VS.hi (y' := y2) HJW
                      have hS2 := HJW.1
                      clear hS
                      have hS := hS2
                      clear hS2
                      generalize W121.setCell ⟨w.heap.size + 1, 2, none⟩ (.int .u64 (y2 : Nat)) = V12 at *
                      refine hK.out _ _ hS (fun _ => ?_)
                      clear hK K
                      try simp only [Act.put, List.setIfInBounds_toArray, List.set_cons_zero, List.set_cons_succ]
                      refine wpAnyH_done (by kernel_rfl) ?_ _
                      go_wp2_with fail
                      go_roundw
                      case rel => exact ⟨m, by omega, by go_num, by rw [← HX2.out, ← HY2.out]; exact HJW⟩
                      case measure => (simp [intOf])
                    exact AllReadyH.nil
                  exact AllReadyH.nil
                exact AllReadyH.nil
              exact AllReadyH.nil
            exact AllReadyH.nil
          exact AllReadyH.nil
end Go.Proofs.YtlhakbkdlgejpaaGreatDoor
namespace Go.Proofs.YtlhakbkdlgejpaaGreatDoor
open Go.RowKit
/-- No word of a text is a shape. -/
def noSh : Nat → List UInt8 → Bool
  | 0, l => l == []
  | m + 1, l => (l == []) || ((biL (headC l 95) == 0) && noSh m (tailC l 95))
end Go.Proofs.YtlhakbkdlgejpaaGreatDoor
