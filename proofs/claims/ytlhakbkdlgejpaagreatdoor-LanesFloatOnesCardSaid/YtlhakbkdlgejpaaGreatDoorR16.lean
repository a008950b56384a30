/-
  LRSplit: merged, what the law does not reach left out (each text says what it holds where it lies in wip). No condition.
-/
import Derived.Test.YtlhakbkdlgejpaaGreatDoorR06
import Derived.Test.YtlhakbkdlgejpaaGreatDoorR04
set_option linter.unusedSimpArgs false
set_option linter.unusedVariables false
set_option maxRecDepth 100000
namespace Go.Proofs.YtlhakbkdlgejpaaGreatDoor
open Go.RowKit
set_option maxHeartbeats 4000000 in
set_option maxRecDepth 100000 in
theorem RSplit_says (n : Nat) (hn : Okn n) (t : Int) (lo hi : Nat) (nl : Bool) (hl : lo < 18446744073709551616) (hh : hi < 18446744073709551616) (w : World) :
    Calls Tryz.prog 126 #[.int .i64 n, vv t lo hi nl] w (LPost w (cnt n) (splitF n lo hi)) := by
  have HC := fun W => hid (Right_yes n hn W)
  have HXC := fun (a : Nat) (ha : a < 18446744073709551616) W => hid (Cut_any n hn a ha W)
  have hn8 := hn.le
  have hn0 : 0 < (n : Int) := by omega
  have HQ2 : Hid (cnt n = 2 * (64 / n)) := by show cnt n = 2 * (64 / n); rcases hn.cases with ⟨_, h, h'⟩ | ⟨_, h, h'⟩ | ⟨_, h, h'⟩ | ⟨_, h, h'⟩ <;> omega
  have HS := fun h j hh hj => hid (split_step hn lo hi h j hh hj)
  have hqi : (64 : Int) / (n : Int) = ((64 / n : Nat) : Int) := by simp
  have hq8 : 64 / n ≤ 8 := by rcases hn.cases with ⟨_, h, _⟩ | ⟨_, h, _⟩ | ⟨_, h, _⟩ | ⟨_, h, _⟩ <;> omega
  obtain ⟨q, hqe⟩ : ∃ q, q = 64 / n := ⟨_, rfl⟩
  rw [← hqe] at HQ2 HS hqi hq8
  have HL := hid hl
  have HH := hid hh
  obtain ⟨G, hG⟩ : ∃ G, G = splitF n lo hi := ⟨_, rfl⟩
  rw [← hG] at HS ⊢
  obtain ⟨c, hce⟩ : ∃ c, c = cnt n := ⟨_, rfl⟩
  rw [← hce] at HQ2 ⊢
  clear hce hn hqe hG hl hh
  unfold vv
  go_enter Tryz.func126, Tryz.ntmps126
  go_wp2_with (first
    | (go_at_call 196; refine (HC _).out.mono ?_; rintro e w' ⟨rfl, rfl⟩))
  have HW0 : Hid (Below w.heap.size w (w.alloc (.cells #[.int .i64 t, .int .u64 (lo : Nat), .int .u64 (hi : Nat), .bool nl] 24)) ∧ CA w.heap.size #[.int .i64 t, .int .u64 (lo : Nat), .int .u64 (hi : Nat), .bool nl] 24 (w.alloc (.cells #[.int .i64 t, .int .u64 (lo : Nat), .int .u64 (hi : Nat), .bool nl] 24)) ∧ (w.alloc (.cells #[.int .i64 t, .int .u64 (lo : Nat), .int .u64 (hi : Nat), .bool nl] 24)).heap.size = w.heap.size + 1) := ⟨(Below.refl _ _).alloc (Nat.le_refl _) _, CA.new w _ 24, by simp⟩
  generalize w.alloc (.cells #[.int .i64 t, .int .u64 (lo : Nat), .int .u64 (hi : Nat), .bool nl] 24) = W0 at *
  go_loopw [6, 7] (fun vo vi wr => ∃ h : Nat, h ≤ 2 ∧ vi = .int .i64 h ∧ wr.ownsRow (w.heap.size + 1) 22 1 vo (h * q) (fc (h * q) G) ∧ Below (w.heap.size + 1) W0 wr) (fun _ vi _ => 2 - (intOf vi).toNat)
  case atStart => exact ⟨0, Nat.zero_le _, rfl, by simpa [fc] using World.ownsRow_nil _ (w.heap.size + 1) 22 1, Below.refl _ _⟩
  case round =>
    obtain ⟨h, hh, rfl, hown, hB⟩ := hrel
    have hwr := hB.size
    rw [HW0.out.2.2] at hwr
    have hA := (HW0.out.2.1.below hB (by omega)).at (k := 1) (v := .int .u64 lo) rfl
    have hA2 := (HW0.out.2.1.below hB (by omega)).at (k := 2) (v := .int .u64 hi) rfl
    rcases (show h = 0 ∨ h = 1 ∨ h = 2 by omega) with rfl | rfl | rfl
    · have HW := hid hown
      have HBB := hid hB
      clear hown hB
      rw [show ((0 : Nat) : Int) = 0 from rfl]
      go_wp2
      go_loopw [6, 8, 9] (fun vo vw vi wr => ∃ j : Nat, j ≤ q ∧ vi = .int .i64 (j : Int) ∧ vw = .int .u64 ((lo / 2 ^ (n * j) : Nat) : Int) ∧ wr.ownsRow (w.heap.size + 1) 22 1 vo (0 * q + j) (fc (0 * q + j) G) ∧ Below (w.heap.size + 1) W0 wr) (fun _ _ vi _ => q - (intOf vi).toNat)
      case atStart => exact ⟨0, Nat.zero_le _, rfl, by rw [Nat.mul_zero, Nat.pow_zero, Nat.div_one], HW.out, HBB.out⟩
      case round =>
        obtain ⟨j, hj, rfl, rfl, hown, hB⟩ := hrel
        have hwr := hB.size
        rw [HW0.out.2.2] at hwr
        by_cases hlt : j < q
        · have hx : lo / 2 ^ (n * j) % 2 ^ n = G (0 * q + j) := (HS 0 j (by decide) hlt).out
          have hxl : lo / 2 ^ (n * j) < 18446744073709551616 := Nat.lt_of_le_of_lt (Nat.div_le_self _ _) HL.out
          have HX2 : Hid (∀ k, lo / 2 ^ (n * j) / 2 ^ k = lo / 2 ^ (n * j + k)) := fun k => by rw [Nat.div_div_eq_div_mul, ← Nat.pow_add]
          have HNJ : Hid (n * j + n = n * (j + 1)) := by show n * j + n = n * (j + 1); rw [Nat.mul_add, Nat.mul_one]
          obtain ⟨i, hie⟩ : ∃ i : Nat, i = 0 * q + j := ⟨_, rfl⟩
          rw [← hie] at hx hown
          obtain ⟨y, hy⟩ : ∃ y : Nat, y = lo / 2 ^ (n * j) := ⟨_, rfl⟩
          rw [← hy] at hx hxl HX2 ⊢
          have HCU : Hid (∀ W, Calls Tryz.prog 81 #[.int .i64 n, .int .u64 (y : Int)] W fun e w' => e = .returned (.int .u64 (G i : Nat)) ∧ W = w') := fun W => by
            have := (HXC y hxl W).out
            rw [hx] at this
            exact this
          have HSN := hid (fc_snoc i G)
          have HI := hid hie
          have hi8 : i ≤ 64 := by omega
          have HXL := hid hxl
          have HW2 := hid hown
          have HB2 := hid hB
          clear hown hB hx hxl hie hy
          go_wp2_with (first
            | (go_at_call 81; refine (HCU.out _).mono ?_; rintro e w' ⟨rfl, rfl⟩)
            | (at_builtin; refine append_u64 rfl _ _ rfl (w.heap.size + 1) _ _ _ (G i : Int) HW2.out hwr (by omega) rfl rfl ?_; intro v' w3 hown' hnx3 hsz3))
          have HO3 := hid hown'
          have HN3 := hid hnx3
          clear hown' hnx3
          go_loop [8, 10] (fun vw vk => ∃ k : Nat, k ≤ n ∧ vk = .int .i64 (k : Int) ∧ vw = .int .u64 ((y / 2 ^ k : Nat) : Int)) (fun _ vk => n - (intOf vk).toNat)
          case atStart => exact ⟨0, Nat.zero_le _, rfl, by rw [Nat.pow_zero, Nat.div_one]⟩
          case round =>
            obtain ⟨k, hk, rfl, rfl⟩ := hrel
            by_cases hkn : k < n
            · have e : ((y / 2 ^ k : Nat) : Int) / 2 = ((y / 2 ^ (k + 1) : Nat) : Int) := by
                rw [Nat.pow_succ, ← Nat.div_div_eq_div_mul]; simp
              have hl : y / 2 ^ (k + 1) < 18446744073709551616 := Nat.lt_of_le_of_lt (Nat.div_le_self _ _) HXL.out
              obtain ⟨z, hz⟩ : ∃ z : Nat, z = y / 2 ^ k := ⟨_, rfl⟩
              obtain ⟨z', hz'⟩ : ∃ z : Nat, z = y / 2 ^ (k + 1) := ⟨_, rfl⟩
              rw [← hz, ← hz'] at e
              rw [← hz'] at hl
              rw [← hz]
              have HZ := hid hz'
              clear hz hz'
              go_wp2
              go_round
              case rel => exact ⟨k + 1, by omega, by go_num, by rw [← HZ.out]⟩
              case measure => simp [intOf]; omega
            · obtain rfl : k = n := by omega
              have HX3 := hid (HX2.out k)
              obtain ⟨z, hz⟩ : ∃ z : Nat, z = y / 2 ^ k := ⟨_, rfl⟩
              rw [← hz] at HX3 ⊢
              clear hz HX2
              go_wp2
              go_roundw
              case rel => exact ⟨j + 1, by omega, by go_num, by rw [← HNJ.out, ← HX3.out], by rw [← Nat.add_assoc, ← HI.out, ← HSN.out]; exact HO3.out, HB2.out.trans HN3.out⟩
              case measure => simp [intOf]; omega
        · obtain rfl : j = q := by omega
          obtain ⟨z, hz⟩ : ∃ z : Nat, z = lo / 2 ^ (n * j) := ⟨_, rfl⟩
          rw [← hz]
          have HW2 := hid hown
          have HB2 := hid hB
          clear hown hB hz
          go_wp2
          go_roundw
          case rel => exact ⟨0 + 1, by omega, by go_num, by rw [show (0 + 1) * j = 0 * j + j by omega]; exact HW2.out, HB2.out⟩
          case measure => simp [intOf]
    · have HW := hid hown
      have HBB := hid hB
      clear hown hB
      rw [show ((1 : Nat) : Int) = 1 from rfl]
      go_wp2
      go_loopw [6, 8, 9] (fun vo vw vi wr => ∃ j : Nat, j ≤ q ∧ vi = .int .i64 (j : Int) ∧ vw = .int .u64 ((hi / 2 ^ (n * j) : Nat) : Int) ∧ wr.ownsRow (w.heap.size + 1) 22 1 vo (1 * q + j) (fc (1 * q + j) G) ∧ Below (w.heap.size + 1) W0 wr) (fun _ _ vi _ => q - (intOf vi).toNat)
      case atStart => exact ⟨0, Nat.zero_le _, rfl, by rw [Nat.mul_zero, Nat.pow_zero, Nat.div_one], HW.out, HBB.out⟩
      case round =>
        obtain ⟨j, hj, rfl, rfl, hown, hB⟩ := hrel
        have hwr := hB.size
        rw [HW0.out.2.2] at hwr
        by_cases hlt : j < q
        · have hx : hi / 2 ^ (n * j) % 2 ^ n = G (1 * q + j) := (HS 1 j (by decide) hlt).out
          have hxl : hi / 2 ^ (n * j) < 18446744073709551616 := Nat.lt_of_le_of_lt (Nat.div_le_self _ _) HH.out
          have HX2 : Hid (∀ k, hi / 2 ^ (n * j) / 2 ^ k = hi / 2 ^ (n * j + k)) := fun k => by rw [Nat.div_div_eq_div_mul, ← Nat.pow_add]
          have HNJ : Hid (n * j + n = n * (j + 1)) := by show n * j + n = n * (j + 1); rw [Nat.mul_add, Nat.mul_one]
          obtain ⟨i, hie⟩ : ∃ i : Nat, i = 1 * q + j := ⟨_, rfl⟩
          rw [← hie] at hx hown
          obtain ⟨y, hy⟩ : ∃ y : Nat, y = hi / 2 ^ (n * j) := ⟨_, rfl⟩
          rw [← hy] at hx hxl HX2 ⊢
          have HCU : Hid (∀ W, Calls Tryz.prog 81 #[.int .i64 n, .int .u64 (y : Int)] W fun e w' => e = .returned (.int .u64 (G i : Nat)) ∧ W = w') := fun W => by
            have := (HXC y hxl W).out
            rw [hx] at this
            exact this
          have HSN := hid (fc_snoc i G)
          have HI := hid hie
          have hi8 : i ≤ 64 := by omega
          have HXL := hid hxl
          have HW2 := hid hown
          have HB2 := hid hB
          clear hown hB hx hxl hie hy
          go_wp2_with (first
            | (go_at_call 81; refine (HCU.out _).mono ?_; rintro e w' ⟨rfl, rfl⟩)
            | (at_builtin; refine append_u64 rfl _ _ rfl (w.heap.size + 1) _ _ _ (G i : Int) HW2.out hwr (by omega) rfl rfl ?_; intro v' w3 hown' hnx3 hsz3))
          have HO3 := hid hown'
          have HN3 := hid hnx3
          clear hown' hnx3
          go_loop [8, 10] (fun vw vk => ∃ k : Nat, k ≤ n ∧ vk = .int .i64 (k : Int) ∧ vw = .int .u64 ((y / 2 ^ k : Nat) : Int)) (fun _ vk => n - (intOf vk).toNat)
          case atStart => exact ⟨0, Nat.zero_le _, rfl, by rw [Nat.pow_zero, Nat.div_one]⟩
          case round =>
            obtain ⟨k, hk, rfl, rfl⟩ := hrel
            by_cases hkn : k < n
            · have e : ((y / 2 ^ k : Nat) : Int) / 2 = ((y / 2 ^ (k + 1) : Nat) : Int) := by
                rw [Nat.pow_succ, ← Nat.div_div_eq_div_mul]; simp
              have hl : y / 2 ^ (k + 1) < 18446744073709551616 := Nat.lt_of_le_of_lt (Nat.div_le_self _ _) HXL.out
              obtain ⟨z, hz⟩ : ∃ z : Nat, z = y / 2 ^ k := ⟨_, rfl⟩
              obtain ⟨z', hz'⟩ : ∃ z : Nat, z = y / 2 ^ (k + 1) := ⟨_, rfl⟩
              rw [← hz, ← hz'] at e
              rw [← hz'] at hl
              rw [← hz]
              have HZ := hid hz'
              clear hz hz'
              go_wp2
              go_round
              case rel => exact ⟨k + 1, by omega, by go_num, by rw [← HZ.out]⟩
              case measure => simp [intOf]; omega
            · obtain rfl : k = n := by omega
              have HX3 := hid (HX2.out k)
              obtain ⟨z, hz⟩ : ∃ z : Nat, z = y / 2 ^ k := ⟨_, rfl⟩
              rw [← hz] at HX3 ⊢
              clear hz HX2
              go_wp2
              go_roundw
              case rel => exact ⟨j + 1, by omega, by go_num, by rw [← HNJ.out, ← HX3.out], by rw [← Nat.add_assoc, ← HI.out, ← HSN.out]; exact HO3.out, HB2.out.trans HN3.out⟩
              case measure => simp [intOf]; omega
        · obtain rfl : j = q := by omega
          obtain ⟨z, hz⟩ : ∃ z : Nat, z = hi / 2 ^ (n * j) := ⟨_, rfl⟩
          rw [← hz]
          have HW2 := hid hown
          have HB2 := hid hB
          clear hown hB hz
          go_wp2
          go_roundw
          case rel => exact ⟨1 + 1, by omega, by go_num, by rw [show (1 + 1) * j = 1 * j + j by omega]; exact HW2.out, HB2.out⟩
          case measure => simp [intOf]
    · have HW := hid hown
      have HBB := hid hB
      clear hown hB
      go_wp2
      go_ret
      exact ⟨_, rfl, by rw [HQ2.out]; exact own_mono HW.out (Nat.le_succ _), HW0.out.1.trans (HBB.out.mono (Nat.le_succ _))⟩
end Go.Proofs.YtlhakbkdlgejpaaGreatDoor
