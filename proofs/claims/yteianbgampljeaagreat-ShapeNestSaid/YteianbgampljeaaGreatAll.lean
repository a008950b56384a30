/-
  The contracts of all, over lists of types and of functions, and over empty lists. Condition: what the question answers.
-/
import Derived.Test.YteianbgampljeaaGreatEvery
set_option linter.unusedSimpArgs false
set_option linter.unusedVariables false
set_option maxRecDepth 100000
namespace Go.Proofs.YteianbgampljeaaGreat
open Go.RowKit

set_option maxHeartbeats 4000000 in
theorem all_ft (k : Nat) (eg : ∀ args w, (callFunc k args).run Tryz.prog w = .ok (.enter k args) w) (P : Nat → Bool) (n g o c : Nat) (p0 : Nat → Option Addr) (n0 c0 : Nat → Nat) (p1 : Nat → Option Addr) (n1 c1 : Nat → Nat) (w : World) (hg : g < w.heap.size) (hn : n < 9223372036854775807)
    (hx : ∀ i, i < n → w.cell? ⟨g, o + i * 2, none⟩ = some (.slice (p0 i) (n0 i) (c0 i)) ∧ w.cell? ⟨g, o + i * 2 + 1, none⟩ = some (.slice (p1 i) (n1 i) (c1 i))) (hP : ∀ i, i < n → ∀ W, Below w.heap.size w W → Calls Tryz.prog k #[.agg #[.slice (p0 i) (n0 i) (c0 i), .slice (p1 i) (n1 i) (c1 i)]] W fun e w' => e = .returned (.bool (P i)) ∧ Below W.heap.size W w') :
    Calls Tryz.prog 22 #[.slice (some ⟨g, o, none⟩) n c, .func (.func k) #[] #[]] w fun e w' => e = .returned (.bool ((List.range n).all P)) ∧ Below w.heap.size w w' := by
  have HP := hid hP
  have HXX := hid hx
  have hn' : (n : Int) < 9223372036854775807 := by omega
  obtain ⟨r, hr⟩ : ∃ r, r = (List.range n).all P := ⟨_, rfl⟩
  rw [← hr]
  have HR := hid hr
  clear hP hx hr hn
  go_enter Tryz.func22, Tryz.ntmps22
  go_wp2
  go_loopw [9] (fun vi wr => ∃ i : Nat, i ≤ n ∧ vi = .int .i64 i ∧ Hid (∀ j, j < i → P j = true) ∧ Hid (Below w.heap.size w wr)) (fun vi _ => n - (intOf vi).toNat)
  case atStart => exact ⟨0, Nat.zero_le _, rfl, fun j hj => absurd hj (Nat.not_lt_zero _), Below.refl _ _⟩
  case round =>
    obtain ⟨i, hi, rfl, HI, HB⟩ := hrel
    by_cases hlt : i < n
    · obtain ⟨z0, z1⟩ := HXX.out i hlt
      have hPi := fun W h => hid (HP.out i hlt W h)
      have x0 := (HB.out.cell (p := ⟨g, o + i * 2, none⟩) hg).trans z0
      have x1 := (HB.out.cell (p := ⟨g, o + i * 2 + 1, none⟩) hg).trans z1
      clear z0 z1
      obtain ⟨b, hb⟩ : ∃ b, b = P i := ⟨_, rfl⟩
      rw [← hb] at hPi
      have HBP := hid hb
      clear hb
      generalize p0 i = q0 at *
      generalize n0 i = m0 at *
      generalize c0 i = d0 at *
      generalize p1 i = q1 at *
      generalize n1 i = m1 at *
      generalize c1 i = d1 at *
      have HB1 := hid (HB.out.alloc HB.out.size (.cells #[.slice q0 m0 d0, .slice q1 m1 d1] 56))
      cases b with
      | false =>
        have HE : Hid (r = false) := by
          rw [HR.out]
          exact List.all_eq_false.2 ⟨i, List.mem_range.2 hlt, by rw [← HBP.out]; decide⟩
        go_wp2_with (go_at_fn k; (with_reducible refine (hPi _ HB1.out).out.mono ?_); rintro e w2 ⟨rfl, hb2⟩; have HB2 := hid (HB1.out.trans (hb2.mono HB1.out.size)); clear hb2)
        go_ret
        exact ⟨by rw [HE.out]; rfl, HB2.out⟩
      | true =>
        go_wp2_with (go_at_fn k; (with_reducible refine (hPi _ HB1.out).out.mono ?_); rintro e w2 ⟨rfl, hb2⟩; have HB2 := hid (HB1.out.trans (hb2.mono HB1.out.size)); clear hb2)
        go_roundw
        case rel =>
          refine ⟨i + 1, hlt, by go_num, fun j hj => ?_, HB2.out⟩
          by_cases hji : j = i
          · rw [hji]; exact HBP.out.symm
          · exact HI.out j (by omega)
        case measure => simp [intOf]; omega
    · obtain rfl : i = n := by omega
      have HE : Hid (r = true) := by
        rw [HR.out]
        exact List.all_eq_true.2 fun j hj => HI.out j (List.mem_range.1 hj)
      go_wp2
      go_ret
      exact ⟨by rw [HE.out]; rfl, HB.out⟩
set_option maxHeartbeats 4000000 in
theorem all_code (k : Nat) (eg : ∀ args w, (callFunc k args).run Tryz.prog w = .ok (.enter k args) w) (P : Nat → Bool) (n g o c : Nat) (t0 : Nat → Int) (p1 : Nat → Option Addr) (n1 c1 : Nat → Nat) (p2 : Nat → Option Addr) (n2 c2 : Nat → Nat) (w : World) (hg : g < w.heap.size) (hn : n < 9223372036854775807)
    (hx : ∀ i, i < n → w.cell? ⟨g, o + i * 3, none⟩ = some (.int .i64 (t0 i)) ∧ w.cell? ⟨g, o + i * 3 + 1, none⟩ = some (.slice (p1 i) (n1 i) (c1 i)) ∧ w.cell? ⟨g, o + i * 3 + 2, none⟩ = some (.slice (p2 i) (n2 i) (c2 i))) (hP : ∀ i, i < n → ∀ W, Below w.heap.size w W → Calls Tryz.prog k #[.agg #[.int .i64 (t0 i), .slice (p1 i) (n1 i) (c1 i), .slice (p2 i) (n2 i) (c2 i)]] W fun e w' => e = .returned (.bool (P i)) ∧ Below W.heap.size W w') :
    Calls Tryz.prog 26 #[.slice (some ⟨g, o, none⟩) n c, .func (.func k) #[] #[]] w fun e w' => e = .returned (.bool ((List.range n).all P)) ∧ Below w.heap.size w w' := by
  have HP := hid hP
  have HXX := hid hx
  have hn' : (n : Int) < 9223372036854775807 := by omega
  obtain ⟨r, hr⟩ : ∃ r, r = (List.range n).all P := ⟨_, rfl⟩
  rw [← hr]
  have HR := hid hr
  clear hP hx hr hn
  go_enter Tryz.func26, Tryz.ntmps26
  go_wp2
  go_loopw [9] (fun vi wr => ∃ i : Nat, i ≤ n ∧ vi = .int .i64 i ∧ Hid (∀ j, j < i → P j = true) ∧ Hid (Below w.heap.size w wr)) (fun vi _ => n - (intOf vi).toNat)
  case atStart => exact ⟨0, Nat.zero_le _, rfl, fun j hj => absurd hj (Nat.not_lt_zero _), Below.refl _ _⟩
  case round =>
    obtain ⟨i, hi, rfl, HI, HB⟩ := hrel
    by_cases hlt : i < n
    · obtain ⟨z0, z1, z2⟩ := HXX.out i hlt
      have hPi := fun W h => hid (HP.out i hlt W h)
      have x0 := (HB.out.cell (p := ⟨g, o + i * 3, none⟩) hg).trans z0
      have x1 := (HB.out.cell (p := ⟨g, o + i * 3 + 1, none⟩) hg).trans z1
      have x2 := (HB.out.cell (p := ⟨g, o + i * 3 + 2, none⟩) hg).trans z2
      clear z0 z1 z2
      obtain ⟨b, hb⟩ : ∃ b, b = P i := ⟨_, rfl⟩
      rw [← hb] at hPi
      have HBP := hid hb
      clear hb
      generalize t0 i = s0 at *
      generalize p1 i = q1 at *
      generalize n1 i = m1 at *
      generalize c1 i = d1 at *
      generalize p2 i = q2 at *
      generalize n2 i = m2 at *
      generalize c2 i = d2 at *
      have HB1 := hid (HB.out.alloc HB.out.size (.cells #[.int .i64 s0, .slice q1 m1 d1, .slice q2 m2 d2] 42))
      cases b with
      | false =>
        have HE : Hid (r = false) := by
          rw [HR.out]
          exact List.all_eq_false.2 ⟨i, List.mem_range.2 hlt, by rw [← HBP.out]; decide⟩
        go_wp2_with (go_at_fn k; (with_reducible refine (hPi _ HB1.out).out.mono ?_); rintro e w2 ⟨rfl, hb2⟩; have HB2 := hid (HB1.out.trans (hb2.mono HB1.out.size)); clear hb2)
        go_ret
        exact ⟨by rw [HE.out]; rfl, HB2.out⟩
      | true =>
        go_wp2_with (go_at_fn k; (with_reducible refine (hPi _ HB1.out).out.mono ?_); rintro e w2 ⟨rfl, hb2⟩; have HB2 := hid (HB1.out.trans (hb2.mono HB1.out.size)); clear hb2)
        go_roundw
        case rel =>
          refine ⟨i + 1, hlt, by go_num, fun j hj => ?_, HB2.out⟩
          by_cases hji : j = i
          · rw [hji]; exact HBP.out.symm
          · exact HI.out j (by omega)
        case measure => simp [intOf]; omega
    · obtain rfl : i = n := by omega
      have HE : Hid (r = true) := by
        rw [HR.out]
        exact List.all_eq_true.2 fun j hj => HI.out j (List.mem_range.1 hj)
      go_wp2
      go_ret
      exact ⟨by rw [HE.out]; rfl, HB.out⟩
theorem all_nil_22 (k : Nat) (p : Option Addr) (c : Nat) (w : World) : Calls Tryz.prog 22 #[.slice p 0 c, .func (.func k) #[] #[]] w fun e w' => e = .returned (.bool true) ∧ w = w' := by
  go_enter Tryz.func22, Tryz.ntmps22
  go_wp2
  go_loop [9] (fun vi => vi = .int .i64 0) (fun _ => 0)
  case atStart => rfl
  case round =>
    subst hrel
    go_wp2
    go_ret
    exact ⟨rfl, rfl⟩
theorem all_nil_24 (k : Nat) (p : Option Addr) (c : Nat) (w : World) : Calls Tryz.prog 24 #[.slice p 0 c, .func (.func k) #[] #[]] w fun e w' => e = .returned (.bool true) ∧ w = w' := by
  go_enter Tryz.func24, Tryz.ntmps24
  go_wp2
  go_loop [9] (fun vi => vi = .int .i64 0) (fun _ => 0)
  case atStart => rfl
  case round =>
    subst hrel
    go_wp2
    go_ret
    exact ⟨rfl, rfl⟩
theorem all_nil_26 (k : Nat) (p : Option Addr) (c : Nat) (w : World) : Calls Tryz.prog 26 #[.slice p 0 c, .func (.func k) #[] #[]] w fun e w' => e = .returned (.bool true) ∧ w = w' := by
  go_enter Tryz.func26, Tryz.ntmps26
  go_wp2
  go_loop [9] (fun vi => vi = .int .i64 0) (fun _ => 0)
  case atStart => rfl
  case round =>
    subst hrel
    go_wp2
    go_ret
    exact ⟨rfl, rfl⟩
theorem all_nil_28 (k : Nat) (p : Option Addr) (c : Nat) (w : World) : Calls Tryz.prog 28 #[.slice p 0 c, .func (.func k) #[] #[]] w fun e w' => e = .returned (.bool true) ∧ w = w' := by
  go_enter Tryz.func28, Tryz.ntmps28
  go_wp2
  go_loop [9] (fun vi => vi = .int .i64 0) (fun _ => 0)
  case atStart => rfl
  case round =>
    subst hrel
    go_wp2
    go_ret
    exact ⟨rfl, rfl⟩
theorem all_nil_30 (k : Nat) (p : Option Addr) (c : Nat) (w : World) : Calls Tryz.prog 30 #[.slice p 0 c, .func (.func k) #[] #[]] w fun e w' => e = .returned (.bool true) ∧ w = w' := by
  go_enter Tryz.func30, Tryz.ntmps30
  go_wp2
  go_loop [9] (fun vi => vi = .int .i64 0) (fun _ => 0)
  case atStart => rfl
  case round =>
    subst hrel
    go_wp2
    go_ret
    exact ⟨rfl, rfl⟩
theorem all_nil_32 (k : Nat) (p : Option Addr) (c : Nat) (w : World) : Calls Tryz.prog 32 #[.slice p 0 c, .func (.func k) #[] #[]] w fun e w' => e = .returned (.bool true) ∧ w = w' := by
  go_enter Tryz.func32, Tryz.ntmps32
  go_wp2
  go_loop [9] (fun vi => vi = .int .i64 0) (fun _ => 0)
  case atStart => rfl
  case round =>
    subst hrel
    go_wp2
    go_ret
    exact ⟨rfl, rfl⟩
theorem all_nil_34 (k : Nat) (p : Option Addr) (c : Nat) (w : World) : Calls Tryz.prog 34 #[.slice p 0 c, .func (.func k) #[] #[]] w fun e w' => e = .returned (.bool true) ∧ w = w' := by
  go_enter Tryz.func34, Tryz.ntmps34
  go_wp2
  go_loop [9] (fun vi => vi = .int .i64 0) (fun _ => 0)
  case atStart => rfl
  case round =>
    subst hrel
    go_wp2
    go_ret
    exact ⟨rfl, rfl⟩
theorem all_nil_37 (k : Nat) (p : Option Addr) (c : Nat) (w : World) : Calls Tryz.prog 37 #[.slice p 0 c, .func (.func k) #[] #[]] w fun e w' => e = .returned (.bool true) ∧ w = w' := by
  go_enter Tryz.func37, Tryz.ntmps37
  go_wp2
  go_loop [9] (fun vi => vi = .int .i64 0) (fun _ => 0)
  case atStart => rfl
  case round =>
    subst hrel
    go_wp2
    go_ret
    exact ⟨rfl, rfl⟩
theorem all_nil_39 (k : Nat) (p : Option Addr) (c : Nat) (w : World) : Calls Tryz.prog 39 #[.slice p 0 c, .func (.func k) #[] #[]] w fun e w' => e = .returned (.bool true) ∧ w = w' := by
  go_enter Tryz.func39, Tryz.ntmps39
  go_wp2
  go_loop [9] (fun vi => vi = .int .i64 0) (fun _ => 0)
  case atStart => rfl
  case round =>
    subst hrel
    go_wp2
    go_ret
    exact ⟨rfl, rfl⟩
end Go.Proofs.YteianbgampljeaaGreat
