/-
  The bytes of any number, of either sign, and of any name, are the document's, behind any bytes, in new memory. No condition: for every input.
-/
import Derived.Test.YtljfhedmpnikiaaNone
import Derived.Test.YtljfhedmpnikiaaRefs
import Derived.Deep.DeepCutAuto
import Derived.Deep.RegionWith
import Derived.WalkKit
import Derived.ProofKit
import Derived.OpenShut
import Derived.ShutString
import Derived.ChangeOld
import Derived.Below
namespace Go.Proofs.Ytljfhedmpnikiaa.lebWrites
open Go.Proofs.Ytljfhedmpnikiaa
open Go.ChangeShapes Go.WideShapes Go.ChangeAt Go.RowKit
open Go.ChangeMaps (open_string shut_string)
set_option linter.unusedVariables false

theorem own : ownKnob Try.prog.godebug = none := by kernel_rfl
theorem laidOut : laidOutB Try.prog = true := by kernel_rfl

/-- What is shown once of a state serves at the end of each order that leads to it. -/
theorem use_dp {P : Program} {md : Region.Mode} {ops : Array Oper} {Q : Exit → Act → World → Prop} {n : Nat} {listed : Array Bool} {a : Act} {w : World} (J : Act → Act → World → Prop) (n' : Nat) (listed' : Array Bool)
    (h2 : ∀ a' w', J a a' w' → wpAny P md ops Q n' listed' a' w') (h1 : (∀ a' w', J a a' w' → wpAny P md ops Q n' listed' a' w') → wpAny P md ops Q n listed a w) : wpAny P md ops Q n listed a w := h1 h2

theorem wpAny_at {P : Program} {md : Region.Mode} {ops : Array Oper} {Q : Exit → Act → World → Prop} {n n' : Nat} {listed listed' : Array Bool} {a : Act} {w : World} (hn : n = n') (hl : listed = listed') (h : wpAny P md ops Q n' listed' a w) : wpAny P md ops Q n listed a w := by
  subst hn hl
  exact h

theorem ownsRow_below {w w' : World} {base : Nat} {e : TypeId} {size : Nat} {v : Value} {n : Nat} {xs : List Value} (h : w.ownsRow base e size v n xs) (hb : Below w.heap.size w w') : w'.ownsRow base e size v n xs :=
  h.kept (row := none) (grownBy_below hb none) (by cases v.ownBlock <;> simp)

set_option maxHeartbeats 6400000 in
set_option maxRecDepth 100000 in
theorem walk (a0 : Option Addr) (len0 cap0 : Nat) (z0 : List Int) (a1 : Int) (a2 : Int) (a3 : ByteArray) (w : World) (w0 : IsRow .u8 w a0 len0 cap0 z0) (w1 : (Lit.int .u64 a1).wf = true) (w2 : (Lit.int .i64 a2).wf = true) (w3 : a3.size ≤ maxLen) :
    Calls Try.prog 3 #[.slice a0 len0 cap0, .int .u64 a1, .int .i64 a2, .string a3] w fun e w' => e = .returned (.bool true) ∧ Below w.heap.size w w' := by
  have hb1 : 0 ≤ a1 ∧ a1 < 18446744073709551616 := by
    simp [Lit.wf, IntKind.min, IntKind.max, IntKind.signed, IntKind.bits] at w1; omega
  have hb2 : -9223372036854775808 ≤ a2 ∧ a2 ≤ 9223372036854775807 := by
    simp [Lit.wf, IntKind.min, IntKind.max, IntKind.signed, IntKind.bits] at w2; omega
  obtain ⟨m0, m1⟩ := hb2
  obtain ⟨x, rfl⟩ : ∃ x : Nat, a1 = (x : Int) := ⟨a1.toNat, by omega⟩
  have hx : x < 18446744073709551616 := by omega
  unfold maxLen at w3
  clear w1 w2 hb1
  by_cases hlong : 1000 < len0
  · have hd : decide ((1000 : Int) < (len0 : Int)) = true := by simp; omega
    clear w0
    go_enter Try.func3, Try.ntmps3
    go_wp2_with (go_at_call 9; refine (awake_any w).mono ?_; rintro e w1 ⟨rfl, hB1⟩)
    go_ret
    exact ⟨rfl, hB1⟩
  have hd : decide ((1000 : Int) < (len0 : Int)) = false := by simp; omega
  by_cases hlong2 : 1000 < a3.size
  · have hd2 : decide ((1000 : Int) < (a3.size : Int)) = true := by simp; omega
    clear w0
    go_enter Try.func3, Try.ntmps3
    go_wp2_with (go_at_call 9; refine (awake_any w).mono ?_; rintro e w1 ⟨rfl, hB1⟩)
    go_ret
    exact ⟨rfl, hB1⟩
  have hd2 : decide ((1000 : Int) < (a3.size : Int)) = false := by simp; omega
  obtain ⟨l, hl, hin0⟩ := bytes_of_row w0 (by omega)
  subst hl
  have HIN := hid hin0
  clear w0 hin0
  obtain ⟨Wb, hWb⟩ : ∃ S : ByteArray, S = ⟨l.toArray⟩ := ⟨_, rfl⟩
  obtain ⟨Ub, hUb⟩ : ∃ S : ByteArray, S = ⟨(ulist x).toArray⟩ := ⟨_, rfl⟩
  obtain ⟨Sb, hSb⟩ : ∃ S : ByteArray, S = ⟨(slist a2).toArray⟩ := ⟨_, rfl⟩
  obtain ⟨Nb, hNb⟩ : ∃ S : ByteArray, S = ⟨(ulist a3.size ++ a3.data.toList).toArray⟩ := ⟨_, rfl⟩
  have hlu := ulist_length64 hx
  have hls := slist_length64 m0 m1
  have hln := ulist_length64 (x := a3.size) (by omega)
  have sW : Wb.size ≤ 1000 := by rw [hWb]; show l.length ≤ _; omega
  have sU : Ub.size ≤ 10 := by rw [hUb]; exact hlu
  have sS : Sb.size ≤ 10 := by rw [hSb]; exact hls
  have sN : Nb.size ≤ 1010 := by
    rw [hNb]; show (ulist a3.size ++ a3.data.toList).length ≤ _
    have e : a3.data.toList.length = a3.size := rfl
    rw [List.length_append, e]; omega
  have eX : (⟨(l ++ ulist x).toArray⟩ : ByteArray) = Wb ++ Ub := by rw [hWb, hUb, ByteArray.mk_append_mk]
  have eY : (⟨(l ++ slist a2).toArray⟩ : ByteArray) = Wb ++ Sb := by rw [hWb, hSb, ByteArray.mk_append_mk]
  have eZ : (⟨(l ++ ulist a3.size ++ a3.data.toList).toArray⟩ : ByteArray) = Wb ++ Nb := by rw [hWb, hNb, ByteArray.mk_append_mk, List.append_assoc]
  have HLN : Hid ((ulist a3.size ++ a3.data.toList).length ≤ 140737488351232) := hid (by
    have e : a3.data.toList.length = a3.size := rfl
    rw [List.length_append, e]; omega)
  have EW := hid hWb
  have EU := hid hUb
  have ES := hid hSb
  have EN := hid hNb
  have EX := hid eX
  have EY := hid eY
  have EZ := hid eZ
  obtain ⟨LX, hLX⟩ : ∃ L : List UInt8, L = l ++ ulist x := ⟨_, rfl⟩
  obtain ⟨LY, hLY⟩ : ∃ L : List UInt8, L = l ++ slist a2 := ⟨_, rfl⟩
  obtain ⟨LZ, hLZ⟩ : ∃ L : List UInt8, L = l ++ ulist a3.size ++ a3.data.toList := ⟨_, rfl⟩
  have hlX : LX.length ≤ 3000 := by rw [hLX, List.length_append]; omega
  have hlY : LY.length ≤ 3000 := by rw [hLY, List.length_append]; omega
  have hlZ : LZ.length ≤ 3000 := by
    have e : a3.data.toList.length = a3.size := rfl
    rw [hLZ, List.length_append, List.length_append, e]; omega
  obtain ⟨XB, hXB⟩ : ∃ S : ByteArray, S = Wb ++ Ub := ⟨_, rfl⟩
  obtain ⟨YB, hYB⟩ : ∃ S : ByteArray, S = Wb ++ Sb := ⟨_, rfl⟩
  obtain ⟨ZB, hZB⟩ : ∃ S : ByteArray, S = Wb ++ Nb := ⟨_, rfl⟩
  have HAX : Hid (∀ W, (Op.stringOp .add Wb Ub).run Try.prog W = .ok (.string XB) W) := hid fun W => by rw [hXB]; exact run_string_add_sum W Wb Ub (by omega)
  have HAY : Hid (∀ W, (Op.stringOp .add Wb Sb).run Try.prog W = .ok (.string YB) W) := hid fun W => by rw [hYB]; exact run_string_add_sum W Wb Sb (by omega)
  have HAZ : Hid (∀ W, (Op.stringOp .add Wb Nb).run Try.prog W = .ok (.string ZB) W) := hid fun W => by rw [hZB]; exact run_string_add_sum W Wb Nb (by omega)
  rw [← hXB] at EX
  rw [← hYB] at EY
  rw [← hZB] at EZ
  clear hXB hYB hZB
  have HU : Hid (∀ W, Below w.heap.size w W → Calls Try.prog 10 #[.slice a0 l.length cap0, .int .u64 x] W fun e w' => ∃ v', e = .returned v' ∧ w'.ownsRow W.heap.size 5 1 v' LX.length (Lib.byteCells LX) ∧ Below W.heap.size W w') := hid fun W hb => by
    rw [hLX]; exact U_in w.heap.size _ l x hx W (HIN.out.below hb) hb.size (by omega)
  have HS : Hid (∀ W, Below w.heap.size w W → Calls Try.prog 11 #[.slice a0 l.length cap0, .int .i64 a2] W fun e w' => ∃ v', e = .returned v' ∧ w'.ownsRow W.heap.size 5 1 v' LY.length (Lib.byteCells LY) ∧ Below W.heap.size W w') := hid fun W hb => by
    rw [hLY]; exact S_in w.heap.size _ l a2 m0 m1 W (HIN.out.below hb) hb.size (by omega)
  have HNm : Hid (∀ W, Below w.heap.size w W → Calls Try.prog 12 #[.slice a0 l.length cap0, .string a3] W fun e w' => ∃ v', e = .returned v' ∧ w'.ownsRow W.heap.size 5 1 v' LZ.length (Lib.byteCells LZ) ∧ Below W.heap.size W w') := hid fun W hb => by
    rw [hLZ]; exact Name_in w.heap.size _ l a3 W (HIN.out.below hb) hb.size (by omega)
  rw [← hLX] at EX
  rw [← hLY] at EY
  rw [← hLZ] at EZ
  clear hLX hLY hLZ
  have hconv : ∀ W, Below w.heap.size w W → (convert 22 9 (.slice a0 l.length cap0)).run Try.prog W = .ok (.string Wb) W := fun W hb => by
    rw [EW.out]; exact conv_in (HIN.out.below hb)
  have HC := hid hconv
  clear hconv eX eY eZ hWb hUb hSb hNb
  go_enter Try.func3, Try.ntmps3
  go_upto_region 10 with (first
    | (go_at_call 9; refine (awake_any w).mono ?_; rintro e w1 ⟨rfl, hB1⟩; have hcb := HC.out w1 hB1)
    | (go_at_call 10; (with_reducible refine (HU.out w1 hB1).mono ?_); rintro e w2 ⟨v2, rfl, hown2, hB2⟩; obtain ⟨x2, c2, rfl⟩ := owned_slice hown2; have hBb := hB1.trans (hB2.mono hB1.size))
    | (go_at_call 11; (with_reducible refine (HS.out w2 hBb).mono ?_); rintro e w3 ⟨v3, rfl, hown3, hB3⟩; obtain ⟨x3, c3, rfl⟩ := owned_slice hown3; have hBc := hBb.trans (hB3.mono hBb.size))
    | (go_at_call 12; (with_reducible refine (HNm.out w3 hBc).mono ?_); rintro e w4 ⟨v4, rfl, hown4, hB4⟩; obtain ⟨x4, c4, rfl⟩ := owned_slice hown4))
  have s1 := hB1.size
  have s2 := hB2.size
  have s3 := hB3.size
  have s4 := hB4.size
  have hBa : Below w.heap.size w w4 := hBc.trans (hB4.mono hBc.size)
  have hX4 : w4.ownsRow w1.heap.size 5 1 (.slice x2 LX.length c2) LX.length (Lib.byteCells LX) := ownsRow_below (ownsRow_below hown2 hB3) hB4
  have hY4 : w4.ownsRow w2.heap.size 5 1 (.slice x3 LY.length c3) LY.length (Lib.byteCells LY) := ownsRow_below hown3 hB4
  have HCX : Hid (∀ W, Below w4.heap.size w4 W → (convert 22 9 (.slice x2 LX.length c2)).run Try.prog W = .ok (.string XB) W) := hid fun W hb => by
    rw [← EX.out]; exact conv_bytes ((bytes_of_owned hX4 (by omega)).below hb)
  have HCY : Hid (∀ W, Below w4.heap.size w4 W → (convert 22 9 (.slice x3 LY.length c3)).run Try.prog W = .ok (.string YB) W) := hid fun W hb => by
    rw [← EY.out]; exact conv_bytes ((bytes_of_owned hY4 (by omega)).below hb)
  have HCZ : Hid (∀ W, Below w4.heap.size w4 W → (convert 22 9 (.slice x4 LZ.length c4)).run Try.prog W = .ok (.string ZB) W) := hid fun W hb => by
    rw [← EZ.out]; exact conv_bytes ((bytes_of_owned hown4 (by omega)).below hb)
  have HX4 := hid hX4
  have HY4 := hid hY4
  have HZ4 := hid hown4
  have HlX2 := hid (hown2.lt)
  have HlY3 := hid (hown3.lt)
  clear hX4 hY4 hown2 hown3 hown4 hcb
  go_cut [14] (fun v wx => v = .bool true ∧ Below w4.heap.size w4 wx)
  case first =>
    clear HC HX4 HY4 HZ4 HlX2 HlY3 hd hd2 EX EY EZ EW HU HS HNm s1 s2 s3 s4 hBa hBb hBc hB1 hB2 hB3 hB4 HIN
    have HR13 : Hid (∀ W, Calls Try.prog 13 #[.int .u64 x] W fun e w' => ∃ v', e = .returned v' ∧ (convert 22 9 v').run Try.prog w' = .ok (.string Ub) w' ∧ Below W.heap.size W w') := hid fun W => (refU_any x hx W).mono fun _ _ ⟨v', a, b, c⟩ => ⟨v', a, by rw [EU.out]; exact conv_bytes (bytes_of_owned b (by omega)), c⟩
    have HR14 : Hid (∀ W, Calls Try.prog 14 #[.int .i64 a2] W fun e w' => ∃ v', e = .returned v' ∧ (convert 22 9 v').run Try.prog w' = .ok (.string Sb) w' ∧ Below W.heap.size W w') := hid fun W => (refS_any a2 m0 m1 W).mono fun _ _ ⟨v', a, b, c⟩ => ⟨v', a, by rw [ES.out]; exact conv_bytes (bytes_of_owned b (by omega)), c⟩
    have HR15 : Hid (∀ W, Calls Try.prog 15 #[.string a3] W fun e w' => ∃ v', e = .returned v' ∧ (convert 22 9 v').run Try.prog w' = .ok (.string Nb) w' ∧ Below W.heap.size W w') := hid fun W => (refName_any a3 W (by omega)).mono fun _ _ ⟨v', a, b, c⟩ => ⟨v', a, by rw [EN.out]; exact conv_bytes (bytes_of_owned b HLN.out), c⟩
    clear EU ES EN HLN hlong2 hlong w3 hlu hls hln hlX hlY hlZ m0 m1 hx
    have hax := HAX.out
    have hay := HAY.out
    have haz := HAZ.out
    clear HAX HAY HAZ
    have hd0 : Below w4.heap.size w4 w4.drew := (Below.refl _ w4).drew
    have hx0 := HCX.out w4.drew hd0
    refine wp_region_any (by kernel_rfl) ?_
    change wpAny _ _ _ _ _ _ _ (World.drew _)
    refine use_dp (fun a a' w' => ∃ v13 : Value, a' = (((((((((a.put (some 40) (.slice x2 LX.length c2)).put (some 41) (.string XB)).put (some 42) (.string Wb)).put (some 43) (.int .u64 x)).put (some 44) v13).put (some 45) (.string Ub)).put (some 46) (.string XB)).put (some 47) (.bool true)).put (some 48) (.bool true)) ∧ Below w4.heap.size w4 w') 20 #[true, true, true, true, true, true, true, true, true, false, false, false, false, false, false, false, false, false, false, false, false, false, false, false, false, false, false, false, false] ?_ ?_
    ·
      rintro a' w5 ⟨v13, rfl, hb5⟩
      try simp only [Act.put, List.setIfInBounds_toArray, List.set_cons_zero, List.set_cons_succ]
      have hy5 := HCY.out w5 hb5
      refine use_dp (fun a a' w' => ∃ v14 : Value, a' = ((((((((((a.put (some 49) (.slice x3 LY.length c3)).put (some 50) (.string YB)).put (some 51) (.string Wb)).put (some 52) (.int .i64 a2)).put (some 53) v14).put (some 54) (.string Sb)).put (some 55) (.string YB)).put (some 56) (.bool true)).put (some 57) (.bool true)).put (some 58) (.bool true)) ∧ Below w4.heap.size w4 w') 10 #[true, true, true, true, true, true, true, true, true, true, true, true, true, true, true, true, true, true, true, false, false, false, false, false, false, false, false, false, false] ?_ ?_
      ·
        rintro a' w6 ⟨v14, rfl, hb6⟩
        try simp only [Act.put, List.setIfInBounds_toArray, List.set_cons_zero, List.set_cons_succ]
        have hz6 := HCZ.out w6 hb6
        refine wpAny_take (oi := ⟨_, _, _, _, _, _⟩) (i := 19) (v := ?_) rfl (by kernel_rfl) (by kernel_rfl) (by kernel_rfl) (fun _ _ _ h => h) (Or.inl ⟨by rfl, ?_⟩) ?_
        rotate_left
        · intro W; go_simp; try with_reducible rfl
        try simp only [Act.put, List.setIfInBounds_toArray, List.set_cons_zero, List.set_cons_succ]
        refine wpAny_take (oi := ⟨_, _, _, _, _, _⟩) (i := 21) (v := ?_) rfl (by kernel_rfl) (by kernel_rfl) (by kernel_rfl) (fun _ _ _ h => h) (Or.inl ⟨by rfl, ?_⟩) ?_
        rotate_left
        · intro W; go_simp; try with_reducible rfl
        try simp only [Act.put, List.setIfInBounds_toArray, List.set_cons_zero, List.set_cons_succ]
        refine wpAny_take (oi := ⟨_, _, _, _, _, _⟩) (i := 22) (v := ?_) rfl (by kernel_rfl) (by kernel_rfl) (by kernel_rfl) (fun _ _ _ h => h) (Or.inl ⟨by rfl, ?_⟩) ?_
        rotate_left
        · intro W; go_simp; try with_reducible rfl
        try simp only [Act.put, List.setIfInBounds_toArray, List.set_cons_zero, List.set_cons_succ]
        refine wpAny_ready (rs := [20, 23]) (by kernel_rfl) (by simp) ?_
        refine AllReady.cons (o := ⟨_, _, _, _, _, _⟩) rfl (fun K hK => ?_) ?_
        ·
          go_simp
          refine hK _ _ ?_
          clear hK K
          refine wpAny_ready (rs := [23]) (by kernel_rfl) (by simp) ?_
          refine AllReady.cons (o := ⟨_, _, _, _, _, _⟩) rfl (fun K hK => ?_) ?_
          ·
            go_simp
            go_wp2_with (go_at_call 15; refine (HR15.out _).mono ?_; rintro e w7 ⟨v15, rfl, hv7, hB7⟩; have hb7 : Below w4.heap.size w4 w7 := hb6.trans (hB7.mono hb6.size); have hz7 := HCZ.out w7 hb7)
            try (refine hK _ _ ?_; clear hK K)
            refine wpAny_ready (rs := [24]) (by kernel_rfl) (by simp) ?_
            refine AllReady.cons (o := ⟨_, _, _, _, _, _⟩) rfl (fun K hK => ?_) ?_
            ·
              go_simp
              refine hK _ _ ?_
              clear hK K
              refine wpAny_take (oi := ⟨_, _, _, _, _, _⟩) (i := 25) (v := ?_) rfl (by kernel_rfl) (by kernel_rfl) (by kernel_rfl) (fun _ _ _ h => h) (Or.inl ⟨by rfl, ?_⟩) ?_
              rotate_left
              · intro W; go_simp; try with_reducible rfl
              try simp only [Act.put, List.setIfInBounds_toArray, List.set_cons_zero, List.set_cons_succ]
              refine wpAny_take (oi := ⟨_, _, _, _, _, _⟩) (i := 26) (v := ?_) rfl (by kernel_rfl) (by kernel_rfl) (by kernel_rfl) (fun _ _ _ h => h) (Or.inl ⟨by rfl, ?_⟩) ?_
              rotate_left
              · intro W; go_simp; try with_reducible rfl
              try simp only [Act.put, List.setIfInBounds_toArray, List.set_cons_zero, List.set_cons_succ]
              refine wpAny_take (oi := ⟨_, _, _, _, _, _⟩) (i := 27) (v := ?_) rfl (by kernel_rfl) (by kernel_rfl) (by kernel_rfl) (fun _ _ _ h => h) (Or.inl ⟨by rfl, ?_⟩) ?_
              rotate_left
              · intro W; go_simp; try with_reducible rfl
              try simp only [Act.put, List.setIfInBounds_toArray, List.set_cons_zero, List.set_cons_succ]
              refine wpAny_take (oi := ⟨_, _, _, _, _, _⟩) (i := 28) (v := ?_) rfl (by kernel_rfl) (by kernel_rfl) (by kernel_rfl) (fun _ _ _ h => h) (Or.inl ⟨by rfl, ?_⟩) ?_
              rotate_left
              · intro W; go_simp; try with_reducible rfl
              try simp only [Act.put, List.setIfInBounds_toArray, List.set_cons_zero, List.set_cons_succ]
              refine wpAny_done (by kernel_rfl) ?_ _
              go_wp2_with fail
              go_meet
              exact ⟨rfl, hb7⟩
            exact AllReady.nil
          exact AllReady.nil
        refine AllReady.cons (o := ⟨_, _, _, _, _, _⟩) rfl (fun K hK => ?_) ?_
        ·
          go_simp
          go_wp2_with (go_at_call 15; refine (HR15.out _).mono ?_; rintro e w7 ⟨v15, rfl, hv7, hB7⟩; have hb7 : Below w4.heap.size w4 w7 := hb6.trans (hB7.mono hb6.size); have hz7 := HCZ.out w7 hb7)
          try (refine hK _ _ ?_; clear hK K)
          refine wpAny_ready (rs := [20, 24]) (by kernel_rfl) (by simp) ?_
          refine AllReady.cons (o := ⟨_, _, _, _, _, _⟩) rfl (fun K hK => ?_) ?_
          ·
            go_simp
            refine hK _ _ ?_
            clear hK K
            refine wpAny_ready (rs := [24]) (by kernel_rfl) (by simp) ?_
            refine AllReady.cons (o := ⟨_, _, _, _, _, _⟩) rfl (fun K hK => ?_) ?_
            ·
              go_simp
              refine hK _ _ ?_
              clear hK K
              refine wpAny_take (oi := ⟨_, _, _, _, _, _⟩) (i := 25) (v := ?_) rfl (by kernel_rfl) (by kernel_rfl) (by kernel_rfl) (fun _ _ _ h => h) (Or.inl ⟨by rfl, ?_⟩) ?_
              rotate_left
              · intro W; go_simp; try with_reducible rfl
              try simp only [Act.put, List.setIfInBounds_toArray, List.set_cons_zero, List.set_cons_succ]
              refine wpAny_take (oi := ⟨_, _, _, _, _, _⟩) (i := 26) (v := ?_) rfl (by kernel_rfl) (by kernel_rfl) (by kernel_rfl) (fun _ _ _ h => h) (Or.inl ⟨by rfl, ?_⟩) ?_
              rotate_left
              · intro W; go_simp; try with_reducible rfl
              try simp only [Act.put, List.setIfInBounds_toArray, List.set_cons_zero, List.set_cons_succ]
              refine wpAny_take (oi := ⟨_, _, _, _, _, _⟩) (i := 27) (v := ?_) rfl (by kernel_rfl) (by kernel_rfl) (by kernel_rfl) (fun _ _ _ h => h) (Or.inl ⟨by rfl, ?_⟩) ?_
              rotate_left
              · intro W; go_simp; try with_reducible rfl
              try simp only [Act.put, List.setIfInBounds_toArray, List.set_cons_zero, List.set_cons_succ]
              refine wpAny_take (oi := ⟨_, _, _, _, _, _⟩) (i := 28) (v := ?_) rfl (by kernel_rfl) (by kernel_rfl) (by kernel_rfl) (fun _ _ _ h => h) (Or.inl ⟨by rfl, ?_⟩) ?_
              rotate_left
              · intro W; go_simp; try with_reducible rfl
              try simp only [Act.put, List.setIfInBounds_toArray, List.set_cons_zero, List.set_cons_succ]
              refine wpAny_done (by kernel_rfl) ?_ _
              go_wp2_with fail
              go_meet
              exact ⟨rfl, hb7⟩
            exact AllReady.nil
          refine AllReady.cons (o := ⟨_, _, _, _, _, _⟩) rfl (fun K hK => ?_) ?_
          ·
            go_simp
            refine hK _ _ ?_
            clear hK K
            refine wpAny_take (oi := ⟨_, _, _, _, _, _⟩) (i := 25) (v := ?_) rfl (by kernel_rfl) (by kernel_rfl) (by kernel_rfl) (fun _ _ _ h => h) (Or.inl ⟨by rfl, ?_⟩) ?_
            rotate_left
            · intro W; go_simp; try with_reducible rfl
            try simp only [Act.put, List.setIfInBounds_toArray, List.set_cons_zero, List.set_cons_succ]
            refine wpAny_ready (rs := [20]) (by kernel_rfl) (by simp) ?_
            refine AllReady.cons (o := ⟨_, _, _, _, _, _⟩) rfl (fun K hK => ?_) ?_
            ·
              go_simp
              refine hK _ _ ?_
              clear hK K
              refine wpAny_take (oi := ⟨_, _, _, _, _, _⟩) (i := 26) (v := ?_) rfl (by kernel_rfl) (by kernel_rfl) (by kernel_rfl) (fun _ _ _ h => h) (Or.inl ⟨by rfl, ?_⟩) ?_
              rotate_left
              · intro W; go_simp; try with_reducible rfl
              try simp only [Act.put, List.setIfInBounds_toArray, List.set_cons_zero, List.set_cons_succ]
              refine wpAny_take (oi := ⟨_, _, _, _, _, _⟩) (i := 27) (v := ?_) rfl (by kernel_rfl) (by kernel_rfl) (by kernel_rfl) (fun _ _ _ h => h) (Or.inl ⟨by rfl, ?_⟩) ?_
              rotate_left
              · intro W; go_simp; try with_reducible rfl
              try simp only [Act.put, List.setIfInBounds_toArray, List.set_cons_zero, List.set_cons_succ]
              refine wpAny_take (oi := ⟨_, _, _, _, _, _⟩) (i := 28) (v := ?_) rfl (by kernel_rfl) (by kernel_rfl) (by kernel_rfl) (fun _ _ _ h => h) (Or.inl ⟨by rfl, ?_⟩) ?_
              rotate_left
              · intro W; go_simp; try with_reducible rfl
              try simp only [Act.put, List.setIfInBounds_toArray, List.set_cons_zero, List.set_cons_succ]
              refine wpAny_done (by kernel_rfl) ?_ _
              go_wp2_with fail
              go_meet
              exact ⟨rfl, hb7⟩
            exact AllReady.nil
          exact AllReady.nil
        exact AllReady.nil
      ·
        intro key2
        refine wpAny_take (oi := ⟨_, _, _, _, _, _⟩) (i := 9) (v := ?_) rfl (by kernel_rfl) (by kernel_rfl) (by kernel_rfl) (fun _ _ _ h => h) (Or.inl ⟨by rfl, ?_⟩) ?_
        rotate_left
        · intro W; go_simp; try with_reducible rfl
        try simp only [Act.put, List.setIfInBounds_toArray, List.set_cons_zero, List.set_cons_succ]
        refine wpAny_take (oi := ⟨_, _, _, _, _, _⟩) (i := 11) (v := ?_) rfl (by kernel_rfl) (by kernel_rfl) (by kernel_rfl) (fun _ _ _ h => h) (Or.inl ⟨by rfl, ?_⟩) ?_
        rotate_left
        · intro W; go_simp; try with_reducible rfl
        try simp only [Act.put, List.setIfInBounds_toArray, List.set_cons_zero, List.set_cons_succ]
        refine wpAny_take (oi := ⟨_, _, _, _, _, _⟩) (i := 12) (v := ?_) rfl (by kernel_rfl) (by kernel_rfl) (by kernel_rfl) (fun _ _ _ h => h) (Or.inl ⟨by rfl, ?_⟩) ?_
        rotate_left
        · intro W; go_simp; try with_reducible rfl
        try simp only [Act.put, List.setIfInBounds_toArray, List.set_cons_zero, List.set_cons_succ]
        refine wpAny_ready (rs := [10, 13]) (by kernel_rfl) (by simp) ?_
        refine AllReady.cons (o := ⟨_, _, _, _, _, _⟩) rfl (fun K hK => ?_) ?_
        ·
          go_simp
          refine hK _ _ ?_
          clear hK K
          refine wpAny_ready (rs := [13]) (by kernel_rfl) (by simp) ?_
          refine AllReady.cons (o := ⟨_, _, _, _, _, _⟩) rfl (fun K hK => ?_) ?_
          ·
            go_simp
            go_wp2_with (go_at_call 14; refine (HR14.out _).mono ?_; rintro e w6 ⟨v14, rfl, hv6, hB6⟩; have hb6 : Below w4.heap.size w4 w6 := hb5.trans (hB6.mono hb5.size); have hy6 := HCY.out w6 hb6)
            try (refine hK _ _ ?_; clear hK K)
            refine wpAny_ready (rs := [14]) (by kernel_rfl) (by simp) ?_
            refine AllReady.cons (o := ⟨_, _, _, _, _, _⟩) rfl (fun K hK => ?_) ?_
            ·
              go_simp
              refine hK _ _ ?_
              clear hK K
              refine wpAny_take (oi := ⟨_, _, _, _, _, _⟩) (i := 15) (v := ?_) rfl (by kernel_rfl) (by kernel_rfl) (by kernel_rfl) (fun _ _ _ h => h) (Or.inl ⟨by rfl, ?_⟩) ?_
              rotate_left
              · intro W; go_simp; try with_reducible rfl
              try simp only [Act.put, List.setIfInBounds_toArray, List.set_cons_zero, List.set_cons_succ]
              refine wpAny_take (oi := ⟨_, _, _, _, _, _⟩) (i := 16) (v := ?_) rfl (by kernel_rfl) (by kernel_rfl) (by kernel_rfl) (fun _ _ _ h => h) (Or.inl ⟨by rfl, ?_⟩) ?_
              rotate_left
              · intro W; go_simp; try with_reducible rfl
              try simp only [Act.put, List.setIfInBounds_toArray, List.set_cons_zero, List.set_cons_succ]
              refine wpAny_take (oi := ⟨_, _, _, _, _, _⟩) (i := 17) (v := ?_) rfl (by kernel_rfl) (by kernel_rfl) (by kernel_rfl) (fun _ _ _ h => h) (Or.inl ⟨by rfl, ?_⟩) ?_
              rotate_left
              · intro W; go_simp; try with_reducible rfl
              try simp only [Act.put, List.setIfInBounds_toArray, List.set_cons_zero, List.set_cons_succ]
              refine wpAny_take (oi := ⟨_, _, _, _, _, _⟩) (i := 18) (v := ?_) rfl (by kernel_rfl) (by kernel_rfl) (by kernel_rfl) (fun _ _ _ h => h) (Or.inl ⟨by rfl, ?_⟩) ?_
              rotate_left
              · intro W; go_simp; try with_reducible rfl
              try simp only [Act.put, List.setIfInBounds_toArray, List.set_cons_zero, List.set_cons_succ]
              refine wpAny_at (n' := 10) (listed' := #[true, true, true, true, true, true, true, true, true, true, true, true, true, true, true, true, true, true, true, false, false, false, false, false, false, false, false, false, false]) (by kernel_rfl) (by kernel_rfl) ?_
              refine key2 _ _ ⟨v14, ?_, hb6⟩
              simp only [Act.put, List.setIfInBounds_toArray, List.set_cons_zero, List.set_cons_succ]
            exact AllReady.nil
          exact AllReady.nil
        refine AllReady.cons (o := ⟨_, _, _, _, _, _⟩) rfl (fun K hK => ?_) ?_
        ·
          go_simp
          go_wp2_with (go_at_call 14; refine (HR14.out _).mono ?_; rintro e w6 ⟨v14, rfl, hv6, hB6⟩; have hb6 : Below w4.heap.size w4 w6 := hb5.trans (hB6.mono hb5.size); have hy6 := HCY.out w6 hb6)
          try (refine hK _ _ ?_; clear hK K)
          refine wpAny_ready (rs := [10, 14]) (by kernel_rfl) (by simp) ?_
          refine AllReady.cons (o := ⟨_, _, _, _, _, _⟩) rfl (fun K hK => ?_) ?_
          ·
            go_simp
            refine hK _ _ ?_
            clear hK K
            refine wpAny_ready (rs := [14]) (by kernel_rfl) (by simp) ?_
            refine AllReady.cons (o := ⟨_, _, _, _, _, _⟩) rfl (fun K hK => ?_) ?_
            ·
              go_simp
              refine hK _ _ ?_
              clear hK K
              refine wpAny_take (oi := ⟨_, _, _, _, _, _⟩) (i := 15) (v := ?_) rfl (by kernel_rfl) (by kernel_rfl) (by kernel_rfl) (fun _ _ _ h => h) (Or.inl ⟨by rfl, ?_⟩) ?_
              rotate_left
              · intro W; go_simp; try with_reducible rfl
              try simp only [Act.put, List.setIfInBounds_toArray, List.set_cons_zero, List.set_cons_succ]
              refine wpAny_take (oi := ⟨_, _, _, _, _, _⟩) (i := 16) (v := ?_) rfl (by kernel_rfl) (by kernel_rfl) (by kernel_rfl) (fun _ _ _ h => h) (Or.inl ⟨by rfl, ?_⟩) ?_
              rotate_left
              · intro W; go_simp; try with_reducible rfl
              try simp only [Act.put, List.setIfInBounds_toArray, List.set_cons_zero, List.set_cons_succ]
              refine wpAny_take (oi := ⟨_, _, _, _, _, _⟩) (i := 17) (v := ?_) rfl (by kernel_rfl) (by kernel_rfl) (by kernel_rfl) (fun _ _ _ h => h) (Or.inl ⟨by rfl, ?_⟩) ?_
              rotate_left
              · intro W; go_simp; try with_reducible rfl
              try simp only [Act.put, List.setIfInBounds_toArray, List.set_cons_zero, List.set_cons_succ]
              refine wpAny_take (oi := ⟨_, _, _, _, _, _⟩) (i := 18) (v := ?_) rfl (by kernel_rfl) (by kernel_rfl) (by kernel_rfl) (fun _ _ _ h => h) (Or.inl ⟨by rfl, ?_⟩) ?_
              rotate_left
              · intro W; go_simp; try with_reducible rfl
              try simp only [Act.put, List.setIfInBounds_toArray, List.set_cons_zero, List.set_cons_succ]
              refine wpAny_at (n' := 10) (listed' := #[true, true, true, true, true, true, true, true, true, true, true, true, true, true, true, true, true, true, true, false, false, false, false, false, false, false, false, false, false]) (by kernel_rfl) (by kernel_rfl) ?_
              refine key2 _ _ ⟨v14, ?_, hb6⟩
              simp only [Act.put, List.setIfInBounds_toArray, List.set_cons_zero, List.set_cons_succ]
            exact AllReady.nil
          refine AllReady.cons (o := ⟨_, _, _, _, _, _⟩) rfl (fun K hK => ?_) ?_
          ·
            go_simp
            refine hK _ _ ?_
            clear hK K
            refine wpAny_take (oi := ⟨_, _, _, _, _, _⟩) (i := 15) (v := ?_) rfl (by kernel_rfl) (by kernel_rfl) (by kernel_rfl) (fun _ _ _ h => h) (Or.inl ⟨by rfl, ?_⟩) ?_
            rotate_left
            · intro W; go_simp; try with_reducible rfl
            try simp only [Act.put, List.setIfInBounds_toArray, List.set_cons_zero, List.set_cons_succ]
            refine wpAny_ready (rs := [10]) (by kernel_rfl) (by simp) ?_
            refine AllReady.cons (o := ⟨_, _, _, _, _, _⟩) rfl (fun K hK => ?_) ?_
            ·
              go_simp
              refine hK _ _ ?_
              clear hK K
              refine wpAny_take (oi := ⟨_, _, _, _, _, _⟩) (i := 16) (v := ?_) rfl (by kernel_rfl) (by kernel_rfl) (by kernel_rfl) (fun _ _ _ h => h) (Or.inl ⟨by rfl, ?_⟩) ?_
              rotate_left
              · intro W; go_simp; try with_reducible rfl
              try simp only [Act.put, List.setIfInBounds_toArray, List.set_cons_zero, List.set_cons_succ]
              refine wpAny_take (oi := ⟨_, _, _, _, _, _⟩) (i := 17) (v := ?_) rfl (by kernel_rfl) (by kernel_rfl) (by kernel_rfl) (fun _ _ _ h => h) (Or.inl ⟨by rfl, ?_⟩) ?_
              rotate_left
              · intro W; go_simp; try with_reducible rfl
              try simp only [Act.put, List.setIfInBounds_toArray, List.set_cons_zero, List.set_cons_succ]
              refine wpAny_take (oi := ⟨_, _, _, _, _, _⟩) (i := 18) (v := ?_) rfl (by kernel_rfl) (by kernel_rfl) (by kernel_rfl) (fun _ _ _ h => h) (Or.inl ⟨by rfl, ?_⟩) ?_
              rotate_left
              · intro W; go_simp; try with_reducible rfl
              try simp only [Act.put, List.setIfInBounds_toArray, List.set_cons_zero, List.set_cons_succ]
              refine wpAny_at (n' := 10) (listed' := #[true, true, true, true, true, true, true, true, true, true, true, true, true, true, true, true, true, true, true, false, false, false, false, false, false, false, false, false, false]) (by kernel_rfl) (by kernel_rfl) ?_
              refine key2 _ _ ⟨v14, ?_, hb6⟩
              simp only [Act.put, List.setIfInBounds_toArray, List.set_cons_zero, List.set_cons_succ]
            exact AllReady.nil
          exact AllReady.nil
        exact AllReady.nil
    ·
      intro key1
      refine wpAny_take (oi := ⟨_, _, _, _, _, _⟩) (i := 0) (v := ?_) rfl (by kernel_rfl) (by kernel_rfl) (by kernel_rfl) (fun _ _ _ h => h) (Or.inl ⟨by rfl, ?_⟩) ?_
      rotate_left
      · intro W; go_simp; try with_reducible rfl
      try simp only [Act.put, List.setIfInBounds_toArray, List.set_cons_zero, List.set_cons_succ]
      refine wpAny_take (oi := ⟨_, _, _, _, _, _⟩) (i := 2) (v := ?_) rfl (by kernel_rfl) (by kernel_rfl) (by kernel_rfl) (fun _ _ _ h => h) (Or.inl ⟨by rfl, ?_⟩) ?_
      rotate_left
      · intro W; go_simp; try with_reducible rfl
      try simp only [Act.put, List.setIfInBounds_toArray, List.set_cons_zero, List.set_cons_succ]
      refine wpAny_take (oi := ⟨_, _, _, _, _, _⟩) (i := 3) (v := ?_) rfl (by kernel_rfl) (by kernel_rfl) (by kernel_rfl) (fun _ _ _ h => h) (Or.inl ⟨by rfl, ?_⟩) ?_
      rotate_left
      · intro W; go_simp; try with_reducible rfl
      try simp only [Act.put, List.setIfInBounds_toArray, List.set_cons_zero, List.set_cons_succ]
      refine wpAny_ready (rs := [1, 4]) (by kernel_rfl) (by simp) ?_
      refine AllReady.cons (o := ⟨_, _, _, _, _, _⟩) rfl (fun K hK => ?_) ?_
      ·
        go_simp
        refine hK _ _ ?_
        clear hK K
        refine wpAny_ready (rs := [4]) (by kernel_rfl) (by simp) ?_
        refine AllReady.cons (o := ⟨_, _, _, _, _, _⟩) rfl (fun K hK => ?_) ?_
        ·
          go_simp
          go_wp2_with (go_at_call 13; refine (HR13.out _).mono ?_; rintro e w5 ⟨v13, rfl, hv5, hB5⟩; have hb5 : Below w4.heap.size w4 w5 := hd0.trans hB5; have hx5 := HCX.out w5 hb5)
          try (refine hK _ _ ?_; clear hK K)
          refine wpAny_ready (rs := [5]) (by kernel_rfl) (by simp) ?_
          refine AllReady.cons (o := ⟨_, _, _, _, _, _⟩) rfl (fun K hK => ?_) ?_
          ·
            go_simp
            refine hK _ _ ?_
            clear hK K
            refine wpAny_take (oi := ⟨_, _, _, _, _, _⟩) (i := 6) (v := ?_) rfl (by kernel_rfl) (by kernel_rfl) (by kernel_rfl) (fun _ _ _ h => h) (Or.inl ⟨by rfl, ?_⟩) ?_
            rotate_left
            · intro W; go_simp; try with_reducible rfl
            try simp only [Act.put, List.setIfInBounds_toArray, List.set_cons_zero, List.set_cons_succ]
            refine wpAny_take (oi := ⟨_, _, _, _, _, _⟩) (i := 7) (v := ?_) rfl (by kernel_rfl) (by kernel_rfl) (by kernel_rfl) (fun _ _ _ h => h) (Or.inl ⟨by rfl, ?_⟩) ?_
            rotate_left
            · intro W; go_simp; try with_reducible rfl
            try simp only [Act.put, List.setIfInBounds_toArray, List.set_cons_zero, List.set_cons_succ]
            refine wpAny_take (oi := ⟨_, _, _, _, _, _⟩) (i := 8) (v := ?_) rfl (by kernel_rfl) (by kernel_rfl) (by kernel_rfl) (fun _ _ _ h => h) (Or.inl ⟨by rfl, ?_⟩) ?_
            rotate_left
            · intro W; go_simp; try with_reducible rfl
            try simp only [Act.put, List.setIfInBounds_toArray, List.set_cons_zero, List.set_cons_succ]
            refine wpAny_at (n' := 20) (listed' := #[true, true, true, true, true, true, true, true, true, false, false, false, false, false, false, false, false, false, false, false, false, false, false, false, false, false, false, false, false]) (by kernel_rfl) (by kernel_rfl) ?_
            refine key1 _ _ ⟨v13, ?_, hb5⟩
            simp only [Act.put, List.setIfInBounds_toArray, List.set_cons_zero, List.set_cons_succ]
          exact AllReady.nil
        exact AllReady.nil
      refine AllReady.cons (o := ⟨_, _, _, _, _, _⟩) rfl (fun K hK => ?_) ?_
      ·
        go_simp
        go_wp2_with (go_at_call 13; refine (HR13.out _).mono ?_; rintro e w5 ⟨v13, rfl, hv5, hB5⟩; have hb5 : Below w4.heap.size w4 w5 := hd0.trans hB5; have hx5 := HCX.out w5 hb5)
        try (refine hK _ _ ?_; clear hK K)
        refine wpAny_ready (rs := [1, 5]) (by kernel_rfl) (by simp) ?_
        refine AllReady.cons (o := ⟨_, _, _, _, _, _⟩) rfl (fun K hK => ?_) ?_
        ·
          go_simp
          refine hK _ _ ?_
          clear hK K
          refine wpAny_ready (rs := [5]) (by kernel_rfl) (by simp) ?_
          refine AllReady.cons (o := ⟨_, _, _, _, _, _⟩) rfl (fun K hK => ?_) ?_
          ·
            go_simp
            refine hK _ _ ?_
            clear hK K
            refine wpAny_take (oi := ⟨_, _, _, _, _, _⟩) (i := 6) (v := ?_) rfl (by kernel_rfl) (by kernel_rfl) (by kernel_rfl) (fun _ _ _ h => h) (Or.inl ⟨by rfl, ?_⟩) ?_
            rotate_left
            · intro W; go_simp; try with_reducible rfl
            try simp only [Act.put, List.setIfInBounds_toArray, List.set_cons_zero, List.set_cons_succ]
            refine wpAny_take (oi := ⟨_, _, _, _, _, _⟩) (i := 7) (v := ?_) rfl (by kernel_rfl) (by kernel_rfl) (by kernel_rfl) (fun _ _ _ h => h) (Or.inl ⟨by rfl, ?_⟩) ?_
            rotate_left
            · intro W; go_simp; try with_reducible rfl
            try simp only [Act.put, List.setIfInBounds_toArray, List.set_cons_zero, List.set_cons_succ]
            refine wpAny_take (oi := ⟨_, _, _, _, _, _⟩) (i := 8) (v := ?_) rfl (by kernel_rfl) (by kernel_rfl) (by kernel_rfl) (fun _ _ _ h => h) (Or.inl ⟨by rfl, ?_⟩) ?_
            rotate_left
            · intro W; go_simp; try with_reducible rfl
            try simp only [Act.put, List.setIfInBounds_toArray, List.set_cons_zero, List.set_cons_succ]
            refine wpAny_at (n' := 20) (listed' := #[true, true, true, true, true, true, true, true, true, false, false, false, false, false, false, false, false, false, false, false, false, false, false, false, false, false, false, false, false]) (by kernel_rfl) (by kernel_rfl) ?_
            refine key1 _ _ ⟨v13, ?_, hb5⟩
            simp only [Act.put, List.setIfInBounds_toArray, List.set_cons_zero, List.set_cons_succ]
          exact AllReady.nil
        refine AllReady.cons (o := ⟨_, _, _, _, _, _⟩) rfl (fun K hK => ?_) ?_
        ·
          go_simp
          refine hK _ _ ?_
          clear hK K
          refine wpAny_take (oi := ⟨_, _, _, _, _, _⟩) (i := 6) (v := ?_) rfl (by kernel_rfl) (by kernel_rfl) (by kernel_rfl) (fun _ _ _ h => h) (Or.inl ⟨by rfl, ?_⟩) ?_
          rotate_left
          · intro W; go_simp; try with_reducible rfl
          try simp only [Act.put, List.setIfInBounds_toArray, List.set_cons_zero, List.set_cons_succ]
          refine wpAny_ready (rs := [1]) (by kernel_rfl) (by simp) ?_
          refine AllReady.cons (o := ⟨_, _, _, _, _, _⟩) rfl (fun K hK => ?_) ?_
          ·
            go_simp
            refine hK _ _ ?_
            clear hK K
            refine wpAny_take (oi := ⟨_, _, _, _, _, _⟩) (i := 7) (v := ?_) rfl (by kernel_rfl) (by kernel_rfl) (by kernel_rfl) (fun _ _ _ h => h) (Or.inl ⟨by rfl, ?_⟩) ?_
            rotate_left
            · intro W; go_simp; try with_reducible rfl
            try simp only [Act.put, List.setIfInBounds_toArray, List.set_cons_zero, List.set_cons_succ]
            refine wpAny_take (oi := ⟨_, _, _, _, _, _⟩) (i := 8) (v := ?_) rfl (by kernel_rfl) (by kernel_rfl) (by kernel_rfl) (fun _ _ _ h => h) (Or.inl ⟨by rfl, ?_⟩) ?_
            rotate_left
            · intro W; go_simp; try with_reducible rfl
            try simp only [Act.put, List.setIfInBounds_toArray, List.set_cons_zero, List.set_cons_succ]
            refine wpAny_at (n' := 20) (listed' := #[true, true, true, true, true, true, true, true, true, false, false, false, false, false, false, false, false, false, false, false, false, false, false, false, false, false, false, false, false]) (by kernel_rfl) (by kernel_rfl) ?_
            refine key1 _ _ ⟨v13, ?_, hb5⟩
            simp only [Act.put, List.setIfInBounds_toArray, List.set_cons_zero, List.set_cons_succ]
          exact AllReady.nil
        exact AllReady.nil
      exact AllReady.nil
  case rest =>
    obtain ⟨rfl, hbc⟩ := hcut
    have hXc := ownsRow_below HX4.out hbc
    have hYc := ownsRow_below HY4.out hbc
    have hZc := ownsRow_below HZ4.out hbc
    have hBd : Below w.heap.size w wc := hBa.trans (hbc.mono hBa.size)
    have HYc := hid hYc
    have HZc := hid hZc
    have HBd := hid hBd
    have hsc := hBd.size
    clear hYc hZc hBd
    go_wp2
    go_loopw [15] (fun vi wr => ∃ (k : Nat) (l' : List UInt8), k ≤ LX.length ∧ vi = .int .i64 k ∧ l'.length = LX.length ∧ wr.ownsRow w1.heap.size 5 1 (.slice x2 LX.length c2) LX.length (Lib.byteCells l') ∧ wc.grownBy wr (Value.ownBlock (.slice x2 LX.length c2))) (fun vi _ => LX.length - (intOf vi).toNat)
    case atStart => exact ⟨0, LX, Nat.zero_le _, rfl, rfl, hXc, grownBy_refl _ _⟩
    case round =>
     obtain ⟨k, l', hk, rfl, hl', hown, hG⟩ := hrel
     have HL := hid hl'
     clear hl'
     by_cases hlt : k < LX.length
     · obtain ⟨g5, rfl⟩ : ∃ g5, x2 = some ⟨g5, 0, none⟩ := by
         rcases hown.2 with ⟨_, h⟩ | ⟨g', cap, _, h, _⟩
         · omega
         · cases h; exact ⟨g', rfl⟩
       have hkl : k < l'.length := by rw [HL.out]; exact hlt
       have hc : wr.cell? ⟨g5, k, none⟩ = some (.int .u8 l'[k].toNat) := by
         rw [hown.cellAt k (by omega)]
         simp only [Lib.byteCells, List.getElem?_map, List.getElem?_eq_getElem hkl, Option.map_some]
       have hf := hown.frozenAt k
       obtain ⟨u, hu⟩ := xor_u8 l'[k]
       generalize hA : (l'[k].toNat : Int) = A at *
       have hst := hown.stored k (.int .u8 u.toNat)
       have hset : Lib.byteCells (l'.set k u) = (Lib.byteCells l').set k (.int .u8 u.toNat) := by simp only [Lib.byteCells, List.map_set]
       have HO := hid hst.1
       have HE := hid hset
       have HN := hid (grownBy_trans hG hst.2)
       clear hst hset hown hA hG
       go_wp2
       go_roundw
       case rel => exact ⟨k + 1, l'.set k u, by omega, by go_num, by rw [List.length_set]; exact HL.out, by rw [HE.out]; exact HO.out, HN.out⟩
       case measure => simp [intOf]; omega
     · have HG1 := hid hG
       have HO1 := hid hown
       clear hown hG
       obtain ⟨wl1, hwl⟩ : ∃ W : World, W = wr := ⟨_, rfl⟩
       subst hwl
       have hgX : ∀ g, (Value.slice x2 LX.length c2).ownBlock = some g → w1.heap.size ≤ g ∧ g < w2.heap.size := fun g hg => ⟨(HX4.out.lt g hg).1, (HlX2.out g hg).2⟩
       have hY1 : wl1.ownsRow w2.heap.size 5 1 (.slice x3 LY.length c3) LY.length (Lib.byteCells LY) := HYc.out.kept HG1.out (by
         by_cases h : (Value.slice x3 LY.length c3).ownBlock = none
         · exact .inl h
         · refine .inr fun e => ?_
           obtain ⟨g, hg⟩ := Option.ne_none_iff_exists'.1 h
           have h1 := (HY4.out.lt g hg).1
           have h2 := (hgX g (e.symm.trans hg)).2
           omega)
       have hZ1 : wl1.ownsRow w3.heap.size 5 1 (.slice x4 LZ.length c4) LZ.length (Lib.byteCells LZ) := HZc.out.kept HG1.out (by
         by_cases h : (Value.slice x4 LZ.length c4).ownBlock = none
         · exact .inl h
         · refine .inr fun e => ?_
           obtain ⟨g, hg⟩ := Option.ne_none_iff_exists'.1 h
           have h1 := (HZ4.out.lt g hg).1
           have h2 := (hgX g (e.symm.trans hg)).2
           omega)
       have hB1b : Below w.heap.size w wl1 := HBd.out.grown HG1.out hsc (fun g hg => Nat.le_trans hB1.size (hgX g hg).1)
       have HZ1 := hid hZ1
       have HB1b := hid hB1b
       have hs1 := hB1b.size
       clear hZ1 hB1b hgX
       go_wp2
       go_loopw [16] (fun vi wr => ∃ (k : Nat) (l' : List UInt8), k ≤ LY.length ∧ vi = .int .i64 k ∧ l'.length = LY.length ∧ wr.ownsRow w2.heap.size 5 1 (.slice x3 LY.length c3) LY.length (Lib.byteCells l') ∧ wl1.grownBy wr (Value.ownBlock (.slice x3 LY.length c3))) (fun vi _ => LY.length - (intOf vi).toNat)
       case atStart => exact ⟨0, LY, Nat.zero_le _, rfl, rfl, hY1, grownBy_refl _ _⟩
       case round =>
        obtain ⟨k, l', hk, rfl, hl', hown, hG⟩ := hrel
        have HL := hid hl'
        clear hl'
        by_cases hlt : k < LY.length
        · obtain ⟨g5, rfl⟩ : ∃ g5, x3 = some ⟨g5, 0, none⟩ := by
            rcases hown.2 with ⟨_, h⟩ | ⟨g', cap, _, h, _⟩
            · omega
            · cases h; exact ⟨g', rfl⟩
          have hkl : k < l'.length := by rw [HL.out]; exact hlt
          have hc : wr.cell? ⟨g5, k, none⟩ = some (.int .u8 l'[k].toNat) := by
            rw [hown.cellAt k (by omega)]
            simp only [Lib.byteCells, List.getElem?_map, List.getElem?_eq_getElem hkl, Option.map_some]
          have hf := hown.frozenAt k
          obtain ⟨u, hu⟩ := xor_u8 l'[k]
          generalize hA : (l'[k].toNat : Int) = A at *
          have hst := hown.stored k (.int .u8 u.toNat)
          have hset : Lib.byteCells (l'.set k u) = (Lib.byteCells l').set k (.int .u8 u.toNat) := by simp only [Lib.byteCells, List.map_set]
          have HO := hid hst.1
          have HE := hid hset
          have HN := hid (grownBy_trans hG hst.2)
          clear hst hset hown hA hG
          go_wp2
          go_roundw
          case rel => exact ⟨k + 1, l'.set k u, by omega, by go_num, by rw [List.length_set]; exact HL.out, by rw [HE.out]; exact HO.out, HN.out⟩
          case measure => simp [intOf]; omega
        · have HG2 := hid hG
          have HO2 := hid hown
          clear hown hG
          obtain ⟨wl2, hwl⟩ : ∃ W : World, W = wr := ⟨_, rfl⟩
          subst hwl
          have hgY : ∀ g, (Value.slice x3 LY.length c3).ownBlock = some g → w2.heap.size ≤ g ∧ g < w3.heap.size := fun g hg => ⟨(HY4.out.lt g hg).1, (HlY3.out g hg).2⟩
          have hZ2 : wl2.ownsRow w3.heap.size 5 1 (.slice x4 LZ.length c4) LZ.length (Lib.byteCells LZ) := HZ1.out.kept HG2.out (by
            by_cases h : (Value.slice x4 LZ.length c4).ownBlock = none
            · exact .inl h
            · refine .inr fun e => ?_
              obtain ⟨g, hg⟩ := Option.ne_none_iff_exists'.1 h
              have h1 := (HZ4.out.lt g hg).1
              have h2 := (hgY g (e.symm.trans hg)).2
              omega)
          have hB2b : Below w.heap.size w wl2 := HB1b.out.grown HG2.out hs1 (fun g hg => Nat.le_trans (Nat.le_trans hB1.size hB2.size) (hgY g hg).1)
          have HB2b := hid hB2b
          have hs2 := hB2b.size
          clear hB2b hgY
          go_wp2
          go_loopw [17] (fun vi wr => ∃ (k : Nat) (l' : List UInt8), k ≤ LZ.length ∧ vi = .int .i64 k ∧ l'.length = LZ.length ∧ wr.ownsRow w3.heap.size 5 1 (.slice x4 LZ.length c4) LZ.length (Lib.byteCells l') ∧ wl2.grownBy wr (Value.ownBlock (.slice x4 LZ.length c4))) (fun vi _ => LZ.length - (intOf vi).toNat)
          case atStart => exact ⟨0, LZ, Nat.zero_le _, rfl, rfl, hZ2, grownBy_refl _ _⟩
          case round =>
           obtain ⟨k, l', hk, rfl, hl', hown, hG⟩ := hrel
           have HL := hid hl'
           clear hl'
           by_cases hlt : k < LZ.length
           · obtain ⟨g5, rfl⟩ : ∃ g5, x4 = some ⟨g5, 0, none⟩ := by
               rcases hown.2 with ⟨_, h⟩ | ⟨g', cap, _, h, _⟩
               · omega
               · cases h; exact ⟨g', rfl⟩
             have hkl : k < l'.length := by rw [HL.out]; exact hlt
             have hc : wr.cell? ⟨g5, k, none⟩ = some (.int .u8 l'[k].toNat) := by
               rw [hown.cellAt k (by omega)]
               simp only [Lib.byteCells, List.getElem?_map, List.getElem?_eq_getElem hkl, Option.map_some]
             have hf := hown.frozenAt k
             obtain ⟨u, hu⟩ := xor_u8 l'[k]
             generalize hA : (l'[k].toNat : Int) = A at *
             have hst := hown.stored k (.int .u8 u.toNat)
             have hset : Lib.byteCells (l'.set k u) = (Lib.byteCells l').set k (.int .u8 u.toNat) := by simp only [Lib.byteCells, List.map_set]
             have HO := hid hst.1
             have HE := hid hset
             have HN := hid (grownBy_trans hG hst.2)
             clear hst hset hown hA hG
             go_wp2
             go_roundw
             case rel => exact ⟨k + 1, l'.set k u, by omega, by go_num, by rw [List.length_set]; exact HL.out, by rw [HE.out]; exact HO.out, HN.out⟩
             case measure => simp [intOf]; omega
           · have HG3 := hid hG
             have HO3 := hid hown
             clear hown hG
             obtain ⟨wl3, hwl⟩ : ∃ W : World, W = wr := ⟨_, rfl⟩
             subst hwl
             have hB3b : Below w.heap.size w wl3 := HB2b.out.grown HG3.out hs2 (fun g hg => Nat.le_trans (Nat.le_trans hB1.size (Nat.le_trans hB2.size hB3.size)) ((HZ4.out.lt g hg).1))
             have hcf := HC.out wl3 hB3b
             have HB3b := hid hB3b
             clear hB3b
             go_wp2
             go_ret
             exact ⟨rfl, HB3b.out⟩

/-! ### THE ROW's STEP: WRITTEN OUT: LEAVE IT -/
set_option maxRecDepth 100000 in
theorem lifted (os : Os) (started : os.Started) (H : Type) (enc : TypeId × Value → H) :
    ReturnsInHanded {} Try.checked os 3 .any (Rows.lebWritesSpec.pre6 enc Try.prog Try.f3 Rows.lebWritesRow.domain false) (Rows.lebWritesSpec.post enc Try.prog Try.f3 false true false false) := by
  refine returnsInHanded_of_change (C := Try.checked) own started (by kernel_rfl) Try.func3
    (ChangeSpec.witness6 (enc := enc) (C := Try.checked) false ⟨#[], #[.slice none 0 0, .int .u64 0, .int .i64 0, .string ByteArray.empty], []⟩ 8 (by kernel_rfl) (by kernel_rfl) (by kernel_rfl) (by kernel_rfl)) ?_
  intro W base args ds gs before hval0 hW hcnd _
  have hval : ∀ (j : Nat) t v, Try.f3.params[j]? = some t → args[j]? = some v → Value.okWide Try.prog W .any base t v := hval0
  have hW' := hW
  obtain ⟨p, q, hA0, hV, rfl, hfz, hnd⟩ := hW
  have hA : DataW.TrodAll enc Try.prog W 0 (fun _ => true) true Try.f3.params.toList args.toList ds p := hA0
  rw [Try.params3] at hA hval
  obtain ⟨v0, vs0, d0, ds0, p0, q0, hargs, rfl, rfl, h0, r0⟩ := trodAll_cons hA
  obtain ⟨v1, vs1, d1, ds1, p1, q1, rfl, rfl, rfl, h1, r1⟩ := trodAll_cons r0
  obtain ⟨v2, vs2, d2, ds2, p2, q2, rfl, rfl, rfl, h2, r2⟩ := trodAll_cons r1
  obtain ⟨v3, vs3, d3, ds3, p3, q3, rfl, rfl, rfl, h3, r3⟩ := trodAll_cons r2
  obtain ⟨rfl, rfl, rfl⟩ := trodAll_nil r3
  obtain rfl : args = #[v0, v1, v2, v3] := by cases args; simp_all
  obtain ⟨rfl, rfl⟩ := trodVars_none hV
  obtain ⟨a0, len0, cap0, rfl⟩ := okWide_slice Try.underlying22 (hval 0 22 v0 rfl rfl)
  have k0 := h0
  have lt0 : ∀ x ∈ p0, x.block < W.heap.size := by obtain ⟨m, hm⟩ := k0; exact DataW.trod_lt m _ _ _ hm
  obtain ⟨z0, w0⟩ : ∃ zs, IsRow .u8 W a0 len0 cap0 zs := by
    obtain ⟨fuel, hf⟩ := h0
    rcases open_ints Try.underlying22 Try.underlying5 (by kernel_rfl) hf with ⟨hcs, _⟩ | ⟨x, l, c, zs, hcs, _, hl, hm, hz, _, hcell, hwz⟩
    · simp [Value.cells] at hcs
      obtain ⟨rfl, rfl, rfl⟩ := hcs
      exact ⟨[], .inl ⟨rfl, rfl, rfl, rfl⟩⟩
    · simp [Value.cells] at hcs
      obtain ⟨rfl, rfl, rfl⟩ := hcs
      exact ⟨zs, .inr ⟨_, rfl, hl, hm, by simpa using hz, hcell, hwz⟩⟩
  obtain ⟨a1, rfl, rfl, rfl, w1⟩ := open_int Try.underlying23 (hval 1 23 v1 rfl rfl) h1
  obtain ⟨a2, rfl, rfl, rfl, w2⟩ := open_int Try.underlying2 (hval 2 2 v2 rfl rfl) h2
  obtain ⟨a3, rfl, rfl, rfl, w3⟩ := open_string Try.underlying9 (hval 3 9 v3 rfl rfl) h3
  clear hA0 hval0
  refine (walk a0 len0 cap0 z0 a1 a2 a3 W w0 w1 w2 w3).mono fun e W' ⟨he, bel⟩ => ?_
  subst he
  exact ⟨_, rfl, _, _, _, [], _, [], hW', trodAll_mk1 (shut_bool Try.underlying4 _), (trodAll_cons_mk (Below.trod laidOut (by kernel_rfl) (of_decide_eq_true (by kernel_rfl)) k0 bel lt0) (trodAll_cons_mk (shut_int Try.underlying23 w1) (trodAll_cons_mk (shut_int Try.underlying2 w2) (trodAll_cons_mk (shut_string Try.underlying9 w3) trodAll_mk0)))), rfl, bel.frame _, fun h => by cases h⟩

theorem over : Rows.lebWritesRow.holds Try.pinned (OpenSpec.ofChange Rows.lebWritesSpec) :=
  OpenClaim.holds_of_wide 3 Try.f3 rfl rfl rfl rfl rfl rfl rfl ⟨rfl, rfl, rfl, rfl, rfl⟩ rfl rfl rfl rfl rfl (by kernel_rfl) Try.func3 (by kernel_rfl)
    (of_decide_eq_true (by kernel_rfl)) (by unfold Func.isWrapper; first | (rw [if_pos (by decide +kernel)]; kernel_rfl) | (rw [if_neg (by decide +kernel)]; exact ⟨rfl, rfl⟩))
    (fun os started H enc _ => lifted os started H enc)

/-- ████ THE STATEMENT ████ -/
theorem proved : Rows.LebWritesSaid := over
#print axioms proved
end Go.Proofs.Ytljfhedmpnikiaa.lebWrites
