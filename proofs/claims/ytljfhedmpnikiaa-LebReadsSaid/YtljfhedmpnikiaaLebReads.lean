/-
  Any bytes are read, by any row of calls, as the document says. No condition: for every input.
-/
import Derived.Test.YtljfhedmpnikiaaReadsPlain
import Derived.Test.YtljfhedmpnikiaaRows
import Derived.WalkKit
import Derived.ProofKit
import Derived.OpenShut
import Derived.ShutString
import Derived.ChangeOld
import Derived.Below
namespace Go.Proofs.Ytljfhedmpnikiaa.lebReads
open Go.Proofs.Ytljfhedmpnikiaa
open Go.ChangeShapes Go.WideShapes Go.ChangeAt Go.RowKit
open Go.ChangeMaps (open_string shut_string)
set_option linter.unusedVariables false

theorem own : ownKnob Try.prog.godebug = none := by kernel_rfl
theorem laidOut : laidOutB Try.prog = true := by kernel_rfl

theorem tparts (k : Int) (h1 : -9223372036854775808 ≤ k) (h2 : k ≤ 9223372036854775807) : ∃ Q R : Int, k.tdiv 6 = Q ∧ k.tmod 6 = R ∧ wrap64 Q = Q ∧ Q ≤ 9223372036854775807 := by
  have h := Int.natAbs_tdiv k 6
  have h6 : (k.tdiv 6).natAbs = k.natAbs / 6 := h
  refine ⟨_, _, rfl, rfl, ?_, ?_⟩
  · unfold wrap64
    omega
  · omega

set_option maxHeartbeats 6400000 in
set_option maxRecDepth 100000 in
theorem walk (a0 : Option Addr) (len0 cap0 : Nat) (z0 : List Int) (a1 : Option Addr) (len1 cap1 : Nat) (z1 : List Int) (w : World) (w0 : IsRow .u8 w a0 len0 cap0 z0) (hlen0 : len0 ≤ 140737488351232) (w1 : IsRow .i64 w a1 len1 cap1 z1) :
    Calls Try.prog 4 #[.slice a0 len0 cap0, .slice a1 len1 cap1] w fun e w' => e = .returned (.bool true) ∧ Below w.heap.size w w' := by
  have hl1 : len1 ≤ 9223372036854775807 ∧ len1 ≤ cap1 := by
    rcases w1 with ⟨_, rfl, rfl, _⟩ | ⟨x, _, q1, q2, _⟩
    · omega
    · unfold maxLen at q2; omega
  obtain ⟨hl1, hl2⟩ := hl1
  obtain ⟨L, hL, hin, hz⟩ := bytesz_of_row w0 hlen0
  have HIN := hid hin
  have HZ := hid hz
  have HROW := hid w1
  clear w0 w1 hin hz
  subst hL
  go_enter Try.func4, Try.ntmps4
  go_wp2_with (first
    | (go_at_call 9; refine (awake_any w).mono ?_; rintro e wa ⟨rfl, hBa⟩)
    | (go_at_call 16; refine (Read_in w.heap.size _ L wa (HIN.out.below hBa) hBa.size).mono ?_; rintro en w2 ⟨g, rfl, hg, hRd, hB2⟩))
  have hB : Below w.heap.size w w2 := hBa.trans (hB2.mono hBa.size)
  have HS := hid (LR.start HZ.out (Nat.le_trans hBa.size hg) hRd hB)
  obtain ⟨gw, hgw⟩ : ∃ gw : Nat, gw = w2.heap.size := ⟨_, rfl⟩
  rw [← hgw] at HS ⊢
  clear hBa hB2 hB hg hRd hgw
  go_loopw [8] (fun vi wr => ∃ (i : Nat) (l : List UInt8) (e : Int), i ≤ len1 ∧ vi = .int .i64 i ∧ LR w g gw l e wr) (fun vi _ => len1 - (intOf vi).toNat)
  case atStart => exact ⟨0, L, 0, Nat.zero_le _, rfl, HS.out⟩
  case round =>
    obtain ⟨i, l, e, hi, rfl, hI⟩ := hrel
    rename_i wr _
    obtain ⟨ra, rc, rd0, rd1⟩ := hI.reads
    have HI := hid hI
    clear hI
    have hll : l.length ≤ 140737488351232 := HI.out.1.len
    by_cases hlt : i < len1 ∧ i < 100
    · obtain ⟨hlt, hl100⟩ := hlt
      obtain ⟨b, off, rfl, hk⟩ : ∃ b off, a1 = some ⟨b, off, none⟩ ∧ ∃ k : Int, wr.cell? ⟨b, off + i, none⟩ = some (.int .i64 k) ∧ -9223372036854775808 ≤ k ∧ k ≤ 9223372036854775807 := by
        rcases HROW.out with ⟨_, rfl, _⟩ | ⟨x, rfl, q1, q2, q3, q4, q5⟩
        · omega
        · obtain ⟨b, off, rfl, hc⟩ := ints_at q4 (by omega)
          have hb : b < w.heap.size := World.block_lt_of_cell? w ⟨b, off + i, none⟩ (hc i (by omega))
          refine ⟨b, off, rfl, z1.getD i 0, ?_, ?_⟩
          · rw [HI.out.2.2.2.2.2.cell (p := ⟨b, off + i, none⟩) hb]
            exact hc i (by omega)
          · have := q5 (z1.getD i 0) (by
              rw [List.getD_eq_getElem?_getD, List.getElem?_eq_getElem (by omega)]
              exact List.getElem_mem _)
            simp [Lit.wf, IntKind.min, IntKind.max, IntKind.signed, IntKind.bits] at this
            rw [List.getD_eq_getElem?_getD]
            omega
      obtain ⟨k, hck, hk1, hk2⟩ := hk
      obtain ⟨Q, R, hQ, hR, hwQ, hQ2⟩ := tparts k hk1 hk2
      have HQ2 := hid hQ2
      clear hQ2 hk1 hk2
      by_cases h0 : R = 0
      · subst h0
        have hP := rU_any wr g l e Q HI.out.1 HI.out.2.2.1
        have hR2 := fun W (h : RR W gw l e) => RU_any W gw l e Q h HI.out.2.2.1
        have hinv := uSpec_inv Q l e HI.out.2.2.1
        generalize uSpec Q l e = u at *
        obtain ⟨v, l2, e2⟩ := u
        simp only at hP hR2 hinv
        have HP := hid hP
        have HR2 := hid hR2
        have HINV := hid hinv
        clear hP hR2 hinv
        go_wp2_with (first
          | (go_at_call 17; refine HP.out.mono ?_; rintro en w3 ⟨rfl, hA3, hG3⟩; have K3 := hid (And.intro hA3 hG3); clear hA3 hG3)
          | (go_at_call 18; refine (HR2.out w3 (HI.out.first K3.out.2).1).mono ?_; rintro en w4 ⟨rfl, hA4, hG4⟩; have HI2 := hid (HI.out.second K3.out.2 K3.out.1 hG4 hA4 HINV.out); clear hA4 hG4; obtain ⟨sa, sc, sd0, sd1⟩ := HI2.out.reads; have hll2 : l2.length ≤ 140737488351232 := HI2.out.1.len))
        go_quiet (first | (go_at_call 29; exact Calls.quiet_of_same (HI2.out.left _ ⟨_, rfl⟩)) | (go_at_call 30; exact Calls.quiet_of_same (HI2.out.err _ ⟨_, rfl⟩)))
        go_wp2
        go_roundw
        case rel => exact ⟨i + 1, l2, e2, by omega, by go_num, HI2.out.drew⟩
        case measure => simp [intOf]; omega
      · by_cases h1 : R = 1
        · subst h1
          have hP := rS_any wr g l e Q HI.out.1 HI.out.2.2.1
          have hR2 := fun W (h : RR W gw l e) => RS_any W gw l e Q h HI.out.2.2.1
          have hinv := sSpec_inv Q l e HI.out.2.2.1
          generalize sSpec Q l e = u at *
          obtain ⟨v, l2, e2⟩ := u
          simp only at hP hR2 hinv
          have HP := hid hP
          have HR2 := hid hR2
          have HINV := hid hinv
          clear hP hR2 hinv
          go_wp2_with (first
            | (go_at_call 19; refine HP.out.mono ?_; rintro en w3 ⟨rfl, hA3, hG3⟩; have K3 := hid (And.intro hA3 hG3); clear hA3 hG3)
            | (go_at_call 20; refine (HR2.out w3 (HI.out.first K3.out.2).1).mono ?_; rintro en w4 ⟨rfl, hA4, hG4⟩; have HI2 := hid (HI.out.second K3.out.2 K3.out.1 hG4 hA4 HINV.out); clear hA4 hG4; obtain ⟨sa, sc, sd0, sd1⟩ := HI2.out.reads; have hll2 : l2.length ≤ 140737488351232 := HI2.out.1.len))
          go_quiet (first | (go_at_call 29; exact Calls.quiet_of_same (HI2.out.left _ ⟨_, rfl⟩)) | (go_at_call 30; exact Calls.quiet_of_same (HI2.out.err _ ⟨_, rfl⟩)))
          go_wp2
          go_roundw
          case rel => exact ⟨i + 1, l2, e2, by omega, by go_num, HI2.out.drew⟩
          case measure => simp [intOf]; omega
        · by_cases h2 : R = 2
          · subst h2
            have hP := Byte_any wr g l e HI.out.1 HI.out.2.2.1
            have hR2 := fun W (h : RR W gw l e) => RByte_any W gw l e h HI.out.2.2.1
            have hinv := bx_inv l e HI.out.2.2.1
            generalize bx l e = u at *
            obtain ⟨v, l2, e2⟩ := u
            simp only at hP hR2 hinv
            have HP := hid hP
            have HR2 := hid hR2
            have HINV := hid hinv
            clear hP hR2 hinv
            go_wp2_with (first
              | (go_at_call 21; refine HP.out.mono ?_; rintro en w3 ⟨rfl, hA3, hG3⟩; have K3 := hid (And.intro hA3 hG3); clear hA3 hG3)
              | (go_at_call 22; refine (HR2.out w3 (HI.out.first K3.out.2).1).mono ?_; rintro en w4 ⟨rfl, hA4, hG4⟩; have HI2 := hid (HI.out.second K3.out.2 K3.out.1 hG4 hA4 HINV.out); clear hA4 hG4; obtain ⟨sa, sc, sd0, sd1⟩ := HI2.out.reads; have hll2 : l2.length ≤ 140737488351232 := HI2.out.1.len))
            go_quiet (first | (go_at_call 29; exact Calls.quiet_of_same (HI2.out.left _ ⟨_, rfl⟩)) | (go_at_call 30; exact Calls.quiet_of_same (HI2.out.err _ ⟨_, rfl⟩)))
            go_wp2
            go_roundw
            case rel => exact ⟨i + 1, l2, e2, by omega, by go_num, HI2.out.drew⟩
            case measure => simp [intOf]; omega
          · by_cases h3 : R = 3
            · subst h3
              have hP := fun W (h : LR w g gw l e W) => Take_any W g l e Q HQ2.out h.1 h.2.2.1
              have hR2 := fun W (h : RR W gw l e) => RTake_any W gw l e Q HQ2.out h HI.out.2.2.1
              have hinv := tSpec_inv Q l e HI.out.2.2.1
              have hlen := tSpec_len Q l e
              generalize tSpec Q l e = u at *
              obtain ⟨bs, l2, e2⟩ := u
              simp only at hP hR2 hinv hlen
              have HP := hid hP
              have HR2 := hid hR2
              have HINV := hid hinv
              have hbl : bs.length ≤ 140737488351232 := by omega
              obtain ⟨S, hS⟩ : ∃ S : ByteArray, S = ⟨bs.toArray⟩ := ⟨_, rfl⟩
              have HCO : Hid (∀ (W : World) (v : Value) {B : Nat}, W.ownsRow B 5 1 v bs.length (Lib.byteCells bs) → (convert 22 9 v).run Try.prog W = .ok (.string S) W) := hid fun W v B h => by
                rw [hS]; exact conv_bytes (bytes_of_owned h hbl)
              have HCI : Hid (∀ (W : World) (v : Value), BytesIn gw W v bs → (convert 22 9 v).run Try.prog W = .ok (.string S) W) := hid fun W v h => by
                rw [hS]; exact conv_in h
              have HD : Hid (LR w g gw l e wr.drew) := hid (HI.out.drew (q := 1))
              have hwi : IntKind.i64.wrap Q = Q := by rw [IntKind.wrap_i64]; have := hwQ; unfold wrap64 at this; exact this
              clear hP hR2 hinv hlen hbl hS rd0 rd1
              go_wp2
              refine wp_region_any (by kernel_rfl) ?_
              change wpAny _ _ _ _ _ _ _ (World.drew _)
              refine wpAny_take (oi := ⟨_, _, _, _, _, _⟩) (i := 0) (v := ?_) rfl (by kernel_rfl) (by kernel_rfl) (by kernel_rfl) (fun _ _ _ h => h) (Or.inl ⟨by rfl, ?_⟩) ?_
              rotate_left
              · intro W; go_simp; try with_reducible rfl
              try simp only [Act.put, List.setIfInBounds_toArray, List.set_cons_zero, List.set_cons_succ]
              refine wpAny_take (oi := ⟨_, _, _, _, _, _⟩) (i := 1) (v := ?_) rfl (by kernel_rfl) (by kernel_rfl) (by kernel_rfl) (fun _ _ _ h => h) (Or.inl ⟨by rfl, ?_⟩) ?_
              rotate_left
              · intro W; go_simp; try with_reducible rfl
              try simp only [Act.put, List.setIfInBounds_toArray, List.set_cons_zero, List.set_cons_succ]
              refine wpAny_take (oi := ⟨_, _, _, _, _, _⟩) (i := 2) (v := ?_) rfl (by kernel_rfl) (by kernel_rfl) (by kernel_rfl) (fun _ _ _ h => h) (Or.inl ⟨by rfl, ?_⟩) ?_
              rotate_left
              · intro W; go_simp; try with_reducible rfl
              try simp only [Act.put, List.setIfInBounds_toArray, List.set_cons_zero, List.set_cons_succ]
              refine wpAny_take (oi := ⟨_, _, _, _, _, _⟩) (i := 5) (v := ?_) rfl (by kernel_rfl) (by kernel_rfl) (by kernel_rfl) (fun _ _ _ h => h) (Or.inl ⟨by rfl, ?_⟩) ?_
              rotate_left
              · intro W; go_simp; try with_reducible rfl
              try simp only [Act.put, List.setIfInBounds_toArray, List.set_cons_zero, List.set_cons_succ]
              refine wpAny_take (oi := ⟨_, _, _, _, _, _⟩) (i := 6) (v := ?_) rfl (by kernel_rfl) (by kernel_rfl) (by kernel_rfl) (fun _ _ _ h => h) (Or.inl ⟨by rfl, ?_⟩) ?_
              rotate_left
              · intro W; go_simp; try with_reducible rfl
              try simp only [Act.put, List.setIfInBounds_toArray, List.set_cons_zero, List.set_cons_succ]
              refine wpAny_take (oi := ⟨_, _, _, _, _, _⟩) (i := 7) (v := ?_) rfl (by kernel_rfl) (by kernel_rfl) (by kernel_rfl) (fun _ _ _ h => h) (Or.inl ⟨by rfl, ?_⟩) ?_
              rotate_left
              · intro W; go_simp; try with_reducible rfl
              try simp only [Act.put, List.setIfInBounds_toArray, List.set_cons_zero, List.set_cons_succ]
              refine wpAny_ready (rs := [3]) (by kernel_rfl) (by simp) ?_
              refine AllReady.cons (o := ⟨_, _, _, _, _, _⟩) rfl (fun K hK => ?_) ?_
              · go_simp
                try simp only [hwi]
                go_wp2_with (go_at_call 23; refine (HP.out _ HD.out).mono ?_; rintro en w3 ⟨v3, rfl, own3, hA3, hG3⟩; have hc3 := (HCO.out _ _ own3); have KO := hid own3; have K3 := hid (And.intro hA3 hG3); have HSZ := hid (show gw < wr.drew.heap.size from HD.out.2.1.lt); clear own3 hA3 hG3)
                try (refine hK _ _ ?_; clear hK K)
                refine wpAny_ready (rs := [4, 8]) (by kernel_rfl) (by simp) ?_
                refine AllReady.cons (o := ⟨_, _, _, _, _, _⟩) rfl (fun K hK => ?_) ?_
                · go_simp
                  refine hK _ _ ?_
                  clear hK K
                  refine wpAny_ready (rs := [8]) (by kernel_rfl) (by simp) ?_
                  refine AllReady.cons (o := ⟨_, _, _, _, _, _⟩) rfl (fun K hK => ?_) ?_
                  · go_simp
                    try simp only [hwi]
                    go_wp2_with (go_at_call 24; refine (HR2.out w3 (HD.out.first K3.out.2).1).mono ?_; rintro en w4 ⟨v4, rfl, hb4, hA4, hG4⟩; have hc4 := (HCI.out _ _ hb4); have hc5 := (HCO.out _ _ (own_keep KO.out hG4 HSZ.out)); have HI2 := hid (HD.out.second K3.out.2 K3.out.1 hG4 hA4 HINV.out); clear hA4 hG4 hb4; obtain ⟨sa, sc, sd0, sd1⟩ := HI2.out.reads; have hll2 : l2.length ≤ 140737488351232 := HI2.out.1.len)
                    try (refine hK _ _ ?_; clear hK K)
                    refine wpAny_ready (rs := [9]) (by kernel_rfl) (by simp) ?_
                    refine AllReady.cons (o := ⟨_, _, _, _, _, _⟩) rfl (fun K hK => ?_) ?_
                    · go_simp
                      refine hK _ _ ?_
                      clear hK K
                      refine wpAny_take (oi := ⟨_, _, _, _, _, _⟩) (i := 10) (v := ?_) rfl (by kernel_rfl) (by kernel_rfl) (by kernel_rfl) (fun _ _ _ h => h) (Or.inl ⟨by rfl, ?_⟩) ?_
                      rotate_left
                      · intro W; go_simp; try with_reducible rfl
                      try simp only [Act.put, List.setIfInBounds_toArray, List.set_cons_zero, List.set_cons_succ]
                      refine wpAny_take (oi := ⟨_, _, _, _, _, _⟩) (i := 11) (v := ?_) rfl (by kernel_rfl) (by kernel_rfl) (by kernel_rfl) (fun _ _ _ h => h) (Or.inl ⟨by rfl, ?_⟩) ?_
                      rotate_left
                      · intro W; go_simp; try with_reducible rfl
                      try simp only [Act.put, List.setIfInBounds_toArray, List.set_cons_zero, List.set_cons_succ]
                      refine wpAny_done (by kernel_rfl) ?_ _
                      go_wp2
                      go_quiet (first | (go_at_call 29; exact Calls.quiet_of_same (HI2.out.left _ ⟨_, rfl⟩)) | (go_at_call 30; exact Calls.quiet_of_same (HI2.out.err _ ⟨_, rfl⟩)))
                      go_wp2
                      go_roundw
                      case rel => exact ⟨i + 1, l2, e2, by omega, by go_num, HI2.out.drew⟩
                      case measure => simp [intOf]; omega
                    exact AllReady.nil
                  exact AllReady.nil
                refine AllReady.cons (o := ⟨_, _, _, _, _, _⟩) rfl (fun K hK => ?_) ?_
                · go_simp
                  try simp only [hwi]
                  go_wp2_with (go_at_call 24; refine (HR2.out w3 (HD.out.first K3.out.2).1).mono ?_; rintro en w4 ⟨v4, rfl, hb4, hA4, hG4⟩; have hc4 := (HCI.out _ _ hb4); have hc5 := (HCO.out _ _ (own_keep KO.out hG4 HSZ.out)); have HI2 := hid (HD.out.second K3.out.2 K3.out.1 hG4 hA4 HINV.out); clear hA4 hG4 hb4; obtain ⟨sa, sc, sd0, sd1⟩ := HI2.out.reads; have hll2 : l2.length ≤ 140737488351232 := HI2.out.1.len)
                  try (refine hK _ _ ?_; clear hK K)
                  refine wpAny_ready (rs := [4, 9]) (by kernel_rfl) (by simp) ?_
                  refine AllReady.cons (o := ⟨_, _, _, _, _, _⟩) rfl (fun K hK => ?_) ?_
                  · go_simp
                    refine hK _ _ ?_
                    clear hK K
                    refine wpAny_ready (rs := [9]) (by kernel_rfl) (by simp) ?_
                    refine AllReady.cons (o := ⟨_, _, _, _, _, _⟩) rfl (fun K hK => ?_) ?_
                    · go_simp
                      refine hK _ _ ?_
                      clear hK K
                      refine wpAny_take (oi := ⟨_, _, _, _, _, _⟩) (i := 10) (v := ?_) rfl (by kernel_rfl) (by kernel_rfl) (by kernel_rfl) (fun _ _ _ h => h) (Or.inl ⟨by rfl, ?_⟩) ?_
                      rotate_left
                      · intro W; go_simp; try with_reducible rfl
                      try simp only [Act.put, List.setIfInBounds_toArray, List.set_cons_zero, List.set_cons_succ]
                      refine wpAny_take (oi := ⟨_, _, _, _, _, _⟩) (i := 11) (v := ?_) rfl (by kernel_rfl) (by kernel_rfl) (by kernel_rfl) (fun _ _ _ h => h) (Or.inl ⟨by rfl, ?_⟩) ?_
                      rotate_left
                      · intro W; go_simp; try with_reducible rfl
                      try simp only [Act.put, List.setIfInBounds_toArray, List.set_cons_zero, List.set_cons_succ]
                      refine wpAny_done (by kernel_rfl) ?_ _
                      go_wp2
                      go_quiet (first | (go_at_call 29; exact Calls.quiet_of_same (HI2.out.left _ ⟨_, rfl⟩)) | (go_at_call 30; exact Calls.quiet_of_same (HI2.out.err _ ⟨_, rfl⟩)))
                      go_wp2
                      go_roundw
                      case rel => exact ⟨i + 1, l2, e2, by omega, by go_num, HI2.out.drew⟩
                      case measure => simp [intOf]; omega
                    exact AllReady.nil
                  refine AllReady.cons (o := ⟨_, _, _, _, _, _⟩) rfl (fun K hK => ?_) ?_
                  · go_simp
                    refine hK _ _ ?_
                    clear hK K
                    refine wpAny_ready (rs := [4]) (by kernel_rfl) (by simp) ?_
                    refine AllReady.cons (o := ⟨_, _, _, _, _, _⟩) rfl (fun K hK => ?_) ?_
                    · go_simp
                      refine hK _ _ ?_
                      clear hK K
                      refine wpAny_take (oi := ⟨_, _, _, _, _, _⟩) (i := 10) (v := ?_) rfl (by kernel_rfl) (by kernel_rfl) (by kernel_rfl) (fun _ _ _ h => h) (Or.inl ⟨by rfl, ?_⟩) ?_
                      rotate_left
                      · intro W; go_simp; try with_reducible rfl
                      try simp only [Act.put, List.setIfInBounds_toArray, List.set_cons_zero, List.set_cons_succ]
                      refine wpAny_take (oi := ⟨_, _, _, _, _, _⟩) (i := 11) (v := ?_) rfl (by kernel_rfl) (by kernel_rfl) (by kernel_rfl) (fun _ _ _ h => h) (Or.inl ⟨by rfl, ?_⟩) ?_
                      rotate_left
                      · intro W; go_simp; try with_reducible rfl
                      try simp only [Act.put, List.setIfInBounds_toArray, List.set_cons_zero, List.set_cons_succ]
                      refine wpAny_done (by kernel_rfl) ?_ _
                      go_wp2
                      go_quiet (first | (go_at_call 29; exact Calls.quiet_of_same (HI2.out.left _ ⟨_, rfl⟩)) | (go_at_call 30; exact Calls.quiet_of_same (HI2.out.err _ ⟨_, rfl⟩)))
                      go_wp2
                      go_roundw
                      case rel => exact ⟨i + 1, l2, e2, by omega, by go_num, HI2.out.drew⟩
                      case measure => simp [intOf]; omega
                    exact AllReady.nil
                  exact AllReady.nil
                exact AllReady.nil
              exact AllReady.nil
            · by_cases h4 : R = 4
              · subst h4
                have hP := Name_rd wr g l e HI.out.1 HI.out.2.2.1
                have hR2 := fun W (h : RR W gw l e) => RName_any W gw l e h HI.out.2.2.1
                have hinv := nSpec_inv l e HI.out.2.2.1
                generalize nSpec l e = u at *
                obtain ⟨v, l2, e2⟩ := u
                simp only at hP hR2 hinv
                have HP := hid hP
                have HR2 := hid hR2
                have HINV := hid hinv
                clear hP hR2 hinv
                go_wp2_with (first
                  | (go_at_call 25; refine HP.out.mono ?_; rintro en w3 ⟨rfl, hA3, hG3⟩; have K3 := hid (And.intro hA3 hG3); clear hA3 hG3)
                  | (go_at_call 26; refine (HR2.out w3 (HI.out.first K3.out.2).1).mono ?_; rintro en w4 ⟨rfl, hA4, hG4⟩; have HI2 := hid (HI.out.second K3.out.2 K3.out.1 hG4 hA4 HINV.out); clear hA4 hG4; obtain ⟨sa, sc, sd0, sd1⟩ := HI2.out.reads; have hll2 : l2.length ≤ 140737488351232 := HI2.out.1.len))
                go_quiet (first | (go_at_call 29; exact Calls.quiet_of_same (HI2.out.left _ ⟨_, rfl⟩)) | (go_at_call 30; exact Calls.quiet_of_same (HI2.out.err _ ⟨_, rfl⟩)))
                go_wp2
                go_roundw
                case rel => exact ⟨i + 1, l2, e2, by omega, by go_num, HI2.out.drew⟩
                case measure => simp [intOf]; omega
              · have e0 : (R == 0) = false := by simpa using h0
                have e1 : (R == 1) = false := by simpa using h1
                have e2 : (R == 2) = false := by simpa using h2
                have e3 : (R == 3) = false := by simpa using h3
                have e4 : (R == 4) = false := by simpa using h4
                clear h0 h1 h2 h3 h4
                obtain ⟨F, hF3⟩ : ∃ F, Q.tmod 3 = F := ⟨_, rfl⟩
                by_cases hF : F = 0
                · subst hF
                  have hP := Fail_not wr g l e 0 HI.out.1 (.inr rfl)
                  have hR2 := RFail_not wr gw l e 0 HI.out.2.1 (.inr rfl)
                  have HP := hid hP
                  have HR2 := hid hR2
                  obtain ⟨l2, hl2⟩ : ∃ l2, l2 = l := ⟨_, rfl⟩
                  obtain ⟨e2, he2⟩ : ∃ e2, e2 = e := ⟨_, rfl⟩
                  have HI2 : Hid (LR w g gw l2 e2 wr) := hid (by rw [hl2, he2]; exact HI.out)
                  obtain ⟨sa, sc, sd0, sd1⟩ := HI2.out.reads
                  have hll2 : l2.length ≤ 140737488351232 := HI2.out.1.len
                  clear hP hR2 hl2 he2 rd0 rd1
                  go_wp2_with (first
                    | (go_at_call 27; refine HP.out.mono ?_; rintro en w3 ⟨rfl, rfl⟩)
                    | (go_at_call 28; refine HR2.out.mono ?_; rintro en w4 ⟨rfl, rfl⟩))
                  go_quiet (first | (go_at_call 29; exact Calls.quiet_of_same (HI2.out.left _ ⟨_, rfl⟩)) | (go_at_call 30; exact Calls.quiet_of_same (HI2.out.err _ ⟨_, rfl⟩)))
                  go_wp2
                  go_roundw
                  case rel => exact ⟨i + 1, l2, e2, by omega, by go_num, HI2.out.drew⟩
                  case measure => simp [intOf]; omega
                · have hP := Fail_any wr g l e F HI.out.1 HI.out.2.2.1 hF
                  have hR2 := fun W (h : RR W gw l e) => RFail_any W gw l e F h HI.out.2.2.1 hF
                  obtain ⟨l2, hl2⟩ : ∃ l2 : List UInt8, l2 = [] := ⟨_, rfl⟩
                  obtain ⟨e2, he2⟩ : ∃ e2, e2 = fl e F := ⟨_, rfl⟩
                  rw [← hl2, ← he2] at hP hR2
                  have HP := hid hP
                  have HR2 := hid hR2
                  have HINV : Hid (e2 ≠ 0 → l2 = []) := hid fun _ => hl2
                  clear hP hR2 hl2 he2 hF rd0 rd1
                  go_wp2_with (first
                    | (go_at_call 27; refine HP.out.mono ?_; rintro en w3 ⟨rfl, hA3, hG3⟩; have K3 := hid (And.intro hA3 hG3); clear hA3 hG3)
                    | (go_at_call 28; refine (HR2.out w3 (HI.out.first K3.out.2).1).mono ?_; rintro en w4 ⟨rfl, hA4, hG4⟩; have HI2 := hid (HI.out.second K3.out.2 K3.out.1 hG4 hA4 HINV.out); clear hA4 hG4; obtain ⟨sa, sc, sd0, sd1⟩ := HI2.out.reads; have hll2 : l2.length ≤ 140737488351232 := HI2.out.1.len))
                  go_quiet (first | (go_at_call 29; exact Calls.quiet_of_same (HI2.out.left _ ⟨_, rfl⟩)) | (go_at_call 30; exact Calls.quiet_of_same (HI2.out.err _ ⟨_, rfl⟩)))
                  go_wp2
                  go_roundw
                  case rel => exact ⟨i + 1, l2, e2, by omega, by go_num, HI2.out.drew⟩
                  case measure => simp [intOf]; omega
    · have hor : ¬ i < len1 ∨ i < len1 ∧ ¬ i < 100 := by omega
      rcases hor with hn | ⟨hn1, hn2⟩
      · have hnn : decide (i < len1) = false := decide_eq_false hn
        clear hlt
        go_wp2
        go_quiet ((go_at_call 29; exact Calls.quiet_of_same (HI.out.left _ ⟨_, rfl⟩)))
        go_wp2
        go_ret
        exact ⟨rfl, HI.out.drew.2.2.2.2.2⟩
      · have hnn : decide (i < len1) = true := decide_eq_true hn1
        have hnn2 : decide ((i : Int) < 100) = false := decide_eq_false (by omega)
        clear hlt
        go_wp2
        go_quiet ((go_at_call 29; exact Calls.quiet_of_same (HI.out.left _ ⟨_, rfl⟩)))
        go_wp2
        go_ret
        exact ⟨rfl, HI.out.drew.2.2.2.2.2⟩

/-! ### THE ROW's STEP: WRITTEN OUT: LEAVE IT -/
set_option maxRecDepth 100000 in
theorem lifted (os : Os) (started : os.Started) (H : Type) (enc : TypeId × Value → H) :
    ReturnsInHanded {} Try.checked os 4 .any (Rows.lebReadsSpec.pre6 enc Try.prog Try.f4 Rows.lebReadsRow.domain false) (Rows.lebReadsSpec.post enc Try.prog Try.f4 false true false false) := by
  refine returnsInHanded_of_change_sized (C := Try.checked) own started (by kernel_rfl) Try.func4
    (ChangeSpec.witness6 (enc := enc) (C := Try.checked) false ⟨#[], #[.slice none 0 0, .slice none 0 0], []⟩ 8 (by kernel_rfl) (by kernel_rfl) (by kernel_rfl) (by kernel_rfl)) ?_
  intro W base args ds gs before hval0 hW hcnd hsz0 _
  have hsz : (DataW.weightsEach Try.prog (Try.f4.params.toList ++ Rows.lebReadsSpec.plain.varTypes Try.prog) (ds ++ gs)).all (· ≤ reachBytes) = true := hsz0
  have hval : ∀ (j : Nat) t v, Try.f4.params[j]? = some t → args[j]? = some v → Value.okWide Try.prog W .any base t v := hval0
  have hW' := hW
  obtain ⟨p, q, hA0, hV, rfl, hfz, hnd⟩ := hW
  have hA : DataW.TrodAll enc Try.prog W 0 (fun _ => true) true Try.f4.params.toList args.toList ds p := hA0
  rw [Try.params4] at hA hval hsz
  obtain ⟨v0, vs0, d0, ds0, p0, q0, hargs, rfl, rfl, h0, r0⟩ := trodAll_cons hA
  obtain ⟨v1, vs1, d1, ds1, p1, q1, rfl, rfl, rfl, h1, r1⟩ := trodAll_cons r0
  obtain ⟨rfl, rfl, rfl⟩ := trodAll_nil r1
  obtain rfl : args = #[v0, v1] := by cases args; simp_all
  obtain ⟨rfl, rfl⟩ := trodVars_none hV
  obtain ⟨a0, len0, cap0, rfl⟩ := okWide_slice Try.underlying22 (hval 0 22 v0 rfl rfl)
  have k0 := h0
  have lt0 : ∀ x ∈ p0, x.block < W.heap.size := by obtain ⟨m, hm⟩ := k0; exact DataW.trod_lt m _ _ _ hm
  obtain ⟨z0, w0, hlen0⟩ : ∃ zs, IsRow .u8 W a0 len0 cap0 zs ∧ len0 ≤ 140737488351232 := by
    obtain ⟨fuel, hf⟩ := h0
    rcases open_ints Try.underlying22 Try.underlying5 (by kernel_rfl) hf with ⟨hcs, _⟩ | ⟨x, l, c, zs, hcs, _, hl, hm, hz, hx, hcell, hwz⟩
    · simp [Value.cells] at hcs
      obtain ⟨rfl, rfl, rfl⟩ := hcs
      exact ⟨[], .inl ⟨rfl, rfl, rfl, rfl⟩, by omega⟩
    · simp [Value.cells] at hcs
      obtain ⟨rfl, rfl, rfl⟩ := hcs
      obtain ⟨hx1, _⟩ := Prod.mk.inj hx
      have hs := sized_slice hsz (j := 0) (t := 22) (e := 5) rfl (by show some _ = _; rw [hx1]) Try.underlying22
      have hb5 : Try.prog.bytesOf 5 = 1 := by kernel_rfl
      rw [hb5, Nat.mul_one] at hs
      have hz2 : zs.length = cap0 := by simpa using hz
      exact ⟨zs, .inr ⟨_, rfl, hl, hm, by simpa using hz, hcell, hwz⟩, by simp [lits, reachBytes] at hs; omega⟩
  obtain ⟨a1, len1, cap1, rfl⟩ := okWide_slice Try.underlying32 (hval 1 32 v1 rfl rfl)
  have k1 := h1
  have lt1 : ∀ x ∈ p1, x.block < W.heap.size := by obtain ⟨m, hm⟩ := k1; exact DataW.trod_lt m _ _ _ hm
  obtain ⟨z1, w1⟩ : ∃ zs, IsRow .i64 W a1 len1 cap1 zs := by
    obtain ⟨fuel, hf⟩ := h1
    rcases open_ints Try.underlying32 Try.underlying3 (by kernel_rfl) hf with ⟨hcs, _⟩ | ⟨x, l, c, zs, hcs, _, hl, hm, hz, _, hcell, hwz⟩
    · simp [Value.cells] at hcs
      obtain ⟨rfl, rfl, rfl⟩ := hcs
      exact ⟨[], .inl ⟨rfl, rfl, rfl, rfl⟩⟩
    · simp [Value.cells] at hcs
      obtain ⟨rfl, rfl, rfl⟩ := hcs
      exact ⟨zs, .inr ⟨_, rfl, hl, hm, by simpa using hz, hcell, hwz⟩⟩
  clear hA0 hval0
  refine (walk a0 len0 cap0 z0 a1 len1 cap1 z1 W w0 hlen0 w1).mono fun e W' ⟨he, bel⟩ => ?_
  subst he
  exact ⟨_, rfl, _, _, _, [], _, [], hW', trodAll_mk1 (shut_bool Try.underlying4 _), (trodAll_cons_mk (Below.trod laidOut (by kernel_rfl) (of_decide_eq_true (by kernel_rfl)) k0 bel lt0) (trodAll_cons_mk (Below.trod laidOut (by kernel_rfl) (of_decide_eq_true (by kernel_rfl)) k1 bel lt1) trodAll_mk0)), rfl, bel.frame _, fun h => by cases h⟩

theorem over : Rows.lebReadsRow.holds Try.pinned (OpenSpec.ofChange Rows.lebReadsSpec) :=
  OpenClaim.holds_of_wide 4 Try.f4 rfl rfl rfl rfl rfl rfl rfl ⟨rfl, rfl, rfl, rfl, rfl⟩ rfl rfl rfl rfl rfl (by kernel_rfl) Try.func4 (by kernel_rfl)
    (of_decide_eq_true (by kernel_rfl)) (by unfold Func.isWrapper; first | (rw [if_pos (by decide +kernel)]; kernel_rfl) | (rw [if_neg (by decide +kernel)]; exact ⟨rfl, rfl⟩))
    (fun os started H enc _ => lifted os started H enc)

/-- The statement. -/
theorem proved : Rows.LebReadsSaid := over
#print axioms proved
end Go.Proofs.Ytljfhedmpnikiaa.lebReads
