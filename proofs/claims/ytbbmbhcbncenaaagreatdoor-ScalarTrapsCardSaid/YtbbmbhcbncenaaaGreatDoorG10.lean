/-
  FRound, FSmall2: merged, what the law does not reach left out (each text says what it holds where it lies in wip). No condition.
-/
import Derived.Test.YtbbmbhcbncenaaaGreatDoorG09
import Derived.Deep.DeepCutAuto
import Derived.Deep.RegionWith
import Derived.Test.YtbbmbhcbncenaaaGreatDoorG01
set_option linter.unusedSimpArgs false
set_option linter.unusedVariables false
set_option maxRecDepth 100000
namespace Go.Proofs.YtbbmbhcbncenaaaGreatDoor.Fl
open Go.RowKit
theorem shl_run {P : Program} {w : World} (x s : Nat) : (Op.shift .shl .u64 (x : Int) .i64 (s : Int)).run P w = .ok (.int .u64 ((x * 2 ^ s % 18446744073709551616 : Nat) : Int)) w := by
  unfold Op.shift
  rw [if_neg (by omega)]
  show Result.ok (Value.int .u64 (IntKind.u64.wrap ((x : Int) * 2 ^ (min (s : Int).toNat IntKind.u64.bits)))) w = _
  rw [IntKind.wrap_u64, Int.toNat_natCast]
  rw [show IntKind.u64.bits = 64 from rfl]
  congr 2
  by_cases h : s ≤ 64
  · rw [Nat.min_eq_left h, Int.natCast_emod, Int.natCast_mul, Int.natCast_pow]; rfl
  · rw [Nat.min_eq_right (by omega)]
    have e : s = 64 + (s - 64) := by omega
    have h1 : x * 2 ^ s % 18446744073709551616 = 0 := by
      rw [e, Nat.pow_add, show (2 : Nat) ^ 64 = 18446744073709551616 by decide, ← Nat.mul_assoc, Nat.mul_right_comm, Nat.mul_mod_left]
    rw [h1, show (2 : Int) ^ 64 = 18446744073709551616 by decide, Int.mul_emod_left]
    rfl
theorem shr_run {P : Program} {w : World} (x s : Nat) (hx : x < 18446744073709551616) : (Op.shift .shr .u64 (x : Int) .i64 (s : Int)).run P w = .ok (.int .u64 ((x / 2 ^ s : Nat) : Int)) w := by
  unfold Op.shift
  rw [if_neg (by omega)]
  show Result.ok (Value.int .u64 ((x : Int).fdiv (2 ^ (min (s : Int).toNat IntKind.u64.bits)))) w = _
  rw [Int.toNat_natCast, show IntKind.u64.bits = 64 from rfl, Int.fdiv_eq_ediv_of_nonneg _ (Int.le_of_lt (Int.pow_pos (by decide)))]
  congr 2
  by_cases h : s ≤ 64
  · rw [Nat.min_eq_left h, Int.natCast_ediv, Int.natCast_pow]; rfl
  · rw [Nat.min_eq_right (by omega)]
    have h64 : (2 : Nat) ^ 64 = 18446744073709551616 := by decide
    have hle : (2 : Nat) ^ 64 ≤ 2 ^ s := Nat.pow_le_pow_right (by decide) (by omega)
    rw [Nat.div_eq_of_lt (show x < 2 ^ s by omega), show (2 : Int) ^ 64 = 18446744073709551616 by decide]
    omega
theorem word_or (k r : Nat) (ng : Bool) (h : r < 2 ^ k) : (if ng then 2 ^ k else 0) ||| r = (if ng then 2 ^ k + r else r) := by
  cases ng with
  | false => simp
  | true =>
    have := Nat.two_pow_add_eq_or_of_lt h 1
    rw [Nat.mul_one] at this
    simp [this]
set_option maxRecDepth 20000 in
set_option maxHeartbeats 6400000 in
theorem round_32 (ng : Bool) (m : Nat) (hm : m < 18446744073709551616) (e : Int) (he0 : -9223372036854775808 ≤ e) (he1 : e ≤ 9223372036854775807) (more : Bool) (hmore : more = true → 288230376151711744 ≤ m) (w : World) :
    Calls Tryz.prog 161 #[.agg #[.int .i64 8, .int .i64 23], .agg #[.bool ng, .int .u64 m, .int .i64 e], .bool more] w fun r w' => r = .returned (.int .u64 ((Ieee.single.word ng (rungR Ieee.single m e more) : Nat) : Int)) ∧ Below w.heap.size w w' := by
  obtain ⟨sg, hsg⟩ : ∃ sg : Nat, sg = if ng then 2147483648 else 0 := ⟨_, rfl⟩
  obtain ⟨R, hR⟩ : ∃ R : Nat, R = Ieee.single.word ng (rungR Ieee.single m e more) := ⟨_, rfl⟩
  rw [← hR]
  have HR := hid hR
  have HSG := hid hsg
  have HMORE := hid hmore
  have HM := hid hm
  have HE := hid (And.intro he0 he1)
  clear hsg hR hmore hm he0 he1
  go_enter Tryz.func161, Tryz.ntmps161
  go_upto_if 13 with fail
  go_cut [7] (fun s7 wx => s7 = .int .u64 sg ∧ Sx 8 23 w wx ∧ Nb (w.heap.size + 1) ng m e wx)
  case first =>
    have hS := (Sx.new 8 23 w).alloc (.cells #[.bool ng, .int .u64 m, .int .i64 e] 153)
    have hN := Nb.new ng m e (w.alloc (.cells #[.int .i64 8, .int .i64 23] 114))
    rw [show (w.alloc (.cells #[.int .i64 8, .int .i64 23] 114)).heap.size = w.heap.size + 1 by simp] at hN
    cases ng with
    | false =>
      have hs0 : sg = 0 := HSG.out
      subst hs0
      go_wp2
      go_meet
      exact ⟨rfl, hS, hN⟩
    | true =>
      have hs0 : sg = 2147483648 := HSG.out
      subst hs0
      go_wp2_with (go_at_call 156; refine (signBit_32 _).mono ?_; rintro e w1 ⟨rfl, hb⟩)
      go_meet
      exact ⟨rfl, hS.call hb, hN.call hb⟩
  case rest =>
    obtain ⟨rfl, hS, hN⟩ := hcut
    have HS := hid hS
    have HN := hid hN
    obtain ⟨c0, c1⟩ := hS.1
    obtain ⟨⟨x0, x1, x2⟩, x3, x4, x5⟩ := id hN
    clear hS hN
    by_cases hm0 : m = 0
    · subst hm0
      have hR0 : R = sg := by
        rw [HR.out, HSG.out]
        have : more = false := by
          cases more with
          | false => rfl
          | true => have := HMORE.out rfl; omega
        rw [this, rungR_false]
        unfold rungOf Ieee.Format.word
        rw [if_pos rfl]
        cases ng <;> rfl
      subst hR0
      go_wp2
      go_ret
      exact ⟨rfl, HS.out.2⟩
    · have hm1 : ((m : Int) == 0) = false := by simp; omega
      have HM0 := hid hm0
      obtain ⟨ec, hec⟩ : ∃ ec : Int, ec = clamp e := ⟨_, rfl⟩
      have hec2 : max (-2048) (min e 2048) = ec := by rw [hec]; rfl
      clear hm0 hec
      have hec3 : -4611686018427387904 ≤ ec ∧ ec ≤ 4611686018427387904 := by omega
      go_upto_region 6 with fail
      go_cut [4] (fun s4 wx => s4 = .pointer (some ⟨w.heap.size + 1, 0, none⟩) ∧ Sx 8 23 w wx ∧ Nb (w.heap.size + 1) ng m ec wx)
      case first =>
        have HEC := hid hec2
        clear hec2 hec3
        by_cases h1 : 2048 < e
        · have he2 : ec = 2048 := by have := HEC.out; omega
          have h2 : ¬ e < -2048 := by omega
          subst he2
          go_wp2
          go_meet
          exact ⟨rfl, HS.out.set (by omega), HN.out.sete⟩
        · by_cases h2 : e < -2048
          · have he2 : ec = -2048 := by have := HEC.out; omega
            subst he2
            go_wp2
            all_goals
              go_meet
              exact ⟨rfl, HS.out.set (by omega), HN.out.sete⟩
          · have he2 : ec = e := by have := HEC.out; omega
            subst he2
            have h3 : -2048 ≤ ec := by omega
            have h4 : ec ≤ 2048 := by omega
            go_wp2
            all_goals
              go_meet
              first
                | exact ⟨rfl, HS.out.set (by omega), HN.out.sete⟩
                | (have h9 : ec = -2048 := by omega
                   subst h9
                   exact ⟨rfl, HS.out.set (by omega), HN.out.sete⟩)
                | (have h9 : ec = 2048 := by omega
                   subst h9
                   exact ⟨rfl, HS.out.set (by omega), HN.out.sete⟩)
      clear HS HN c0 c1 x0 x1 x2 x3 x4 x5 hm1
      obtain ⟨rfl, hS, hN⟩ := hcut
      have HS := hid hS
      have HN := hid hN
      obtain ⟨c0, c1⟩ := hS.1
      obtain ⟨⟨x0, x1, x2⟩, x3, x4, x5⟩ := id hN
      have HEC := hid hec2
      clear hS hN hec2
      go_wp2_with (go_at_call 159; (with_reducible refine (normal_any ng m HM.out ec hec3.1 hec3.2 _).mono ?_); rintro r2 w2 ⟨j, hj, hl, hlt, he2, hb⟩; obtain ⟨y, hy⟩ : ∃ y : Nat, y = m * 2 ^ j := ⟨_, rfl⟩; obtain ⟨dd, hdd⟩ : ∃ dd : Int, dd = ec - (j : Int) := ⟨_, rfl⟩; rw [← hy, ← hdd] at he2; subst he2; have hS2 := HS.out.call hb; have hN2 := HN.out.call hb; have HS2 := hid hS2; have HN2 := hid hN2; have HJ := hid (And.intro hj (And.intro hl hlt)); have HY := hid hy; have HDD := hid hdd; clear c0 c1 x0 x1 x2 x3 x4 x5 hec3 hj hl hlt hb hy hdd; obtain ⟨c0, c1⟩ := hS2.1; obtain ⟨⟨x0, x1, x2⟩, x3, x4, x5⟩ := hN2; clear hS2)
      have hS := ((HS2.out.set (c := w.heap.size + 1) (o := 0) (u := .bool ng) (by omega)).set (c := w.heap.size + 1) (o := 1) (u := .int .u64 y) (by omega)).set (c := w.heap.size + 1) (o := 2) (u := .int .i64 dd) (by omega)
      have hN := HN2.out.store (ng' := ng) (m' := y) (e' := dd)
      clear x0 x1 x2 x3 x4 x5 c0 c1 HS2 HN2 HS HN
      generalize ((w2.setCell ⟨w.heap.size + 1, 0, none⟩ (.bool ng)).setCell ⟨w.heap.size + 1, 1, none⟩ (.int .u64 y)).setCell ⟨w.heap.size + 1, 2, none⟩ (.int .i64 dd) = w3 at *
      have HS := hid hS
      have HN := hid hN
      obtain ⟨c0, c1⟩ := hS.1
      obtain ⟨⟨x0, x1, x2⟩, x3, x4, x5⟩ := hN
      clear hS
      have hdd1 : -2200 ≤ dd ∧ dd ≤ 2200 := by
        have h1 := HEC.out
        have h2 := HDD.out
        have h3 := HJ.out.1
        omega
      obtain ⟨D, hD⟩ : ∃ D : Nat, dropOf Ieee.single dd = D := ⟨(dropOf Ieee.single dd).toNat, by
        have h : dropOf Ieee.single dd = max 40 ((-149) - dd) := rfl
        omega⟩
      have hDm : max 40 ((-149) - dd) = (D : Int) := hD
      have hD1 : 11 ≤ D ∧ D ≤ 3000 := by omega
      have HD := hid hD
      have hw40 : IntKind.i64.wrap 40 = 40 := by decide
      have hwd : IntKind.i64.wrap ((-149) - dd) = (-149) - dd := by rw [IntKind.wrap_i64]; omega
      clear hD
      have HDM := hid hDm
      go_cut [8] (fun s8 wx => s8 = .int .i64 D ∧ Sx 8 23 w wx ∧ Nb (w.heap.size + 1) ng y dd wx)
      case first =>
        go_region_held3 (fun w' => w'.cell? ⟨w.heap.size, 0, none⟩ = some (.int .i64 8) ∧ w'.cell? ⟨w.heap.size, 1, none⟩ = some (.int .i64 23) ∧ w'.cell? ⟨w.heap.size + 1, 2, none⟩ = some (.int .i64 dd) ∧ Sx 8 23 w w' ∧ Nb (w.heap.size + 1) ng y dd w')
          (first
            | exact ⟨c0, c1, x2, HS.out.drew, HN.out.drew⟩
            | (go_split_ands; exact ⟨bkeep ‹_› hb, bkeep ‹_› hb, bkeep ‹_› hb, Sx.call ‹_› hb, Nb.call ‹_› hb⟩)
            | (go_split_ands; exact ⟨‹_›, ‹_›, ‹_›, ‹_›, ‹_›⟩))
          (first
            | (go_at_call 175; ((with_reducible refine (lowest_32 _).mono ?_); rintro e w' ⟨rfl, hb⟩)))
        all_goals
          (go_wp2_with fail) <;> (
            go_meet
            go_split_ands
            exact ⟨congrArg (Value.int .i64) (by have := HDM.out; omega), ‹_›, ‹_›⟩)
      case rest =>
        clear c0 c1 x0 x1 x2 x3 x4 x5 HS HN hw40 hwd hDm
        obtain ⟨rfl, hS, hN⟩ := hcut
        have HS := hid hS
        have HN := hid hN
        obtain ⟨c0, c1⟩ := hS.1
        obtain ⟨⟨x0, x1, x2⟩, x3, x4, x5⟩ := hN
        clear hS
        have hRM := round_math (f := Ieee.single) (by unfold Okf; simp) HM0.out HM.out e more HMORE.out (j := j) (HJ.out.2.1 HM0.out) HJ.out.2.2 D (by
          have h1 := HD.out
          have h2 := HDD.out
          have h3 := HEC.out
          have h4 : clamp e = ec := h3
          rw [h4, ← h2]; exact h1)
        rw [← HY.out] at hRM
        have hye : 9223372036854775808 ≤ y ∧ y < 18446744073709551616 := by
          have h1 := HJ.out.2.1 HM0.out
          have h2 := HJ.out.2.2
          have h3 := HY.out
          omega
        by_cases hbig : 64 < D
        · have hR0 : R = sg := by
            rw [HR.out, HSG.out, hRM.1 hbig]
            unfold Ieee.Format.word
            cases ng <;> rfl
          have hb1 : decide ((64 : Int) < (D : Int)) = true := by simp; omega
          have hb2 : (64 : Int) < (D : Int) := by omega
          subst hR0
          have HB := hid HS.out.2
          clear hRM hD1 hdd1 hbig hye
          go_wp2
          go_ret
          exact ⟨rfl, HB.out⟩
        · have hb1 : decide ((64 : Int) < (D : Int)) = false := by simp; omega
          have hb2 : ¬ (64 : Int) < (D : Int) := by omega
          have hRM2 := hRM.2 (by omega)
          have hR2 : R = (if ng then 2147483648 else 0) + (rungR Ieee.single m e more) := by
            rw [HR.out]; unfold Ieee.Format.word; cases ng
            · simp
            · rfl
          obtain ⟨kept, hkept⟩ : ∃ kept : Nat, kept = y / 2 ^ D := ⟨_, rfl⟩
          obtain ⟨lost, hlost⟩ : ∃ lost : Nat, lost = y * 2 ^ (64 - D) % 18446744073709551616 := ⟨_, rfl⟩
          obtain ⟨S, hSd⟩ : ∃ S : Nat, S = 64 - D := ⟨_, rfl⟩
          rw [← hkept, ← hlost] at hRM2
          have r1 : (y : Int) / 2 ^ D = (kept : Int) := by
            rw [hkept, Int.natCast_ediv, Int.natCast_pow]; rfl
          have r2 : IntKind.u64.wrap ((y : Int) * 2 ^ S) = (lost : Int) := by
            rw [IntKind.wrap_u64, hlost, hSd, Int.natCast_emod, Int.natCast_mul, Int.natCast_pow]; rfl
          have r3 : (64 : Int) - (D : Int) = (S : Int) := by omega
          have r4 : IntKind.i64.wrap (S : Int) = (S : Int) := by rw [IntKind.wrap_i64]; omega
          have hkb : kept ≤ 9007199254740992 := by
            have h11 : (2 : Nat) ^ 11 ≤ 2 ^ D := Nat.pow_le_pow_right (by decide) hD1.1
            have h12 : y / 2 ^ D ≤ y / 2 ^ 11 := Nat.div_le_div_left h11 (by decide)
            have h13 : (2 : Nat) ^ 11 = 2048 := by decide
            rw [h13] at h12
            omega
          have hS0 : (0 : Int) ≤ (S : Int) := by omega
          have hD0 : (0 : Int) ≤ (D : Int) := by omega
          have HRM := hid hRM2
          have HR2 := hid hR2
          have HKB := hid hkb
          have HHH := hid (And.intro hdd1 (And.intro hD1 (And.intro hye hbig)))
          have HDD1 : Hid (0 ≤ dd + D - (-149)) := hid (by have := HDM.out; omega)
          clear hRM hRM2 hR2 hkb hdd1 hD1 hye hbig hkept hlost hSd
          go_upto_region 11 with fail
          go_cut [9, 10] (fun s9 s10 wx => s9 = .int .u64 kept ∧ s10 = .int .u64 lost ∧ Sx 8 23 w wx ∧ Nb (w.heap.size + 1) ng y dd wx)
          case first =>
            go_quiet (fail)
            go_wp2_with fail
            go_meet
            exact ⟨rfl, rfl, HS.out.drewN _, HN.out⟩
          case rest =>
            clear r1 r2 r3 r4 c0 c1 x0 x1 x2 x3 x4 x5 HS HN hb1 hb2 hS0 hD0
            obtain ⟨rfl, rfl, hS, hN⟩ := hcut
            have HS := hid hS
            have HN := hid hN
            obtain ⟨c0, c1⟩ := hS.1
            obtain ⟨⟨x0, x1, x2⟩, x3, x4, x5⟩ := hN
            clear hS
            go_upto_region 12 with fail
            go_cut [61] (fun s61 wx => s61 = .bool (upB lost kept more) ∧ Sx 8 23 w wx ∧ Nb (w.heap.size + 1) ng y dd wx)
            case first =>
              have HKP := hid (bits_and_u64_nat kept 1 (by have := HKB.out; omega) (by decide))
              rcases Nat.lt_trichotomy lost 9223372036854775808 with h | h | h
              · have b1 : decide ((9223372036854775808 : Int) < (lost : Int)) = false := by simp; omega
                have b2 : ((lost : Int) == 9223372036854775808) = false := by simp; omega
                have hup : Hid (upB lost kept more = false) := hid (by
                  have b3 : decide (9223372036854775808 < lost) = false := by simp; omega
                  have b4 : (lost == 9223372036854775808) = false := by simp; omega
                  unfold upB; rw [b3, b4]; rfl)
                clear h
                go_wp2
                all_goals
                  go_meet
                  exact ⟨by rw [hup.out], HS.out, HN.out⟩
              · subst h
                cases more with
                | true =>
                  have hup : Hid (upB 9223372036854775808 kept true = true) := hid rfl
                  go_wp2
                  all_goals
                    go_meet
                    exact ⟨by rw [hup.out], HS.out, HN.out⟩
                | false =>
                  rcases Nat.mod_two_eq_zero_or_one kept with h2 | h2
                  · have hup : Hid (upB 9223372036854775808 kept false = false) := hid (by unfold upB; rw [h2]; rfl)
                    have hand : bits .and .u64 (kept : Int) 1 = 0 := by
                      have := HKP.out
                      rw [Nat.and_one_is_mod, h2] at this
                      exact this
                    clear h2
                    go_wp2
                    all_goals
                      go_meet
                      exact ⟨by rw [hup.out], HS.out, HN.out⟩
                  · have hup : Hid (upB 9223372036854775808 kept false = true) := hid (by unfold upB; rw [h2]; rfl)
                    have hand : bits .and .u64 (kept : Int) 1 = 1 := by
                      have := HKP.out
                      rw [Nat.and_one_is_mod, h2] at this
                      exact this
                    clear h2
                    go_wp2
                    all_goals
                      go_meet
                      exact ⟨by rw [hup.out], HS.out, HN.out⟩
              · have b1 : decide ((9223372036854775808 : Int) < (lost : Int)) = true := by simp; omega
                have hup : Hid (upB lost kept more = true) := hid (by
                  have b3 : decide (9223372036854775808 < lost) = true := by simp; omega
                  unfold upB; rw [b3]; rfl)
                clear h
                go_wp2
                all_goals
                  go_meet
                  exact ⟨by rw [hup.out], HS.out, HN.out⟩
            clear c0 c1 x0 x1 x2 x3 x4 x5 HS HN
            obtain ⟨rfl, hS, hN⟩ := hcut
            have HS := hid hS
            have HN := hid hN
            clear hS hN
            obtain ⟨ub, hub⟩ : ∃ ub : Bool, ub = upB lost kept more := ⟨_, rfl⟩
            have hrm := HRM.out
            rw [← hub] at hrm ⊢
            have HRM2 := hid hrm
            clear hub hrm HRM
            go_upto_if 61 with fail
            go_cut [9] (fun s9 wx => s9 = .int .u64 ((kept + ub.toNat : Nat) : Int) ∧ Sx 8 23 w wx ∧ Nb (w.heap.size + 1) ng y dd wx)
            case first =>
              have hkw : IntKind.u64.wrap ((kept : Int) + 1) = (kept : Int) + 1 := by have := HKB.out; rw [IntKind.wrap_u64]; omega
              cases ub <;>
              · go_wp2
                go_meet
                exact ⟨rfl, HS.out, HN.out⟩
            case rest =>
              clear HS HN
              obtain ⟨rfl, hS, hN⟩ := hcut
              have HS := hid hS
              have HN := hid hN
              obtain ⟨c0, c1⟩ := hS.1
              obtain ⟨⟨x0, x1, x2⟩, x3, x4, x5⟩ := hN
              clear hS
              obtain ⟨kup, hkup⟩ : ∃ kup : Nat, kup = kept + ub.toNat := ⟨_, rfl⟩
              have hup1 : ub.toNat ≤ 1 := Bool.toNat_le _
              have hrm := HRM2.out
              have hr2 := HR2.out
              rw [← hkup] at hrm ⊢
              have hHH := HHH.out
              have hkb := HKB.out
              have hkup2 : kup ≤ 9007199254740993 := by omega
              obtain ⟨A, hA⟩ : ∃ A : Int, dd + (D : Int) = A := ⟨_, rfl⟩
              obtain ⟨Z, hZ⟩ : ∃ Z : Nat, A - (-149) = (Z : Int) := ⟨(A - (-149)).toNat, by have := HDD1.out; omega⟩
              have hZ3 : A + 149 = (Z : Int) := by omega
              have hZb : Z ≤ 3500 := by have := HDM.out; omega
              have hwA : IntKind.i64.wrap A = A := by rw [IntKind.wrap_i64]; omega
              have hwZ : IntKind.i64.wrap (Z : Int) = (Z : Int) := by rw [IntKind.wrap_i64]; omega
              have hwZ2 : IntKind.u64.wrap (Z : Int) = (Z : Int) := by rw [IntKind.wrap_u64]; omega
              obtain ⟨T, hT⟩ : ∃ T : Nat, (Z : Int) * 8388608 = (T : Int) := ⟨Z * 8388608, by omega⟩
              have hwT : IntKind.u64.wrap (T : Int) = (T : Int) := by rw [IntKind.wrap_u64]; omega
              obtain ⟨U, hU⟩ : ∃ U : Nat, (T : Int) + (kup : Int) = (U : Int) := ⟨T + kup, by omega⟩
              have hwU : IntKind.u64.wrap (U : Int) = (U : Int) := by rw [IntKind.wrap_u64]; omega
              have hRU : R = (if ng then 2147483648 else 0) + min U 2139095040 := by
                rw [hr2, hrm]
                have h2 := HDD.out
                have h4 : clamp e = ec := HEC.out
                rw [h4, ← h2, hA]
                show _ + min ((A - (-149)).toNat * 8388608 + kup) 2139095040 = _
                rw [hZ, Int.toNat_natCast]
                congr 2
                omega
              have HRU := hid hRU
              have HSG2 : ∀ V : Nat, V ≤ 2139095040 → bits .or .u64 (sg : Int) (V : Int) = (((if ng then 2147483648 else 0) + V : Nat) : Int) := fun V hV => by
                have hs : sg < 18446744073709551616 := by rw [HSG.out]; split <;> decide
                rw [bits_or_u64_nat _ _ hs (by omega), HSG.out]
                have := word_or 31 V ng (by omega)
                rw [show (2147483648 : Nat) = 2 ^ 31 by decide, this]
                cases ng <;> simp
              have HSG3 := hid HSG2
              clear HSG2 hRU hHH hkb hkup2 hup1 hrm hr2 hkup hZb
              go_upto_region 14 with fail
              go_cut [11] (fun s11 wx => s11 = .int .u64 U ∧ Sx 8 23 w wx)
              case first =>
                go_region_held3 (fun w' => w'.cell? ⟨w.heap.size, 0, none⟩ = some (.int .i64 8) ∧ w'.cell? ⟨w.heap.size, 1, none⟩ = some (.int .i64 23) ∧ w'.cell? ⟨w.heap.size + 1, 2, none⟩ = some (.int .i64 dd) ∧ Sx 8 23 w w')
                  (first
                    | exact ⟨c0, c1, x2, HS.out.drew⟩
                    | (go_split_ands; exact ⟨bkeep ‹_› hb, bkeep ‹_› hb, bkeep ‹_› hb, Sx.call ‹_› hb⟩)
                    | (go_split_ands; exact ⟨‹_›, ‹_›, ‹_›, ‹_›⟩))
                  (first
                    | (go_at_call 175; ((with_reducible refine (lowest_32 _).mono ?_); rintro e w' ⟨rfl, hb⟩)))
                all_goals
                  (go_wp2_with fail)
                  go_meet
                  go_split_ands
                  exact ⟨rfl, ‹_›⟩
              case rest =>
                clear c0 c1 x0 x1 x2 x3 x4 x5 HS HN hA hZ hZ3 hwA hwZ hwZ2 hT hwT hU hwU
                obtain ⟨rfl, hS⟩ := hcut
                have HS := hid hS
                obtain ⟨c0, c1⟩ := hS.1
                clear hS
                by_cases hUI : U < 2139095040
                · have g1 : ((U : Int) < 2139095040) := by omega
                  have g2 : ¬ ((2139095040 : Int) < U) := by omega
                  have g3 : ((U : Int) ≤ 2139095040) := by omega
                  have hor := HSG3.out U (by omega)
                  have HF : Hid (R = (if ng then 2147483648 else 0) + U) := hid (by rw [HRU.out]; congr 1; omega)
                  have hfin : (((if ng then 2147483648 else 0) + U : Nat) : Int) = (R : Int) := by rw [HF.out]
                  rw [hfin] at hor
                  clear hUI hfin
                  go_wp2_with (go_at_call 174; (with_reducible refine (infinity_32 _).mono ?_); rintro e w4 ⟨rfl, hb⟩)
                  all_goals
                    go_ret
                    exact ⟨rfl, bnext HS.out.2 hb⟩
                · have g1 : ¬ ((U : Int) < 2139095040) := by omega
                  have g3 : ((2139095040 : Int) ≤ U) := by omega
                  have hor := HSG3.out 2139095040 (by omega)
                  have HF : Hid (R = (if ng then 2147483648 else 0) + 2139095040) := hid (by rw [HRU.out]; congr 1; omega)
                  have hfin : (((if ng then 2147483648 else 0) + 2139095040 : Nat) : Int) = (R : Int) := by rw [HF.out]
                  rw [hfin] at hor
                  have hor2 : bits .or .u64 (sg : Int) 2139095040 = (R : Int) := hor
                  by_cases hUE : U = 2139095040
                  · subst hUE
                    clear hUI hfin hor g1 g3
                    go_wp2_with (go_at_call 174; (with_reducible refine (infinity_32 _).mono ?_); rintro e w4 ⟨rfl, hb⟩)
                    all_goals
                      go_ret
                      exact ⟨rfl, bnext HS.out.2 hb⟩
                  · have g2 : ((2139095040 : Int) < U) := by omega
                    clear hUI hfin hor hUE
                    go_wp2_with (go_at_call 174; (with_reducible refine (infinity_32 _).mono ?_); rintro e w4 ⟨rfl, hb⟩)
                    all_goals
                      go_ret
                      exact ⟨rfl, bnext HS.out.2 hb⟩
set_option maxRecDepth 20000 in
set_option maxHeartbeats 6400000 in
theorem round_64 (ng : Bool) (m : Nat) (hm : m < 18446744073709551616) (e : Int) (he0 : -9223372036854775808 ≤ e) (he1 : e ≤ 9223372036854775807) (more : Bool) (hmore : more = true → 288230376151711744 ≤ m) (w : World) :
    Calls Tryz.prog 161 #[.agg #[.int .i64 11, .int .i64 52], .agg #[.bool ng, .int .u64 m, .int .i64 e], .bool more] w fun r w' => r = .returned (.int .u64 ((Ieee.double.word ng (rungR Ieee.double m e more) : Nat) : Int)) ∧ Below w.heap.size w w' := by
  obtain ⟨sg, hsg⟩ : ∃ sg : Nat, sg = if ng then 9223372036854775808 else 0 := ⟨_, rfl⟩
  obtain ⟨R, hR⟩ : ∃ R : Nat, R = Ieee.double.word ng (rungR Ieee.double m e more) := ⟨_, rfl⟩
  rw [← hR]
  have HR := hid hR
  have HSG := hid hsg
  have HMORE := hid hmore
  have HM := hid hm
  have HE := hid (And.intro he0 he1)
  clear hsg hR hmore hm he0 he1
  go_enter Tryz.func161, Tryz.ntmps161
  go_upto_if 13 with fail
  go_cut [7] (fun s7 wx => s7 = .int .u64 sg ∧ Sx 11 52 w wx ∧ Nb (w.heap.size + 1) ng m e wx)
  case first =>
    have hS := (Sx.new 11 52 w).alloc (.cells #[.bool ng, .int .u64 m, .int .i64 e] 153)
    have hN := Nb.new ng m e (w.alloc (.cells #[.int .i64 11, .int .i64 52] 114))
    rw [show (w.alloc (.cells #[.int .i64 11, .int .i64 52] 114)).heap.size = w.heap.size + 1 by simp] at hN
    cases ng with
    | false =>
      have hs0 : sg = 0 := HSG.out
      subst hs0
      go_wp2
      go_meet
      exact ⟨rfl, hS, hN⟩
    | true =>
      have hs0 : sg = 9223372036854775808 := HSG.out
      subst hs0
      go_wp2_with (go_at_call 156; refine (signBit_64 _).mono ?_; rintro e w1 ⟨rfl, hb⟩)
      go_meet
      exact ⟨rfl, hS.call hb, hN.call hb⟩
  case rest =>
    obtain ⟨rfl, hS, hN⟩ := hcut
    have HS := hid hS
    have HN := hid hN
    obtain ⟨c0, c1⟩ := hS.1
    obtain ⟨⟨x0, x1, x2⟩, x3, x4, x5⟩ := id hN
    clear hS hN
    by_cases hm0 : m = 0
    · subst hm0
      have hR0 : R = sg := by
        rw [HR.out, HSG.out]
        have : more = false := by
          cases more with
          | false => rfl
          | true => have := HMORE.out rfl; omega
        rw [this, rungR_false]
        unfold rungOf Ieee.Format.word
        rw [if_pos rfl]
        cases ng <;> rfl
      subst hR0
      go_wp2
      go_ret
      exact ⟨rfl, HS.out.2⟩
    · have hm1 : ((m : Int) == 0) = false := by simp; omega
      have HM0 := hid hm0
      obtain ⟨ec, hec⟩ : ∃ ec : Int, ec = clamp e := ⟨_, rfl⟩
      have hec2 : max (-2048) (min e 2048) = ec := by rw [hec]; rfl
      clear hm0 hec
      have hec3 : -4611686018427387904 ≤ ec ∧ ec ≤ 4611686018427387904 := by omega
      go_upto_region 6 with fail
      go_cut [4] (fun s4 wx => s4 = .pointer (some ⟨w.heap.size + 1, 0, none⟩) ∧ Sx 11 52 w wx ∧ Nb (w.heap.size + 1) ng m ec wx)
      case first =>
        have HEC := hid hec2
        clear hec2 hec3
        by_cases h1 : 2048 < e
        · have he2 : ec = 2048 := by have := HEC.out; omega
          have h2 : ¬ e < -2048 := by omega
          subst he2
          go_wp2
          go_meet
          exact ⟨rfl, HS.out.set (by omega), HN.out.sete⟩
        · by_cases h2 : e < -2048
          · have he2 : ec = -2048 := by have := HEC.out; omega
            subst he2
            go_wp2
            all_goals
              go_meet
              exact ⟨rfl, HS.out.set (by omega), HN.out.sete⟩
          · have he2 : ec = e := by have := HEC.out; omega
            subst he2
            have h3 : -2048 ≤ ec := by omega
            have h4 : ec ≤ 2048 := by omega
            go_wp2
            all_goals
              go_meet
              first
                | exact ⟨rfl, HS.out.set (by omega), HN.out.sete⟩
                | (have h9 : ec = -2048 := by omega
                   subst h9
                   exact ⟨rfl, HS.out.set (by omega), HN.out.sete⟩)
                | (have h9 : ec = 2048 := by omega
                   subst h9
                   exact ⟨rfl, HS.out.set (by omega), HN.out.sete⟩)
      clear HS HN c0 c1 x0 x1 x2 x3 x4 x5 hm1
      obtain ⟨rfl, hS, hN⟩ := hcut
      have HS := hid hS
      have HN := hid hN
      obtain ⟨c0, c1⟩ := hS.1
      obtain ⟨⟨x0, x1, x2⟩, x3, x4, x5⟩ := id hN
      have HEC := hid hec2
      clear hS hN hec2
      go_wp2_with (go_at_call 159; (with_reducible refine (normal_any ng m HM.out ec hec3.1 hec3.2 _).mono ?_); rintro r2 w2 ⟨j, hj, hl, hlt, he2, hb⟩; obtain ⟨y, hy⟩ : ∃ y : Nat, y = m * 2 ^ j := ⟨_, rfl⟩; obtain ⟨dd, hdd⟩ : ∃ dd : Int, dd = ec - (j : Int) := ⟨_, rfl⟩; rw [← hy, ← hdd] at he2; subst he2; have hS2 := HS.out.call hb; have hN2 := HN.out.call hb; have HS2 := hid hS2; have HN2 := hid hN2; have HJ := hid (And.intro hj (And.intro hl hlt)); have HY := hid hy; have HDD := hid hdd; clear c0 c1 x0 x1 x2 x3 x4 x5 hec3 hj hl hlt hb hy hdd; obtain ⟨c0, c1⟩ := hS2.1; obtain ⟨⟨x0, x1, x2⟩, x3, x4, x5⟩ := hN2; clear hS2)
      have hS := ((HS2.out.set (c := w.heap.size + 1) (o := 0) (u := .bool ng) (by omega)).set (c := w.heap.size + 1) (o := 1) (u := .int .u64 y) (by omega)).set (c := w.heap.size + 1) (o := 2) (u := .int .i64 dd) (by omega)
      have hN := HN2.out.store (ng' := ng) (m' := y) (e' := dd)
      clear x0 x1 x2 x3 x4 x5 c0 c1 HS2 HN2 HS HN
      generalize ((w2.setCell ⟨w.heap.size + 1, 0, none⟩ (.bool ng)).setCell ⟨w.heap.size + 1, 1, none⟩ (.int .u64 y)).setCell ⟨w.heap.size + 1, 2, none⟩ (.int .i64 dd) = w3 at *
      have HS := hid hS
      have HN := hid hN
      obtain ⟨c0, c1⟩ := hS.1
      obtain ⟨⟨x0, x1, x2⟩, x3, x4, x5⟩ := hN
      clear hS
      have hdd1 : -2200 ≤ dd ∧ dd ≤ 2200 := by
        have h1 := HEC.out
        have h2 := HDD.out
        have h3 := HJ.out.1
        omega
      obtain ⟨D, hD⟩ : ∃ D : Nat, dropOf Ieee.double dd = D := ⟨(dropOf Ieee.double dd).toNat, by
        have h : dropOf Ieee.double dd = max 11 ((-1074) - dd) := rfl
        omega⟩
      have hDm : max 11 ((-1074) - dd) = (D : Int) := hD
      have hD1 : 11 ≤ D ∧ D ≤ 3000 := by omega
      have HD := hid hD
      have hw40 : IntKind.i64.wrap 11 = 11 := by decide
      have hwd : IntKind.i64.wrap ((-1074) - dd) = (-1074) - dd := by rw [IntKind.wrap_i64]; omega
      clear hD
      have HDM := hid hDm
      go_cut [8] (fun s8 wx => s8 = .int .i64 D ∧ Sx 11 52 w wx ∧ Nb (w.heap.size + 1) ng y dd wx)
      case first =>
        go_region_held3 (fun w' => w'.cell? ⟨w.heap.size, 0, none⟩ = some (.int .i64 11) ∧ w'.cell? ⟨w.heap.size, 1, none⟩ = some (.int .i64 52) ∧ w'.cell? ⟨w.heap.size + 1, 2, none⟩ = some (.int .i64 dd) ∧ Sx 11 52 w w' ∧ Nb (w.heap.size + 1) ng y dd w')
          (first
            | exact ⟨c0, c1, x2, HS.out.drew, HN.out.drew⟩
            | (go_split_ands; exact ⟨bkeep ‹_› hb, bkeep ‹_› hb, bkeep ‹_› hb, Sx.call ‹_› hb, Nb.call ‹_› hb⟩)
            | (go_split_ands; exact ⟨‹_›, ‹_›, ‹_›, ‹_›, ‹_›⟩))
          (first
            | (go_at_call 175; ((with_reducible refine (lowest_64 _).mono ?_); rintro e w' ⟨rfl, hb⟩)))
        all_goals
          (go_wp2_with fail) <;> (
            go_meet
            go_split_ands
            exact ⟨congrArg (Value.int .i64) (by have := HDM.out; omega), ‹_›, ‹_›⟩)
      case rest =>
        clear c0 c1 x0 x1 x2 x3 x4 x5 HS HN hw40 hwd hDm
        obtain ⟨rfl, hS, hN⟩ := hcut
        have HS := hid hS
        have HN := hid hN
        obtain ⟨c0, c1⟩ := hS.1
        obtain ⟨⟨x0, x1, x2⟩, x3, x4, x5⟩ := hN
        clear hS
        have hRM := round_math (f := Ieee.double) (by unfold Okf; simp) HM0.out HM.out e more HMORE.out (j := j) (HJ.out.2.1 HM0.out) HJ.out.2.2 D (by
          have h1 := HD.out
          have h2 := HDD.out
          have h3 := HEC.out
          have h4 : clamp e = ec := h3
          rw [h4, ← h2]; exact h1)
        rw [← HY.out] at hRM
        have hye : 9223372036854775808 ≤ y ∧ y < 18446744073709551616 := by
          have h1 := HJ.out.2.1 HM0.out
          have h2 := HJ.out.2.2
          have h3 := HY.out
          omega
        by_cases hbig : 64 < D
        · have hR0 : R = sg := by
            rw [HR.out, HSG.out, hRM.1 hbig]
            unfold Ieee.Format.word
            cases ng <;> rfl
          have hb1 : decide ((64 : Int) < (D : Int)) = true := by simp; omega
          have hb2 : (64 : Int) < (D : Int) := by omega
          subst hR0
          have HB := hid HS.out.2
          clear hRM hD1 hdd1 hbig hye
          go_wp2
          go_ret
          exact ⟨rfl, HB.out⟩
        · have hb1 : decide ((64 : Int) < (D : Int)) = false := by simp; omega
          have hb2 : ¬ (64 : Int) < (D : Int) := by omega
          have hRM2 := hRM.2 (by omega)
          have hR2 : R = (if ng then 9223372036854775808 else 0) + (rungR Ieee.double m e more) := by
            rw [HR.out]; unfold Ieee.Format.word; cases ng
            · simp
            · rfl
          obtain ⟨kept, hkept⟩ : ∃ kept : Nat, kept = y / 2 ^ D := ⟨_, rfl⟩
          obtain ⟨lost, hlost⟩ : ∃ lost : Nat, lost = y * 2 ^ (64 - D) % 18446744073709551616 := ⟨_, rfl⟩
          obtain ⟨S, hSd⟩ : ∃ S : Nat, S = 64 - D := ⟨_, rfl⟩
          rw [← hkept, ← hlost] at hRM2
          have r1 : (y : Int) / 2 ^ D = (kept : Int) := by
            rw [hkept, Int.natCast_ediv, Int.natCast_pow]; rfl
          have r2 : IntKind.u64.wrap ((y : Int) * 2 ^ S) = (lost : Int) := by
            rw [IntKind.wrap_u64, hlost, hSd, Int.natCast_emod, Int.natCast_mul, Int.natCast_pow]; rfl
          have r3 : (64 : Int) - (D : Int) = (S : Int) := by omega
          have r4 : IntKind.i64.wrap (S : Int) = (S : Int) := by rw [IntKind.wrap_i64]; omega
          have hkb : kept ≤ 9007199254740992 := by
            have h11 : (2 : Nat) ^ 11 ≤ 2 ^ D := Nat.pow_le_pow_right (by decide) hD1.1
            have h12 : y / 2 ^ D ≤ y / 2 ^ 11 := Nat.div_le_div_left h11 (by decide)
            have h13 : (2 : Nat) ^ 11 = 2048 := by decide
            rw [h13] at h12
            omega
          have hS0 : (0 : Int) ≤ (S : Int) := by omega
          have hD0 : (0 : Int) ≤ (D : Int) := by omega
          have HRM := hid hRM2
          have HR2 := hid hR2
          have HKB := hid hkb
          have HHH := hid (And.intro hdd1 (And.intro hD1 (And.intro hye hbig)))
          have HDD1 : Hid (0 ≤ dd + D - (-1074)) := hid (by have := HDM.out; omega)
          clear hRM hRM2 hR2 hkb hdd1 hD1 hye hbig hkept hlost hSd
          go_upto_region 11 with fail
          go_cut [9, 10] (fun s9 s10 wx => s9 = .int .u64 kept ∧ s10 = .int .u64 lost ∧ Sx 11 52 w wx ∧ Nb (w.heap.size + 1) ng y dd wx)
          case first =>
            go_quiet (fail)
            go_wp2_with fail
            go_meet
            exact ⟨rfl, rfl, HS.out.drewN _, HN.out⟩
          case rest =>
            clear r1 r2 r3 r4 c0 c1 x0 x1 x2 x3 x4 x5 HS HN hb1 hb2 hS0 hD0
            obtain ⟨rfl, rfl, hS, hN⟩ := hcut
            have HS := hid hS
            have HN := hid hN
            obtain ⟨c0, c1⟩ := hS.1
            obtain ⟨⟨x0, x1, x2⟩, x3, x4, x5⟩ := hN
            clear hS
            go_upto_region 12 with fail
            go_cut [61] (fun s61 wx => s61 = .bool (upB lost kept more) ∧ Sx 11 52 w wx ∧ Nb (w.heap.size + 1) ng y dd wx)
            case first =>
              have HKP := hid (bits_and_u64_nat kept 1 (by have := HKB.out; omega) (by decide))
              rcases Nat.lt_trichotomy lost 9223372036854775808 with h | h | h
              · have b1 : decide ((9223372036854775808 : Int) < (lost : Int)) = false := by simp; omega
                have b2 : ((lost : Int) == 9223372036854775808) = false := by simp; omega
                have hup : Hid (upB lost kept more = false) := hid (by
                  have b3 : decide (9223372036854775808 < lost) = false := by simp; omega
                  have b4 : (lost == 9223372036854775808) = false := by simp; omega
                  unfold upB; rw [b3, b4]; rfl)
                clear h
                go_wp2
                all_goals
                  go_meet
                  exact ⟨by rw [hup.out], HS.out, HN.out⟩
              · subst h
                cases more with
                | true =>
                  have hup : Hid (upB 9223372036854775808 kept true = true) := hid rfl
                  go_wp2
                  all_goals
                    go_meet
                    exact ⟨by rw [hup.out], HS.out, HN.out⟩
                | false =>
                  rcases Nat.mod_two_eq_zero_or_one kept with h2 | h2
                  · have hup : Hid (upB 9223372036854775808 kept false = false) := hid (by unfold upB; rw [h2]; rfl)
                    have hand : bits .and .u64 (kept : Int) 1 = 0 := by
                      have := HKP.out
                      rw [Nat.and_one_is_mod, h2] at this
                      exact this
                    clear h2
                    go_wp2
                    all_goals
                      go_meet
                      exact ⟨by rw [hup.out], HS.out, HN.out⟩
                  · have hup : Hid (upB 9223372036854775808 kept false = true) := hid (by unfold upB; rw [h2]; rfl)
                    have hand : bits .and .u64 (kept : Int) 1 = 1 := by
                      have := HKP.out
                      rw [Nat.and_one_is_mod, h2] at this
                      exact this
                    clear h2
                    go_wp2
                    all_goals
                      go_meet
                      exact ⟨by rw [hup.out], HS.out, HN.out⟩
              · have b1 : decide ((9223372036854775808 : Int) < (lost : Int)) = true := by simp; omega
                have hup : Hid (upB lost kept more = true) := hid (by
                  have b3 : decide (9223372036854775808 < lost) = true := by simp; omega
                  unfold upB; rw [b3]; rfl)
                clear h
                go_wp2
                all_goals
                  go_meet
                  exact ⟨by rw [hup.out], HS.out, HN.out⟩
            clear c0 c1 x0 x1 x2 x3 x4 x5 HS HN
            obtain ⟨rfl, hS, hN⟩ := hcut
            have HS := hid hS
            have HN := hid hN
            clear hS hN
            obtain ⟨ub, hub⟩ : ∃ ub : Bool, ub = upB lost kept more := ⟨_, rfl⟩
            have hrm := HRM.out
            rw [← hub] at hrm ⊢
            have HRM2 := hid hrm
            clear hub hrm HRM
            go_upto_if 61 with fail
            go_cut [9] (fun s9 wx => s9 = .int .u64 ((kept + ub.toNat : Nat) : Int) ∧ Sx 11 52 w wx ∧ Nb (w.heap.size + 1) ng y dd wx)
            case first =>
              have hkw : IntKind.u64.wrap ((kept : Int) + 1) = (kept : Int) + 1 := by have := HKB.out; rw [IntKind.wrap_u64]; omega
              cases ub <;>
              · go_wp2
                go_meet
                exact ⟨rfl, HS.out, HN.out⟩
            case rest =>
              clear HS HN
              obtain ⟨rfl, hS, hN⟩ := hcut
              have HS := hid hS
              have HN := hid hN
              obtain ⟨c0, c1⟩ := hS.1
              obtain ⟨⟨x0, x1, x2⟩, x3, x4, x5⟩ := hN
              clear hS
              obtain ⟨kup, hkup⟩ : ∃ kup : Nat, kup = kept + ub.toNat := ⟨_, rfl⟩
              have hup1 : ub.toNat ≤ 1 := Bool.toNat_le _
              have hrm := HRM2.out
              have hr2 := HR2.out
              rw [← hkup] at hrm ⊢
              have hHH := HHH.out
              have hkb := HKB.out
              have hkup2 : kup ≤ 9007199254740993 := by omega
              obtain ⟨A, hA⟩ : ∃ A : Int, dd + (D : Int) = A := ⟨_, rfl⟩
              obtain ⟨Z, hZ⟩ : ∃ Z : Nat, A - (-1074) = (Z : Int) := ⟨(A - (-1074)).toNat, by have := HDD1.out; omega⟩
              have hZ3 : A + 1074 = (Z : Int) := by omega
              have hZb : Z ≤ 3500 := by have := HDM.out; omega
              have hwA : IntKind.i64.wrap A = A := by rw [IntKind.wrap_i64]; omega
              have hwZ : IntKind.i64.wrap (Z : Int) = (Z : Int) := by rw [IntKind.wrap_i64]; omega
              have hwZ2 : IntKind.u64.wrap (Z : Int) = (Z : Int) := by rw [IntKind.wrap_u64]; omega
              obtain ⟨T, hT⟩ : ∃ T : Nat, (Z : Int) * 4503599627370496 = (T : Int) := ⟨Z * 4503599627370496, by omega⟩
              have hwT : IntKind.u64.wrap (T : Int) = (T : Int) := by rw [IntKind.wrap_u64]; omega
              obtain ⟨U, hU⟩ : ∃ U : Nat, (T : Int) + (kup : Int) = (U : Int) := ⟨T + kup, by omega⟩
              have hwU : IntKind.u64.wrap (U : Int) = (U : Int) := by rw [IntKind.wrap_u64]; omega
              have hRU : R = (if ng then 9223372036854775808 else 0) + min U 9218868437227405312 := by
                rw [hr2, hrm]
                have h2 := HDD.out
                have h4 : clamp e = ec := HEC.out
                rw [h4, ← h2, hA]
                show _ + min ((A - (-1074)).toNat * 4503599627370496 + kup) 9218868437227405312 = _
                rw [hZ, Int.toNat_natCast]
                congr 2
                omega
              have HRU := hid hRU
              have HSG2 : ∀ V : Nat, V ≤ 9218868437227405312 → bits .or .u64 (sg : Int) (V : Int) = (((if ng then 9223372036854775808 else 0) + V : Nat) : Int) := fun V hV => by
                have hs : sg < 18446744073709551616 := by rw [HSG.out]; split <;> decide
                rw [bits_or_u64_nat _ _ hs (by omega), HSG.out]
                have := word_or 63 V ng (by omega)
                rw [show (9223372036854775808 : Nat) = 2 ^ 63 by decide, this]
                cases ng <;> simp
              have HSG3 := hid HSG2
              clear HSG2 hRU hHH hkb hkup2 hup1 hrm hr2 hkup hZb
              go_upto_region 14 with fail
              go_cut [11] (fun s11 wx => s11 = .int .u64 U ∧ Sx 11 52 w wx)
              case first =>
                go_region_held3 (fun w' => w'.cell? ⟨w.heap.size, 0, none⟩ = some (.int .i64 11) ∧ w'.cell? ⟨w.heap.size, 1, none⟩ = some (.int .i64 52) ∧ w'.cell? ⟨w.heap.size + 1, 2, none⟩ = some (.int .i64 dd) ∧ Sx 11 52 w w')
                  (first
                    | exact ⟨c0, c1, x2, HS.out.drew⟩
                    | (go_split_ands; exact ⟨bkeep ‹_› hb, bkeep ‹_› hb, bkeep ‹_› hb, Sx.call ‹_› hb⟩)
                    | (go_split_ands; exact ⟨‹_›, ‹_›, ‹_›, ‹_›⟩))
                  (first
                    | (go_at_call 175; ((with_reducible refine (lowest_64 _).mono ?_); rintro e w' ⟨rfl, hb⟩)))
                all_goals
                  (go_wp2_with fail)
                  go_meet
                  go_split_ands
                  exact ⟨rfl, ‹_›⟩
              case rest =>
                clear c0 c1 x0 x1 x2 x3 x4 x5 HS HN hA hZ hZ3 hwA hwZ hwZ2 hT hwT hU hwU
                obtain ⟨rfl, hS⟩ := hcut
                have HS := hid hS
                obtain ⟨c0, c1⟩ := hS.1
                clear hS
                by_cases hUI : U < 9218868437227405312
                · have g1 : ((U : Int) < 9218868437227405312) := by omega
                  have g2 : ¬ ((9218868437227405312 : Int) < U) := by omega
                  have g3 : ((U : Int) ≤ 9218868437227405312) := by omega
                  have hor := HSG3.out U (by omega)
                  have HF : Hid (R = (if ng then 9223372036854775808 else 0) + U) := hid (by rw [HRU.out]; congr 1; omega)
                  have hfin : (((if ng then 9223372036854775808 else 0) + U : Nat) : Int) = (R : Int) := by rw [HF.out]
                  rw [hfin] at hor
                  clear hUI hfin
                  go_wp2_with (go_at_call 174; (with_reducible refine (infinity_64 _).mono ?_); rintro e w4 ⟨rfl, hb⟩)
                  all_goals
                    go_ret
                    exact ⟨rfl, bnext HS.out.2 hb⟩
                · have g1 : ¬ ((U : Int) < 9218868437227405312) := by omega
                  have g3 : ((9218868437227405312 : Int) ≤ U) := by omega
                  have hor := HSG3.out 9218868437227405312 (by omega)
                  have HF : Hid (R = (if ng then 9223372036854775808 else 0) + 9218868437227405312) := hid (by rw [HRU.out]; congr 1; omega)
                  have hfin : (((if ng then 9223372036854775808 else 0) + 9218868437227405312 : Nat) : Int) = (R : Int) := by rw [HF.out]
                  rw [hfin] at hor
                  have hor2 : bits .or .u64 (sg : Int) 9218868437227405312 = (R : Int) := hor
                  by_cases hUE : U = 9218868437227405312
                  · subst hUE
                    clear hUI hfin hor g1 g3
                    go_wp2_with (go_at_call 174; (with_reducible refine (infinity_64 _).mono ?_); rintro e w4 ⟨rfl, hb⟩)
                    all_goals
                      go_ret
                      exact ⟨rfl, bnext HS.out.2 hb⟩
                  · have g2 : ((9218868437227405312 : Int) < U) := by omega
                    clear hUI hfin hor hUE
                    go_wp2_with (go_at_call 174; (with_reducible refine (infinity_64 _).mono ?_); rintro e w4 ⟨rfl, hb⟩)
                    all_goals
                      go_ret
                      exact ⟨rfl, bnext HS.out.2 hb⟩
end Go.Proofs.YtbbmbhcbncenaaaGreatDoor.Fl
namespace Go.Proofs.YtbbmbhcbncenaaaGreatDoor.Fl
open Go.RowKit
theorem kindOf_four (INF s : Nat) : (kindOf INF s = 4) = (INF < s) := by
 unfold kindOf
 apply propext
 split
 ·subst s; simp
 ·split
  ·simp; omega
  ·split
   ·subst s; simp
   ·simp; omega
def rankOf (SB a : Nat) : Int := if SB ≤ a then -((a % SB : Nat) : Int) else ((a % SB : Nat) : Int)
theorem anyNaN_32 (a b : Nat) (ha : a < 4294967296) (hb : b < 4294967296) (w : World) : Calls Tryz.prog 123 #[.agg #[.int .i64 8,.int .i64 23],.int .u64 a,.int .u64 b] w fun e w' => e = .returned (.bool (decide (2139095040 < a % 2147483648 ∨ 2139095040 < b % 2147483648))) ∧ Below w.heap.size w w' := by
 have KA := fun w => hid (kind_32 a ha w)
 have KB := fun w => hid (kind_32 b hb w)
 have ea := kindOf_four 2139095040 (a % 2147483648)
 have eb := kindOf_four 2139095040 (b % 2147483648)
 obtain ⟨k,hk⟩ : ∃ k : Nat,k = kindOf 2139095040 (a % 2147483648) := ⟨_,rfl⟩
 obtain ⟨j,hj⟩ : ∃ j : Nat,j = kindOf 2139095040 (b % 2147483648) := ⟨_,rfl⟩
 rw [← hk] at KA ea
 rw [← hj] at KB eb
 simp only [← ea,← eb]
 clear ea eb hk hj
 have h0 : Below w.heap.size w w := Below.refl _ _
 by_cases h : k = 4
 ·subst h
  go_enter Tryz.func123,Tryz.ntmps123
  go_wp2_with (go_at_call 157; (with_reducible refine (KA _).out.mono ?_); rintro e w1 ⟨rfl,hb1⟩; have c0 := bkeep (a := ⟨w.heap.size,0,none⟩) (v := .int .i64 8) (by simp) hb1; have c1 := bkeep (a := ⟨w.heap.size,1,none⟩) (v := .int .i64 23) (by simp) hb1)
  go_ret
  exact ⟨by simp,bnext ((Below.refl _ _).alloc (Nat.le_refl _) _) hb1⟩
 ·have e1 : ((k : Int) == 4) = false := by simp; omega
  by_cases h2 : j = 4
  ·subst h2
   go_enter Tryz.func123,Tryz.ntmps123
   go_wp2_with (first
    | (go_at_call 157; ((with_reducible refine (KA _).out.mono ?_); rintro e w1 ⟨rfl,hb1⟩; have c0 := bkeep (a := ⟨w.heap.size,0,none⟩) (v := .int .i64 8) (by simp) hb1; have c1 := bkeep (a := ⟨w.heap.size,1,none⟩) (v := .int .i64 23) (by simp) hb1))
    | (go_at_call 157; ((with_reducible refine (KB _).out.mono ?_); rintro e w2 ⟨rfl,hb2⟩)))
   go_ret
   exact ⟨by simp,bnext (bnext ((Below.refl _ _).alloc (Nat.le_refl _) _) hb1) hb2⟩
  ·have e2 : ((j : Int) == 4) = false := by simp; omega
   rw [show decide (k = 4 ∨ j = 4) = false by simp [h,h2]]
   clear h h2
   go_enter Tryz.func123,Tryz.ntmps123
   go_wp2_with (first
    | (go_at_call 157; ((with_reducible refine (KA _).out.mono ?_); rintro e w1 ⟨rfl,hb1⟩; have c0 := bkeep (a := ⟨w.heap.size,0,none⟩) (v := .int .i64 8) (by simp) hb1; have c1 := bkeep (a := ⟨w.heap.size,1,none⟩) (v := .int .i64 23) (by simp) hb1))
    | (go_at_call 157; ((with_reducible refine (KB _).out.mono ?_); rintro e w2 ⟨rfl,hb2⟩)))
   go_ret
   exact ⟨rfl,bnext (bnext ((Below.refl _ _).alloc (Nat.le_refl _) _) hb1) hb2⟩
theorem rank_32 (a : Nat) (ha : a < 4294967296) (w : World) : Calls Tryz.prog 124 #[.agg #[.int .i64 8,.int .i64 23],.int .u64 a] w fun e w' => e = .returned (.int .i64 (rankOf 2147483648 a)) ∧ Below w.heap.size w w' := by
 have HS := fun w => hid (size_32 a ha w)
 have HG := fun w => hid (sign_32 a ha w)
 have hr : rankOf 2147483648 a = if 2147483648 ≤ a then -((a % 2147483648 : Nat) : Int) else ((a % 2147483648 : Nat) : Int) := rfl
 rw [hr]; clear hr
 obtain ⟨s,hs⟩ : ∃ s : Nat,s = a % 2147483648 := ⟨_,rfl⟩
 rw [← hs] at HS ⊢
 have hs2 : s < 2147483648 := by omega
 clear hs
 by_cases h : 2147483648 ≤ a
 ·rw [if_pos h] at HG ⊢
  clear h ha
  go_enter Tryz.func124,Tryz.ntmps124
  go_wp2_with (first
   | (go_at_call 130; ((with_reducible refine (HS _).out.mono ?_); rintro e w1 ⟨rfl,hb1⟩; have c0 := bkeep (a := ⟨w.heap.size,0,none⟩) (v := .int .i64 8) (by simp) hb1; have c1 := bkeep (a := ⟨w.heap.size,1,none⟩) (v := .int .i64 23) (by simp) hb1))
   | (go_at_call 135; ((with_reducible refine (HG _).out.mono ?_); rintro e w2 ⟨rfl,hb2⟩)))
  go_ret
  exact ⟨rfl,bnext (bnext ((Below.refl _ _).alloc (Nat.le_refl _) _) hb1) hb2⟩
 ·rw [if_neg h] at HG ⊢
  clear h ha
  go_enter Tryz.func124,Tryz.ntmps124
  go_wp2_with (first
   | (go_at_call 130; ((with_reducible refine (HS _).out.mono ?_); rintro e w1 ⟨rfl,hb1⟩; have c0 := bkeep (a := ⟨w.heap.size,0,none⟩) (v := .int .i64 8) (by simp) hb1; have c1 := bkeep (a := ⟨w.heap.size,1,none⟩) (v := .int .i64 23) (by simp) hb1))
   | (go_at_call 135; ((with_reducible refine (HG _).out.mono ?_); rintro e w2 ⟨rfl,hb2⟩)))
  go_ret
  exact ⟨rfl,bnext (bnext ((Below.refl _ _).alloc (Nat.le_refl _) _) hb1) hb2⟩
theorem anyNaN_64 (a b : Nat) (ha : a < 18446744073709551616) (hb : b < 18446744073709551616) (w : World) : Calls Tryz.prog 123 #[.agg #[.int .i64 11,.int .i64 52],.int .u64 a,.int .u64 b] w fun e w' => e = .returned (.bool (decide (9218868437227405312 < a % 9223372036854775808 ∨ 9218868437227405312 < b % 9223372036854775808))) ∧ Below w.heap.size w w' := by
 have KA := fun w => hid (kind_64 a ha w)
 have KB := fun w => hid (kind_64 b hb w)
 have ea := kindOf_four 9218868437227405312 (a % 9223372036854775808)
 have eb := kindOf_four 9218868437227405312 (b % 9223372036854775808)
 obtain ⟨k,hk⟩ : ∃ k : Nat,k = kindOf 9218868437227405312 (a % 9223372036854775808) := ⟨_,rfl⟩
 obtain ⟨j,hj⟩ : ∃ j : Nat,j = kindOf 9218868437227405312 (b % 9223372036854775808) := ⟨_,rfl⟩
 rw [← hk] at KA ea
 rw [← hj] at KB eb
 simp only [← ea,← eb]
 clear ea eb hk hj
 have h0 : Below w.heap.size w w := Below.refl _ _
 by_cases h : k = 4
 ·subst h
  go_enter Tryz.func123,Tryz.ntmps123
  go_wp2_with (go_at_call 157; (with_reducible refine (KA _).out.mono ?_); rintro e w1 ⟨rfl,hb1⟩; have c0 := bkeep (a := ⟨w.heap.size,0,none⟩) (v := .int .i64 11) (by simp) hb1; have c1 := bkeep (a := ⟨w.heap.size,1,none⟩) (v := .int .i64 52) (by simp) hb1)
  go_ret
  exact ⟨by simp,bnext ((Below.refl _ _).alloc (Nat.le_refl _) _) hb1⟩
 ·have e1 : ((k : Int) == 4) = false := by simp; omega
  by_cases h2 : j = 4
  ·subst h2
   go_enter Tryz.func123,Tryz.ntmps123
   go_wp2_with (first
    | (go_at_call 157; ((with_reducible refine (KA _).out.mono ?_); rintro e w1 ⟨rfl,hb1⟩; have c0 := bkeep (a := ⟨w.heap.size,0,none⟩) (v := .int .i64 11) (by simp) hb1; have c1 := bkeep (a := ⟨w.heap.size,1,none⟩) (v := .int .i64 52) (by simp) hb1))
    | (go_at_call 157; ((with_reducible refine (KB _).out.mono ?_); rintro e w2 ⟨rfl,hb2⟩)))
   go_ret
   exact ⟨by simp,bnext (bnext ((Below.refl _ _).alloc (Nat.le_refl _) _) hb1) hb2⟩
  ·have e2 : ((j : Int) == 4) = false := by simp; omega
   rw [show decide (k = 4 ∨ j = 4) = false by simp [h,h2]]
   clear h h2
   go_enter Tryz.func123,Tryz.ntmps123
   go_wp2_with (first
    | (go_at_call 157; ((with_reducible refine (KA _).out.mono ?_); rintro e w1 ⟨rfl,hb1⟩; have c0 := bkeep (a := ⟨w.heap.size,0,none⟩) (v := .int .i64 11) (by simp) hb1; have c1 := bkeep (a := ⟨w.heap.size,1,none⟩) (v := .int .i64 52) (by simp) hb1))
    | (go_at_call 157; ((with_reducible refine (KB _).out.mono ?_); rintro e w2 ⟨rfl,hb2⟩)))
   go_ret
   exact ⟨rfl,bnext (bnext ((Below.refl _ _).alloc (Nat.le_refl _) _) hb1) hb2⟩
theorem rank_64 (a : Nat) (ha : a < 18446744073709551616) (w : World) : Calls Tryz.prog 124 #[.agg #[.int .i64 11,.int .i64 52],.int .u64 a] w fun e w' => e = .returned (.int .i64 (rankOf 9223372036854775808 a)) ∧ Below w.heap.size w w' := by
 have HS := fun w => hid (size_64 a ha w)
 have HG := fun w => hid (sign_64 a ha w)
 have hr : rankOf 9223372036854775808 a = if 9223372036854775808 ≤ a then -((a % 9223372036854775808 : Nat) : Int) else ((a % 9223372036854775808 : Nat) : Int) := rfl
 rw [hr]; clear hr
 obtain ⟨s,hs⟩ : ∃ s : Nat,s = a % 9223372036854775808 := ⟨_,rfl⟩
 rw [← hs] at HS ⊢
 have hs2 : s < 9223372036854775808 := by omega
 clear hs
 by_cases h : 9223372036854775808 ≤ a
 ·rw [if_pos h] at HG ⊢
  clear h ha
  go_enter Tryz.func124,Tryz.ntmps124
  go_wp2_with (first
   | (go_at_call 130; ((with_reducible refine (HS _).out.mono ?_); rintro e w1 ⟨rfl,hb1⟩; have c0 := bkeep (a := ⟨w.heap.size,0,none⟩) (v := .int .i64 11) (by simp) hb1; have c1 := bkeep (a := ⟨w.heap.size,1,none⟩) (v := .int .i64 52) (by simp) hb1))
   | (go_at_call 135; ((with_reducible refine (HG _).out.mono ?_); rintro e w2 ⟨rfl,hb2⟩)))
  go_ret
  exact ⟨rfl,bnext (bnext ((Below.refl _ _).alloc (Nat.le_refl _) _) hb1) hb2⟩
 ·rw [if_neg h] at HG ⊢
  clear h ha
  go_enter Tryz.func124,Tryz.ntmps124
  go_wp2_with (first
   | (go_at_call 130; ((with_reducible refine (HS _).out.mono ?_); rintro e w1 ⟨rfl,hb1⟩; have c0 := bkeep (a := ⟨w.heap.size,0,none⟩) (v := .int .i64 11) (by simp) hb1; have c1 := bkeep (a := ⟨w.heap.size,1,none⟩) (v := .int .i64 52) (by simp) hb1))
   | (go_at_call 135; ((with_reducible refine (HG _).out.mono ?_); rintro e w2 ⟨rfl,hb2⟩)))
  go_ret
  exact ⟨rfl,bnext (bnext ((Below.refl _ _).alloc (Nat.le_refl _) _) hb1) hb2⟩
end Go.Proofs.YtbbmbhcbncenaaaGreatDoor.Fl
