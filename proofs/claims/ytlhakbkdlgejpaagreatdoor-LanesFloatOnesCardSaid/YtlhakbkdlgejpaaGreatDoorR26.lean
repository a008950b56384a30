/-
  FRootLoop, FRoot, FRoot64: merged, what the law does not reach left out (each text says what it holds where it lies in wip). No condition.
-/
import Derived.Test.YtlhakbkdlgejpaaGreatDoorR25
import Derived.Test.YtlhakbkdlgejpaaGreatDoorR24
import Derived.Test.YtlhakbkdlgejpaaGreatDoorR22
set_option linter.unusedSimpArgs false
set_option linter.unusedVariables false
set_option maxRecDepth 100000
namespace Go.Proofs.YtlhakbkdlgejpaaGreatDoor.Fl
open Go.RowKit
/-- Behind k digits of the root of N: the root, the rest, what is left. -/
def RI (N k m r l : Nat) : Prop := m * m + r = N * 4 ^ k / 18446744073709551616 ∧ r ≤ 2 * m ∧ l = N * 4 ^ k % 18446744073709551616
theorem sq1 (m r t : Nat) (h : r ≤ 2 * m) (ht : t < 4) (hge : 4 * m + 1 ≤ 4 * r + t) : (2 * m + 1) * (2 * m + 1) + (4 * r + t - (4 * m + 1)) = 4 * (m * m + r) + t ∧ 4 * r + t - (4 * m + 1) ≤ 2 * (2 * m + 1) := by
  have e : (2 * m + 1) * (2 * m + 1) = 4 * (m * m) + 4 * m + 1 := by
    rw [Nat.add_mul, Nat.mul_add, Nat.mul_mul_mul_comm]; omega
  rw [e]; omega
theorem sq2 (m r t : Nat) (h : r ≤ 2 * m) (ht : t < 4) (hlt : 4 * r + t < 4 * m + 1) : 2 * m * (2 * m) + (4 * r + t) = 4 * (m * m + r) + t ∧ 4 * r + t ≤ 2 * (2 * m) := by
  have e : 2 * m * (2 * m) = 4 * (m * m) := by rw [Nat.mul_mul_mul_comm]
  rw [e]; omega
theorem ri_start (N : Nat) (h : N < 18446744073709551616) : RI N 0 0 0 N := by
  refine ⟨?_, by omega, ?_⟩
  · rw [Nat.pow_zero, Nat.mul_one, Nat.div_eq_of_lt h]
  · rw [Nat.pow_zero, Nat.mul_one, Nat.mod_eq_of_lt h]
theorem ri_step {N k m r l : Nat} (h : RI N k m r l) :
    (4 * m + 1 ≤ 4 * r + l / 4611686018427387904 → RI N (k + 1) (2 * m + 1) (4 * r + l / 4611686018427387904 - (4 * m + 1)) (4 * l % 18446744073709551616)) ∧
    (4 * r + l / 4611686018427387904 < 4 * m + 1 → RI N (k + 1) (2 * m) (4 * r + l / 4611686018427387904) (4 * l % 18446744073709551616)) := by
  obtain ⟨h1, h2, h3⟩ := h
  have e : N * 4 ^ (k + 1) = 4 * (N * 4 ^ k) := by rw [Nat.pow_succ, ← Nat.mul_assoc, Nat.mul_comm]
  unfold RI
  rw [e]
  generalize N * 4 ^ k = A at *
  have ht : l / 4611686018427387904 < 4 := by omega
  have hA : 4 * A / 18446744073709551616 = 4 * (A / 18446744073709551616) + l / 4611686018427387904 := by omega
  have hl : 4 * l % 18446744073709551616 = 4 * A % 18446744073709551616 := by omega
  rw [hA, ← h1, hl]
  generalize l / 4611686018427387904 = t at *
  refine ⟨fun hg => ?_, fun hg => ?_⟩
  · have := sq1 m r t h2 ht hg
    exact ⟨this.1, this.2, rfl⟩
  · have := sq2 m r t h2 ht hg
    exact ⟨this.1, this.2, rfl⟩
theorem ri_bound {N k m r l : Nat} (h : RI N k m r l) (hN : N < 18446744073709551616) (hk : k ≤ 60) : m < 1152921504606846976 ∧ l < 18446744073709551616 := by
  obtain ⟨h1, h2, h3⟩ := h
  refine ⟨?_, by rw [h3]; exact Nat.mod_lt _ (by decide)⟩
  rcases Nat.lt_or_ge m 1152921504606846976 with h4 | h4
  · exact h4
  · exfalso
    have h5 : 1152921504606846976 * 1152921504606846976 ≤ m * m := Nat.mul_le_mul h4 h4
    have h6 : (4 : Nat) ^ k ≤ 4 ^ 60 := Nat.pow_le_pow_right (by decide) hk
    have h7 : N * 4 ^ k ≤ 18446744073709551615 * 4 ^ 60 := Nat.mul_le_mul (by omega) h6
    have h8 : N * 4 ^ k / 18446744073709551616 ≤ 18446744073709551615 * 4 ^ 60 / 18446744073709551616 := Nat.div_le_div_right h7
    have c : 18446744073709551615 * 4 ^ 60 / 18446744073709551616 < 1152921504606846976 * 1152921504606846976 := by decide +kernel
    omega
theorem ri_end {N m r l : Nat} (h : RI N 60 m r l) : m * m + r = N * 2 ^ 56 ∧ SqrtOf (N * 2 ^ 56) m := by
  obtain ⟨h1, h2, -⟩ := h
  have e : N * 4 ^ 60 / 18446744073709551616 = N * 2 ^ 56 := by
    rw [show (4 : Nat) ^ 60 = 2 ^ 56 * 18446744073709551616 by decide +kernel, ← Nat.mul_assoc, Nat.mul_div_cancel _ (by decide)]
  rw [e] at h1
  refine ⟨h1, ?_, ?_⟩
  · omega
  · have : (m + 1) * (m + 1) = m * m + 2 * m + 1 := by rw [Nat.add_mul, Nat.mul_add]; omega
    omega
theorem and_one (d : Int) : bits .and .i64 d 1 = d % 2 := by
  have e2 : BitVec.toNat (BitVec.ofInt 64 (1 : Int)) = 1 := by decide
  show IntKind.i64.wrap ((BitVec.ofInt 64 d &&& BitVec.ofInt 64 (1 : Int)).toNat : Int) = _
  rw [BitVec.toNat_and, e2, IntKind.wrap_i64, Nat.and_one_is_mod, BitVec.toNat_ofInt]
  omega
theorem or_two (q t : Nat) (h : t < 4) : 4 * q ||| t = 4 * q + t := by
  have := Nat.two_pow_add_eq_or_of_lt (i := 2) (b := t) h q
  rw [show 2 ^ 2 * q = 4 * q by rfl] at this
  exact this.symm
/-- The digits of a root, one after another, and what is made of them. -/
theorem root_loop_math (N k m r l : Nat) (h : RI N k m r l) (hN : N < 18446744073709551616) (hk : k < 60) :
    ∃ r4 t l4 q4 m2 : Nat, IntKind.u64.wrap ((r : Int) * 4) = (r4 : Int) ∧ (l : Int) / 4611686018427387904 = (t : Int) ∧ bits .or .u64 (r4 : Int) (t : Int) = ((4 * r + l / 4611686018427387904 : Nat) : Int) ∧
      IntKind.u64.wrap ((l : Int) * 4) = (l4 : Int) ∧ l4 = 4 * l % 18446744073709551616 ∧ IntKind.u64.wrap ((m : Int) * 4) = (q4 : Int) ∧ bits .or .u64 (q4 : Int) 1 = ((4 * m + 1 : Nat) : Int) ∧
      IntKind.u64.wrap ((m : Int) * 2) = (m2 : Int) ∧ m2 = 2 * m ∧ bits .or .u64 (m2 : Int) 1 = ((2 * m + 1 : Nat) : Int) ∧ 4 * r + l / 4611686018427387904 < 18446744073709551616 := by
  obtain ⟨hm, hl⟩ := ri_bound h hN (by omega)
  have hr := h.2.1
  clear h
  refine ⟨4 * r, l / 4611686018427387904, 4 * l % 18446744073709551616, 4 * m, 2 * m, ?_, by omega, ?_, ?_, rfl, ?_, ?_, ?_, rfl, ?_, by omega⟩
  · rw [IntKind.wrap_u64]; omega
  · have := bits_or_u64_nat (4 * r) (l / 4611686018427387904) (by omega) (by omega)
    rw [or_two _ _ (by omega)] at this; exact this
  · rw [IntKind.wrap_u64]; omega
  · rw [IntKind.wrap_u64]; omega
  · have := bits_or_u64_nat (4 * m) 1 (by omega) (by decide)
    rw [or_two _ _ (by decide)] at this; exact this
  · rw [IntKind.wrap_u64]; omega
  · have := bits_or_u64_nat (2 * m) 1 (by omega) (by decide)
    rw [or_one] at this; exact this
section
open Ieee
variable {f : Format} {SB INF P : Nat} {low : Int} (F : Fmt f SB INF P low) {a : Nat}
include F
theorem sqrt_nan (h : INF < a % SB) : f.sqrt a = none := by
  unfold Format.sqrt
  obtain ⟨s, t, e⟩ := read_nan (f := f) F.sb F.bi (by rw [F.inf]; exact h)
  rw [e]; rfl
theorem sqrt_zero (ha : a < 2 * SB) (h : kindOf INF (a % SB) = 1) : f.sqrt a = some a := by
  unfold Format.sqrt
  rw [rk1 F ha h]
  show some (f.write (.number (decide (SB ≤ a)) 0 _)) = some a
  congr 1
  show f.nearest _ _ _ = a
  rw [nearest_eq]
  have hz : rungOf f 0 (pe P low (a % SB)) = 0 := by unfold rungOf; rw [if_pos rfl]
  rw [hz]
  have := word_sz F ha
  rw [kind1.1 h] at this
  exact this
theorem sqrt_neg (ha : a < 2 * SB) (h : kindOf INF (a % SB) = 2 ∨ kindOf INF (a % SB) = 3) (hs : SB ≤ a) : f.sqrt a = none := by
  unfold Format.sqrt
  rcases h with h | h
  · have h2 := rk2 F ha h
    rw [h2.1, decide_eq_true hs]
    simp only [Datum.root, if_neg h2.2]; rfl
  · rw [rk3 F ha h, decide_eq_true hs]; rfl
theorem sqrt_inf (ha : a < 2 * SB) (h : kindOf INF (a % SB) = 3) (hs : ¬ SB ≤ a) : f.sqrt a = some a := by
  unfold Format.sqrt
  have := word_sz F ha
  rw [(kind3 F.inf0).1 h, decide_eq_false hs, ← F.inf] at this
  rw [rk3 F ha h, decide_eq_false hs]
  show some (f.word false f.infRung) = some a
  rw [this]
end
end Go.Proofs.YtlhakbkdlgejpaaGreatDoor.Fl
namespace Go.Proofs.YtlhakbkdlgejpaaGreatDoor.Fl
open Go.RowKit
set_option maxRecDepth 20000 in
set_option maxHeartbeats 12800000 in
theorem root_32_fin (a : Nat) (ha : a < 2147483648) (h1 : kindOf 2139095040 (a % 2147483648) = 2) (w : World) :
    Calls Tryz.prog 184 #[.agg #[.int .i64 8, .int .i64 23], .int .u64 a] w fun r w' => r = .returned (.int .u64 ((((Ieee.single).sqrt a).getD 2143289344 : Nat) : Int)) ∧ Below w.heap.size w w' := by
  have ha2 : a < 4294967296 := by omega
  have KA := fun w => hid (kind_32 a ha2 w)
  have PA := fun w => hid (parts_32 a ha2 w)
  have SG := fun w => hid (sign_32 a ha2 w)
  rw [h1] at KA
  have hsg : (if 2147483648 ≤ a then 2147483648 else 0) = 0 := by rw [if_neg (by omega)]
  rw [hsg] at SG
  have hng : decide (2147483648 ≤ a) = false := decide_eq_false (by omega)
  rw [hng] at PA
  have p1 := (rk2 fmt_single (by omega) h1).2
  have hr2 := (rk2 fmt_single (by omega) h1).1
  rw [hng] at hr2
  have hm1b := pm_lt 23 (a % 2147483648)
  have he1b := pe_eq 23 (-149) (a % 2147483648)
  have hq1 : a % 2147483648 / 2 ^ 23 ≤ 2046 := by show a % 2147483648 / 8388608 ≤ 2046; have := (kind2.1 h1).2; omega
  obtain ⟨RR, hRR⟩ : ∃ RR : Nat, RR = ((Ieee.single).sqrt a).getD 2143289344 := ⟨_, rfl⟩
  rw [← hRR]
  unfold Ieee.Format.sqrt at hRR
  rw [hr2] at hRR
  obtain ⟨m1, hm1⟩ : ∃ m1 : Nat, m1 = pm 23 (a % 2147483648) := ⟨_, rfl⟩
  obtain ⟨e1, he1⟩ : ∃ e1 : Int, e1 = pe 23 (-149) (a % 2147483648) := ⟨_, rfl⟩
  rw [← hm1, ← he1] at PA hRR
  rw [← hm1] at hm1b p1
  rw [← he1] at he1b
  have hm53 : m1 < 8388608 * 2 := hm1b
  generalize a % 2147483648 / 2 ^ 23 = q1 at *
  have HRR := hid hRR
  have HM1 : Hid (m1 < 18446744073709551616) := hid (by omega)
  have HM := hid (show m1 < 9007199254740992 by omega)
  have HEB := hid (show -1100 ≤ e1 ∧ e1 ≤ 2100 by omega)
  have HE1 : Hid (-4611686018427387904 ≤ e1 ∧ e1 ≤ 4611686018427387904) := hid (by have := HEB.out; omega)
  have HP0 := hid p1
  have hS := Sx.new 8 23 w
  clear hRR hr2 hng hm1 he1 hm1b hm53 he1b hq1 p1 hsg h1 ha ha2
  obtain ⟨c0, c1⟩ := id hS.1
  go_enter Tryz.func184, Tryz.ntmps184
  go_upto_region 7 with (first
    | (go_at_call 241; ((with_reducible refine (KA _).out.mono ?_); rintro e w1 ⟨rfl, hb⟩; replace hS := hS.call hb; clear c0 c1; obtain ⟨c0, c1⟩ := id hS.1))
    | (go_at_call 189; ((with_reducible refine (SG _).out.mono ?_); rintro e w1 ⟨rfl, hb⟩; replace hS := hS.call hb; clear c0 c1; obtain ⟨c0, c1⟩ := id hS.1)))
  go_cut [5] (fun s5 wx => ∃ (gx j y : Nat) (d : Int), s5 = .pointer (some ⟨gx, 0, none⟩) ∧ Nb gx false y d wx ∧ w.heap.size < gx ∧ Sx 8 23 w wx ∧ Hid (NJ m1 e1 j y d))
  case first =>
    go_wp2_with (first
      | (go_at_call 244; ((with_reducible refine (PA _).out.mono ?_); rintro e w2 ⟨rfl, hb⟩; replace hS := hS.call hb; clear c0 c1; obtain ⟨c0, c1⟩ := id hS.1))
      | (go_at_call 243; ((with_reducible refine (normal_any false m1 HM1.out e1 HE1.out.1 HE1.out.2 _).mono ?_); rintro e w3 ⟨j, hj, hl, hlt, he, hb3⟩; subst he; replace hS := hS.call hb3)))
    go_meet
    exact ⟨w3.heap.size, j, m1 * 2 ^ j, e1 - (j : Int), rfl, Nb.new false (m1 * 2 ^ j) (e1 - (j : Int)) w3, hS.lt, hS.alloc _, hid ⟨hj, hl, hlt, rfl, rfl⟩⟩
  case rest =>
    clear hS c0 c1 PA KA SG HM1 HE1
    obtain ⟨gx, j, y, d, rfl, hX, hgx, hS, HN⟩ := hcut
    obtain ⟨hj, hl, hlt, hy, hd⟩ := HN.out
    have hY := hl HP0.out
    rw [← hy] at hY hlt
    have hj11 : 11 ≤ j := by
      rcases Nat.lt_or_ge j 11 with h | h
      · exfalso
        have h2 : (2 : Nat) ^ j ≤ 2 ^ 10 := Nat.pow_le_pow_right (by decide) (by omega)
        have h3 : m1 * 2 ^ j ≤ m1 * 2 ^ 10 := Nat.mul_le_mul_left _ h2
        have c : (2 : Nat) ^ 10 = 1024 := by decide
        rw [c] at h3
        have := HM.out
        omega
      · exact h
    have hHX := hid hX
    have HS := hid hS
    have HG := hid hgx
    obtain ⟨c0, c1⟩ := id hS.1
    obtain ⟨⟨x0, x1, x2⟩, x3, x4, x5⟩ := id hX
    have HN2 := hid (show y < 18446744073709551616 ∧ 9223372036854775808 ≤ y ∧ -3000 ≤ d ∧ d ≤ 3000 by have := HEB.out; omega)
    have HJ := hid (And.intro hj11 (And.intro hy hd))
    obtain ⟨od, hod⟩ : ∃ od : Int, od = d % 2 := ⟨_, rfl⟩
    have h1 : bits .and .i64 d 1 = od := by rw [hod]; exact and_one d
    obtain ⟨ob, hob⟩ : ∃ ob : Bool, (od != 0) = ob := ⟨_, rfl⟩
    have HO := hid (And.intro hod hob)
    clear hX hgx hS hj hl hlt hy hd hY hj11 HN HP0 hod
    go_upto_region 8 with fail
    go_cut [42] (fun s42 wx => s42 = .bool ob ∧ Nb gx false y d wx ∧ Sx 8 23 w wx)
    case first =>
      go_wp2
      go_meet
      exact ⟨rfl, hHX.out, HS.out⟩
    case rest =>
    clear hHX HS c0 c1 x0 x1 x2 x3 x4 x5 h1 hob
    obtain ⟨rfl, hX, hS⟩ := hcut
    have hHX := hid hX
    have HS := hid hS
    obtain ⟨c0, c1⟩ := id hS.1
    obtain ⟨⟨x0, x1, x2⟩, x3, x4, x5⟩ := id hX
    clear hX hS
    go_upto_if 42 with fail
    go_cut [5] (fun s5 wx => ∃ (N : Nat) (E : Int), s5 = .pointer (some ⟨gx, 0, none⟩) ∧ Nb gx false N E wx ∧ Sx 8 23 w wx ∧ Hid (4611686018427387904 ≤ N ∧ N < 18446744073709551616 ∧ E % 2 = 0 ∧ -3100 ≤ E ∧ E ≤ 3100 ∧ ∃ K : Nat, N * 2 ^ 56 = m1 * 2 ^ K ∧ e1 - (K : Int) = E - 56))
    case first =>
      cases ob with
      | false =>
        go_wp2
        go_meet
        refine ⟨y, d, rfl, hHX.out, HS.out, hid ?_⟩
        obtain ⟨b1, b2, b3, b4⟩ := HN2.out
        obtain ⟨i1, i2, i3⟩ := HJ.out
        obtain ⟨o1, o2⟩ := HO.out
        have o3 : od = 0 := by simpa using o2
        refine ⟨by omega, b1, by omega, by omega, by omega, j + 56, ?_, by omega⟩
        rw [i2, Nat.mul_assoc, ← Nat.pow_add]
      | true =>
        obtain ⟨y2, hy2⟩ : ∃ y2 : Nat, y2 = y / 2 := ⟨_, rfl⟩
        obtain ⟨d2, hd2⟩ : ∃ d2 : Int, d2 = d + 1 := ⟨_, rfl⟩
        have g2 : (y : Int) / 2 = (y2 : Int) := by omega
        have g3 : d + 1 = d2 := hd2.symm
        have g4 : wrap64 d2 = d2 := pwrap_in _ (by have := HN2.out; omega) (by have := HN2.out; omega)
        have HO2 := hid (And.intro hy2 hd2)
        clear hy2 hd2
        go_wp2
        go_meet
        refine ⟨y2, d2, rfl, hHX.out.setm.sete, (HS.out.set HG.out).set HG.out, hid ?_⟩
        obtain ⟨b1, b2, b3, b4⟩ := HN2.out
        obtain ⟨i1, i2, i3⟩ := HJ.out
        obtain ⟨o2, o3⟩ := HO2.out
        obtain ⟨o4, o5⟩ := HO.out
        have o6 : ¬ od = 0 := by simpa using o5
        refine ⟨by omega, by omega, by omega, by omega, by omega, j + 55, ?_, by omega⟩
        obtain ⟨i, rfl⟩ : ∃ i, j = i + 1 := ⟨j - 1, by omega⟩
        rw [o2, i2, Nat.pow_succ, ← Nat.mul_assoc, Nat.mul_div_cancel _ (by decide), Nat.mul_assoc, ← Nat.pow_add, show i + 1 + 55 = i + 56 by omega]
    case rest =>
      clear HN2 HJ HO hHX HS c0 c1 x0 x1 x2 x3 x4 x5
      obtain ⟨N, E, rfl, hX, hS, HF⟩ := hcut
      have HX := hid hX
      have HS := hid hS
      obtain ⟨c0, c1⟩ := id hS.1
      obtain ⟨⟨x0, x1, x2⟩, x3, x4, x5⟩ := id hX
      clear hX hS
      go_upto_region 11 with fail
      go_cut [6, 7, 8] (fun s6 s7 s8 wx => s6 = .int .u64 0 ∧ s7 = .int .u64 0 ∧ s8 = .int .u64 (N : Int) ∧ Nb gx false N E wx ∧ Sx 8 23 w wx)
      case first =>
        go_quiet (fail)
        (go_wp2_with fail)
        go_meet
        exact ⟨rfl, rfl, rfl, HX.out, HS.out.drewN _⟩
      case rest =>
        clear HX HS c0 c1 x0 x1 x2 x3 x4 x5
        obtain ⟨rfl, rfl, rfl, hX, hS⟩ := hcut
        have HX := hid hX
        have HS := hid hS
        clear hX hS
        go_wp2
        go_loop [6, 7, 8, 53] (fun vm vr vl vk => ∃ k m r l : Nat, k ≤ 60 ∧ vk = .int .i64 k ∧ vm = .int .u64 m ∧ vr = .int .u64 r ∧ vl = .int .u64 l ∧ RI N k m r l) (fun _ _ _ vk => 60 - (intOf vk).toNat)
        case atStart => exact ⟨0, 0, 0, N, by omega, rfl, rfl, rfl, rfl, ri_start N HF.out.2.1⟩
        case round =>
          obtain ⟨k, m, r, l, hk, rfl, rfl, rfl, rfl, hri⟩ := hrel
          by_cases hlt : k < 60
          · have hk0 : decide ((k : Int) < 60) = true := decide_eq_true (by omega)
            obtain ⟨r4, t, l4, q4, m2, f1, f2, f3, f4, hl4, f5, f6, f7, hm2, f8, hb⟩ := root_loop_math N k m r l hri HF.out.2.1 hlt
            have hst := ri_step hri
            rw [← hl4, ← hm2] at hst
            obtain ⟨R, hR⟩ : ∃ R : Nat, R = 4 * r + l / 4611686018427387904 := ⟨_, rfl⟩
            obtain ⟨Q, hQ⟩ : ∃ Q : Nat, Q = 4 * m + 1 := ⟨_, rfl⟩
            rw [← hm2] at f8
            obtain ⟨M2, hM2⟩ : ∃ M2 : Nat, M2 = m2 + 1 := ⟨_, rfl⟩
            rw [← hR] at f3 hst hb
            rw [← hQ] at f6 hst
            rw [← hM2] at f8 hst
            by_cases hc : Q ≤ R
            · have hd1 : decide ((Q : Int) ≤ (R : Int)) = true := decide_eq_true (by omega)
              have hd2 : decide (Q ≤ R) = true := decide_eq_true hc
              obtain ⟨R2, hR2⟩ : ∃ R2 : Nat, R2 = R - Q := ⟨_, rfl⟩
              have f9 : IntKind.u64.wrap ((R : Int) - (Q : Int)) = (R2 : Int) := by clear f1 f2 f3 f4 f5 f6 f7 f8 hst; rw [IntKind.wrap_u64]; omega
              have HI := hid (hst.1 hc)
              rw [← hR2] at HI
              clear hst hri hl4 hm2 hR hQ hM2 hR2 hc hb
              go_wp2
              all_goals
                go_round
                case rel => exact ⟨k + 1, M2, R2, l4, by omega, by go_num, rfl, rfl, rfl, HI.out⟩
                case measure => simp [intOf]; omega
            · have hd1 : decide ((Q : Int) ≤ (R : Int)) = false := decide_eq_false (by omega)
              have hd2 : decide (Q ≤ R) = false := decide_eq_false hc
              have HI := hid (hst.2 (by omega))
              clear hst hri hl4 hm2 hR hQ hM2 hc hb f8
              go_wp2
              all_goals
                go_round
                case rel => exact ⟨k + 1, m2, R, l4, by omega, by go_num, rfl, rfl, rfl, HI.out⟩
                case measure => simp [intOf]; omega
          · have hk60 : k = 60 := by omega
            subst hk60
            have hmb := (ri_bound hri HF.out.2.1 (by decide)).1
            obtain ⟨hre, hsq⟩ := ri_end hri
            obtain ⟨n1, n2, n3, n4, n5, K, n6, n7⟩ := HF.out
            have hmlo : 288230376151711744 ≤ m := by
              rcases Nat.lt_or_ge m 288230376151711744 with h | h
              · exfalso
                have h2 : (m + 1) * (m + 1) ≤ 288230376151711744 * 288230376151711744 := Nat.mul_le_mul (by omega) (by omega)
                have h3 := hsq.2
                have c : (2 : Nat) ^ 56 = 72057594037927936 := by decide
                rw [c] at h3
                omega
              · exact h
            obtain ⟨mo, hmo⟩ : ∃ mo : Bool, mo = decide (r ≠ 0) := ⟨_, rfl⟩
            have g1 : ((r : Int) != 0) = mo := by
              rw [hmo]
              by_cases h : r = 0
              · subst h; rfl
              · simp [h]
            obtain ⟨h, hh⟩ : ∃ h : Int, E = 2 * h := ⟨E / 2, by omega⟩
            have g2 : Int.tdiv E 2 = h := by rw [hh]; exact Int.mul_tdiv_cancel_left _ (by decide)
            obtain ⟨e3, he3⟩ : ∃ e3 : Int, e3 = h + 32 - 60 := ⟨_, rfl⟩
            obtain ⟨e4, he4⟩ : ∃ e4 : Int, e4 = h + 32 := ⟨_, rfl⟩
            have g3 : h + 32 = e4 := he4.symm
            have g4 : wrap64 h = h := pwrap_in _ (by omega) (by omega)
            have g5 : wrap64 e4 = e4 := pwrap_in _ (by omega) (by omega)
            have g6 : e4 - 60 = e3 := by omega
            have g7 : wrap64 e3 = e3 := pwrap_in _ (by omega) (by omega)
            have hRf : RR = (Ieee.single).word false (rungR Ieee.single m e3 mo) := by
              rw [HRR.out]
              have hrm := root_math (f := Ieee.single) m1 e1 (by intro h0; rw [h0, Nat.zero_mul] at n6; have : 0 < N * 2 ^ 56 := Nat.mul_pos (by omega) (by decide); omega) (K := K) (r := m) (by omega) (by rw [← n6]; exact hsq) (by rw [← n6]; exact Nat.le_trans (by decide) (Nat.mul_le_mul_right _ n1))
              rw [hrm]
              have he : (e1 - (K : Int)) / 2 = e3 := by omega
              have hb : decide (m * m ≠ m1 * 2 ^ K) = mo := by
                rw [hmo, ← n6, ← hre]
                exact decide_eq_decide.2 ⟨fun h1 h2 => h1 (by rw [h2, Nat.add_zero]), fun h1 h2 => h1 (by omega)⟩
              show (Ieee.single).word false (rungR Ieee.single m ((e1 - (K : Int)) / 2) (decide (m * m ≠ m1 * 2 ^ K))) = _
              rw [he, hb]
            have RC := fun W => hid (round_32 false m (by omega) e3 (by omega) (by omega) mo (fun _ => hmlo) W)
            rw [← hRf] at RC
            obtain ⟨c0, c1⟩ := id HS.out.1
            obtain ⟨⟨x0, x1, x2⟩, -⟩ := id HX.out
            clear hRf hre hsq n1 n2 n3 n4 n5 n6 n7 hmlo hmo hh he3 he4 hmb hri
            go_wp2_with (go_at_call 245; (with_reducible refine (RC _).out.mono ?_); rintro e w5 ⟨rfl, hb5⟩; have HFF := hid (bnext HS.out.2 hb5))
            go_ret
            exact ⟨rfl, HFF.out⟩
set_option maxRecDepth 20000 in
set_option maxHeartbeats 6400000 in
theorem root_32_walk (a k sg X : Nat) (ha : a < 4294967296) (hk : kindOf 2139095040 (a % 2147483648) = k) (hsg : (if 2147483648 ≤ a then 2147483648 else 0) = sg)
    (hw : (k = 1 ∧ X = a) ∨ (k = 4 ∧ X = 2143289344) ∨ (k ≠ 1 ∧ k ≠ 4 ∧ sg ≠ 0 ∧ X = 2143289344) ∨ (k = 3 ∧ sg = 0 ∧ X = a)) (w : World) :
    Calls Tryz.prog 184 #[.agg #[.int .i64 8, .int .i64 23], .int .u64 a] w fun r w' => r = .returned (.int .u64 (X : Int)) ∧ Below w.heap.size w w' := by
  have KA := fun w => hid (kind_32 a ha w)
  have SG := fun w => hid (sign_32 a ha w)
  rw [hk] at KA
  rw [hsg] at SG
  have hS := Sx.new 8 23 w
  obtain ⟨c0, c1⟩ := id hS.1
  clear hk hsg ha
  rcases hw with ⟨rfl, rfl⟩ | ⟨rfl, rfl⟩ | ⟨h1, h2, h3, rfl⟩ | ⟨rfl, rfl, rfl⟩
  · go_enter Tryz.func184, Tryz.ntmps184
    go_wp2_with (first
      | (go_at_call 241; ((with_reducible refine (KA _).out.mono ?_); rintro e w1 ⟨rfl, hb⟩; replace hS := hS.call hb; clear c0 c1; obtain ⟨c0, c1⟩ := id hS.1)))
    go_ret
    exact ⟨rfl, hS.2⟩
  · go_enter Tryz.func184, Tryz.ntmps184
    go_wp2_with (first
      | (go_at_call 241; ((with_reducible refine (KA _).out.mono ?_); rintro e w1 ⟨rfl, hb⟩; replace hS := hS.call hb; clear c0 c1; obtain ⟨c0, c1⟩ := id hS.1))
      | (go_at_call 242; ((with_reducible refine (canonical_32 _).mono ?_); rintro e w1 ⟨rfl, hb⟩; replace hS := hS.call hb)))
    go_ret
    exact ⟨rfl, hS.2⟩
  · have t1 : ((k : Int) == 1) = false := beq_eq_false_iff_ne.2 (by omega)
    have t2 : ((k : Int) == 4) = false := beq_eq_false_iff_ne.2 (by omega)
    have t3 : ((sg : Int) != 0) = true := bne_iff_ne.2 (by omega)
    clear h1 h2 h3
    go_enter Tryz.func184, Tryz.ntmps184
    go_wp2_with (first
      | (go_at_call 241; ((with_reducible refine (KA _).out.mono ?_); rintro e w1 ⟨rfl, hb⟩; replace hS := hS.call hb; clear c0 c1; obtain ⟨c0, c1⟩ := id hS.1))
      | (go_at_call 189; ((with_reducible refine (SG _).out.mono ?_); rintro e w1 ⟨rfl, hb⟩; replace hS := hS.call hb; clear c0 c1; obtain ⟨c0, c1⟩ := id hS.1))
      | (go_at_call 242; ((with_reducible refine (canonical_32 _).mono ?_); rintro e w1 ⟨rfl, hb⟩; replace hS := hS.call hb)))
    go_ret
    exact ⟨rfl, hS.2⟩
  · go_enter Tryz.func184, Tryz.ntmps184
    go_wp2_with (first
      | (go_at_call 241; ((with_reducible refine (KA _).out.mono ?_); rintro e w1 ⟨rfl, hb⟩; replace hS := hS.call hb; clear c0 c1; obtain ⟨c0, c1⟩ := id hS.1))
      | (go_at_call 189; ((with_reducible refine (SG _).out.mono ?_); rintro e w1 ⟨rfl, hb⟩; replace hS := hS.call hb; clear c0 c1; obtain ⟨c0, c1⟩ := id hS.1)))
    go_ret
    exact ⟨rfl, hS.2⟩
theorem root_32 (a : Nat) (ha : a < 4294967296) (w : World) :
    Calls Tryz.prog 184 #[.agg #[.int .i64 8, .int .i64 23], .int .u64 a] w fun r w' => r = .returned (.int .u64 ((((Ieee.single).sqrt a).getD 2143289344 : Nat) : Int)) ∧ Below w.heap.size w w' := by
  have hb2 : a < 2 * 2147483648 := by omega
  rcases Nat.lt_or_ge 2139095040 (a % 2147483648) with hn | hn
  · have hs := sqrt_nan fmt_single hn
    rw [hs]
    exact root_32_walk a 4 _ _ ha (by rw [kindOf_four]; exact hn) rfl (.inr (.inl ⟨rfl, rfl⟩)) w
  · rcases kind_le hn with h | h | h
    · rw [sqrt_zero fmt_single hb2 h]
      exact root_32_walk a 1 _ _ ha h rfl (.inl ⟨rfl, rfl⟩) w
    · by_cases hsg : 2147483648 ≤ a
      · rw [sqrt_neg fmt_single hb2 (.inl h) hsg]
        exact root_32_walk a 2 2147483648 _ ha h (by rw [if_pos hsg]) (.inr (.inr (.inl ⟨by decide, by decide, by decide, rfl⟩))) w
      · exact root_32_fin a (by omega) h w
    · by_cases hsg : 2147483648 ≤ a
      · rw [sqrt_neg fmt_single hb2 (.inr h) hsg]
        exact root_32_walk a 3 2147483648 _ ha h (by rw [if_pos hsg]) (.inr (.inr (.inl ⟨by decide, by decide, by decide, rfl⟩))) w
      · rw [sqrt_inf fmt_single hb2 h hsg]
        exact root_32_walk a 3 0 _ ha h (by rw [if_neg hsg]) (.inr (.inr (.inr ⟨rfl, rfl, rfl⟩))) w
end Go.Proofs.YtlhakbkdlgejpaaGreatDoor.Fl
namespace Go.Proofs.YtlhakbkdlgejpaaGreatDoor.Fl
open Go.RowKit
set_option maxRecDepth 20000 in
set_option maxHeartbeats 12800000 in
theorem root_64_fin (a : Nat) (ha : a < 9223372036854775808) (h1 : kindOf 9218868437227405312 (a % 9223372036854775808) = 2) (w : World) :
    Calls Tryz.prog 184 #[.agg #[.int .i64 11, .int .i64 52], .int .u64 a] w fun r w' => r = .returned (.int .u64 ((((Ieee.double).sqrt a).getD 9221120237041090560 : Nat) : Int)) ∧ Below w.heap.size w w' := by
  have ha2 : a < 18446744073709551616 := by omega
  have KA := fun w => hid (kind_64 a ha2 w)
  have PA := fun w => hid (parts_64 a ha2 w)
  have SG := fun w => hid (sign_64 a ha2 w)
  rw [h1] at KA
  have hsg : (if 9223372036854775808 ≤ a then 9223372036854775808 else 0) = 0 := by rw [if_neg (by omega)]
  rw [hsg] at SG
  have hng : decide (9223372036854775808 ≤ a) = false := decide_eq_false (by omega)
  rw [hng] at PA
  have p1 := (rk2 fmt_double (by omega) h1).2
  have hr2 := (rk2 fmt_double (by omega) h1).1
  rw [hng] at hr2
  have hm1b := pm_lt 52 (a % 9223372036854775808)
  have he1b := pe_eq 52 (-1074) (a % 9223372036854775808)
  have hq1 : a % 9223372036854775808 / 2 ^ 52 ≤ 2046 := by show a % 9223372036854775808 / 4503599627370496 ≤ 2046; have := (kind2.1 h1).2; omega
  obtain ⟨RR, hRR⟩ : ∃ RR : Nat, RR = ((Ieee.double).sqrt a).getD 9221120237041090560 := ⟨_, rfl⟩
  rw [← hRR]
  unfold Ieee.Format.sqrt at hRR
  rw [hr2] at hRR
  obtain ⟨m1, hm1⟩ : ∃ m1 : Nat, m1 = pm 52 (a % 9223372036854775808) := ⟨_, rfl⟩
  obtain ⟨e1, he1⟩ : ∃ e1 : Int, e1 = pe 52 (-1074) (a % 9223372036854775808) := ⟨_, rfl⟩
  rw [← hm1, ← he1] at PA hRR
  rw [← hm1] at hm1b p1
  rw [← he1] at he1b
  have hm53 : m1 < 4503599627370496 * 2 := hm1b
  generalize a % 9223372036854775808 / 2 ^ 52 = q1 at *
  have HRR := hid hRR
  have HM1 : Hid (m1 < 18446744073709551616) := hid (by omega)
  have HM := hid (show m1 < 9007199254740992 by omega)
  have HEB := hid (show -1100 ≤ e1 ∧ e1 ≤ 2100 by omega)
  have HE1 : Hid (-4611686018427387904 ≤ e1 ∧ e1 ≤ 4611686018427387904) := hid (by have := HEB.out; omega)
  have HP0 := hid p1
  have hS := Sx.new 11 52 w
  clear hRR hr2 hng hm1 he1 hm1b hm53 he1b hq1 p1 hsg h1 ha ha2
  obtain ⟨c0, c1⟩ := id hS.1
  go_enter Tryz.func184, Tryz.ntmps184
  go_upto_region 7 with (first
    | (go_at_call 241; ((with_reducible refine (KA _).out.mono ?_); rintro e w1 ⟨rfl, hb⟩; replace hS := hS.call hb; clear c0 c1; obtain ⟨c0, c1⟩ := id hS.1))
    | (go_at_call 189; ((with_reducible refine (SG _).out.mono ?_); rintro e w1 ⟨rfl, hb⟩; replace hS := hS.call hb; clear c0 c1; obtain ⟨c0, c1⟩ := id hS.1)))
  go_cut [5] (fun s5 wx => ∃ (gx j y : Nat) (d : Int), s5 = .pointer (some ⟨gx, 0, none⟩) ∧ Nb gx false y d wx ∧ w.heap.size < gx ∧ Sx 11 52 w wx ∧ Hid (NJ m1 e1 j y d))
  case first =>
    go_wp2_with (first
      | (go_at_call 244; ((with_reducible refine (PA _).out.mono ?_); rintro e w2 ⟨rfl, hb⟩; replace hS := hS.call hb; clear c0 c1; obtain ⟨c0, c1⟩ := id hS.1))
      | (go_at_call 243; ((with_reducible refine (normal_any false m1 HM1.out e1 HE1.out.1 HE1.out.2 _).mono ?_); rintro e w3 ⟨j, hj, hl, hlt, he, hb3⟩; subst he; replace hS := hS.call hb3)))
    go_meet
    exact ⟨w3.heap.size, j, m1 * 2 ^ j, e1 - (j : Int), rfl, Nb.new false (m1 * 2 ^ j) (e1 - (j : Int)) w3, hS.lt, hS.alloc _, hid ⟨hj, hl, hlt, rfl, rfl⟩⟩
  case rest =>
    clear hS c0 c1 PA KA SG HM1 HE1
    obtain ⟨gx, j, y, d, rfl, hX, hgx, hS, HN⟩ := hcut
    obtain ⟨hj, hl, hlt, hy, hd⟩ := HN.out
    have hY := hl HP0.out
    rw [← hy] at hY hlt
    have hj11 : 11 ≤ j := by
      rcases Nat.lt_or_ge j 11 with h | h
      · exfalso
        have h2 : (2 : Nat) ^ j ≤ 2 ^ 10 := Nat.pow_le_pow_right (by decide) (by omega)
        have h3 : m1 * 2 ^ j ≤ m1 * 2 ^ 10 := Nat.mul_le_mul_left _ h2
        have c : (2 : Nat) ^ 10 = 1024 := by decide
        rw [c] at h3
        have := HM.out
        omega
      · exact h
    have hHX := hid hX
    have HS := hid hS
    have HG := hid hgx
    obtain ⟨c0, c1⟩ := id hS.1
    obtain ⟨⟨x0, x1, x2⟩, x3, x4, x5⟩ := id hX
    have HN2 := hid (show y < 18446744073709551616 ∧ 9223372036854775808 ≤ y ∧ -3000 ≤ d ∧ d ≤ 3000 by have := HEB.out; omega)
    have HJ := hid (And.intro hj11 (And.intro hy hd))
    obtain ⟨od, hod⟩ : ∃ od : Int, od = d % 2 := ⟨_, rfl⟩
    have h1 : bits .and .i64 d 1 = od := by rw [hod]; exact and_one d
    obtain ⟨ob, hob⟩ : ∃ ob : Bool, (od != 0) = ob := ⟨_, rfl⟩
    have HO := hid (And.intro hod hob)
    clear hX hgx hS hj hl hlt hy hd hY hj11 HN HP0 hod
    go_upto_region 8 with fail
    go_cut [42] (fun s42 wx => s42 = .bool ob ∧ Nb gx false y d wx ∧ Sx 11 52 w wx)
    case first =>
      go_wp2
      go_meet
      exact ⟨rfl, hHX.out, HS.out⟩
    case rest =>
    clear hHX HS c0 c1 x0 x1 x2 x3 x4 x5 h1 hob
    obtain ⟨rfl, hX, hS⟩ := hcut
    have hHX := hid hX
    have HS := hid hS
    obtain ⟨c0, c1⟩ := id hS.1
    obtain ⟨⟨x0, x1, x2⟩, x3, x4, x5⟩ := id hX
    clear hX hS
    go_upto_if 42 with fail
    go_cut [5] (fun s5 wx => ∃ (N : Nat) (E : Int), s5 = .pointer (some ⟨gx, 0, none⟩) ∧ Nb gx false N E wx ∧ Sx 11 52 w wx ∧ Hid (4611686018427387904 ≤ N ∧ N < 18446744073709551616 ∧ E % 2 = 0 ∧ -3100 ≤ E ∧ E ≤ 3100 ∧ ∃ K : Nat, N * 2 ^ 56 = m1 * 2 ^ K ∧ e1 - (K : Int) = E - 56))
    case first =>
      cases ob with
      | false =>
        go_wp2
        go_meet
        refine ⟨y, d, rfl, hHX.out, HS.out, hid ?_⟩
        obtain ⟨b1, b2, b3, b4⟩ := HN2.out
        obtain ⟨i1, i2, i3⟩ := HJ.out
        obtain ⟨o1, o2⟩ := HO.out
        have o3 : od = 0 := by simpa using o2
        refine ⟨by omega, b1, by omega, by omega, by omega, j + 56, ?_, by omega⟩
        rw [i2, Nat.mul_assoc, ← Nat.pow_add]
      | true =>
        obtain ⟨y2, hy2⟩ : ∃ y2 : Nat, y2 = y / 2 := ⟨_, rfl⟩
        obtain ⟨d2, hd2⟩ : ∃ d2 : Int, d2 = d + 1 := ⟨_, rfl⟩
        have g2 : (y : Int) / 2 = (y2 : Int) := by omega
        have g3 : d + 1 = d2 := hd2.symm
        have g4 : wrap64 d2 = d2 := pwrap_in _ (by have := HN2.out; omega) (by have := HN2.out; omega)
        have HO2 := hid (And.intro hy2 hd2)
        clear hy2 hd2
        go_wp2
        go_meet
        refine ⟨y2, d2, rfl, hHX.out.setm.sete, (HS.out.set HG.out).set HG.out, hid ?_⟩
        obtain ⟨b1, b2, b3, b4⟩ := HN2.out
        obtain ⟨i1, i2, i3⟩ := HJ.out
        obtain ⟨o2, o3⟩ := HO2.out
        obtain ⟨o4, o5⟩ := HO.out
        have o6 : ¬ od = 0 := by simpa using o5
        refine ⟨by omega, by omega, by omega, by omega, by omega, j + 55, ?_, by omega⟩
        obtain ⟨i, rfl⟩ : ∃ i, j = i + 1 := ⟨j - 1, by omega⟩
        rw [o2, i2, Nat.pow_succ, ← Nat.mul_assoc, Nat.mul_div_cancel _ (by decide), Nat.mul_assoc, ← Nat.pow_add, show i + 1 + 55 = i + 56 by omega]
    case rest =>
      clear HN2 HJ HO hHX HS c0 c1 x0 x1 x2 x3 x4 x5
      obtain ⟨N, E, rfl, hX, hS, HF⟩ := hcut
      have HX := hid hX
      have HS := hid hS
      obtain ⟨c0, c1⟩ := id hS.1
      obtain ⟨⟨x0, x1, x2⟩, x3, x4, x5⟩ := id hX
      clear hX hS
      go_upto_region 11 with fail
      go_cut [6, 7, 8] (fun s6 s7 s8 wx => s6 = .int .u64 0 ∧ s7 = .int .u64 0 ∧ s8 = .int .u64 (N : Int) ∧ Nb gx false N E wx ∧ Sx 11 52 w wx)
      case first =>
        go_quiet (fail)
        (go_wp2_with fail)
        go_meet
        exact ⟨rfl, rfl, rfl, HX.out, HS.out.drewN _⟩
      case rest =>
        clear HX HS c0 c1 x0 x1 x2 x3 x4 x5
        obtain ⟨rfl, rfl, rfl, hX, hS⟩ := hcut
        have HX := hid hX
        have HS := hid hS
        clear hX hS
        go_wp2
        go_loop [6, 7, 8, 53] (fun vm vr vl vk => ∃ k m r l : Nat, k ≤ 60 ∧ vk = .int .i64 k ∧ vm = .int .u64 m ∧ vr = .int .u64 r ∧ vl = .int .u64 l ∧ RI N k m r l) (fun _ _ _ vk => 60 - (intOf vk).toNat)
        case atStart => exact ⟨0, 0, 0, N, by omega, rfl, rfl, rfl, rfl, ri_start N HF.out.2.1⟩
        case round =>
          obtain ⟨k, m, r, l, hk, rfl, rfl, rfl, rfl, hri⟩ := hrel
          by_cases hlt : k < 60
          · have hk0 : decide ((k : Int) < 60) = true := decide_eq_true (by omega)
            obtain ⟨r4, t, l4, q4, m2, f1, f2, f3, f4, hl4, f5, f6, f7, hm2, f8, hb⟩ := root_loop_math N k m r l hri HF.out.2.1 hlt
            have hst := ri_step hri
            rw [← hl4, ← hm2] at hst
            obtain ⟨R, hR⟩ : ∃ R : Nat, R = 4 * r + l / 4611686018427387904 := ⟨_, rfl⟩
            obtain ⟨Q, hQ⟩ : ∃ Q : Nat, Q = 4 * m + 1 := ⟨_, rfl⟩
            rw [← hm2] at f8
            obtain ⟨M2, hM2⟩ : ∃ M2 : Nat, M2 = m2 + 1 := ⟨_, rfl⟩
            rw [← hR] at f3 hst hb
            rw [← hQ] at f6 hst
            rw [← hM2] at f8 hst
            by_cases hc : Q ≤ R
            · have hd1 : decide ((Q : Int) ≤ (R : Int)) = true := decide_eq_true (by omega)
              have hd2 : decide (Q ≤ R) = true := decide_eq_true hc
              obtain ⟨R2, hR2⟩ : ∃ R2 : Nat, R2 = R - Q := ⟨_, rfl⟩
              have f9 : IntKind.u64.wrap ((R : Int) - (Q : Int)) = (R2 : Int) := by clear f1 f2 f3 f4 f5 f6 f7 f8 hst; rw [IntKind.wrap_u64]; omega
              have HI := hid (hst.1 hc)
              rw [← hR2] at HI
              clear hst hri hl4 hm2 hR hQ hM2 hR2 hc hb
              go_wp2
              all_goals
                go_round
                case rel => exact ⟨k + 1, M2, R2, l4, by omega, by go_num, rfl, rfl, rfl, HI.out⟩
                case measure => simp [intOf]; omega
            · have hd1 : decide ((Q : Int) ≤ (R : Int)) = false := decide_eq_false (by omega)
              have hd2 : decide (Q ≤ R) = false := decide_eq_false hc
              have HI := hid (hst.2 (by omega))
              clear hst hri hl4 hm2 hR hQ hM2 hc hb f8
              go_wp2
              all_goals
                go_round
                case rel => exact ⟨k + 1, m2, R, l4, by omega, by go_num, rfl, rfl, rfl, HI.out⟩
                case measure => simp [intOf]; omega
          · have hk60 : k = 60 := by omega
            subst hk60
            have hmb := (ri_bound hri HF.out.2.1 (by decide)).1
            obtain ⟨hre, hsq⟩ := ri_end hri
            obtain ⟨n1, n2, n3, n4, n5, K, n6, n7⟩ := HF.out
            have hmlo : 288230376151711744 ≤ m := by
              rcases Nat.lt_or_ge m 288230376151711744 with h | h
              · exfalso
                have h2 : (m + 1) * (m + 1) ≤ 288230376151711744 * 288230376151711744 := Nat.mul_le_mul (by omega) (by omega)
                have h3 := hsq.2
                have c : (2 : Nat) ^ 56 = 72057594037927936 := by decide
                rw [c] at h3
                omega
              · exact h
            obtain ⟨mo, hmo⟩ : ∃ mo : Bool, mo = decide (r ≠ 0) := ⟨_, rfl⟩
            have g1 : ((r : Int) != 0) = mo := by
              rw [hmo]
              by_cases h : r = 0
              · subst h; rfl
              · simp [h]
            obtain ⟨h, hh⟩ : ∃ h : Int, E = 2 * h := ⟨E / 2, by omega⟩
            have g2 : Int.tdiv E 2 = h := by rw [hh]; exact Int.mul_tdiv_cancel_left _ (by decide)
            obtain ⟨e3, he3⟩ : ∃ e3 : Int, e3 = h + 32 - 60 := ⟨_, rfl⟩
            obtain ⟨e4, he4⟩ : ∃ e4 : Int, e4 = h + 32 := ⟨_, rfl⟩
            have g3 : h + 32 = e4 := he4.symm
            have g4 : wrap64 h = h := pwrap_in _ (by omega) (by omega)
            have g5 : wrap64 e4 = e4 := pwrap_in _ (by omega) (by omega)
            have g6 : e4 - 60 = e3 := by omega
            have g7 : wrap64 e3 = e3 := pwrap_in _ (by omega) (by omega)
            have hRf : RR = (Ieee.double).word false (rungR Ieee.double m e3 mo) := by
              rw [HRR.out]
              have hrm := root_math (f := Ieee.double) m1 e1 (by intro h0; rw [h0, Nat.zero_mul] at n6; have : 0 < N * 2 ^ 56 := Nat.mul_pos (by omega) (by decide); omega) (K := K) (r := m) (by omega) (by rw [← n6]; exact hsq) (by rw [← n6]; exact Nat.le_trans (by decide) (Nat.mul_le_mul_right _ n1))
              rw [hrm]
              have he : (e1 - (K : Int)) / 2 = e3 := by omega
              have hb : decide (m * m ≠ m1 * 2 ^ K) = mo := by
                rw [hmo, ← n6, ← hre]
                exact decide_eq_decide.2 ⟨fun h1 h2 => h1 (by rw [h2, Nat.add_zero]), fun h1 h2 => h1 (by omega)⟩
              show (Ieee.double).word false (rungR Ieee.double m ((e1 - (K : Int)) / 2) (decide (m * m ≠ m1 * 2 ^ K))) = _
              rw [he, hb]
            have RC := fun W => hid (round_64 false m (by omega) e3 (by omega) (by omega) mo (fun _ => hmlo) W)
            rw [← hRf] at RC
            obtain ⟨c0, c1⟩ := id HS.out.1
            obtain ⟨⟨x0, x1, x2⟩, -⟩ := id HX.out
            clear hRf hre hsq n1 n2 n3 n4 n5 n6 n7 hmlo hmo hh he3 he4 hmb hri
            go_wp2_with (go_at_call 245; (with_reducible refine (RC _).out.mono ?_); rintro e w5 ⟨rfl, hb5⟩; have HFF := hid (bnext HS.out.2 hb5))
            go_ret
            exact ⟨rfl, HFF.out⟩
set_option maxRecDepth 20000 in
set_option maxHeartbeats 6400000 in
theorem root_64_walk (a k sg X : Nat) (ha : a < 18446744073709551616) (hk : kindOf 9218868437227405312 (a % 9223372036854775808) = k) (hsg : (if 9223372036854775808 ≤ a then 9223372036854775808 else 0) = sg)
    (hw : (k = 1 ∧ X = a) ∨ (k = 4 ∧ X = 9221120237041090560) ∨ (k ≠ 1 ∧ k ≠ 4 ∧ sg ≠ 0 ∧ X = 9221120237041090560) ∨ (k = 3 ∧ sg = 0 ∧ X = a)) (w : World) :
    Calls Tryz.prog 184 #[.agg #[.int .i64 11, .int .i64 52], .int .u64 a] w fun r w' => r = .returned (.int .u64 (X : Int)) ∧ Below w.heap.size w w' := by
  have KA := fun w => hid (kind_64 a ha w)
  have SG := fun w => hid (sign_64 a ha w)
  rw [hk] at KA
  rw [hsg] at SG
  have hS := Sx.new 11 52 w
  obtain ⟨c0, c1⟩ := id hS.1
  clear hk hsg ha
  rcases hw with ⟨rfl, rfl⟩ | ⟨rfl, rfl⟩ | ⟨h1, h2, h3, rfl⟩ | ⟨rfl, rfl, rfl⟩
  · go_enter Tryz.func184, Tryz.ntmps184
    go_wp2_with (first
      | (go_at_call 241; ((with_reducible refine (KA _).out.mono ?_); rintro e w1 ⟨rfl, hb⟩; replace hS := hS.call hb; clear c0 c1; obtain ⟨c0, c1⟩ := id hS.1)))
    go_ret
    exact ⟨rfl, hS.2⟩
  · go_enter Tryz.func184, Tryz.ntmps184
    go_wp2_with (first
      | (go_at_call 241; ((with_reducible refine (KA _).out.mono ?_); rintro e w1 ⟨rfl, hb⟩; replace hS := hS.call hb; clear c0 c1; obtain ⟨c0, c1⟩ := id hS.1))
      | (go_at_call 242; ((with_reducible refine (canonical_64 _).mono ?_); rintro e w1 ⟨rfl, hb⟩; replace hS := hS.call hb)))
    go_ret
    exact ⟨rfl, hS.2⟩
  · have t1 : ((k : Int) == 1) = false := beq_eq_false_iff_ne.2 (by omega)
    have t2 : ((k : Int) == 4) = false := beq_eq_false_iff_ne.2 (by omega)
    have t3 : ((sg : Int) != 0) = true := bne_iff_ne.2 (by omega)
    clear h1 h2 h3
    go_enter Tryz.func184, Tryz.ntmps184
    go_wp2_with (first
      | (go_at_call 241; ((with_reducible refine (KA _).out.mono ?_); rintro e w1 ⟨rfl, hb⟩; replace hS := hS.call hb; clear c0 c1; obtain ⟨c0, c1⟩ := id hS.1))
      | (go_at_call 189; ((with_reducible refine (SG _).out.mono ?_); rintro e w1 ⟨rfl, hb⟩; replace hS := hS.call hb; clear c0 c1; obtain ⟨c0, c1⟩ := id hS.1))
      | (go_at_call 242; ((with_reducible refine (canonical_64 _).mono ?_); rintro e w1 ⟨rfl, hb⟩; replace hS := hS.call hb)))
    go_ret
    exact ⟨rfl, hS.2⟩
  · go_enter Tryz.func184, Tryz.ntmps184
    go_wp2_with (first
      | (go_at_call 241; ((with_reducible refine (KA _).out.mono ?_); rintro e w1 ⟨rfl, hb⟩; replace hS := hS.call hb; clear c0 c1; obtain ⟨c0, c1⟩ := id hS.1))
      | (go_at_call 189; ((with_reducible refine (SG _).out.mono ?_); rintro e w1 ⟨rfl, hb⟩; replace hS := hS.call hb; clear c0 c1; obtain ⟨c0, c1⟩ := id hS.1)))
    go_ret
    exact ⟨rfl, hS.2⟩
theorem root_64 (a : Nat) (ha : a < 18446744073709551616) (w : World) :
    Calls Tryz.prog 184 #[.agg #[.int .i64 11, .int .i64 52], .int .u64 a] w fun r w' => r = .returned (.int .u64 ((((Ieee.double).sqrt a).getD 9221120237041090560 : Nat) : Int)) ∧ Below w.heap.size w w' := by
  have hb2 : a < 2 * 9223372036854775808 := by omega
  rcases Nat.lt_or_ge 9218868437227405312 (a % 9223372036854775808) with hn | hn
  · have hs := sqrt_nan fmt_double hn
    rw [hs]
    exact root_64_walk a 4 _ _ ha (by rw [kindOf_four]; exact hn) rfl (.inr (.inl ⟨rfl, rfl⟩)) w
  · rcases kind_le hn with h | h | h
    · rw [sqrt_zero fmt_double hb2 h]
      exact root_64_walk a 1 _ _ ha h rfl (.inl ⟨rfl, rfl⟩) w
    · by_cases hsg : 9223372036854775808 ≤ a
      · rw [sqrt_neg fmt_double hb2 (.inl h) hsg]
        exact root_64_walk a 2 9223372036854775808 _ ha h (by rw [if_pos hsg]) (.inr (.inr (.inl ⟨by decide, by decide, by decide, rfl⟩))) w
      · exact root_64_fin a (by omega) h w
    · by_cases hsg : 9223372036854775808 ≤ a
      · rw [sqrt_neg fmt_double hb2 (.inr h) hsg]
        exact root_64_walk a 3 9223372036854775808 _ ha h (by rw [if_pos hsg]) (.inr (.inr (.inl ⟨by decide, by decide, by decide, rfl⟩))) w
      · rw [sqrt_inf fmt_double hb2 h hsg]
        exact root_64_walk a 3 0 _ ha h (by rw [if_neg hsg]) (.inr (.inr (.inr ⟨rfl, rfl, rfl⟩))) w
end Go.Proofs.YtlhakbkdlgejpaaGreatDoor.Fl
