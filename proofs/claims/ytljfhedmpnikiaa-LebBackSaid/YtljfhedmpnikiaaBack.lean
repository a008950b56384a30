/-
  What is written is read as it was, in as many bits as it needs, and more. No condition: for every input.
-/
import Derived.Test.YtljfhedmpnikiaaNames
import Derived.Test.YtljfhedmpnikiaaBackPlain
import Derived.Test.YtljfhedmpnikiaaRefValid
import Derived.SizedLaws
import Derived.Deep.DeepCutAuto
import Derived.Deep.CutBlock
import Derived.WalkKit
import Derived.ProofKit
import Derived.OpenShut
import Derived.ShutString
namespace Go.Proofs.Ytljfhedmpnikiaa.lebBack
open Go.Proofs.Ytljfhedmpnikiaa
open Go.ChangeShapes Go.WideShapes Go.ChangeAt Go.RowKit
open Go.ChangeMaps (open_string shut_string)
set_option linter.unusedVariables false      -- a walk need not use every 'w<i>' (that an integer argument fits its kind)

theorem own : ownKnob Try.prog.godebug = none := by kernel_rfl

/-- Another reader's turn leaves this one as it is. -/
theorem Rd_other {w w' : World} {g g2 : Nat} {l l2 : List UInt8} {e e2 : Int} (h : Rd w g l e) (h2 : Rd w g2 l2 e2) (hne : g ≠ g2) (hG : w.grownBy w' (some g2)) : Rd w' g l e := by
  have hg := h.lt
  obtain ⟨sv, r1, r2⟩ := h
  obtain ⟨sv2, q1, q2⟩ := h2
  refine ⟨sv, (hG.block g hg (by simpa using hne)).trans r1, ?_⟩
  rcases r2 with r2 | ⟨g', off, cap, a, b, c, d, f⟩
  · exact .inl r2
  · refine .inr ⟨g', off, cap, a, b, c, d, fun j u hj => ?_⟩
    have hc := f j u hj
    by_cases hgg : g' = g2
    · exfalso
      subst hgg
      rw [cell_of_row w g' (off + j) _ 56 (0, 0) q1] at hc
      match hk : off + j, hc with
      | 0, hc =>
        rcases q2 with ⟨rfl, _⟩ | ⟨_, _, _, rfl, _⟩ <;> simp at hc
      | 1, hc => simp at hc
      | n + 2, hc => simp at hc
    · rw [World.cell?_of_block (w := w) (hG.block g' (by omega) (by simpa using hgg))]
      exact hc

theorem U_own (x : Nat) (hx : x < 18446744073709551616) (W : World) :
    Calls Try.prog 10 #[.slice none 0 0, .int .u64 x] W fun e w' => ∃ v', e = .returned v' ∧ w'.ownsRow W.heap.size 5 1 v' (ulist x).length (Lib.byteCells (ulist x)) ∧ Below W.heap.size W w' :=
  U_any 0 _ [] x hx W (.inl ⟨rfl, rfl⟩) (Nat.zero_le _) (by simp)

theorem S_own (m : Int) (h0 : -9223372036854775808 ≤ m) (h1 : m ≤ 9223372036854775807) (W : World) :
    Calls Try.prog 11 #[.slice none 0 0, .int .i64 m] W fun e w' => ∃ v', e = .returned v' ∧ w'.ownsRow W.heap.size 5 1 v' (slist m).length (Lib.byteCells (slist m)) ∧ Below W.heap.size W w' :=
  S_any 0 _ [] m h0 h1 W (.inl ⟨rfl, rfl⟩) (Nat.zero_le _) (by simp)

theorem S_onto (m : Int) (h0 : -9223372036854775808 ≤ m) (h1 : m ≤ 9223372036854775807) (W : World) {B : Nat} {v : Value} {l : List UInt8} (h : W.ownsRow B 5 1 v l.length (Lib.byteCells l)) (hl : l.length ≤ 100000) :
    Calls Try.prog 11 #[v, .int .i64 m] W fun e w' => ∃ v', e = .returned v' ∧ w'.ownsRow W.heap.size 5 1 v' (l ++ slist m).length (Lib.byteCells (l ++ slist m)) ∧ Below W.heap.size W w' :=
  S_any W.heap.size v l m h0 h1 W (bytes_of_owned h (by omega)) (Nat.le_refl _) (by omega)

theorem N_onto (s : ByteArray) (hs : s.size ≤ 1000) (W : World) {B : Nat} {v : Value} {l : List UInt8} (h : W.ownsRow B 5 1 v l.length (Lib.byteCells l)) (hl : l.length ≤ 100000) :
    Calls Try.prog 12 #[v, .string s] W fun e w' => ∃ v', e = .returned v' ∧ w'.ownsRow W.heap.size 5 1 v' (l ++ (ulist s.size ++ s.data.toList)).length (Lib.byteCells (l ++ (ulist s.size ++ s.data.toList))) ∧ Below W.heap.size W w' :=
  (Name_any W.heap.size v l s W (bytes_of_owned h (by omega)) (Nat.le_refl _) (by omega)).mono fun _ _ ⟨v', a, b, c⟩ => ⟨v', a, by rw [← List.append_assoc]; exact b, c⟩

theorem R_own (W : World) {B : Nat} {v : Value} {l : List UInt8} (h : W.ownsRow B 5 1 v l.length (Lib.byteCells l)) (hl : l.length ≤ 100000) :
    Calls Try.prog 16 #[v] W fun e w' => ∃ g, e = .returned (.pointer (some ⟨g, 0, none⟩)) ∧ W.heap.size ≤ g ∧ Rd w' g l 0 ∧ Below W.heap.size W w' :=
  Read_any W.heap.size v l W (bytes_of_owned h (by omega)) (Nat.le_refl _)

theorem C17 (x B : Nat) (h1 : 1 ≤ B) (h2 : B ≤ 64) (hx : x < 2 ^ B) (t : List UInt8) (W : World) (g : Nat) (h : Rd W g (ulist x ++ t) 0) :
    Calls Try.prog 17 #[.pointer (some ⟨g, 0, none⟩), .int .i64 B] W fun en w' => en = .returned (.int .u64 x) ∧ Rd w' g t 0 ∧ W.grownBy w' (some g) :=
  (rU_any W g _ 0 B h (by simp)).mono fun _ _ ⟨a, b, c⟩ => by
    rw [uSpec_back h1 h2 t x hx] at a b
    exact ⟨a, b, c⟩

theorem C19 (m : Int) (B : Nat) (h1 : 1 ≤ B) (h2 : B ≤ 64) (hx : Fits m (B - 1)) (t : List UInt8) (W : World) (g : Nat) (h : Rd W g (slist m ++ t) 0) :
    Calls Try.prog 19 #[.pointer (some ⟨g, 0, none⟩), .int .i64 B] W fun en w' => en = .returned (.int .i64 m) ∧ Rd w' g t 0 ∧ W.grownBy w' (some g) :=
  (rS_any W g _ 0 B h (by simp)).mono fun _ _ ⟨a, b, c⟩ => by
    rw [sSpec_back h1 h2 t m hx] at a b
    exact ⟨a, b, c⟩

theorem D17 (x B : Nat) (h1 : 1 ≤ B) (h2 : B ≤ 64) (hx : 2 ^ B ≤ x) (W : World) (g : Nat) (h : Rd W g (ulist x) 0) :
    Calls Try.prog 17 #[.pointer (some ⟨g, 0, none⟩), .int .i64 B] W fun en w' => en = .returned (.int .u64 0) ∧ Rd w' g [] 11 ∧ W.grownBy w' (some g) :=
  (rU_any W g _ 0 B h (by simp)).mono fun _ _ ⟨a, b, c⟩ => by
    rw [uSpec_few h1 h2 x hx] at a b
    exact ⟨a, b, c⟩

theorem D19 (m : Int) (B : Nat) (h1 : 1 ≤ B) (h2 : B ≤ 64) (hx : ¬ Fits m (B - 1)) (W : World) (g : Nat) (h : Rd W g (slist m) 0) :
    Calls Try.prog 19 #[.pointer (some ⟨g, 0, none⟩), .int .i64 B] W fun en w' => en = .returned (.int .i64 0) ∧ Rd w' g [] 11 ∧ W.grownBy w' (some g) :=
  (rS_any W g _ 0 B h (by simp)).mono fun _ _ ⟨a, b, c⟩ => by
    rw [sSpec_few h1 h2 m hx] at a b
    exact ⟨a, b, c⟩

theorem nSpec_back (s : ByteArray) (hs : s.size ≤ 1000) (hv : vfrom s s.size 0 = true) : nSpec (ulist s.size ++ s.data.toList) 0 = (s.data.toList, [], 0) := by
  have h32 : s.size < 2 ^ 32 := Nat.lt_of_le_of_lt hs (by decide)
  have hu : uSpec 32 (ulist s.size ++ s.data.toList) 0 = (s.size, s.data.toList, 0) := uSpec_back (nb := 32) (by decide) (by decide) _ _ h32
  have hl : s.data.toList.length = s.size := rfl
  have hx : nx s.size s.data.toList 0 = (s.data.toList, [], 0) := by
    rw [nx, if_neg (by omega), ← hl, List.take_length, List.drop_length]
  have hvl : validL s.data.toList = true := hv
  unfold nSpec
  rw [hu]
  simp only []
  rw [hx]
  simp only []
  rw [if_pos hvl]

theorem C25 (s : ByteArray) (hs : s.size ≤ 1000) (hv : vfrom s s.size 0 = true) (W : World) (g : Nat) (h : Rd W g (ulist s.size ++ s.data.toList) 0) :
    Calls Try.prog 25 #[.pointer (some ⟨g, 0, none⟩)] W fun en w' => en = .returned (.string s) ∧ Rd w' g [] 0 ∧ W.grownBy w' (some g) :=
  (Name_rd W g _ 0 h (by simp)).mono fun _ _ ⟨a, b, c⟩ => by
    rw [nSpec_back s hs hv] at a b
    exact ⟨a, b, c⟩

set_option maxHeartbeats 3200000 in
set_option maxRecDepth 100000 in
theorem walk (a0 : Int) (a1 : Int) (a2 : ByteArray) (a3 : Int) (w0 : (Lit.int .u64 a0).wf = true) (w1 : (Lit.int .i64 a1).wf = true) (w2 : a2.data.toList.length ≤ reachBytes) (w3 : (Lit.int .i64 a3).wf = true) (w : World) :
    Calls Try.prog 6 #[.int .u64 a0, .int .i64 a1, .string a2, .int .i64 a3] w fun e w' => e = .returned (.bool true) ∧ Below w.heap.size w w' := by
  have hb0 : 0 ≤ a0 ∧ a0 < 18446744073709551616 := by
    simp [Lit.wf, IntKind.min, IntKind.max, IntKind.signed, IntKind.bits] at w0; omega
  have hb1 : -9223372036854775808 ≤ a1 ∧ a1 ≤ 9223372036854775807 := by
    simp [Lit.wf, IntKind.min, IntKind.max, IntKind.signed, IntKind.bits] at w1; omega
  obtain ⟨m0, m1⟩ := hb1
  obtain ⟨x, rfl⟩ : ∃ x : Nat, a0 = (x : Int) := ⟨a0.toNat, by omega⟩
  have hx : x < 18446744073709551616 := by omega
  obtain ⟨A, hA, hand0⟩ := and_i64_le a3 63 (by decide)
  have hand : Go.bits .and .i64 a3 63 = (A : Int) := hand0
  have hsz : a2.size ≤ 140737488351232 := w2
  have HV := hid (fun W => refValid_any a2 W (by omega))
  clear w0 w1 w2 w3 hb0 hand0
  by_cases hlong : 1000 < a2.size
  · have hd : decide ((1000 : Int) < (a2.size : Int)) = true := by simp; omega
    go_enter Try.func6, Try.ntmps6
    go_wp2_with (first
      | (go_at_call 9; refine (awake_any w).mono ?_; rintro e w1 ⟨rfl, hB1⟩)
      | (go_at_call 32; refine (HV.out w1).mono ?_; rintro e w2 ⟨rfl, rfl⟩))
    go_ret
    exact ⟨rfl, hB1⟩
  have hd : decide ((1000 : Int) < (a2.size : Int)) = false := by simp; omega
  cases hutf : vfrom a2 a2.size 0 with
  | false =>
    rw [hutf] at HV
    clear hutf
    go_enter Try.func6, Try.ntmps6
    go_wp2_with (first
      | (go_at_call 9; refine (awake_any w).mono ?_; rintro e w1 ⟨rfl, hB1⟩)
      | (go_at_call 32; refine (HV.out w1).mono ?_; rintro e w2 ⟨rfl, rfl⟩))
    go_ret
    exact ⟨rfl, hB1⟩
  | true =>
    rw [hutf] at HV
    have HT := hid hutf
    clear hutf
    go_enter Try.func6, Try.ntmps6
    go_upto_block 0 with (first
      | (go_at_call 9; refine (awake_any w).mono ?_; rintro e w1 ⟨rfl, hB1⟩)
      | (go_at_call 32; refine (HV.out w1).mono ?_; rintro e w2 ⟨rfl, rfl⟩))
    go_cut [11] (fun v wx => w1 = wx ∧ ∃ L : Nat, v = .int .i64 L ∧ 1 ≤ L ∧ L ≤ 64 ∧ Hid (L = 1 ∨ 2 ^ (L - 1) ≤ x) ∧ Hid (x < 2 ^ L))
    case first =>
      go_wp2
      go_loop [11] (fun v => ∃ L : Nat, v = .int .i64 L ∧ 1 ≤ L ∧ L ≤ 64 ∧ Hid (L = 1 ∨ 2 ^ (L - 1) ≤ x)) (fun v => 64 - (intOf v).toNat)
      case atStart => exact ⟨1, rfl, by omega, by omega, hid (.inl rfl)⟩
      case round =>
        obtain ⟨L, rfl, hL1, hL2, hLx⟩ := hrel
        by_cases h64 : L < 64
        · have hd1 : decide ((L : Int) < 64) = true := by simp; omega
          by_cases hz : x < 2 ^ L
          · have hz1 : ((x : Int) / 2 ^ L != 0) = false := by
              rw [two_pow_cast, ← Int.natCast_ediv, Nat.div_eq_of_lt hz]; rfl
            have HZ := hid hz
            clear hz
            go_wp2
            go_meet
            exact ⟨rfl, L, rfl, hL1, hL2, hLx, HZ⟩
          · have hz1 : ((x : Int) / 2 ^ L != 0) = true := by
              have := Nat.div_pos (Nat.le_of_not_lt hz) (Nat.two_pow_pos L)
              rw [two_pow_cast, ← Int.natCast_ediv, bne_iff_ne]
              generalize x / 2 ^ L = q at *
              omega
            have HZ : Hid (2 ^ (L + 1 - 1) ≤ x) := hid (by rw [Nat.add_sub_cancel]; omega)
            clear hz
            go_wp2
            go_round
            case rel => exact ⟨L + 1, by go_num, by omega, by omega, hid (.inr HZ.out)⟩
            case measure => simp [intOf]; omega
        · have hd1 : decide ((L : Int) < 64) = false := by simp; omega
          obtain rfl : L = 64 := by omega
          go_wp2
          go_meet
          exact ⟨rfl, 64, rfl, hL1, hL2, hLx, hid hx⟩
    case rest =>
      obtain ⟨rfl, L, rfl, hL1, hL2, hLx, hLz⟩ := hcut
      go_upto_block 2 with fail
      go_cut [12] (fun v wx => w1 = wx ∧ ∃ q : Nat, v = .int .i64 ((q + 1 : Nat) : Int) ∧ q ≤ 63 ∧ Hid (q = 0 ∨ ¬ Fits a1 (q - 1)) ∧ Hid (Fits a1 q))
      case first =>
        go_wp2
        go_loop [12] (fun v => ∃ q : Nat, v = .int .i64 ((q + 1 : Nat) : Int) ∧ q ≤ 63 ∧ Hid (q = 0 ∨ ¬ Fits a1 (q - 1))) (fun v => 64 - (intOf v).toNat)
        case atStart => exact ⟨0, rfl, by omega, hid (.inl rfl)⟩
        case round =>
          obtain ⟨q, rfl, hq, hqf⟩ := hrel
          by_cases h64 : q + 1 < 64
          · have hd1 : decide ((q : Int) + 1 < 64) = true := by simp; omega
            by_cases hz : a1 / 2 ^ q = 0
            · have HZ : Hid (Fits a1 q) := hid (.inl hz)
              have hz1 : (a1 / 2 ^ q != 0) = false := by rw [hz]; rfl
              clear hz
              go_wp2
              go_meet
              exact ⟨rfl, q, rfl, hq, hqf, HZ⟩
            · by_cases hz2 : a1 / 2 ^ q = -1
              · have HZ : Hid (Fits a1 q) := hid (.inr hz2)
                have hz1 : (a1 / 2 ^ q != 0) = true := by rw [hz2]; rfl
                have hz3 : (a1 / 2 ^ q != -1) = false := by rw [hz2]; rfl
                clear hz hz2
                go_wp2
                go_meet
                exact ⟨rfl, q, rfl, hq, hqf, HZ⟩
              · have HZ : Hid (¬ Fits a1 (q + 1 - 1)) := hid (by rw [Nat.add_sub_cancel]; rintro (h | h); exact hz h; exact hz2 h)
                have hz1 : (a1 / 2 ^ q != 0) = true := by rw [bne_iff_ne]; exact hz
                have hz3 : (a1 / 2 ^ q != -1) = true := by rw [bne_iff_ne]; exact hz2
                clear hz hz2
                go_wp2
                go_round
                case rel => exact ⟨q + 1, by go_num, by omega, hid (.inr HZ.out)⟩
                case measure => simp [intOf]; omega
          · have hd1 : decide ((q : Int) + 1 < 64) = false := by simp; omega
            obtain rfl : q = 63 := by omega
            go_wp2
            go_meet
            exact ⟨rfl, 63, rfl, hq, hqf, hid (fits_63 m0 m1)⟩
      case rest =>
        obtain ⟨rfl, q, rfl, hq, hqf, hqz⟩ := hcut
        have hlu := ulist_length64 hx
        have hls := slist_length64 m0 m1
        have hle : a2.size ≤ 1000 := by omega
        go_upto_region 14 with fail
        go_cut [14] (fun v wx => w1 = wx ∧ ∃ B : Nat, v = .int .i64 B ∧ L ≤ B ∧ B ≤ 64)
        case first =>
          go_wp2
          all_goals
            go_meet
            first
              | exact ⟨rfl, 64, rfl, by omega, by omega⟩
              | exact ⟨rfl, L + A, by go_num, by omega, by omega⟩
        case rest =>
          obtain ⟨rfl, B, rfl, hBL, hB64⟩ := hcut
          go_upto_region 15 with fail
          go_cut [15] (fun v wx => w1 = wx ∧ ∃ C : Nat, v = .int .i64 C ∧ q + 1 ≤ C ∧ C ≤ 64)
          case first =>
            go_wp2
            all_goals
              go_meet
              first
                | exact ⟨rfl, 64, rfl, by omega, by omega⟩
                | exact ⟨rfl, q + 1 + A, by go_num, by omega, by omega⟩
          case rest =>
            obtain ⟨rfl, C, rfl, hCq, hC64⟩ := hcut
            have hxB : x < 2 ^ B := Nat.lt_of_lt_of_le hLz.out (Nat.pow_le_pow_right (by decide) hBL)
            have hmC : Fits a1 (C - 1) := fits_more hqz.out (by omega)
            have HXB := hid hxB
            have HMC := hid hmC
            have hlap : (ulist x ++ slist a1).length ≤ 100000 := by rw [List.length_append]; omega
            have hlap2 : (ulist x ++ slist a1 ++ (ulist a2.size ++ a2.data.toList)).length ≤ 100000 := by
              have h1 := ulist_length64 (x := a2.size) (by omega)
              have h2 : a2.data.toList.length = a2.size := rfl
              simp only [List.length_append, h2]; omega
            have HL1 := hid hlap
            have HL2 := hid hlap2
            clear hxB hmC hlap hlap2
            go_upto_region 20 with (first
              | (go_at_call 10; (with_reducible refine (U_own x hx w1).mono ?_); rintro e w2 ⟨v2, rfl, hown2, hB2⟩)
              | (go_at_call 11; (with_reducible refine (S_onto a1 m0 m1 w2 hown2 (by omega)).mono ?_); rintro e w3 ⟨v3, rfl, hown3, hB3⟩)
              | (go_at_call 12; (with_reducible refine (N_onto a2 hle w3 hown3 HL1.out).mono ?_); rintro e w4 ⟨v4, rfl, hown4, hB4⟩)
              | (go_at_call 16; (with_reducible refine (R_own w4 hown4 HL2.out).mono ?_); rintro e w5 ⟨g1, rfl, hg1, hR5, hB5⟩; rw [List.append_assoc] at hR5)
              | (go_at_call 17; (with_reducible refine (C17 x B (by omega) hB64 HXB.out _ w5 g1 hR5).mono ?_); rintro e w6 ⟨rfl, hR6, hG6⟩)
              | (go_at_call 19; (with_reducible refine (C19 a1 C (by omega) hC64 HMC.out _ w6 g1 hR6).mono ?_); rintro e w7 ⟨rfl, hR7, hG7⟩)
              | (go_at_call 25; (with_reducible refine (C25 a2 hle HT.out w7 g1 hR7).mono ?_); rintro e w8 ⟨rfl, hR8, hG8⟩)
              | (go_at_call 29; (with_reducible refine (Left_any w8 g1 _ _ hR8).mono ?_); rintro e w9 ⟨rfl, rfl⟩)
              | (go_at_call 30; (with_reducible refine (Err_any w8 g1 _ _ hR8).mono ?_); rintro e w9 ⟨rfl, rfl⟩)
              | (go_at_call 10; (with_reducible refine (U_own x hx w8).mono ?_); rintro e w9 ⟨v9, rfl, hown9, hB9⟩)
              | (go_at_call 16; (with_reducible refine (R_own w9 hown9 (by omega)).mono ?_); rintro e w10 ⟨g2, rfl, hg2, hR10, hB10⟩)
              | (go_at_call 11; (with_reducible refine (S_own a1 m0 m1 w10).mono ?_); rintro e w11 ⟨v11, rfl, hown11, hB11⟩)
              | (go_at_call 16; (with_reducible refine (R_own w11 hown11 (by omega)).mono ?_); rintro e w12 ⟨g3, rfl, hg3, hR12, hB12⟩))
            have s1 := hB1.size
            have s2 := hB2.size
            have s3 := hB3.size
            have s4 := hB4.size
            have s5 := hB5.size
            have s6 := hG6.size
            have s7 := hG7.size
            have s8 := hG8.size
            have s9 := hB9.size
            have s10 := hB10.size
            have s11 := hB11.size
            have s12 := hB12.size
            have hBa : Below w.heap.size w w5 := (((hB1.trans (hB2.mono (by omega))).trans (hB3.mono (by omega))).trans (hB4.mono (by omega))).trans (hB5.mono (by omega))
            have hBb : Below w.heap.size w w8 := below_grownBy (below_grownBy (below_grownBy hBa hG6 (by omega) (by omega)) hG7 (by omega) (by omega)) hG8 (by omega) (by omega)
            have hBc : Below w.heap.size w w12 := (((hBb.trans (hB9.mono (by omega))).trans (hB10.mono (by omega))).trans (hB11.mono (by omega))).trans (hB12.mono (by omega))
            have hR10b : Rd w12 g2 (ulist x) 0 := (hR10.below hB11).below hB12
            have hg2l := hR10.lt
            have hne : g3 ≠ g2 := by omega
            have hwg2 : w.heap.size ≤ g2 := by omega
            have hwg3 : w.heap.size ≤ g3 := by omega
            have hws : w.heap.size ≤ w12.heap.size := by omega
            clear s1 s2 s3 s4 s5 s6 s7 s8 s9 s10 s11 s12 hB2 hB3 hB4 hB5 hG6 hG7 hG8 hB9 hB10 hB11 hB12 hBa hBb hR10 hown2 hown3 hown4 hown9 hown11 hg1 hg2 hg3 hR5 hR6 hR7 hR8
            go_cut [20] (fun v wx => v = .bool true ∧ Below w.heap.size w wx ∧ Rd wx g3 (slist a1) 0)
            case first =>
              by_cases hL : L = 1
              · subst hL
                go_wp2
                go_meet
                exact ⟨rfl, hBc, hR12⟩
              · obtain ⟨p, rfl⟩ : ∃ p, L = p + 1 := ⟨L - 1, by omega⟩
                have hp1 : 1 ≤ p := by omega
                have hpx : Hid (2 ^ p ≤ x) := hid (by rcases hLx.out with h | h; exact absurd h hL; rwa [Nat.add_sub_cancel] at h)
                have hLb : (((p : Int) + 1) == 1) = false := by simp; omega
                clear hL
                go_wp2_with (first
                  | (go_at_call 17; (with_reducible refine (D17 x p hp1 (by omega) hpx.out w12 g2 hR10b).mono ?_); rintro e w13 ⟨rfl, hR13, hG13⟩)
                  | (go_at_call 30; (with_reducible refine (Err_any w13 g2 _ _ hR13).mono ?_); rintro e w14 ⟨rfl, rfl⟩))
                go_meet
                exact ⟨rfl, below_grownBy hBc hG13 hws hwg2, Rd_other hR12 hR10b hne hG13⟩
            case rest =>
              obtain ⟨rfl, hBd, hRd3⟩ := hcut
              have hwc := hBd.size
              by_cases hq0 : q = 0
              · subst hq0
                go_wp2
                go_ret
                exact ⟨rfl, hBd⟩
              · have hq1 : 1 ≤ q := by omega
                have hqx : Hid (¬ Fits a1 (q - 1)) := hid (by rcases hqf.out with h | h; exact absurd h hq0; exact h)
                have hqb : (((q : Int) + 1) == 1) = false := by simp; omega
                clear hq0
                go_wp2_with (first
                  | (go_at_call 19; (with_reducible refine (D19 a1 q hq1 (by omega) hqx.out wc g3 hRd3).mono ?_); rintro e w13 ⟨rfl, hR13, hG13⟩)
                  | (go_at_call 30; (with_reducible refine (Err_any w13 g3 _ _ hR13).mono ?_); rintro e w14 ⟨rfl, rfl⟩))
                go_ret
                exact ⟨rfl, below_grownBy hBd hG13 hwc hwg3⟩

/-! ### THE ROW's STEP: WRITTEN OUT: LEAVE IT -/
set_option maxRecDepth 100000 in
theorem lifted (os : Os) (started : os.Started) (H : Type) (enc : TypeId × Value → H) :
    ReturnsInHanded {} Try.checked os 6 .any (Rows.lebBackSpec.pre6 enc Try.prog Try.f6 Rows.lebBackRow.domain false) (Rows.lebBackSpec.post enc Try.prog Try.f6 false true false false) := by
  refine returnsInHanded_of_change_sized (C := Try.checked) own started (by kernel_rfl) Try.func6
    (ChangeSpec.witness6 (enc := enc) (C := Try.checked) false ⟨#[], #[.int .u64 0, .int .i64 0, .string ByteArray.empty, .int .i64 0], []⟩ 8 (by kernel_rfl) (by kernel_rfl) (by kernel_rfl) (by kernel_rfl)) ?_
  intro W base args ds gs before hval0 hW hcnd hsz0 _
  have hsz : (DataW.weightsEach Try.prog (Try.f6.params.toList ++ Rows.lebBackSpec.plain.varTypes Try.prog) (ds ++ gs)).all (· ≤ reachBytes) = true := hsz0
  have hval : ∀ (j : Nat) t v, Try.f6.params[j]? = some t → args[j]? = some v → Value.okWide Try.prog W .any base t v := hval0
  have hW' := hW
  obtain ⟨p, q, hA0, hV, rfl, hfz, hnd⟩ := hW
  have hA : DataW.TrodAll enc Try.prog W 0 (fun _ => true) true Try.f6.params.toList args.toList ds p := hA0
  rw [Try.params6] at hA hval hsz
  obtain ⟨v0, vs0, d0, ds0, p0, q0, hargs, rfl, rfl, h0, r0⟩ := trodAll_cons hA
  obtain ⟨v1, vs1, d1, ds1, p1, q1, rfl, rfl, rfl, h1, r1⟩ := trodAll_cons r0
  obtain ⟨v2, vs2, d2, ds2, p2, q2, rfl, rfl, rfl, h2, r2⟩ := trodAll_cons r1
  obtain ⟨v3, vs3, d3, ds3, p3, q3, rfl, rfl, rfl, h3, r3⟩ := trodAll_cons r2
  obtain ⟨rfl, rfl, rfl⟩ := trodAll_nil r3
  obtain rfl : args = #[v0, v1, v2, v3] := by cases args; simp_all
  obtain ⟨rfl, rfl⟩ := trodVars_none hV
  obtain ⟨a0, rfl, rfl, rfl, w0⟩ := open_int Try.underlying23 (hval 0 23 v0 rfl rfl) h0
  obtain ⟨a1, rfl, rfl, rfl, w1⟩ := open_int Try.underlying2 (hval 1 2 v1 rfl rfl) h1
  obtain ⟨a2, rfl, rfl, rfl, w2⟩ := open_string Try.underlying9 (hval 2 9 v2 rfl rfl) h2
  obtain ⟨a3, rfl, rfl, rfl, w3⟩ := open_int Try.underlying3 (hval 3 3 v3 rfl rfl) h3
  clear hA0 hval0
  simp only [List.append_nil] at hW'
  have hr2 := sized_string hsz (j := 2) (t := 9) rfl rfl
  refine (walk a0 a1 a2 a3 w0 w1 hr2 w3 W).mono fun e W' ⟨he, hg⟩ => ?_
  subst he
  exact ⟨_, rfl, _, _, _, [], [], [], hW', trodAll_mk1 (shut_bool Try.underlying4 _), (trodAll_cons_mk (shut_int Try.underlying23 w0) (trodAll_cons_mk (shut_int Try.underlying2 w1) (trodAll_cons_mk (shut_string Try.underlying9 w2) (trodAll_cons_mk (shut_int Try.underlying3 w3) trodAll_mk0)))), rfl, hg.frame _, fun h => by cases h⟩

theorem over : Rows.lebBackRow.holds Try.pinned (OpenSpec.ofChange Rows.lebBackSpec) :=
  OpenClaim.holds_of_wide 6 Try.f6 rfl rfl rfl rfl rfl rfl rfl ⟨rfl, rfl, rfl, rfl, rfl⟩ rfl rfl rfl rfl rfl (by kernel_rfl) Try.func6 (by kernel_rfl)
    (of_decide_eq_true (by kernel_rfl)) (by unfold Func.isWrapper; first | (rw [if_pos (by decide +kernel)]; kernel_rfl) | (rw [if_neg (by decide +kernel)]; exact ⟨rfl, rfl⟩))
    (fun os started H enc _ => lifted os started H enc)

/-- ████ THE STATEMENT ████ -/
theorem proved : Rows.LebBackSaid :=
  over
#print axioms proved
end Go.Proofs.Ytljfhedmpnikiaa.lebBack
