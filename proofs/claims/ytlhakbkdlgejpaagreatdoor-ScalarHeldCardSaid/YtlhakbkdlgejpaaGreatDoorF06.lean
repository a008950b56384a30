/-
  FApi, FSumMath: merged (each text says what it holds where it lies in wip). No condition.
-/
import Derived.Test.YtlhakbkdlgejpaaGreatDoorF03
import Derived.Test.YtlhakbkdlgejpaaGreatDoorF04
import Derived.Test.YtlhakbkdlgejpaaGreatDoorF05
import Derived.Deep.RegionWith
import Derived.Test.YtlhakbkdlgejpaaGreatDoorF02
set_option linter.unusedSimpArgs false
set_option linter.unusedVariables false
set_option maxRecDepth 100000
namespace Go.Proofs.YtlhakbkdlgejpaaGreatDoor.Fl
open Go.RowKit

/-- Block g holds the format, and nothing elder has turned. -/
def Sg (E P : Int) (w : World) (g : Nat) (W : World) : Prop := Fb E P g W ∧ w.heap.size ≤ g ∧ Below w.heap.size w W
theorem Sg.call {E P : Int} {w W W' : World} {g : Nat} (h : Sg E P w g W) (hb : Below W.heap.size W W') : Sg E P w g W' := ⟨h.1.call hb, h.2.1, bnext h.2.2 hb⟩
theorem Sg.drew {E P : Int} {w W : World} {g : Nat} (h : Sg E P w g W) : Sg E P w g W.drew := ⟨h.1, h.2.1, h.2.2.drew⟩
theorem Sg.drewN {E P : Int} {w W : World} {g : Nat} (h : Sg E P w g W) (n : Nat) : Sg E P w g (W.drewN n) := ⟨h.1, h.2.1, below_drewN h.2.2 n⟩
theorem Sg.alloc {E P : Int} {w W : World} {g : Nat} (h : Sg E P w g W) (o : Obj) : Sg E P w g (W.alloc o) := h.call (ball W o)
theorem Sg.lt {E P : Int} {w W : World} {g : Nat} (h : Sg E P w g W) : g < W.heap.size := h.1.lt
theorem Sg.new (E P : Int) {w w1 : World} (hb : Below w.heap.size w w1) : Sg E P w w1.heap.size (w1.alloc (.cells #[.int .i64 E, .int .i64 P] 141)) := ⟨Fb.new E P w1, hb.size, balloc hb _⟩

theorem Kind_no (b : Int) (h1 : b ≠ 32) (h2 : b ≠ 64) (a : Nat) (w : World) : Calls Tryz.prog 204 #[.int .i64 b, .int .u64 a] w fun e w' => e = .returned (.int .i64 0) ∧ Below w.heap.size w w' := by
  have HF := fun w => hid (formatOf_no b h1 h2 w)
  clear h1 h2
  go_enter Tryz.func204, Tryz.ntmps204
  go_wp2_with (first
    | (go_at_call 179; ((with_reducible refine (HF _).out.mono ?_); rintro e w1 ⟨rfl, hb1⟩))
    | (go_at_call 180; ((with_reducible refine (known_no _).mono ?_); rintro e w2 ⟨rfl, hb2⟩)))
  go_ret
  exact ⟨rfl, bnext (balloc hb1 _) hb2⟩

theorem Canonical_no (b : Int) (h1 : b ≠ 32) (h2 : b ≠ 64) (w : World) : Calls Tryz.prog 249 #[.int .i64 b] w fun e w' => e = .returned (.int .u64 0) ∧ Below w.heap.size w w' := by
  have HF := fun w => hid (formatOf_no b h1 h2 w)
  clear h1 h2
  go_enter Tryz.func249, Tryz.ntmps249
  go_wp2_with (first
    | (go_at_call 179; ((with_reducible refine (HF _).out.mono ?_); rintro e w1 ⟨rfl, hb1⟩))
    | (go_at_call 180; ((with_reducible refine (known_no _).mono ?_); rintro e w2 ⟨rfl, hb2⟩)))
  go_ret
  exact ⟨rfl, bnext (balloc hb1 _) hb2⟩

theorem Round_no (b : Int) (h1 : b ≠ 32) (h2 : b ≠ 64) (ng : Bool) (m : Nat) (ex : Int) (more : Bool) (w : World) : Calls Tryz.prog 239 #[.int .i64 b, .bool ng, .int .u64 m, .int .i64 ex, .bool more] w fun e w' => e = .returned (.tuple #[.int .u64 0, .int .i64 1]) ∧ Below w.heap.size w w' := by
  have HF := fun w => hid (formatOf_no b h1 h2 w)
  clear h1 h2
  go_enter Tryz.func239, Tryz.ntmps239
  go_wp2_with (first
    | (go_at_call 179; ((with_reducible refine (HF _).out.mono ?_); rintro e w1 ⟨rfl, hb1⟩))
    | (go_at_call 180; ((with_reducible refine (known_no _).mono ?_); rintro e w2 ⟨rfl, hb2⟩)))
  go_ret2
  exact ⟨rfl, bnext (balloc hb1 _) hb2⟩

theorem Parts_no (b : Int) (h1 : b ≠ 32) (h2 : b ≠ 64) (a : Nat) (w : World) : Calls Tryz.prog 250 #[.int .i64 b, .int .u64 a] w fun e w' => e = .returned (.tuple #[.bool false, .int .u64 0, .int .i64 0, .int .i64 1]) ∧ Below w.heap.size w w' := by
  have HF := fun w => hid (formatOf_no b h1 h2 w)
  clear h1 h2
  go_enter Tryz.func250, Tryz.ntmps250
  go_wp2_with (first
    | (go_at_call 179; ((with_reducible refine (HF _).out.mono ?_); rintro e w1 ⟨rfl, hb1⟩))
    | (go_at_call 180; ((with_reducible refine (known_no _).mono ?_); rintro e w2 ⟨rfl, hb2⟩)))
  exact bodyPost_ret (v := .tuple #[.bool false, .int .u64 0, .int .i64 0, .int .i64 1]) (by simp [results, Tryz.results250, go_sem]) rfl ⟨rfl, bnext (balloc hb1 _) hb2⟩

theorem Rel_no (b : Int) (h1 : b ≠ 32) (h2 : b ≠ 64) (op : Int) (x y : Nat) (w : World) : Calls Tryz.prog 110 #[.int .i64 b, .int .i64 op, .int .u64 x, .int .u64 y] w fun e w' => e = .returned (.tuple #[.bool false, .int .i64 1]) ∧ Below w.heap.size w w' := by
  have HF := fun w => hid (formatOf_no b h1 h2 w)
  clear h1 h2
  go_enter Tryz.func110, Tryz.ntmps110
  go_wp2_with (first
    | (go_at_call 179; ((with_reducible refine (HF _).out.mono ?_); rintro e w1 ⟨rfl, hb1⟩))
    | (go_at_call 180; ((with_reducible refine (known_no _).mono ?_); rintro e w2 ⟨rfl, hb2⟩)))
  go_ret2
  exact ⟨rfl, bnext (balloc hb1 _) hb2⟩

/-- How two numbers stand, by the operation. -/
def relI (op : Nat) (x y : Int) : Bool :=
  if op = 1 then x == y else if op = 2 then x != y else if op = 3 then decide (x < y) else if op = 4 then decide (y < x) else if op = 5 then decide (x ≤ y) else decide (y ≤ x)

/-- How two words stand. -/
def relW (SB INF op a b : Nat) : Bool := if INF < a % SB ∨ INF < b % SB then op == 2 else relI op (rankOf SB a) (rankOf SB b)

theorem Kind_32 (a : Nat) (ha : a < 18446744073709551616) (w : World) : Calls Tryz.prog 204 #[.int .i64 32, .int .u64 a] w fun e w' => e = .returned (.int .i64 ((kindOf 2139095040 (a % 4294967296 % 2147483648) : Nat) : Int)) ∧ Below w.heap.size w w' := by
  have HC := fun w => hid (cut_32 a ha w)
  have HK := fun w => hid (kind_32 (a % 4294967296) (by omega) w)
  obtain ⟨k, hk⟩ : ∃ k : Nat, k = kindOf 2139095040 (a % 4294967296 % 2147483648) := ⟨_, rfl⟩
  obtain ⟨c, hc⟩ : ∃ c : Nat, c = a % 4294967296 := ⟨_, rfl⟩
  rw [← hk] at HK ⊢
  rw [← hc] at HK HC
  clear hk hc
  go_enter Tryz.func204, Tryz.ntmps204
  go_wp2_with (first
    | (go_at_call 179; ((with_reducible refine (formatOf_32 _).mono ?_); rintro e w1 ⟨rfl, hb1⟩))
    | (go_at_call 180; ((with_reducible refine (known_32 _).mono ?_); rintro e w2 ⟨rfl, hb2⟩; have hS := (Sg.new 8 23 hb1).call hb2; obtain ⟨c0, c1⟩ := id hS.1)))
  go_region_held3 (fun w' => w'.cell? ⟨w1.heap.size, 0, none⟩ = some (.int .i64 8) ∧ w'.cell? ⟨w1.heap.size, 1, none⟩ = some (.int .i64 23) ∧ Sg 8 23 w w1.heap.size w')
    (first
      | exact ⟨c0, c1, hS.drew⟩
      | (go_split_ands; exact ⟨bkeep ‹_› hb, bkeep ‹_› hb, Sg.call ‹_› hb⟩)
      | (go_split_ands; exact ⟨‹_›, ‹_›, ‹_›⟩))
    (first
      | (go_at_call 181; ((with_reducible refine (HC _).out.mono ?_); rintro e w' ⟨rfl, hb⟩))
      | (go_at_call 241; ((with_reducible refine (HK _).out.mono ?_); rintro e w' ⟨rfl, hb⟩)))
  all_goals
    go_wp2
    go_ret
    go_split_ands
    exact ⟨rfl, (‹Sg 8 23 w w1.heap.size _›).2.2⟩

theorem Canonical_32 (w : World) : Calls Tryz.prog 249 #[.int .i64 32] w fun e w' => e = .returned (.int .u64 2143289344) ∧ Below w.heap.size w w' := by
  go_enter Tryz.func249, Tryz.ntmps249
  go_wp2_with (first
    | (go_at_call 179; ((with_reducible refine (formatOf_32 _).mono ?_); rintro e w1 ⟨rfl, hb1⟩))
    | (go_at_call 180; ((with_reducible refine (known_32 _).mono ?_); rintro e w2 ⟨rfl, hb2⟩; have hS := (Sg.new 8 23 hb1).call hb2; obtain ⟨c0, c1⟩ := id hS.1))
    | (go_at_call 242; ((with_reducible refine (canonical_32 _).mono ?_); rintro e w3 ⟨rfl, hb3⟩)))
  go_ret
  exact ⟨rfl, bnext hS.2.2 hb3⟩

theorem Round_32 (ng : Bool) (m : Nat) (hm : m < 18446744073709551616) (ex : Int) (he0 : -9223372036854775808 ≤ ex) (he1 : ex ≤ 9223372036854775807) (more : Bool) (w : World) :
    Calls Tryz.prog 239 #[.int .i64 32, .bool ng, .int .u64 m, .int .i64 ex, .bool more] w fun e w' => e = .returned (if more = true ∧ m < 288230376151711744 then .tuple #[.int .u64 0, .int .i64 1] else .tuple #[.int .u64 (((Ieee.single).word ng (rungR Ieee.single m ex more) : Nat) : Int), .int .i64 0]) ∧ Below w.heap.size w w' := by
  have HC := fun h w => hid (round_32 ng m hm ex he0 he1 more h w)
  obtain ⟨R, hR⟩ : ∃ R : Nat, R = (Ieee.single).word ng (rungR Ieee.single m ex more) := ⟨_, rfl⟩
  rw [← hR] at HC ⊢
  clear hR he0 he1
  cases more with
  | true =>
    by_cases hlo : m < 288230376151711744
    · rw [if_pos ⟨rfl, hlo⟩]
      have h1 : decide ((m : Int) < 288230376151711744) = true := by simp; omega
      clear HC hlo
      go_enter Tryz.func239, Tryz.ntmps239
      go_wp2_with (first
        | (go_at_call 179; ((with_reducible refine (formatOf_32 _).mono ?_); rintro e w1 ⟨rfl, hb1⟩))
        | (go_at_call 180; ((with_reducible refine (known_32 _).mono ?_); rintro e w2 ⟨rfl, hb2⟩; have hS := (Sg.new 8 23 hb1).call hb2; obtain ⟨c0, c1⟩ := id hS.1)))
      go_ret2
      exact ⟨rfl, hS.2.2⟩
    · rw [if_neg (fun h => hlo h.2)]
      have h1 : decide ((m : Int) < 288230376151711744) = false := by simp; omega
      have HC2 := HC (fun _ => by omega)
      clear HC hlo
      go_enter Tryz.func239, Tryz.ntmps239
      go_wp2_with (first
        | (go_at_call 179; ((with_reducible refine (formatOf_32 _).mono ?_); rintro e w1 ⟨rfl, hb1⟩))
        | (go_at_call 180; ((with_reducible refine (known_32 _).mono ?_); rintro e w2 ⟨rfl, hb2⟩; have hS := (Sg.new 8 23 hb1).call hb2; obtain ⟨c0, c1⟩ := id hS.1))
        | (go_at_call 245; ((with_reducible refine (HC2 _).out.mono ?_); rintro e w3 ⟨rfl, hb3⟩)))
      go_ret2
      exact ⟨rfl, bnext hS.2.2 hb3⟩
  | false =>
    rw [if_neg (fun h => by cases h.1)]
    have HC2 := HC (fun h => by cases h)
    clear HC
    go_enter Tryz.func239, Tryz.ntmps239
    go_wp2_with (first
      | (go_at_call 179; ((with_reducible refine (formatOf_32 _).mono ?_); rintro e w1 ⟨rfl, hb1⟩))
      | (go_at_call 180; ((with_reducible refine (known_32 _).mono ?_); rintro e w2 ⟨rfl, hb2⟩; have hS := (Sg.new 8 23 hb1).call hb2; obtain ⟨c0, c1⟩ := id hS.1))
      | (go_at_call 245; ((with_reducible refine (HC2 _).out.mono ?_); rintro e w3 ⟨rfl, hb3⟩)))
    go_ret2
    exact ⟨rfl, bnext hS.2.2 hb3⟩

set_option maxHeartbeats 1600000 in
theorem Rel_32 (op : Nat) (hop : op = 1 ∨ op = 2 ∨ op = 3 ∨ op = 4 ∨ op = 5 ∨ op = 6) (a b : Nat) (ha : a < 18446744073709551616) (hb : b < 18446744073709551616) (w : World) :
    Calls Tryz.prog 110 #[.int .i64 32, .int .i64 op, .int .u64 a, .int .u64 b] w fun e w' => e = .returned (.tuple #[.bool (relW 2147483648 2139095040 op (a % 4294967296) (b % 4294967296)), .int .i64 0]) ∧ Below w.heap.size w w' := by
  have CA := fun w => hid (cut_32 a ha w)
  have CB := fun w => hid (cut_32 b hb w)
  have HN := fun w => hid (anyNaN_32 (a % 4294967296) (b % 4294967296) (by omega) (by omega) w)
  have RA := fun w => hid (rank_32 (a % 4294967296) (by omega) w)
  have RB := fun w => hid (rank_32 (b % 4294967296) (by omega) w)
  have hrw : relW 2147483648 2139095040 op (a % 4294967296) (b % 4294967296) = if 2139095040 < a % 4294967296 % 2147483648 ∨ 2139095040 < b % 4294967296 % 2147483648 then op == 2 else relI op (rankOf 2147483648 (a % 4294967296)) (rankOf 2147483648 (b % 4294967296)) := rfl
  rw [hrw]
  clear hrw
  generalize a % 4294967296 = a1 at *
  generalize b % 4294967296 = b1 at *
  generalize rankOf 2147483648 a1 = x at *
  generalize rankOf 2147483648 b1 = y at *
  have o1 : decide ((op : Int) < 1) = false := by simp; omega
  have o2 : decide ((6 : Int) < (op : Int)) = false := by simp; omega
  clear ha
  by_cases hn : 2139095040 < a1 % 2147483648 ∨ 2139095040 < b1 % 2147483648
  · rw [if_pos hn]
    rw [show decide (2139095040 < a1 % 2147483648 ∨ 2139095040 < b1 % 2147483648) = true by simp [hn]] at HN
    have ho : ((op : Int) == 2) = (op == 2) := Bool.eq_iff_iff.2 (by rw [beq_iff_eq, beq_iff_eq]; omega)
    clear hn hop RA RB hb
    go_enter Tryz.func110, Tryz.ntmps110
    go_wp2_with (first
      | (go_at_call 179; ((with_reducible refine (formatOf_32 _).mono ?_); rintro e w1 ⟨rfl, hb1⟩))
      | (go_at_call 180; ((with_reducible refine (known_32 _).mono ?_); rintro e w2 ⟨rfl, hb2⟩; have hS := (Sg.new 8 23 hb1).call hb2; obtain ⟨c0, c1⟩ := id hS.1)))
    go_cut [2, 3] (fun s2 s3 wx => s2 = .int .u64 a1 ∧ s3 = .int .u64 b1 ∧ Sg 8 23 w w1.heap.size wx)
    case first =>
      go_region_held3 (fun w' => w'.cell? ⟨w1.heap.size, 0, none⟩ = some (.int .i64 8) ∧ w'.cell? ⟨w1.heap.size, 1, none⟩ = some (.int .i64 23) ∧ Sg 8 23 w w1.heap.size w')
          (first
            | exact ⟨c0, c1, hS.drew⟩
            | (go_split_ands; exact ⟨bkeep ‹_› hb, bkeep ‹_› hb, Sg.call ‹_› hb⟩)
            | (go_split_ands; exact ⟨‹_›, ‹_›, ‹_›⟩))
        (first
          | (go_at_call 181; ((with_reducible refine (CA _).out.mono ?_); rintro e w' ⟨rfl, hb⟩))
          | (go_at_call 181; ((with_reducible refine (CB _).out.mono ?_); rintro e w' ⟨rfl, hb⟩)))
      all_goals
        (go_wp2_with fail)
        go_meet
        go_split_ands
        exact ⟨rfl, rfl, ‹_›⟩
    case rest =>
      clear hS c0 c1
      obtain ⟨rfl, rfl, hS⟩ := hcut
      obtain ⟨c0, c1⟩ := id hS.1
      go_wp2_with (go_at_call 186; ((with_reducible refine (HN _).out.mono ?_); rintro e w4 ⟨rfl, hb4⟩))
      go_ret2
      exact ⟨by first | rfl | rw [ho], bnext hS.2.2 hb4⟩
  · rw [if_neg hn]
    rw [show decide (2139095040 < a1 % 2147483648 ∨ 2139095040 < b1 % 2147483648) = false by simp [hn]] at HN
    clear hn hb
    go_enter Tryz.func110, Tryz.ntmps110
    go_wp2_with (first
      | (go_at_call 179; ((with_reducible refine (formatOf_32 _).mono ?_); rintro e w1 ⟨rfl, hb1⟩))
      | (go_at_call 180; ((with_reducible refine (known_32 _).mono ?_); rintro e w2 ⟨rfl, hb2⟩; have hS := (Sg.new 8 23 hb1).call hb2; obtain ⟨c0, c1⟩ := id hS.1)))
    go_cut [2, 3] (fun s2 s3 wx => s2 = .int .u64 a1 ∧ s3 = .int .u64 b1 ∧ Sg 8 23 w w1.heap.size wx)
    case first =>
      go_region_held3 (fun w' => w'.cell? ⟨w1.heap.size, 0, none⟩ = some (.int .i64 8) ∧ w'.cell? ⟨w1.heap.size, 1, none⟩ = some (.int .i64 23) ∧ Sg 8 23 w w1.heap.size w')
          (first
            | exact ⟨c0, c1, hS.drew⟩
            | (go_split_ands; exact ⟨bkeep ‹_› hb, bkeep ‹_› hb, Sg.call ‹_› hb⟩)
            | (go_split_ands; exact ⟨‹_›, ‹_›, ‹_›⟩))
        (first
          | (go_at_call 181; ((with_reducible refine (CA _).out.mono ?_); rintro e w' ⟨rfl, hb⟩))
          | (go_at_call 181; ((with_reducible refine (CB _).out.mono ?_); rintro e w' ⟨rfl, hb⟩)))
      all_goals
        (go_wp2_with fail)
        go_meet
        go_split_ands
        exact ⟨rfl, rfl, ‹_›⟩
    case rest =>
      clear hS c0 c1
      obtain ⟨rfl, rfl, hS⟩ := hcut
      obtain ⟨c0, c1⟩ := id hS.1
      go_upto_region 7 with (go_at_call 186; ((with_reducible refine (HN _).out.mono ?_); rintro e w4 ⟨rfl, hb4⟩; replace hS := hS.call hb4; have c0 := hS.1.1; have c1 := hS.1.2))
      go_cut [11, 12] (fun s2 s3 wx => s2 = .int .i64 x ∧ s3 = .int .i64 y ∧ Sg 8 23 w w1.heap.size wx)
      case first =>
        go_region_held3 (fun w' => w'.cell? ⟨w1.heap.size, 0, none⟩ = some (.int .i64 8) ∧ w'.cell? ⟨w1.heap.size, 1, none⟩ = some (.int .i64 23) ∧ Sg 8 23 w w1.heap.size w')
            (first
              | exact ⟨c0, c1, hS.drew⟩
              | (go_split_ands; exact ⟨bkeep ‹_› hb, bkeep ‹_› hb, Sg.call ‹_› hb⟩)
              | (go_split_ands; exact ⟨‹_›, ‹_›, ‹_›⟩))
          (first
            | (go_at_call 187; ((with_reducible refine (RA _).out.mono ?_); rintro e w' ⟨rfl, hb⟩))
            | (go_at_call 187; ((with_reducible refine (RB _).out.mono ?_); rintro e w' ⟨rfl, hb⟩)))
        all_goals
          (go_wp2_with fail)
          go_meet
          go_split_ands
          exact ⟨rfl, rfl, ‹_›⟩
      case rest =>
        clear hS c0 c1
        obtain ⟨rfl, rfl, hS⟩ := hcut
        have HS := hid hS
        clear hS o1 o2
        rcases hop with rfl | rfl | rfl | rfl | rfl | rfl
        all_goals
          go_wp2
          go_ret2
          exact ⟨by simp [relI], HS.out.2.2⟩

theorem Rel_32_bad (op : Int) (hop : op < 1 ∨ 6 < op) (a b : Nat) (w : World) :
    Calls Tryz.prog 110 #[.int .i64 32, .int .i64 op, .int .u64 a, .int .u64 b] w fun e w' => e = .returned (.tuple #[.bool false, .int .i64 1]) ∧ Below w.heap.size w w' := by
  rcases hop with h | h
  · have o1 : decide (op < 1) = true := by simp; omega
    clear h
    go_enter Tryz.func110, Tryz.ntmps110
    go_wp2_with (first
      | (go_at_call 179; ((with_reducible refine (formatOf_32 _).mono ?_); rintro e w1 ⟨rfl, hb1⟩))
      | (go_at_call 180; ((with_reducible refine (known_32 _).mono ?_); rintro e w2 ⟨rfl, hb2⟩; have hS := (Sg.new 8 23 hb1).call hb2; obtain ⟨c0, c1⟩ := id hS.1)))
    go_ret2
    exact ⟨rfl, hS.2.2⟩
  · have o1 : decide (op < 1) = false := by simp; omega
    have o2 : decide (6 < op) = true := by simp; omega
    clear h
    go_enter Tryz.func110, Tryz.ntmps110
    go_wp2_with (first
      | (go_at_call 179; ((with_reducible refine (formatOf_32 _).mono ?_); rintro e w1 ⟨rfl, hb1⟩))
      | (go_at_call 180; ((with_reducible refine (known_32 _).mono ?_); rintro e w2 ⟨rfl, hb2⟩; have hS := (Sg.new 8 23 hb1).call hb2; obtain ⟨c0, c1⟩ := id hS.1)))
    go_ret2
    exact ⟨rfl, hS.2.2⟩

theorem Parts_32_no (a : Nat) (ha : a < 18446744073709551616) (hf : 2139095040 ≤ a % 4294967296 % 2147483648) (w : World) :
    Calls Tryz.prog 250 #[.int .i64 32, .int .u64 a] w fun e w' => e = .returned (.tuple #[.bool false, .int .u64 0, .int .i64 0, .int .i64 1]) ∧ Below w.heap.size w w' := by
  have HC := fun w => hid (cut_32 a ha w)
  have HZ := fun w => hid (size_32 (a % 4294967296) (by omega) w)
  generalize a % 4294967296 = a1 at *
  obtain ⟨s, hs⟩ : ∃ s : Nat, s = a1 % 2147483648 := ⟨_, rfl⟩
  rw [← hs] at HZ hf
  have g1 : decide (2139095040 ≤ s) = true := by simp [hf]
  have g2 : decide ((2139095040 : Int) ≤ (s : Int)) = true := by simp; omega
  clear hs ha hf
  go_enter Tryz.func250, Tryz.ntmps250
  go_upto_region 5 with (first
    | (go_at_call 179; ((with_reducible refine (formatOf_32 _).mono ?_); rintro e w1 ⟨rfl, hb1⟩))
    | (go_at_call 180; ((with_reducible refine (known_32 _).mono ?_); rintro e w2 ⟨rfl, hb2⟩; have hS := (Sg.new 8 23 hb1).call hb2; obtain ⟨c0, c1⟩ := id hS.1))
    | (go_at_call 181; ((with_reducible refine (HC _).out.mono ?_); rintro e w3 ⟨rfl, hb3⟩; replace hS := hS.call hb3; clear c0 c1; obtain ⟨c0, c1⟩ := id hS.1)))
  go_cut [23] (fun s23 wx => s23 = .bool true ∧ Sg 8 23 w w1.heap.size wx)
  case first =>
    go_region_held3 (fun w' => w'.cell? ⟨w1.heap.size, 0, none⟩ = some (.int .i64 8) ∧ w'.cell? ⟨w1.heap.size, 1, none⟩ = some (.int .i64 23) ∧ Sg 8 23 w w1.heap.size w')
        (first
          | exact ⟨c0, c1, hS.drew⟩
          | (go_split_ands; exact ⟨bkeep ‹_› hb, bkeep ‹_› hb, Sg.call ‹_› hb⟩)
          | (go_split_ands; exact ⟨‹_›, ‹_›, ‹_›⟩))
      (first
        | (go_at_call 182; ((with_reducible refine (HZ _).out.mono ?_); rintro e w' ⟨rfl, hb⟩))
        | (go_at_call 268; ((with_reducible refine (infinity_32 _).mono ?_); rintro e w' ⟨rfl, hb⟩)))
    all_goals
      (go_wp2_with fail)
      go_meet
      go_split_ands
      exact ⟨by first | rfl | rw [g1] | rw [g2], ‹_›⟩
  case rest =>
    clear hS c0 c1
    obtain ⟨rfl, hS⟩ := hcut
    go_wp2
    exact bodyPost_ret (v := .tuple #[.bool false, .int .u64 0, .int .i64 0, .int .i64 1]) (by simp [results, Tryz.results250, go_sem]) rfl ⟨rfl, hS.2.2⟩

theorem Parts_32 (a : Nat) (ha : a < 18446744073709551616) (hf : a % 4294967296 % 2147483648 < 2139095040) (w : World) :
    Calls Tryz.prog 250 #[.int .i64 32, .int .u64 a] w fun e w' => e = .returned (.tuple #[.bool (decide (2147483648 ≤ a % 4294967296)), .int .u64 ((pm 23 (a % 4294967296 % 2147483648) : Nat) : Int), .int .i64 (pe 23 (-149) (a % 4294967296 % 2147483648)), .int .i64 0]) ∧ Below w.heap.size w w' := by
  have HC := fun w => hid (cut_32 a ha w)
  have HZ := fun w => hid (size_32 (a % 4294967296) (by omega) w)
  have HP := fun w => hid (parts_32 (a % 4294967296) (by omega) w)
  generalize a % 4294967296 = a1 at *
  obtain ⟨n1, hn1⟩ : ∃ n1 : Bool, n1 = decide (2147483648 ≤ a1) := ⟨_, rfl⟩
  obtain ⟨m1, hm1⟩ : ∃ m1 : Nat, m1 = pm 23 (a1 % 2147483648) := ⟨_, rfl⟩
  obtain ⟨e1, he1⟩ : ∃ e1 : Int, e1 = pe 23 (-149) (a1 % 2147483648) := ⟨_, rfl⟩
  rw [← hn1, ← hm1, ← he1] at HP ⊢
  obtain ⟨s, hs⟩ : ∃ s : Nat, s = a1 % 2147483648 := ⟨_, rfl⟩
  rw [← hs] at HZ hf
  have g1 : decide (2139095040 ≤ s) = false := by simp; omega
  have g2 : decide ((2139095040 : Int) ≤ (s : Int)) = false := by simp; omega
  clear hs ha hf hn1 hm1 he1
  go_enter Tryz.func250, Tryz.ntmps250
  go_upto_region 5 with (first
    | (go_at_call 179; ((with_reducible refine (formatOf_32 _).mono ?_); rintro e w1 ⟨rfl, hb1⟩))
    | (go_at_call 180; ((with_reducible refine (known_32 _).mono ?_); rintro e w2 ⟨rfl, hb2⟩; have hS := (Sg.new 8 23 hb1).call hb2; obtain ⟨c0, c1⟩ := id hS.1))
    | (go_at_call 181; ((with_reducible refine (HC _).out.mono ?_); rintro e w3 ⟨rfl, hb3⟩; replace hS := hS.call hb3; clear c0 c1; obtain ⟨c0, c1⟩ := id hS.1)))
  go_cut [23] (fun s23 wx => s23 = .bool false ∧ Sg 8 23 w w1.heap.size wx)
  case first =>
    go_region_held3 (fun w' => w'.cell? ⟨w1.heap.size, 0, none⟩ = some (.int .i64 8) ∧ w'.cell? ⟨w1.heap.size, 1, none⟩ = some (.int .i64 23) ∧ Sg 8 23 w w1.heap.size w')
        (first
          | exact ⟨c0, c1, hS.drew⟩
          | (go_split_ands; exact ⟨bkeep ‹_› hb, bkeep ‹_› hb, Sg.call ‹_› hb⟩)
          | (go_split_ands; exact ⟨‹_›, ‹_›, ‹_›⟩))
      (first
        | (go_at_call 182; ((with_reducible refine (HZ _).out.mono ?_); rintro e w' ⟨rfl, hb⟩))
        | (go_at_call 268; ((with_reducible refine (infinity_32 _).mono ?_); rintro e w' ⟨rfl, hb⟩)))
    all_goals
      (go_wp2_with fail)
      go_meet
      go_split_ands
      exact ⟨by first | rfl | rw [g1] | rw [g2], ‹_›⟩
  case rest =>
    clear hS c0 c1
    obtain ⟨rfl, hS⟩ := hcut
    obtain ⟨c0, c1⟩ := id hS.1
    go_upto_region 8 with (go_at_call 244; ((with_reducible refine (HP _).out.mono ?_); rintro e w4 ⟨rfl, hb4⟩; replace hS := hS.call hb4))
    obtain ⟨⟨x0, x1, x2⟩, -⟩ := Nb.new n1 m1 e1 w4
    have hB := (hS.alloc (.cells #[.bool n1, .int .u64 m1, .int .i64 e1] 193)).2.2
    go_quiet (fail)
    go_wp2
    exact bodyPost_ret (v := .tuple #[.bool n1, .int .u64 m1, .int .i64 e1, .int .i64 0]) (by simp [results, Tryz.results250, go_sem]) rfl ⟨rfl, below_drewN hB _⟩

theorem Kind_64 (a : Nat) (ha : a < 18446744073709551616) (w : World) : Calls Tryz.prog 204 #[.int .i64 64, .int .u64 a] w fun e w' => e = .returned (.int .i64 ((kindOf 9218868437227405312 (a % 18446744073709551616 % 9223372036854775808) : Nat) : Int)) ∧ Below w.heap.size w w' := by
  have HC := fun w => hid (cut_64 a ha w)
  have HK := fun w => hid (kind_64 (a % 18446744073709551616) (by omega) w)
  obtain ⟨k, hk⟩ : ∃ k : Nat, k = kindOf 9218868437227405312 (a % 18446744073709551616 % 9223372036854775808) := ⟨_, rfl⟩
  obtain ⟨c, hc⟩ : ∃ c : Nat, c = a % 18446744073709551616 := ⟨_, rfl⟩
  rw [← hk] at HK ⊢
  rw [← hc] at HK HC
  clear hk hc
  go_enter Tryz.func204, Tryz.ntmps204
  go_wp2_with (first
    | (go_at_call 179; ((with_reducible refine (formatOf_64 _).mono ?_); rintro e w1 ⟨rfl, hb1⟩))
    | (go_at_call 180; ((with_reducible refine (known_64 _).mono ?_); rintro e w2 ⟨rfl, hb2⟩; have hS := (Sg.new 11 52 hb1).call hb2; obtain ⟨c0, c1⟩ := id hS.1)))
  go_region_held3 (fun w' => w'.cell? ⟨w1.heap.size, 0, none⟩ = some (.int .i64 11) ∧ w'.cell? ⟨w1.heap.size, 1, none⟩ = some (.int .i64 52) ∧ Sg 11 52 w w1.heap.size w')
    (first
      | exact ⟨c0, c1, hS.drew⟩
      | (go_split_ands; exact ⟨bkeep ‹_› hb, bkeep ‹_› hb, Sg.call ‹_› hb⟩)
      | (go_split_ands; exact ⟨‹_›, ‹_›, ‹_›⟩))
    (first
      | (go_at_call 181; ((with_reducible refine (HC _).out.mono ?_); rintro e w' ⟨rfl, hb⟩))
      | (go_at_call 241; ((with_reducible refine (HK _).out.mono ?_); rintro e w' ⟨rfl, hb⟩)))
  all_goals
    go_wp2
    go_ret
    go_split_ands
    exact ⟨rfl, (‹Sg 11 52 w w1.heap.size _›).2.2⟩

theorem Canonical_64 (w : World) : Calls Tryz.prog 249 #[.int .i64 64] w fun e w' => e = .returned (.int .u64 9221120237041090560) ∧ Below w.heap.size w w' := by
  go_enter Tryz.func249, Tryz.ntmps249
  go_wp2_with (first
    | (go_at_call 179; ((with_reducible refine (formatOf_64 _).mono ?_); rintro e w1 ⟨rfl, hb1⟩))
    | (go_at_call 180; ((with_reducible refine (known_64 _).mono ?_); rintro e w2 ⟨rfl, hb2⟩; have hS := (Sg.new 11 52 hb1).call hb2; obtain ⟨c0, c1⟩ := id hS.1))
    | (go_at_call 242; ((with_reducible refine (canonical_64 _).mono ?_); rintro e w3 ⟨rfl, hb3⟩)))
  go_ret
  exact ⟨rfl, bnext hS.2.2 hb3⟩

theorem Round_64 (ng : Bool) (m : Nat) (hm : m < 18446744073709551616) (ex : Int) (he0 : -9223372036854775808 ≤ ex) (he1 : ex ≤ 9223372036854775807) (more : Bool) (w : World) :
    Calls Tryz.prog 239 #[.int .i64 64, .bool ng, .int .u64 m, .int .i64 ex, .bool more] w fun e w' => e = .returned (if more = true ∧ m < 288230376151711744 then .tuple #[.int .u64 0, .int .i64 1] else .tuple #[.int .u64 (((Ieee.double).word ng (rungR Ieee.double m ex more) : Nat) : Int), .int .i64 0]) ∧ Below w.heap.size w w' := by
  have HC := fun h w => hid (round_64 ng m hm ex he0 he1 more h w)
  obtain ⟨R, hR⟩ : ∃ R : Nat, R = (Ieee.double).word ng (rungR Ieee.double m ex more) := ⟨_, rfl⟩
  rw [← hR] at HC ⊢
  clear hR he0 he1
  cases more with
  | true =>
    by_cases hlo : m < 288230376151711744
    · rw [if_pos ⟨rfl, hlo⟩]
      have h1 : decide ((m : Int) < 288230376151711744) = true := by simp; omega
      clear HC hlo
      go_enter Tryz.func239, Tryz.ntmps239
      go_wp2_with (first
        | (go_at_call 179; ((with_reducible refine (formatOf_64 _).mono ?_); rintro e w1 ⟨rfl, hb1⟩))
        | (go_at_call 180; ((with_reducible refine (known_64 _).mono ?_); rintro e w2 ⟨rfl, hb2⟩; have hS := (Sg.new 11 52 hb1).call hb2; obtain ⟨c0, c1⟩ := id hS.1)))
      go_ret2
      exact ⟨rfl, hS.2.2⟩
    · rw [if_neg (fun h => hlo h.2)]
      have h1 : decide ((m : Int) < 288230376151711744) = false := by simp; omega
      have HC2 := HC (fun _ => by omega)
      clear HC hlo
      go_enter Tryz.func239, Tryz.ntmps239
      go_wp2_with (first
        | (go_at_call 179; ((with_reducible refine (formatOf_64 _).mono ?_); rintro e w1 ⟨rfl, hb1⟩))
        | (go_at_call 180; ((with_reducible refine (known_64 _).mono ?_); rintro e w2 ⟨rfl, hb2⟩; have hS := (Sg.new 11 52 hb1).call hb2; obtain ⟨c0, c1⟩ := id hS.1))
        | (go_at_call 245; ((with_reducible refine (HC2 _).out.mono ?_); rintro e w3 ⟨rfl, hb3⟩)))
      go_ret2
      exact ⟨rfl, bnext hS.2.2 hb3⟩
  | false =>
    rw [if_neg (fun h => by cases h.1)]
    have HC2 := HC (fun h => by cases h)
    clear HC
    go_enter Tryz.func239, Tryz.ntmps239
    go_wp2_with (first
      | (go_at_call 179; ((with_reducible refine (formatOf_64 _).mono ?_); rintro e w1 ⟨rfl, hb1⟩))
      | (go_at_call 180; ((with_reducible refine (known_64 _).mono ?_); rintro e w2 ⟨rfl, hb2⟩; have hS := (Sg.new 11 52 hb1).call hb2; obtain ⟨c0, c1⟩ := id hS.1))
      | (go_at_call 245; ((with_reducible refine (HC2 _).out.mono ?_); rintro e w3 ⟨rfl, hb3⟩)))
    go_ret2
    exact ⟨rfl, bnext hS.2.2 hb3⟩

set_option maxHeartbeats 1600000 in
theorem Rel_64 (op : Nat) (hop : op = 1 ∨ op = 2 ∨ op = 3 ∨ op = 4 ∨ op = 5 ∨ op = 6) (a b : Nat) (ha : a < 18446744073709551616) (hb : b < 18446744073709551616) (w : World) :
    Calls Tryz.prog 110 #[.int .i64 64, .int .i64 op, .int .u64 a, .int .u64 b] w fun e w' => e = .returned (.tuple #[.bool (relW 9223372036854775808 9218868437227405312 op (a % 18446744073709551616) (b % 18446744073709551616)), .int .i64 0]) ∧ Below w.heap.size w w' := by
  have CA := fun w => hid (cut_64 a ha w)
  have CB := fun w => hid (cut_64 b hb w)
  have HN := fun w => hid (anyNaN_64 (a % 18446744073709551616) (b % 18446744073709551616) (by omega) (by omega) w)
  have RA := fun w => hid (rank_64 (a % 18446744073709551616) (by omega) w)
  have RB := fun w => hid (rank_64 (b % 18446744073709551616) (by omega) w)
  have hrw : relW 9223372036854775808 9218868437227405312 op (a % 18446744073709551616) (b % 18446744073709551616) = if 9218868437227405312 < a % 18446744073709551616 % 9223372036854775808 ∨ 9218868437227405312 < b % 18446744073709551616 % 9223372036854775808 then op == 2 else relI op (rankOf 9223372036854775808 (a % 18446744073709551616)) (rankOf 9223372036854775808 (b % 18446744073709551616)) := rfl
  rw [hrw]
  clear hrw
  generalize a % 18446744073709551616 = a1 at *
  generalize b % 18446744073709551616 = b1 at *
  generalize rankOf 9223372036854775808 a1 = x at *
  generalize rankOf 9223372036854775808 b1 = y at *
  have o1 : decide ((op : Int) < 1) = false := by simp; omega
  have o2 : decide ((6 : Int) < (op : Int)) = false := by simp; omega
  clear ha
  by_cases hn : 9218868437227405312 < a1 % 9223372036854775808 ∨ 9218868437227405312 < b1 % 9223372036854775808
  · rw [if_pos hn]
    rw [show decide (9218868437227405312 < a1 % 9223372036854775808 ∨ 9218868437227405312 < b1 % 9223372036854775808) = true by simp [hn]] at HN
    have ho : ((op : Int) == 2) = (op == 2) := Bool.eq_iff_iff.2 (by rw [beq_iff_eq, beq_iff_eq]; omega)
    clear hn hop RA RB hb
    go_enter Tryz.func110, Tryz.ntmps110
    go_wp2_with (first
      | (go_at_call 179; ((with_reducible refine (formatOf_64 _).mono ?_); rintro e w1 ⟨rfl, hb1⟩))
      | (go_at_call 180; ((with_reducible refine (known_64 _).mono ?_); rintro e w2 ⟨rfl, hb2⟩; have hS := (Sg.new 11 52 hb1).call hb2; obtain ⟨c0, c1⟩ := id hS.1)))
    go_cut [2, 3] (fun s2 s3 wx => s2 = .int .u64 a1 ∧ s3 = .int .u64 b1 ∧ Sg 11 52 w w1.heap.size wx)
    case first =>
      go_region_held3 (fun w' => w'.cell? ⟨w1.heap.size, 0, none⟩ = some (.int .i64 11) ∧ w'.cell? ⟨w1.heap.size, 1, none⟩ = some (.int .i64 52) ∧ Sg 11 52 w w1.heap.size w')
          (first
            | exact ⟨c0, c1, hS.drew⟩
            | (go_split_ands; exact ⟨bkeep ‹_› hb, bkeep ‹_› hb, Sg.call ‹_› hb⟩)
            | (go_split_ands; exact ⟨‹_›, ‹_›, ‹_›⟩))
        (first
          | (go_at_call 181; ((with_reducible refine (CA _).out.mono ?_); rintro e w' ⟨rfl, hb⟩))
          | (go_at_call 181; ((with_reducible refine (CB _).out.mono ?_); rintro e w' ⟨rfl, hb⟩)))
      all_goals
        (go_wp2_with fail)
        go_meet
        go_split_ands
        exact ⟨rfl, rfl, ‹_›⟩
    case rest =>
      clear hS c0 c1
      obtain ⟨rfl, rfl, hS⟩ := hcut
      obtain ⟨c0, c1⟩ := id hS.1
      go_wp2_with (go_at_call 186; ((with_reducible refine (HN _).out.mono ?_); rintro e w4 ⟨rfl, hb4⟩))
      go_ret2
      exact ⟨by first | rfl | rw [ho], bnext hS.2.2 hb4⟩
  · rw [if_neg hn]
    rw [show decide (9218868437227405312 < a1 % 9223372036854775808 ∨ 9218868437227405312 < b1 % 9223372036854775808) = false by simp [hn]] at HN
    clear hn hb
    go_enter Tryz.func110, Tryz.ntmps110
    go_wp2_with (first
      | (go_at_call 179; ((with_reducible refine (formatOf_64 _).mono ?_); rintro e w1 ⟨rfl, hb1⟩))
      | (go_at_call 180; ((with_reducible refine (known_64 _).mono ?_); rintro e w2 ⟨rfl, hb2⟩; have hS := (Sg.new 11 52 hb1).call hb2; obtain ⟨c0, c1⟩ := id hS.1)))
    go_cut [2, 3] (fun s2 s3 wx => s2 = .int .u64 a1 ∧ s3 = .int .u64 b1 ∧ Sg 11 52 w w1.heap.size wx)
    case first =>
      go_region_held3 (fun w' => w'.cell? ⟨w1.heap.size, 0, none⟩ = some (.int .i64 11) ∧ w'.cell? ⟨w1.heap.size, 1, none⟩ = some (.int .i64 52) ∧ Sg 11 52 w w1.heap.size w')
          (first
            | exact ⟨c0, c1, hS.drew⟩
            | (go_split_ands; exact ⟨bkeep ‹_› hb, bkeep ‹_› hb, Sg.call ‹_› hb⟩)
            | (go_split_ands; exact ⟨‹_›, ‹_›, ‹_›⟩))
        (first
          | (go_at_call 181; ((with_reducible refine (CA _).out.mono ?_); rintro e w' ⟨rfl, hb⟩))
          | (go_at_call 181; ((with_reducible refine (CB _).out.mono ?_); rintro e w' ⟨rfl, hb⟩)))
      all_goals
        (go_wp2_with fail)
        go_meet
        go_split_ands
        exact ⟨rfl, rfl, ‹_›⟩
    case rest =>
      clear hS c0 c1
      obtain ⟨rfl, rfl, hS⟩ := hcut
      obtain ⟨c0, c1⟩ := id hS.1
      go_upto_region 7 with (go_at_call 186; ((with_reducible refine (HN _).out.mono ?_); rintro e w4 ⟨rfl, hb4⟩; replace hS := hS.call hb4; have c0 := hS.1.1; have c1 := hS.1.2))
      go_cut [11, 12] (fun s2 s3 wx => s2 = .int .i64 x ∧ s3 = .int .i64 y ∧ Sg 11 52 w w1.heap.size wx)
      case first =>
        go_region_held3 (fun w' => w'.cell? ⟨w1.heap.size, 0, none⟩ = some (.int .i64 11) ∧ w'.cell? ⟨w1.heap.size, 1, none⟩ = some (.int .i64 52) ∧ Sg 11 52 w w1.heap.size w')
            (first
              | exact ⟨c0, c1, hS.drew⟩
              | (go_split_ands; exact ⟨bkeep ‹_› hb, bkeep ‹_› hb, Sg.call ‹_› hb⟩)
              | (go_split_ands; exact ⟨‹_›, ‹_›, ‹_›⟩))
          (first
            | (go_at_call 187; ((with_reducible refine (RA _).out.mono ?_); rintro e w' ⟨rfl, hb⟩))
            | (go_at_call 187; ((with_reducible refine (RB _).out.mono ?_); rintro e w' ⟨rfl, hb⟩)))
        all_goals
          (go_wp2_with fail)
          go_meet
          go_split_ands
          exact ⟨rfl, rfl, ‹_›⟩
      case rest =>
        clear hS c0 c1
        obtain ⟨rfl, rfl, hS⟩ := hcut
        have HS := hid hS
        clear hS o1 o2
        rcases hop with rfl | rfl | rfl | rfl | rfl | rfl
        all_goals
          go_wp2
          go_ret2
          exact ⟨by simp [relI], HS.out.2.2⟩

theorem Rel_64_bad (op : Int) (hop : op < 1 ∨ 6 < op) (a b : Nat) (w : World) :
    Calls Tryz.prog 110 #[.int .i64 64, .int .i64 op, .int .u64 a, .int .u64 b] w fun e w' => e = .returned (.tuple #[.bool false, .int .i64 1]) ∧ Below w.heap.size w w' := by
  rcases hop with h | h
  · have o1 : decide (op < 1) = true := by simp; omega
    clear h
    go_enter Tryz.func110, Tryz.ntmps110
    go_wp2_with (first
      | (go_at_call 179; ((with_reducible refine (formatOf_64 _).mono ?_); rintro e w1 ⟨rfl, hb1⟩))
      | (go_at_call 180; ((with_reducible refine (known_64 _).mono ?_); rintro e w2 ⟨rfl, hb2⟩; have hS := (Sg.new 11 52 hb1).call hb2; obtain ⟨c0, c1⟩ := id hS.1)))
    go_ret2
    exact ⟨rfl, hS.2.2⟩
  · have o1 : decide (op < 1) = false := by simp; omega
    have o2 : decide (6 < op) = true := by simp; omega
    clear h
    go_enter Tryz.func110, Tryz.ntmps110
    go_wp2_with (first
      | (go_at_call 179; ((with_reducible refine (formatOf_64 _).mono ?_); rintro e w1 ⟨rfl, hb1⟩))
      | (go_at_call 180; ((with_reducible refine (known_64 _).mono ?_); rintro e w2 ⟨rfl, hb2⟩; have hS := (Sg.new 11 52 hb1).call hb2; obtain ⟨c0, c1⟩ := id hS.1)))
    go_ret2
    exact ⟨rfl, hS.2.2⟩

theorem Parts_64_no (a : Nat) (ha : a < 18446744073709551616) (hf : 9218868437227405312 ≤ a % 18446744073709551616 % 9223372036854775808) (w : World) :
    Calls Tryz.prog 250 #[.int .i64 64, .int .u64 a] w fun e w' => e = .returned (.tuple #[.bool false, .int .u64 0, .int .i64 0, .int .i64 1]) ∧ Below w.heap.size w w' := by
  have HC := fun w => hid (cut_64 a ha w)
  have HZ := fun w => hid (size_64 (a % 18446744073709551616) (by omega) w)
  generalize a % 18446744073709551616 = a1 at *
  obtain ⟨s, hs⟩ : ∃ s : Nat, s = a1 % 9223372036854775808 := ⟨_, rfl⟩
  rw [← hs] at HZ hf
  have g1 : decide (9218868437227405312 ≤ s) = true := by simp [hf]
  have g2 : decide ((9218868437227405312 : Int) ≤ (s : Int)) = true := by simp; omega
  clear hs ha hf
  go_enter Tryz.func250, Tryz.ntmps250
  go_upto_region 5 with (first
    | (go_at_call 179; ((with_reducible refine (formatOf_64 _).mono ?_); rintro e w1 ⟨rfl, hb1⟩))
    | (go_at_call 180; ((with_reducible refine (known_64 _).mono ?_); rintro e w2 ⟨rfl, hb2⟩; have hS := (Sg.new 11 52 hb1).call hb2; obtain ⟨c0, c1⟩ := id hS.1))
    | (go_at_call 181; ((with_reducible refine (HC _).out.mono ?_); rintro e w3 ⟨rfl, hb3⟩; replace hS := hS.call hb3; clear c0 c1; obtain ⟨c0, c1⟩ := id hS.1)))
  go_cut [23] (fun s23 wx => s23 = .bool true ∧ Sg 11 52 w w1.heap.size wx)
  case first =>
    go_region_held3 (fun w' => w'.cell? ⟨w1.heap.size, 0, none⟩ = some (.int .i64 11) ∧ w'.cell? ⟨w1.heap.size, 1, none⟩ = some (.int .i64 52) ∧ Sg 11 52 w w1.heap.size w')
        (first
          | exact ⟨c0, c1, hS.drew⟩
          | (go_split_ands; exact ⟨bkeep ‹_› hb, bkeep ‹_› hb, Sg.call ‹_› hb⟩)
          | (go_split_ands; exact ⟨‹_›, ‹_›, ‹_›⟩))
      (first
        | (go_at_call 182; ((with_reducible refine (HZ _).out.mono ?_); rintro e w' ⟨rfl, hb⟩))
        | (go_at_call 268; ((with_reducible refine (infinity_64 _).mono ?_); rintro e w' ⟨rfl, hb⟩)))
    all_goals
      (go_wp2_with fail)
      go_meet
      go_split_ands
      exact ⟨by first | rfl | rw [g1] | rw [g2], ‹_›⟩
  case rest =>
    clear hS c0 c1
    obtain ⟨rfl, hS⟩ := hcut
    go_wp2
    exact bodyPost_ret (v := .tuple #[.bool false, .int .u64 0, .int .i64 0, .int .i64 1]) (by simp [results, Tryz.results250, go_sem]) rfl ⟨rfl, hS.2.2⟩

theorem Parts_64 (a : Nat) (ha : a < 18446744073709551616) (hf : a % 18446744073709551616 % 9223372036854775808 < 9218868437227405312) (w : World) :
    Calls Tryz.prog 250 #[.int .i64 64, .int .u64 a] w fun e w' => e = .returned (.tuple #[.bool (decide (9223372036854775808 ≤ a % 18446744073709551616)), .int .u64 ((pm 52 (a % 18446744073709551616 % 9223372036854775808) : Nat) : Int), .int .i64 (pe 52 (-1074) (a % 18446744073709551616 % 9223372036854775808)), .int .i64 0]) ∧ Below w.heap.size w w' := by
  have HC := fun w => hid (cut_64 a ha w)
  have HZ := fun w => hid (size_64 (a % 18446744073709551616) (by omega) w)
  have HP := fun w => hid (parts_64 (a % 18446744073709551616) (by omega) w)
  generalize a % 18446744073709551616 = a1 at *
  obtain ⟨n1, hn1⟩ : ∃ n1 : Bool, n1 = decide (9223372036854775808 ≤ a1) := ⟨_, rfl⟩
  obtain ⟨m1, hm1⟩ : ∃ m1 : Nat, m1 = pm 52 (a1 % 9223372036854775808) := ⟨_, rfl⟩
  obtain ⟨e1, he1⟩ : ∃ e1 : Int, e1 = pe 52 (-1074) (a1 % 9223372036854775808) := ⟨_, rfl⟩
  rw [← hn1, ← hm1, ← he1] at HP ⊢
  obtain ⟨s, hs⟩ : ∃ s : Nat, s = a1 % 9223372036854775808 := ⟨_, rfl⟩
  rw [← hs] at HZ hf
  have g1 : decide (9218868437227405312 ≤ s) = false := by simp; omega
  have g2 : decide ((9218868437227405312 : Int) ≤ (s : Int)) = false := by simp; omega
  clear hs ha hf hn1 hm1 he1
  go_enter Tryz.func250, Tryz.ntmps250
  go_upto_region 5 with (first
    | (go_at_call 179; ((with_reducible refine (formatOf_64 _).mono ?_); rintro e w1 ⟨rfl, hb1⟩))
    | (go_at_call 180; ((with_reducible refine (known_64 _).mono ?_); rintro e w2 ⟨rfl, hb2⟩; have hS := (Sg.new 11 52 hb1).call hb2; obtain ⟨c0, c1⟩ := id hS.1))
    | (go_at_call 181; ((with_reducible refine (HC _).out.mono ?_); rintro e w3 ⟨rfl, hb3⟩; replace hS := hS.call hb3; clear c0 c1; obtain ⟨c0, c1⟩ := id hS.1)))
  go_cut [23] (fun s23 wx => s23 = .bool false ∧ Sg 11 52 w w1.heap.size wx)
  case first =>
    go_region_held3 (fun w' => w'.cell? ⟨w1.heap.size, 0, none⟩ = some (.int .i64 11) ∧ w'.cell? ⟨w1.heap.size, 1, none⟩ = some (.int .i64 52) ∧ Sg 11 52 w w1.heap.size w')
        (first
          | exact ⟨c0, c1, hS.drew⟩
          | (go_split_ands; exact ⟨bkeep ‹_› hb, bkeep ‹_› hb, Sg.call ‹_› hb⟩)
          | (go_split_ands; exact ⟨‹_›, ‹_›, ‹_›⟩))
      (first
        | (go_at_call 182; ((with_reducible refine (HZ _).out.mono ?_); rintro e w' ⟨rfl, hb⟩))
        | (go_at_call 268; ((with_reducible refine (infinity_64 _).mono ?_); rintro e w' ⟨rfl, hb⟩)))
    all_goals
      (go_wp2_with fail)
      go_meet
      go_split_ands
      exact ⟨by first | rfl | rw [g1] | rw [g2], ‹_›⟩
  case rest =>
    clear hS c0 c1
    obtain ⟨rfl, hS⟩ := hcut
    obtain ⟨c0, c1⟩ := id hS.1
    go_upto_region 8 with (go_at_call 244; ((with_reducible refine (HP _).out.mono ?_); rintro e w4 ⟨rfl, hb4⟩; replace hS := hS.call hb4))
    obtain ⟨⟨x0, x1, x2⟩, -⟩ := Nb.new n1 m1 e1 w4
    have hB := (hS.alloc (.cells #[.bool n1, .int .u64 m1, .int .i64 e1] 193)).2.2
    go_quiet (fail)
    go_wp2
    exact bodyPost_ret (v := .tuple #[.bool n1, .int .u64 m1, .int .i64 e1, .int .i64 0]) (by simp [results, Tryz.results250, go_sem]) rfl ⟨rfl, below_drewN hB _⟩

end Go.Proofs.YtlhakbkdlgejpaaGreatDoor.Fl
namespace Go.Proofs.YtlhakbkdlgejpaaGreatDoor.Fl
open Ieee

theorem sum_comm (d e : Datum) : d.sum e = e.sum d := by
  cases d with
  | nan s t => cases e <;> rfl
  | infinity s =>
    cases e with
    | nan => rfl
    | number => rfl
    | infinity t =>
      simp only [Datum.sum]
      by_cases h : s = t
      · subst h; rfl
      · rw [if_neg h, if_neg (fun h2 => h h2.symm)]
  | number s m i =>
    cases e with
    | nan => rfl
    | infinity => rfl
    | number t n j =>
      simp only [Datum.sum]
      rw [Int.min_comm i j, Int.add_comm, Bool.and_comm]

/-- The program's sum of two numbers, the first one of no less size. -/
def sumN (f : Format) (room : Nat) (sx sy : Bool) (mx my : Nat) (ex : Int) (ap : Nat) : Nat :=
  let Y := my * 2 ^ room
  let more := decide (Y % 2 ^ ap ≠ 0)
  if sx = sy then f.word sx (rungR f (mx * 2 ^ room + Y / 2 ^ ap) (ex - room) more)
  else
    let M := mx * 2 ^ room - Y / 2 ^ ap - more.toNat
    f.word (if M = 0 then false else sx) (rungR f M (ex - room) more)

theorem signed_zero (s : Bool) (m : Nat) : signed s m 0 = if s then -(m : Int) else (m : Int) := by
  unfold signed; simp

theorem signed_shift (s : Bool) (m k : Nat) : signed s m k = if s then -((m * 2 ^ k : Nat) : Int) else ((m * 2 ^ k : Nat) : Int) := by
  unfold signed; rw [Nat.shiftLeft_eq]

theorem sum_ge {f : Format} (room : Nat) (hP : f.fractionBits ≤ 52) (hroom : room + f.fractionBits = 61) (sx sy : Bool) (mx my : Nat) (ex ey : Int) (ap : Nat)
    (hap : ey + ap = ex) (hge : my ≤ mx * 2 ^ ap) (hmy : my < 2 ^ (f.fractionBits + 1)) (hmx : ap ≠ 0 → 2 ^ f.fractionBits ≤ mx) :
    (Datum.sum (.number sx mx ex) (.number sy my ey)).map f.write = some (sumN f room sx sy mx my ex ap) := by
  have hpa : 0 < 2 ^ ap := Nat.two_pow_pos ap
  have hpr : 0 < 2 ^ room := Nat.two_pow_pos room
  have hbase : min ex ey = ey := by omega
  simp only [Datum.sum, hbase]
  rw [show (ex - ey).toNat = ap by omega, show (ey - ey).toNat = 0 by omega, signed_zero, signed_shift]
  obtain ⟨N, hN⟩ : ∃ N, N = mx * 2 ^ ap := ⟨_, rfl⟩
  obtain ⟨Y, hY⟩ : ∃ Y, Y = my * 2 ^ room := ⟨_, rfl⟩
  obtain ⟨X, hX⟩ : ∃ X, X = mx * 2 ^ room := ⟨_, rfl⟩
  have hNX : N * 2 ^ room = 2 ^ ap * X := by rw [hN, hX, Nat.mul_right_comm, Nat.mul_comm]
  have hYdm := Nat.div_add_mod Y (2 ^ ap)
  have hYml := Nat.mod_lt Y hpa
  have hsticky : Y % 2 ^ ap ≠ 0 → 2 ^ 61 ≤ X ∧ Y / 2 ^ ap < 2 ^ 52 := by
    intro h0
    have ha0 : ap ≠ 0 := by intro h; subst h; simp [Nat.mod_one] at h0
    have hgt : room < ap := by
      rcases Nat.lt_or_ge room ap with h | h
      · exact h
      · exfalso
        apply h0
        rw [hY, show room = (room - ap) + ap by omega, Nat.pow_add, ← Nat.mul_assoc, Nat.mul_mod_left]
    constructor
    · rw [hX, show 61 = f.fractionBits + room by omega, Nat.pow_add]; exact Nat.mul_le_mul_right _ (hmx ha0)
    · rw [Nat.div_lt_iff_lt_mul hpa, hY]
      calc my * 2 ^ room < 2 ^ (f.fractionBits + 1) * 2 ^ room := Nat.mul_lt_mul_of_pos_right hmy hpr
        _ = 2 ^ (f.fractionBits + 1 + room) := by rw [← Nat.pow_add]
        _ ≤ 2 ^ (52 + ap) := Nat.pow_le_pow_right (by decide) (by omega)
        _ = 2 ^ 52 * 2 ^ ap := Nat.pow_add ..
  have h53 : (2 : Nat) ^ (f.fractionBits + 1) ≤ 2 ^ 53 := Nat.pow_le_pow_right (by decide) (by omega)
  have c61 : (2 : Nat) ^ 61 = 2305843009213693952 := by decide
  have c53 : (2 : Nat) ^ 53 = 9007199254740992 := by decide
  have c52 : (2 : Nat) ^ 52 = 4503599627370496 := by decide
  have hup : rungR f (X + Y / 2 ^ ap) (ex - room) (decide (Y % 2 ^ ap ≠ 0)) = rungOf f (N + my) ey := by
    have hM : (N + my) * 2 ^ room = 2 ^ ap * X + Y := by rw [Nat.add_mul, hNX, hY]
    have hd : (N + my) * 2 ^ room / 2 ^ ap = X + Y / 2 ^ ap := by rw [hM, Nat.mul_add_div hpa]
    have hr : (N + my) * 2 ^ room % 2 ^ ap = Y % 2 ^ ap := by rw [hM, Nat.mul_add_mod]
    have := rungR_jam f ((N + my) * 2 ^ room) ap (ey - room) (by
      rw [hd, hr]; intro h0; have := hsticky h0; exact Nat.le_trans (show 2 ^ (f.fractionBits + 1) ≤ X by omega) (Nat.le_add_right _ _))
    rw [hd, hr, rungOf_scale, show ey - (room : Int) + ap = ex - room by omega] at this
    exact this
  have hdn : rungR f (X - Y / 2 ^ ap - (decide (Y % 2 ^ ap ≠ 0)).toNat) (ex - room) (decide (Y % 2 ^ ap ≠ 0)) = rungOf f (N - my) ey ∧
      (X - Y / 2 ^ ap - (decide (Y % 2 ^ ap ≠ 0)).toNat = 0 ↔ N - my = 0) := by
    have hM : (N - my) * 2 ^ room = 2 ^ ap * X - Y := by rw [Nat.sub_mul, hNX, hY]
    have hle : Y ≤ 2 ^ ap * X := by rw [hY, ← hNX]; exact Nat.mul_le_mul_right _ (by omega)
    by_cases h0 : Y % 2 ^ ap = 0
    · have e1 : Y = 2 ^ ap * (Y / 2 ^ ap) := by omega
      have hMe : (N - my) * 2 ^ room = 2 ^ ap * (X - Y / 2 ^ ap) := by rw [hM, Nat.mul_sub]; omega
      have hd : (N - my) * 2 ^ room / 2 ^ ap = X - Y / 2 ^ ap := by rw [hMe, Nat.mul_div_cancel_left _ hpa]
      have hr : (N - my) * 2 ^ room % 2 ^ ap = 0 := by rw [hMe, Nat.mul_mod_right]
      have := rungR_jam f ((N - my) * 2 ^ room) ap (ey - room) (by rw [hr]; intro h; exact absurd rfl h)
      rw [hd, hr, rungOf_scale, show ey - (room : Int) + ap = ex - room by omega] at this
      simp only [h0, ne_eq, not_true_eq_false, decide_false, Bool.toNat_false, Nat.sub_zero] at this ⊢
      refine ⟨this, ?_⟩
      constructor
      · intro hz
        rw [hz, Nat.mul_zero] at hMe
        rcases Nat.mul_eq_zero.1 hMe with h | h
        · exact h
        · omega
      · intro hz
        rw [hz, Nat.zero_mul] at hMe
        rcases Nat.mul_eq_zero.1 hMe.symm with h | h
        · omega
        · exact h
    · have hs := hsticky h0
      have hMe : (N - my) * 2 ^ room = 2 ^ ap * (X - Y / 2 ^ ap - 1) + (2 ^ ap - Y % 2 ^ ap) := by
        rw [hM, Nat.mul_sub, Nat.mul_sub, Nat.mul_one]
        have : 2 ^ ap * (Y / 2 ^ ap + 1) ≤ 2 ^ ap * X := Nat.mul_le_mul_left _ (by omega)
        rw [Nat.mul_add, Nat.mul_one] at this
        omega
      have hd : (N - my) * 2 ^ room / 2 ^ ap = X - Y / 2 ^ ap - 1 := by
        rw [hMe, Nat.mul_add_div hpa, Nat.div_eq_of_lt (show 2 ^ ap - Y % 2 ^ ap < 2 ^ ap by omega)]; omega
      have hr : (N - my) * 2 ^ room % 2 ^ ap = 2 ^ ap - Y % 2 ^ ap := by
        rw [hMe, Nat.mul_add_mod, Nat.mod_eq_of_lt (by omega)]
      have := rungR_jam f ((N - my) * 2 ^ room) ap (ey - room) (by rw [hd]; intro _; omega)
      rw [hd, hr, rungOf_scale, show ey - (room : Int) + ap = ex - room by omega] at this
      have hb : decide (2 ^ ap - Y % 2 ^ ap ≠ 0) = true := by simp; omega
      have hb2 : decide (Y % 2 ^ ap ≠ 0) = true := by simp [h0]
      rw [hb] at this
      rw [hb2]
      refine ⟨this, ?_⟩
      constructor
      · intro hz; simp at hz; omega
      · intro hz
        rw [hz, Nat.zero_mul] at hMe
        omega
  unfold sumN
  simp only [← hX, ← hY]
  rw [← hN] at hge ⊢
  simp only [Option.map_some, Option.some.injEq, Format.write]
  rw [nearest_eq]
  cases sx <;> cases sy
  · simp only [Bool.false_eq_true, if_false, if_true]
    rw [hup, show ((N : Int) + (my : Int)).natAbs = N + my by omega]
    congr 1
    by_cases h : (N : Int) + my = 0
    · rw [if_pos h]; rfl
    · rw [if_neg h]; simp; omega
  · simp only [Bool.false_eq_true, if_false, if_true]
    rw [hdn.1, show ((N : Int) + -(my : Int)).natAbs = N - my by omega]
    congr 1
    by_cases h : (N : Int) + -(my : Int) = 0
    · rw [if_pos h]; simp
    · rw [if_neg h]; simp; omega
  · simp only [Bool.true_eq_false, if_false, if_true, Bool.false_eq_true]
    rw [hdn.1, show (-(N : Int) + (my : Int)).natAbs = N - my by omega]
    congr 1
    by_cases h : -(N : Int) + (my : Int) = 0
    · rw [if_pos h, if_pos (hdn.2.2 (by omega))]; rfl
    · have h3 : ¬ N - my = 0 := by omega
      rw [if_neg h, if_neg (fun h2 => h3 (hdn.2.1 h2))]; simp; omega
  · simp only [if_true]
    rw [hup, show (-(N : Int) + -(my : Int)).natAbs = N + my by omega]
    congr 1
    by_cases h : -(N : Int) + -(my : Int) = 0
    · rw [if_pos h]; rfl
    · rw [if_neg h]; simp; omega

end Go.Proofs.YtlhakbkdlgejpaaGreatDoor.Fl
