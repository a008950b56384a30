/-
  Instructions of floats: how two stand: both sides come to the same. Condition: the instruction is as its Boolean asks.
-/
import Derived.Test.YtlhakbkdlgejpaaGreatDoorB10
import Derived.Test.YtlhakbkdlgejpaaGreatDoorI10
import Derived.Test.YtlhakbkdlgejpaaGreatDoorF06
import Derived.Test.YtlhakbkdlgejpaaGreatDoorF08
set_option linter.unusedSimpArgs false
set_option linter.unusedVariables false
set_option maxRecDepth 100000
namespace Go.Proofs.YtlhakbkdlgejpaaGreatDoor.Sc
open Go.RowKit

theorem pR32 (q : Int) (h1 : 1 ≤ q) (h2 : q ≤ 6) (x y : Nat) (hx : x < 18446744073709551616) (hy : y < 18446744073709551616) : Ans 110 #[.int .i64 32, .int .i64 q, .int .u64 x, .int .u64 y] (.tuple #[.bool (Fl.relW 2147483648 2139095040 q.toNat (x % 4294967296) (y % 4294967296)), .int .i64 0]) := fun W => by
  obtain ⟨k, rfl⟩ : ∃ k : Nat, q = k := ⟨q.toNat, by omega⟩
  rw [Int.toNat_natCast]
  exact Fl.Rel_32 k (by omega) x y hx hy W
theorem rR32 (q : Int) (h1 : 1 ≤ q) (h2 : q ≤ 6) (x y : Nat) (hx : x < 18446744073709551616) (hy : y < 18446744073709551616) : Ans 146 #[.int .i64 32, .int .i64 q, .int .u64 x, .int .u64 y] (.tuple #[.bool (Fl.relW 2147483648 2139095040 q.toNat (x % 4294967296) (y % 4294967296)), .int .i64 0]) := fun W => by
  obtain ⟨k, rfl⟩ : ∃ k : Nat, q = k := ⟨q.toNat, by omega⟩
  rw [Int.toNat_natCast]
  exact Fl.RRel_32 k (by omega) x y hx hy W
noncomputable def fR32B (op q : Int) : Bool := rowB op [125, 125] 127 && (((nm7 op).take 1 == [102]) == true) && ((nm7 op).drop 4 == [101, 113, 122]) == false && decide (((nm7 op).drop 4).length ≤ 6) && (plL FREL ((nm7 op).drop 4) 0 == q) && decide (1 ≤ q)
theorem fR32_good (op q : Int) (hq : q = op - 90) (h1 : 91 ≤ op) (h2 : op < 97) (h : fR32B op q = true) (a b : Nat) (ha : a < 18446744073709551616) (hb : b < 18446744073709551616) : Good op a b := by
  unfold fR32B at h
  simp only [Bool.and_eq_true, decide_eq_true_eq, beq_iff_eq] at h
  obtain ⟨⟨⟨⟨⟨hrow, hk⟩, h0⟩, hl⟩, hp0⟩, hk1⟩ := h
  have ha' := cutT_lt 125 a ha
  have hb' : (cutT 125 b) < 18446744073709551616 := by exact cutT_lt 125 b hb
  refine good_of op [125, 125] 127 hrow a b (if (Fl.relW 2147483648 2139095040 q.toNat ((cutT 125 a) % 4294967296) ((cutT 125 b) % 4294967296)) then 1 else 0) 0 ?_ ?_
  · show AnsG 50 #[.int .i64 op, .int .u64 (((cutT 125 a) : Nat) : Int), .int .u64 (((cutT 125 b) : Nat) : Int)] _
    exact Ans.g (res_cmp op (by omega) (by omega) _ _ _ _ (cmp_f32 op q hq (by omega) (by omega) _ _ _ _ (pR32 q (by omega) (by omega) _ _ ha' hb')))
  · show Ans 91 #[.string (str ((nm7 op).take 1)), .int .i64 ((32 : Nat) : Int), .int .i64 127, .string (str ((nm7 op).drop 4)), .int .u64 (((cutT 125 a) : Nat) : Int), .int .u64 (((cutT 125 b) : Nat) : Int)] _
    exact worked_fR _ _ (beq_iff_eq.2 hk) h0 hl q hp0 (by omega) _ _ _ _ _ _ (rR32 q (by omega) (by omega) _ _ ha' hb')
theorem pR64 (q : Int) (h1 : 1 ≤ q) (h2 : q ≤ 6) (x y : Nat) (hx : x < 18446744073709551616) (hy : y < 18446744073709551616) : Ans 110 #[.int .i64 64, .int .i64 q, .int .u64 x, .int .u64 y] (.tuple #[.bool (Fl.relW 9223372036854775808 9218868437227405312 q.toNat (x % 18446744073709551616) (y % 18446744073709551616)), .int .i64 0]) := fun W => by
  obtain ⟨k, rfl⟩ : ∃ k : Nat, q = k := ⟨q.toNat, by omega⟩
  rw [Int.toNat_natCast]
  exact Fl.Rel_64 k (by omega) x y hx hy W
theorem rR64 (q : Int) (h1 : 1 ≤ q) (h2 : q ≤ 6) (x y : Nat) (hx : x < 18446744073709551616) (hy : y < 18446744073709551616) : Ans 146 #[.int .i64 64, .int .i64 q, .int .u64 x, .int .u64 y] (.tuple #[.bool (Fl.relW 9223372036854775808 9218868437227405312 q.toNat (x % 18446744073709551616) (y % 18446744073709551616)), .int .i64 0]) := fun W => by
  obtain ⟨k, rfl⟩ : ∃ k : Nat, q = k := ⟨q.toNat, by omega⟩
  rw [Int.toNat_natCast]
  exact Fl.RRel_64 k (by omega) x y hx hy W
noncomputable def fR64B (op q : Int) : Bool := rowB op [124, 124] 127 && (((nm7 op).take 1 == [102]) == true) && ((nm7 op).drop 4 == [101, 113, 122]) == false && decide (((nm7 op).drop 4).length ≤ 6) && (plL FREL ((nm7 op).drop 4) 0 == q) && decide (1 ≤ q)
theorem fR64_good (op q : Int) (hq : q = op - 96) (h1 : 97 ≤ op) (h2 : op < 103) (h : fR64B op q = true) (a b : Nat) (ha : a < 18446744073709551616) (hb : b < 18446744073709551616) : Good op a b := by
  unfold fR64B at h
  simp only [Bool.and_eq_true, decide_eq_true_eq, beq_iff_eq] at h
  obtain ⟨⟨⟨⟨⟨hrow, hk⟩, h0⟩, hl⟩, hp0⟩, hk1⟩ := h
  have ha' := cutT_lt 124 a ha
  have hb' : (cutT 124 b) < 18446744073709551616 := by exact cutT_lt 124 b hb
  refine good_of op [124, 124] 127 hrow a b (if (Fl.relW 9223372036854775808 9218868437227405312 q.toNat ((cutT 124 a) % 18446744073709551616) ((cutT 124 b) % 18446744073709551616)) then 1 else 0) 0 ?_ ?_
  · show AnsG 50 #[.int .i64 op, .int .u64 (((cutT 124 a) : Nat) : Int), .int .u64 (((cutT 124 b) : Nat) : Int)] _
    exact Ans.g (res_cmp op (by omega) (by omega) _ _ _ _ (cmp_f64 op q hq (by omega) (by omega) _ _ _ _ (pR64 q (by omega) (by omega) _ _ ha' hb')))
  · show Ans 91 #[.string (str ((nm7 op).take 1)), .int .i64 ((64 : Nat) : Int), .int .i64 127, .string (str ((nm7 op).drop 4)), .int .u64 (((cutT 124 a) : Nat) : Int), .int .u64 (((cutT 124 b) : Nat) : Int)] _
    exact worked_fR _ _ (beq_iff_eq.2 hk) h0 hl q hp0 (by omega) _ _ _ _ _ _ (rR64 q (by omega) (by omega) _ _ ha' hb')
theorem ez32_eq (x : Nat) (hx : x < 2 ^ 32) : relA 32 1 x 0 = (decide (x = 0), 0) := by
  have h : relA 32 1 x 0 = (decide (x % 2 ^ 32 = 0 % 2 ^ 32), 0) := rfl
  rw [h, Nat.mod_eq_of_lt hx, Nat.zero_mod]
theorem ez32_row : (rowB 69 [127] 127 && ((nm7 69).drop 4 == [101, 113, 122])) = true := by kernel_rfl
theorem ez32_good (a b : Nat) (ha : a < 18446744073709551616) (hb : b < 18446744073709551616) : Good 69 a b := by
  have h := ez32_row
  simp only [Bool.and_eq_true, beq_iff_eq] at h
  obtain ⟨hrow, hv⟩ := h
  have ha' := cutT_lt 127 a ha
  have h2 : cutT 127 a < 2 ^ 32 := by exact Nat.mod_lt _ (by decide)
  have he := ez32_eq (cutT 127 a) h2
  refine good_of 69 [127] 127 hrow a b (if cutT 127 a = 0 then 1 else 0) 0 ?_ ?_
  · show AnsG 50 #[.int .i64 69, .int .u64 (((cutT 127 a) : Nat) : Int), .int .u64 ((0 : Nat) : Int)] _
    have HC : Ans 107 #[.int .i64 32, .int .i64 1, .int .u64 (cutT 127 a : Nat), .int .u64 0] (.tuple #[.bool (decide (cutT 127 a = 0)), .int .i64 0]) := by
      have := ans_eq fun W => Rel_any 32 1 (cutT 127 a) 0 ha' (by decide) W
      rw [he] at this
      exact this
    have e1 : (if decide (cutT 127 a = 0) = true then 1 else 0 : Nat) = (if cutT 127 a = 0 then 1 else 0 : Nat) := by simp
    have hres := res_cmp 69 (by decide) (by decide) (cutT 127 a) 0 _ _ (cmp_ez32 69 (by decide) (by decide) (cutT 127 a) 0 _ _ HC)
    rw [e1] at hres
    exact Ans.g hres
  · show Ans 91 #[.string (str ((nm7 69).take 1)), .int .i64 ((32 : Nat) : Int), .int .i64 127, .string (str ((nm7 69).drop 4)), .int .u64 (((cutT 127 a) : Nat) : Int), .int .u64 ((0 : Nat) : Int)] _
    rw [hv]
    exact worked_ez _ _ _ _ _
theorem ez64_eq (x : Nat) (hx : x < 2 ^ 64) : relA 64 1 x 0 = (decide (x = 0), 0) := by
  have h : relA 64 1 x 0 = (decide (x % 2 ^ 64 = 0 % 2 ^ 64), 0) := rfl
  rw [h, Nat.mod_eq_of_lt hx, Nat.zero_mod]
theorem ez64_row : (rowB 80 [126] 127 && ((nm7 80).drop 4 == [101, 113, 122])) = true := by kernel_rfl
theorem ez64_good (a b : Nat) (ha : a < 18446744073709551616) (hb : b < 18446744073709551616) : Good 80 a b := by
  have h := ez64_row
  simp only [Bool.and_eq_true, beq_iff_eq] at h
  obtain ⟨hrow, hv⟩ := h
  have ha' := cutT_lt 126 a ha
  have h2 : cutT 126 a < 2 ^ 64 := by exact ha'
  have he := ez64_eq (cutT 126 a) h2
  refine good_of 80 [126] 127 hrow a b (if cutT 126 a = 0 then 1 else 0) 0 ?_ ?_
  · show AnsG 50 #[.int .i64 80, .int .u64 (((cutT 126 a) : Nat) : Int), .int .u64 ((0 : Nat) : Int)] _
    have HC : Ans 107 #[.int .i64 64, .int .i64 1, .int .u64 (cutT 126 a : Nat), .int .u64 0] (.tuple #[.bool (decide (cutT 126 a = 0)), .int .i64 0]) := by
      have := ans_eq fun W => Rel_any 64 1 (cutT 126 a) 0 ha' (by decide) W
      rw [he] at this
      exact this
    have e1 : (if decide (cutT 126 a = 0) = true then 1 else 0 : Nat) = (if cutT 126 a = 0 then 1 else 0 : Nat) := by simp
    have hres := res_cmp 80 (by decide) (by decide) (cutT 126 a) 0 _ _ (cmp_ez64 80 (by decide) (by decide) (cutT 126 a) 0 _ _ HC)
    rw [e1] at hres
    exact Ans.g hres
  · show Ans 91 #[.string (str ((nm7 80).take 1)), .int .i64 ((64 : Nat) : Int), .int .i64 127, .string (str ((nm7 80).drop 4)), .int .u64 (((cutT 126 a) : Nat) : Int), .int .u64 ((0 : Nat) : Int)] _
    rw [hv]
    exact worked_ez _ _ _ _ _
noncomputable def chkS (op : Int) : Bool := if op = 69 ∨ op = 80 then true else if op < 80 then iR32B op (op - 69) else if op < 91 then iR64B op (op - 80) else if op < 97 then fR32B op (op - 90) else fR64B op (op - 96)
theorem stand_all : ((List.range 34).all fun k => chkS (69 + (k : Int))) = true := by kernel_rfl
theorem stand_good (op : Int) (h0 : 69 ≤ op) (h1 : op ≤ 102) (a b : Nat) (ha : a < 18446744073709551616) (hb : b < 18446744073709551616) : Good op a b := by
  obtain ⟨k, hk, rfl⟩ : ∃ k : Nat, k < 34 ∧ op = 69 + (k : Int) := ⟨(op - 69).toNat, by omega, by omega⟩
  have h := List.all_eq_true.1 stand_all k (List.mem_range.2 hk)
  generalize (69 : Int) + (k : Int) = op at *
  unfold chkS at h
  by_cases e : op = 69 ∨ op = 80
  · rcases e with rfl | rfl
    · exact ez32_good a b ha hb
    · exact ez64_good a b ha hb
  rw [if_neg e] at h
  split at h
  · exact iR32_good _ _ rfl (by omega) (by omega) h a b ha hb
  split at h
  · exact iR64_good _ _ rfl (by omega) (by omega) h a b ha hb
  split at h
  · exact fR32_good _ _ rfl (by omega) (by omega) h a b ha hb
  · exact fR64_good _ _ rfl (by omega) (by omega) h a b ha hb
set_option maxHeartbeats 4000000 in
theorem law_Stand (a b : Nat) (ha : a < 18446744073709551616) (hb : b < 18446744073709551616) (w : World) (hg : GlobF w) : Calls Tryz.prog 16 #[.int .u64 a, .int .u64 b] w fun e w' => e = .returned (.bool true) ∧ Below w.heap.size w w' := by
  have HA := fun W h => hid (awake_says W h)
  have HS := fun W h => hid (some_says 69 102 (by decide) (by decide) (by decide) a b ha hb (fun op h0 h1 => stand_good op h0 h1 a b ha hb) W h)
  have HG := hid hg
  clear hg ha hb
  go_enter Tryz.func16, Tryz.ntmps16
  go_wp2_with (first
    | (go_at_call 22; (with_reducible refine (HA _ HG.out).out.mono ?_); rintro e w1 ⟨rfl, hb1⟩; have HB1 := hid hb1; clear hb1)
    | (go_at_call 27; (with_reducible refine (HS _ (HG.out.next HB1.out)).out.mono ?_); rintro e w2 ⟨rfl, hb2⟩; have HB2 := hid (HB1.out.trans (hb2.mono HB1.out.size)); clear hb2))
  go_ret
  exact ⟨rfl, HB2.out⟩
end Go.Proofs.YtlhakbkdlgejpaaGreatDoor.Sc
