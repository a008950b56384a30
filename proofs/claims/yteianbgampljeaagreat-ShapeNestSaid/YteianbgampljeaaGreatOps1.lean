/-
  What the package-level tables hold, and the contracts of the program's known, fixed, Known, Name, Imm and typesOf. Condition: the tables hold what their text lays.
-/
import Derived.Test.YteianbgampljeaaGreatLine
import Derived.OwnWalk
set_option linter.unusedSimpArgs false
set_option linter.unusedVariables false
set_option maxRecDepth 100000
namespace Go.Proofs.YteianbgampljeaaGreat
open Go.RowKit

def glob0 : List Int := [2, 3, 2, 3, 0, 0, 1, 1, 0, 0, 1, 1, 2, 2, 2, 3, 2, 3, 0, 1, 0, 1, 2]
def glob1 : List Int := [4, 3, 3, 3, 3, 3, 3, 0, 1, 2, 3, 4]
def glob2 : List Int := [0, 1, 2, 3, 0, 1, 2, 3, 2, 3]
def glob3 : List Int := [16, 16, 16, 8, 8, 8, 4, 4, 2, 2, 4, 4, 2, 2]
def glob6 : List Int := [1, 2, 4, 5, 6, 7, 3]
def glob5 : List Int := [0, 0, 0, 0, 0, 0, 127, 0, 0, 126, 0, 0, 125, 0, 0, 124, 0, 0, 123, 0, 0, 112, 0, 0, 127, 127, 0, 127, 126, 0, 127, 125, 0, 127, 124, 0, 127, 123, 0, 126, 126, 0, 125, 125, 0, 124, 124, 0, 123, 127, 0, 123, 126, 0, 123, 125, 0, 123, 124, 0, 123, 123, 0, 127, 127, 127, 123, 123, 123]

/-- Five tables lie in the first six blocks. -/
structure Glob (w : World) : Prop where
  size : 6 ≤ w.heap.size
  c0 : ∀ j, j < 23 → w.cell? ⟨3, j, none⟩ = some (.int .i64 (glob0.getD j 0))
  c1 : ∀ j, j < 12 → w.cell? ⟨4, j, none⟩ = some (.int .i64 (glob1.getD j 0))
  c2 : ∀ j, j < 10 → w.cell? ⟨5, j, none⟩ = some (.int .i64 (glob2.getD j 0))
  c3 : ∀ j, j < 14 → w.cell? ⟨2, j, none⟩ = some (.int .i64 (glob3.getD j 0))
  c5 : ∀ j, j < 69 → w.cell? ⟨0, j, none⟩ = some (.int .i64 (glob5.getD j 0))

theorem Glob.below {B : Nat} {w w' : World} (h : Glob w) (hb : Below B w w') (hB : 6 ≤ B) : Glob w' where
  size := Nat.le_trans h.size hb.size
  c0 j hj := by rw [hb.cell (p := ⟨3, j, none⟩) (show 3 < B by omega), h.c0 j hj]
  c1 j hj := by rw [hb.cell (p := ⟨4, j, none⟩) (show 4 < B by omega), h.c1 j hj]
  c2 j hj := by rw [hb.cell (p := ⟨5, j, none⟩) (show 5 < B by omega), h.c2 j hj]
  c3 j hj := by rw [hb.cell (p := ⟨2, j, none⟩) (show 2 < B by omega), h.c3 j hj]
  c5 j hj := by rw [hb.cell (p := ⟨0, j, none⟩) (show 0 < B by omega), h.c5 j hj]
theorem Glob.next {w w' : World} (h : Glob w) (hb : Below w.heap.size w w') : Glob w' := h.below hb h.size

/-- The numbers that may be an instruction's. -/
def rangeOps : List Int := (List.range 211).map (fun k : Nat => (k : Int)) ++ (List.range 18).map (fun k : Nat => 64512 + (k : Int)) ++ (List.range 256).map (fun k : Nat => 64768 + (k : Int))
theorem mem_rangeOps (op : Int) : op ∈ rangeOps ↔ (0 ≤ op ∧ op < 211) ∨ (64512 ≤ op ∧ op < 64530) ∨ (64768 ≤ op ∧ op < 65024) := by
  unfold rangeOps
  simp only [List.mem_append, List.mem_map, List.mem_range]
  constructor
  · rintro ((⟨k, hk, rfl⟩ | ⟨k, hk, rfl⟩) | ⟨k, hk, rfl⟩) <;> omega
  · rintro (⟨h0, h1⟩ | ⟨h0, h1⟩ | ⟨h0, h1⟩)
    · exact .inl (.inl ⟨op.toNat, by omega, by omega⟩)
    · exact .inl (.inr ⟨(op - 64512).toNat, by omega, by omega⟩)
    · exact .inr ⟨(op - 64768).toNat, by omega, by omega⟩
theorem lineL_out (op : Int) (h : ¬ op ∈ rangeOps) : lineL op = ln0 := by
  rw [mem_rangeOps] at h
  unfold lineL
  by_cases c0 : op < 0
  · rw [if_pos c0]
  rw [if_neg c0, if_neg (by omega), if_neg (by omega), if_neg (by omega)]

def okLn (r : Ln) : Bool := decide (0 ≤ r.2.1) && decide (r.2.1 ≤ 26) && decide (0 ≤ r.2.2.1) && decide (r.2.2.1 < 23) && decide (0 ≤ r.2.2.2) && decide (r.2.2.2 < 23)
set_option maxRecDepth 100000 in
theorem all_ok : (rangeOps.all fun op => okLn (lineL op)) = true := by kernel_rfl
theorem line_ok (op : Int) : 0 ≤ (lineL op).2.1 ∧ (lineL op).2.1 ≤ 26 ∧ 0 ≤ (lineL op).2.2.1 ∧ (lineL op).2.2.1 < 23 ∧ 0 ≤ (lineL op).2.2.2 ∧ (lineL op).2.2.2 < 23 := by
  have h : okLn (lineL op) = true := by
    by_cases hin : op ∈ rangeOps
    · exact List.all_eq_true.1 all_ok op hin
    · rw [lineL_out op hin]; rfl
  unfold okLn at h
  simp only [Bool.and_eq_true, decide_eq_true_eq] at h
  omega

/-- Is there such an instruction? -/
def knB (r : Ln) : Bool := !r.1.toList.isEmpty
def fxB (r : Ln) : Bool := r.2.2.1 != 0

theorem known_says (r : Ln) (w : World) : Calls Tryz.prog 142 #[lnV r] w fun e w' => e = .returned (.bool (knB r)) ∧ Below w.heap.size w w' := by
  obtain ⟨s, a, b, c⟩ := r
  show Calls Tryz.prog 142 #[.agg #[.string s, .int .u8 a, .int .u8 b, .int .u8 c]] w fun e w' => e = .returned (.bool (!s.toList.isEmpty)) ∧ Below w.heap.size w w'
  go_enter Tryz.func142, Tryz.ntmps142
  go_wp2
  go_ret
  exact ⟨rfl, (Below.refl _ _).alloc (Nat.le_refl _) _⟩
theorem run_name (r : Ln) (w : World) : (Instr.field 150 (lnV r) 0).run Tryz.prog w = .ok (.string r.1) w := by kernel_rfl
theorem run_imm (r : Ln) (w : World) : (Instr.field 150 (lnV r) 1).run Tryz.prog w = .ok (.int .u8 r.2.1) w := by kernel_rfl

theorem Known_says (op : Int) (w : World) : Calls Tryz.prog 134 #[.int .i64 op] w fun e w' => e = .returned (.bool (knB (lineL op))) ∧ Below w.heap.size w w' := by
  obtain ⟨r, hr⟩ : ∃ r, r = lineL op := ⟨_, rfl⟩
  have H := fun W => hid (line_says op W)
  have HK := fun W => hid (known_says r W)
  rw [← hr] at H ⊢
  clear hr
  obtain ⟨b, hb0⟩ : ∃ b, b = knB r := ⟨_, rfl⟩
  rw [← hb0] at HK ⊢
  clear hb0
  obtain ⟨v, hv⟩ : ∃ v, v = lnV r := ⟨_, rfl⟩
  rw [← hv] at H HK
  clear hv
  go_enter Tryz.func134, Tryz.ntmps134
  go_wp2_with (first | (go_at_call 122; refine (H _).out.mono ?_; rintro e w1 ⟨rfl, hb⟩) | (go_at_call 142; refine (HK _).out.mono ?_; rintro e w2 ⟨rfl, hb2⟩))
  go_ret
  exact ⟨rfl, hb.trans (hb2.mono hb.size)⟩

theorem Imm_says (op : Int) (w : World) : Calls Tryz.prog 102 #[.int .i64 op] w fun e w' => e = .returned (.int .i64 (lineL op).2.1) ∧ Below w.heap.size w w' := by
  obtain ⟨h0, h1, _⟩ := line_ok op
  obtain ⟨r, hr⟩ : ∃ r, r = lineL op := ⟨_, rfl⟩
  have H := fun W => hid (line_says op W)
  have HF := run_imm r
  rw [← hr] at H h0 h1 ⊢
  clear hr
  obtain ⟨v, hv⟩ : ∃ v, v = lnV r := ⟨_, rfl⟩
  rw [← hv] at H HF
  clear hv
  go_enter Tryz.func102, Tryz.ntmps102
  go_wp2_with (go_at_call 122; refine (H _).out.mono ?_; rintro e w1 ⟨rfl, hb⟩)
  go_ret
  exact ⟨rfl, hb⟩
end Go.Proofs.YteianbgampljeaaGreat
