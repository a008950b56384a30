/-
  May of a module of one function with one instruction, perhaps with another one in it. No condition.
-/
import Derived.Test.YteianbgampljeaaGreatAw2
import Derived.Laws.Bits64b
set_option linter.unusedSimpArgs false
set_option linter.unusedVariables false
set_option maxRecDepth 100000
namespace Go.Proofs.YteianbgampljeaaGreat
open Go.RowKit

theorem and_i64_le (a : Int) (m : Nat) (hm : m < 1000) : ∃ K : Nat, K ≤ m ∧ bits .and .i64 a (m : Int) = (K : Int) := by
  refine ⟨(BitVec.ofInt 64 a).toNat &&& m, Nat.and_le_right, ?_⟩
  have e2 : BitVec.toNat (BitVec.ofInt 64 (m : Int)) = m := by
    rw [BitVec.toNat_ofInt]; omega
  have hle : (BitVec.ofInt 64 a).toNat &&& m ≤ m := Nat.and_le_right
  show IntKind.i64.wrap ((BitVec.ofInt 64 a &&& BitVec.ofInt 64 (m : Int)).toNat : Int) = _
  rw [BitVec.toNat_and, e2, IntKind.wrap_i64]
  generalize (BitVec.ofInt 64 a).toNat &&& m = q at *
  omega
def leafFo (n : Nat) : Fo := .cons 65 0 0 n 0 [] false .nil .nil .nil
def nodeFo (op : Int) (ot : Bool) (body els : Fo) : Fo := .cons op 0 0 0 0 [] ot body els .nil
theorem leaf_ins (n : Nat) : insB 65 0 0 n 0 [] false 0 0 = decide ((n : Int) ≤ 4294967295) := by
  unfold insB
  rw [show knB (lineL 65) = true by kernel_rfl, show (lineL 65).2.1 = 12 by kernel_rfl]
  simp [okB, unB]
theorem leaf_data : ((lineL 65).2.1 != 17 && (lineL 65).2.1 != 18) = true := by kernel_rfl
theorem code_body (op : Int) (ot : Bool) (n : Nat) : codeB (nodeFo op ot (leafFo n) .nil) = (insB op 0 0 0 0 [] ot 1 0 && decide ((n : Int) ≤ 4294967295)) := by
  unfold codeB
  simp only [nodeFo, leafFo, evF, codeSt, Fo.len, leaf_ins]
  generalize insB op 0 0 0 0 [] ot (0 + 1) 0 = x
  generalize decide ((n : Int) ≤ 4294967295) = y
  cases x <;> cases y <;> rfl
theorem code_else (op : Int) (ot : Bool) (n : Nat) : codeB (nodeFo op ot .nil (leafFo n)) = (insB op 0 0 0 0 [] ot 0 1 && decide ((n : Int) ≤ 4294967295)) := by
  unfold codeB
  simp only [nodeFo, leafFo, evF, codeSt, Fo.len, leaf_ins]
  generalize insB op 0 0 0 0 [] ot 0 (0 + 1) = x
  generalize decide ((n : Int) ≤ 4294967295) = y
  cases x <;> cases y <;> rfl
theorem code_none (op : Int) (ot : Bool) : codeB (nodeFo op ot .nil .nil) = insB op 0 0 0 0 [] ot 0 0 := by
  unfold codeB
  simp only [nodeFo, evF, codeSt, Fo.len]
  generalize insB op 0 0 0 0 [] ot 0 0 = x
  cases x <;> rfl
theorem data_body (op : Int) (ot : Bool) (n : Nat) (h : ((lineL op).2.1 != 17 && (lineL op).2.1 != 18) = true) : dataB (nodeFo op ot (leafFo n) .nil) = true := by
  unfold dataB
  simp only [nodeFo, leafFo, evF, dataSt, leaf_data, h]
  rfl
theorem data_else (op : Int) (ot : Bool) (n : Nat) (h : ((lineL op).2.1 != 17 && (lineL op).2.1 != 18) = true) : dataB (nodeFo op ot .nil (leafFo n)) = true := by
  unfold dataB
  simp only [nodeFo, leafFo, evF, dataSt, leaf_data, h]
  rfl
theorem data_none (op : Int) (ot : Bool) (h : ((lineL op).2.1 != 17 && (lineL op).2.1 != 18) = true) : dataB (nodeFo op ot .nil .nil) = true := by
  unfold dataB
  simp only [nodeFo, evF, dataSt, h]
  rfl
/-- May of a module with nothing but one function. -/
theorem May_fn (gf gb : Nat) (f : Fo) (w : World) (hf : f.cnt < 9223372036854775806) (hl : f.len = 1) (hg : gf < w.heap.size) (h0 : w.cell? ⟨gf, 0, none⟩ = some (.int .i64 0)) (h1 : w.cell? ⟨gf, 1, none⟩ = some (.slice none 0 0)) (h2 : w.cell? ⟨gf, 2, none⟩ = some (.slice (some ⟨gb, 0, none⟩) 1 1)) (hs : SA w.heap.size w (.slice (some ⟨gb, 0, none⟩) 1 1) f) :
    Calls Tryz.prog 11 #[.agg #[.slice none 0 0, .slice none 0 0, .slice (some ⟨gf, 0, none⟩) 1 1, .slice none 0 0, .slice none 0 0, .slice none 0 0, .slice none 0 0, .int .i64 0, .slice none 0 0, .slice none 0 0, .bool false]] w fun e w' => e = .returned (.bool (codeB f && dataB f)) ∧ Below w.heap.size w w' := by
  have HC := fun (W : World) (hW : Below w.heap.size w W) => funcs_says gf gb f W hf hl (Nat.lt_of_lt_of_le hg hW.size) ((hW.cell (p := ⟨gf, 0, none⟩) hg).trans h0) ((hW.cell (p := ⟨gf, 1, none⟩) hg).trans h1) ((hW.cell (p := ⟨gf, 2, none⟩) hg).trans h2) (SA.mono (SA.below hs hW) hW.size)
  refine (May_says none 0 0 gf 0 1 true (codeB f) (dataB f) w (fun W _ => (all_nil_22 23 none 0 W).mono (by rintro e w' ⟨rfl, rfl⟩; exact ⟨rfl, Below.refl _ _⟩)) (fun W hW => (HC W hW).1) (fun W hW => (HC W hW).2)).mono ?_
  rintro e w' ⟨rfl, hb⟩
  exact ⟨by simp, hb⟩
set_option maxHeartbeats 2000000 in
theorem may_body (op : Int) (ot : Bool) (n : Nat) (V : World) : Calls Tryz.prog 11 #[.agg #[.slice none 0 0, .slice none 0 0, .slice (some ⟨V.heap.size + 1 + 1, 0, none⟩) 1 1, .slice none 0 0, .slice none 0 0, .slice none 0 0, .slice none 0 0, .int .i64 0, .slice none 0 0, .slice none 0 0, .bool false]] (((V.alloc (.cells #[.int .i64 65, .int .i64 0, .int .i64 0, .int .u64 (n : Nat), .int .u64 0, .slice none 0 0, .slice none 0 0, .slice none 0 0, .bool false] 39)).alloc (.cells #[.int .i64 op, .int .i64 0, .int .i64 0, .int .u64 0, .int .u64 0, .slice none 0 0, .slice (some ⟨V.heap.size, 0, none⟩) 1 1, .slice none 0 0, .bool ot] 39)).alloc (.cells #[.int .i64 0, .slice none 0 0, .slice (some ⟨V.heap.size + 1, 0, none⟩) 1 1] 42)) fun e w' => e = .returned (.bool (codeB (nodeFo op ot (leafFo n) .nil) && dataB (nodeFo op ot (leafFo n) .nil))) ∧ Below (((V.alloc (.cells #[.int .i64 65, .int .i64 0, .int .i64 0, .int .u64 (n : Nat), .int .u64 0, .slice none 0 0, .slice none 0 0, .slice none 0 0, .bool false] 39)).alloc (.cells #[.int .i64 op, .int .i64 0, .int .i64 0, .int .u64 0, .int .u64 0, .slice none 0 0, .slice (some ⟨V.heap.size, 0, none⟩) 1 1, .slice none 0 0, .bool ot] 39)).alloc (.cells #[.int .i64 0, .slice none 0 0, .slice (some ⟨V.heap.size + 1, 0, none⟩) 1 1] 42)).heap.size (((V.alloc (.cells #[.int .i64 65, .int .i64 0, .int .i64 0, .int .u64 (n : Nat), .int .u64 0, .slice none 0 0, .slice none 0 0, .slice none 0 0, .bool false] 39)).alloc (.cells #[.int .i64 op, .int .i64 0, .int .i64 0, .int .u64 0, .int .u64 0, .slice none 0 0, .slice (some ⟨V.heap.size, 0, none⟩) 1 1, .slice none 0 0, .bool ot] 39)).alloc (.cells #[.int .i64 0, .slice none 0 0, .slice (some ⟨V.heap.size + 1, 0, none⟩) 1 1] 42)) w' := by
  have c0 := CA.new V #[.int .i64 65, .int .i64 0, .int .i64 0, .int .u64 (n : Nat), .int .u64 0, .slice none 0 0, .slice none 0 0, .slice none 0 0, .bool false] 39
  try simp only [size_al] at c0
  replace c0 := (CA.alloc (CA.alloc c0 (.cells #[.int .i64 op, .int .i64 0, .int .i64 0, .int .u64 0, .int .u64 0, .slice none 0 0, .slice (some ⟨V.heap.size, 0, none⟩) 1 1, .slice none 0 0, .bool ot] 39)) (.cells #[.int .i64 0, .slice none 0 0, .slice (some ⟨V.heap.size + 1, 0, none⟩) 1 1] 42))
  have c1 := CA.new (V.alloc (.cells #[.int .i64 65, .int .i64 0, .int .i64 0, .int .u64 (n : Nat), .int .u64 0, .slice none 0 0, .slice none 0 0, .slice none 0 0, .bool false] 39)) #[.int .i64 op, .int .i64 0, .int .i64 0, .int .u64 0, .int .u64 0, .slice none 0 0, .slice (some ⟨V.heap.size, 0, none⟩) 1 1, .slice none 0 0, .bool ot] 39
  try simp only [size_al] at c1
  replace c1 := (CA.alloc c1 (.cells #[.int .i64 0, .slice none 0 0, .slice (some ⟨V.heap.size + 1, 0, none⟩) 1 1] 42))
  have c2 := CA.new ((V.alloc (.cells #[.int .i64 65, .int .i64 0, .int .i64 0, .int .u64 (n : Nat), .int .u64 0, .slice none 0 0, .slice none 0 0, .slice none 0 0, .bool false] 39)).alloc (.cells #[.int .i64 op, .int .i64 0, .int .i64 0, .int .u64 0, .int .u64 0, .slice none 0 0, .slice (some ⟨V.heap.size, 0, none⟩) 1 1, .slice none 0 0, .bool ot] 39)) #[.int .i64 0, .slice none 0 0, .slice (some ⟨V.heap.size + 1, 0, none⟩) 1 1] 42
  try simp only [size_al] at c2
  replace c2 := c2
  have hsz : (((V.alloc (.cells #[.int .i64 65, .int .i64 0, .int .i64 0, .int .u64 (n : Nat), .int .u64 0, .slice none 0 0, .slice none 0 0, .slice none 0 0, .bool false] 39)).alloc (.cells #[.int .i64 op, .int .i64 0, .int .i64 0, .int .u64 0, .int .u64 0, .slice none 0 0, .slice (some ⟨V.heap.size, 0, none⟩) 1 1, .slice none 0 0, .bool ot] 39)).alloc (.cells #[.int .i64 0, .slice none 0 0, .slice (some ⟨V.heap.size + 1, 0, none⟩) 1 1] 42)).heap.size = V.heap.size + 1 + 1 + 1 := by simp only [size_al]
  generalize (((V.alloc (.cells #[.int .i64 65, .int .i64 0, .int .i64 0, .int .u64 (n : Nat), .int .u64 0, .slice none 0 0, .slice none 0 0, .slice none 0 0, .bool false] 39)).alloc (.cells #[.int .i64 op, .int .i64 0, .int .i64 0, .int .u64 0, .int .u64 0, .slice none 0 0, .slice (some ⟨V.heap.size, 0, none⟩) 1 1, .slice none 0 0, .bool ot] 39)).alloc (.cells #[.int .i64 0, .slice none 0 0, .slice (some ⟨V.heap.size + 1, 0, none⟩) 1 1] 42)) = W at *
  refine May_fn (V.heap.size + 1 + 1) (V.heap.size + 1) (nodeFo op ot (leafFo n) .nil) W (by simp only [nodeFo, leafFo, Fo.cnt]; decide) rfl (by omega) (c2.at rfl) (c2.at rfl) (c2.at rfl) ?_
  exact ⟨some ⟨V.heap.size + 1, 0, none⟩, 1, V.heap.size + 1, 0, rfl, fun _ => rfl, by omega, ⟨_, _, _, c1.at rfl, c1.at rfl, c1.at rfl, c1.at rfl, c1.at rfl, c1.at rfl, c1.at rfl, c1.at rfl, c1.at rfl, LI.nil _ _ _ _, ⟨some ⟨V.heap.size, 0, none⟩, 1, V.heap.size, 0, rfl, fun _ => rfl, by omega, ⟨_, _, _, c0.at rfl, c0.at rfl, c0.at rfl, c0.at rfl, c0.at rfl, c0.at rfl, c0.at rfl, c0.at rfl, c0.at rfl, LI.nil _ _ _ _, ⟨none, 0, 0, 0, rfl, fun h => absurd rfl h, trivial⟩, ⟨none, 0, 0, 0, rfl, fun h => absurd rfl h, trivial⟩⟩, trivial⟩, ⟨none, 0, 0, 0, rfl, fun h => absurd rfl h, trivial⟩⟩, trivial⟩
set_option maxHeartbeats 2000000 in
theorem may_else (op : Int) (ot : Bool) (n : Nat) (V : World) : Calls Tryz.prog 11 #[.agg #[.slice none 0 0, .slice none 0 0, .slice (some ⟨V.heap.size + 1 + 1, 0, none⟩) 1 1, .slice none 0 0, .slice none 0 0, .slice none 0 0, .slice none 0 0, .int .i64 0, .slice none 0 0, .slice none 0 0, .bool false]] (((V.alloc (.cells #[.int .i64 65, .int .i64 0, .int .i64 0, .int .u64 (n : Nat), .int .u64 0, .slice none 0 0, .slice none 0 0, .slice none 0 0, .bool false] 39)).alloc (.cells #[.int .i64 op, .int .i64 0, .int .i64 0, .int .u64 0, .int .u64 0, .slice none 0 0, .slice none 0 0, .slice (some ⟨V.heap.size, 0, none⟩) 1 1, .bool ot] 39)).alloc (.cells #[.int .i64 0, .slice none 0 0, .slice (some ⟨V.heap.size + 1, 0, none⟩) 1 1] 42)) fun e w' => e = .returned (.bool (codeB (nodeFo op ot .nil (leafFo n)) && dataB (nodeFo op ot .nil (leafFo n)))) ∧ Below (((V.alloc (.cells #[.int .i64 65, .int .i64 0, .int .i64 0, .int .u64 (n : Nat), .int .u64 0, .slice none 0 0, .slice none 0 0, .slice none 0 0, .bool false] 39)).alloc (.cells #[.int .i64 op, .int .i64 0, .int .i64 0, .int .u64 0, .int .u64 0, .slice none 0 0, .slice none 0 0, .slice (some ⟨V.heap.size, 0, none⟩) 1 1, .bool ot] 39)).alloc (.cells #[.int .i64 0, .slice none 0 0, .slice (some ⟨V.heap.size + 1, 0, none⟩) 1 1] 42)).heap.size (((V.alloc (.cells #[.int .i64 65, .int .i64 0, .int .i64 0, .int .u64 (n : Nat), .int .u64 0, .slice none 0 0, .slice none 0 0, .slice none 0 0, .bool false] 39)).alloc (.cells #[.int .i64 op, .int .i64 0, .int .i64 0, .int .u64 0, .int .u64 0, .slice none 0 0, .slice none 0 0, .slice (some ⟨V.heap.size, 0, none⟩) 1 1, .bool ot] 39)).alloc (.cells #[.int .i64 0, .slice none 0 0, .slice (some ⟨V.heap.size + 1, 0, none⟩) 1 1] 42)) w' := by
  have c0 := CA.new V #[.int .i64 65, .int .i64 0, .int .i64 0, .int .u64 (n : Nat), .int .u64 0, .slice none 0 0, .slice none 0 0, .slice none 0 0, .bool false] 39
  try simp only [size_al] at c0
  replace c0 := (CA.alloc (CA.alloc c0 (.cells #[.int .i64 op, .int .i64 0, .int .i64 0, .int .u64 0, .int .u64 0, .slice none 0 0, .slice none 0 0, .slice (some ⟨V.heap.size, 0, none⟩) 1 1, .bool ot] 39)) (.cells #[.int .i64 0, .slice none 0 0, .slice (some ⟨V.heap.size + 1, 0, none⟩) 1 1] 42))
  have c1 := CA.new (V.alloc (.cells #[.int .i64 65, .int .i64 0, .int .i64 0, .int .u64 (n : Nat), .int .u64 0, .slice none 0 0, .slice none 0 0, .slice none 0 0, .bool false] 39)) #[.int .i64 op, .int .i64 0, .int .i64 0, .int .u64 0, .int .u64 0, .slice none 0 0, .slice none 0 0, .slice (some ⟨V.heap.size, 0, none⟩) 1 1, .bool ot] 39
  try simp only [size_al] at c1
  replace c1 := (CA.alloc c1 (.cells #[.int .i64 0, .slice none 0 0, .slice (some ⟨V.heap.size + 1, 0, none⟩) 1 1] 42))
  have c2 := CA.new ((V.alloc (.cells #[.int .i64 65, .int .i64 0, .int .i64 0, .int .u64 (n : Nat), .int .u64 0, .slice none 0 0, .slice none 0 0, .slice none 0 0, .bool false] 39)).alloc (.cells #[.int .i64 op, .int .i64 0, .int .i64 0, .int .u64 0, .int .u64 0, .slice none 0 0, .slice none 0 0, .slice (some ⟨V.heap.size, 0, none⟩) 1 1, .bool ot] 39)) #[.int .i64 0, .slice none 0 0, .slice (some ⟨V.heap.size + 1, 0, none⟩) 1 1] 42
  try simp only [size_al] at c2
  replace c2 := c2
  have hsz : (((V.alloc (.cells #[.int .i64 65, .int .i64 0, .int .i64 0, .int .u64 (n : Nat), .int .u64 0, .slice none 0 0, .slice none 0 0, .slice none 0 0, .bool false] 39)).alloc (.cells #[.int .i64 op, .int .i64 0, .int .i64 0, .int .u64 0, .int .u64 0, .slice none 0 0, .slice none 0 0, .slice (some ⟨V.heap.size, 0, none⟩) 1 1, .bool ot] 39)).alloc (.cells #[.int .i64 0, .slice none 0 0, .slice (some ⟨V.heap.size + 1, 0, none⟩) 1 1] 42)).heap.size = V.heap.size + 1 + 1 + 1 := by simp only [size_al]
  generalize (((V.alloc (.cells #[.int .i64 65, .int .i64 0, .int .i64 0, .int .u64 (n : Nat), .int .u64 0, .slice none 0 0, .slice none 0 0, .slice none 0 0, .bool false] 39)).alloc (.cells #[.int .i64 op, .int .i64 0, .int .i64 0, .int .u64 0, .int .u64 0, .slice none 0 0, .slice none 0 0, .slice (some ⟨V.heap.size, 0, none⟩) 1 1, .bool ot] 39)).alloc (.cells #[.int .i64 0, .slice none 0 0, .slice (some ⟨V.heap.size + 1, 0, none⟩) 1 1] 42)) = W at *
  refine May_fn (V.heap.size + 1 + 1) (V.heap.size + 1) (nodeFo op ot .nil (leafFo n)) W (by simp only [nodeFo, leafFo, Fo.cnt]; decide) rfl (by omega) (c2.at rfl) (c2.at rfl) (c2.at rfl) ?_
  exact ⟨some ⟨V.heap.size + 1, 0, none⟩, 1, V.heap.size + 1, 0, rfl, fun _ => rfl, by omega, ⟨_, _, _, c1.at rfl, c1.at rfl, c1.at rfl, c1.at rfl, c1.at rfl, c1.at rfl, c1.at rfl, c1.at rfl, c1.at rfl, LI.nil _ _ _ _, ⟨none, 0, 0, 0, rfl, fun h => absurd rfl h, trivial⟩, ⟨some ⟨V.heap.size, 0, none⟩, 1, V.heap.size, 0, rfl, fun _ => rfl, by omega, ⟨_, _, _, c0.at rfl, c0.at rfl, c0.at rfl, c0.at rfl, c0.at rfl, c0.at rfl, c0.at rfl, c0.at rfl, c0.at rfl, LI.nil _ _ _ _, ⟨none, 0, 0, 0, rfl, fun h => absurd rfl h, trivial⟩, ⟨none, 0, 0, 0, rfl, fun h => absurd rfl h, trivial⟩⟩, trivial⟩⟩, trivial⟩
set_option maxHeartbeats 2000000 in
theorem may_none (op : Int) (ot : Bool) (V : World) : Calls Tryz.prog 11 #[.agg #[.slice none 0 0, .slice none 0 0, .slice (some ⟨V.heap.size + 1, 0, none⟩) 1 1, .slice none 0 0, .slice none 0 0, .slice none 0 0, .slice none 0 0, .int .i64 0, .slice none 0 0, .slice none 0 0, .bool false]] ((V.alloc (.cells #[.int .i64 op, .int .i64 0, .int .i64 0, .int .u64 0, .int .u64 0, .slice none 0 0, .slice none 0 0, .slice none 0 0, .bool ot] 39)).alloc (.cells #[.int .i64 0, .slice none 0 0, .slice (some ⟨V.heap.size, 0, none⟩) 1 1] 42)) fun e w' => e = .returned (.bool (codeB (nodeFo op ot .nil .nil) && dataB (nodeFo op ot .nil .nil))) ∧ Below ((V.alloc (.cells #[.int .i64 op, .int .i64 0, .int .i64 0, .int .u64 0, .int .u64 0, .slice none 0 0, .slice none 0 0, .slice none 0 0, .bool ot] 39)).alloc (.cells #[.int .i64 0, .slice none 0 0, .slice (some ⟨V.heap.size, 0, none⟩) 1 1] 42)).heap.size ((V.alloc (.cells #[.int .i64 op, .int .i64 0, .int .i64 0, .int .u64 0, .int .u64 0, .slice none 0 0, .slice none 0 0, .slice none 0 0, .bool ot] 39)).alloc (.cells #[.int .i64 0, .slice none 0 0, .slice (some ⟨V.heap.size, 0, none⟩) 1 1] 42)) w' := by
  have c0 := CA.new V #[.int .i64 op, .int .i64 0, .int .i64 0, .int .u64 0, .int .u64 0, .slice none 0 0, .slice none 0 0, .slice none 0 0, .bool ot] 39
  try simp only [size_al] at c0
  replace c0 := (CA.alloc c0 (.cells #[.int .i64 0, .slice none 0 0, .slice (some ⟨V.heap.size, 0, none⟩) 1 1] 42))
  have c1 := CA.new (V.alloc (.cells #[.int .i64 op, .int .i64 0, .int .i64 0, .int .u64 0, .int .u64 0, .slice none 0 0, .slice none 0 0, .slice none 0 0, .bool ot] 39)) #[.int .i64 0, .slice none 0 0, .slice (some ⟨V.heap.size, 0, none⟩) 1 1] 42
  try simp only [size_al] at c1
  replace c1 := c1
  have hsz : ((V.alloc (.cells #[.int .i64 op, .int .i64 0, .int .i64 0, .int .u64 0, .int .u64 0, .slice none 0 0, .slice none 0 0, .slice none 0 0, .bool ot] 39)).alloc (.cells #[.int .i64 0, .slice none 0 0, .slice (some ⟨V.heap.size, 0, none⟩) 1 1] 42)).heap.size = V.heap.size + 1 + 1 := by simp only [size_al]
  generalize ((V.alloc (.cells #[.int .i64 op, .int .i64 0, .int .i64 0, .int .u64 0, .int .u64 0, .slice none 0 0, .slice none 0 0, .slice none 0 0, .bool ot] 39)).alloc (.cells #[.int .i64 0, .slice none 0 0, .slice (some ⟨V.heap.size, 0, none⟩) 1 1] 42)) = W at *
  refine May_fn (V.heap.size + 1) (V.heap.size) (nodeFo op ot .nil .nil) W (by simp only [nodeFo, Fo.cnt]; decide) rfl (by omega) (c1.at rfl) (c1.at rfl) (c1.at rfl) ?_
  exact ⟨some ⟨V.heap.size, 0, none⟩, 1, V.heap.size, 0, rfl, fun _ => rfl, by omega, ⟨_, _, _, c0.at rfl, c0.at rfl, c0.at rfl, c0.at rfl, c0.at rfl, c0.at rfl, c0.at rfl, c0.at rfl, c0.at rfl, LI.nil _ _ _ _, ⟨none, 0, 0, 0, rfl, fun h => absurd rfl h, trivial⟩, ⟨none, 0, 0, 0, rfl, fun h => absurd rfl h, trivial⟩⟩, trivial⟩
end Go.Proofs.YteianbgampljeaaGreat
