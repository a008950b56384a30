/-
  'append' of what a slice holds, and of zeros, to a row of ours. Condition: fewer elements than memory holds.
-/
import Derived.Test.YtlifnddofgeaaaaTGrow
import Derived.Lib.AppendZerosOnto
set_option linter.unusedSimpArgs false
set_option linter.unusedVariables false
set_option maxRecDepth 100000
namespace Go.Proofs.Ytlifnddofgeaaaa
open Go.RowKit

/-- Another row of ours, or the same one: where it lies. -/
def Nx (w : World) (p p' : Option Addr) : Prop := p' = p ∨ ∃ g, p' = some ⟨g, 0, none⟩ ∧ w.heap.size ≤ g
theorem KP.grown {w w' : World} {p : Option Addr} {n c : Nat} (hg : w.grownBy w' (Value.slice p n c).ownBlock) : KP (blk p) w w' :=
  ⟨hg.os, hg.tape, hg.output, hg.size, fun k hk hne => hg.block k hk (by
    cases p with
    | none => simp [Value.ownBlock]
    | some a => simpa [Value.ownBlock, blk, eq_comm] using hne)⟩
theorem run_app_b (w : World) (B : Nat) (ty : TypeId) (p sp : Option Addr) (n c M sc : Nat) (xs ys : List Value) (hr : Row B 5 1 p n c xs w) (hs : Src 1 sp M ys w) (h0 : sp = none → sc = 0) (hn : n + M ≤ 1000000000000) (hB : B ≤ w.heap.size) :
    ∃ p' c' w', (Builtin.append_ #[27, 27] ty #[.slice p n c, .slice sp M sc]).run Try.prog w = .ok (.slice p' (n + M) c') w' ∧ Row B 5 1 p' (n + M) c' (xs ++ ys) w' ∧ KP (blk p) w w' ∧ Nx w p p' := by
  obtain ⟨i0, hi, hz0, hz1, hz2⟩ := info_parts info5
  have h1 : ∀ u ∈ xs ++ ys, u.oneCell' = true := fun u hu => (List.mem_append.1 hu).elim (hr.one u) (hs.one u)
  cases sp with
  | none =>
    have hy : ys = [] := by
      rcases Classical.em (ys = []) with h | h
      · exact h
      · obtain ⟨_, _, e, _⟩ := hs.at_ h; cases e
    have hM : M = 0 := by have := hs.len; rw [hy] at this; simp at this; omega
    subst hy
    subst hM
    rw [h0 rfl]
    refine ⟨p, c, w, run_append_owned_none (P := Try.prog) (w := w) B 27 ty 5 i0 1 Try.underlying27 hi _ n xs hr.own, by rw [List.append_nil]; exact hr, KP.refl _ _, .inl rfl⟩
  | some ad =>
    have hnews : ∀ j u, ys[j]? = some u → w.cell? (ad.add j) = some u := by
      intro j u hj
      obtain ⟨g, o, e, _, ha⟩ := hs.at_ (by rintro rfl; cases hj)
      cases e
      rw [addr_add]
      exact ha j u hj
    obtain ⟨v', w', hrun, r1, r2, r3⟩ := run_append_own (P := Try.prog) w B 27 ty 5 i0 (.int .u8 0) 1 1 Try.underlying27 hi hz0 hz1 hz2 rfl (by decide) _ n xs hr.own ad M sc ys hs.len hnews hs.one (by unfold maxLen; omega) (by omega) hB
    have r4 : ∃ p' c', v' = .slice p' (n + M) c' ∧ Nx w p p' := by
      rcases hr.own.2 with ⟨e1, e2⟩ | ⟨g, cap, cur, e1, hbg, hg, hnc, hcm, hcs, htake⟩
      · cases e1
        by_cases hm : M = 0
        · exact ⟨none, 0, by rw [r3.2 ⟨rfl, hm⟩, hm], .inl rfl⟩
        · have hxs : xs = [] := List.eq_nil_of_length_eq_zero (by simpa using hr.own.1)
          rw [run_append_nil (P := Try.prog) w 27 ty 5 i0 (.int .u8 0) Try.underlying27 hi hz0 ad M sc ys (by rw [hs.len, hz1]) hnews (by omega) (by omega) (by rw [hz2]; omega)] at hrun
          injection hrun with e1 e2
          exact ⟨_, _, by rw [← e1, Nat.zero_add], .inr ⟨_, rfl, Nat.le_refl _⟩⟩
      · cases e1
        by_cases hroom : n + M ≤ c
        · rw [run_append_room (P := Try.prog) w 27 ty 5 i0 Try.underlying27 hi g n c cur hg ad M sc ys (by rw [hs.len, hz1]) hnews hs.one hroom (by rw [hz1, hs.len, hcs]; omega)] at hrun
          injection hrun with e1 e2
          exact ⟨_, _, e1.symm, .inl rfl⟩
        · rw [run_append_grow (P := Try.prog) w 27 ty 5 i0 (.int .u8 0) Try.underlying27 hi hz0 ⟨g, 0, none⟩ n c xs (by rw [hr.own.1, hz1]) (hr.own.cells (g := g) rfl) ad M sc ys (by rw [hs.len, hz1]) hnews (by omega) (by omega) (growslice_fits (by omega) (by rw [hz2]; omega))] at hrun
          injection hrun with e1 e2
          exact ⟨_, _, e1.symm, .inr ⟨_, rfl, Nat.le_refl _⟩⟩
    obtain ⟨p', c', rfl, r5⟩ := r4
    exact ⟨p', c', w', hrun, ⟨r1, h1⟩, KP.grown r2, r5⟩
theorem app_b {w : World} {ops : Array Oper} {rest : List Oper} {o : Oper} {a : Act} {Q : Exit → Act → World → Prop} (hgd : o.guard = none) (s x : Operand)
    (ho : o.op = .call { callee := .builtin .append, args := #[s, x], argTypes := #[27, 27] }) (B : Nat) (p sp : Option Addr) (n c M sc : Nat) (xs ys : List Value) (hr : Row B 5 1 p n c xs w) (hs : Src 1 sp M ys w) (h0 : sp = none → sc = 0) (K : Nat) (hK : n + M = K) (hn : K ≤ 1000000000000) (hB : B ≤ w.heap.size)
    (he : a.eval s = .slice p n c) (hx : a.eval x = .slice sp M sc)
    (h : ∀ p' c' w', Row B 5 1 p' K c' (xs ++ ys) w' → KP (blk p) w w' → Nx w p p' → wpList Try.prog ops Q rest (a.put o.dst (.slice p' K c')) w') :
    wpList Try.prog ops Q (o :: rest) a w := by
  subst hK
  obtain ⟨p', c', w', hrun, r1, r2, r3⟩ := run_app_b w B o.type p sp n c M sc xs ys hr hs h0 hn hB
  exact Lib.wpList_append_run w hgd s x 27 27 ho _ _ he hx _ _ hrun (h p' c' w' r1 r2 r3)
theorem run_app_v (w : World) (B : Nat) (ty : TypeId) (p sp : Option Addr) (n c M sc : Nat) (xs ys : List Value) (hr : Row B 32 4 p n c xs w) (hs : Src 4 sp M ys w) (h0 : sp = none → sc = 0) (hn : n + M ≤ 1000000000000) (hB : B ≤ w.heap.size) :
    ∃ p' c' w', (Builtin.append_ #[49, 49] ty #[.slice p n c, .slice sp M sc]).run Try.prog w = .ok (.slice p' (n + M) c') w' ∧ Row B 32 4 p' (n + M) c' (xs ++ ys) w' ∧ KP (blk p) w w' ∧ Nx w p p' := by
  obtain ⟨i0, hi, hz0, hz1, hz2⟩ := info_parts info32
  have h1 : ∀ u ∈ xs ++ ys, u.oneCell' = true := fun u hu => (List.mem_append.1 hu).elim (hr.one u) (hs.one u)
  cases sp with
  | none =>
    have hy : ys = [] := by
      rcases Classical.em (ys = []) with h | h
      · exact h
      · obtain ⟨_, _, e, _⟩ := hs.at_ h; cases e
    have hM : M = 0 := by have := hs.len; rw [hy] at this; simp at this; omega
    subst hy
    subst hM
    rw [h0 rfl]
    refine ⟨p, c, w, run_append_owned_none (P := Try.prog) (w := w) B 49 ty 32 i0 4 Try.underlying49 hi _ n xs hr.own, by rw [List.append_nil]; exact hr, KP.refl _ _, .inl rfl⟩
  | some ad =>
    have hnews : ∀ j u, ys[j]? = some u → w.cell? (ad.add j) = some u := by
      intro j u hj
      obtain ⟨g, o, e, _, ha⟩ := hs.at_ (by rintro rfl; cases hj)
      cases e
      rw [addr_add]
      exact ha j u hj
    obtain ⟨v', w', hrun, r1, r2, r3⟩ := run_append_own (P := Try.prog) w B 49 ty 32 i0 (.agg #[.int .i64 0, .int .u64 0, .int .u64 0, .bool false]) 4 32 Try.underlying49 hi hz0 hz1 hz2 rfl (by decide) _ n xs hr.own ad M sc ys hs.len hnews hs.one (by unfold maxLen; omega) (by omega) hB
    have r4 : ∃ p' c', v' = .slice p' (n + M) c' ∧ Nx w p p' := by
      rcases hr.own.2 with ⟨e1, e2⟩ | ⟨g, cap, cur, e1, hbg, hg, hnc, hcm, hcs, htake⟩
      · cases e1
        by_cases hm : M = 0
        · exact ⟨none, 0, by rw [r3.2 ⟨rfl, hm⟩, hm], .inl rfl⟩
        · have hxs : xs = [] := List.eq_nil_of_length_eq_zero (by simpa using hr.own.1)
          rw [run_append_nil (P := Try.prog) w 49 ty 32 i0 (.agg #[.int .i64 0, .int .u64 0, .int .u64 0, .bool false]) Try.underlying49 hi hz0 ad M sc ys (by rw [hs.len, hz1]) hnews (by omega) (by omega) (by rw [hz2]; omega)] at hrun
          injection hrun with e1 e2
          exact ⟨_, _, by rw [← e1, Nat.zero_add], .inr ⟨_, rfl, Nat.le_refl _⟩⟩
      · cases e1
        by_cases hroom : n + M ≤ c
        · rw [run_append_room (P := Try.prog) w 49 ty 32 i0 Try.underlying49 hi g n c cur hg ad M sc ys (by rw [hs.len, hz1]) hnews hs.one hroom (by rw [hz1, hs.len, hcs]; omega)] at hrun
          injection hrun with e1 e2
          exact ⟨_, _, e1.symm, .inl rfl⟩
        · rw [run_append_grow (P := Try.prog) w 49 ty 32 i0 (.agg #[.int .i64 0, .int .u64 0, .int .u64 0, .bool false]) Try.underlying49 hi hz0 ⟨g, 0, none⟩ n c xs (by rw [hr.own.1, hz1]) (hr.own.cells (g := g) rfl) ad M sc ys (by rw [hs.len, hz1]) hnews (by omega) (by omega) (growslice_fits (by omega) (by rw [hz2]; omega))] at hrun
          injection hrun with e1 e2
          exact ⟨_, _, e1.symm, .inr ⟨_, rfl, Nat.le_refl _⟩⟩
    obtain ⟨p', c', rfl, r5⟩ := r4
    exact ⟨p', c', w', hrun, ⟨r1, h1⟩, KP.grown r2, r5⟩
theorem app_v {w : World} {ops : Array Oper} {rest : List Oper} {o : Oper} {a : Act} {Q : Exit → Act → World → Prop} (hgd : o.guard = none) (s x : Operand)
    (ho : o.op = .call { callee := .builtin .append, args := #[s, x], argTypes := #[49, 49] }) (B : Nat) (p sp : Option Addr) (n c M sc : Nat) (xs ys : List Value) (hr : Row B 32 4 p n c xs w) (hs : Src 4 sp M ys w) (h0 : sp = none → sc = 0) (K : Nat) (hK : n + M = K) (hn : K ≤ 1000000000000) (hB : B ≤ w.heap.size)
    (he : a.eval s = .slice p n c) (hx : a.eval x = .slice sp M sc)
    (h : ∀ p' c' w', Row B 32 4 p' K c' (xs ++ ys) w' → KP (blk p) w w' → Nx w p p' → wpList Try.prog ops Q rest (a.put o.dst (.slice p' K c')) w') :
    wpList Try.prog ops Q (o :: rest) a w := by
  subst hK
  obtain ⟨p', c', w', hrun, r1, r2, r3⟩ := run_app_v w B o.type p sp n c M sc xs ys hr hs h0 hn hB
  exact Lib.wpList_append_run w hgd s x 49 49 ho _ _ he hx _ _ hrun (h p' c' w' r1 r2 r3)
theorem zeroB (m : Nat) : (Builtin.zeroCells (Value.int .u8 0).cells m).toList = repC [.int .u8 0] m := madeB m
theorem run_zeros (w : World) (B : Nat) (ty : TypeId) (p : Option Addr) (n c K : Nat) (xs : List Value) (hr : Row B 5 1 p n c xs w) (hn : n + K ≤ 1000000000000) (hB : B ≤ w.heap.size) :
    ∃ p' c' w', (Builtin.append_ #[27, 3] ty #[.slice p n c, .int .i64 K]).run Try.prog w = .ok (.slice p' (n + K) c') w' ∧ Row B 5 1 p' (n + K) c' (xs ++ repC [.int .u8 0] K) w' ∧ KP (blk p) w w' ∧ Nx w p p' := by
  obtain ⟨i0, hi, hz0, hz1, hz2⟩ := info_parts info5
  have h1 : ∀ u ∈ xs ++ repC [.int .u8 0] K, u.oneCell' = true := fun u hu => (List.mem_append.1 hu).elim (hr.one u) (repC_one (by simp [Value.oneCell']) _ u)
  have hrl : (repC [.int .u8 0] K).length = K := by rw [repC_len]; simp
  have hxl := hr.own.1
  have hw : IntKind.i64.wrap (K : Int) = K := by rw [IntKind.wrap_i64]; omega
  have hneg : ¬ ((K : Int) < 0) := by omega
  have h48i : ¬ (281474976710656 < (K : Int) * (i0.bytes : Int)) := by rw [hz2]; omega
  have new : ∀ (old : Nat), old < n + K → ∀ cp (hge : n + K ≤ cp) (hcm : cp ≤ maxLen), Row B 5 1 (some ⟨w.heap.size, 0, none⟩) (n + K) cp (xs ++ repC [.int .u8 0] K) (w.drew.alloc (.cells (xs.toArray ++ Builtin.zeroCells (Value.int .u8 0).cells K ++ Builtin.zeroCells (Value.int .u8 0).cells (cp - (n + K))) 5)) := by
    intro old ho cp hge hcm
    refine ⟨⟨by rw [List.length_append, hrl, hxl]; omega, .inr ⟨w.heap.size, _, _, rfl, hB, heap_alloc_new w.drew _, hge, hcm, ?_, ?_⟩⟩, h1⟩
    · have e1 := size_zeroCells (Value.int .u8 0).cells K
      have e2 := size_zeroCells (Value.int .u8 0).cells (cp - (n + K))
      have e3 : (Value.int .u8 0).cells.size = 1 := rfl
      simp only [Array.size_append, List.size_toArray, e1, e2, e3, hxl]
      omega
    · simp only [Array.toList_append, List.append_assoc]
      rw [← List.append_assoc, zeroB, show (n + K) * 1 = (xs ++ repC [.int .u8 0] K).length by rw [List.length_append, hrl, hxl]; omega]
      exact List.take_left
  rcases hr.own.2 with ⟨e1, e2⟩ | ⟨g, cap, cur, e1, hbg, hg, hnc, hcm, hcs, htake⟩
  · cases e1
    have hxs : xs = [] := List.eq_nil_of_length_eq_zero (by simpa using hxl)
    subst hxs
    by_cases hK : K = 0
    · subst hK
      refine ⟨none, 0, w, ?_, hr, KP.refl _ _, .inl rfl⟩
      have hz : (0 : Int) * (i0.bytes : Int) ≤ 281474976710656 := by simp
      simp [Builtin.append_, run_underlying Try.underlying27, run_underlying Try.underlying3, sizeOf, typeInfo, hi, asInt, asIntOf, show IntKind.i64.wrap 0 = 0 by decide]
    · have hrun := Lib.run_append_nil_zeros (P := Try.prog) w 27 3 ty 5 i0 (.int .u8 0) .i64 .i64 Try.underlying27 Try.underlying3 hi hz0 K (by omega) (by omega) (by omega) (by rw [hz2]; omega)
      have hge := grownCap_ge w K 0 5
      have hcm := grownCap_le_maxLen w K 0 5 (by unfold maxLen; omega)
      have hnew := new 0 (by omega) (grownCap w K 0 5) (by omega) hcm
      simp only [Nat.zero_add, List.nil_append, Array.empty_append] at hnew ⊢
      exact ⟨_, _, _, hrun, hnew, ((KP.refl _ _).drew.alloc _), .inr ⟨_, rfl, Nat.le_refl _⟩⟩
  · cases e1
    by_cases hroom : n + K ≤ c
    · have hzl : ((Builtin.zeroCells (Value.int .u8 0).cells K)).toList = repC [.int .u8 0] K := zeroB K
      have hst := run_storeCells_at Try.prog g n 5 (repC [.int .u8 0] K) 0 cur w hg (by rw [hrl]; omega) (repC_one (by simp [Value.oneCell']) _)
      rw [Nat.add_zero] at hst
      refine ⟨some ⟨g, 0, none⟩, c, w.setRow g (cur.toList.take n ++ repC [.int .u8 0] K ++ cur.toList.drop (n + (repC [.int .u8 0] K).length)).toArray, ?_, ⟨⟨by rw [List.length_append, hrl, hxl]; omega, .inr ⟨g, _, _, rfl, hbg, setRow_heap w g cur _ 5 _ hg, hroom, hcm, ?_, ?_⟩⟩, h1⟩, (KP.refl _ _).setRow rfl _, .inl rfl⟩
      · by_cases hK : K = 0
        · subst hK
          rw [show (cur.toList.take n ++ repC [.int .u8 0] 0 ++ cur.toList.drop (n + (repC [.int .u8 0] 0).length)).toArray = cur by simp [repC], setRow_self w g cur 5 _ hg]
          simp [Builtin.append_, run_underlying Try.underlying27, run_underlying Try.underlying3, sizeOf, typeInfo, hi, asInt, asIntOf, show IntKind.i64.wrap 0 = 0 by decide, storeCells, hnc]
        · have hns : ¬ (K * i0.size = 0) := by rw [hz1]; omega
          have hst' : (storeCells ((⟨g, 0, none⟩ : Addr).add (n * i0.size)) (Builtin.zeroCells (Value.int .u8 0).cells K).toList).run Try.prog w = .ok () (w.setRow g (cur.toList.take n ++ repC [.int .u8 0] K ++ cur.toList.drop (n + (repC [.int .u8 0] K).length)).toArray) := by
            rw [hzl, addr_add, hz1, Nat.zero_add, Nat.mul_one]
            exact hst
          simp [Builtin.append_, run_underlying Try.underlying27, run_underlying Try.underlying3, sizeOf, typeInfo, zeroValue, hi, hz0, asInt, asIntOf, hw, hroom, hneg, h48i, hns, hst']
      · simp only [List.size_toArray, List.length_append, List.length_take, List.length_drop, Array.length_toList, hrl]
        omega
      · simp only [List.toList_toArray]
        rw [show (n + K) * 1 = (cur.toList.take n ++ repC [.int .u8 0] K).length by simp [hrl]; omega, List.take_left, ← htake]
        simp
    · have hrun := Lib.run_append_grow_zeros (P := Try.prog) w 27 3 ty 5 i0 (.int .u8 0) .i64 .i64 Try.underlying27 Try.underlying3 hi hz0 (some ⟨g, 0, none⟩) n c xs (by
          have hf := run_firstCells_some (P := Try.prog) w.drew i0.size n ⟨g, 0, none⟩ n c xs (by rw [hxl, hz1]) (hr.own.cells (g := g) rfl)
          exact hf) K (by omega) (by omega) (by omega) (by omega) (by rw [hz2]; omega) (growslice_fits (by omega) (by rw [hz2]; omega))
      exact ⟨_, _, _, hrun, new c (by omega) _ (grownCap_ge _ _ _ _) (grownCap_le_maxLen _ _ _ _ (by unfold maxLen; omega)), ((KP.refl _ _).drew.alloc _), .inr ⟨_, rfl, Nat.le_refl _⟩⟩
theorem app_z {w : World} {ops : Array Oper} {rest : List Oper} {o : Oper} {a : Act} {Q : Exit → Act → World → Prop} (hgd : o.guard = none) (s x : Operand)
    (ho : o.op = .call { callee := .builtin .append, args := #[s, x], argTypes := #[27, 3] }) (B : Nat) (p : Option Addr) (n c K : Nat) (xs : List Value) (hr : Row B 5 1 p n c xs w) (L : Nat) (hL : n + K = L) (hn : L ≤ 1000000000000) (hB : B ≤ w.heap.size)
    (he : a.eval s = .slice p n c) (hx : a.eval x = .int .i64 K)
    (h : ∀ p' c' w', Row B 5 1 p' L c' (xs ++ repC [.int .u8 0] K) w' → KP (blk p) w w' → Nx w p p' → wpList Try.prog ops Q rest (a.put o.dst (.slice p' L c')) w') :
    wpList Try.prog ops Q (o :: rest) a w := by
  subst hL
  obtain ⟨p', c', w', hrun, r1, r2, r3⟩ := run_zeros w B o.type p n c K xs hr hn hB
  exact Lib.wpList_append_run w hgd s x 27 3 ho _ _ he hx _ _ hrun (h p' c' w' r1 r2 r3)
end Go.Proofs.Ytlifnddofgeaaaa
