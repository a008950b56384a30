/-
  'copy' of elements of any size into a row of ours; a row laid over in part. No condition.
-/
import Derived.Test.YtlifnddofgeaaaaPart
set_option linter.unusedSimpArgs false
set_option linter.unusedVariables false
set_option maxRecDepth 100000
namespace Go.Proofs.Ytlifnddofgeaaaa
open Go.RowKit

theorem run_copy_rowS (P : Program) (w : World) (dT sT ty elem : TypeId) (s : Nat) (g o dLen dCap : Nat) (a : Addr) (sLen sCap : Nat) (cur : Array Value) (t : TypeId) (cs : List Value)
    (hu : P.underlying dT = some (.slice elem)) (hs : (P.info? elem).map (·.size) = some s)
    (hg : w.heap[g]? = some (.cells cur t (0, 0))) (hn : cs.length = Nat.min sLen dLen * s)
    (hsrc : ∀ j v, cs[j]? = some v → w.cell? (a.add j) = some v) (hfit : o + cs.length ≤ cur.size) (h1 : ∀ v ∈ cs, v.oneCell' = true) :
    (Builtin.copy_ #[dT, sT] ty #[.slice (some ⟨g, o, none⟩) dLen dCap, .slice (some a) sLen sCap]).run P w =
      .ok (goInt (Nat.min sLen dLen : Nat)) (w.setRow g (cur.toList.take o ++ cs ++ cur.toList.drop (o + cs.length)).toArray) := by
  have hl := run_loadCells_list (P := P) w a cs hsrc
  have hst := run_storeCells_at P g o t cs 0 cur w hg (by simpa using hfit) h1
  cases hq : P.info? elem with
  | none => simp [hq] at hs
  | some i =>
    have hi : i.size = s := by simpa [hq] using hs
    simp [Builtin.copy_, run_underlying hu, Builtin.lenOf, Builtin.firstCells, sizeOf, typeInfo, hq, hi, ← hn, hl, hst]
theorem wpList_copy_ownS {P : Program} {w : World} {ops : Array Oper} {rest : List Oper} {o : Oper} {a : Act} {Q : Exit → Act → World → Prop} (hgd : o.guard = none) (d s : Operand) (dT sT : TypeId)
    (ho : o.op = .call { callee := .builtin .copy, args := #[d, s], argTypes := #[dT, sT] }) (elem : TypeId) (hu : P.underlying dT = some (.slice elem)) (sz : Nat) (hsz : (P.info? elem).map (·.size) = some sz)
    (g off dLen dCap : Nat) (ad : Addr) (sLen sCap : Nat) (hd : a.eval d = .slice (some ⟨g, off, none⟩) dLen dCap) (hs : a.eval s = .slice (some ad) sLen sCap)
    (cur : Array Value) (t : TypeId) (hg : w.heap[g]? = some (.cells cur t (0, 0))) (cs : List Value) (hn : cs.length = Nat.min sLen dLen * sz)
    (hsrc : ∀ j v, cs[j]? = some v → w.cell? (ad.add j) = some v) (hfit : off + cs.length ≤ cur.size) (h1 : ∀ v ∈ cs, v.oneCell' = true)
    (h : wpList P ops Q rest (a.put o.dst (goInt (Nat.min sLen dLen : Nat))) (w.setRow g (cur.toList.take off ++ (cs ++ cur.toList.drop (off + cs.length))).toArray)) : wpList P ops Q (o :: rest) a w := by
  refine wpList_plain hgd fun K hK => ?_
  have hrun := run_copy_rowS P w dT sT o.type elem sz g off dLen dCap ad sLen sCap cur t cs hu hsz hg hn hsrc hfit h1
  unfold Oper.wp
  simp [execOp, ho, resolve, invoke, builtin, hd, hs, hrun, Result.andThen]
  exact hK _ _ (by simpa using h)
theorem wpList_copy_nothingS {P : Program} {w : World} {ops : Array Oper} {rest : List Oper} {o : Oper} {a : Act} {Q : Exit → Act → World → Prop} (hgd : o.guard = none) (d s : Operand) (dT sT : TypeId)
    (ho : o.op = .call { callee := .builtin .copy, args := #[d, s], argTypes := #[dT, sT] }) (elem : TypeId) (hu : P.underlying dT = some (.slice elem)) (sz : Nat) (hsz : (P.info? elem).map (·.size) = some sz)
    (dp sp : Option Addr) (n dCap sCap : Nat) (hn : n = 0) (hd : a.eval d = .slice dp n dCap) (hs : a.eval s = .slice sp n sCap)
    (h : wpList P ops Q rest (a.put o.dst (goInt 0)) w) : wpList P ops Q (o :: rest) a w := by
  subst hn
  refine wpList_plain hgd fun K hK => ?_
  have hrun : (Builtin.copy_ #[dT, sT] o.type #[.slice dp 0 dCap, .slice sp 0 sCap]).run P w = .ok (goInt 0) w := by
    have hl0 : ∀ a : Addr, (loadCells a 0).run P w = .ok #[] w := fun a => by simpa using run_loadCells_list (P := P) w a [] (fun j v hj => by cases hj)
    cases hq : P.info? elem with
    | none => simp [hq] at hsz
    | some i =>
      have hi : i.size = sz := by simpa [hq] using hsz
      cases dp <;> cases sp <;> simp [Builtin.copy_, run_underlying hu, Builtin.lenOf, Builtin.firstCells, sizeOf, typeInfo, hq, hi, storeCells, hl0]
  unfold Oper.wp
  simp [execOp, ho, resolve, invoke, builtin, hd, hs, hrun, Result.andThen]
  exact hK _ _ h
/-- The part of a list from a place on. -/
def cut {α : Type} (ys : List α) (a n : Nat) : List α := (ys.drop a).take n
theorem cut_len {α : Type} {ys : List α} {a n : Nat} (h : a + n ≤ ys.length) : (cut ys a n).length = n := by simp [cut]; omega
theorem cut_at {α : Type} {ys : List α} {a n j : Nat} {v : α} (h : (cut ys a n)[j]? = some v) : ys[a + j]? = some v := by
  simp only [cut, List.getElem?_take, List.getElem?_drop] at h
  split at h
  · exact h
  · cases h
theorem cut_mem {α : Type} {ys : List α} {a n : Nat} {v : α} (h : v ∈ cut ys a n) : v ∈ ys := List.mem_of_mem_drop (List.mem_of_mem_take h)
theorem splice_nil {α : Type} (L : List α) (k : Nat) : splice L k [] = L := by simp [splice]
theorem splice_app {α : Type} (L : List α) (k : Nat) (A B : List α) (h : k + A.length ≤ L.length) : splice (splice L k A) (k + A.length) B = splice L k (A ++ B) := by
  unfold splice
  have h1 : (L.take k ++ (A ++ L.drop (k + A.length))).take (k + A.length) = L.take k ++ A := by
    rw [← List.append_assoc, List.take_append_of_le_length (by simp; omega), List.take_of_length_le (by simp; omega)]
  have h2 : (L.take k ++ (A ++ L.drop (k + A.length))).drop (k + A.length + B.length) = L.drop (k + (A ++ B).length) := by
    rw [← List.append_assoc, List.drop_append]
    have : (L.take k ++ A).length = k + A.length := by simp; omega
    rw [this, List.drop_eq_nil_of_le (by rw [this]; omega), List.nil_append, List.drop_drop]
    congr 1
    simp
    omega
  rw [h1, h2]
  simp
theorem splice_one {α : Type} (L : List α) (k : Nat) (x : α) (h : k < L.length) : L.set k x = splice L k [x] := by
  unfold splice
  rw [List.set_eq_take_append_cons_drop, if_pos h]
  rfl
theorem mem_splice {α : Type} {L : List α} {k : Nat} {A : List α} {v : α} (h : v ∈ splice L k A) : v ∈ L ∨ v ∈ A := by
  simp only [splice, List.mem_append] at h
  rcases h with h | h | h
  · exact .inl (List.mem_of_mem_take h)
  · exact .inr h
  · exact .inl (List.mem_of_mem_drop h)
theorem splice_front {α : Type} (xs L : List α) (k : Nat) (A : List α) (h : k + A.length ≤ xs.length) (hx : xs = L.take xs.length) : splice L k A = splice xs k A ++ L.drop xs.length := by
  obtain ⟨R, rfl⟩ : ∃ R, L = xs ++ R := ⟨L.drop xs.length, by conv => lhs; rw [← List.take_append_drop xs.length L, ← hx]⟩
  unfold splice
  rw [List.take_append_of_le_length (by omega), List.drop_append_of_le_length h]
  simp
/-- A row of ours that is laid over in part. -/
theorem Row.splice {B T s n c g : Nat} {xs A : List Value} {w w' : World} {k : Nat} (h : Row B T s (some ⟨g, 0, none⟩) n c xs w) (hk : k + A.length ≤ xs.length) (h1 : ∀ u ∈ A, u.oneCell' = true)
    (hw : ∀ cur, w.heap[g]? = some (.cells cur T (0, 0)) → w'.heap[g]? = some (.cells (Go.splice cur.toList k A).toArray T (0, 0))) : Row B T s (some ⟨g, 0, none⟩) n c (Go.splice xs k A) w' := by
  refine h.put (length_splice _ _ _ hk) (fun u hu => (mem_splice hu).elim (h.one u) (h1 u)) (fun cur hc => ?_)
  rw [hw cur hc, splice_front xs cur.toList k A hk]
  rcases h.own.2 with ⟨h1, h2⟩ | ⟨g', cap, cur', h1, h2, h3, h4, h5, h6, h7⟩
  · cases h1
  · cases h1
    rw [h3] at hc
    cases hc
    rw [h.own.1]
    exact h7.symm
theorem KP.setRow {c : Option Nat} {g : Nat} {a w : World} (h : KP c a w) (hg : c = some g) (cs : Array Value) : KP c a (w.setRow g cs) :=
  ⟨h.os, h.tape, h.output, by simpa [World.setRow] using h.size, fun k hk hc => by
    rw [setRow_other w g k cs (by rintro rfl; exact hc hg)]
    exact h.block k hk hc⟩
/-- Where a row that holds something lies. -/
theorem Row.pos {B T s n c : Nat} {p : Option Addr} {xs : List Value} {w : World} (h : Row B T s p n c xs w) (hn : n ≠ 0) : ∃ g cur, p = some ⟨g, 0, none⟩ ∧ B ≤ g ∧ CA g cur T w ∧ cur.size = c * s := by
  rcases h.own.2 with ⟨h1, h2⟩ | ⟨g, cap, cur, h1, h2, h3, h4, h5, h6, h7⟩
  · exact absurd h2 hn
  · cases h1
    exact ⟨g, cur, rfl, h2, h3, h6⟩
end Go.Proofs.Ytlifnddofgeaaaa
