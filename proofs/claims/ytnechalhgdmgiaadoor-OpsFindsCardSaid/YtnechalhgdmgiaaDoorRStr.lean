/-
  Strings as lists of bytes; a row of strings that grows.
-/
import Derived.Test.YtnechalhgdmgiaaDoorOpsAll0
import Derived.Laws.Concat
set_option linter.unusedSimpArgs false
set_option linter.unusedVariables false
namespace Go.Proofs.YtnechalhgdmgiaaDoor
open Go.RowKit

def str (l : List UInt8) : ByteArray := ⟨l.toArray⟩
theorem str_list (l : List UInt8) : (str l).toList = l := by rw [ByteArray.toList_eq]; rfl
theorem str_size (l : List UInt8) : (str l).size = l.length := by simp [str, ByteArray.size]
theorem str_get (l : List UInt8) (n : Nat) (h : n < l.length) (h' : n < (str l).size) : (str l)[n]'h' = l[n] := by
  show (l.toArray)[n]'(by simpa using h) = l[n]
  rfl
theorem str_snoc (x l : List UInt8) (n : Nat) (h : n < l.length) : str x ++ (str l).extract n (n + 1) = str (x ++ [l[n]]) := by
  apply ByteArray.ext
  simp only [ByteArray.data_append, ByteArray.data_extract, str]
  rw [List.extract_toArray, List.append_toArray]
  congr 2
  rw [List.extract_eq_take_drop, Nat.add_sub_cancel_left, List.drop_eq_getElem_cons h]
  rfl
theorem str_inj {a b : List UInt8} (h : str a = str b) : a = b := by rw [← str_list a, ← str_list b, h]
theorem str_of (s : ByteArray) : s = str s.data.toList := rfl

def sc (l : List (List UInt8)) : List Value := l.map fun x => Value.string (str x)

theorem info9 : (Tryd.prog.info? 9).map (fun i => (i.zero, i.size, i.bytes)) = some (some (.string ⟨#[]⟩), 1, 16) := by kernel_rfl
theorem append_str {w : World} {ops : Array Oper} {rest : List Oper} {o : Oper} {a : Act} {Q : Exit → Act → World → Prop} (hgd : o.guard = none) (s x : Operand)
    (ho : o.op = .call { callee := .builtin .append, args := #[s, x], argTypes := #[38, 38] }) (base : Nat) (v : Value) (n : Nat) (xs : List Value) (q : ByteArray)
    (hown : w.ownsRow base 9 1 v n xs) (hbase : base ≤ w.heap.size) (hn : n + 1 ≤ 1000000) (hs : a.eval s = v) (hx : a.eval x = .slice (some ⟨w.heap.size, 0, none⟩) 1 1)
    (h : ∀ v' w', w'.ownsRow base 9 1 v' (n + 1) (xs ++ [.string q]) → Below base w w' → base ≤ w'.heap.size → wpList Tryd.prog ops Q rest (a.put o.dst v') w') :
    wpList Tryd.prog ops Q (o :: rest) a (w.alloc (.cells #[.string q] 9)) := by
  obtain ⟨i0, hi, hz0, hz1, hz2⟩ := info_parts info9
  have hb1 := (Below.refl base w).alloc hbase (.cells #[.string q] 9)
  refine wpList_append_own _ hgd s x 38 ho base 9 i0 (.string ⟨#[]⟩) 1 16 Tryd.underlying38 hi hz0 hz1 hz2 rfl (by decide) v n xs hs (hown.alloc _) ⟨w.heap.size, 0, none⟩ 1 1 [.string q] hx rfl (cell_one_new _ _ _)
    (fun u hu => by simp at hu; subst hu; rfl) (by unfold maxLen; omega) (by omega) (by simp; omega) ?_
  intro v' w1 hown' hgrow _
  exact h v' w1 hown' (hb1.grown hgrow (by simp; omega) (fun k hk => (hown.lt k hk).1)) (by have := hgrow.size; simp at this; omega)

/-- A step over a text's byte: the words so far, the word at hand. -/
def stepW (p : List (List UInt8) × List UInt8) (c : UInt8) : List (List UInt8) × List UInt8 :=
  match p with
  | (o, x) => if c = 32 then (if x = [] then (o, []) else (o ++ [x], [])) else (o, x ++ [c])
def wst (l : List UInt8) (n : Nat) : List (List UInt8) × List UInt8 := ((l ++ [32]).take n).foldl stepW ([], [])
/-- The words of a text. -/
def wordsL (l : List UInt8) : List (List UInt8) := (wst l (l.length + 1)).1
theorem wst_succ (l : List UInt8) (n : Nat) (c : UInt8) (h : (l ++ [32])[n]? = some c) : wst l (n + 1) = stepW (wst l n) c := by
  unfold wst
  rw [List.take_add_one, h, List.foldl_append]
  rfl
theorem wst_len (l : List UInt8) (n : Nat) : (wst l n).1.length + (wst l n).2.length ≤ n := by
  induction n with
  | zero => simp [wst]
  | succ n ih =>
    cases h : (l ++ [32])[n]? with
    | none =>
      have e : wst l (n + 1) = wst l n := by unfold wst; rw [List.take_add_one, h]; simp
      rw [e]; omega
    | some c =>
      rw [wst_succ l n c h]
      generalize wst l n = p at ih
      obtain ⟨o, x⟩ := p
      simp only [stepW] at ih ⊢
      split
      · split
        · rename_i hx; subst hx; simp at ih ⊢; omega
        · rename_i hx
          have : 0 < x.length := List.length_pos_iff.2 hx
          simp; omega
      · simp; omega
end Go.Proofs.YtnechalhgdmgiaaDoor
