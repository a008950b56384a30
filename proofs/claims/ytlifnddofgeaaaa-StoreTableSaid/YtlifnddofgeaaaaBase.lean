/-
  Rows in memory: what a slice's cells are, what stays behind a call that writes one block. No condition.
-/
import Derived.Test.YtlifnddofgeaaaaProg
import Derived.WalkKit
import Derived.WalkSpells
import Derived.WalkLawsBesides
import Derived.OwnWalk
import Derived.Deep.DeepCutAuto
import Derived.Deep.RegionHeld3
import Derived.Shelf.Abstract
import Derived.Lib.UnsafeStr
import Derived.Laws.AppendOwnNone
import Derived.Laws.CopyOwn
import Derived.Laws.BytesArg
import Derived.Lib.SlBytesConst
set_option linter.unusedSimpArgs false
set_option linter.unusedVariables false
set_option maxRecDepth 100000
namespace Go.Proofs.Ytlifnddofgeaaaa
open Go.RowKit

theorem info5 : (Try.prog.info? 5).map (fun i => (i.zero, i.size, i.bytes)) = some (some (.int .u8 0), 1, 1) := by kernel_rfl
theorem hid {p : Prop} (h : p) : Hid p := h
/-- Block g holds these cells. -/
def CA (g : Nat) (cs : Array Value) (T : TypeId) (W : World) : Prop := W.heap[g]? = some (.cells cs T (0, 0))
theorem CA.lt {g : Nat} {cs : Array Value} {T : TypeId} {W : World} (h : CA g cs T W) : g < W.heap.size := (Array.getElem?_eq_some_iff.1 h).1
theorem CA.new (w : World) (cs : Array Value) (T : TypeId) : CA w.heap.size cs T (w.alloc (.cells cs T)) := by
  show (w.heap.push _)[w.heap.size]? = _
  simp
theorem CA.at {g k : Nat} {cs : Array Value} {T : TypeId} {W : World} {v : Value} (h : CA g cs T W) (hk : cs[k]? = some v) : W.cell? ⟨g, k, none⟩ = some v := by
  unfold CA at h
  rw [World.cell?, h]
  simp [hk]
theorem CA.free {g : Nat} {cs : Array Value} {T : TypeId} {W : World} (h : CA g cs T W) (k : Nat) : W.frozen? ⟨g, k, none⟩ = false := by
  unfold CA at h
  rw [World.frozen?, h]
  simp
theorem CA.set {g k : Nat} {cs : Array Value} {T : TypeId} {W : World} (h : CA g cs T W) (v : Value) : CA g (cs.setIfInBounds k v) T (W.setCell ⟨g, k, none⟩ v) := by
  unfold CA at h ⊢
  rw [World.setCell, Array.getElem?_modify, if_pos rfl, h]
  rfl
theorem CA.below {g B : Nat} {cs : Array Value} {T : TypeId} {W W' : World} (h : CA g cs T W) (hb : Below B W W') (hg : g < B) : CA g cs T W' := by
  unfold CA at h ⊢
  rw [hb.block g hg, h]
theorem CA.alloc {g : Nat} {cs : Array Value} {T : TypeId} {W : World} (h : CA g cs T W) (o : Obj) : CA g cs T (W.alloc o) := h.below ((Below.refl _ _).alloc (Nat.le_refl _) o) h.lt
theorem size_al (w : World) (o : Obj) : (w.alloc o).heap.size = w.heap.size + 1 := by simp
theorem addr_add (g off j : Nat) : (⟨g, off, none⟩ : Addr).add j = ⟨g, off + j, none⟩ := by unfold Addr.add; split <;> simp_all
/-- All blocks stay but perhaps one. -/
structure KP (c : Option Nat) (w w' : World) : Prop where
  os : w'.os = w.os
  tape : w'.tape = w.tape
  output : w'.output = w.output
  size : w.heap.size ≤ w'.heap.size
  block : ∀ k, k < w.heap.size → c ≠ some k → w'.heap[k]? = w.heap[k]?
theorem KP.refl (c : Option Nat) (w : World) : KP c w w := ⟨rfl, rfl, rfl, Nat.le_refl _, fun _ _ _ => rfl⟩
theorem KP.trans {c : Option Nat} {a b w : World} (h : KP c a b) (k : KP c b w) : KP c a w :=
  ⟨k.os.trans h.os, k.tape.trans h.tape, k.output.trans h.output, Nat.le_trans h.size k.size, fun i hi hc => (k.block i (Nat.lt_of_lt_of_le hi h.size) hc).trans (h.block i hi hc)⟩
theorem KP.of {c : Option Nat} {w w' : World} (h : Below w.heap.size w w') : KP c w w' := ⟨h.os, h.tape, h.output, h.size, fun k hk _ => h.block k hk⟩
theorem KP.pure {w w' : World} (h : KP none w w') : Below w.heap.size w w' := ⟨h.os, h.tape, h.output, h.size, fun k hk => h.block k hk (by simp)⟩
theorem KP.alloc {c : Option Nat} {a w : World} (h : KP c a w) (o : Obj) : KP c a (w.alloc o) := h.trans (KP.of ((Below.refl _ _).alloc (Nat.le_refl _) o))
theorem KP.below {c : Option Nat} {w w' : World} {B : Nat} (h : KP c w w') (hB : B ≤ w.heap.size) (hc : ∀ k, c = some k → B ≤ k) : Below B w w' :=
  ⟨h.os, h.tape, h.output, h.size, fun k hk => h.block k (by omega) (fun e => by have := hc k e; omega)⟩
theorem KP.one {g : Nat} {w w' : World} (h : KP none w w') : KP (some g) w w' := ⟨h.os, h.tape, h.output, h.size, fun k hk _ => h.block k hk (by simp)⟩
theorem KP.setCell {c : Option Nat} {g o : Nat} {a w : World} (h : KP c a w) (hg : c = some g ∨ a.heap.size ≤ g) (v : Value) : KP c a (w.setCell ⟨g, o, none⟩ v) :=
  ⟨h.os, h.tape, h.output, by simpa [World.setCell] using h.size, fun k hk hc => by
    have hne : g ≠ k := by
      rintro rfl
      rcases hg with hg | hg
      · exact hc hg
      · omega
    rw [World.setCell, Array.getElem?_modify, if_neg hne]
    exact h.block k hk hc⟩
theorem KP.drew {c : Option Nat} {a w : World} (h : KP c a w) : KP c a w.drew := ⟨h.os, h.tape, h.output, h.size, h.block⟩
theorem KP.cell {c : Option Nat} {g k : Nat} {w w' : World} {v : Value} (h : KP c w w') (hg : c ≠ some g) (hc : w.cell? ⟨g, k, none⟩ = some v) : w'.cell? ⟨g, k, none⟩ = some v := by
  have hl : g < w.heap.size := by
    rcases Nat.lt_or_ge g w.heap.size with h1 | h1
    · exact h1
    · rw [World.cell?, Array.getElem?_eq_none h1] at hc; cases hc
  have := h.block g hl hg
  rw [World.cell?] at hc ⊢
  rw [this]
  exact hc
theorem CA.keep {g : Nat} {cs : Array Value} {T : TypeId} {W W' : World} {c : Option Nat} (h : CA g cs T W) (hb : KP c W W') (hg : c ≠ some g) : CA g cs T W' := by
  have hl := h.lt
  unfold CA at h ⊢
  rw [hb.block g hl hg, h]
/-- What a slice of n elements, each of s cells, holds. -/
structure Src (s : Nat) (p : Option Addr) (n : Nat) (xs : List Value) (w : World) : Prop where
  len : xs.length = n * s
  one : ∀ u ∈ xs, u.oneCell' = true
  at_ : xs ≠ [] → ∃ g o, p = some ⟨g, o, none⟩ ∧ g < w.heap.size ∧ ∀ j u, xs[j]? = some u → w.cell? ⟨g, o + j, none⟩ = some u
theorem Src.keep {s n : Nat} {p : Option Addr} {xs : List Value} {w w' : World} {c : Option Nat} (h : Src s p n xs w) (hk : KP c w w') (hc : ∀ g o, p = some ⟨g, o, none⟩ → c ≠ some g) : Src s p n xs w' := by
  refine ⟨h.len, h.one, fun hn => ?_⟩
  obtain ⟨g, o, rfl, hg, ha⟩ := h.at_ hn
  exact ⟨g, o, rfl, Nat.lt_of_lt_of_le hg hk.size, fun j u hj => hk.cell (hc g o rfl) (ha j u hj)⟩
theorem Src.below {s n : Nat} {p : Option Addr} {xs : List Value} {w w' : World} (h : Src s p n xs w) (hk : Below w.heap.size w w') : Src s p n xs w' := h.keep (KP.of (c := none) hk) (fun _ _ _ => by simp)
/-- A row of ours in one block: where it lies, how far it may go. -/
structure Row (B T s : Nat) (p : Option Addr) (n c : Nat) (xs : List Value) (w : World) : Prop where
  own : w.ownsRow B T s (.slice p n c) n xs
  one : ∀ u ∈ xs, u.oneCell' = true
theorem Row.src {B T s n c : Nat} {p : Option Addr} {xs : List Value} {w : World} (h : Row B T s p n c xs w) : Src s p n xs w := by
  refine ⟨h.own.1, h.one, fun hn => ?_⟩
  rcases h.own.2 with ⟨h1, h2⟩ | ⟨g, cap, cur, h1, h2, h3, h4, h5, h6, h7⟩
  · have := h.own.1
    rw [h2, Nat.zero_mul] at this
    exact absurd (List.eq_nil_of_length_eq_zero this) hn
  · cases h1
    refine ⟨g, 0, rfl, (Array.getElem?_eq_some_iff.1 h3).1, fun j u hj => ?_⟩
    rw [Nat.zero_add, cell_of_row _ _ _ cur T _ h3, ← Array.getElem?_toList]
    rw [← h7, List.getElem?_take] at hj
    split at hj
    · exact hj
    · cases hj
theorem Row.cap {B T s n c : Nat} {p : Option Addr} {xs : List Value} {w : World} (h : Row B T s p n c xs w) : n ≤ c ∧ c ≤ maxLen := by
  rcases h.own.2 with ⟨h1, h2⟩ | ⟨g, cap, cur, h1, h2, h3, h4, h5, h6, h7⟩
  · cases h1; exact ⟨Nat.le_refl _, Nat.zero_le _⟩
  · cases h1; exact ⟨h4, h5⟩
theorem Row.keep {B T s n c : Nat} {p : Option Addr} {xs : List Value} {w w' : World} {k : Option Nat} (h : Row B T s p n c xs w) (hk : KP k w w') (hc : ∀ g o, p = some ⟨g, o, none⟩ → k ≠ some g) : Row B T s p n c xs w' := by
  refine ⟨⟨h.own.1, ?_⟩, h.one⟩
  rcases h.own.2 with h1 | ⟨g, cap, cur, h1, h2, h3, h4⟩
  · exact .inl h1
  · cases h1
    refine .inr ⟨g, _, cur, rfl, h2, ?_, h4⟩
    rw [hk.block g (Array.getElem?_eq_some_iff.1 h3).1 (hc g 0 rfl), h3]
theorem Row.below {B T s n c : Nat} {p : Option Addr} {xs : List Value} {w w' : World} (h : Row B T s p n c xs w) (hk : Below w.heap.size w w') : Row B T s p n c xs w' := h.keep (KP.of (c := none) hk) (fun _ _ _ => by simp)
theorem Row.mono {B B' T s n c : Nat} {p : Option Addr} {xs : List Value} {w : World} (h : Row B T s p n c xs w) (hb : B' ≤ B) : Row B' T s p n c xs w := by
  refine ⟨⟨h.own.1, ?_⟩, h.one⟩
  rcases h.own.2 with h2 | ⟨g, cap, cur, e1, e2, e3⟩
  · exact .inl h2
  · exact .inr ⟨g, cap, cur, e1, by omega, e3⟩
theorem Row.drew {B T s n c : Nat} {p : Option Addr} {xs : List Value} {w : World} (h : Row B T s p n c xs w) : Row B T s p n c xs w.drew := ⟨⟨h.own.1, h.own.2⟩, h.one⟩
/-- The block of a slice. -/
def blk (p : Option Addr) : Option Nat := p.map (·.block)
theorem blk_ne {p : Option Addr} {k : Nat} (h : blk p ≠ some k) : ∀ g o, p = some ⟨g, o, none⟩ → some k ≠ some g := by
  rintro g o rfl h2
  cases h2
  exact h rfl
/-- Written into: xs laid over the cells from place k on. -/
theorem Row.put {B T s n c g : Nat} {xs ys : List Value} {w w' : World} (h : Row B T s (some ⟨g, 0, none⟩) n c xs w) (hl : ys.length = xs.length) (h1 : ∀ u ∈ ys, u.oneCell' = true)
    (hw : ∀ cur, w.heap[g]? = some (.cells cur T (0, 0)) → w'.heap[g]? = some (.cells (ys ++ cur.toList.drop xs.length).toArray T (0, 0))) : Row B T s (some ⟨g, 0, none⟩) n c ys w' := by
  refine ⟨⟨by rw [hl, h.own.1], ?_⟩, h1⟩
  rcases h.own.2 with ⟨h1, h2⟩ | ⟨g', cap, cur, h1, h2, h3, h4, h5, h6, h7⟩
  · cases h1
  · cases h1
    refine .inr ⟨g, _, _, rfl, h2, hw _ h3, h4, h5, ?_, ?_⟩
    · have hx := h.own.1
      have : n * s ≤ c * s := Nat.mul_le_mul_right _ h4
      simp only [List.size_toArray, List.length_append, List.length_drop, Array.length_toList]
      omega
    · have hx := h.own.1
      simp only [List.toList_toArray]
      rw [List.take_append_of_le_length (by omega), List.take_of_length_le (by omega)]
theorem byteCells_one (l : List UInt8) : ∀ u ∈ Lib.byteCells l, u.oneCell' = true := by
  intro u hu
  simp only [Lib.byteCells, List.mem_map] at hu
  obtain ⟨b, _, rfl⟩ := hu
  rfl
theorem strOfNums_bytes (l : List UInt8) : strOfNums (l.map fun b => (b.toNat : Int)) = ⟨l.toArray⟩ := by
  unfold strOfNums
  congr 2
  rw [List.map_map]
  conv => rhs; rw [← List.map_id l]
  apply List.map_congr_left
  intro b _
  simp
/-- 'string(b)'. -/
theorem conv_bytes {w : World} {p : Option Addr} {c n : Nat} {l : List UInt8} (h : Src 1 p n (Lib.byteCells l) w) : (convert 27 9 (.slice p n c)).run Try.prog w = .ok (.string ⟨l.toArray⟩) w := by
  have hl := h.len
  rw [Lib.byteCells_length, Nat.mul_one] at hl
  subst hl
  by_cases h0 : l = []
  · subst h0
    cases p with
    | none =>
      rw [run_convert_bytes_nil w 27 5 Try.underlying27 Try.underlying5 _ _ 9 Try.underlying9]
      rfl
    | some a =>
      rw [run_convert_bytes_string w 27 9 5 (some a) _ c Try.underlying27 Try.underlying5 Try.underlying9, run_bytesToString w a _ c [] (by simpa using run_loadCells_list (P := Try.prog) w a [] (fun j v hj => by cases hj))]
      rfl
  · obtain ⟨g, o, rfl, hg, ha⟩ := h.at_ (by intro e; apply h0; have := congrArg List.length e; rw [Lib.byteCells_length] at this; exact List.eq_nil_of_length_eq_zero this)
    rw [run_convert_bytes_arg w 27 5 Try.underlying27 Try.underlying5 g o l.length c (l.map fun b => (b.toNat : Int)) (by simp) (fun i hi => ?_) 9 Try.underlying9, strOfNums_bytes]
    rw [ha i (.int .u8 l[i].toNat) (by simp [Lib.byteCells, List.getElem?_eq_getElem hi])]
    simp [List.getElem?_eq_getElem hi]
end Go.Proofs.Ytlifnddofgeaaaa
