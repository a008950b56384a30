/-
  What both readers are behind each call: plain steps for LebReads. No condition but those of each lemma.
-/
import Derived.Test.YtljfhedmpnikiaaRefName
import Derived.Test.YtljfhedmpnikiaaNone
import Derived.Deep.QuietTactic
import Derived.BigQuiet
import Derived.Deep.RegionWith
namespace Go.Proofs.Ytljfhedmpnikiaa
open Go.RowKit

/-- A slice of bytes that came in, as the document's reader has it. -/
theorem bytesz_of_row {w : World} {a : Option Addr} {len cap : Nat} {zs : List Int} (h : IsRow .u8 w a len cap zs) (hlen : len ≤ 140737488351232) : ∃ l : List UInt8, l.length = len ∧ BytesIn w.heap.size w (.slice a len cap) l ∧ BytesZ w.heap.size w (.slice a len cap) l := by
  obtain ⟨l, hl, hin⟩ := bytes_of_row h hlen
  refine ⟨l, hl, hin, ?_⟩
  rcases hin with hin | ⟨x, c, h1, h2⟩
  · exact .inl hin
  · subst h2
    rcases h with ⟨rfl, rfl, rfl, _⟩ | ⟨y, rfl, q1, q2, q3, q4, q5⟩
    · cases h1
    · obtain rfl : len = 0 := by simpa using hl.symm
      by_cases h0 : cap = 0
      · subst h0
        exact .inr ⟨y, rfl, rfl⟩
      · obtain ⟨b, off, rfl, hc⟩ := ints_at q4 (by omega)
        have hlt : b < w.heap.size := World.block_lt_of_cell? w ⟨b, off, none⟩ (by simpa using hc 0 (by omega))
        exact .inl (.inr ⟨b, off, cap, rfl, hlt, Nat.zero_le _, ⟨by unfold maxLen at q2; omega, by simp⟩, fun j u hj => by simp at hj⟩)

theorem BytesZ.mono {B B' : Nat} {w : World} {v : Value} {l : List UInt8} (h : BytesZ B w v l) (hB : B ≤ B') : BytesZ B' w v l := h.imp (fun h => h.mono hB) (fun h => h)

/-- The document's reader stays as it is where the program's reader alone has changed. -/
theorem RR.other {w w' : World} {g gw : Nat} {l l' : List UInt8} {e e' : Int} (h : RR w gw l e) (hR : Rd w g l' e') (hne : g ≠ gw) (hG : w.grownBy w' (some g)) : RR w' gw l e := by
  obtain ⟨v, h1, h2⟩ := h
  obtain ⟨sv, r1, r2⟩ := hR
  have hlt := (Array.getElem?_eq_some_iff.1 h1).1
  refine ⟨v, (hG.block gw hlt (by simpa using fun e => hne e.symm)).trans h1, ?_⟩
  rcases h2 with h2 | h2
  · rcases h2 with h2 | ⟨g', off, cap, rfl, q2, q3, q4, q5⟩
    · exact .inl (.inl h2)
    · refine .inl (.inr ⟨g', off, cap, rfl, q2, q3, q4, fun j u hj => ?_⟩)
      have hc := q5 j u hj
      have hgg : g' ≠ g := by
        rintro rfl
        rw [cell_of_row w g' (off + j) _ _ _ r1] at hc
        obtain ⟨a, n, c, rfl⟩ : ∃ a n c, sv = .slice a n c := by
          rcases r2 with ⟨rfl, _⟩ | ⟨_, _, _, rfl, _⟩
          · exact ⟨_, _, _, rfl⟩
          · exact ⟨_, _, _, rfl⟩
        rcases (show off + j = 0 ∨ off + j = 1 ∨ 2 ≤ off + j by omega) with h | h | h
        · rw [h] at hc; cases hc
        · rw [h] at hc; cases hc
        · rw [Array.getElem?_eq_none (by simpa using h)] at hc; cases hc
      rw [World.cell?_of_block (w := w) (hG.block g' (by omega) (by simpa using hgg))]
      exact hc
  · exact .inr h2

/-- Both readers, in two blocks, the program's below the document's. -/
def LR (w : World) (g gw : Nat) (l : List UInt8) (e : Int) (wr : World) : Prop :=
  Rd wr g l e ∧ RR wr gw l e ∧ (e ≠ 0 → l = []) ∧ g < gw ∧ w.heap.size ≤ g ∧ Below w.heap.size w wr

theorem LR.first {w wr w1 : World} {g gw : Nat} {l : List UInt8} {e : Int} (h : LR w g gw l e wr) (hG : wr.grownBy w1 (some g)) : RR w1 gw l e ∧ Below w.heap.size w w1 := by
  obtain ⟨h1, h2, h3, h4, h5, h6⟩ := h
  exact ⟨h2.other h1 (by omega) hG, below_grownBy h6 hG (by have := h1.lt; omega) h5⟩

theorem LR.second {w wr w1 w2 : World} {g gw : Nat} {l l1 : List UInt8} {e e1 : Int} (h : LR w g gw l e wr) (hG1 : wr.grownBy w1 (some g)) (hR1 : Rd w1 g l1 e1) (hG2 : w1.grownBy w2 (some gw)) (hR2 : RR w2 gw l1 e1) (hl : e1 ≠ 0 → l1 = []) : LR w g gw l1 e1 w2 := by
  have hb := (h.first hG1).2
  obtain ⟨h1, h2, h3, h4, h5, h6⟩ := h
  have hlt := hR1.lt
  refine ⟨hR1.kept fun k hk => hG2.block k (by omega) (by simp; omega), hR2, hl, h4, h5, below_grownBy hb hG2 (by omega) (by omega)⟩

theorem LR.drew {w wr : World} {g gw q : Nat} {l : List UInt8} {e : Int} (h : LR w g gw l e wr) : LR w g gw l e (wr.drewN q) := by
  obtain ⟨h1, h2, h3, h4, h5, h6⟩ := h
  exact ⟨h1, h2, h3, h4, h5, ⟨h6.os, h6.tape, h6.output, h6.size, h6.block⟩⟩

theorem LR.start {w w2 : World} {g : Nat} {l : List UInt8} {v : Value} (hz : BytesZ w.heap.size w v l) (hg : w.heap.size ≤ g) (hR : Rd w2 g l 0) (hB : Below w.heap.size w w2) : LR w g w2.heap.size l 0 (w2.alloc (.cells #[v, .int .i64 0] 38)) := by
  have hlt := hR.lt
  refine ⟨hR.below ((Below.refl _ _).alloc (Nat.le_refl _) _), ⟨v, heap_alloc_new w2 _, ?_⟩, fun h => absurd rfl h, hlt, hg, hB.alloc hB.size _⟩
  exact (hz.kept fun k hk => (hB.alloc hB.size _).block k hk).mono hB.size

/-- What the test behind each call reads. -/
theorem LR.reads {w wr : World} {g gw : Nat} {l : List UInt8} {e : Int} (h : LR w g gw l e wr) : ∃ a c, wr.cell? ⟨gw, 0, none⟩ = some (.slice a l.length c) ∧ wr.cell? ⟨gw, 1, none⟩ = some (.int .i64 e) := by
  obtain ⟨h1, ⟨v, r1, r2⟩, h3⟩ := h
  obtain ⟨a, c, rfl⟩ := bz_form r2
  obtain ⟨c0, c1, _, _⟩ := cells_two38 r1
  exact ⟨a, c, c0, c1⟩

theorem LR.left {w wr : World} {g gw : Nat} {l : List UInt8} {e : Int} (h : LR w g gw l e wr) (W : World) (hW : ∃ q, W = wr.drewN q) : Calls Try.prog 29 #[.pointer (some ⟨g, 0, none⟩)] W fun en w' => en = .returned (.int .i64 l.length) ∧ w' = W := by
  obtain ⟨q, rfl⟩ := hW
  exact (Left_any (wr.drewN q) g l e h.1).mono fun _ _ ⟨h1, h2⟩ => ⟨h1, h2.symm⟩

theorem LR.err {w wr : World} {g gw : Nat} {l : List UInt8} {e : Int} (h : LR w g gw l e wr) (W : World) (hW : ∃ q, W = wr.drewN q) : Calls Try.prog 30 #[.pointer (some ⟨g, 0, none⟩)] W fun en w' => en = .returned (.int .i64 e) ∧ w' = W := by
  obtain ⟨q, rfl⟩ := hW
  exact (Err_any (wr.drewN q) g l e h.1).mono fun _ _ ⟨h1, h2⟩ => ⟨h1, h2.symm⟩

theorem bx_inv (l : List UInt8) (e : Int) (hl : e ≠ 0 → l = []) : (bx l e).2.2 ≠ 0 → (bx l e).2.1 = [] := by
  unfold bx
  split
  · exact fun _ => rfl
  · intro h
    have := hl h
    cases this

theorem nSpec_inv (l : List UInt8) (e : Int) (hl : e ≠ 0 → l = []) : (nSpec l e).2.2 ≠ 0 → (nSpec l e).2.1 = [] := by
  unfold nSpec
  simp only []
  split
  · exact nx_inv _ _ _ (uSpec_inv 32 l e hl)
  · exact fun _ => rfl

theorem tSpec_len (n : Int) (l : List UInt8) (e : Int) : (tSpec n l e).1.length ≤ l.length := by
  unfold tSpec
  split
  · simp
  · exact nx_len _ _ _

theorem tSpec_inv (n : Int) (l : List UInt8) (e : Int) (hl : e ≠ 0 → l = []) : (tSpec n l e).2.2 ≠ 0 → (tSpec n l e).2.1 = [] := by
  unfold tSpec
  split
  · exact fun _ => rfl
  · exact nx_inv _ _ _ hl

end Go.Proofs.Ytljfhedmpnikiaa
