/-
  Instructions in memory: those of a row, with those nested in each. No condition.
-/
import Derived.Test.YteianbgampljeaaGreatOps1
set_option linter.unusedSimpArgs false
set_option linter.unusedVariables false
namespace Go.Proofs.YteianbgampljeaaGreat
open Go.RowKit

/-- Block g holds these cells. -/
def CA (g : Nat) (cs : Array Value) (T : TypeId) (W : World) : Prop := W.heap[g]? = some (.cells cs T (0, 0))
theorem CA.lt {g : Nat} {cs : Array Value} {T : TypeId} {W : World} (h : CA g cs T W) : g < W.heap.size := (Array.getElem?_eq_some_iff.1 h).1
theorem CA.new (w : World) (cs : Array Value) (T : TypeId) : CA w.heap.size cs T (w.alloc (.cells cs T)) := by
  show (w.heap.push _)[w.heap.size]? = _
  simp
theorem CA.at {g k : Nat} {cs : Array Value} {T : TypeId} {W : World} {v : Value} (h : CA g cs T W) (hk : cs[k]? = some v) : W.cell? ⟨g, k, none⟩ = some v := by
  unfold CA at h
  rw [World.cell?, h]
  simp [hk]
theorem CA.free {g : Nat} {cs : Array Value} {T : TypeId} {W : World} (h : CA g cs T W) (k : Nat) : W.frozen? ⟨g, k, none⟩ = false := by
  unfold CA at h
  rw [World.frozen?, h]
  simp
theorem CA.set {g k : Nat} {cs : Array Value} {T : TypeId} {W : World} (h : CA g cs T W) (v : Value) : CA g (cs.setIfInBounds k v) T (W.setCell ⟨g, k, none⟩ v) := by
  unfold CA at h ⊢
  rw [World.setCell, Array.getElem?_modify, if_pos rfl, h]
  rfl
theorem CA.below {g B : Nat} {cs : Array Value} {T : TypeId} {W W' : World} (h : CA g cs T W) (hb : Below B W W') (hg : g < B) : CA g cs T W' := by
  unfold CA at h ⊢
  rw [hb.block g hg, h]
theorem CA.alloc {g : Nat} {cs : Array Value} {T : TypeId} {W : World} (h : CA g cs T W) (o : Obj) : CA g cs T (W.alloc o) := h.below ((Below.refl _ _).alloc (Nat.le_refl _) o) h.lt

theorem size_al (w : World) (o : Obj) : (w.alloc o).heap.size = w.heap.size + 1 := by simp
/-- All blocks stay but perhaps one. -/
structure KP (c : Option Nat) (w w' : World) : Prop where
  os : w'.os = w.os
  tape : w'.tape = w.tape
  output : w'.output = w.output
  size : w.heap.size ≤ w'.heap.size
  block : ∀ k, k < w.heap.size → c ≠ some k → w'.heap[k]? = w.heap[k]?
theorem KP.refl (c : Option Nat) (w : World) : KP c w w := ⟨rfl, rfl, rfl, Nat.le_refl _, fun _ _ _ => rfl⟩
theorem KP.trans {c : Option Nat} {a b w : World} (h : KP c a b) (k : KP c b w) : KP c a w :=
  ⟨k.os.trans h.os, k.tape.trans h.tape, k.output.trans h.output, Nat.le_trans h.size k.size, fun i hi hc => (k.block i (Nat.lt_of_lt_of_le hi h.size) hc).trans (h.block i hi hc)⟩
theorem KP.of {c : Option Nat} {w w' : World} (h : Below w.heap.size w w') : KP c w w' := ⟨h.os, h.tape, h.output, h.size, fun k hk _ => h.block k hk⟩
theorem KP.pure {w w' : World} (h : KP none w w') : Below w.heap.size w w' := ⟨h.os, h.tape, h.output, h.size, fun k hk => h.block k hk (by simp)⟩
theorem KP.alloc {c : Option Nat} {a w : World} (h : KP c a w) (o : Obj) : KP c a (w.alloc o) := h.trans (KP.of ((Below.refl _ _).alloc (Nat.le_refl _) o))
theorem KP.below {c : Option Nat} {w w' : World} {B : Nat} (h : KP c w w') (hB : B ≤ w.heap.size) (hc : ∀ k, c = some k → B ≤ k) : Below B w w' :=
  ⟨h.os, h.tape, h.output, h.size, fun k hk => h.block k (by omega) (fun e => by have := hc k e; omega)⟩
theorem CA.keep {g : Nat} {cs : Array Value} {T : TypeId} {W W' : World} {c : Option Nat} (h : CA g cs T W) (hb : KP c W W') (hg : c ≠ some g) : CA g cs T W' := by
  have hl := h.lt
  unfold CA at h ⊢
  rw [hb.block g hl hg, h]

/-- Instructions in a row, with those nested in each. -/
inductive Fo where
  | nil : Fo
  | cons (op a b : Int) (n h : Nat) (l : List Int) (ot : Bool) (body els rest : Fo) : Fo
def Fo.len : Fo → Nat
  | .nil => 0
  | .cons _ _ _ _ _ _ _ _ _ r => r.len + 1
/-- How many there are. -/
def Fo.cnt : Fo → Nat
  | .nil => 0
  | .cons _ _ _ _ _ _ _ b e r => b.cnt + e.cnt + r.cnt + 1
/-- How deep they are nested. -/
def Fo.nst : Fo → Nat
  | .nil => 0
  | .cons _ _ _ _ _ _ _ b e r => max (max b.nst e.nst + 1) r.nst

/-- A slice of integers, below block B. -/
def LI (B : Nat) (w : World) (v : Value) (l : List Int) : Prop := ∃ p c, v = .slice p l.length c ∧ l.length < 9223372036854775807 ∧ (l ≠ [] → ∃ g o, p = some ⟨g, o, none⟩ ∧ g < B ∧ ∀ j x, l[j]? = some x → w.cell? ⟨g, o + j, none⟩ = some (.int .i64 x))
theorem LI.below {B : Nat} {w w' : World} {v : Value} {l : List Int} (h : LI B w v l) (hb : Below B w w') : LI B w' v l := by
  obtain ⟨p, c, rfl, hq, h⟩ := h
  refine ⟨p, c, rfl, hq, fun hn => ?_⟩
  obtain ⟨g, o, rfl, hg, hc⟩ := h hn
  exact ⟨g, o, rfl, hg, fun j x hj => by rw [hb.cell (p := ⟨g, o + j, none⟩) hg]; exact hc j x hj⟩
theorem LI.mono {B B' : Nat} {w : World} {v : Value} {l : List Int} (h : LI B w v l) (hb : B ≤ B') : LI B' w v l := by
  obtain ⟨p, c, rfl, hq, h⟩ := h
  refine ⟨p, c, rfl, hq, fun hn => ?_⟩
  obtain ⟨g, o, rfl, hg, hc⟩ := h hn
  exact ⟨g, o, rfl, Nat.lt_of_lt_of_le hg hb, hc⟩

/-- Instructions from a place of a block on, below block B. -/
def FA (B : Nat) (w : World) : Fo → Nat → Nat → Prop
  | .nil, _, _ => True
  | .cons op a b n h l ot body els rest, g, o => g < B ∧ (∃ vl vb ve,
      w.cell? ⟨g, o, none⟩ = some (.int .i64 op) ∧ w.cell? ⟨g, o + 1, none⟩ = some (.int .i64 a) ∧ w.cell? ⟨g, o + 2, none⟩ = some (.int .i64 b) ∧
      w.cell? ⟨g, o + 3, none⟩ = some (.int .u64 (n : Nat)) ∧ w.cell? ⟨g, o + 4, none⟩ = some (.int .u64 (h : Nat)) ∧ w.cell? ⟨g, o + 5, none⟩ = some vl ∧
      w.cell? ⟨g, o + 6, none⟩ = some vb ∧ w.cell? ⟨g, o + 7, none⟩ = some ve ∧ w.cell? ⟨g, o + 8, none⟩ = some (.bool ot) ∧ LI B w vl l ∧
      (∃ p c g' o', vb = .slice p body.len c ∧ (body.len ≠ 0 → p = some ⟨g', o', none⟩) ∧ FA B w body g' o') ∧
      (∃ p c g' o', ve = .slice p els.len c ∧ (els.len ≠ 0 → p = some ⟨g', o', none⟩) ∧ FA B w els g' o')) ∧ FA B w rest g (o + 9)
/-- A slice of instructions. -/
def SA (B : Nat) (w : World) (v : Value) (f : Fo) : Prop := ∃ p c g' o', v = .slice p f.len c ∧ (f.len ≠ 0 → p = some ⟨g', o', none⟩) ∧ FA B w f g' o'
theorem FA.below {B : Nat} {w w' : World} (hb : Below B w w') : ∀ (f : Fo) (g o : Nat), FA B w f g o → FA B w' f g o := by
  intro f
  induction f with
  | nil => intro g o h; trivial
  | cons op a b n h l ot body els rest ihb ihe ihr =>
    rintro g o ⟨hg, ⟨vl, vb, ve, h0, h1, h2, h3, h4, h5, h6, h7, h8, hl, ⟨p, c, g', o', e1, e2, e3⟩, ⟨p2, c2, g2, o2, f1, f2, f3⟩⟩, hr⟩
    have hc : ∀ k, w'.cell? ⟨g, k, none⟩ = w.cell? ⟨g, k, none⟩ := fun k => hb.cell (p := ⟨g, k, none⟩) hg
    exact ⟨hg, ⟨vl, vb, ve, by rw [hc, h0], by rw [hc, h1], by rw [hc, h2], by rw [hc, h3], by rw [hc, h4], by rw [hc, h5], by rw [hc, h6], by rw [hc, h7], by rw [hc, h8], hl.below hb, ⟨p, c, g', o', e1, e2, ihb _ _ e3⟩, ⟨p2, c2, g2, o2, f1, f2, ihe _ _ f3⟩⟩, ihr _ _ hr⟩
theorem FA.mono {B B' : Nat} {w : World} (hb : B ≤ B') : ∀ (f : Fo) (g o : Nat), FA B w f g o → FA B' w f g o := by
  intro f
  induction f with
  | nil => intro g o h; trivial
  | cons op a b n h l ot body els rest ihb ihe ihr =>
    rintro g o ⟨hg, ⟨vl, vb, ve, h0, h1, h2, h3, h4, h5, h6, h7, h8, hl, ⟨p, c, g', o', e1, e2, e3⟩, ⟨p2, c2, g2, o2, f1, f2, f3⟩⟩, hr⟩
    exact ⟨Nat.lt_of_lt_of_le hg hb, ⟨vl, vb, ve, h0, h1, h2, h3, h4, h5, h6, h7, h8, hl.mono hb, ⟨p, c, g', o', e1, e2, ihb _ _ e3⟩, ⟨p2, c2, g2, o2, f1, f2, ihe _ _ f3⟩⟩, ihr _ _ hr⟩
theorem SA.below {B : Nat} {w w' : World} {v : Value} {f : Fo} (h : SA B w v f) (hb : Below B w w') : SA B w' v f := by
  obtain ⟨p, c, g, o, e1, e2, e3⟩ := h
  exact ⟨p, c, g, o, e1, e2, FA.below hb _ _ _ e3⟩
theorem SA.mono {B B' : Nat} {w : World} {v : Value} {f : Fo} (h : SA B w v f) (hb : B ≤ B') : SA B' w v f := by
  obtain ⟨p, c, g, o, e1, e2, e3⟩ := h
  exact ⟨p, c, g, o, e1, e2, FA.mono hb _ _ _ e3⟩
theorem SA.nil (B : Nat) (w : World) (p : Option Addr) (c : Nat) : SA B w (.slice p 0 c) .nil := ⟨p, c, 0, 0, rfl, fun h => absurd rfl h, trivial⟩
theorem LI.nil (B : Nat) (w : World) (p : Option Addr) (c : Nat) : LI B w (.slice p 0 c) [] := ⟨p, c, rfl, by decide, fun h => absurd rfl h⟩

/-- What is asked of all instructions, one behind the other, those nested in one behind it: the answer, and what has come of the asking. -/
def evF {σ : Type} (st : σ → Int → Int → Int → Int → Nat → Nat → List Int → Bool → Fo → Fo → Bool × σ) : Fo → Int → σ → Bool × σ
  | .nil, _, s => (true, s)
  | .cons op a b n h l ot body els rest, d, s =>
    if (st s d op a b n h l ot body els).1 = true then
      if (evF st body (d + 1) (st s d op a b n h l ot body els).2).1 = true then
        if (evF st els (d + 1) (evF st body (d + 1) (st s d op a b n h l ot body els).2).2).1 = true then
          evF st rest d (evF st els (d + 1) (evF st body (d + 1) (st s d op a b n h l ot body els).2).2).2
        else (false, (evF st els (d + 1) (evF st body (d + 1) (st s d op a b n h l ot body els).2).2).2)
      else (false, (evF st body (d + 1) (st s d op a b n h l ot body els).2).2)
    else (false, (st s d op a b n h l ot body els).2)

/-- The value of an instruction. -/
def nV (op a b : Int) (n h : Nat) (vl vb ve : Value) (ot : Bool) : Value := .agg #[.int .i64 op, .int .i64 a, .int .i64 b, .int .u64 (n : Nat), .int .u64 (h : Nat), vl, vb, ve, .bool ot]
end Go.Proofs.YteianbgampljeaaGreat
