/-
  The contracts of a reader's small methods: Left, Err, Fail, next, Byte, on a reader that is there and on none. No condition beyond what a reader is.
-/
import Derived.Test.YtljfhedmpnikiaaBase
namespace Go.Proofs.Ytljfhedmpnikiaa
open Go.RowKit

/-- Block g is a reader that has the bytes l left, and the error e. -/
def Rd (w : World) (g : Nat) (l : List UInt8) (e : Int) : Prop :=
  ∃ sv, w.heap[g]? = some (.cells #[sv, .int .i64 e] 56 (0, 0)) ∧ BytesAt g w sv l

theorem Rd.lt {w : World} {g : Nat} {l : List UInt8} {e : Int} (h : Rd w g l e) : g < w.heap.size := by
  obtain ⟨sv, h1, _⟩ := h
  exact (Array.getElem?_eq_some_iff.1 h1).1

/-- What lies in other blocks may turn, as long as what lies below g stands. -/
theorem Rd.kept {w w' : World} {g : Nat} {l : List UInt8} {e : Int} (h : Rd w g l e) (hb : ∀ k, k ≤ g → w'.heap[k]? = w.heap[k]?) : Rd w' g l e := by
  obtain ⟨sv, h1, h2⟩ := h
  refine ⟨sv, (hb g (Nat.le_refl _)).trans h1, ?_⟩
  rcases h2 with h | ⟨g', off, cap, r1, r2, r3, r4, r5⟩
  · exact .inl h
  · exact .inr ⟨g', off, cap, r1, r2, r3, r4, fun j u hj => by rw [World.cell?_of_block (w := w) (hb g' (by omega))]; exact r5 j u hj⟩

theorem Rd.below {w w' : World} {g : Nat} {l : List UInt8} {e : Int} (h : Rd w g l e) (hb : Below w.heap.size w w') : Rd w' g l e :=
  h.kept fun k hk => hb.block k (by have := h.lt; omega)

theorem cells_two {w : World} {g : Nat} {a b : Value} (h : w.heap[g]? = some (.cells #[a, b] 56 (0, 0))) :
    w.cell? ⟨g, 0, none⟩ = some a ∧ w.cell? ⟨g, 1, none⟩ = some b ∧ w.frozen? ⟨g, 0, none⟩ = false ∧ w.frozen? ⟨g, 1, none⟩ = false :=
  ⟨by rw [cell_of_row w g 0 _ _ _ h]; rfl, by rw [cell_of_row w g 1 _ _ _ h]; rfl, frozen_of_row w g 0 _ _ h, frozen_of_row w g 1 _ _ h⟩

set_option maxHeartbeats 400000 in
theorem Left_any (w : World) (g : Nat) (l : List UInt8) (e : Int) (h : Rd w g l e) :
    Calls Try.prog 29 #[.pointer (some ⟨g, 0, none⟩)] w fun en w' => en = .returned (.int .i64 l.length) ∧ w = w' := by
  obtain ⟨sv, h1, h2⟩ := h
  obtain ⟨c0, c1, f0, f1⟩ := cells_two h1
  rcases h2 with ⟨rfl, rfl⟩ | ⟨g', off, cap, rfl, r2, r3, r4, r5⟩
  all_goals
    clear h1
    go_enter Try.func29, Try.ntmps29
    go_wp2
    go_ret
    exact ⟨rfl, rfl⟩

set_option maxHeartbeats 400000 in
theorem Left_nil (w : World) : Calls Try.prog 29 #[.pointer none] w fun en w' => en = .returned (.int .i64 0) ∧ w = w' := by
  go_enter Try.func29, Try.ntmps29
  go_wp2
  go_ret
  exact ⟨rfl, rfl⟩

set_option maxHeartbeats 400000 in
theorem Err_any (w : World) (g : Nat) (l : List UInt8) (e : Int) (h : Rd w g l e) :
    Calls Try.prog 30 #[.pointer (some ⟨g, 0, none⟩)] w fun en w' => en = .returned (.int .i64 e) ∧ w = w' := by
  obtain ⟨sv, h1, h2⟩ := h
  obtain ⟨c0, c1, f0, f1⟩ := cells_two h1
  clear h1 h2
  go_enter Try.func30, Try.ntmps30
  go_wp2
  go_ret
  exact ⟨rfl, rfl⟩

set_option maxHeartbeats 400000 in
theorem Err_nil (w : World) : Calls Try.prog 30 #[.pointer none] w fun en w' => en = .returned (.int .i64 1) ∧ w = w' := by
  go_enter Try.func30, Try.ntmps30
  go_wp2
  go_ret
  exact ⟨rfl, rfl⟩

set_option maxHeartbeats 400000 in
theorem Fail_nil (w : World) (k : Int) : Calls Try.prog 27 #[.pointer none, .int .i64 k] w fun en w' => en = .returned (.tuple #[]) ∧ w = w' := by
  go_enter Try.func27, Try.ntmps27
  go_wp2
  (first | go_end0 | refine bodyPost_ret (results_none rfl _ _ _) rfl ?_)
  exact ⟨rfl, rfl⟩

set_option maxHeartbeats 400000 in
theorem Fail_not (w : World) (g : Nat) (l : List UInt8) (e k : Int) (h : Rd w g l e) (hn : e ≠ 0 ∨ k = 0) :
    Calls Try.prog 27 #[.pointer (some ⟨g, 0, none⟩), .int .i64 k] w fun en w' => en = .returned (.tuple #[]) ∧ w = w' := by
  obtain ⟨sv, h1, h2⟩ := h
  obtain ⟨c0, c1, f0, f1⟩ := cells_two h1
  clear h1 h2
  by_cases he : e = 0
  · obtain rfl : k = 0 := by omega
    subst he
    go_enter Try.func27, Try.ntmps27
    go_wp2
    (first | go_end0 | refine bodyPost_ret (results_none rfl _ _ _) rfl ?_)
    exact ⟨rfl, rfl⟩
  · have hb : (e == 0) = false := by simpa using he
    have hb2 : (e != 0) = true := by simpa using he
    clear hn he
    go_enter Try.func27, Try.ntmps27
    go_wp2
    (first | go_end0 | refine bodyPost_ret (results_none rfl _ _ _) rfl ?_)
    exact ⟨rfl, rfl⟩

set_option maxHeartbeats 400000 in
theorem Fail_set (w : World) (g : Nat) (l : List UInt8) (k : Int) (h : Rd w g l 0) (hk : k ≠ 0) :
    Calls Try.prog 27 #[.pointer (some ⟨g, 0, none⟩), .int .i64 k] w fun en w' => en = .returned (.tuple #[]) ∧ Rd w' g [] k ∧ w.grownBy w' (some g) := by
  obtain ⟨sv, h1, h2⟩ := h
  obtain ⟨c0, c1, f0, f1⟩ := cells_two h1
  have hb : (k == 0) = false := by simpa using hk
  clear h2 hk
  have H1 := hid h1
  clear h1
  go_enter Try.func27, Try.ntmps27
  go_wp2
  go_end0
  refine ⟨rfl, ⟨.slice none 0 0, ?_, .inl ⟨rfl, rfl⟩⟩, ?_⟩
  · rw [heap_setCell_same _ g 0 #[sv, .int .i64 k] 56 _ (by rw [heap_setCell_same _ g 1 #[sv, .int .i64 0] 56 _ H1.out]; rfl)]
    rfl
  · refine ⟨rfl, rfl, rfl, by simp [World.setCell], fun j hj hne => ?_⟩
    rw [heap_setCell_other _ _ j _ (fun e => hne (by simp [e])), heap_setCell_other _ _ j _ (fun e => hne (by simp [e]))]

/-- The error behind a Fail of k. -/
def fl (e k : Int) : Int := if e = 0 then k else e

theorem grownBy_refl (w : World) (row : Option Nat) : w.grownBy w row := ⟨rfl, rfl, rfl, Nat.le_refl _, fun _ _ _ => rfl⟩

theorem grownBy_trans {a b c : World} {row : Option Nat} (h : a.grownBy b row) (k : b.grownBy c row) : a.grownBy c row :=
  ⟨k.os.trans h.os, k.tape.trans h.tape, k.output.trans h.output, Nat.le_trans h.size k.size,
    fun i hi hne => (k.block i (Nat.lt_of_lt_of_le hi h.size) hne).trans (h.block i hi hne)⟩

theorem grownBy_below {a b : World} (h : Below a.heap.size a b) (row : Option Nat) : a.grownBy b row := ⟨h.os, h.tape, h.output, h.size, fun k hk _ => h.block k hk⟩

theorem below_grownBy {B g : Nat} {a b c : World} (h : Below B a b) (k : b.grownBy c (some g)) (hB : B ≤ b.heap.size) (hg : B ≤ g) : Below B a c :=
  h.grown k hB (fun j hj => by cases hj; exact hg)

theorem Fail_any (w : World) (g : Nat) (l : List UInt8) (e k : Int) (h : Rd w g l e) (hl : e ≠ 0 → l = []) (hk : k ≠ 0) :
    Calls Try.prog 27 #[.pointer (some ⟨g, 0, none⟩), .int .i64 k] w fun en w' => en = .returned (.tuple #[]) ∧ Rd w' g [] (fl e k) ∧ w.grownBy w' (some g) := by
  by_cases he : e = 0
  · subst he
    exact (Fail_set w g l k h hk).mono fun en w' ⟨h1, h2, h3⟩ => ⟨h1, by simpa [fl] using h2, h3⟩
  · refine (Fail_not w g l e k h (.inl he)).mono fun en w' ⟨h1, h2⟩ => ⟨h1, ?_, by subst h2; exact grownBy_refl _ _⟩
    subst h2
    rw [hl he] at h
    simpa [fl, he] using h

/-- What the next n bytes are; what is left; the error. -/
def nx (n : Nat) (l : List UInt8) (e : Int) : List UInt8 × List UInt8 × Int := if l.length < n then ([], [], fl e 10) else (l.take n, l.drop n, e)

set_option maxHeartbeats 800000 in
theorem next_any (w : World) (g : Nat) (l : List UInt8) (e : Int) (n : Nat) (hn : n < 18446744073709551616) (h : Rd w g l e) (hl : e ≠ 0 → l = []) :
    Calls Try.prog 37 #[.pointer (some ⟨g, 0, none⟩), .int .u64 n] w fun en w' => ∃ v', en = .returned v' ∧ BytesAt g w' v' (nx n l e).1 ∧ Rd w' g (nx n l e).2.1 (nx n l e).2.2 ∧ w.grownBy w' (some g) := by
  have hL := h
  obtain ⟨sv, h1, h2⟩ := h
  obtain ⟨c0, c1, f0, f1⟩ := cells_two h1
  have hlm := h2.len
  have H1 := hid h1
  have H2 := hid h2
  have HL := hid hl
  clear h1 h2 hl
  by_cases hs : l.length < n
  · have HX : Hid (nx n l e = ([], [], fl e 10)) := hid (by simp [nx, hs])
    go_enter Try.func37, Try.ntmps37
    go_wp2_with (first
      | (go_at_call 29; refine (Left_any _ g l e hL).mono ?_; rintro en w1 ⟨rfl, rfl⟩)
      | (go_at_call 27; refine (Fail_any _ g l e 10 hL HL.out (by decide)).mono ?_; rintro en w1 ⟨rfl, hR, hG⟩))
    go_ret
    exact ⟨_, rfl, by rw [HX.out]; exact ⟨.inl ⟨rfl, rfl⟩, hR, hG⟩⟩
  · have HX : Hid (nx n l e = (l.take n, l.drop n, e)) := hid (by simp [nx, hs])
    by_cases h0 : n = 0
    · subst h0
      go_enter Try.func37, Try.ntmps37
      go_wp2_with (first
        | (go_at_call 29; refine (Left_any _ g l e hL).mono ?_; rintro en w1 ⟨rfl, rfl⟩))
      go_ret
      exact ⟨_, rfl, by rw [HX.out]; exact ⟨.inl ⟨rfl, rfl⟩, by simpa using hL, grownBy_refl _ _⟩⟩
    · rcases H2.out with ⟨_, rfl⟩ | ⟨g', off, cap, rfl, r2, r3, ⟨r4, r6⟩, r5⟩
      · simp at hs; omega
      · have hb0 : ((n : Int) == 0) = false := by simpa using h0
        have hcellT : ∀ j u, (l.take n)[j]? = some u → w.cell? ⟨g', off + j, none⟩ = some (.int .u8 u.toNat) := by
          intro j u hj
          rw [List.getElem?_take] at hj
          split at hj
          · exact r5 j u hj
          · cases hj
        have hcellD : ∀ j u, (l.drop n)[j]? = some u → w.cell? ⟨g', off + n + j, none⟩ = some (.int .u8 u.toNat) := by
          intro j u hj
          rw [List.getElem?_drop] at hj
          rw [Nat.add_assoc]
          exact r5 _ u hj
        have HT := hid hcellT
        have HD := hid hcellD
        clear hcellT hcellD r5 hb0
        have hw : ∀ v : Value, w.grownBy (w.setCell ⟨g, 0, none⟩ v) (some g) := fun v => ⟨rfl, rfl, rfl, by simp [World.setCell], fun j hj hne => heap_setCell_other _ _ j _ (fun e => hne (by simp [e]))⟩
        have hcl : ∀ (v : Value) (o : Nat), (w.setCell ⟨g, 0, none⟩ v).cell? ⟨g', o, none⟩ = w.cell? ⟨g', o, none⟩ := fun v o => World.cell?_of_block (w := w) (heap_setCell_other _ _ _ _ (by show g' ≠ g; omega))
        have HW := hid hw
        have HC := hid hcl
        clear hw hcl
        by_cases hc : cap = n
        · have hz : l.length = n := by omega
          subst hc
          go_enter Try.func37, Try.ntmps37
          go_wp2_with (first
            | (go_at_call 29; refine (Left_any _ g l e hL).mono ?_; rintro en w1 ⟨rfl, rfl⟩))
          go_ret
          refine ⟨_, rfl, ?_⟩
          rw [HX.out]
          refine ⟨.inr ⟨g', off, cap, by rw [List.length_take, Nat.min_eq_left (by omega)]; rfl, r2, by rw [List.length_take]; omega, ⟨r4, by rw [List.length_take]; omega⟩, fun j u hj => by rw [HC.out]; exact HT.out j u hj⟩, ⟨.slice (some ⟨g', off, none⟩) 0 0, heap_setCell_same _ g 0 _ 56 _ H1.out, .inr ⟨g', off, 0, by rw [List.length_drop, hz, Nat.sub_self], r2, by rw [List.length_drop]; omega, ⟨by omega, by rw [List.length_drop]; omega⟩, fun j u hj => by rw [List.drop_eq_nil_of_le (by omega)] at hj; cases hj⟩⟩, HW.out _⟩
        · go_enter Try.func37, Try.ntmps37
          go_wp2_with (first
            | (go_at_call 29; refine (Left_any _ g l e hL).mono ?_; rintro en w1 ⟨rfl, rfl⟩))
          go_ret
          refine ⟨_, rfl, ?_⟩
          rw [HX.out]
          refine ⟨.inr ⟨g', off, cap, by rw [List.length_take, Nat.min_eq_left (by omega)]; rfl, r2, by rw [List.length_take]; omega, ⟨r4, by rw [List.length_take]; omega⟩, fun j u hj => by rw [HC.out]; exact HT.out j u hj⟩, ⟨.slice (some ⟨g', off + n, none⟩) (l.length - n) (cap - n), heap_setCell_same _ g 0 _ 56 _ H1.out, .inr ⟨g', off + n, cap - n, by rw [List.length_drop], r2, by rw [List.length_drop]; omega, ⟨by omega, by rw [List.length_drop]; omega⟩, fun j u hj => by rw [HC.out]; exact HD.out j u hj⟩⟩, HW.out _⟩

/-- The next byte; what is left; the error. -/
def bx (l : List UInt8) (e : Int) : Nat × List UInt8 × Int := match l with | [] => (0, [], fl e 10) | b :: t => (b.toNat, t, e)

set_option maxHeartbeats 800000 in
theorem Byte_any (w : World) (g : Nat) (l : List UInt8) (e : Int) (h : Rd w g l e) (hl : e ≠ 0 → l = []) :
    Calls Try.prog 21 #[.pointer (some ⟨g, 0, none⟩)] w fun en w' => en = .returned (.int .u8 (bx l e).1) ∧ Rd w' g (bx l e).2.1 (bx l e).2.2 ∧ w.grownBy w' (some g) := by
  have hn := next_any w g l e 1 (by decide) h hl
  have HN := hid hn
  clear hn h hl
  cases l with
  | nil =>
    go_enter Try.func21, Try.ntmps21
    go_wp2_with fail
    refine HN.out.mono ?_
    rintro en w1 ⟨v1, rfl, hB, hR, hG⟩
    simp only [nx, List.length_nil, Nat.zero_lt_one, if_true] at hB hR
    rcases hB with ⟨rfl, _⟩ | ⟨g', off, cap, rfl, _, _, _, _⟩
    all_goals
      go_wp2
      go_ret
      exact ⟨rfl, hR, hG⟩
  | cons b t =>
    go_enter Try.func21, Try.ntmps21
    go_wp2_with fail
    refine HN.out.mono ?_
    rintro en w1 ⟨v1, rfl, hB, hR, hG⟩
    have hx : nx 1 (b :: t) e = ([b], t, e) := by simp [nx]
    rw [hx] at hB hR
    clear hx
    rcases hB with ⟨_, h⟩ | ⟨g', off, cap, rfl, r2, r3, r4, r5⟩
    · cases h
    · have hc := r5 0 b rfl
      simp only [Nat.add_zero] at hc
      clear r5
      go_wp2
      go_ret
      exact ⟨rfl, hR, hG⟩

end Go.Proofs.Ytljfhedmpnikiaa
