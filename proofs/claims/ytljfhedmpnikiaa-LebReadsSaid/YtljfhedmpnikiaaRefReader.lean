/-
  The contracts of the document's own reader (bodkinref01.R): Fail and Byte. No condition beyond what such a reader is.
-/
import Derived.Test.YtljfhedmpnikiaaNames
namespace Go.Proofs.Ytljfhedmpnikiaa
open Go.RowKit

/-- As BytesAt; or no byte and no room at whatever address. -/
def BytesZ (B : Nat) (w : World) (v : Value) (l : List UInt8) : Prop := BytesAt B w v l ∨ ∃ x, v = .slice (some x) 0 0 ∧ l = []

/-- Block g is the document's reader, with the bytes l left, and the error e. -/
def RR (w : World) (g : Nat) (l : List UInt8) (e : Int) : Prop :=
  ∃ v, w.heap[g]? = some (.cells #[v, .int .i64 e] 38 (0, 0)) ∧ BytesZ g w v l

theorem RR.lt {w : World} {g : Nat} {l : List UInt8} {e : Int} (h : RR w g l e) : g < w.heap.size := by
  obtain ⟨sv, h1, _⟩ := h
  exact (Array.getElem?_eq_some_iff.1 h1).1

theorem BytesZ.kept {B : Nat} {w w' : World} {v : Value} {l : List UInt8} (h : BytesZ B w v l) (hb : ∀ k, k < B → w'.heap[k]? = w.heap[k]?) : BytesZ B w' v l := by
  rcases h with h | h
  · rcases h with h | ⟨g', off, cap, r1, r2, r3, r4, r5⟩
    · exact .inl (.inl h)
    · exact .inl (.inr ⟨g', off, cap, r1, r2, r3, r4, fun j u hj => by rw [World.cell?_of_block (w := w) (hb g' r2)]; exact r5 j u hj⟩)
  · exact .inr h

theorem RR.kept {w w' : World} {g : Nat} {l : List UInt8} {e : Int} (h : RR w g l e) (hb : ∀ k, k ≤ g → w'.heap[k]? = w.heap[k]?) : RR w' g l e := by
  obtain ⟨sv, h1, h2⟩ := h
  exact ⟨sv, (hb g (Nat.le_refl _)).trans h1, h2.kept fun k hk => hb k (Nat.le_of_lt hk)⟩

theorem cells_two38 {w : World} {g : Nat} {a b : Value} (h : w.heap[g]? = some (.cells #[a, b] 38 (0, 0))) :
    w.cell? ⟨g, 0, none⟩ = some a ∧ w.cell? ⟨g, 1, none⟩ = some b ∧ w.frozen? ⟨g, 0, none⟩ = false ∧ w.frozen? ⟨g, 1, none⟩ = false :=
  ⟨by rw [cell_of_row w g 0 _ _ _ h]; rfl, by rw [cell_of_row w g 1 _ _ _ h]; rfl, frozen_of_row w g 0 _ _ h, frozen_of_row w g 1 _ _ h⟩

set_option maxHeartbeats 400000 in
theorem RFail_not (w : World) (g : Nat) (l : List UInt8) (e k : Int) (h : RR w g l e) (hn : e ≠ 0 ∨ k = 0) :
    Calls Try.prog 28 #[.pointer (some ⟨g, 0, none⟩), .int .i64 k] w fun en w' => en = .returned (.tuple #[]) ∧ w = w' := by
  obtain ⟨sv, h1, h2⟩ := h
  obtain ⟨c0, c1, f0, f1⟩ := cells_two38 h1
  clear h1 h2
  by_cases he : e = 0
  · obtain rfl : k = 0 := by omega
    subst he
    go_enter Try.func28, Try.ntmps28
    go_wp2
    (first | go_end0 | refine bodyPost_ret (results_none rfl _ _ _) rfl ?_)
    exact ⟨rfl, rfl⟩
  · have hb : (e == 0) = false := by simpa using he
    have hb2 : (e != 0) = true := by simpa using he
    clear hn he
    go_enter Try.func28, Try.ntmps28
    go_wp2
    (first | go_end0 | refine bodyPost_ret (results_none rfl _ _ _) rfl ?_)
    exact ⟨rfl, rfl⟩

set_option maxHeartbeats 400000 in
theorem RFail_set (w : World) (g : Nat) (l : List UInt8) (k : Int) (h : RR w g l 0) (hk : k ≠ 0) :
    Calls Try.prog 28 #[.pointer (some ⟨g, 0, none⟩), .int .i64 k] w fun en w' => en = .returned (.tuple #[]) ∧ RR w' g [] k ∧ w.grownBy w' (some g) := by
  obtain ⟨sv, h1, h2⟩ := h
  obtain ⟨c0, c1, f0, f1⟩ := cells_two38 h1
  have hb : (k == 0) = false := by simpa using hk
  have hb2 : (k != 0) = true := by simpa using hk
  clear h2 hk
  have H1 := hid h1
  clear h1
  go_enter Try.func28, Try.ntmps28
  go_wp2
  go_end0
  refine ⟨rfl, ⟨.slice none 0 0, ?_, .inl (.inl ⟨rfl, rfl⟩)⟩, ?_⟩
  · rw [heap_setCell_same _ g 0 #[sv, .int .i64 k] 38 _ (by rw [heap_setCell_same _ g 1 #[sv, .int .i64 0] 38 _ H1.out]; rfl)]
    rfl
  · refine ⟨rfl, rfl, rfl, by simp [World.setCell], fun j hj hne => ?_⟩
    rw [heap_setCell_other _ _ j _ (fun e => hne (by simp [e])), heap_setCell_other _ _ j _ (fun e => hne (by simp [e]))]

theorem RFail_any (w : World) (g : Nat) (l : List UInt8) (e k : Int) (h : RR w g l e) (hl : e ≠ 0 → l = []) (hk : k ≠ 0) :
    Calls Try.prog 28 #[.pointer (some ⟨g, 0, none⟩), .int .i64 k] w fun en w' => en = .returned (.tuple #[]) ∧ RR w' g [] (fl e k) ∧ w.grownBy w' (some g) := by
  by_cases he : e = 0
  · subst he
    exact (RFail_set w g l k h hk).mono fun en w' ⟨h1, h2, h3⟩ => ⟨h1, by simpa [fl] using h2, h3⟩
  · refine (RFail_not w g l e k h (.inl he)).mono fun en w' ⟨h1, h2⟩ => ⟨h1, ?_, by subst h2; exact grownBy_refl _ _⟩
    subst h2
    rw [hl he] at h
    simpa [fl, he] using h

set_option maxHeartbeats 800000 in
theorem RByte_any (w : World) (g : Nat) (l : List UInt8) (e : Int) (h : RR w g l e) (hl : e ≠ 0 → l = []) :
    Calls Try.prog 22 #[.pointer (some ⟨g, 0, none⟩)] w fun en w' => en = .returned (.int .u8 (bx l e).1) ∧ RR w' g (bx l e).2.1 (bx l e).2.2 ∧ w.grownBy w' (some g) := by
  have hF := RFail_any w g l e 10 h hl (by decide)
  obtain ⟨sv, h1, h2⟩ := h
  obtain ⟨c0, c1, f0, f1⟩ := cells_two38 h1
  have HF := hid hF
  have H1 := hid h1
  clear hF h1 hl
  cases l with
  | nil =>
    obtain ⟨a, c, rfl⟩ : ∃ a c, sv = .slice a 0 c := by
      rcases h2 with h2 | ⟨x, rfl, _⟩
      · rcases h2 with ⟨rfl, _⟩ | ⟨g', off, cap, rfl, _⟩
        · exact ⟨_, _, rfl⟩
        · exact ⟨_, _, rfl⟩
      · exact ⟨_, _, rfl⟩
    clear h2
    go_enter Try.func22, Try.ntmps22
    go_wp2_with (go_at_call 28; refine HF.out.mono ?_; rintro en w1 ⟨rfl, hR, hG⟩)
    go_ret
    exact ⟨rfl, hR, hG⟩
  | cons b t =>
    have h3 : BytesAt g w sv (b :: t) := by
      rcases h2 with h2 | ⟨x, _, h⟩
      · exact h2
      · cases h
    clear h2
    rcases h3 with ⟨_, h⟩ | ⟨g', off, cap, rfl, r2, r3, ⟨r4, r6⟩, r5⟩
    · cases h
    have hc := r5 0 b rfl
    simp only [Nat.add_zero] at hc
    have ht : ∀ j u, t[j]? = some u → w.cell? ⟨g', off + 1 + j, none⟩ = some (.int .u8 u.toNat) := fun j u hj => by
      have := r5 (j + 1) u (by simpa using hj)
      rwa [show off + 1 + j = off + (j + 1) by omega]
    have HT := hid ht
    have hlen : (b :: t).length = t.length + 1 := rfl
    rw [hlen] at c0 r3 r6 H1
    have hcl : ∀ (v : Value) (o : Nat), (w.setCell ⟨g, 0, none⟩ v).cell? ⟨g', o, none⟩ = w.cell? ⟨g', o, none⟩ := fun v o => World.cell?_of_block (w := w) (heap_setCell_other _ _ _ _ (by show g' ≠ g; omega))
    have HC := hid hcl
    have HW : Hid (∀ v : Value, w.grownBy (w.setCell ⟨g, 0, none⟩ v) (some g)) := hid fun v => ⟨rfl, rfl, rfl, by simp [World.setCell], fun j hj hne => heap_setCell_other _ _ j _ (fun e => hne (by simp [e]))⟩
    clear r5 ht hcl hlen
    by_cases h1c : cap = 1
    · obtain ⟨ht0⟩ : t.length = 0 ∧ True := ⟨by omega, trivial⟩
      obtain rfl := List.eq_nil_of_length_eq_zero ht0
      subst h1c
      go_enter Try.func22, Try.ntmps22
      go_wp2
      go_ret
      exact ⟨rfl, ⟨.slice (some ⟨g', off, none⟩) 0 0, heap_setCell_same _ g 0 _ 38 _ H1.out, .inr ⟨_, rfl, rfl⟩⟩, HW.out _⟩
    · go_enter Try.func22, Try.ntmps22
      go_wp2
      go_ret
      refine ⟨rfl, (show RR _ g t e from ⟨.slice (some ⟨g', off + 1, none⟩) t.length (cap - 1), heap_setCell_same _ g 0 _ 38 _ H1.out, .inl (.inr ⟨g', off + 1, cap - 1, rfl, r2, by omega, ⟨by omega, by omega⟩, fun j u hj => by rw [HC.out]; exact HT.out j u hj⟩)⟩), HW.out _⟩

theorem RR.len {w : World} {g : Nat} {l : List UInt8} {e : Int} (h : RR w g l e) : l.length ≤ 140737488351232 := by
  obtain ⟨_, _, h | ⟨_, _, rfl⟩⟩ := h
  · exact h.len
  · simp

set_option maxHeartbeats 1600000 in
theorem RTake_any (w : World) (g : Nat) (l : List UInt8) (e : Int) (n : Int) (hn : n ≤ 9223372036854775807) (h : RR w g l e) (hl : e ≠ 0 → l = []) :
    Calls Try.prog 24 #[.pointer (some ⟨g, 0, none⟩), .int .i64 n] w fun en w' => ∃ v', en = .returned v' ∧ BytesIn g w' v' (tSpec n l e).1 ∧ RR w' g (tSpec n l e).2.1 (tSpec n l e).2.2 ∧ w.grownBy w' (some g) := by
  have hlm := h.len
  by_cases h0 : n < 0
  · have HX : Hid (tSpec n l e = ([], [], fl e 1)) := hid (by rw [tSpec, if_pos h0])
    have HF := hid (RFail_any w g l e 1 h hl (by decide))
    have HE := hid (fl_ne (e := e) (k := 1) (by decide))
    have hE1 : (fl e 1 == 0) = false := by simpa using HE.out
    have hE2 : (fl e 1 != 0) = true := by simpa using HE.out
    clear h hl
    go_enter Try.func24, Try.ntmps24
    go_wp2_with (go_at_call 28; refine HF.out.mono ?_; rintro en w1 ⟨rfl, ⟨sv, hs1, hs2⟩, hG⟩; obtain ⟨c0, c1, f0, f1⟩ := cells_two38 hs1; have HS1 := hid hs1; clear hs1)
    go_ret
    refine ⟨_, rfl, ?_⟩
    rw [HX.out]
    exact ⟨.inl (.inl ⟨rfl, rfl⟩), ⟨sv, HS1.out, hs2⟩, hG⟩
  · obtain ⟨m, rfl⟩ : ∃ m : Nat, n = (m : Int) := ⟨n.toNat, by omega⟩
    have HX : Hid (tSpec m l e = nx m l e) := hid (by rw [tSpec, if_neg h0, Int.toNat_natCast])
    by_cases he : e = 0
    · subst he
      by_cases hs : l.length < m
      · have HN : Hid (nx m l 0 = ([], [], 10)) := hid (by simp [nx, hs, fl])
        have HF := hid (RFail_set w g l 10 h (by decide))
        obtain ⟨sv, hs1, hs2⟩ := h
        obtain ⟨c0, c1, f0, f1⟩ := cells_two38 hs1
        obtain ⟨a, c, rfl⟩ : ∃ a c, sv = .slice a l.length c := by
          rcases hs2 with hs2 | ⟨x, rfl, rfl⟩
          · rcases hs2 with ⟨rfl, rfl⟩ | ⟨g', off, cap, rfl, _⟩
            · exact ⟨_, _, rfl⟩
            · exact ⟨_, _, rfl⟩
          · exact ⟨_, _, rfl⟩
        clear hs1 hs2 hl
        go_enter Try.func24, Try.ntmps24
        go_wp2_with (go_at_call 28; refine HF.out.mono ?_; rintro en w1 ⟨rfl, ⟨sv1, q1, q2⟩, hG⟩; obtain ⟨d0, d1, k0, k1⟩ := cells_two38 q1; have HQ1 := hid q1; clear q1)
        go_ret
        refine ⟨_, rfl, ?_⟩
        rw [HX.out, HN.out]
        exact ⟨.inl (.inl ⟨rfl, rfl⟩), ⟨sv1, HQ1.out, q2⟩, hG⟩
      · have HN : Hid (nx m l 0 = (l.take m, l.drop m, 0)) := hid (by simp [nx, hs])
        obtain ⟨sv, hs1, hs2⟩ := h
        obtain ⟨c0, c1, f0, f1⟩ := cells_two38 hs1
        have HS1 := hid hs1
        have HW : Hid (∀ v : Value, w.grownBy (w.setCell ⟨g, 0, none⟩ v) (some g)) := hid fun v => ⟨rfl, rfl, rfl, by simp [World.setCell], fun j hj hne => heap_setCell_other _ _ j _ (fun e => hne (by simp [e]))⟩
        have HZ : Hid (∀ v : Value, ∀ k, k < g → (w.setCell ⟨g, 0, none⟩ v).heap[k]? = w.heap[k]?) := hid fun v k hk => heap_setCell_other _ _ _ _ (by show k ≠ g; omega)
        clear hs1 hl
        rcases hs2 with hs2 | ⟨x, rfl, rfl⟩
        · rcases hs2 with ⟨rfl, rfl⟩ | ⟨g', off, cap, rfl, r2, r3, ⟨r4, r6⟩, r5⟩
          · obtain rfl : m = 0 := by simpa using hs
            have HY : Hid (tSpec 0 [] 0 = ([].take 0, [].drop 0, 0)) := hid (HX.out.trans HN.out)
            go_enter Try.func24, Try.ntmps24
            go_wp2
            go_ret
            refine ⟨_, rfl, ?_⟩
            rw [HY.out]
            exact ⟨.inl (.inl ⟨rfl, rfl⟩), (show RR _ g [] 0 from ⟨.slice none 0 0, heap_setCell_same _ g 0 _ 38 _ HS1.out, .inl (.inl ⟨rfl, rfl⟩)⟩), HW.out _⟩
          · have HT : Hid (∀ v : Value, ∀ j u, (l.take m)[j]? = some u → (w.setCell ⟨g, 0, none⟩ v).cell? ⟨g', off + j, none⟩ = some (.int .u8 u.toNat)) := hid fun v j u hj => by
              rw [World.cell?_of_block (w := w) (HZ.out v g' r2)]
              rw [List.getElem?_take] at hj
              split at hj
              · exact r5 j u hj
              · cases hj
            have HD : Hid (∀ v : Value, ∀ j u, (l.drop m)[j]? = some u → (w.setCell ⟨g, 0, none⟩ v).cell? ⟨g', off + m + j, none⟩ = some (.int .u8 u.toNat)) := hid fun v j u hj => by
              rw [World.cell?_of_block (w := w) (HZ.out v g' r2)]
              rw [List.getElem?_drop] at hj
              rw [Nat.add_assoc]
              exact r5 _ u hj
            have HLT : Hid ((l.take m).length = m) := hid (by rw [List.length_take]; omega)
            have HLD : Hid ((l.drop m).length = l.length - m) := hid (by rw [List.length_drop])
            clear r5
            by_cases hc : cap = m
            · have HLn := hid (show l.drop m = [] from List.drop_eq_nil_of_le (by omega))
              subst hc
              have hz : l.length = cap := by omega
              go_enter Try.func24, Try.ntmps24
              go_wp2
              go_ret
              refine ⟨_, rfl, ?_⟩
              rw [HX.out, HN.out]
              refine ⟨.inl (.inr ⟨g', off, cap, by rw [HLT.out]; rfl, r2, by rw [HLT.out]; omega, ⟨r4, by rw [HLT.out]; omega⟩, HT.out _⟩), (show RR _ g (l.drop cap) 0 from ⟨.slice (some ⟨g', off, none⟩) 0 0, heap_setCell_same _ g 0 _ 38 _ HS1.out, .inr ⟨_, rfl, HLn.out⟩⟩), HW.out _⟩
            · by_cases h00 : m = 0
              · subst h00
                have HY : Hid (tSpec 0 l 0 = (l.take 0, l.drop 0, 0)) := hid (HX.out.trans HN.out)
                go_enter Try.func24, Try.ntmps24
                go_wp2
                go_ret
                refine ⟨_, rfl, ?_⟩
                rw [HY.out]
                refine ⟨.inl (.inr ⟨g', off, cap, rfl, r2, Nat.zero_le _, ⟨r4, Nat.zero_le _⟩, HT.out _⟩), (show RR _ g (l.drop 0) 0 from ⟨.slice (some ⟨g', off, none⟩) l.length cap, heap_setCell_same _ g 0 _ 38 _ HS1.out, .inl (.inr ⟨g', off, cap, rfl, r2, r3, ⟨r4, r6⟩, HD.out _⟩)⟩), HW.out _⟩
              · go_enter Try.func24, Try.ntmps24
                go_wp2
                go_ret
                refine ⟨_, rfl, ?_⟩
                rw [HX.out, HN.out]
                refine ⟨.inl (.inr ⟨g', off, cap, by rw [HLT.out]; rfl, r2, by rw [HLT.out]; omega, ⟨r4, by rw [HLT.out]; omega⟩, HT.out _⟩), (show RR _ g (l.drop m) 0 from ⟨.slice (some ⟨g', off + m, none⟩) (l.length - m) (cap - m), heap_setCell_same _ g 0 _ 38 _ HS1.out, .inl (.inr ⟨g', off + m, cap - m, by rw [HLD.out], r2, by rw [HLD.out]; omega, ⟨by omega, by rw [HLD.out]; omega⟩, HD.out _⟩)⟩), HW.out _⟩
        · obtain rfl : m = 0 := by simpa using hs
          have HY : Hid (tSpec 0 [] 0 = ([].take 0, [].drop 0, 0)) := hid (HX.out.trans HN.out)
          go_enter Try.func24, Try.ntmps24
          go_wp2
          go_ret
          refine ⟨_, rfl, ?_⟩
          rw [HY.out]
          exact ⟨.inr ⟨_, _, rfl, rfl⟩, (show RR _ g [] 0 from ⟨.slice (some x) 0 0, heap_setCell_same _ g 0 _ 38 _ HS1.out, .inr ⟨_, rfl, rfl⟩⟩), HW.out _⟩
    · have hE1 : (e == 0) = false := by simpa using he
      have hE2 : (e != 0) = true := by simpa using he
      have hnil := hl he
      subst hnil
      obtain ⟨sv, hs1, hs2⟩ := h
      obtain ⟨c0, c1, f0, f1⟩ := cells_two38 hs1
      have HS1 := hid hs1
      have HN : Hid (nx m [] e = ([], [], e)) := hid (by unfold nx; split <;> simp [fl, he])
      clear hs1 hl he
      go_enter Try.func24, Try.ntmps24
      go_wp2
      go_ret
      refine ⟨_, rfl, ?_⟩
      rw [HX.out, HN.out]
      exact ⟨.inl (.inl ⟨rfl, rfl⟩), ⟨sv, HS1.out, hs2⟩, grownBy_refl _ _⟩

end Go.Proofs.Ytljfhedmpnikiaa
