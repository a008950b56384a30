/-
  The contract of the document's own reader's group: a number's parts of seven bits. No condition beyond what such a reader is.
-/
import Derived.Test.YtljfhedmpnikiaaRefReader
namespace Go.Proofs.Ytljfhedmpnikiaa
open Go.RowKit

theorem info3 : (Try.prog.info? 3).map (fun i => (i.zero, i.size, i.bytes)) = some (some (.int .i64 0), 1, 8) := by kernel_rfl

def intCells (l : List Nat) : List Value := l.map fun (n : Nat) => Value.int .i64 (n : Int)

theorem append_int {w : World} {ops : Array Oper} {rest : List Oper} {o : Oper} {a : Act} {Q : Exit → Act → World → Prop} (hgd : o.guard = none) (s x : Operand)
    (ho : o.op = .call { callee := .builtin .append, args := #[s, x], argTypes := #[32, 32] }) (base : Nat) (v : Value) (n : Nat) (xs : List Value) (q : Int)
    (hown : w.ownsRow base 3 1 v n xs) (hbase : base ≤ w.heap.size) (hn : n + 1 ≤ 1000000) (hs : a.eval s = v) (hx : a.eval x = .slice (some ⟨w.heap.size, 0, none⟩) 1 1)
    (h : ∀ v' w', w'.ownsRow base 3 1 v' (n + 1) (xs ++ [.int .i64 q]) → Below base w w' → base ≤ w'.heap.size → wpList Try.prog ops Q rest (a.put o.dst v') w') :
    wpList Try.prog ops Q (o :: rest) a (w.alloc (.cells #[.int .i64 q] 3)) := by
  obtain ⟨i0, hi, hz0, hz1, hz2⟩ := info_parts info3
  have hb1 := (Below.refl base w).alloc hbase (.cells #[.int .i64 q] 3)
  refine wpList_append_own _ hgd s x 32 ho base 3 i0 (.int .i64 0) 1 8 Try.underlying32 hi hz0 hz1 hz2 rfl (by decide) v n xs hs (hown.alloc _) ⟨w.heap.size, 0, none⟩ 1 1 [.int .i64 q] hx rfl (cell_one_new _ _ _)
    (fun u hu => by simp at hu; subst hu; rfl) (by unfold maxLen; omega) (by omega) (by simp; omega) ?_
  intro v' w1 hown' hgrow _
  exact h v' w1 hown' (hb1.grown hgrow (by simp; omega) (fun k hk => (hown.lt k hk).1)) (by have := hgrow.size; simp at this; omega)

/-- A number's parts; what is left. -/
def prt (nb : Nat) : List UInt8 → Nat → Int ⊕ (List Nat × List UInt8)
  | [], _ => .inl 10
  | b :: t, j => if b.toNat < 128 then .inr ([b.toNat], t) else if nb ≤ 7 * j + 7 then .inl 11 else match prt nb t (j + 1) with
    | .inl k => .inl k
    | .inr (ps, r) => .inr ((b.toNat - 128) :: ps, r)

def addp (done : List Nat) : Int ⊕ (List Nat × List UInt8) → Int ⊕ (List Nat × List UInt8)
  | .inl k => .inl k
  | .inr (ps, r) => .inr (done ++ ps, r)

def lenOfV : Value → Nat | .slice _ n _ => n | _ => 0

def GroupPost (w : World) (g : Nat) (e : Int) (r : Int ⊕ (List Nat × List UInt8)) (en : Ending) (w' : World) : Prop :=
  w.grownBy w' (some g) ∧ match r with
    | .inl k => (∃ v', en = .returned v') ∧ RR w' g [] (fl e k)
    | .inr (ps, t) => ∃ v', en = .returned v' ∧ w'.ownsRow w.heap.size 3 1 v' ps.length (intCells ps) ∧ RR w' g t e

theorem grown_below {w a b : World} {g : Nat} (h : w.grownBy a (some g)) (k : Below w.heap.size a b) : w.grownBy b (some g) :=
  ⟨k.os.trans h.os, k.tape.trans h.tape, k.output.trans h.output, Nat.le_trans h.size k.size, fun i hi hne => (k.block i hi).trans (h.block i hi hne)⟩

theorem own_keep {w w' : World} {base g : Nat} {e : TypeId} {size : Nat} {v : Value} {n : Nat} {xs : List Value} (h : w.ownsRow base e size v n xs) (hG : w.grownBy w' (some g)) (hg : g < base) : w'.ownsRow base e size v n xs :=
  h.kept hG (by
    by_cases h0 : v.ownBlock = none
    · exact .inl h0
    · refine .inr fun e => ?_
      obtain ⟨k, hk⟩ := Option.ne_none_iff_exists'.1 h0
      have h1 := (h.lt k hk).1
      rw [hk] at e
      cases e
      omega)

set_option maxHeartbeats 3200000 in
set_option maxRecDepth 100000 in
theorem group_any (w : World) (g : Nat) (l : List UInt8) (nb : Nat) (h1 : 1 ≤ nb) (h2 : nb ≤ 64) (h : RR w g l 0) :
    Calls Try.prog 35 #[.pointer (some ⟨g, 0, none⟩), .int .i64 nb] w (GroupPost w g 0 (prt nb l 0)) := by
  have hd1 : decide ((nb : Int) < 1) = false := by simp; omega
  have hd2 : decide (64 < (nb : Int)) = false := by simp; omega
  have hlt := h.lt
  have HR := hid h
  clear h
  go_enter Try.func35, Try.ntmps35
  go_wp2
  go_loopw [5] (fun v wr => ∃ (done : List Nat) (l' : List UInt8) (e' : Int), RR wr g l' e' ∧ wr.ownsRow w.heap.size 3 1 v done.length (intCells done) ∧ w.grownBy wr (some g) ∧
      Hid (e' = 0 ∧ 7 * done.length < nb ∧ prt nb l 0 = addp done (prt nb l' done.length) ∨ e' ≠ 0 ∧ l' = [] ∧ ∃ k, prt nb l 0 = .inl k ∧ e' = k ∧ done.length ≤ 10)) (fun v _ => 70 - lenOfV v)
  case atStart => exact ⟨[], l, 0, HR.out, by simpa [intCells] using World.ownsRow_nil w w.heap.size 3 1, grownBy_refl _ _, hid (.inl ⟨rfl, by simp; omega, by cases prt nb l 0 <;> rfl⟩)⟩
  case round =>
    obtain ⟨done, l', e', hR, hown, hG, hst⟩ := hrel
    have hRR := hid hR
    obtain ⟨sv, q1, q2⟩ := hR
    obtain ⟨c0, c1, f0, f1⟩ := cells_two38 q1
    have hsz := hG.size
    obtain ⟨ao, co, rfl⟩ := owned_slice hown
    clear q1 q2
    by_cases he : e' = 0
    · subst he
      obtain ⟨_, hd, hp⟩ : (0 : Int) = 0 ∧ 7 * done.length < nb ∧ prt nb l 0 = addp done (prt nb l' done.length) := by
        rcases hst.out with h | ⟨h, _⟩
        · exact h
        · exact absurd rfl h
      have HP := hid hp
      have HB := hid (RByte_any wr g l' 0 hRR.out (by simp))
      clear hp hst
      cases l' with
      | nil =>
        have hB : Calls Try.prog 22 #[.pointer (some ⟨g, 0, none⟩)] wr fun en w1 => en = .returned (.int .u8 0) ∧ RR w1 g [] 10 ∧ wr.grownBy w1 (some g) := HB.out
        have HB2 := hid hB
        clear hB HB
        go_wp2_with (go_at_call 22; refine HB2.out.mono ?_; rintro en w1 ⟨rfl, hR1, hG1⟩; obtain ⟨sv1, r1, r2⟩ := id hR1; obtain ⟨d0, d1, k0, k1⟩ := cells_two38 r1; clear r1 r2)
        go_ret
        refine ⟨grownBy_trans hG hG1, ?_⟩
        rw [HP.out]
        exact ⟨⟨_, rfl⟩, hR1⟩
      | cons b t =>
        have hb := b.toNat_lt
        by_cases h128 : b.toNat < 128
        · have hB : Calls Try.prog 22 #[.pointer (some ⟨g, 0, none⟩)] wr fun en w1 => en = .returned (.int .u8 b.toNat) ∧ RR w1 g t 0 ∧ wr.grownBy w1 (some g) := HB.out
          have HX : Hid (prt nb l 0 = .inr (done ++ [b.toNat], t)) := hid (by rw [HP.out, prt, if_pos h128]; rfl)
          have HB2 := hid hB
          have HO := hid hown
          clear hB HB hown
          generalize b.toNat = d at *
          go_wp2_with (first
            | (go_at_call 22; refine HB2.out.mono ?_; rintro en w1 ⟨rfl, hR1, hG1⟩; obtain ⟨sv1, r1, r2⟩ := id hR1; obtain ⟨d0, d1, k0, k1⟩ := cells_two38 r1; have hw1 := hG1.size; clear r1 r2; have hown1 := own_keep HO.out hG1 hlt)
            | (at_builtin; refine append_int rfl _ _ rfl w.heap.size _ _ _ _ hown1 (by omega) (by omega) rfl rfl ?_; intro v' w2 hown2 hbel2 hsz2))
          go_ret
          refine ⟨grown_below (grownBy_trans hG hG1) hbel2, ?_⟩
          rw [HX.out]
          refine ⟨v', rfl, ?_, hR1.kept fun k hk => hbel2.block k (by omega)⟩
          have e1 : (done ++ [d]).length = done.length + 1 := by simp
          have e2 : intCells (done ++ [d]) = intCells done ++ [.int .i64 (d : Int)] := by simp [intCells]
          rw [e1, e2]
          exact hown2
        · obtain ⟨d, hdd⟩ : ∃ d : Nat, b.toNat = d + 128 := ⟨b.toNat - 128, by omega⟩
          have hd128 : d < 128 := by omega
          have hB : Calls Try.prog 22 #[.pointer (some ⟨g, 0, none⟩)] wr fun en w1 => en = .returned (.int .u8 ((d : Int) + 128)) ∧ RR w1 g t 0 ∧ wr.grownBy w1 (some g) := by
            have := HB.out
            simp only [bx, hdd] at this
            exact this
          have HB2 := hid hB
          have HO := hid hown
          have e1 : (done ++ [d]).length = done.length + 1 := by simp
          have e2 : intCells (done ++ [d]) = intCells done ++ [.int .i64 (d : Int)] := by simp [intCells]
          have HE1 := hid e1
          have HE2 := hid e2
          by_cases hlast : nb ≤ 7 * done.length + 7
          · have HX : Hid (prt nb l 0 = .inl 11) := hid (by rw [HP.out, prt, if_neg h128, if_pos hlast]; rfl)
            have hq : ((done.length : Int) + 1 == ((nb : Int) + 6) / 7) = true := by rw [beq_iff_eq]; omega
            clear hB HB hown e1 e2 hdd h128 hlast
            go_wp2_with (first
              | (go_at_call 22; refine HB2.out.mono ?_; rintro en w1 ⟨rfl, hR1, hG1⟩; obtain ⟨sv1, r1, r2⟩ := id hR1; obtain ⟨d0, d1, k0, k1⟩ := cells_two38 r1; have hw1 := hG1.size; clear r1 r2; have hown1 := own_keep HO.out hG1 hlt)
              | (at_builtin; refine append_int rfl _ _ rfl w.heap.size _ _ _ _ hown1 (by omega) (by omega) rfl rfl ?_; intro v' w2 hown2 hbel2 hsz2; obtain ⟨x2, c2, rfl⟩ := owned_slice hown2; have hR2 := hR1.kept fun k hk => hbel2.block k (by omega))
              | (go_at_call 28; refine (RFail_set w2 g t 11 hR2 (by decide)).mono ?_; rintro en w3 ⟨rfl, hR3, hG3⟩))
            refine ⟨⟨done ++ [d], [], 11, hR3, ?_, grownBy_trans (grown_below (grownBy_trans hG hG1) hbel2) hG3, hid (.inr ⟨by decide, rfl, 11, HX.out, rfl, by rw [HE1.out]; omega⟩)⟩, by simp [lenOfV]; omega⟩
            rw [HE1.out, HE2.out]
            exact own_keep hown2 hG3 hlt
          · have HX : Hid (prt nb l 0 = addp (done ++ [d]) (prt nb t (done ++ [d]).length)) := hid (by
              rw [HP.out, prt, if_neg h128, if_neg hlast, e1, hdd, Nat.add_sub_cancel]
              cases prt nb t (done.length + 1) with
              | inl k => rfl
              | inr r => obtain ⟨ps, r⟩ := r; simp [addp])
            have hq : ((done.length : Int) + 1 == ((nb : Int) + 6) / 7) = false := by rw [beq_eq_false_iff_ne]; omega
            clear hB HB hown e1 e2 hdd h128
            go_wp2_with (first
              | (go_at_call 22; refine HB2.out.mono ?_; rintro en w1 ⟨rfl, hR1, hG1⟩; obtain ⟨sv1, r1, r2⟩ := id hR1; obtain ⟨d0, d1, k0, k1⟩ := cells_two38 r1; have hw1 := hG1.size; clear r1 r2; have hown1 := own_keep HO.out hG1 hlt)
              | (at_builtin; refine append_int rfl _ _ rfl w.heap.size _ _ _ _ hown1 (by omega) (by omega) rfl rfl ?_; intro v' w2 hown2 hbel2 hsz2; obtain ⟨x2, c2, rfl⟩ := owned_slice hown2; have hR2 := hR1.kept fun k hk => hbel2.block k (by omega)))
            refine ⟨⟨done ++ [d], t, 0, hR2, ?_, grown_below (grownBy_trans hG hG1) hbel2, hid (.inl ⟨rfl, by rw [HE1.out]; omega, HX.out⟩)⟩, by simp [lenOfV]; omega⟩
            rw [HE1.out, HE2.out]
            exact hown2
    · obtain ⟨hne, hl0, k, hk1, hk2, hk3⟩ : e' ≠ 0 ∧ l' = [] ∧ ∃ k, prt nb l 0 = .inl k ∧ e' = k ∧ done.length ≤ 10 := by
        rcases hst.out with ⟨h, _⟩ | h
        · exact absurd h he
        · exact h
      subst hl0 hk2
      have hE1 : (e' == 0) = false := by simpa using he
      have HX := hid hk1
      clear hst hk1 hne he
      go_wp2
      go_ret
      refine ⟨hG, ?_⟩
      rw [HX.out]
      exact ⟨⟨_, rfl⟩, by simpa [fl] using hRR.out⟩

set_option maxHeartbeats 800000 in
set_option maxRecDepth 100000 in
/-- With an error, or no such number of bits: nothing is read. -/
theorem group_bad (w : World) (g : Nat) (l : List UInt8) (e b : Int) (h : RR w g l e) (hl : e ≠ 0 → l = []) (hb : e ≠ 0 ∨ b < 1 ∨ 64 < b) :
    Calls Try.prog 35 #[.pointer (some ⟨g, 0, none⟩), .int .i64 b] w fun en w' => (∃ v', en = .returned v') ∧ RR w' g [] (fl e 1) ∧ w.grownBy w' (some g) := by
  by_cases hbb : b < 1 ∨ 64 < b
  · have HF := hid (RFail_any w g l e 1 h hl (by decide))
    have HE := hid (fl_ne (e := e) (k := 1) (by decide))
    have hE1 : (fl e 1 == 0) = false := by simpa using HE.out
    clear h hl hb
    by_cases h1 : b < 1
    · have hd1 : decide (b < 1) = true := by simpa using h1
      clear hbb
      go_enter Try.func35, Try.ntmps35
      go_wp2_with (go_at_call 28; refine HF.out.mono ?_; rintro en w1 ⟨rfl, hR1, hG1⟩; obtain ⟨sv1, r1, r2⟩ := id hR1; obtain ⟨d0, d1, k0, k1⟩ := cells_two38 r1; clear r1 r2)
      go_loopw [5] (fun v wr => v = .slice none 0 0 ∧ w1 = wr) (fun _ _ => 0)
      case atStart => exact ⟨rfl, rfl⟩
      case round =>
        obtain ⟨rfl, rfl⟩ := hrel
        go_wp2
        go_ret
        exact ⟨⟨_, rfl⟩, hR1, hG1⟩
    · have hd1 : decide (b < 1) = false := by simpa using h1
      have hd2 : decide (64 < b) = true := by simp; omega
      clear hbb
      go_enter Try.func35, Try.ntmps35
      go_wp2_with (go_at_call 28; refine HF.out.mono ?_; rintro en w1 ⟨rfl, hR1, hG1⟩; obtain ⟨sv1, r1, r2⟩ := id hR1; obtain ⟨d0, d1, k0, k1⟩ := cells_two38 r1; clear r1 r2)
      go_loopw [5] (fun v wr => v = .slice none 0 0 ∧ w1 = wr) (fun _ _ => 0)
      case atStart => exact ⟨rfl, rfl⟩
      case round =>
        obtain ⟨rfl, rfl⟩ := hrel
        go_wp2
        go_ret
        exact ⟨⟨_, rfl⟩, hR1, hG1⟩
  · have he : e ≠ 0 := by
      rcases hb with h | h
      · exact h
      · exact absurd h hbb
    have hE1 : (e == 0) = false := by simpa using he
    have hnil := hl he
    subst hnil
    have HX := hid (fl_of (k := 1) he)
    have hd1 : decide (b < 1) = false := by simp; omega
    have hd2 : decide (64 < b) = false := by simp; omega
    obtain ⟨sv1, r1, r2⟩ := id h
    obtain ⟨d0, d1, k0, k1⟩ := cells_two38 r1
    clear r1 r2 hbb hb hl he
    go_enter Try.func35, Try.ntmps35
    go_wp2
    go_loopw [5] (fun v wr => v = .slice none 0 0 ∧ w = wr) (fun _ _ => 0)
    case atStart => exact ⟨rfl, rfl⟩
    case round =>
      obtain ⟨rfl, rfl⟩ := hrel
      go_wp2
      go_ret
      refine ⟨⟨_, rfl⟩, ?_, grownBy_refl _ _⟩
      rw [HX.out]
      exact h

end Go.Proofs.Ytljfhedmpnikiaa
