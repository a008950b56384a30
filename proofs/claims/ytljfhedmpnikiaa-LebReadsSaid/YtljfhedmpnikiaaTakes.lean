/-
  The contracts of the program's own leb.Read, and of a reader's Take and Name, on a reader that is there and on none. Condition on Read: fewer than 2^47 - 4096 bytes.
-/
import Derived.Test.YtljfhedmpnikiaaNumbers
import Derived.Test.YtljfhedmpnikiaaUtf
namespace Go.Proofs.Ytljfhedmpnikiaa
open Go.RowKit

theorem owned_slice {w : World} {base : Nat} {e : TypeId} {size : Nat} {v : Value} {n : Nat} {xs : List Value} (h : w.ownsRow base e size v n xs) : ∃ a c, v = .slice a n c := by
  rcases h.2 with ⟨h1, h2⟩ | ⟨g, cap, cur, h1, h2, h3⟩
  · exact ⟨_, _, by rw [h1, h2]⟩
  · exact ⟨_, _, h1⟩

set_option maxHeartbeats 400000 in
theorem Read_in (B : Nat) (v : Value) (l : List UInt8) (w : World) (hv : BytesIn B w v l) (hB : B ≤ w.heap.size) :
    Calls Try.prog 16 #[v] w fun e w' => ∃ g, e = .returned (.pointer (some ⟨g, 0, none⟩)) ∧ w.heap.size ≤ g ∧ Rd w' g l 0 ∧ Below w.heap.size w w' := by
  have hl := hv.len
  go_enter Try.func16, Try.ntmps16
  go_wp2_with (go_at_call 33; refine (copied_in B _ l 0 _ hv hB (by omega) (by omega)).mono ?_; rintro e w1 ⟨v1, rfl, hown1, hbel1⟩; obtain ⟨a1, c1, rfl⟩ := owned_slice hown1)
  go_ret
  refine ⟨w1.heap.size, rfl, hbel1.size, ⟨_, heap_alloc_new _ _, ?_⟩, hbel1.alloc hbel1.size _⟩
  exact (bytes_of_owned hown1 hl).below ((Below.refl _ _).alloc (Nat.le_refl _) _)

theorem Read_any (B : Nat) (v : Value) (l : List UInt8) (w : World) (hv : BytesAt B w v l) (hB : B ≤ w.heap.size) :
    Calls Try.prog 16 #[v] w fun e w' => ∃ g, e = .returned (.pointer (some ⟨g, 0, none⟩)) ∧ w.heap.size ≤ g ∧ Rd w' g l 0 ∧ Below w.heap.size w w' :=
  Read_in B v l w (.inl hv) hB

/-- What Take(n) gives; what is left; the error. -/
def tSpec (n : Int) (l : List UInt8) (e : Int) : List UInt8 × List UInt8 × Int := if n < 0 then ([], [], fl e 1) else nx n.toNat l e

theorem nx_len (n : Nat) (l : List UInt8) (e : Int) : (nx n l e).1.length ≤ l.length := by
  unfold nx; split
  · simp
  · rw [List.length_take]; omega

theorem Rd.len {w : World} {g : Nat} {l : List UInt8} {e : Int} (h : Rd w g l e) : l.length ≤ 140737488351232 := by
  obtain ⟨_, _, h⟩ := h
  exact h.len

set_option maxHeartbeats 400000 in
theorem Take_any (w : World) (g : Nat) (l : List UInt8) (e : Int) (n : Int) (hn : n ≤ 9223372036854775807) (h : Rd w g l e) (hl : e ≠ 0 → l = []) :
    Calls Try.prog 23 #[.pointer (some ⟨g, 0, none⟩), .int .i64 n] w fun en w' => ∃ v', en = .returned v' ∧ w'.ownsRow w.heap.size 5 1 v' (tSpec n l e).1.length (Lib.byteCells (tSpec n l e).1) ∧ Rd w' g (tSpec n l e).2.1 (tSpec n l e).2.2 ∧ w.grownBy w' (some g) := by
  by_cases h0 : n < 0
  · have HX : Hid (tSpec n l e = ([], [], fl e 1)) := hid (by rw [tSpec, if_pos h0])
    have HF := hid (Fail_any w g l e 1 h hl (by decide))
    clear h hl
    go_enter Try.func23, Try.ntmps23
    go_wp2_with (go_at_call 27; refine HF.out.mono ?_; rintro en w2 ⟨rfl, hR2, hG2⟩)
    go_ret
    refine ⟨_, rfl, ?_⟩
    rw [HX.out]
    exact ⟨World.ownsRow_nil _ _ _ _, hR2, hG2⟩
  · obtain ⟨m, rfl⟩ : ∃ m : Nat, n = (m : Int) := ⟨n.toNat, by omega⟩
    have HX : Hid (tSpec m l e = nx m l e) := hid (by rw [tSpec, if_neg h0, Int.toNat_natCast])
    have hlen := nx_len m l e
    have hlm := h.len
    have hg := h.lt
    have HN := hid (next_any w g l e m (by omega) h hl)
    have hL := Nat.le_trans hlen hlm
    clear h hl hlen
    generalize hr : nx m l e = r at *
    obtain ⟨l1, l2, e2⟩ := r
    have hL1 : l1.length ≤ 140737488351232 := hL
    clear hr hL
    go_enter Try.func23, Try.ntmps23
    go_wp2_with (first
      | (go_at_call 37; refine HN.out.mono ?_; rintro en w1 ⟨v1, rfl, hB, hR, hG⟩)
      | (go_at_call 33; refine (copied_any g _ l1 0 w1 hB (Nat.le_of_lt hR.lt) (by omega) (by omega)).mono ?_; rintro e w2 ⟨v2, rfl, hown2, hbel2⟩))
    go_ret
    refine ⟨v2, rfl, ?_⟩
    rw [HX.out]
    exact ⟨ownsRow_mono hown2 hG.size, hR.below hbel2, grownBy_trans hG (grownBy_below hbel2 _)⟩

set_option maxHeartbeats 400000 in
theorem Take_nil (w : World) (n : Int) (hn : n ≤ 9223372036854775807) :
    Calls Try.prog 23 #[.pointer none, .int .i64 n] w fun en w' => ∃ v', en = .returned v' ∧ w'.ownsRow w.heap.size 5 1 v' 0 [] ∧ Below w.heap.size w w' := by
  by_cases h0 : n < 0
  · go_enter Try.func23, Try.ntmps23
    go_wp2_with (go_at_call 27; refine (Fail_nil w 1).mono ?_; rintro en w2 ⟨rfl, rfl⟩)
    go_ret
    exact ⟨_, rfl, World.ownsRow_nil _ _ _ _, Below.refl _ _⟩
  · obtain ⟨m, rfl⟩ : ∃ m : Nat, n = (m : Int) := ⟨n.toNat, by omega⟩
    have hN : ∀ W, Calls Try.prog 37 #[.pointer none, .int .u64 m] W fun en w' => en = .returned (.slice none 0 0) ∧ W = w' := fun W => by
      by_cases hm : m = 0
      · subst hm; exact next_nil0 W
      · exact next_nil W m (by omega) (by omega)
    have HN := hid hN
    clear hN
    go_enter Try.func23, Try.ntmps23
    go_wp2_with (first
      | (go_at_call 37; refine (HN.out _).mono ?_; rintro en w1 ⟨rfl, rfl⟩)
      | (go_at_call 33; refine (copied_any 0 _ [] 0 w (.inl ⟨rfl, rfl⟩) (by omega) (by omega) (by simp)).mono ?_; rintro e w2 ⟨v2, rfl, hown2, hbel2⟩))
    go_ret
    exact ⟨v2, rfl, hown2, hbel2⟩

end Go.Proofs.Ytljfhedmpnikiaa
