/-
  The contract of a reader's own Name. No condition beyond what a reader is.
-/
import Derived.Test.YtljfhedmpnikiaaAwake
namespace Go.Proofs.Ytljfhedmpnikiaa
open Go.RowKit

/-- UTF-8, of a list of bytes. -/
def validL (l : List UInt8) : Bool := vfrom ⟨l.toArray⟩ l.length 0

/-- What Name gives; what is left; the error. -/
def nSpec (l : List UInt8) (e : Int) : List UInt8 × List UInt8 × Int :=
  let u := uSpec 32 l e
  let x := nx u.1 u.2.1 u.2.2
  if validL x.1 then x else ([], [], fl x.2.2 13)

theorem fl_keep {e : Int} {l l' : List UInt8} (h : e ≠ 0 → l = []) (h' : l = [] → l' = []) : e ≠ 0 → l' = [] := fun he => h' (h he)

theorem fl_of {e k : Int} (he : e ≠ 0) : fl e k = e := by simp [fl, he]

/-- With an error nothing is left. -/
theorem uSpec_inv (b : Int) (l : List UInt8) (e : Int) (hl : e ≠ 0 → l = []) : (uSpec b l e).2.2 ≠ 0 → (uSpec b l e).2.1 = [] := by
  unfold uSpec
  split
  · exact fun _ => rfl
  · rename_i hb
    split
    · exact fun _ => rfl
    · rename_i low last sh t hg
      obtain ⟨_, _, _, h4⟩ := grp_inr (by omega) (by simp) hg
      have he : e = 0 := by
        by_cases h : e = 0
        · exact h
        · exact absurd (hl h) h4
      split
      · exact fun h => absurd he h
      · exact fun _ => rfl

theorem sSpec_inv (b : Int) (l : List UInt8) (e : Int) (hl : e ≠ 0 → l = []) : (sSpec b l e).2.2 ≠ 0 → (sSpec b l e).2.1 = [] := by
  unfold sSpec
  split
  · exact fun _ => rfl
  · rename_i hb
    split
    · exact fun _ => rfl
    · rename_i low last sh t hg
      obtain ⟨_, _, _, h4⟩ := grp_inr (by omega) (by simp) hg
      have he : e = 0 := by
        by_cases h : e = 0
        · exact h
        · exact absurd (hl h) h4
      split
      · exact fun h => absurd he h
      · exact fun _ => rfl

theorem nx_inv (n : Nat) (l : List UInt8) (e : Int) (hl : e ≠ 0 → l = []) : (nx n l e).2.2 ≠ 0 → (nx n l e).2.1 = [] := by
  unfold nx
  split
  · exact fun _ => rfl
  · intro h
    show l.drop n = []
    rw [hl h]; simp

theorem uSpec_lt (b : Int) (l : List UInt8) (e : Int) : (uSpec b l e).1 < 18446744073709551616 := by
  unfold uSpec
  split
  · show 0 < _; decide
  · rename_i hb
    split
    · show 0 < _; decide
    · rename_i low last sh t hg
      obtain ⟨h1, h2, h3, h4⟩ := grp_inr (by omega) (by simp) hg
      split
      · rename_i hz
        show low + last * 2 ^ sh < _
        have hl := (Nat.div_eq_zero_iff_lt (Nat.two_pow_pos _)).1 hz
        have : (last + 1) * 2 ^ sh ≤ 2 ^ (b.toNat - sh) * 2 ^ sh := Nat.mul_le_mul_right _ hl
        rw [← Nat.pow_add] at this
        have h5 : 2 ^ (b.toNat - sh + sh) ≤ 2 ^ 64 := Nat.pow_le_pow_right (by decide) (by omega)
        rw [Nat.add_mul] at this
        omega
      · show 0 < _; decide

set_option maxHeartbeats 800000 in
theorem Name_rd (w : World) (g : Nat) (l : List UInt8) (e : Int) (h : Rd w g l e) (hl : e ≠ 0 → l = []) :
    Calls Try.prog 25 #[.pointer (some ⟨g, 0, none⟩)] w fun en w' => en = .returned (.string ⟨(nSpec l e).1.toArray⟩) ∧ Rd w' g (nSpec l e).2.1 (nSpec l e).2.2 ∧ w.grownBy w' (some g) := by
  have hU := rU_any w g l e 32 h hl
  have hi := uSpec_inv 32 l e hl
  have hlt := uSpec_lt 32 l e
  have hN : Hid (nSpec l e = if validL (nx (uSpec 32 l e).1 (uSpec 32 l e).2.1 (uSpec 32 l e).2.2).1 then nx (uSpec 32 l e).1 (uSpec 32 l e).2.1 (uSpec 32 l e).2.2 else ([], [], fl (nx (uSpec 32 l e).1 (uSpec 32 l e).2.1 (uSpec 32 l e).2.2).2.2 13)) := hid rfl
  have hg := h.lt
  clear h
  generalize uSpec 32 l e = u at *
  obtain ⟨n, l1, e1⟩ := u
  simp only at hU hi hlt hN
  have HX : ∀ W, Rd W g l1 e1 → Calls Try.prog 37 #[.pointer (some ⟨g, 0, none⟩), .int .u64 n] W fun en w' => ∃ v', en = .returned v' ∧ BytesAt g w' v' (nx n l1 e1).1 ∧ Rd w' g (nx n l1 e1).2.1 (nx n l1 e1).2.2 ∧ W.grownBy w' (some g) := fun W hR => next_any W g l1 e1 n hlt hR hi
  have hi2 := nx_inv n l1 e1 hi
  generalize nx n l1 e1 = x at *
  obtain ⟨bs, l2, e2⟩ := x
  simp only at hi2 hN HX
  have HU := hid hU
  have HXX := hid HX
  have HI := hid hi2
  have HV : Hid (∀ W, bs.length ≤ 140737488351232 → Calls Try.prog 31 #[.string ⟨bs.toArray⟩] W fun e w' => e = .returned (.bool (validL bs)) ∧ Below W.heap.size W w') := hid fun W hb => by
    have := Valid_any ⟨bs.toArray⟩ W (by show bs.length ≤ _; omega)
    exact this
  clear hU HX hi2 hi hlt hl
  cases hv : validL bs with
  | true =>
    rw [hv] at HV hN
    clear hv
    go_enter Try.func25, Try.ntmps25
    go_wp2_with (first
      | (go_at_call 17; refine HU.out.mono ?_; rintro en w1 ⟨rfl, hR1, hG1⟩)
      | (go_at_call 37; refine (HXX.out w1 hR1).mono ?_; rintro en w2 ⟨v2, rfl, hB2, hR2, hG2⟩; have hc := conv_bytes hB2; have hbl := hB2.len)
      | (go_at_call 31; (with_reducible refine (HV.out w2 hbl).mono ?_); rintro en w3 ⟨rfl, hB3⟩))
    go_ret
    rw [hN.out]
    exact ⟨rfl, hR2.below hB3, grownBy_trans (grownBy_trans hG1 hG2) (grownBy_below hB3 _)⟩
  | false =>
    rw [hv] at HV hN
    clear hv
    go_enter Try.func25, Try.ntmps25
    go_wp2_with (first
      | (go_at_call 17; refine HU.out.mono ?_; rintro en w1 ⟨rfl, hR1, hG1⟩)
      | (go_at_call 37; refine (HXX.out w1 hR1).mono ?_; rintro en w2 ⟨v2, rfl, hB2, hR2, hG2⟩; have hc := conv_bytes hB2; have hbl := hB2.len)
      | (go_at_call 31; (with_reducible refine (HV.out w2 hbl).mono ?_); rintro en w3 ⟨rfl, hB3⟩)
      | (go_at_call 27; refine (Fail_any w3 g l2 e2 13 (hR2.below hB3) HI.out (by decide)).mono ?_; rintro en w4 ⟨rfl, hR4, hG4⟩))
    go_ret
    rw [hN.out]
    exact ⟨rfl, hR4, grownBy_trans (grownBy_trans (grownBy_trans hG1 hG2) (grownBy_below hB3 _)) hG4⟩

end Go.Proofs.Ytljfhedmpnikiaa
