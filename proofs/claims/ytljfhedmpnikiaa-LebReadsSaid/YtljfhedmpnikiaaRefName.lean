/-
  The contract of the document's own reader's Name. No condition beyond what such a reader is.
-/
import Derived.Test.YtljfhedmpnikiaaRefS2
import Derived.Test.YtljfhedmpnikiaaRefValid
namespace Go.Proofs.Ytljfhedmpnikiaa
open Go.RowKit

theorem uSpec_lt32 (l : List UInt8) (e : Int) : (uSpec 32 l e).1 < 4294967296 := by
  unfold uSpec
  split
  · show 0 < _; decide
  · split
    · show 0 < _; decide
    · rename_i low last sh t hg
      obtain ⟨h1, h2, h3, h4⟩ := grp_inr (by decide) (by simp) hg
      split
      · rename_i hz
        show low + last * 2 ^ sh < _
        have hl := (Nat.div_eq_zero_iff_lt (Nat.two_pow_pos _)).1 hz
        have : (last + 1) * 2 ^ sh ≤ 2 ^ ((32 : Int).toNat - sh) * 2 ^ sh := Nat.mul_le_mul_right _ hl
        rw [← Nat.pow_add, Nat.sub_add_cancel (Nat.le_of_lt h2)] at this
        rw [Nat.add_mul] at this
        have h5 : (2 : Nat) ^ (32 : Int).toNat = 4294967296 := rfl
        omega
      · show 0 < _; decide

theorem bz_form {B : Nat} {w : World} {v : Value} {l : List UInt8} (h : BytesZ B w v l) : ∃ a c, v = .slice a l.length c := by
  rcases h with h | ⟨x, rfl, rfl⟩
  · rcases h with ⟨rfl, rfl⟩ | ⟨g', off, cap, rfl, _⟩
    · exact ⟨_, _, rfl⟩
    · exact ⟨_, _, rfl⟩
  · exact ⟨_, _, rfl⟩

theorem tSpec_nat (n : Nat) (l : List UInt8) (e : Int) : tSpec (n : Int) l e = nx n l e := by rw [tSpec, if_neg (by omega), Int.toNat_natCast]

theorem validL_nil : validL [] = true := by decide

set_option maxHeartbeats 1600000 in
theorem RName_any (w : World) (g : Nat) (l : List UInt8) (e : Int) (h : RR w g l e) (hl : e ≠ 0 → l = []) :
    Calls Try.prog 26 #[.pointer (some ⟨g, 0, none⟩)] w fun en w' => en = .returned (.string ⟨(nSpec l e).1.toArray⟩) ∧ RR w' g (nSpec l e).2.1 (nSpec l e).2.2 ∧ w.grownBy w' (some g) := by
  have hU := RU_any w g l e 32 h hl
  have hi := uSpec_inv 32 l e hl
  have hlt := uSpec_lt32 l e
  have hN : Hid (nSpec l e = if validL (nx (uSpec 32 l e).1 (uSpec 32 l e).2.1 (uSpec 32 l e).2.2).1 then nx (uSpec 32 l e).1 (uSpec 32 l e).2.1 (uSpec 32 l e).2.2 else ([], [], fl (nx (uSpec 32 l e).1 (uSpec 32 l e).2.1 (uSpec 32 l e).2.2).2.2 13)) := hid rfl
  have hg := h.lt
  clear h
  generalize uSpec 32 l e = u at *
  obtain ⟨n, l1, e1⟩ := u
  simp only at hU hi hlt hN
  have HU := hid hU
  have HI := hid hi
  have HT : Hid (∀ W l' e', RR W g l' e' → (e' ≠ 0 → l' = []) → Calls Try.prog 24 #[.pointer (some ⟨g, 0, none⟩), .int .i64 n] W fun en w' => ∃ v', en = .returned v' ∧ BytesIn g w' v' (nx n l' e').1 ∧ RR w' g (nx n l' e').2.1 (nx n l' e').2.2 ∧ W.grownBy w' (some g)) := hid fun W l' e' hR hl' => by
    have := RTake_any W g l' e' n (by omega) hR hl'
    rw [tSpec_nat] at this
    exact this
  clear hU hi hl
  by_cases he : e1 = 0
  · subst he
    by_cases hs : l1.length < n
    · have HX : Hid (nSpec l e = ([], [], 10)) := hid (by
        rw [hN.out]
        have e1 : nx n l1 0 = ([], [], 10) := by simp [nx, hs, fl]
        rw [e1]
        simp [validL_nil])
      have HY : Hid (nx n [] 10 = ([], [], 10)) := hid (by
        unfold nx
        split
        · simp [fl]
        · simp)
      have HV : Hid (∀ W : World, Calls Try.prog 32 #[.string ⟨#[]⟩] W fun e w' => e = .returned (.bool true) ∧ W = w') := hid fun W => refValid_any ⟨#[]⟩ W (by decide)
      have hd : decide (l1.length < n) = true := by simpa using hs
      clear hN hs
      go_enter Try.func26, Try.ntmps26
      go_wp2_with (first
        | (go_at_call 18; refine HU.out.mono ?_; rintro en w1 ⟨rfl, hR1, hG1⟩; obtain ⟨sv1, r1, r2⟩ := id hR1; obtain ⟨a1, c1, rfl⟩ := bz_form r2; obtain ⟨d0, d1, k0, k1⟩ := cells_two38 r1; clear r1 r2; have KR1 := hid hR1; clear hR1; have hlw : IntKind.u64.wrap ((l1.length : Nat) : Int) = ((l1.length : Nat) : Int) := (by have := KR1.out.len; rw [IntKind.wrap_u64]; omega))
        | (go_at_call 28; refine (RFail_set w1 g l1 10 KR1.out (by decide)).mono ?_; rintro en w2 ⟨rfl, hR2, hG2⟩; have KR2 := hid hR2; clear hR2)
        | (go_at_call 24; refine (HT.out w2 [] 10 KR2.out (fun _ => rfl)).mono ?_; rw [HY.out]; rintro en w3 ⟨v3, rfl, hb3, hR3, hG3⟩; have hc := conv_in hb3; obtain ⟨sv3, r1, r2⟩ := id hR3; obtain ⟨d2, d3, k2, k3⟩ := cells_two38 r1; clear r1 r2 hb3; have KR3 := hid hR3; clear hR3)
        | (go_at_call 32; refine (HV.out _).mono ?_; rintro en w4 ⟨rfl, rfl⟩))
      go_ret
      rw [HX.out]
      exact ⟨rfl, KR3.out, grownBy_trans (grownBy_trans hG1 hG2) hG3⟩
    · have hnx : nx n l1 0 = (l1.take n, l1.drop n, 0) := by simp [nx, hs]
      have HY := hid hnx
      obtain ⟨bs, hbs⟩ : ∃ bs, bs = l1.take n := ⟨_, rfl⟩
      obtain ⟨l2, hl2⟩ : ∃ l2, l2 = l1.drop n := ⟨_, rfl⟩
      rw [← hbs, ← hl2] at HY
      have hblen : bs.length ≤ n := by rw [hbs, List.length_take]; omega
      have hd : decide (l1.length < n) = false := by simpa using hs
      cases hv : validL bs with
      | true =>
        have HX : Hid (nSpec l e = (bs, l2, 0)) := hid (by rw [hN.out, HY.out]; simp [hv])
        have HV : Hid (∀ W : World, Calls Try.prog 32 #[.string ⟨bs.toArray⟩] W fun e w' => e = .returned (.bool true) ∧ W = w') := hid fun W => by
          have := refValid_any ⟨bs.toArray⟩ W (by show bs.length ≤ _; omega)
          rw [show vfrom ⟨bs.toArray⟩ (ByteArray.size ⟨bs.toArray⟩) 0 = true from hv] at this
          exact this
        clear hN hs hnx hbs hl2 hblen hv
        go_enter Try.func26, Try.ntmps26
        go_wp2_with (first
          | (go_at_call 18; refine HU.out.mono ?_; rintro en w1 ⟨rfl, hR1, hG1⟩; obtain ⟨sv1, r1, r2⟩ := id hR1; obtain ⟨a1, c1, rfl⟩ := bz_form r2; obtain ⟨d0, d1, k0, k1⟩ := cells_two38 r1; clear r1 r2; have KR1 := hid hR1; clear hR1; have hlw : IntKind.u64.wrap ((l1.length : Nat) : Int) = ((l1.length : Nat) : Int) := (by have := KR1.out.len; rw [IntKind.wrap_u64]; omega))
          | (go_at_call 24; refine (HT.out w1 l1 0 KR1.out (fun h => absurd rfl h)).mono ?_; rw [HY.out]; rintro en w3 ⟨v3, rfl, hb3, hR3, hG3⟩; have hc := conv_in hb3; obtain ⟨sv3, r1, r2⟩ := id hR3; obtain ⟨d2, d3, k2, k3⟩ := cells_two38 r1; clear r1 r2 hb3; have KR3 := hid hR3; clear hR3)
          | (go_at_call 32; refine (HV.out _).mono ?_; rintro en w4 ⟨rfl, rfl⟩))
        go_ret
        rw [HX.out]
        exact ⟨rfl, KR3.out, grownBy_trans hG1 hG3⟩
      | false =>
        have HX : Hid (nSpec l e = ([], [], 13)) := hid (by rw [hN.out, HY.out]; simp [hv, fl])
        have HV : Hid (∀ W : World, Calls Try.prog 32 #[.string ⟨bs.toArray⟩] W fun e w' => e = .returned (.bool false) ∧ W = w') := hid fun W => by
          have := refValid_any ⟨bs.toArray⟩ W (by show bs.length ≤ _; omega)
          rw [show vfrom ⟨bs.toArray⟩ (ByteArray.size ⟨bs.toArray⟩) 0 = false from hv] at this
          exact this
        clear hN hs hnx hbs hl2 hblen hv
        go_enter Try.func26, Try.ntmps26
        go_wp2_with (first
          | (go_at_call 18; refine HU.out.mono ?_; rintro en w1 ⟨rfl, hR1, hG1⟩; obtain ⟨sv1, r1, r2⟩ := id hR1; obtain ⟨a1, c1, rfl⟩ := bz_form r2; obtain ⟨d0, d1, k0, k1⟩ := cells_two38 r1; clear r1 r2; have KR1 := hid hR1; clear hR1; have hlw : IntKind.u64.wrap ((l1.length : Nat) : Int) = ((l1.length : Nat) : Int) := (by have := KR1.out.len; rw [IntKind.wrap_u64]; omega))
          | (go_at_call 24; refine (HT.out w1 l1 0 KR1.out (fun h => absurd rfl h)).mono ?_; rw [HY.out]; rintro en w3 ⟨v3, rfl, hb3, hR3, hG3⟩; have hc := conv_in hb3; have KR3 := hid hR3; clear hR3 hb3)
          | (go_at_call 32; refine (HV.out _).mono ?_; rintro en w4 ⟨rfl, rfl⟩)
          | (go_at_call 28; refine (RFail_set w3 g l2 13 KR3.out (by decide)).mono ?_; rintro en w5 ⟨rfl, hR5, hG5⟩; obtain ⟨sv5, r1, r2⟩ := id hR5; obtain ⟨d4, d5, k4, k5⟩ := cells_two38 r1; clear r1 r2; have KR5 := hid hR5; clear hR5))
        go_ret
        rw [HX.out]
        exact ⟨rfl, KR5.out, grownBy_trans (grownBy_trans hG1 hG3) hG5⟩
  · have hl1 : l1 = [] := HI.out he
    subst hl1
    have HY : Hid (nx n [] e1 = ([], [], e1)) := hid (by
      unfold nx
      split
      · simp [fl, he]
      · simp)
    have HX : Hid (nSpec l e = ([], [], e1)) := hid (by rw [hN.out, HY.out]; simp [validL_nil])
    have HV : Hid (∀ W : World, Calls Try.prog 32 #[.string ⟨#[]⟩] W fun e w' => e = .returned (.bool true) ∧ W = w') := hid fun W => refValid_any ⟨#[]⟩ W (by decide)
    have hb1 : (e1 == 0) = false := by simpa using he
    have hb2 : (e1 != 0) = true := by simpa using he
    clear hN he
    go_enter Try.func26, Try.ntmps26
    go_wp2_with (first
      | (go_at_call 18; refine HU.out.mono ?_; rintro en w1 ⟨rfl, hR1, hG1⟩; obtain ⟨sv1, r1, r2⟩ := id hR1; obtain ⟨a1, c1, rfl⟩ := bz_form r2; obtain ⟨d0, d1, k0, k1⟩ := cells_two38 r1; clear r1 r2; have KR1 := hid hR1; clear hR1)
      | (go_at_call 24; refine (HT.out w1 [] e1 KR1.out (fun _ => rfl)).mono ?_; rw [HY.out]; rintro en w3 ⟨v3, rfl, hb3, hR3, hG3⟩; have hc := conv_in hb3; obtain ⟨sv3, r1, r2⟩ := id hR3; obtain ⟨d2, d3, k2, k3⟩ := cells_two38 r1; clear r1 r2 hb3; have KR3 := hid hR3; clear hR3)
      | (go_at_call 32; refine (HV.out _).mono ?_; rintro en w4 ⟨rfl, rfl⟩))
    go_ret
    rw [HX.out]
    exact ⟨rfl, KR3.out, grownBy_trans hG1 hG3⟩

end Go.Proofs.Ytljfhedmpnikiaa
