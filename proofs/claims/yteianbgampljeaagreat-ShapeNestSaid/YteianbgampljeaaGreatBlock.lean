/-
  The contract of isBlock. No condition.
-/
import Derived.Test.YteianbgampljeaaGreatSmall
set_option linter.unusedSimpArgs false
set_option linter.unusedVariables false
set_option maxRecDepth 100000
namespace Go.Proofs.YteianbgampljeaaGreat
open Go.RowKit

/-- May a block be? -/
def blB (op a b : Int) (n h : Nat) (ot : Bool) (nl nb ne : Nat) : Bool := (if a = 0 then b == 0 else if a = 1 then valB b else if a = 2 then idxB b else false) && (if op = 4 ∧ ot = true then unB 0 0 n h false nl 0 0 else unB 0 0 n h ot nl 0 ne)
set_option maxHeartbeats 8000000 in
theorem isBlock_says (op a b : Int) (n h : Nat) (pl pb pe : Option Addr) (nl cl nb cb ne ce : Nat) (ot : Bool) (w : World) : Calls Tryz.prog 135 #[.agg #[.int .i64 op, .int .i64 a, .int .i64 b, .int .u64 (n : Nat), .int .u64 (h : Nat), .slice pl nl cl, .slice pb nb cb, .slice pe ne ce, .bool ot]] w fun e w' => e = .returned (.bool (blB op a b n h ot nl nb ne)) ∧ Below w.heap.size w w' := by
  have HV := fun W => hid (isVal_says b W)
  have HI := fun W => hid (isIndex_says b W)
  have HU1 := fun W => hid (isUnused_says op 0 0 n h pl none pe nl cl 0 0 ne ce ot W)
  have HU2 := fun W => hid (isUnused_says op 0 0 n h pl none none nl cl 0 0 0 0 false W)
  have HA := fun x => hid ((Below.refl w.heap.size w).alloc (Nat.le_refl _) x)
  unfold blB
  generalize unB 0 0 n h ot nl 0 ne = u1 at *
  generalize unB 0 0 n h false nl 0 0 = u2 at *
  generalize valB b = vb at *
  generalize idxB b = ib at *
  obtain ⟨zb, dz⟩ : ∃ x, (b == 0) = x := ⟨_, rfl⟩
  rw [dz]
  obtain ⟨t, dt⟩ : ∃ t, t = (if a = 0 then zb else if a = 1 then vb else if a = 2 then ib else false) := ⟨_, rfl⟩
  rw [← dt]
  have HK : ∃ k : Nat, (k = 0 ∧ (a == 0) = true ∧ t = zb) ∨ (k = 1 ∧ (a == 0) = false ∧ (a == 1) = true ∧ t = vb) ∨ (k = 2 ∧ (a == 0) = false ∧ (a == 1) = false ∧ (a == 2) = true ∧ t = ib) ∨ (k = 3 ∧ (a == 0) = false ∧ (a == 1) = false ∧ (a == 2) = false ∧ t = false) := by
    by_cases h0 : a = 0
    · exact ⟨0, .inl ⟨rfl, by simp [h0], by rw [dt, if_pos h0]⟩⟩
    by_cases h1 : a = 1
    · exact ⟨1, .inr (.inl ⟨rfl, by simp [h0], by simp [h1], by rw [dt, if_neg h0, if_pos h1]⟩)⟩
    by_cases h2 : a = 2
    · exact ⟨2, .inr (.inr (.inl ⟨rfl, by simp [h0], by simp [h1], by simp [h2], by rw [dt, if_neg h0, if_neg h1, if_pos h2]⟩))⟩
    · exact ⟨3, .inr (.inr (.inr ⟨rfl, by simp [h0], by simp [h1], by simp [h2], by rw [dt, if_neg h0, if_neg h1, if_neg h2]⟩))⟩
  obtain ⟨y, dy⟩ : ∃ y, y = (if op = 4 ∧ ot = true then u2 else u1) := ⟨_, rfl⟩
  rw [← dy]
  have HO : ((op == 4) = false ∧ y = u1) ∨ ((op == 4) = true ∧ ot = false ∧ y = u1) ∨ ((op == 4) = true ∧ ot = true ∧ y = u2) := by
    by_cases h0 : op = 4
    · cases ot
      · exact .inr (.inl ⟨by simp [h0], rfl, by rw [dy, if_neg (by simp)]⟩)
      · exact .inr (.inr ⟨by simp [h0], rfl, by rw [dy, if_pos ⟨h0, rfl⟩]⟩)
    · exact .inl ⟨by simp [h0], by rw [dy, if_neg (fun h => h0 h.1)]⟩
  clear dt dy
  obtain ⟨k, hk⟩ := HK
  rcases hk with ⟨rfl, e1, rfl⟩ | ⟨rfl, e1, e2, rfl⟩ | ⟨rfl, e1, e2, e3, rfl⟩ | ⟨rfl, e1, e2, e3, rfl⟩
  · rcases HO with ⟨q1, rfl⟩ | ⟨q1, rfl, rfl⟩ | ⟨q1, rfl, rfl⟩
    · cases t
      · go_enter Tryz.func135, Tryz.ntmps135
        go_wp2_with (first
          | (go_at_call 94; (with_reducible refine (HV _).out.mono ?_); rintro e w1 ⟨rfl, rfl⟩)
          | (go_at_call 95; (with_reducible refine (HI _).out.mono ?_); rintro e w1 ⟨rfl, rfl⟩)
          | (go_at_call 137; (with_reducible refine (HU1 _).out.mono ?_); rintro e w2 ⟨rfl, hb2⟩; have HB2 := hid hb2; clear hb2))
        go_ret
        exact ⟨by simp, (HA _).out⟩
      · go_enter Tryz.func135, Tryz.ntmps135
        go_wp2_with (first
          | (go_at_call 94; (with_reducible refine (HV _).out.mono ?_); rintro e w1 ⟨rfl, rfl⟩)
          | (go_at_call 95; (with_reducible refine (HI _).out.mono ?_); rintro e w1 ⟨rfl, rfl⟩)
          | (go_at_call 137; (with_reducible refine (HU1 _).out.mono ?_); rintro e w2 ⟨rfl, hb2⟩; have HB2 := hid hb2; clear hb2))
        go_ret
        exact ⟨by simp, ((HA _).out).trans (HB2.out.mono ((HA _).out).size)⟩
    · cases t
      · go_enter Tryz.func135, Tryz.ntmps135
        go_wp2_with (first
          | (go_at_call 94; (with_reducible refine (HV _).out.mono ?_); rintro e w1 ⟨rfl, rfl⟩)
          | (go_at_call 95; (with_reducible refine (HI _).out.mono ?_); rintro e w1 ⟨rfl, rfl⟩)
          | (go_at_call 137; (with_reducible refine (HU1 _).out.mono ?_); rintro e w2 ⟨rfl, hb2⟩; have HB2 := hid hb2; clear hb2))
        go_ret
        exact ⟨by simp, (HA _).out⟩
      · go_enter Tryz.func135, Tryz.ntmps135
        go_wp2_with (first
          | (go_at_call 94; (with_reducible refine (HV _).out.mono ?_); rintro e w1 ⟨rfl, rfl⟩)
          | (go_at_call 95; (with_reducible refine (HI _).out.mono ?_); rintro e w1 ⟨rfl, rfl⟩)
          | (go_at_call 137; (with_reducible refine (HU1 _).out.mono ?_); rintro e w2 ⟨rfl, hb2⟩; have HB2 := hid hb2; clear hb2))
        go_ret
        exact ⟨by simp, ((HA _).out).trans (HB2.out.mono ((HA _).out).size)⟩
    · cases t
      · go_enter Tryz.func135, Tryz.ntmps135
        go_wp2_with (first
          | (go_at_call 94; (with_reducible refine (HV _).out.mono ?_); rintro e w1 ⟨rfl, rfl⟩)
          | (go_at_call 95; (with_reducible refine (HI _).out.mono ?_); rintro e w1 ⟨rfl, rfl⟩)
          | (go_at_call 137; (with_reducible refine (HU2 _).out.mono ?_); rintro e w2 ⟨rfl, hb2⟩; have HB2 := hid hb2; clear hb2))
        go_ret
        exact ⟨by simp, (HA _).out⟩
      · go_enter Tryz.func135, Tryz.ntmps135
        go_wp2_with (first
          | (go_at_call 94; (with_reducible refine (HV _).out.mono ?_); rintro e w1 ⟨rfl, rfl⟩)
          | (go_at_call 95; (with_reducible refine (HI _).out.mono ?_); rintro e w1 ⟨rfl, rfl⟩)
          | (go_at_call 137; (with_reducible refine (HU2 _).out.mono ?_); rintro e w2 ⟨rfl, hb2⟩; have HB2 := hid hb2; clear hb2))
        go_ret
        exact ⟨by simp, ((HA _).out).trans (HB2.out.mono ((HA _).out).size)⟩
  · rcases HO with ⟨q1, rfl⟩ | ⟨q1, rfl, rfl⟩ | ⟨q1, rfl, rfl⟩
    · cases t
      · go_enter Tryz.func135, Tryz.ntmps135
        go_wp2_with (first
          | (go_at_call 94; (with_reducible refine (HV _).out.mono ?_); rintro e w1 ⟨rfl, rfl⟩)
          | (go_at_call 95; (with_reducible refine (HI _).out.mono ?_); rintro e w1 ⟨rfl, rfl⟩)
          | (go_at_call 137; (with_reducible refine (HU1 _).out.mono ?_); rintro e w2 ⟨rfl, hb2⟩; have HB2 := hid hb2; clear hb2))
        go_ret
        exact ⟨by simp, (HA _).out⟩
      · go_enter Tryz.func135, Tryz.ntmps135
        go_wp2_with (first
          | (go_at_call 94; (with_reducible refine (HV _).out.mono ?_); rintro e w1 ⟨rfl, rfl⟩)
          | (go_at_call 95; (with_reducible refine (HI _).out.mono ?_); rintro e w1 ⟨rfl, rfl⟩)
          | (go_at_call 137; (with_reducible refine (HU1 _).out.mono ?_); rintro e w2 ⟨rfl, hb2⟩; have HB2 := hid hb2; clear hb2))
        go_ret
        exact ⟨by simp, ((HA _).out).trans (HB2.out.mono ((HA _).out).size)⟩
    · cases t
      · go_enter Tryz.func135, Tryz.ntmps135
        go_wp2_with (first
          | (go_at_call 94; (with_reducible refine (HV _).out.mono ?_); rintro e w1 ⟨rfl, rfl⟩)
          | (go_at_call 95; (with_reducible refine (HI _).out.mono ?_); rintro e w1 ⟨rfl, rfl⟩)
          | (go_at_call 137; (with_reducible refine (HU1 _).out.mono ?_); rintro e w2 ⟨rfl, hb2⟩; have HB2 := hid hb2; clear hb2))
        go_ret
        exact ⟨by simp, (HA _).out⟩
      · go_enter Tryz.func135, Tryz.ntmps135
        go_wp2_with (first
          | (go_at_call 94; (with_reducible refine (HV _).out.mono ?_); rintro e w1 ⟨rfl, rfl⟩)
          | (go_at_call 95; (with_reducible refine (HI _).out.mono ?_); rintro e w1 ⟨rfl, rfl⟩)
          | (go_at_call 137; (with_reducible refine (HU1 _).out.mono ?_); rintro e w2 ⟨rfl, hb2⟩; have HB2 := hid hb2; clear hb2))
        go_ret
        exact ⟨by simp, ((HA _).out).trans (HB2.out.mono ((HA _).out).size)⟩
    · cases t
      · go_enter Tryz.func135, Tryz.ntmps135
        go_wp2_with (first
          | (go_at_call 94; (with_reducible refine (HV _).out.mono ?_); rintro e w1 ⟨rfl, rfl⟩)
          | (go_at_call 95; (with_reducible refine (HI _).out.mono ?_); rintro e w1 ⟨rfl, rfl⟩)
          | (go_at_call 137; (with_reducible refine (HU2 _).out.mono ?_); rintro e w2 ⟨rfl, hb2⟩; have HB2 := hid hb2; clear hb2))
        go_ret
        exact ⟨by simp, (HA _).out⟩
      · go_enter Tryz.func135, Tryz.ntmps135
        go_wp2_with (first
          | (go_at_call 94; (with_reducible refine (HV _).out.mono ?_); rintro e w1 ⟨rfl, rfl⟩)
          | (go_at_call 95; (with_reducible refine (HI _).out.mono ?_); rintro e w1 ⟨rfl, rfl⟩)
          | (go_at_call 137; (with_reducible refine (HU2 _).out.mono ?_); rintro e w2 ⟨rfl, hb2⟩; have HB2 := hid hb2; clear hb2))
        go_ret
        exact ⟨by simp, ((HA _).out).trans (HB2.out.mono ((HA _).out).size)⟩
  · rcases HO with ⟨q1, rfl⟩ | ⟨q1, rfl, rfl⟩ | ⟨q1, rfl, rfl⟩
    · cases t
      · go_enter Tryz.func135, Tryz.ntmps135
        go_wp2_with (first
          | (go_at_call 94; (with_reducible refine (HV _).out.mono ?_); rintro e w1 ⟨rfl, rfl⟩)
          | (go_at_call 95; (with_reducible refine (HI _).out.mono ?_); rintro e w1 ⟨rfl, rfl⟩)
          | (go_at_call 137; (with_reducible refine (HU1 _).out.mono ?_); rintro e w2 ⟨rfl, hb2⟩; have HB2 := hid hb2; clear hb2))
        go_ret
        exact ⟨by simp, (HA _).out⟩
      · go_enter Tryz.func135, Tryz.ntmps135
        go_wp2_with (first
          | (go_at_call 94; (with_reducible refine (HV _).out.mono ?_); rintro e w1 ⟨rfl, rfl⟩)
          | (go_at_call 95; (with_reducible refine (HI _).out.mono ?_); rintro e w1 ⟨rfl, rfl⟩)
          | (go_at_call 137; (with_reducible refine (HU1 _).out.mono ?_); rintro e w2 ⟨rfl, hb2⟩; have HB2 := hid hb2; clear hb2))
        go_ret
        exact ⟨by simp, ((HA _).out).trans (HB2.out.mono ((HA _).out).size)⟩
    · cases t
      · go_enter Tryz.func135, Tryz.ntmps135
        go_wp2_with (first
          | (go_at_call 94; (with_reducible refine (HV _).out.mono ?_); rintro e w1 ⟨rfl, rfl⟩)
          | (go_at_call 95; (with_reducible refine (HI _).out.mono ?_); rintro e w1 ⟨rfl, rfl⟩)
          | (go_at_call 137; (with_reducible refine (HU1 _).out.mono ?_); rintro e w2 ⟨rfl, hb2⟩; have HB2 := hid hb2; clear hb2))
        go_ret
        exact ⟨by simp, (HA _).out⟩
      · go_enter Tryz.func135, Tryz.ntmps135
        go_wp2_with (first
          | (go_at_call 94; (with_reducible refine (HV _).out.mono ?_); rintro e w1 ⟨rfl, rfl⟩)
          | (go_at_call 95; (with_reducible refine (HI _).out.mono ?_); rintro e w1 ⟨rfl, rfl⟩)
          | (go_at_call 137; (with_reducible refine (HU1 _).out.mono ?_); rintro e w2 ⟨rfl, hb2⟩; have HB2 := hid hb2; clear hb2))
        go_ret
        exact ⟨by simp, ((HA _).out).trans (HB2.out.mono ((HA _).out).size)⟩
    · cases t
      · go_enter Tryz.func135, Tryz.ntmps135
        go_wp2_with (first
          | (go_at_call 94; (with_reducible refine (HV _).out.mono ?_); rintro e w1 ⟨rfl, rfl⟩)
          | (go_at_call 95; (with_reducible refine (HI _).out.mono ?_); rintro e w1 ⟨rfl, rfl⟩)
          | (go_at_call 137; (with_reducible refine (HU2 _).out.mono ?_); rintro e w2 ⟨rfl, hb2⟩; have HB2 := hid hb2; clear hb2))
        go_ret
        exact ⟨by simp, (HA _).out⟩
      · go_enter Tryz.func135, Tryz.ntmps135
        go_wp2_with (first
          | (go_at_call 94; (with_reducible refine (HV _).out.mono ?_); rintro e w1 ⟨rfl, rfl⟩)
          | (go_at_call 95; (with_reducible refine (HI _).out.mono ?_); rintro e w1 ⟨rfl, rfl⟩)
          | (go_at_call 137; (with_reducible refine (HU2 _).out.mono ?_); rintro e w2 ⟨rfl, hb2⟩; have HB2 := hid hb2; clear hb2))
        go_ret
        exact ⟨by simp, ((HA _).out).trans (HB2.out.mono ((HA _).out).size)⟩
  · rcases HO with ⟨q1, rfl⟩ | ⟨q1, rfl, rfl⟩ | ⟨q1, rfl, rfl⟩
    · go_enter Tryz.func135, Tryz.ntmps135
      go_wp2_with (first
        | (go_at_call 94; (with_reducible refine (HV _).out.mono ?_); rintro e w1 ⟨rfl, rfl⟩)
        | (go_at_call 95; (with_reducible refine (HI _).out.mono ?_); rintro e w1 ⟨rfl, rfl⟩)
        | (go_at_call 137; (with_reducible refine (HU1 _).out.mono ?_); rintro e w2 ⟨rfl, hb2⟩; have HB2 := hid hb2; clear hb2))
      go_ret
      exact ⟨by simp, (HA _).out⟩
    · go_enter Tryz.func135, Tryz.ntmps135
      go_wp2_with (first
        | (go_at_call 94; (with_reducible refine (HV _).out.mono ?_); rintro e w1 ⟨rfl, rfl⟩)
        | (go_at_call 95; (with_reducible refine (HI _).out.mono ?_); rintro e w1 ⟨rfl, rfl⟩)
        | (go_at_call 137; (with_reducible refine (HU1 _).out.mono ?_); rintro e w2 ⟨rfl, hb2⟩; have HB2 := hid hb2; clear hb2))
      go_ret
      exact ⟨by simp, (HA _).out⟩
    · go_enter Tryz.func135, Tryz.ntmps135
      go_wp2_with (first
        | (go_at_call 94; (with_reducible refine (HV _).out.mono ?_); rintro e w1 ⟨rfl, rfl⟩)
        | (go_at_call 95; (with_reducible refine (HI _).out.mono ?_); rintro e w1 ⟨rfl, rfl⟩)
        | (go_at_call 137; (with_reducible refine (HU2 _).out.mono ?_); rintro e w2 ⟨rfl, hb2⟩; have HB2 := hid hb2; clear hb2))
      go_ret
      exact ⟨by simp, (HA _).out⟩
end Go.Proofs.YteianbgampljeaaGreat
