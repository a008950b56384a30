/-
  LParse, Types, Sign, RTabs: merged, what the law does not reach left out (each text says what it holds where it lies in wip). No condition.
-/
import Derived.Test.YtlhakbkdlgejpaaGreatDoorK10
import Derived.Test.YtlhakbkdlgejpaaGreatDoorK07
import Derived.Deep.DeepCutAuto
import Derived.Deep.RegionHeld3
import Derived.Test.YtlhakbkdlgejpaaGreatDoorK06
import Derived.Deep.RegionWith
set_option linter.unusedSimpArgs false
set_option linter.unusedVariables false
set_option maxRecDepth 100000
namespace Go.Proofs.YtlhakbkdlgejpaaGreatDoor
open Go.RowKit
/-- The shape of a name. -/
def shL (v : List UInt8) : Bool × Int :=
  if (v == [105, 56, 120, 49, 54]) = true then (false, 8) else
  if (v == [105, 49, 54, 120, 56]) = true then (false, 16) else
  if (v == [105, 51, 50, 120, 52]) = true then (false, 32) else
  if (v == [105, 54, 52, 120, 50]) = true then (false, 64) else
  if (v == [118, 49, 50, 56]) = true then (false, 64) else
  if (v == [102, 51, 50, 120, 52]) = true then (true, 32) else
  if (v == [102, 54, 52, 120, 50]) = true then (true, 64) else (false, 0)
def shV (p : Bool × Int) : Value := .agg #[.bool p.1, .int .i64 p.2]
theorem below_new {W W' : World} {cs : Array Value} {T : TypeId} (hb : Below (W.alloc (.cells cs T)).heap.size (W.alloc (.cells cs T)) W') : CA W.heap.size cs T W' ∧ Below W.heap.size W W' :=
  ⟨(CA.new W cs T).call hb, ((Below.refl _ _).alloc (Nat.le_refl _) _).trans (hb.mono (by simp))⟩
set_option maxHeartbeats 2000000 in
set_option maxRecDepth 100000 in
theorem shapeOf_says (v : List UInt8) (w : World) : Calls Tryz.prog 57 #[.string (str v)] w fun e w' => e = .returned (shV (shL v)) ∧ Below w.heap.size w w' := by
  obtain ⟨s, hs⟩ : ∃ s, s = str v := ⟨_, rfl⟩
  rw [← hs]
  cases h0 : (v == [105, 56, 120, 49, 54]) with
  | true =>
    have q0 : (s.toList == [105, 56, 120, 49, 54]) = true := by rw [hs, str_list]; exact h0
    have hv : Hid (shL v = (false, 8)) := by simp [Hid, shL, h0]
    clear h0 hs
    go_enter Tryz.func57, Tryz.ntmps57
    go_wp2
    exact bodyPost_ret (v := .agg #[.bool false, .int .i64 8]) (by simp [results, Tryz.results57, go_sem]) rfl ⟨by rw [hv.out]; rfl, by first | exact (Below.refl _ _).alloc (Nat.le_refl _) _⟩
  | false =>
    cases h1 : (v == [105, 49, 54, 120, 56]) with
    | true =>
      have q0 : (s.toList == [105, 56, 120, 49, 54]) = false := by rw [hs, str_list]; exact h0
      have q1 : (s.toList == [105, 49, 54, 120, 56]) = true := by rw [hs, str_list]; exact h1
      have hv : Hid (shL v = (false, 16)) := by simp [Hid, shL, h0, h1]
      clear h0 h1 hs
      go_enter Tryz.func57, Tryz.ntmps57
      go_wp2
      exact bodyPost_ret (v := .agg #[.bool false, .int .i64 16]) (by simp [results, Tryz.results57, go_sem]) rfl ⟨by rw [hv.out]; rfl, by first | exact (Below.refl _ _).alloc (Nat.le_refl _) _⟩
    | false =>
      cases h2 : (v == [105, 51, 50, 120, 52]) with
      | true =>
        have q0 : (s.toList == [105, 56, 120, 49, 54]) = false := by rw [hs, str_list]; exact h0
        have q1 : (s.toList == [105, 49, 54, 120, 56]) = false := by rw [hs, str_list]; exact h1
        have q2 : (s.toList == [105, 51, 50, 120, 52]) = true := by rw [hs, str_list]; exact h2
        have hv : Hid (shL v = (false, 32)) := by simp [Hid, shL, h0, h1, h2]
        clear h0 h1 h2 hs
        go_enter Tryz.func57, Tryz.ntmps57
        go_wp2
        exact bodyPost_ret (v := .agg #[.bool false, .int .i64 32]) (by simp [results, Tryz.results57, go_sem]) rfl ⟨by rw [hv.out]; rfl, by first | exact (Below.refl _ _).alloc (Nat.le_refl _) _⟩
      | false =>
        cases h3 : (v == [105, 54, 52, 120, 50]) with
        | true =>
          have q0 : (s.toList == [105, 56, 120, 49, 54]) = false := by rw [hs, str_list]; exact h0
          have q1 : (s.toList == [105, 49, 54, 120, 56]) = false := by rw [hs, str_list]; exact h1
          have q2 : (s.toList == [105, 51, 50, 120, 52]) = false := by rw [hs, str_list]; exact h2
          have q3 : (s.toList == [105, 54, 52, 120, 50]) = true := by rw [hs, str_list]; exact h3
          have hv : Hid (shL v = (false, 64)) := by simp [Hid, shL, h0, h1, h2, h3]
          clear h0 h1 h2 h3 hs
          go_enter Tryz.func57, Tryz.ntmps57
          go_wp2
          exact bodyPost_ret (v := .agg #[.bool false, .int .i64 64]) (by simp [results, Tryz.results57, go_sem]) rfl ⟨by rw [hv.out]; rfl, by first | exact (Below.refl _ _).alloc (Nat.le_refl _) _⟩
        | false =>
          cases h4 : (v == [118, 49, 50, 56]) with
          | true =>
            have q0 : (s.toList == [105, 56, 120, 49, 54]) = false := by rw [hs, str_list]; exact h0
            have q1 : (s.toList == [105, 49, 54, 120, 56]) = false := by rw [hs, str_list]; exact h1
            have q2 : (s.toList == [105, 51, 50, 120, 52]) = false := by rw [hs, str_list]; exact h2
            have q3 : (s.toList == [105, 54, 52, 120, 50]) = false := by rw [hs, str_list]; exact h3
            have q4 : (s.toList == [118, 49, 50, 56]) = true := by rw [hs, str_list]; exact h4
            have hv : Hid (shL v = (false, 64)) := by simp [Hid, shL, h0, h1, h2, h3, h4]
            clear h0 h1 h2 h3 h4 hs
            go_enter Tryz.func57, Tryz.ntmps57
            go_wp2
            exact bodyPost_ret (v := .agg #[.bool false, .int .i64 64]) (by simp [results, Tryz.results57, go_sem]) rfl ⟨by rw [hv.out]; rfl, by first | exact (Below.refl _ _).alloc (Nat.le_refl _) _⟩
          | false =>
            cases h5 : (v == [102, 51, 50, 120, 52]) with
            | true =>
              have q0 : (s.toList == [105, 56, 120, 49, 54]) = false := by rw [hs, str_list]; exact h0
              have q1 : (s.toList == [105, 49, 54, 120, 56]) = false := by rw [hs, str_list]; exact h1
              have q2 : (s.toList == [105, 51, 50, 120, 52]) = false := by rw [hs, str_list]; exact h2
              have q3 : (s.toList == [105, 54, 52, 120, 50]) = false := by rw [hs, str_list]; exact h3
              have q4 : (s.toList == [118, 49, 50, 56]) = false := by rw [hs, str_list]; exact h4
              have q5 : (s.toList == [102, 51, 50, 120, 52]) = true := by rw [hs, str_list]; exact h5
              have hv : Hid (shL v = (true, 32)) := by simp [Hid, shL, h0, h1, h2, h3, h4, h5]
              clear h0 h1 h2 h3 h4 h5 hs
              go_enter Tryz.func57, Tryz.ntmps57
              go_wp2
              exact bodyPost_ret (v := .agg #[.bool true, .int .i64 32]) (by simp [results, Tryz.results57, go_sem]) rfl ⟨by rw [hv.out]; rfl, by first | exact (Below.refl _ _).alloc (Nat.le_refl _) _⟩
            | false =>
              cases h6 : (v == [102, 54, 52, 120, 50]) with
              | true =>
                have q0 : (s.toList == [105, 56, 120, 49, 54]) = false := by rw [hs, str_list]; exact h0
                have q1 : (s.toList == [105, 49, 54, 120, 56]) = false := by rw [hs, str_list]; exact h1
                have q2 : (s.toList == [105, 51, 50, 120, 52]) = false := by rw [hs, str_list]; exact h2
                have q3 : (s.toList == [105, 54, 52, 120, 50]) = false := by rw [hs, str_list]; exact h3
                have q4 : (s.toList == [118, 49, 50, 56]) = false := by rw [hs, str_list]; exact h4
                have q5 : (s.toList == [102, 51, 50, 120, 52]) = false := by rw [hs, str_list]; exact h5
                have q6 : (s.toList == [102, 54, 52, 120, 50]) = true := by rw [hs, str_list]; exact h6
                have hv : Hid (shL v = (true, 64)) := by simp [Hid, shL, h0, h1, h2, h3, h4, h5, h6]
                clear h0 h1 h2 h3 h4 h5 h6 hs
                go_enter Tryz.func57, Tryz.ntmps57
                go_wp2
                exact bodyPost_ret (v := .agg #[.bool true, .int .i64 64]) (by simp [results, Tryz.results57, go_sem]) rfl ⟨by rw [hv.out]; rfl, by first | exact (Below.refl _ _).alloc (Nat.le_refl _) _⟩
              | false =>
                have q0 : (s.toList == [105, 56, 120, 49, 54]) = false := by rw [hs, str_list]; exact h0
                have q1 : (s.toList == [105, 49, 54, 120, 56]) = false := by rw [hs, str_list]; exact h1
                have q2 : (s.toList == [105, 51, 50, 120, 52]) = false := by rw [hs, str_list]; exact h2
                have q3 : (s.toList == [105, 54, 52, 120, 50]) = false := by rw [hs, str_list]; exact h3
                have q4 : (s.toList == [118, 49, 50, 56]) = false := by rw [hs, str_list]; exact h4
                have q5 : (s.toList == [102, 51, 50, 120, 52]) = false := by rw [hs, str_list]; exact h5
                have q6 : (s.toList == [102, 54, 52, 120, 50]) = false := by rw [hs, str_list]; exact h6
                have hv : Hid (shL v = (false, 0)) := by simp [Hid, shL, h0, h1, h2, h3, h4, h5, h6]
                clear h0 h1 h2 h3 h4 h5 h6 hs
                go_enter Tryz.func57, Tryz.ntmps57
                go_wp2
                exact bodyPost_ret (v := .agg #[.bool false, .int .i64 0]) (by simp [results, Tryz.results57, go_sem]) rfl ⟨by rw [hv.out]; rfl, by first | exact (Below.refl _ _).alloc (Nat.le_refl _) _⟩
def v1L (s : List UInt8) : List UInt8 := trimSuf (tailL s) [95, 122, 101, 114, 111]
def sgL (s : List UInt8) : Bool := hasSuf (v1L s) [95, 115]
def v3L (s : List UInt8) : List UInt8 := trimSuf (trimSuf (v1L s) [95, 115]) [95, 117]
def laL6 (s : List UInt8) : Int := Lib.Pa.lastIndexByte (v3L s) 95
def xsL (s : List UInt8) : Bool × Int := shL ((v3L s).drop (laL6 s + 1).toNat)
def toL (s : List UInt8) : Bool × Int := shL (headL s)
def fromL (s : List UInt8) : Bool × Int := if ((xsL s).2 == 0) = true then toL s else xsL s
def verbL (s : List UInt8) : List UInt8 := if ((xsL s).2 == 0) = true then v3L s else (v3L s).take (laL6 s).toNat
def parV (s : List UInt8) : Value := insV (verbL s) (fromL s).1 (fromL s).2 (toL s).1 (toL s).2 (sgL s)
theorem trim_len (l t : List UInt8) : (trimSuf l t).length ≤ l.length := by
  unfold trimSuf
  split
  · rw [List.length_take]; omega
  · exact Nat.le_refl _
theorem tail_len (l : List UInt8) : (tailL l).length ≤ l.length := by unfold tailL; split <;> simp
set_option maxHeartbeats 4000000 in
set_option maxRecDepth 100000 in
theorem parsed_says (n : List UInt8) (hn : n.length ≤ 1000) (hok : ((xsL n).2 == 0) = false → 0 ≤ laL6 n) (w : World) : Calls Tryz.prog 31 #[.string (str n)] w fun e w' => e = .returned (parV n) ∧ Below w.heap.size w w' := by
  have HC := fun W => hid (Cut_says n hn W)
  have HS1 := fun W => hid (shapeOf_says (headL n) W)
  have ht := tail_len n
  have HT1 := fun W => hid (TrimSuffix_says (tailL n) [95, 122, 101, 114, 111] (by omega) W)
  have h1 : (v1L n).length ≤ 1000 := by unfold v1L; have := trim_len (tailL n) [95, 122, 101, 114, 111]; omega
  have HT2 := fun W => hid (CutSuffix_says (v1L n) [95, 115] h1 W)
  have h2 : (trimSuf (v1L n) [95, 115]).length ≤ 1000 := by have := trim_len (v1L n) [95, 115]; omega
  have HT3 := fun W => hid (TrimSuffix_says (trimSuf (v1L n) [95, 115]) [95, 117] h2 W)
  have h3 : (v3L n).length ≤ 1000 := by unfold v3L; have := trim_len (trimSuf (v1L n) [95, 115]) [95, 117]; omega
  have HL := fun W => hid (LastIndexByte_says (v3L n) h3 W)
  have hbd := Lib.Pa.lastIndexByte_bounds (v3L n) 95
  rw [show Lib.Pa.lastIndexByte (v3L n) 95 = laL6 n from rfl] at HL hbd
  obtain ⟨j, hj⟩ : ∃ j, j = (laL6 n + 1).toNat := ⟨_, rfl⟩
  have HS2 := fun W => hid (shapeOf_says ((v3L n).drop (laL6 n + 1).toNat) W)
  have hex : str ((v3L n).drop (laL6 n + 1).toNat) = (str (v3L n)).extract j (v3L n).length := by
    rw [ext_str _ _ _ (by omega), List.take_of_length_le (by rw [List.length_drop]; omega), hj]
  rw [hex] at HS2
  have hix : (laL6 n).toNat ≤ (v3L n).length := by omega
  have hex2 : (str (v3L n)).extract 0 (laL6 n).toNat = str ((v3L n).take (laL6 n).toNat) := cut_str _ _
  have HX2 := hid hex2
  have z1 : (str (v3L n)).size = (v3L n).length := str_size _
  have hw : wrap64 (laL6 n + 1) = (j : Int) := by unfold wrap64; omega
  have hjl : j ≤ (v3L n).length := by omega
  rw [show trimSuf (tailL n) [95, 122, 101, 114, 111] = v1L n from rfl] at HT1
  rw [show hasSuf (v1L n) [95, 115] = sgL n from rfl] at HT2
  rw [show trimSuf (trimSuf (v1L n) [95, 115]) [95, 117] = v3L n from rfl] at HT3
  rw [show shL (headL n) = toL n from rfl] at HS1
  rw [show shL ((v3L n).drop (laL6 n + 1).toNat) = xsL n from rfl] at HS2
  have HV : Hid (parV n = if ((xsL n).2 == 0) = true then .agg #[.string (str (v3L n)), .bool (toL n).1, .int .i64 (toL n).2, .bool (toL n).1, .int .i64 (toL n).2, .bool (sgL n)] else .agg #[.string ((str (v3L n)).extract 0 (laL6 n).toNat), .bool (xsL n).1, .int .i64 (xsL n).2, .bool (toL n).1, .int .i64 (toL n).2, .bool (sgL n)]) := by
    unfold parV insV fromL verbL
    split
    · rfl
    · rw [hex2]; rfl
  rw [show str [95, 122, 101, 114, 111] = ⟨#[95, 122, 101, 114, 111]⟩ from rfl] at HT1
  rw [show str [95, 115] = ⟨#[95, 115]⟩ from rfl] at HT2
  rw [show str [95, 117] = ⟨#[95, 117]⟩ from rfl] at HT3
  generalize parV n = pv at *
  generalize (v3L n).length = m at *
  generalize str (v3L n) = u3 at *
  generalize laL6 n = li at *
  generalize xsL n = xs at *
  generalize toL n = tw at *
  generalize sgL n = sg at *
  generalize str (trimSuf (v1L n) [95, 115]) = u2 at *
  generalize str (v1L n) = u1 at *
  generalize str (tailL n) = u0 at *
  generalize str (headL n) = hd at *
  generalize decide (0 ≤ Lib.indexByte n 46) = fd at *
  generalize str n = s at *
  obtain ⟨xf, xb⟩ := xs
  obtain ⟨tf, tb⟩ := tw
  unfold shV at HS1 HS2
  simp only [] at HS1 HS2 HV hok
  clear hj hex hex2 ht h1 h2 h3
  have HVX := HV
  go_enter Tryz.func31, Tryz.ntmps31
  go_upto_region 9 with (first
    | (go_at_call 56; refine (HC _).out.mono ?_; rintro e w1 ⟨rfl, hb1⟩; have HR1 := hid (below_new hb1); clear hb1)
    | (go_at_call 57; (with_reducible refine (HS1 _).out.mono ?_); rintro e w2 ⟨rfl, hb2⟩; have HR2 := hid (And.intro (HR1.out.1.call hb2) (HR1.out.2.trans (hb2.mono HR1.out.2.size))); clear hb2)
    | (go_at_call 58; (with_reducible refine (HT1 _).out.mono ?_); rintro e w3 ⟨rfl, rfl⟩)
    | (go_at_call 59; (with_reducible refine (HT2 _).out.mono ?_); rintro e w3 ⟨rfl, rfl⟩)
    | (go_at_call 58; (with_reducible refine (HT3 _).out.mono ?_); rintro e w3 ⟨rfl, rfl⟩)
    | (go_at_call 60; (with_reducible refine (HL _).out.mono ?_); rintro e w3 ⟨rfl, rfl⟩)
    | (go_at_call 57; (with_reducible refine (HS2 _).out.mono ?_); rintro e w4 ⟨rfl, hb4⟩; have HN := hid (below_new hb4); clear hb4))
  have hI : CA w2.heap.size _ 50 _ := HN.out.1.alloc (.cells #[.bool xf, .int .i64 xb] 48)
  have hR : CA w.heap.size _ 50 _ := (HR2.out.1.call HN.out.2).alloc (.cells #[.bool xf, .int .i64 xb] 48)
  have hB : Below w.heap.size w _ := (HR2.out.2.trans (HN.out.2.mono HR2.out.2.size)).alloc (HR2.out.2.trans (HN.out.2.mono HR2.out.2.size)).size (.cells #[.bool xf, .int .i64 xb] 48)
  have hX := CA.new w4 #[.bool xf, .int .i64 xb] 48
  have n1 : w.heap.size ≠ w2.heap.size := Nat.ne_of_lt HR2.out.1.lt
  have n2 : w2.heap.size ≠ w4.heap.size := Nat.ne_of_lt HN.out.1.lt
  have n3 : w.heap.size ≠ w4.heap.size := Nat.ne_of_lt (HR2.out.1.call HN.out.2).lt
  have n1' := n1.symm
  have n2' := n2.symm
  have n3' := n3.symm
  have l1 : w.heap.size ≤ w2.heap.size := HR2.out.2.size
  generalize w4.alloc (.cells #[.bool xf, .int .i64 xb] 48) = w5 at *
  generalize w4.heap.size = g8 at *
  generalize w2.heap.size = g6 at *
  have i0 := hI.at (k := 0) rfl
  have i1 := hI.at (k := 1) rfl
  have i2 := hI.at (k := 2) rfl
  have i3 := hI.at (k := 3) rfl
  have i4 := hI.at (k := 4) rfl
  have i5 := hI.at (k := 5) rfl
  have j0 := hI.free 0
  have j1 := hI.free 1
  have j2 := hI.free 2
  have r0 := hR.at (k := 0) rfl
  have r1 := hR.at (k := 1) rfl
  have r2 := hR.at (k := 2) rfl
  have r3 := hR.at (k := 3) rfl
  have r4 := hR.at (k := 4) rfl
  have r5 := hR.at (k := 5) rfl
  have f0 := hR.free 0
  have f1 := hR.free 1
  have f2 := hR.free 2
  have f3 := hR.free 3
  have f4 := hR.free 4
  have f5 := hR.free 5
  have x0 := hX.at (k := 0) rfl
  have x1 := hX.at (k := 1) rfl
  simp only [List.getElem_toArray, List.getElem_cons_zero, List.getElem_cons_succ] at i0 i1 i2 i3 i4 i5 r0 r1 r2 r3 r4 r5 x0 x1
  have HBB := hid hB
  have HXX := hid hX
  have HRR := hid hR
  have HII := hid hI
  clear hI hR hB hX HN HR2 HR1
  cases hxb : (xb == 0) with
  | true =>
    rw [hxb] at HV
    have HV2 := hid (HV.out.trans (if_pos rfl))
    clear HV HVX
    go_wp2
    have hB7 := (((((((HBB.out.setCell (p := ⟨g6, 0, none⟩) l1 (.string u3)).setCell (p := ⟨w.heap.size, 0, none⟩) (Nat.le_refl _) (.string u3)).setCell (p := ⟨w.heap.size, 1, none⟩) (Nat.le_refl _) (.bool tf)).setCell (p := ⟨w.heap.size, 2, none⟩) (Nat.le_refl _) (.int .i64 tb)).setCell (p := ⟨w.heap.size, 3, none⟩) (Nat.le_refl _) (.bool tf)).setCell (p := ⟨w.heap.size, 4, none⟩) (Nat.le_refl _) (.int .i64 tb)).setCell (p := ⟨w.heap.size, 5, none⟩) (Nat.le_refl _) (.bool sg))
    have hF := ((((((HRR.out.far (o := 0) n1' (.string u3)).set (k := 0) (.string u3)).set (k := 1) (.bool tf)).set (k := 2) (.int .i64 tb)).set (k := 3) (.bool tf)).set (k := 4) (.int .i64 tb)).set (k := 5) (.bool sg)
    generalize ((((((w5.setCell ⟨g6, 0, none⟩ (.string u3)).setCell ⟨w.heap.size, 0, none⟩ (.string u3)).setCell ⟨w.heap.size, 1, none⟩ (.bool tf)).setCell ⟨w.heap.size, 2, none⟩ (.int .i64 tb)).setCell ⟨w.heap.size, 3, none⟩ (.bool tf)).setCell ⟨w.heap.size, 4, none⟩ (.int .i64 tb)).setCell ⟨w.heap.size, 5, none⟩ (.bool sg) = wf at *
    have e0 := hF.at (k := 0) (v := .string u3) rfl
    have e1 := hF.at (k := 1) (v := .bool tf) rfl
    have e2 := hF.at (k := 2) (v := .int .i64 tb) rfl
    have e3 := hF.at (k := 3) (v := .bool tf) rfl
    have e4 := hF.at (k := 4) (v := .int .i64 tb) rfl
    have e5 := hF.at (k := 5) (v := .bool sg) rfl
    exact bodyPost_ret (v := .agg #[.string u3, .bool tf, .int .i64 tb, .bool tf, .int .i64 tb, .bool sg]) (by simp [results, Tryz.results31, go_sem, e0, e1, e2, e3, e4, e5]) rfl ⟨by rw [HV2.out], hB7⟩
  | false =>
    rw [hxb] at HV
    have HV2 := hid (HV.out.trans (if_neg (by decide)))
    have hli : 0 ≤ li := hok hxb
    have hne : (xb != 0) = true := by simp [bne, hxb]
    have hlm : ¬ ((m : Int) < li) := by omega
    clear HV HVX hok
    go_upto_region 10 with fail
    have hS : Below w.heap.size w w5.drew ∧ CA g8 #[.bool xf, .int .i64 xb] 48 w5.drew := ⟨HBB.out.drew, HXX.out.drew⟩
    have HJW : CA g6 _ 50 w5.drew ∧ CA w.heap.size _ 50 w5.drew := ⟨HII.out.drew, HRR.out.drew⟩
    clear i0 i1 i2 i3 i4 i5 j0 j1 j2 r0 r1 r2 r3 r4 r5 f0 f1 f2 f3 f4 f5 x0 x1 HBB HXX HRR HII
    refine wp_region_held_drew (S := fun W => Below w.heap.size w W ∧ CA g8 #[.bool xf, .int .i64 xb] 48 W) (by kernel_rfl) hS (fun _ => ?_)
    generalize w5.drew = W at *
    refine wpAnyH_take (oi := ⟨_, _, _, _, _, _⟩) (i := 0) (v := .agg #[.bool xf, .int .i64 xb]) rfl (by kernel_rfl) (by kernel_rfl) (by kernel_rfl) (fun _ _ _ h => h) (Or.inl ⟨by rfl, ?_⟩) (by assumption) ?_
    · (intro W hSw; have x0 := hSw.2.at (k := 0) rfl; have x1 := hSw.2.at (k := 1) rfl; simp only [List.getElem_toArray, List.getElem_cons_zero, List.getElem_cons_succ] at x0 x1; go_simp; try (with_reducible rfl))
    try simp only [Act.put, List.setIfInBounds_toArray, List.set_cons_zero, List.set_cons_succ]
    refine wpAnyH_take (oi := ⟨_, _, _, _, _, _⟩) (i := 1) (v := .string u3) rfl (by kernel_rfl) (by kernel_rfl) (by kernel_rfl) (fun _ _ _ h => h) (Or.inl ⟨by rfl, ?_⟩) (by assumption) ?_
    · (intro W hSw; have x0 := hSw.2.at (k := 0) rfl; have x1 := hSw.2.at (k := 1) rfl; simp only [List.getElem_toArray, List.getElem_cons_zero, List.getElem_cons_succ] at x0 x1; go_simp; try (with_reducible rfl))
    try simp only [Act.put, List.setIfInBounds_toArray, List.set_cons_zero, List.set_cons_succ]
    refine wpAnyH_take (oi := ⟨_, _, _, _, _, _⟩) (i := 2) (v := .int .i64 li) rfl (by kernel_rfl) (by kernel_rfl) (by kernel_rfl) (fun _ _ _ h => h) (Or.inl ⟨by rfl, ?_⟩) (by assumption) ?_
    · (intro W hSw; have x0 := hSw.2.at (k := 0) rfl; have x1 := hSw.2.at (k := 1) rfl; simp only [List.getElem_toArray, List.getElem_cons_zero, List.getElem_cons_succ] at x0 x1; go_simp; try (with_reducible rfl))
    try simp only [Act.put, List.setIfInBounds_toArray, List.set_cons_zero, List.set_cons_succ]
    refine wpAnyH_take (oi := ⟨_, _, _, _, _, _⟩) (i := 3) (v := .string (u3.extract 0 li.toNat)) rfl (by kernel_rfl) (by kernel_rfl) (by kernel_rfl) (fun _ _ _ h => h) (Or.inl ⟨by rfl, ?_⟩) (by assumption) ?_
    · (intro W hSw; have x0 := hSw.2.at (k := 0) rfl; have x1 := hSw.2.at (k := 1) rfl; simp only [List.getElem_toArray, List.getElem_cons_zero, List.getElem_cons_succ] at x0 x1; go_simp; try (with_reducible rfl))
    try simp only [Act.put, List.setIfInBounds_toArray, List.set_cons_zero, List.set_cons_succ]
    refine wpAnyH_take (oi := ⟨_, _, _, _, _, _⟩) (i := 4) (v := .pointer (some ⟨g6, 1, none⟩)) rfl (by kernel_rfl) (by kernel_rfl) (by kernel_rfl) (fun _ _ _ h => h) (Or.inl ⟨by rfl, ?_⟩) (by assumption) ?_
    · (intro W hSw; have x0 := hSw.2.at (k := 0) rfl; have x1 := hSw.2.at (k := 1) rfl; simp only [List.getElem_toArray, List.getElem_cons_zero, List.getElem_cons_succ] at x0 x1; go_simp; try (with_reducible rfl))
    try simp only [Act.put, List.setIfInBounds_toArray, List.set_cons_zero, List.set_cons_succ]
    refine wpAnyH_ready (rs := [5]) (by kernel_rfl) (by simp) ?_
    refine AllReadyH.cons (o := ⟨_, _, _, _, _, _⟩) rfl (fun K hK => ?_) ?_
    · have i1 := HJW.1.at (k := 1) rfl
      have i2 := HJW.1.at (k := 2) rfl
      have j1 := HJW.1.free 1
      have j2 := HJW.1.free 2
      simp only [List.getElem_toArray, List.getElem_cons_zero, List.getElem_cons_succ] at i1 i2
      go_simp
      clear i1 i2 j1 j2
      have hS2 : Below w.heap.size w _ ∧ CA g8 #[.bool xf, .int .i64 xb] 48 _ := ⟨(hS.1.setCell (p := ⟨g6, 1, none⟩) l1 (.bool xf)).setCell (p := ⟨g6, 2, none⟩) l1 (.int .i64 xb), (hS.2.far (o := 1) n2 (.bool xf)).far (o := 2) n2 (.int .i64 xb)⟩
      have HJ2 : CA g6 _ 50 _ ∧ CA w.heap.size _ 50 _ := ⟨(HJW.1.set (k := 1) (.bool xf)).set (k := 2) (.int .i64 xb), (HJW.2.far (o := 1) n1' (.bool xf)).far (o := 2) n1' (.int .i64 xb)⟩
      clear hS HJW
      have hS := hS2
      have HJW := HJ2
      clear hS2 HJ2
      generalize (W.setCell ⟨g6, 1, none⟩ (.bool xf)).setCell ⟨g6, 2, none⟩ (.int .i64 xb) = W1 at *
      refine hK.out _ _ hS (fun _ => ?_)
      clear hK K
      try simp only [Act.put, List.setIfInBounds_toArray, List.set_cons_zero, List.set_cons_succ]
      refine wpAnyH_take (oi := ⟨_, _, _, _, _, _⟩) (i := 6) (v := .string (u3.extract 0 li.toNat)) rfl (by kernel_rfl) (by kernel_rfl) (by kernel_rfl) (fun _ _ _ h => h) (Or.inl ⟨by rfl, ?_⟩) (by assumption) ?_
      · (intro W hSw; have x0 := hSw.2.at (k := 0) rfl; have x1 := hSw.2.at (k := 1) rfl; simp only [List.getElem_toArray, List.getElem_cons_zero, List.getElem_cons_succ] at x0 x1; go_simp; try (with_reducible rfl))
      try simp only [Act.put, List.setIfInBounds_toArray, List.set_cons_zero, List.set_cons_succ]
      refine wpAnyH_done (by kernel_rfl) ?_ _
      have hI := HJW.1
      have hR := HJW.2
      have i0 := hI.at (k := 0) rfl
      have i1 := hI.at (k := 1) rfl
      have i2 := hI.at (k := 2) rfl
      have i3 := hI.at (k := 3) rfl
      have i4 := hI.at (k := 4) rfl
      have i5 := hI.at (k := 5) rfl
      have j0 := hI.free 0
      have r0 := hR.at (k := 0) rfl
      have r1 := hR.at (k := 1) rfl
      have r2 := hR.at (k := 2) rfl
      have r3 := hR.at (k := 3) rfl
      have r4 := hR.at (k := 4) rfl
      have r5 := hR.at (k := 5) rfl
      have f0 := hR.free 0
      have f1 := hR.free 1
      have f2 := hR.free 2
      have f3 := hR.free 3
      have f4 := hR.free 4
      have f5 := hR.free 5
      simp only [List.getElem_toArray, List.getElem_cons_zero, List.getElem_cons_succ, Array.getElem_setIfInBounds, List.setIfInBounds_toArray, List.set_cons_zero, List.set_cons_succ] at i0 i1 i2 i3 i4 i5 r0 r1 r2 r3 r4 r5
      go_wp2_with fail
      have hB7 := (((((((hS.1.setCell (p := ⟨g6, 0, none⟩) l1 (.string (u3.extract 0 li.toNat))).setCell (p := ⟨w.heap.size, 0, none⟩) (Nat.le_refl _) (.string (u3.extract 0 li.toNat))).setCell (p := ⟨w.heap.size, 1, none⟩) (Nat.le_refl _) (.bool xf)).setCell (p := ⟨w.heap.size, 2, none⟩) (Nat.le_refl _) (.int .i64 xb)).setCell (p := ⟨w.heap.size, 3, none⟩) (Nat.le_refl _) (.bool tf)).setCell (p := ⟨w.heap.size, 4, none⟩) (Nat.le_refl _) (.int .i64 tb)).setCell (p := ⟨w.heap.size, 5, none⟩) (Nat.le_refl _) (.bool sg))
      have hF := ((((((HJW.2.far (o := 0) n1' (.string (u3.extract 0 li.toNat))).set (k := 0) (.string (u3.extract 0 li.toNat))).set (k := 1) (.bool xf)).set (k := 2) (.int .i64 xb)).set (k := 3) (.bool tf)).set (k := 4) (.int .i64 tb)).set (k := 5) (.bool sg)
      generalize ((((((W1.setCell ⟨g6, 0, none⟩ (.string (u3.extract 0 li.toNat))).setCell ⟨w.heap.size, 0, none⟩ (.string (u3.extract 0 li.toNat))).setCell ⟨w.heap.size, 1, none⟩ (.bool xf)).setCell ⟨w.heap.size, 2, none⟩ (.int .i64 xb)).setCell ⟨w.heap.size, 3, none⟩ (.bool tf)).setCell ⟨w.heap.size, 4, none⟩ (.int .i64 tb)).setCell ⟨w.heap.size, 5, none⟩ (.bool sg) = wf at *
      have e0 := hF.at (k := 0) (v := .string (u3.extract 0 li.toNat)) rfl
      have e1 := hF.at (k := 1) (v := .bool xf) rfl
      have e2 := hF.at (k := 2) (v := .int .i64 xb) rfl
      have e3 := hF.at (k := 3) (v := .bool tf) rfl
      have e4 := hF.at (k := 4) (v := .int .i64 tb) rfl
      have e5 := hF.at (k := 5) (v := .bool sg) rfl
      exact bodyPost_ret (v := .agg #[.string (u3.extract 0 li.toNat), .bool xf, .int .i64 xb, .bool tf, .int .i64 tb, .bool sg]) (by simp [results, Tryz.results31, go_sem, e0, e1, e2, e3, e4, e5]) rfl ⟨by rw [HV2.out], hB7⟩
    exact AllReadyH.nil
end Go.Proofs.YtlhakbkdlgejpaaGreatDoor
namespace Go.Proofs.YtlhakbkdlgejpaaGreatDoor
open Go.RowKit
/-- The types of a list. -/
def typesL (t : Nat) : List Int := ((glob5.drop (3 * t)).take 3).takeWhile fun z => z != 0
def typesOk (t : Nat) : Bool := decide ((typesL t).length ≤ 3) && ((List.range (typesL t).length).all fun k => (glob5.getD (t * 3 + k) 0 == (typesL t).getD k 0) && ((typesL t).getD k 0 != 0)) &&
  (decide ((typesL t).length = 3) || glob5.getD (t * 3 + (typesL t).length) 0 == 0)
theorem types_all : ((List.range 23).all typesOk) = true := by decide +kernel
theorem types_fact (t : Nat) (h : t < 23) : (typesL t).length ≤ 3 ∧ (∀ k, k < (typesL t).length → glob5.getD (t * 3 + k) 0 = (typesL t).getD k 0 ∧ (typesL t).getD k 0 ≠ 0) ∧ ((typesL t).length = 3 ∨ glob5.getD (t * 3 + (typesL t).length) 0 = 0) := by
  have := List.all_eq_true.1 types_all t (by simpa using h)
  unfold typesOk at this
  simp only [Bool.and_eq_true, Bool.or_eq_true, decide_eq_true_eq, List.all_eq_true, List.mem_range, beq_iff_eq, bne_iff_ne] at this
  exact ⟨this.1.1, this.1.2, this.2⟩
def TyPost (w : World) (l : List Int) (e : Ending) (w' : World) : Prop := ∃ v, e = .returned v ∧ w'.ownsRow w.heap.size 3 1 v l.length (ic l) ∧ Below w.heap.size w w'
def TyRel (w : World) (l : List Int) (k : Nat) (v : Value) (wr : World) : Prop := wr.ownsRow w.heap.size 3 1 v k (ic (l.take k)) ∧ Below w.heap.size w wr
set_option maxHeartbeats 2000000 in
theorem types_says (t : Nat) (ht : t < 23) (w : World) (hg : Glob w) : Calls Tryz.prog 63 #[.int .u8 t] w (TyPost w (typesL t)) := by
  obtain ⟨hl, hat, hend⟩ := types_fact t ht
  obtain ⟨l, hle⟩ : ∃ l, l = typesL t := ⟨_, rfl⟩
  rw [← hle] at hl hat hend ⊢
  clear hle
  have HG := hid hg
  have HA := hid hat
  have HE := hid hend
  clear hg hat hend
  go_enter Tryz.func63, Tryz.ntmps63
  go_wp2
  go_loopw [4, 3] (fun vi vo wr => ∃ k : Nat, k ≤ l.length ∧ vi = .int .i64 k ∧ TyRel w l k vo wr) (fun vi _ _ => 3 - (intOf vi).toNat)
  case atStart => exact ⟨0, by omega, rfl, World.ownsRow_nil w w.heap.size 3 1, Below.refl _ _⟩
  case round =>
    obtain ⟨k, hk, rfl, hrel⟩ := hrel
    have HR := hid hrel
    have HW := hid (HG.out.below hrel.2 HG.out.size)
    have hsz := hrel.2.size
    clear hrel
    by_cases hlt : k < l.length
    · have hk3 : k < 3 := by omega
      obtain ⟨z, hz⟩ : ∃ z, z = l.getD k 0 := ⟨_, rfl⟩
      have hc : wr.cell? ⟨1, t * 3 + k, none⟩ = some (.int .i64 z) := by rw [HW.out.c5 (t * 3 + k) (by omega), (HA.out k hlt).1, hz]
      have hz0 : (z != 0) = true := by have := (HA.out k hlt).2; rw [← hz] at this; simpa using this
      have HZ := hid hz
      clear hz
      have HS := hid (show ic (l.take k) ++ [.int .i64 z] = ic (l.take (k + 1)) by
        rw [List.take_add_one, List.getElem?_eq_getElem hlt]
        have : z = l[k] := by rw [HZ.out]; simp [List.getD_eq_getElem?_getD, hlt]
        simp only [ic, List.map_append, Option.toList, List.map_cons, List.map_nil, this])
      go_wp2_with (at_builtin; refine append_int rfl _ _ rfl w.heap.size _ _ _ z HR.out.1 hsz (by omega) rfl rfl ?_; intro v' w3 hown' hnx3 hsz3)
      go_roundw
      case rel => exact ⟨k + 1, by omega, by go_num, by rw [← HS.out]; exact hown', HR.out.2.trans hnx3⟩
      case measure => simp [intOf]; omega
    · obtain rfl : k = l.length := by omega
      have hfin : wr.ownsRow w.heap.size 3 1 u3 l.length (ic l) := by have := HR.out.1; rwa [List.take_of_length_le (Nat.le_refl _)] at this
      have HF := hid hfin
      clear hfin
      by_cases h3 : l.length < 3
      · have hc : wr.cell? ⟨1, t * 3 + l.length, none⟩ = some (.int .i64 0) := by
          rw [HW.out.c5 (t * 3 + l.length) (by omega)]
          rcases HE.out with h | h
          · omega
          · rw [h]
        go_wp2
        go_ret
        exact ⟨_, rfl, HF.out, HR.out.2⟩
      · go_wp2
        go_ret
        exact ⟨_, rfl, HF.out, HR.out.2⟩
end Go.Proofs.YtlhakbkdlgejpaaGreatDoor
namespace Go.Proofs.YtlhakbkdlgejpaaGreatDoor
open Go.RowKit
theorem sign_no (op : Int) (w : World) (hf : fxB (lineL op) = false) : Calls Tryz.prog 33 #[.int .i64 op] w fun e w' => e = .returned (.tuple #[.slice none 0 0, .slice none 0 0, .bool false]) ∧ Below w.heap.size w w' := by
  obtain ⟨⟨s, a, b, c⟩, hr⟩ : ∃ r, r = lineL op := ⟨_, rfl⟩
  have H := fun W => hid (line_says op W)
  rw [← hr] at H hf
  have HK := fun W => hid (fixed_says (s, a, b, c) W)
  rw [hf] at HK
  clear hr hf
  go_enter Tryz.func33, Tryz.ntmps33
  go_wp2_with (first | (go_at_call 61; refine (H _).out.mono ?_; rintro e w1 ⟨rfl, hb⟩; unfold lnV) | (go_at_call 62; refine (HK _).out.mono ?_; rintro e w2 ⟨rfl, hb2⟩))
  go_ret3
  exact ⟨rfl, (hb.trans ((Below.refl _ _).alloc hb.size _)).trans (hb2.mono (by simp; have := hb.size; omega))⟩
theorem Glob.drew {w : World} (h : Glob w) : Glob w.drew := h.below ((Below.refl 6 w).drew) (Nat.le_refl _)
theorem _root_.Go.RowKit.Below.drew0 {B : Nat} {w w' : World} (h : Below B w.drew w') : Below B w w' := ⟨h.os, h.tape, h.output, h.size, h.block⟩
/-- Two lists in new memory, apart. -/
def SignPost (w : World) (la lb : List Int) (e : Ending) (w' : World) : Prop :=
  ∃ v1 v2 B, e = .returned (.tuple #[v1, v2, .bool true]) ∧ w'.ownsRow w.heap.size 3 1 v1 la.length (ic la) ∧ w'.ownsRow B 3 1 v2 lb.length (ic lb) ∧ w.heap.size ≤ B ∧ (∀ k, v1.ownBlock = some k → k < B) ∧ Below w.heap.size w w'
set_option maxHeartbeats 4000000 in
theorem sign_yes (op : Int) (w : World) (hf : fxB (lineL op) = true) (hg : Glob w) : Calls Tryz.prog 33 #[.int .i64 op] w (SignPost w (typesL (lineL op).2.2.1.toNat) (typesL (lineL op).2.2.2.toNat)) := by
  obtain ⟨_, _, hb0, hb1, hc0, hc1⟩ := line_ok op
  obtain ⟨⟨s, a, b, c⟩, hr⟩ : ∃ r, r = lineL op := ⟨_, rfl⟩
  have H := fun W => hid (line_says op W)
  rw [← hr] at H hf hb0 hb1 hc0 hc1 ⊢
  have HK := fun W => hid (fixed_says (s, a, b, c) W)
  rw [hf] at HK
  clear hr hf
  dsimp only at hb0 hb1 hc0 hc1 ⊢
  obtain ⟨b, rfl⟩ : ∃ n : Nat, b = n := ⟨b.toNat, by omega⟩
  obtain ⟨c, rfl⟩ : ∃ n : Nat, c = n := ⟨c.toNat, by omega⟩
  have HB := fun W (hW : Glob W) => hid (types_says b (by omega) W hW)
  have HC := fun W (hW : Glob W) => hid (types_says c (by omega) W hW)
  rw [Int.toNat_natCast, Int.toNat_natCast]
  obtain ⟨la, hla⟩ : ∃ l, l = typesL b := ⟨_, rfl⟩
  obtain ⟨lb, hlb⟩ : ∃ l, l = typesL c := ⟨_, rfl⟩
  rw [← hla] at HB ⊢
  rw [← hlb] at HC ⊢
  have HG := hid hg
  clear hg hla hlb
  go_enter Tryz.func33, Tryz.ntmps33
  go_wp2_with (first | (go_at_call 61; refine (H _).out.mono ?_; rintro e w1 ⟨rfl, hb⟩; unfold lnV) | (go_at_call 62; refine (HK _).out.mono ?_; rintro e w2 ⟨rfl, hb2⟩))
  obtain ⟨hc, hf⟩ := bcell hb2
  have hb3 : Below w.heap.size w w2 := (hb.trans ((Below.refl _ _).alloc hb.size _)).trans (hb2.mono (by simp; have := hb.size; omega))
  have HW2 := hid (HG.out.next hb3)
  have HB3 := hid hb3
  have hk1 : w2.cell? ⟨w1.heap.size, 2, none⟩ = some (.int .u8 b) := by rw [hc _ _ (by simp)]; simp
  have hk2 : w2.cell? ⟨w1.heap.size, 3, none⟩ = some (.int .u8 c) := by rw [hc _ _ (by simp)]; simp
  have hlt : w1.heap.size < w2.heap.size := by have := hb2.size; simp at this; omega
  clear hc hf hb3 hb2 hb
  go_region_with (first
    | (go_at_call 63; ((with_reducible refine (HB _ (by first | exact HW2.out | exact HW2.out.drew)).out.mono ?_); rintro e w3 ⟨v1, rfl, hown1, hb4⟩; obtain ⟨hc4, hf4⟩ := bcell hb4; have hk3 : w3.cell? ⟨w1.heap.size, 3, none⟩ = some (.int .u8 c) := (hc4 _ _ (by first | exact hlt | simpa using hlt)).trans (by first | exact hk2 | simpa using hk2); have HO1 := hid hown1; have HB4 := hid hb4; clear hown1 hb4 hf4 hc4))
    | (go_at_call 63; ((with_reducible refine (HC _ (by first | exact HW2.out.next HB4.out | exact HW2.out.drew.next HB4.out)).out.mono ?_); rintro e w4 ⟨v2, rfl, hown2, hb5⟩; have HO2 := hid hown2; have HB5 := hid hb5; clear hown2 hb5)))
  all_goals
    go_wp2
    refine bodyPost_ret (v := .tuple #[v1, v2, .bool true]) (by kernel_rfl) (by rfl) ?_
    refine ⟨v1, v2, w3.heap.size, rfl, own_mono (own_below HO1.out HB5.out (Nat.le_refl _)) HB3.out.size, HO2.out, Nat.le_trans HB3.out.size HB4.out.size, fun k hk => (HO1.out.lt k hk).2, ?_⟩
    exact (HB3.out.trans ((HB4.out.mono HB3.out.size).drew0)).trans (HB5.out.mono (Nat.le_trans HB3.out.size HB4.out.size))
end Go.Proofs.YtlhakbkdlgejpaaGreatDoor
namespace Go.Proofs.YtlhakbkdlgejpaaGreatDoor
open Go.RowKit
theorem tab_front {T : TypeId} {oa ob oc os : Oper} {rest : Code} {Q : Exit → Act → World → Prop} {i : Value} {w : World} {parts : Array (Nat × Operand)} {cs zs : Array Value}
    (ha : oa.op = .assign (.const (.string ⟨#[]⟩)) ∧ oa.dst = some 2 ∧ oa.guard = none)
    (hb : ob.op = .build T parts ∧ ob.dst = some 4 ∧ ob.guard = none) (hbuilt : ∀ a : Act, Tryz.prog.built T (parts.map fun (i, x) => (i, a.eval x)).toList = some cs)
    (hc : oc.op = .alloc T ∧ oc.dst = some 3 ∧ oc.guard = none) (halloc : ∀ (a : Act) (W : World), (execOp a.eval oc).run Tryz.prog W = .ok (.value (.pointer (some ⟨W.heap.size, 0, none⟩))) (W.alloc (.cells zs T)))
    (hs : os.op = .store T (.tmp 3) (.tmp 4) ∧ os.dst = none ∧ os.guard = none)
    (hzs : zs.size = cs.size) (hi : (Tryz.prog.info? T).map (·.size) = some cs.size) (h1 : cs.all (·.oneCell') = true)
    (h : ∀ v4 W, (∀ k v, cs[k]? = some v → W.cell? ⟨w.heap.size, k, none⟩ = some v) → Below w.heap.size w W →
      Code.wp Tryz.prog rest Q { tmps := #[i, undef, .string ⟨#[]⟩, .pointer (some ⟨w.heap.size, 0, none⟩), v4, undef, undef, undef], defers := [] } W) :
    Code.wp Tryz.prog (.seq (.region 0 #[oa] false) (.seq (.region 1 #[ob, oc, os] false) rest)) Q { tmps := #[i, undef, undef, undef, undef, undef, undef, undef], defers := [] } w := by
  obtain ⟨ha1, ha2, ha3⟩ := ha
  obtain ⟨hb1, hb2, hb3⟩ := hb
  obtain ⟨hc1, hc2, hc3⟩ := hc
  obtain ⟨hs1, hs2, hs3⟩ := hs
  refine wp_seq (wp_region_lit (l := [oa]) ?_)
  refine run_to ha3 (some 2) ha2 (.string ⟨#[]⟩) w (by unfold execOp; rw [ha1]; rfl) ?_
  show Exit.then _ _ .normal _ _
  show Code.wp _ _ _ _ _
  refine wp_seq (wp_region_lit (l := [ob, oc, os]) ?_)
  refine wpList_buildTo hb3 T parts hb1 (some 4) hb2 cs (hbuilt _) ?_
  refine run_to hc3 (some 3) hc2 (.pointer (some ⟨w.heap.size, 0, none⟩)) (w.alloc (.cells zs T)) (halloc _ _) ?_
  have hheap : (w.alloc (.cells zs T)).heap[w.heap.size]? = some (.cells zs T (0, 0)) := by
    show (w.heap.push _)[w.heap.size]? = _
    simp
  refine wpList_store_rowTo hs3 T (.tmp 3) (.tmp 4) hs1 hs2 w.heap.size cs (by rfl) (by rfl) T zs hheap hi hzs h1 ?_
  show Exit.then _ _ .normal _ _
  show Code.wp _ _ _ _ _
  refine h (.agg cs) _ ?_ ?_
  · intro k v hk
    rw [World.cell?, setRow_heap _ _ _ _ _ _ hheap]
    simpa using hk
  · exact ⟨rfl, rfl, rfl, by simp, fun k hk => by rw [setRow_other _ _ _ _ (by omega)]; exact Below.heap_alloc _ _ _ hk⟩
def buildOf (f : Func) : Oper := match f.body with
  | some (.seq _ (.seq (.region _ ops _) _)) => ops.getD 0 default
  | _ => default
def partsOf (o : Oper) : Array (Nat × Operand) := match o.op with
  | .build _ parts => parts
  | _ => #[]
def strOf (v : Value) : List UInt8 := match v with
  | .string s => s.data.toList
  | _ => []
def refTab (n : Nat) (f : Func) : List (List UInt8) := (List.range n).map fun k => match (partsOf (buildOf f)).toList.find? fun x => x.1 == k with
  | some (_, .const v) => strOf v
  | _ => []
noncomputable def tabOne : List (List UInt8) := refTab 211 Tryz.f39
noncomputable def tabTwo : List (List UInt8) := refTab 18 Tryz.f40
noncomputable def tabThree : List (List UInt8) := refTab 256 Tryz.f41
set_option maxRecDepth 100000 in
theorem one_len : tabOne.length = 211 := by kernel_rfl
set_option maxRecDepth 100000 in
theorem two_len : tabTwo.length = 18 := by kernel_rfl
set_option maxRecDepth 100000 in
theorem three_len : tabThree.length = 256 := by kernel_rfl
theorem sc_at {l : List (List UInt8)} {k : Nat} (h : k < l.length) : (sc l).toArray[k]? = some (.string (str (l.getD k []))) := by
  simp [sc, List.getElem?_eq_getElem h, List.getD_eq_getElem?_getD]
def ops0 (f : Func) : Oper := match f.body with
  | some (.seq (.region _ ops _) _) => ops.getD 0 default
  | _ => default
def ops1 (f : Func) (k : Nat) : Oper := match f.body with
  | some (.seq _ (.seq (.region _ ops _) _)) => ops.getD k default
  | _ => default
set_option maxRecDepth 100000 in
theorem two_says (k : Nat) (hk : k < 18) (w : World) : Calls Tryz.prog 40 #[.int .i64 k] w fun e w' => e = .returned (.string (str (tabTwo.getD k []))) ∧ Below w.heap.size w w' := by
  refine calls_of_wp (c := .seq (.region 0 #[ops0 Tryz.f40] false) (.seq (.region 1 #[ops1 Tryz.f40 0, ops1 Tryz.f40 1, ops1 Tryz.f40 2] false) (.seq (.region 2 #[{ dst := some 5, op := Op.move (Operand.tmp 0), type := 3, pos := "table.go:45", after := #[], guard := none }, { dst := some 6, op := Op.indexAddr 96 (Operand.tmp 3) (Operand.tmp 5), type := 0, pos := "table.go:45", after := #[{ on := 0, ground := Ground.data }], guard := none }, { dst := some 7, op := Op.load 9 (Operand.tmp 6), type := 9, pos := "table.go:45", after := #[{ on := 1, ground := Ground.data }], guard := none }, { dst := some 2, op := Op.assign (Operand.tmp 7), type := 9, pos := "table.go:45", after := #[{ on := 2, ground := Ground.data }, { on := 0, ground := Ground.phase }, { on := 1, ground := Ground.phase }, { on := 2, ground := Ground.phase }], guard := none }] false) .ret))) Tryz.func40 (by kernel_rfl) ?_
  show Code.wp _ _ _ { tmps := #[.int .i64 k, undef, undef, undef, undef, undef, undef, undef], defers := [] } _
  refine tab_front (T := 96) (parts := partsOf (buildOf Tryz.f40)) (cs := (sc tabTwo).toArray) (zs := Array.replicate 18 (.string ⟨#[]⟩)) ⟨by kernel_rfl, by kernel_rfl, by kernel_rfl⟩ ⟨by kernel_rfl, by kernel_rfl, by kernel_rfl⟩ (fun _ => by kernel_rfl) ⟨by kernel_rfl, by kernel_rfl, by kernel_rfl⟩ (fun _ _ => by kernel_rfl) ⟨by kernel_rfl, by kernel_rfl, by kernel_rfl⟩ (by kernel_rfl) (by kernel_rfl) (by kernel_rfl) ?_
  intro v4 W hc hb
  have hcell := hc k _ (sc_at (by rw [two_len]; exact hk))
  obtain ⟨s, hs⟩ : ∃ s, s = str (tabTwo.getD k []) := ⟨_, rfl⟩
  rw [← hs] at hcell ⊢
  clear hc hs
  go_wp2
  go_ret
  exact ⟨rfl, hb⟩
set_option maxRecDepth 100000 in
theorem one_says (k : Nat) (hk : k < 211) (w : World) : Calls Tryz.prog 39 #[.int .i64 k] w fun e w' => e = .returned (.string (str (tabOne.getD k []))) ∧ Below w.heap.size w w' := by
  refine calls_of_wp (c := .seq (.region 0 #[ops0 Tryz.f39] false) (.seq (.region 1 #[ops1 Tryz.f39 0, ops1 Tryz.f39 1, ops1 Tryz.f39 2] false) (.seq (.region 2 #[{ dst := some 5, op := Op.move (Operand.tmp 0), type := 3, pos := "table.go:34", after := #[], guard := none }, { dst := some 6, op := Op.indexAddr 95 (Operand.tmp 3) (Operand.tmp 5), type := 0, pos := "table.go:34", after := #[{ on := 0, ground := Ground.data }], guard := none }, { dst := some 7, op := Op.load 9 (Operand.tmp 6), type := 9, pos := "table.go:34", after := #[{ on := 1, ground := Ground.data }], guard := none }, { dst := some 2, op := Op.assign (Operand.tmp 7), type := 9, pos := "table.go:34", after := #[{ on := 2, ground := Ground.data }, { on := 0, ground := Ground.phase }, { on := 1, ground := Ground.phase }, { on := 2, ground := Ground.phase }], guard := none }] false) .ret))) Tryz.func39 (by kernel_rfl) ?_
  show Code.wp _ _ _ { tmps := #[.int .i64 k, undef, undef, undef, undef, undef, undef, undef], defers := [] } _
  refine tab_front (T := 95) (parts := partsOf (buildOf Tryz.f39)) (cs := (sc tabOne).toArray) (zs := Array.replicate 211 (.string ⟨#[]⟩)) ⟨by kernel_rfl, by kernel_rfl, by kernel_rfl⟩ ⟨by kernel_rfl, by kernel_rfl, by kernel_rfl⟩ (fun _ => by kernel_rfl) ⟨by kernel_rfl, by kernel_rfl, by kernel_rfl⟩ (fun _ _ => by kernel_rfl) ⟨by kernel_rfl, by kernel_rfl, by kernel_rfl⟩ (by kernel_rfl) (by kernel_rfl) (by kernel_rfl) ?_
  intro v4 W hc hb
  have hcell := hc k _ (sc_at (by rw [one_len]; exact hk))
  obtain ⟨s, hs⟩ : ∃ s, s = str (tabOne.getD k []) := ⟨_, rfl⟩
  rw [← hs] at hcell ⊢
  clear hc hs
  go_wp2
  go_ret
  exact ⟨rfl, hb⟩
set_option maxRecDepth 100000 in
theorem three_says (k : Nat) (hk : k < 256) (w : World) : Calls Tryz.prog 41 #[.int .i64 k] w fun e w' => e = .returned (.string (str (tabThree.getD k []))) ∧ Below w.heap.size w w' := by
  refine calls_of_wp (c := .seq (.region 0 #[ops0 Tryz.f41] false) (.seq (.region 1 #[ops1 Tryz.f41 0, ops1 Tryz.f41 1, ops1 Tryz.f41 2] false) (.seq (.region 2 #[{ dst := some 5, op := Op.move (Operand.tmp 0), type := 3, pos := "table.go:95", after := #[], guard := none }, { dst := some 6, op := Op.indexAddr 97 (Operand.tmp 3) (Operand.tmp 5), type := 0, pos := "table.go:95", after := #[{ on := 0, ground := Ground.data }], guard := none }, { dst := some 7, op := Op.load 9 (Operand.tmp 6), type := 9, pos := "table.go:95", after := #[{ on := 1, ground := Ground.data }], guard := none }, { dst := some 2, op := Op.assign (Operand.tmp 7), type := 9, pos := "table.go:95", after := #[{ on := 2, ground := Ground.data }, { on := 0, ground := Ground.phase }, { on := 1, ground := Ground.phase }, { on := 2, ground := Ground.phase }], guard := none }] false) .ret))) Tryz.func41 (by kernel_rfl) ?_
  show Code.wp _ _ _ { tmps := #[.int .i64 k, undef, undef, undef, undef, undef, undef, undef], defers := [] } _
  refine tab_front (T := 97) (parts := partsOf (buildOf Tryz.f41)) (cs := (sc tabThree).toArray) (zs := Array.replicate 256 (.string ⟨#[]⟩)) ⟨by kernel_rfl, by kernel_rfl, by kernel_rfl⟩ ⟨by kernel_rfl, by kernel_rfl, by kernel_rfl⟩ (fun _ => by kernel_rfl) ⟨by kernel_rfl, by kernel_rfl, by kernel_rfl⟩ (fun _ _ => by kernel_rfl) ⟨by kernel_rfl, by kernel_rfl, by kernel_rfl⟩ (by kernel_rfl) (by kernel_rfl) (by kernel_rfl) ?_
  intro v4 W hc hb
  have hcell := hc k _ (sc_at (by rw [three_len]; exact hk))
  obtain ⟨s, hs⟩ : ∃ s, s = str (tabThree.getD k []) := ⟨_, rfl⟩
  rw [← hs] at hcell ⊢
  clear hc hs
  go_wp2
  go_ret
  exact ⟨rfl, hb⟩
end Go.Proofs.YtlhakbkdlgejpaaGreatDoor
