/-
  LParse, Places, LFits: merged (each text says what it holds where it lies in wip). No condition.
-/
import Derived.Test.YtlhakbkdlgejpaaGreatDoorL05
import Derived.Test.YtlhakbkdlgejpaaGreatDoorL02
import Derived.Deep.DeepCutAuto
import Derived.Deep.RegionHeld3
import Derived.Test.YtlhakbkdlgejpaaGreatDoorB02
import Derived.Test.YtlhakbkdlgejpaaGreatDoorB04
set_option linter.unusedSimpArgs false
set_option linter.unusedVariables false
set_option maxRecDepth 100000
namespace Go.Proofs.YtlhakbkdlgejpaaGreatDoor
open Go.RowKit

/-- The shape of a name. -/
def shL (v : List UInt8) : Bool × Int :=
  if (v == [105, 56, 120, 49, 54]) = true then (false, 8) else
  if (v == [105, 49, 54, 120, 56]) = true then (false, 16) else
  if (v == [105, 51, 50, 120, 52]) = true then (false, 32) else
  if (v == [105, 54, 52, 120, 50]) = true then (false, 64) else
  if (v == [118, 49, 50, 56]) = true then (false, 64) else
  if (v == [102, 51, 50, 120, 52]) = true then (true, 32) else
  if (v == [102, 54, 52, 120, 50]) = true then (true, 64) else (false, 0)
def shV (p : Bool × Int) : Value := .agg #[.bool p.1, .int .i64 p.2]
theorem below_new {W W' : World} {cs : Array Value} {T : TypeId} (hb : Below (W.alloc (.cells cs T)).heap.size (W.alloc (.cells cs T)) W') : CA W.heap.size cs T W' ∧ Below W.heap.size W W' :=
  ⟨(CA.new W cs T).call hb, ((Below.refl _ _).alloc (Nat.le_refl _) _).trans (hb.mono (by simp))⟩

set_option maxHeartbeats 2000000 in
set_option maxRecDepth 100000 in
theorem shapeOf_says (v : List UInt8) (w : World) : Calls Tryz.prog 57 #[.string (str v)] w fun e w' => e = .returned (shV (shL v)) ∧ Below w.heap.size w w' := by
  obtain ⟨s, hs⟩ : ∃ s, s = str v := ⟨_, rfl⟩
  rw [← hs]
  cases h0 : (v == [105, 56, 120, 49, 54]) with
  | true =>
    have q0 : (s.toList == [105, 56, 120, 49, 54]) = true := by rw [hs, str_list]; exact h0
    have hv : Hid (shL v = (false, 8)) := by simp [Hid, shL, h0]
    clear h0 hs
    go_enter Tryz.func57, Tryz.ntmps57
    go_wp2
    exact bodyPost_ret (v := .agg #[.bool false, .int .i64 8]) (by simp [results, Tryz.results57, go_sem]) rfl ⟨by rw [hv.out]; rfl, by first | exact (Below.refl _ _).alloc (Nat.le_refl _) _⟩
  | false =>
    cases h1 : (v == [105, 49, 54, 120, 56]) with
    | true =>
      have q0 : (s.toList == [105, 56, 120, 49, 54]) = false := by rw [hs, str_list]; exact h0
      have q1 : (s.toList == [105, 49, 54, 120, 56]) = true := by rw [hs, str_list]; exact h1
      have hv : Hid (shL v = (false, 16)) := by simp [Hid, shL, h0, h1]
      clear h0 h1 hs
      go_enter Tryz.func57, Tryz.ntmps57
      go_wp2
      exact bodyPost_ret (v := .agg #[.bool false, .int .i64 16]) (by simp [results, Tryz.results57, go_sem]) rfl ⟨by rw [hv.out]; rfl, by first | exact (Below.refl _ _).alloc (Nat.le_refl _) _⟩
    | false =>
      cases h2 : (v == [105, 51, 50, 120, 52]) with
      | true =>
        have q0 : (s.toList == [105, 56, 120, 49, 54]) = false := by rw [hs, str_list]; exact h0
        have q1 : (s.toList == [105, 49, 54, 120, 56]) = false := by rw [hs, str_list]; exact h1
        have q2 : (s.toList == [105, 51, 50, 120, 52]) = true := by rw [hs, str_list]; exact h2
        have hv : Hid (shL v = (false, 32)) := by simp [Hid, shL, h0, h1, h2]
        clear h0 h1 h2 hs
        go_enter Tryz.func57, Tryz.ntmps57
        go_wp2
        exact bodyPost_ret (v := .agg #[.bool false, .int .i64 32]) (by simp [results, Tryz.results57, go_sem]) rfl ⟨by rw [hv.out]; rfl, by first | exact (Below.refl _ _).alloc (Nat.le_refl _) _⟩
      | false =>
        cases h3 : (v == [105, 54, 52, 120, 50]) with
        | true =>
          have q0 : (s.toList == [105, 56, 120, 49, 54]) = false := by rw [hs, str_list]; exact h0
          have q1 : (s.toList == [105, 49, 54, 120, 56]) = false := by rw [hs, str_list]; exact h1
          have q2 : (s.toList == [105, 51, 50, 120, 52]) = false := by rw [hs, str_list]; exact h2
          have q3 : (s.toList == [105, 54, 52, 120, 50]) = true := by rw [hs, str_list]; exact h3
          have hv : Hid (shL v = (false, 64)) := by simp [Hid, shL, h0, h1, h2, h3]
          clear h0 h1 h2 h3 hs
          go_enter Tryz.func57, Tryz.ntmps57
          go_wp2
          exact bodyPost_ret (v := .agg #[.bool false, .int .i64 64]) (by simp [results, Tryz.results57, go_sem]) rfl ⟨by rw [hv.out]; rfl, by first | exact (Below.refl _ _).alloc (Nat.le_refl _) _⟩
        | false =>
          cases h4 : (v == [118, 49, 50, 56]) with
          | true =>
            have q0 : (s.toList == [105, 56, 120, 49, 54]) = false := by rw [hs, str_list]; exact h0
            have q1 : (s.toList == [105, 49, 54, 120, 56]) = false := by rw [hs, str_list]; exact h1
            have q2 : (s.toList == [105, 51, 50, 120, 52]) = false := by rw [hs, str_list]; exact h2
            have q3 : (s.toList == [105, 54, 52, 120, 50]) = false := by rw [hs, str_list]; exact h3
            have q4 : (s.toList == [118, 49, 50, 56]) = true := by rw [hs, str_list]; exact h4
            have hv : Hid (shL v = (false, 64)) := by simp [Hid, shL, h0, h1, h2, h3, h4]
            clear h0 h1 h2 h3 h4 hs
            go_enter Tryz.func57, Tryz.ntmps57
            go_wp2
            exact bodyPost_ret (v := .agg #[.bool false, .int .i64 64]) (by simp [results, Tryz.results57, go_sem]) rfl ⟨by rw [hv.out]; rfl, by first | exact (Below.refl _ _).alloc (Nat.le_refl _) _⟩
          | false =>
            cases h5 : (v == [102, 51, 50, 120, 52]) with
            | true =>
              have q0 : (s.toList == [105, 56, 120, 49, 54]) = false := by rw [hs, str_list]; exact h0
              have q1 : (s.toList == [105, 49, 54, 120, 56]) = false := by rw [hs, str_list]; exact h1
              have q2 : (s.toList == [105, 51, 50, 120, 52]) = false := by rw [hs, str_list]; exact h2
              have q3 : (s.toList == [105, 54, 52, 120, 50]) = false := by rw [hs, str_list]; exact h3
              have q4 : (s.toList == [118, 49, 50, 56]) = false := by rw [hs, str_list]; exact h4
              have q5 : (s.toList == [102, 51, 50, 120, 52]) = true := by rw [hs, str_list]; exact h5
              have hv : Hid (shL v = (true, 32)) := by simp [Hid, shL, h0, h1, h2, h3, h4, h5]
              clear h0 h1 h2 h3 h4 h5 hs
              go_enter Tryz.func57, Tryz.ntmps57
              go_wp2
              exact bodyPost_ret (v := .agg #[.bool true, .int .i64 32]) (by simp [results, Tryz.results57, go_sem]) rfl ⟨by rw [hv.out]; rfl, by first | exact (Below.refl _ _).alloc (Nat.le_refl _) _⟩
            | false =>
              cases h6 : (v == [102, 54, 52, 120, 50]) with
              | true =>
                have q0 : (s.toList == [105, 56, 120, 49, 54]) = false := by rw [hs, str_list]; exact h0
                have q1 : (s.toList == [105, 49, 54, 120, 56]) = false := by rw [hs, str_list]; exact h1
                have q2 : (s.toList == [105, 51, 50, 120, 52]) = false := by rw [hs, str_list]; exact h2
                have q3 : (s.toList == [105, 54, 52, 120, 50]) = false := by rw [hs, str_list]; exact h3
                have q4 : (s.toList == [118, 49, 50, 56]) = false := by rw [hs, str_list]; exact h4
                have q5 : (s.toList == [102, 51, 50, 120, 52]) = false := by rw [hs, str_list]; exact h5
                have q6 : (s.toList == [102, 54, 52, 120, 50]) = true := by rw [hs, str_list]; exact h6
                have hv : Hid (shL v = (true, 64)) := by simp [Hid, shL, h0, h1, h2, h3, h4, h5, h6]
                clear h0 h1 h2 h3 h4 h5 h6 hs
                go_enter Tryz.func57, Tryz.ntmps57
                go_wp2
                exact bodyPost_ret (v := .agg #[.bool true, .int .i64 64]) (by simp [results, Tryz.results57, go_sem]) rfl ⟨by rw [hv.out]; rfl, by first | exact (Below.refl _ _).alloc (Nat.le_refl _) _⟩
              | false =>
                have q0 : (s.toList == [105, 56, 120, 49, 54]) = false := by rw [hs, str_list]; exact h0
                have q1 : (s.toList == [105, 49, 54, 120, 56]) = false := by rw [hs, str_list]; exact h1
                have q2 : (s.toList == [105, 51, 50, 120, 52]) = false := by rw [hs, str_list]; exact h2
                have q3 : (s.toList == [105, 54, 52, 120, 50]) = false := by rw [hs, str_list]; exact h3
                have q4 : (s.toList == [118, 49, 50, 56]) = false := by rw [hs, str_list]; exact h4
                have q5 : (s.toList == [102, 51, 50, 120, 52]) = false := by rw [hs, str_list]; exact h5
                have q6 : (s.toList == [102, 54, 52, 120, 50]) = false := by rw [hs, str_list]; exact h6
                have hv : Hid (shL v = (false, 0)) := by simp [Hid, shL, h0, h1, h2, h3, h4, h5, h6]
                clear h0 h1 h2 h3 h4 h5 h6 hs
                go_enter Tryz.func57, Tryz.ntmps57
                go_wp2
                exact bodyPost_ret (v := .agg #[.bool false, .int .i64 0]) (by simp [results, Tryz.results57, go_sem]) rfl ⟨by rw [hv.out]; rfl, by first | exact (Below.refl _ _).alloc (Nat.le_refl _) _⟩

/-- What a name tells: the verb, the shape that is read, the one that is made, with a sign or not. -/
def zeroS : List UInt8 := [95, 122, 101, 114, 111]
def v1L (s : List UInt8) : List UInt8 := trimSuf (tailL s) [95, 122, 101, 114, 111]
def sgL (s : List UInt8) : Bool := hasSuf (v1L s) [95, 115]
def v3L (s : List UInt8) : List UInt8 := trimSuf (trimSuf (v1L s) [95, 115]) [95, 117]
def laL6 (s : List UInt8) : Int := Lib.Pa.lastIndexByte (v3L s) 95
def xsL (s : List UInt8) : Bool × Int := shL ((v3L s).drop (laL6 s + 1).toNat)
def toL (s : List UInt8) : Bool × Int := shL (headL s)
def fromL (s : List UInt8) : Bool × Int := if ((xsL s).2 == 0) = true then toL s else xsL s
def verbL (s : List UInt8) : List UInt8 := if ((xsL s).2 == 0) = true then v3L s else (v3L s).take (laL6 s).toNat
def parV (s : List UInt8) : Value := insV (verbL s) (fromL s).1 (fromL s).2 (toL s).1 (toL s).2 (sgL s)

theorem trim_len (l t : List UInt8) : (trimSuf l t).length ≤ l.length := by
  unfold trimSuf
  split
  · rw [List.length_take]; omega
  · exact Nat.le_refl _
theorem tail_len (l : List UInt8) : (tailL l).length ≤ l.length := by unfold tailL; split <;> simp

set_option maxHeartbeats 4000000 in
set_option maxRecDepth 100000 in
theorem parsed_says (n : List UInt8) (hn : n.length ≤ 1000) (hok : ((xsL n).2 == 0) = false → 0 ≤ laL6 n) (w : World) : Calls Tryz.prog 31 #[.string (str n)] w fun e w' => e = .returned (parV n) ∧ Below w.heap.size w w' := by
  have HC := fun W => hid (Cut_says n hn W)
  have HS1 := fun W => hid (shapeOf_says (headL n) W)
  have ht := tail_len n
  have HT1 := fun W => hid (TrimSuffix_says (tailL n) [95, 122, 101, 114, 111] (by omega) W)
  have h1 : (v1L n).length ≤ 1000 := by unfold v1L; have := trim_len (tailL n) [95, 122, 101, 114, 111]; omega
  have HT2 := fun W => hid (CutSuffix_says (v1L n) [95, 115] h1 W)
  have h2 : (trimSuf (v1L n) [95, 115]).length ≤ 1000 := by have := trim_len (v1L n) [95, 115]; omega
  have HT3 := fun W => hid (TrimSuffix_says (trimSuf (v1L n) [95, 115]) [95, 117] h2 W)
  have h3 : (v3L n).length ≤ 1000 := by unfold v3L; have := trim_len (trimSuf (v1L n) [95, 115]) [95, 117]; omega
  have HL := fun W => hid (LastIndexByte_says (v3L n) h3 W)
  have hbd := Lib.Pa.lastIndexByte_bounds (v3L n) 95
  rw [show Lib.Pa.lastIndexByte (v3L n) 95 = laL6 n from rfl] at HL hbd
  obtain ⟨j, hj⟩ : ∃ j, j = (laL6 n + 1).toNat := ⟨_, rfl⟩
  have HS2 := fun W => hid (shapeOf_says ((v3L n).drop (laL6 n + 1).toNat) W)
  have hex : str ((v3L n).drop (laL6 n + 1).toNat) = (str (v3L n)).extract j (v3L n).length := by
    rw [ext_str _ _ _ (by omega), List.take_of_length_le (by rw [List.length_drop]; omega), hj]
  rw [hex] at HS2
  have hix : (laL6 n).toNat ≤ (v3L n).length := by omega
  have hex2 : (str (v3L n)).extract 0 (laL6 n).toNat = str ((v3L n).take (laL6 n).toNat) := cut_str _ _
  have HX2 := hid hex2
  have z1 : (str (v3L n)).size = (v3L n).length := str_size _
  have hw : wrap64 (laL6 n + 1) = (j : Int) := by unfold wrap64; omega
  have hjl : j ≤ (v3L n).length := by omega
  rw [show trimSuf (tailL n) [95, 122, 101, 114, 111] = v1L n from rfl] at HT1
  rw [show hasSuf (v1L n) [95, 115] = sgL n from rfl] at HT2
  rw [show trimSuf (trimSuf (v1L n) [95, 115]) [95, 117] = v3L n from rfl] at HT3
  rw [show shL (headL n) = toL n from rfl] at HS1
  rw [show shL ((v3L n).drop (laL6 n + 1).toNat) = xsL n from rfl] at HS2
  have HV : Hid (parV n = if ((xsL n).2 == 0) = true then .agg #[.string (str (v3L n)), .bool (toL n).1, .int .i64 (toL n).2, .bool (toL n).1, .int .i64 (toL n).2, .bool (sgL n)] else .agg #[.string ((str (v3L n)).extract 0 (laL6 n).toNat), .bool (xsL n).1, .int .i64 (xsL n).2, .bool (toL n).1, .int .i64 (toL n).2, .bool (sgL n)]) := by
    unfold parV insV fromL verbL
    split
    · rfl
    · rw [hex2]; rfl
  rw [show str [95, 122, 101, 114, 111] = ⟨#[95, 122, 101, 114, 111]⟩ from rfl] at HT1
  rw [show str [95, 115] = ⟨#[95, 115]⟩ from rfl] at HT2
  rw [show str [95, 117] = ⟨#[95, 117]⟩ from rfl] at HT3
  generalize parV n = pv at *
  generalize (v3L n).length = m at *
  generalize str (v3L n) = u3 at *
  generalize laL6 n = li at *
  generalize xsL n = xs at *
  generalize toL n = tw at *
  generalize sgL n = sg at *
  generalize str (trimSuf (v1L n) [95, 115]) = u2 at *
  generalize str (v1L n) = u1 at *
  generalize str (tailL n) = u0 at *
  generalize str (headL n) = hd at *
  generalize decide (0 ≤ Lib.indexByte n 46) = fd at *
  generalize str n = s at *
  obtain ⟨xf, xb⟩ := xs
  obtain ⟨tf, tb⟩ := tw
  unfold shV at HS1 HS2
  simp only [] at HS1 HS2 HV hok
  clear hj hex hex2 ht h1 h2 h3
  have HVX := HV
  go_enter Tryz.func31, Tryz.ntmps31
  go_upto_region 9 with (first
    | (go_at_call 56; refine (HC _).out.mono ?_; rintro e w1 ⟨rfl, hb1⟩; have HR1 := hid (below_new hb1); clear hb1)
    | (go_at_call 57; (with_reducible refine (HS1 _).out.mono ?_); rintro e w2 ⟨rfl, hb2⟩; have HR2 := hid (And.intro (HR1.out.1.call hb2) (HR1.out.2.trans (hb2.mono HR1.out.2.size))); clear hb2)
    | (go_at_call 58; (with_reducible refine (HT1 _).out.mono ?_); rintro e w3 ⟨rfl, rfl⟩)
    | (go_at_call 59; (with_reducible refine (HT2 _).out.mono ?_); rintro e w3 ⟨rfl, rfl⟩)
    | (go_at_call 58; (with_reducible refine (HT3 _).out.mono ?_); rintro e w3 ⟨rfl, rfl⟩)
    | (go_at_call 60; (with_reducible refine (HL _).out.mono ?_); rintro e w3 ⟨rfl, rfl⟩)
    | (go_at_call 57; (with_reducible refine (HS2 _).out.mono ?_); rintro e w4 ⟨rfl, hb4⟩; have HN := hid (below_new hb4); clear hb4))
  have hI : CA w2.heap.size _ 50 _ := HN.out.1.alloc (.cells #[.bool xf, .int .i64 xb] 48)
  have hR : CA w.heap.size _ 50 _ := (HR2.out.1.call HN.out.2).alloc (.cells #[.bool xf, .int .i64 xb] 48)
  have hB : Below w.heap.size w _ := (HR2.out.2.trans (HN.out.2.mono HR2.out.2.size)).alloc (HR2.out.2.trans (HN.out.2.mono HR2.out.2.size)).size (.cells #[.bool xf, .int .i64 xb] 48)
  have hX := CA.new w4 #[.bool xf, .int .i64 xb] 48
  have n1 : w.heap.size ≠ w2.heap.size := Nat.ne_of_lt HR2.out.1.lt
  have n2 : w2.heap.size ≠ w4.heap.size := Nat.ne_of_lt HN.out.1.lt
  have n3 : w.heap.size ≠ w4.heap.size := Nat.ne_of_lt (HR2.out.1.call HN.out.2).lt
  have n1' := n1.symm
  have n2' := n2.symm
  have n3' := n3.symm
  have l1 : w.heap.size ≤ w2.heap.size := HR2.out.2.size
  generalize w4.alloc (.cells #[.bool xf, .int .i64 xb] 48) = w5 at *
  generalize w4.heap.size = g8 at *
  generalize w2.heap.size = g6 at *
  have i0 := hI.at (k := 0) rfl
  have i1 := hI.at (k := 1) rfl
  have i2 := hI.at (k := 2) rfl
  have i3 := hI.at (k := 3) rfl
  have i4 := hI.at (k := 4) rfl
  have i5 := hI.at (k := 5) rfl
  have j0 := hI.free 0
  have j1 := hI.free 1
  have j2 := hI.free 2
  have r0 := hR.at (k := 0) rfl
  have r1 := hR.at (k := 1) rfl
  have r2 := hR.at (k := 2) rfl
  have r3 := hR.at (k := 3) rfl
  have r4 := hR.at (k := 4) rfl
  have r5 := hR.at (k := 5) rfl
  have f0 := hR.free 0
  have f1 := hR.free 1
  have f2 := hR.free 2
  have f3 := hR.free 3
  have f4 := hR.free 4
  have f5 := hR.free 5
  have x0 := hX.at (k := 0) rfl
  have x1 := hX.at (k := 1) rfl
  simp only [List.getElem_toArray, List.getElem_cons_zero, List.getElem_cons_succ] at i0 i1 i2 i3 i4 i5 r0 r1 r2 r3 r4 r5 x0 x1
  have HBB := hid hB
  have HXX := hid hX
  have HRR := hid hR
  have HII := hid hI
  clear hI hR hB hX HN HR2 HR1
  cases hxb : (xb == 0) with
  | true =>
    rw [hxb] at HV
    have HV2 := hid (HV.out.trans (if_pos rfl))
    clear HV HVX
    go_wp2
    have hB7 := (((((((HBB.out.setCell (p := ⟨g6, 0, none⟩) l1 (.string u3)).setCell (p := ⟨w.heap.size, 0, none⟩) (Nat.le_refl _) (.string u3)).setCell (p := ⟨w.heap.size, 1, none⟩) (Nat.le_refl _) (.bool tf)).setCell (p := ⟨w.heap.size, 2, none⟩) (Nat.le_refl _) (.int .i64 tb)).setCell (p := ⟨w.heap.size, 3, none⟩) (Nat.le_refl _) (.bool tf)).setCell (p := ⟨w.heap.size, 4, none⟩) (Nat.le_refl _) (.int .i64 tb)).setCell (p := ⟨w.heap.size, 5, none⟩) (Nat.le_refl _) (.bool sg))
    have hF := ((((((HRR.out.far (o := 0) n1' (.string u3)).set (k := 0) (.string u3)).set (k := 1) (.bool tf)).set (k := 2) (.int .i64 tb)).set (k := 3) (.bool tf)).set (k := 4) (.int .i64 tb)).set (k := 5) (.bool sg)
    generalize ((((((w5.setCell ⟨g6, 0, none⟩ (.string u3)).setCell ⟨w.heap.size, 0, none⟩ (.string u3)).setCell ⟨w.heap.size, 1, none⟩ (.bool tf)).setCell ⟨w.heap.size, 2, none⟩ (.int .i64 tb)).setCell ⟨w.heap.size, 3, none⟩ (.bool tf)).setCell ⟨w.heap.size, 4, none⟩ (.int .i64 tb)).setCell ⟨w.heap.size, 5, none⟩ (.bool sg) = wf at *
    have e0 := hF.at (k := 0) (v := .string u3) rfl
    have e1 := hF.at (k := 1) (v := .bool tf) rfl
    have e2 := hF.at (k := 2) (v := .int .i64 tb) rfl
    have e3 := hF.at (k := 3) (v := .bool tf) rfl
    have e4 := hF.at (k := 4) (v := .int .i64 tb) rfl
    have e5 := hF.at (k := 5) (v := .bool sg) rfl
    exact bodyPost_ret (v := .agg #[.string u3, .bool tf, .int .i64 tb, .bool tf, .int .i64 tb, .bool sg]) (by simp [results, Tryz.results31, go_sem, e0, e1, e2, e3, e4, e5]) rfl ⟨by rw [HV2.out], hB7⟩
  | false =>
    rw [hxb] at HV
    have HV2 := hid (HV.out.trans (if_neg (by decide)))
    have hli : 0 ≤ li := hok hxb
    have hne : (xb != 0) = true := by simp [bne, hxb]
    have hlm : ¬ ((m : Int) < li) := by omega
    clear HV HVX hok
    go_upto_region 10 with fail
    have hS : Below w.heap.size w w5.drew ∧ CA g8 #[.bool xf, .int .i64 xb] 48 w5.drew := ⟨HBB.out.drew, HXX.out.drew⟩
    have HJW : CA g6 _ 50 w5.drew ∧ CA w.heap.size _ 50 w5.drew := ⟨HII.out.drew, HRR.out.drew⟩
    clear i0 i1 i2 i3 i4 i5 j0 j1 j2 r0 r1 r2 r3 r4 r5 f0 f1 f2 f3 f4 f5 x0 x1 HBB HXX HRR HII
    refine wp_region_held_drew (S := fun W => Below w.heap.size w W ∧ CA g8 #[.bool xf, .int .i64 xb] 48 W) (by kernel_rfl) hS (fun _ => ?_)
    generalize w5.drew = W at *
    refine wpAnyH_take (oi := ⟨_, _, _, _, _, _⟩) (i := 0) (v := .agg #[.bool xf, .int .i64 xb]) rfl (by kernel_rfl) (by kernel_rfl) (by kernel_rfl) (fun _ _ _ h => h) (Or.inl ⟨by rfl, ?_⟩) (by assumption) ?_
    · (intro W hSw; have x0 := hSw.2.at (k := 0) rfl; have x1 := hSw.2.at (k := 1) rfl; simp only [List.getElem_toArray, List.getElem_cons_zero, List.getElem_cons_succ] at x0 x1; go_simp; try (with_reducible rfl))
    try simp only [Act.put, List.setIfInBounds_toArray, List.set_cons_zero, List.set_cons_succ]
    refine wpAnyH_take (oi := ⟨_, _, _, _, _, _⟩) (i := 1) (v := .string u3) rfl (by kernel_rfl) (by kernel_rfl) (by kernel_rfl) (fun _ _ _ h => h) (Or.inl ⟨by rfl, ?_⟩) (by assumption) ?_
    · (intro W hSw; have x0 := hSw.2.at (k := 0) rfl; have x1 := hSw.2.at (k := 1) rfl; simp only [List.getElem_toArray, List.getElem_cons_zero, List.getElem_cons_succ] at x0 x1; go_simp; try (with_reducible rfl))
    try simp only [Act.put, List.setIfInBounds_toArray, List.set_cons_zero, List.set_cons_succ]
    refine wpAnyH_take (oi := ⟨_, _, _, _, _, _⟩) (i := 2) (v := .int .i64 li) rfl (by kernel_rfl) (by kernel_rfl) (by kernel_rfl) (fun _ _ _ h => h) (Or.inl ⟨by rfl, ?_⟩) (by assumption) ?_
    · (intro W hSw; have x0 := hSw.2.at (k := 0) rfl; have x1 := hSw.2.at (k := 1) rfl; simp only [List.getElem_toArray, List.getElem_cons_zero, List.getElem_cons_succ] at x0 x1; go_simp; try (with_reducible rfl))
    try simp only [Act.put, List.setIfInBounds_toArray, List.set_cons_zero, List.set_cons_succ]
    refine wpAnyH_take (oi := ⟨_, _, _, _, _, _⟩) (i := 3) (v := .string (u3.extract 0 li.toNat)) rfl (by kernel_rfl) (by kernel_rfl) (by kernel_rfl) (fun _ _ _ h => h) (Or.inl ⟨by rfl, ?_⟩) (by assumption) ?_
    · (intro W hSw; have x0 := hSw.2.at (k := 0) rfl; have x1 := hSw.2.at (k := 1) rfl; simp only [List.getElem_toArray, List.getElem_cons_zero, List.getElem_cons_succ] at x0 x1; go_simp; try (with_reducible rfl))
    try simp only [Act.put, List.setIfInBounds_toArray, List.set_cons_zero, List.set_cons_succ]
    refine wpAnyH_take (oi := ⟨_, _, _, _, _, _⟩) (i := 4) (v := .pointer (some ⟨g6, 1, none⟩)) rfl (by kernel_rfl) (by kernel_rfl) (by kernel_rfl) (fun _ _ _ h => h) (Or.inl ⟨by rfl, ?_⟩) (by assumption) ?_
    · (intro W hSw; have x0 := hSw.2.at (k := 0) rfl; have x1 := hSw.2.at (k := 1) rfl; simp only [List.getElem_toArray, List.getElem_cons_zero, List.getElem_cons_succ] at x0 x1; go_simp; try (with_reducible rfl))
    try simp only [Act.put, List.setIfInBounds_toArray, List.set_cons_zero, List.set_cons_succ]
    refine wpAnyH_ready (rs := [5]) (by kernel_rfl) (by simp) ?_
    refine AllReadyH.cons (o := ⟨_, _, _, _, _, _⟩) rfl (fun K hK => ?_) ?_
    · have i1 := HJW.1.at (k := 1) rfl
      have i2 := HJW.1.at (k := 2) rfl
      have j1 := HJW.1.free 1
      have j2 := HJW.1.free 2
      simp only [List.getElem_toArray, List.getElem_cons_zero, List.getElem_cons_succ] at i1 i2
      go_simp
      clear i1 i2 j1 j2
      have hS2 : Below w.heap.size w _ ∧ CA g8 #[.bool xf, .int .i64 xb] 48 _ := ⟨(hS.1.setCell (p := ⟨g6, 1, none⟩) l1 (.bool xf)).setCell (p := ⟨g6, 2, none⟩) l1 (.int .i64 xb), (hS.2.far (o := 1) n2 (.bool xf)).far (o := 2) n2 (.int .i64 xb)⟩
      have HJ2 : CA g6 _ 50 _ ∧ CA w.heap.size _ 50 _ := ⟨(HJW.1.set (k := 1) (.bool xf)).set (k := 2) (.int .i64 xb), (HJW.2.far (o := 1) n1' (.bool xf)).far (o := 2) n1' (.int .i64 xb)⟩
      clear hS HJW
      have hS := hS2
      have HJW := HJ2
      clear hS2 HJ2
      generalize (W.setCell ⟨g6, 1, none⟩ (.bool xf)).setCell ⟨g6, 2, none⟩ (.int .i64 xb) = W1 at *
      refine hK.out _ _ hS (fun _ => ?_)
      clear hK K
      try simp only [Act.put, List.setIfInBounds_toArray, List.set_cons_zero, List.set_cons_succ]
      refine wpAnyH_take (oi := ⟨_, _, _, _, _, _⟩) (i := 6) (v := .string (u3.extract 0 li.toNat)) rfl (by kernel_rfl) (by kernel_rfl) (by kernel_rfl) (fun _ _ _ h => h) (Or.inl ⟨by rfl, ?_⟩) (by assumption) ?_
      · (intro W hSw; have x0 := hSw.2.at (k := 0) rfl; have x1 := hSw.2.at (k := 1) rfl; simp only [List.getElem_toArray, List.getElem_cons_zero, List.getElem_cons_succ] at x0 x1; go_simp; try (with_reducible rfl))
      try simp only [Act.put, List.setIfInBounds_toArray, List.set_cons_zero, List.set_cons_succ]
      refine wpAnyH_done (by kernel_rfl) ?_ _
      have hI := HJW.1
      have hR := HJW.2
      have i0 := hI.at (k := 0) rfl
      have i1 := hI.at (k := 1) rfl
      have i2 := hI.at (k := 2) rfl
      have i3 := hI.at (k := 3) rfl
      have i4 := hI.at (k := 4) rfl
      have i5 := hI.at (k := 5) rfl
      have j0 := hI.free 0
      have r0 := hR.at (k := 0) rfl
      have r1 := hR.at (k := 1) rfl
      have r2 := hR.at (k := 2) rfl
      have r3 := hR.at (k := 3) rfl
      have r4 := hR.at (k := 4) rfl
      have r5 := hR.at (k := 5) rfl
      have f0 := hR.free 0
      have f1 := hR.free 1
      have f2 := hR.free 2
      have f3 := hR.free 3
      have f4 := hR.free 4
      have f5 := hR.free 5
      simp only [List.getElem_toArray, List.getElem_cons_zero, List.getElem_cons_succ, Array.getElem_setIfInBounds, List.setIfInBounds_toArray, List.set_cons_zero, List.set_cons_succ] at i0 i1 i2 i3 i4 i5 r0 r1 r2 r3 r4 r5
      go_wp2_with fail
      have hB7 := (((((((hS.1.setCell (p := ⟨g6, 0, none⟩) l1 (.string (u3.extract 0 li.toNat))).setCell (p := ⟨w.heap.size, 0, none⟩) (Nat.le_refl _) (.string (u3.extract 0 li.toNat))).setCell (p := ⟨w.heap.size, 1, none⟩) (Nat.le_refl _) (.bool xf)).setCell (p := ⟨w.heap.size, 2, none⟩) (Nat.le_refl _) (.int .i64 xb)).setCell (p := ⟨w.heap.size, 3, none⟩) (Nat.le_refl _) (.bool tf)).setCell (p := ⟨w.heap.size, 4, none⟩) (Nat.le_refl _) (.int .i64 tb)).setCell (p := ⟨w.heap.size, 5, none⟩) (Nat.le_refl _) (.bool sg))
      have hF := ((((((HJW.2.far (o := 0) n1' (.string (u3.extract 0 li.toNat))).set (k := 0) (.string (u3.extract 0 li.toNat))).set (k := 1) (.bool xf)).set (k := 2) (.int .i64 xb)).set (k := 3) (.bool tf)).set (k := 4) (.int .i64 tb)).set (k := 5) (.bool sg)
      generalize ((((((W1.setCell ⟨g6, 0, none⟩ (.string (u3.extract 0 li.toNat))).setCell ⟨w.heap.size, 0, none⟩ (.string (u3.extract 0 li.toNat))).setCell ⟨w.heap.size, 1, none⟩ (.bool xf)).setCell ⟨w.heap.size, 2, none⟩ (.int .i64 xb)).setCell ⟨w.heap.size, 3, none⟩ (.bool tf)).setCell ⟨w.heap.size, 4, none⟩ (.int .i64 tb)).setCell ⟨w.heap.size, 5, none⟩ (.bool sg) = wf at *
      have e0 := hF.at (k := 0) (v := .string (u3.extract 0 li.toNat)) rfl
      have e1 := hF.at (k := 1) (v := .bool xf) rfl
      have e2 := hF.at (k := 2) (v := .int .i64 xb) rfl
      have e3 := hF.at (k := 3) (v := .bool tf) rfl
      have e4 := hF.at (k := 4) (v := .int .i64 tb) rfl
      have e5 := hF.at (k := 5) (v := .bool sg) rfl
      exact bodyPost_ret (v := .agg #[.string (u3.extract 0 li.toNat), .bool xf, .int .i64 xb, .bool tf, .int .i64 tb, .bool sg]) (by simp [results, Tryz.results31, go_sem, e0, e1, e2, e3, e4, e5]) rfl ⟨by rw [HV2.out], hB7⟩
    exact AllReadyH.nil
end Go.Proofs.YtlhakbkdlgejpaaGreatDoor
namespace Go.Proofs.YtlhakbkdlgejpaaGreatDoor
open Go.RowKit

/-- How great the place is. -/
noncomputable def alignL (op : Int) : Int :=
  if ¬ (lineL op).2.1 = 10 ∧ ¬ (lineL op).2.1 = 26 then -1 else if op < 64512 then glob0.getD (op - 40).toNat 0 else if op < 64852 then glob1.getD (op - 64768).toNat 0 else glob2.getD (op - 64768 - 84).toNat 0
/-- How many lanes there are to choose from. -/
noncomputable def lanesL (op : Int) : Int :=
  if (lineL op).2.1 = 25 then glob3.getD (op - 64768 - 21).toNat 0 else if (lineL op).2.1 = 26 then (16 >>> (alignL op).toNat : Nat) else if (lineL op).2.1 = 24 then 32 else 0

/-- Where an instruction reads or writes, its number is in one of three rows; its lanes likewise. -/
noncomputable def placeOk (op : Int) : Bool :=
  (!((lineL op).2.1 == 10 || (lineL op).2.1 == 26) || (decide (40 ≤ op) && decide (op < 63)) || (decide (64768 ≤ op) && decide (op < 64780)) || (decide (64852 ≤ op) && decide (op < 64862))) &&
  (!((lineL op).2.1 == 25) || (decide (64789 ≤ op) && decide (op < 64803))) && (!((lineL op).2.1 == 26) || (decide (0 ≤ alignL op) && decide (alignL op < 5)))
set_option maxRecDepth 100000 in
theorem place_all : (rangeOps.all placeOk) = true := by kernel_rfl
theorem place_ok (op : Int) : ((lineL op).2.1 = 10 ∨ (lineL op).2.1 = 26 → (40 ≤ op ∧ op < 63) ∨ (64768 ≤ op ∧ op < 64780) ∨ (64852 ≤ op ∧ op < 64862)) ∧ ((lineL op).2.1 = 25 → 64789 ≤ op ∧ op < 64803) ∧ ((lineL op).2.1 = 26 → 0 ≤ alignL op ∧ alignL op < 5) := by
  by_cases hin : op ∈ rangeOps
  · have := List.all_eq_true.1 place_all op hin
    unfold placeOk at this
    simp only [Bool.and_eq_true, Bool.or_eq_true, Bool.not_eq_true', decide_eq_true_eq, Bool.or_eq_false_iff, beq_eq_false_iff_ne] at this
    obtain ⟨⟨h1, h2⟩, h3⟩ := this
    refine ⟨fun h => ?_, fun h => ?_, fun h => ?_⟩
    · rcases h1 with ((h1 | h1) | h1) | h1
      · rcases h with h | h
        · exact absurd h h1.1
        · exact absurd h h1.2
      · exact .inl h1
      · exact .inr (.inl h1)
      · exact .inr (.inr h1)
    · rcases h2 with h2 | h2
      · exact absurd h h2
      · exact h2
    · rcases h3 with h3 | h3
      · exact absurd h h3
      · exact h3
  · rw [lineL_out op hin]
    exact ⟨fun h => by rcases h with h | h <;> exact absurd h (by decide), fun h => absurd h (by decide), fun h => absurd h (by decide)⟩

set_option maxHeartbeats 1000000 in
theorem Align_says (op : Int) (w : World) (hg : Glob w) : Calls Tryz.prog 93 #[.int .i64 op] w fun e w' => e = .returned (.int .i64 (alignL op)) ∧ Below w.heap.size w w' := by
  obtain ⟨hp, _, _⟩ := place_ok op
  have HI := fun W => hid (Imm_says op W)
  have HG := hid hg
  obtain ⟨m, hm⟩ : ∃ m, m = (lineL op).2.1 := ⟨_, rfl⟩
  have HA : alignL op = if ¬ m = 10 ∧ ¬ m = 26 then -1 else if op < 64512 then glob0.getD (op - 40).toNat 0 else if op < 64852 then glob1.getD (op - 64768).toNat 0 else glob2.getD (op - 64768 - 84).toNat 0 := by rw [hm]; rfl
  rw [← hm] at HI hp
  obtain ⟨A, hA⟩ : ∃ A, A = alignL op := ⟨_, rfl⟩
  rw [← hA] at HA ⊢
  clear hm hg hA
  by_cases hmm : m = 10 ∨ m = 26
  · have hp := hp hmm
    rw [if_neg (by omega)] at HA
    rcases hp with ⟨p0, p1⟩ | ⟨p0, p1⟩ | ⟨p0, p1⟩
    · rw [if_pos (by omega)] at HA
      have HX := hid HA
      clear HA
      have hlt : op < 64512 := by omega
      rcases hmm with rfl | rfl
      all_goals
        go_enter Tryz.func93, Tryz.ntmps93
        go_wp2_with (go_at_call 46; refine (HI _).out.mono ?_; rintro e w1 ⟨rfl, hb⟩; have hc := (HG.out.next hb).c0 (op - 40).toNat (by omega); rw [← HX.out] at hc)
        go_ret
        exact ⟨rfl, hb⟩
    · rw [if_neg (by omega), if_pos (by omega)] at HA
      have HX := hid HA
      clear HA
      have hge : ¬ op < 64512 := by omega
      have hlt : op < 64852 := by omega
      rcases hmm with rfl | rfl
      all_goals
        go_enter Tryz.func93, Tryz.ntmps93
        go_wp2_with (go_at_call 46; refine (HI _).out.mono ?_; rintro e w1 ⟨rfl, hb⟩; have hc := (HG.out.next hb).c1 (op - 64768).toNat (by omega); rw [← HX.out] at hc)
        go_ret
        exact ⟨rfl, hb⟩
    · rw [if_neg (by omega), if_neg (by omega)] at HA
      have HX := hid HA
      clear HA
      have hge : ¬ op < 64512 := by omega
      have hge2 : ¬ op < 64852 := by omega
      rcases hmm with rfl | rfl
      all_goals
        go_enter Tryz.func93, Tryz.ntmps93
        go_wp2_with (go_at_call 46; refine (HI _).out.mono ?_; rintro e w1 ⟨rfl, hb⟩; have hc := (HG.out.next hb).c2 (op - 64768 - 84).toNat (by omega); rw [← HX.out] at hc)
        go_ret
        exact ⟨rfl, hb⟩
  · rw [if_pos (by omega)] at HA
    have e1 : (m != 10) = true := by simp; omega
    have e2 : (m != 26) = true := by simp; omega
    have HX := hid HA
    clear HA hmm hp
    go_enter Tryz.func93, Tryz.ntmps93
    go_wp2_with (go_at_call 46; refine (HI _).out.mono ?_; rintro e w1 ⟨rfl, hb⟩)
    go_ret
    exact ⟨by rw [HX.out]; rfl, hb⟩

set_option maxHeartbeats 1000000 in
theorem Lanes_says (op : Int) (w : World) (hg : Glob w) : Calls Tryz.prog 54 #[.int .i64 op] w fun e w' => e = .returned (.int .i64 (lanesL op)) ∧ Below w.heap.size w w' := by
  obtain ⟨_, hp, hq⟩ := place_ok op
  have HI := fun W => hid (Imm_says op W)
  have HB := fun W (hW : Glob W) => hid (Align_says op W hW)
  have HG := hid hg
  obtain ⟨A, hA⟩ : ∃ A, A = alignL op := ⟨_, rfl⟩
  obtain ⟨m, hm⟩ : ∃ m, m = (lineL op).2.1 := ⟨_, rfl⟩
  have HA : lanesL op = if m = 25 then glob3.getD (op - 64768 - 21).toNat 0 else if m = 26 then (16 >>> A.toNat : Nat) else if m = 24 then 32 else 0 := by rw [hm, hA]; rfl
  rw [← hm] at HI hp hq
  rw [← hA] at HB hq
  obtain ⟨L, hL⟩ : ∃ L, L = lanesL op := ⟨_, rfl⟩
  rw [← hL] at HA ⊢
  clear hm hg hA hL
  by_cases h25 : m = 25
  · obtain ⟨p0, p1⟩ := hp h25
    subst h25
    rw [if_pos rfl] at HA
    clear hp
    have HX := hid HA
    clear HA hq
    go_enter Tryz.func54, Tryz.ntmps54
    go_wp2_with (go_at_call 46; refine (HI _).out.mono ?_; rintro e w1 ⟨rfl, hb⟩; have hc := (HG.out.next hb).c3 (op - 64768 - 21).toNat (by omega); rw [← HX.out] at hc)
    go_ret
    exact ⟨rfl, hb⟩
  · rw [if_neg h25] at HA
    by_cases h26 : m = 26
    · obtain ⟨q0, q1⟩ := hq h26
      subst h26
      rw [if_pos rfl] at HA
      rcases (by omega : A = 0 ∨ A = 1 ∨ A = 2 ∨ A = 3 ∨ A = 4) with rfl | rfl | rfl | rfl | rfl
      all_goals
        simp at HA
        have HX := hid HA
        clear HA hq hp h25
        go_enter Tryz.func54, Tryz.ntmps54
        go_wp2_with (first | (go_at_call 46; refine (HI _).out.mono ?_; rintro e w1 ⟨rfl, hb⟩; have hw1 := hid (HG.out.next hb)) | (go_at_call 93; refine (HB _ hw1.out).out.mono ?_; rintro e w2 ⟨rfl, hb2⟩))
        go_ret
        exact ⟨by rw [HX.out]; rfl, hb.trans (hb2.mono hb.size)⟩
    · rw [if_neg h26] at HA
      have e1 : (m == 25) = false := by simpa using h25
      have e2 : (m == 26) = false := by simpa using h26
      by_cases h24 : m = 24
      · subst h24
        rw [if_pos rfl] at HA
        have HX := hid HA
        clear HA hq hp h25 h26
        go_enter Tryz.func54, Tryz.ntmps54
        go_wp2_with (go_at_call 46; refine (HI _).out.mono ?_; rintro e w1 ⟨rfl, hb⟩)
        go_ret
        exact ⟨by rw [HX.out]; rfl, hb⟩
      · rw [if_neg h24] at HA
        have e3 : (m == 24) = false := by simpa using h24
        have HX := hid HA
        clear HA hq hp h25 h26 h24
        go_enter Tryz.func54, Tryz.ntmps54
        go_wp2_with (go_at_call 46; refine (HI _).out.mono ?_; rintro e w1 ⟨rfl, hb⟩)
        go_ret
        exact ⟨by rw [HX.out]; rfl, hb⟩
end Go.Proofs.YtlhakbkdlgejpaaGreatDoor
namespace Go.Proofs.YtlhakbkdlgejpaaGreatDoor
open Go.RowKit

/-- How many numbers stand behind an instruction of vectors. -/
def chL (m : Int) : Int := if m = 0 then 0 else if m = 25 then 1 else if m = 24 then 16 else -1
theorem choices_says (op : Int) (w : World) : Calls Tryz.prog 53 #[.int .i64 op] w fun e w' => e = .returned (.int .i64 (chL (lineL op).2.1)) ∧ Below w.heap.size w w' := by
  have HI := fun W => hid (Imm_says op W)
  generalize (lineL op).2.1 = m at *
  by_cases h0 : m = 0
  · subst h0
    go_enter Tryz.func53, Tryz.ntmps53
    go_wp2_with (go_at_call 46; refine (HI _).out.mono ?_; rintro e w1 ⟨rfl, hb⟩)
    go_ret
    exact ⟨rfl, hb⟩
  by_cases h1 : m = 25
  · subst h1
    go_enter Tryz.func53, Tryz.ntmps53
    go_wp2_with (go_at_call 46; refine (HI _).out.mono ?_; rintro e w1 ⟨rfl, hb⟩)
    go_ret
    exact ⟨rfl, hb⟩
  by_cases h2 : m = 24
  · subst h2
    go_enter Tryz.func53, Tryz.ntmps53
    go_wp2_with (go_at_call 46; refine (HI _).out.mono ?_; rintro e w1 ⟨rfl, hb⟩)
    go_ret
    exact ⟨rfl, hb⟩
  have hv := hid (show chL m = -1 by unfold chL; rw [if_neg h0, if_neg h1, if_neg h2])
  have e0 : (m == 0) = false := by simpa using h0
  have e1 : (m == 25) = false := by simpa using h1
  have e2 : (m == 24) = false := by simpa using h2
  clear h0 h1 h2
  go_enter Tryz.func53, Tryz.ntmps53
  go_wp2_with (go_at_call 46; refine (HI _).out.mono ?_; rintro e w1 ⟨rfl, hb⟩)
  go_ret
  exact ⟨by rw [hv.out]; rfl, hb⟩

theorem fits1_says (t lo hi : Int) (nl : Bool) (w : World) : Calls Tryz.prog 55 #[.agg #[.int .i64 t, .int .u64 lo, .int .u64 hi, .bool nl], .int .i64 t] w fun e w' => e = .returned (.bool true) ∧ Below w.heap.size w w' := by
  have e : (t == t) = true := by simp
  go_enter Tryz.func55, Tryz.ntmps55
  go_wp2
  go_ret
  exact ⟨rfl, (Below.refl _ _).alloc (Nat.le_refl _) _⟩

set_option maxHeartbeats 2000000 in
set_option maxRecDepth 100000 in
theorem EqualFunc_says (l : List Av) (T : List Int) (hT : T = l.map (·.1)) (hl : l.length ≤ 10) (hl1 : 1 ≤ l.length) (va vt : Value) (base : Nat) (w : World) (ha : AR w va l) (ht : w.ownsRow base 3 1 vt T.length (ic T)) :
    Calls Tryz.prog 47 #[va, vt, .func (.func 55) #[] #[]] w fun e w' => e = .returned (.bool true) ∧ Below w.heap.size w w' := by
  obtain ⟨g, cap, rfl, hg, hcap, hat⟩ := ha
  have hlen : T.length = l.length := by rw [hT, List.length_map]
  rcases ht.2 with ⟨rfl, h2⟩ | ⟨gt, ct, cur, rfl, e2, e3, e4, _⟩
  · omega
  · have hgt : gt < w.heap.size := (Array.getElem?_eq_some_iff.1 e3).1
    have HT : Hid (∀ j a, l[j]? = some a → w.cell? ⟨gt, j, none⟩ = some (.int .i64 a.1)) := fun j a hj => by
      have hjl : j < l.length := (List.getElem?_eq_some_iff.1 hj).1
      rw [ht.cellAt j (by omega), hT]
      simp [ic, hj]
    have HA := hid hat
    have HF := fun t lo hi nl W => hid (fits1_says t lo hi nl W)
    have eg : ∀ args w, (callFunc 55 args).run Tryz.prog w = .ok (.enter 55 args) w := enters_of Tryz.func55 (by kernel_rfl) rfl
    rw [hlen] at *
    clear ht hat hT hlen e2 e3 e4
    go_enter Tryz.func47, Tryz.ntmps47
    go_wp2
    go_loopw [17] (fun vi wr => ∃ i : Nat, i ≤ l.length ∧ vi = .int .i64 i ∧ Hid (Below w.heap.size w wr)) (fun vi _ => l.length - (intOf vi).toNat)
    case atStart => exact ⟨0, Nat.zero_le _, rfl, Below.refl _ _⟩
    case round =>
      obtain ⟨i, hin, rfl, HB⟩ := hrel
      by_cases hlt : i < l.length
      · obtain ⟨a, hja⟩ : ∃ a, l[i]? = some a := ⟨l[i], by simp [hlt]⟩
        obtain ⟨h0, h1, h2, h3⟩ := HA.out i a hja
        have ht0 := HT.out i a hja
        obtain ⟨t, lo, hi, nl⟩ := a
        simp only [] at h0 h1 h2 h3 ht0
        have k0 := (HB.out.cell (p := ⟨g, i * 4, none⟩) hg).trans h0
        have k1 := (HB.out.cell (p := ⟨g, i * 4 + 1, none⟩) hg).trans h1
        have k2 := (HB.out.cell (p := ⟨g, i * 4 + 2, none⟩) hg).trans h2
        have k3 := (HB.out.cell (p := ⟨g, i * 4 + 3, none⟩) hg).trans h3
        have k4 := (HB.out.cell (p := ⟨gt, i, none⟩) hgt).trans ht0
        have k4' : ∀ o, (wr.alloc o).cell? ⟨gt, i, none⟩ = some (.int .i64 t) := fun o => by
          rw [((Below.refl _ wr).alloc (Nat.le_refl _) o).cell (p := ⟨gt, i, none⟩) (Nat.lt_of_lt_of_le hgt HB.out.size)]; exact k4
        clear h0 h1 h2 h3 ht0 hja
        go_wp2_with (go_at_fn 55; refine (HF _ _ _ _ _).out.mono ?_; rintro e w2 ⟨rfl, hb⟩; have HB2 := hid ((HB.out.alloc HB.out.size _).trans (hb.mono (by have := HB.out.size; simp; omega))); clear hb)
        go_roundw
        case rel => exact ⟨i + 1, by omega, by go_num, HB2⟩
        case measure => simp [intOf]; omega
      · obtain rfl : i = l.length := by omega
        go_wp2
        go_ret
        exact ⟨rfl, HB.out⟩

set_option maxHeartbeats 4000000 in
set_option maxRecDepth 100000 in
theorem fits_says (op : Int) (h64 : 64768 ≤ op) (hk : knB (lineL op) = true) (L : List Int) (hL : (L.length : Int) = chL (lineL op).2.1) (hr : ∀ x ∈ L, 0 ≤ x ∧ x < lanesL op) (l : List Av) (hT : laL op = l.map (·.1)) (hl : l.length ≤ 10) (hl1 : 1 ≤ l.length)
    (vi va : Value) (base : Nat) (w : World) (hg : Glob w) (ha : AR w va l) (hi : w.ownsRow base 3 1 vi L.length (ic L)) :
    Calls Tryz.prog 30 #[.int .i64 op, vi, va] w fun e w' => e = .returned (.bool true) ∧ Below w.heap.size w w' := by
  have HK := fun W => hid (Known_says op W)
  rw [hk] at HK
  have HCH := fun W => hid (choices_says op W)
  rw [← hL] at HCH
  have HLN := fun W (h : Glob W) => hid (Lanes_says op W h)
  have HSG := fun W (h : Glob W) => hid (Sign_any op W h)
  have HGL := hid hg
  have HA := hid ha
  have HEQ := fun vt base W (h1 : AR W va l) h2 => hid (EqualFunc_says l (laL op) hT hl hl1 va vt base W h1 h2)
  have hlt0 : ¬ (op < 64768) := by omega
  have hlf : decide (op < 64768) = false := decide_eq_false hlt0
  have HR : Hid (∀ j (h : j < L.length), 0 ≤ L[j] ∧ L[j] < lanesL op) := fun j h => hr _ (List.getElem_mem h)
  generalize lanesL op = ln at *
  generalize laL op = la at *
  generalize lbL op = lb at *
  generalize fxB (lineL op) = fx at *
  have HI := hid hi
  rcases hi.2 with ⟨rfl, h2⟩ | ⟨gt, ct, cur, rfl, e2, e3, e4, _⟩
  · rw [h2] at HCH
    have hz : ((0 : Nat) : Int) = 0 := rfl
    rw [hz] at HCH
    clear hg ha hi hL hr hk h2 hT h64 HR HI HLN
    go_enter Tryz.func30, Tryz.ntmps30
    go_wp2_with (first
      | (go_at_call 45; refine (HK _).out.mono ?_; rintro e w1 ⟨rfl, hb1⟩; have HB1 := hid hb1; clear hb1)
      | (go_at_call 53; refine (HCH _).out.mono ?_; rintro e w2 ⟨rfl, hb2⟩; have HB2 := hid (HB1.out.trans (hb2.mono HB1.out.size)); clear hb2))
    go_loopw [28] (fun vi wr => vi = .int .i64 0 ∧ Hid (Below w.heap.size w wr)) (fun _ _ => 1)
    case atStart => exact ⟨rfl, HB2⟩
    case round =>
      obtain ⟨rfl, HB⟩ := hrel
      go_wp2_with (first
        | (go_at_call 33; refine (HSG _ (HGL.out.next HB.out)).out.mono ?_; rintro e w5 ⟨v1, v2, B2, rfl, ho1, ho2, hB2, hsep, hb⟩; have HE := hid (HEQ v1 _ w5 (HA.out.call (HB.out.trans (hb.mono HB.out.size))) ho1); have HB5 := hid (HB.out.trans (hb.mono HB.out.size)); clear hb ho1 ho2 hB2 hsep)
        | (go_at_call 47; refine HE.out.out.mono ?_; rintro e w6 ⟨rfl, hb6⟩))
      go_ret
      exact ⟨rfl, HB5.out.trans (hb6.mono HB5.out.size)⟩
  · have hgt : gt < w.heap.size := (Array.getElem?_eq_some_iff.1 e3).1
    have HC : Hid (∀ j (h : j < L.length), w.cell? ⟨gt, j, none⟩ = some (.int .i64 L[j])) := fun j h => by
      rw [hi.cellAt j (by omega)]; simp [ic, h]
    obtain ⟨n, hn⟩ : ∃ n, n = L.length := ⟨_, rfl⟩
    rw [← hn] at HCH ⊢
    have HN := hid hn
    have hn40 : (n : Int) ≤ 16 := by
      rw [hn, hL]; unfold chL; split
      · decide
      · split
        · decide
        · split <;> decide
    have hnn : ((n : Int) != (n : Int)) = false := by simp
    clear hg ha hi hL hr hk hT h64 e2 e3 e4 HI hn
    go_enter Tryz.func30, Tryz.ntmps30
    go_wp2_with (first
      | (go_at_call 45; refine (HK _).out.mono ?_; rintro e w1 ⟨rfl, hb1⟩; have HB1 := hid hb1; clear hb1)
      | (go_at_call 53; refine (HCH _).out.mono ?_; rintro e w2 ⟨rfl, hb2⟩; have HB2 := hid (HB1.out.trans (hb2.mono HB1.out.size)); clear hb2))
    go_loopw [28] (fun vi wr => ∃ i : Nat, i ≤ n ∧ vi = .int .i64 i ∧ Hid (Below w.heap.size w wr)) (fun vi _ => n - (intOf vi).toNat)
    case atStart => exact ⟨0, Nat.zero_le _, rfl, HB2⟩
    case round =>
      obtain ⟨i, hin, rfl, HB⟩ := hrel
      by_cases hlt : i < n
      · have hlL : i < L.length := by rw [← HN.out]; exact hlt
        obtain ⟨x, hx⟩ : ∃ x, x = L[i] := ⟨_, rfl⟩
        have hc := (HB.out.cell (p := ⟨gt, i, none⟩) hgt).trans (HC.out i hlL)
        have hxr := HR.out i hlL
        rw [← hx] at hc hxr
        have x0 : decide (x < 0) = false := decide_eq_false (by omega)
        have x1 : decide (ln ≤ x) = false := decide_eq_false (by omega)
        have x2 : ¬ (x < 0) := by omega
        have x3 : ¬ (ln ≤ x) := by omega
        clear hx hxr
        go_wp2_with (go_at_call 54; refine (HLN _ (HGL.out.next HB.out)).out.mono ?_; rintro e w4 ⟨rfl, hb4⟩; have HB4 := hid (HB.out.trans (hb4.mono HB.out.size)); clear hb4)
        go_roundw
        case rel => exact ⟨i + 1, by omega, by go_num, HB4⟩
        case measure => simp [intOf]; omega
      · obtain rfl : i = n := by omega
        go_wp2_with (first
          | (go_at_call 33; refine (HSG _ (HGL.out.next HB.out)).out.mono ?_; rintro e w5 ⟨v1, v2, B2, rfl, ho1, ho2, hB2, hsep, hb⟩; have HE := hid (HEQ v1 _ w5 (HA.out.call (HB.out.trans (hb.mono HB.out.size))) ho1); have HB5 := hid (HB.out.trans (hb.mono HB.out.size)); clear hb ho1 ho2 hB2 hsep)
          | (go_at_call 47; refine HE.out.out.mono ?_; rintro e w6 ⟨rfl, hb6⟩))
        go_ret
        exact ⟨rfl, HB5.out.trans (hb6.mono HB5.out.size)⟩
end Go.Proofs.YtlhakbkdlgejpaaGreatDoor
