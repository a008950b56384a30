/-
  LCAgree: merged, what the law does not reach left out (each text says what it holds where it lies in wip). No condition.
-/
import Derived.Test.YtlhakbkdlgejpaaGreatDoorH16
import Derived.Test.YtlhakbkdlgejpaaGreatDoorH17
import Derived.Test.YtlhakbkdlgejpaaGreatDoorH18
import Derived.Test.YtlhakbkdlgejpaaGreatDoorH20
import Derived.Test.YtlhakbkdlgejpaaGreatDoorH21
import Derived.Test.YtlhakbkdlgejpaaGreatDoorH22
import Derived.Test.YtlhakbkdlgejpaaGreatDoorH14
set_option linter.unusedSimpArgs false
set_option linter.unusedVariables false
set_option maxRecDepth 100000
namespace Go.Proofs.YtlhakbkdlgejpaaGreatDoor
open Go.RowKit
noncomputable def chkH (op : Int) (tys : List Int) (res : Int) (vb : List UInt8) (n : Nat) (tf sg : Bool) (IM : Int) (what : List UInt8) : Bool :=
  knB (lineL op) && decide (64768 ≤ op) && decide (op < 65024) && ((lineL op).2.1 == IM) && (laL op == tys) && (lbL op == [res]) && decide ((nmL op).length ≤ 1000) && ((xsL (nmL op)).2 == 0) && (verbL (nmL op) == vb) && (fromL (nmL op) == (tf, (n : Int))) && (toL (nmL op) == (tf, (n : Int))) && (sgL (nmL op) == sg) &&
  decide (0 ≤ (ofL op).1) && ((ofL op).2.1 == nmL op) && ((ofL op).2.2.1 == IM) && decide ((ofL op).2.2.2.1.length ≤ 100) && decide ((ofL op).2.2.2.2.1.length ≤ 100) && (tyL (ofL op).2.2.2.1 == tys) && (tyL (ofL op).2.2.2.2.1 == [res]) && (biL (headC (nmL op) 46) == (n : Int)) && (tailC (nmL op) 46 == what)
structure PH (op : Int) (tys : List Int) (res : Int) (vb : List UInt8) (n : Nat) (tf sg : Bool) (IM : Int) (what : List UInt8) (ro : Int) (nm tk lv : List UInt8) (fx : Bool) : Prop where
  kn : knB (lineL op) = true
  lo : 64768 ≤ op
  hi : op < 65024
  im : (lineL op).2.1 = IM
  la : laL op = tys
  lb : lbL op = [res]
  len : nm.length ≤ 1000
  l6 : ((xsL nm).2 == 0) = false → 0 ≤ laL6 nm
  par : parV nm = insV vb tf n tf n sg
  nm1 : (lineL op).1 = str nm
  of : ofL op = (ro, nm, IM, tk, lv, fx)
  ro0 : 0 ≤ ro
  tk1 : tk.length ≤ 100
  lv1 : lv.length ≤ 100
  tk2 : tyL tk = tys
  lv2 : tyL lv = [res]
  bits : biL (headC nm 46) = n
  wh : tailC nm 46 = what
theorem PH_of (op : Int) (tys : List Int) (res : Int) (vb : List UInt8) (n : Nat) (tf sg : Bool) (IM : Int) (what : List UInt8) (h : chkH op tys res vb n tf sg IM what = true) : ∃ ro tk lv fx, PH op tys res vb n tf sg IM what ro (nmL op) tk lv fx := by
  unfold chkH at h
  have e1 : (lineL op).1 = str (nmL op) := (list_str _).symm
  generalize nmL op = nm at *
  obtain ⟨⟨ro, nm', im, tk, lv, fx⟩, hr⟩ : ∃ r, ofL op = r := ⟨_, rfl⟩
  rw [hr] at h
  simp only [Bool.and_eq_true, decide_eq_true_eq, beq_iff_eq] at h
  obtain ⟨⟨⟨⟨⟨⟨⟨⟨⟨⟨⟨⟨⟨⟨⟨⟨⟨⟨⟨⟨a1, a2⟩, a3⟩, a4⟩, a5⟩, a6⟩, a7⟩, a8⟩, a9⟩, b1⟩, b2⟩, b3⟩, b4⟩, b5⟩, b6⟩, b7⟩, b8⟩, b9⟩, c1⟩, c4⟩, c5⟩ := h
  subst b5
  subst b6
  refine ⟨ro, tk, lv, fx, a1, a2, a3, a4, a5, a6, a7, (fun hh => by rw [a8] at hh; cases hh), ?_, e1, hr, b4, b7, b8, b9, c1, c4, c5⟩
  unfold parV
  rw [a9, b1, b2, b3]
theorem lane_one {W : World} {gi at_ : Nat} {L : Int} (h : W.cell? ⟨gi, 0, none⟩ = some (.int .i64 at_)) (hl : (at_ : Int) < L) : ∀ j, j < 1 → W.cell? ⟨gi, j, none⟩ = some (.int .i64 ((fun _ => at_ : Nat → Nat) j : Nat)) ∧ (((fun _ => at_ : Nat → Nat) j : Nat) : Int) < L := fun j hj => by
  obtain rfl : j = 0 := by omega
  exact ⟨h, hl⟩
set_option maxHeartbeats 4000000 in
theorem agree_splat (op : Int) (n : Nat) (hn : Okn n) (tf : Bool) (T : Int) (hT : (T == 123) = false) (h : (chkH op [T] 123 [115, 112, 108, 97, 116] n tf false 0 [115, 112, 108, 97, 116]) = true) (nn : Nat) (hnn : nn < 18446744073709551616) (w : World) (hg : Glob w) :
    (∃ ro tk lv fx, PH op [T] 123 [115, 112, 108, 97, 116] n tf false 0 [115, 112, 108, 97, 116] ro (nmL op) tk lv fx) ∧ ∃ lo hi, (∀ W va, Below w.heap.size w W → AR W va [(T, nn, 0, false)] → Calls Tryz.prog 20 #[.int .i64 op, .slice none 0 0, va] W fun e w' => e = .returned (.tuple #[vv 123 lo hi false, .int .i64 0]) ∧ Below W.heap.size W w') ∧
      (∀ W va, Below w.heap.size w W → AR W va [(T, nn, 0, false)] → Calls Tryz.prog 38 #[.int .i64 op, .slice none 0 0, va] W fun e w' => e = .returned (.tuple #[vv 123 lo hi false, .int .i64 0]) ∧ Below W.heap.size W w') := by
  obtain ⟨ro, tk, lv, fx, P⟩ := PH_of op _ _ _ _ _ _ _ _ h
  generalize nmL op = nm at *
  have hc1 : 1 ≤ cnt n := by rcases hn.cases with ⟨_, _, h⟩ | ⟨_, _, h⟩ | ⟨_, _, h⟩ | ⟨_, _, h⟩ <;> omega
  have hc16 : cnt n ≤ 16 := by rcases hn.cases with ⟨_, _, h⟩ | ⟨_, _, h⟩ | ⟨_, _, h⟩ | ⟨_, _, h⟩ <;> omega
  refine ⟨⟨ro, tk, lv, fx, P⟩, loF n (fun _ => nn), hiF n (fun _ => nn), fun W va hb ha => ?_, fun W va hb ha => ?_⟩
  · refine Do_vec op nm P.nm1 [115, 112, 108, 97, 116] tf n tf n hn false P.par P.len P.l6 P.lb (.slice none 0 0) va W (hg.next hb) ?_ (fun _ => nn) ?_ ?_
    · intro W2 h2
      exact fits_says op P.lo P.kn [] (by rw [P.im]; rfl) (fun x hx => by cases hx) [(T, nn, 0, false)] (by rw [P.la]; rfl) (by simp) (by simp) (.slice none 0 0) va W2.heap.size W2 ((hg.next hb).next h2) (ha.call h2) (World.ownsRow_nil _ _ _ _)
    · intro i _; exact hnn
    · intro W2 h2
      exact vector_splat tf n tf n false (.slice none 0 0) va (cnt n) hc1 (fun _ => nn) (fun _ => 0) W2 (fun W3 h3 => operand_n0 [115, 112, 108, 97, 116] tf n hn tf n false va _ T nn hT rfl W3 ((ha.call h2).call h3)) (fun W3 h3 => operand_none [115, 112, 108, 97, 116] tf n hn tf n false va _ 1 (by simp) W3 ((ha.call h2).call h3))
  · refine RDo_vec op P.lo ro nm tk lv fx P.of P.ro0 P.tk1 P.lv1 P.lv2 [(T, nn, 0, false)] P.tk2 (by simp) (by simp) va W ha _ _ fun W' hb' => ?_
    refine RDone_chs ro nm tk lv fx _ _ rfl P.wh P.len n hn P.bits rfl (.slice none 0 0) va W' 123 _ _ fun W2 hbw => ?_
    exact chosen_splat n hn T nn hnn (by decide) (.slice none 0 0) va W2 ((ha.call hb').call hbw)
set_option maxHeartbeats 4000000 in
theorem agree_swiz (op : Int) (h : (chkH op [123, 123] 123 [115, 119, 105, 122, 122, 108, 101] 8 false false 0 [115, 119, 105, 122, 122, 108, 101]) = true) (alo ahi : Nat) (anl : Bool) (ha1 : alo < 18446744073709551616) (ha2 : ahi < 18446744073709551616) (blo bhi : Nat) (bnl : Bool) (hb1 : blo < 18446744073709551616) (hb2 : bhi < 18446744073709551616) (w : World) (hg : Glob w) :
    (∃ ro tk lv fx, PH op [123, 123] 123 [115, 119, 105, 122, 122, 108, 101] 8 false false 0 [115, 119, 105, 122, 122, 108, 101] ro (nmL op) tk lv fx) ∧ ∃ lo hi, (∀ W va, Below w.heap.size w W → AR W va [(123, alo, ahi, anl), (123, blo, bhi, bnl)] → Calls Tryz.prog 20 #[.int .i64 op, .slice none 0 0, va] W fun e w' => e = .returned (.tuple #[vv 123 lo hi false, .int .i64 0]) ∧ Below W.heap.size W w') ∧
      (∀ W va, Below w.heap.size w W → AR W va [(123, alo, ahi, anl), (123, blo, bhi, bnl)] → Calls Tryz.prog 38 #[.int .i64 op, .slice none 0 0, va] W fun e w' => e = .returned (.tuple #[vv 123 lo hi false, .int .i64 0]) ∧ Below W.heap.size W w') := by
  obtain ⟨ro, tk, lv, fx, P⟩ := PH_of op _ _ _ _ _ _ _ _ h
  generalize nmL op = nm at *
  have hn : Okn 8 := by decide
  have hc1 : 1 ≤ cnt 8 := by rcases hn.cases with ⟨_, _, h⟩ | ⟨_, _, h⟩ | ⟨_, _, h⟩ | ⟨_, _, h⟩ <;> omega
  have hc16 : cnt 8 ≤ 16 := by rcases hn.cases with ⟨_, _, h⟩ | ⟨_, _, h⟩ | ⟨_, _, h⟩ | ⟨_, _, h⟩ <;> omega
  refine ⟨⟨ro, tk, lv, fx, P⟩, loF 8 (fun i => if splitF 8 blo bhi i < 16 then splitF 8 alo ahi (splitF 8 blo bhi i) else 0), hiF 8 (fun i => if splitF 8 blo bhi i < 16 then splitF 8 alo ahi (splitF 8 blo bhi i) else 0), fun W va hb ha => ?_, fun W va hb ha => ?_⟩
  · refine Do_vec op nm P.nm1 [115, 119, 105, 122, 122, 108, 101] false 8 false 8 hn false P.par P.len P.l6 P.lb (.slice none 0 0) va W (hg.next hb) ?_ (fun i => if splitF 8 blo bhi i < 16 then splitF 8 alo ahi (splitF 8 blo bhi i) else 0) ?_ ?_
    · intro W2 h2
      exact fits_says op P.lo P.kn [] (by rw [P.im]; rfl) (fun x hx => by cases hx) [(123, alo, ahi, anl), (123, blo, bhi, bnl)] (by rw [P.la]; rfl) (by simp) (by simp) (.slice none 0 0) va W2.heap.size W2 ((hg.next hb).next h2) (ha.call h2) (World.ownsRow_nil _ _ _ _)
    · intro i _
      show (if _ then _ else _) < _
      split
      · exact splitF_u64 hn _ _ _
      · decide
    · intro W2 h2
      exact vector_swiz false 8 false 8 false (.slice none 0 0) va 16 (by decide) (by decide) (splitF 8 alo ahi) (splitF 8 blo bhi) W2 (fun W3 h3 => operand_v [115, 119, 105, 122, 122, 108, 101] false 8 hn false 8 false va _ 0 alo ahi anl rfl ha1 ha2 W3 ((ha.call h2).call h3)) (fun W3 h3 => operand_v [115, 119, 105, 122, 122, 108, 101] false 8 hn false 8 false va _ 1 blo bhi bnl rfl hb1 hb2 W3 ((ha.call h2).call h3))
  · refine RDo_vec op P.lo ro nm tk lv fx P.of P.ro0 P.tk1 P.lv1 P.lv2 [(123, alo, ahi, anl), (123, blo, bhi, bnl)] P.tk2 (by simp) (by simp) va W ha _ _ fun W' hb' => ?_
    refine RDone_chw ro nm tk lv fx _ _ rfl P.wh P.len 8 hn P.bits rfl (.slice none 0 0) va W' 123 _ _ fun W2 hbw => ?_
    exact chosen_swiz alo ahi anl ha1 ha2 blo bhi bnl hb1 hb2 (.slice none 0 0) va W2 ((ha.call hb').call hbw)
set_option maxHeartbeats 4000000 in
theorem agree_shuf (op : Int) (P31 : Nat → Nat) (hP31 : ∀ i, P31 i < 32) (h : (chkH op [123, 123] 123 [115, 104, 117, 102, 102, 108, 101] 8 false false 24 [115, 104, 117, 102, 102, 108, 101] && (lanesL op == (32 : Int)) && (refLanes (ofL op) == (32 : Int))) = true) (alo ahi : Nat) (anl : Bool) (ha1 : alo < 18446744073709551616) (ha2 : ahi < 18446744073709551616) (blo bhi : Nat) (bnl : Bool) (hb1 : blo < 18446744073709551616) (hb2 : bhi < 18446744073709551616) (w : World) (hg : Glob w) :
    (∃ ro tk lv fx, PH op [123, 123] 123 [115, 104, 117, 102, 102, 108, 101] 8 false false 24 [115, 104, 117, 102, 102, 108, 101] ro (nmL op) tk lv fx) ∧ refLanes (ofL op) = (32 : Int) ∧ ∃ lo hi, (∀ W va, Below w.heap.size w W → AR W va [(123, alo, ahi, anl), (123, blo, bhi, bnl)] → ∀ gi ci base, W.ownsRow base 3 1 (.slice (some ⟨gi, 0, none⟩) 16 ci) 16 (ic ((List.range 16).map (fun i => (P31 i : Int)))) → Calls Tryz.prog 20 #[.int .i64 op, .slice (some ⟨gi, 0, none⟩) 16 ci, va] W fun e w' => e = .returned (.tuple #[vv 123 lo hi false, .int .i64 0]) ∧ Below W.heap.size W w') ∧
      (∀ W va, Below w.heap.size w W → AR W va [(123, alo, ahi, anl), (123, blo, bhi, bnl)] → ∀ gi ci base, W.ownsRow base 3 1 (.slice (some ⟨gi, 0, none⟩) 16 ci) 16 (ic ((List.range 16).map (fun i => (P31 i : Int)))) → Calls Tryz.prog 38 #[.int .i64 op, .slice (some ⟨gi, 0, none⟩) 16 ci, va] W fun e w' => e = .returned (.tuple #[vv 123 lo hi false, .int .i64 0]) ∧ Below W.heap.size W w') := by
  simp only [Bool.and_eq_true, beq_iff_eq] at h
  obtain ⟨⟨h, hln⟩, hrl⟩ := h
  obtain ⟨ro, tk, lv, fx, P⟩ := PH_of op _ _ _ _ _ _ _ _ h
  generalize nmL op = nm at *
  have hn : Okn 8 := by decide
  have hc1 : 1 ≤ cnt 8 := by rcases hn.cases with ⟨_, _, h⟩ | ⟨_, _, h⟩ | ⟨_, _, h⟩ | ⟨_, _, h⟩ <;> omega
  have hc16 : cnt 8 ≤ 16 := by rcases hn.cases with ⟨_, _, h⟩ | ⟨_, _, h⟩ | ⟨_, _, h⟩ | ⟨_, _, h⟩ <;> omega
  refine ⟨⟨ro, tk, lv, fx, P⟩, hrl, loF 8 (fun i => if P31 i < 16 then splitF 8 alo ahi (P31 i) else splitF 8 blo bhi (P31 i - 16)), hiF 8 (fun i => if P31 i < 16 then splitF 8 alo ahi (P31 i) else splitF 8 blo bhi (P31 i - 16)), fun W va hb ha gi ci base hI => ?_, fun W va hb ha gi ci base hI => ?_⟩
  · have hgi : gi < W.heap.size := (hI.lt gi rfl).2
    have hcell : ∀ i, i < 16 → W.cell? ⟨gi, i, none⟩ = some (.int .i64 (P31 i : Nat)) ∧ P31 i < 32 := fun i hi => ⟨by rw [hI.cellAt i (by omega)]; simp [ic, hi], hP31 i⟩
    refine Do_vec op nm P.nm1 [115, 104, 117, 102, 102, 108, 101] false 8 false 8 hn false P.par P.len P.l6 P.lb _ va W (hg.next hb) ?_ (fun i => if P31 i < 16 then splitF 8 alo ahi (P31 i) else splitF 8 blo bhi (P31 i - 16)) ?_ ?_
    · intro W2 h2
      exact fits_says op P.lo P.kn ((List.range 16).map (fun i => (P31 i : Int))) (by rw [P.im]; simp; rfl) (fun x hx => by simp only [List.mem_map] at hx; obtain ⟨i, _, rfl⟩ := hx; have := hP31 i; rw [hln]; omega) [(123, alo, ahi, anl), (123, blo, bhi, bnl)] (by rw [P.la]; rfl) (by simp) (by simp) _ va base W2 ((hg.next hb).next h2) (ha.call h2) (by simpa using own_below hI h2 (Nat.le_refl _))
    · intro i _
      show (if _ then _ else _) < _
      split <;> exact splitF_u64 hn _ _ _
    · intro W2 h2
      exact vector_shuf false 8 false 8 false gi ci va (splitF 8 alo ahi) (splitF 8 blo bhi) P31 W2 (fun W3 h3 => operand_v [115, 104, 117, 102, 102, 108, 101] false 8 hn false 8 false va _ 0 alo ahi anl rfl ha1 ha2 W3 ((ha.call h2).call h3)) (fun W3 h3 => operand_v [115, 104, 117, 102, 102, 108, 101] false 8 hn false 8 false va _ 1 blo bhi bnl rfl hb1 hb2 W3 ((ha.call h2).call h3)) (Nat.lt_of_lt_of_le hgi h2.size) (fun i hi => ⟨(h2.cell (p := ⟨gi, i, none⟩) hgi).trans (hcell i hi).1, (hcell i hi).2⟩)
  · have hgi : gi < W.heap.size := (hI.lt gi rfl).2
    have hcell : ∀ i, i < 16 → W.cell? ⟨gi, i, none⟩ = some (.int .i64 (P31 i : Nat)) ∧ P31 i < 32 := fun i hi => ⟨by rw [hI.cellAt i (by omega)]; simp [ic, hi], hP31 i⟩
    refine RDo_vec16 op P.lo ro nm tk lv fx P.of P.ro0 P.tk1 P.lv1 P.lv2 [(123, alo, ahi, anl), (123, blo, bhi, bnl)] P.tk2 (by simp) (by simp) va W ha gi ci hgi P31 (fun i hi => ⟨(hcell i hi).1, by rw [hrl]; have := hP31 i; omega⟩) _ _ fun W' hb' => ?_
    refine RDone_ch24 ro nm tk lv fx _ _ rfl P.wh P.len 8 hn P.bits _ va W' 123 _ _ fun W2 hbw => ?_
    have hgi2 := Nat.lt_of_lt_of_le hgi hb'.size
    exact chosen_shuf alo ahi anl ha1 ha2 blo bhi bnl hb1 hb2 gi ci P31 va W2 ((ha.call hb').call hbw) (Nat.lt_of_lt_of_le hgi2 hbw.size) (fun i hi => ⟨(hbw.cell (p := ⟨gi, i, none⟩) hgi2).trans ((hb'.cell (p := ⟨gi, i, none⟩) hgi).trans (hcell i hi).1), (hcell i hi).2⟩)
set_option maxHeartbeats 4000000 in
theorem agree_xs (op : Int) (n : Nat) (hn : Okn n) (tf : Bool) (at_ : Nat) (hat : at_ < cnt n) (h : (chkH op [123] 127 [101, 120, 116, 114, 97, 99, 116, 95, 108, 97, 110, 101] n tf true 25 [101, 120, 116, 114, 97, 99, 116, 95, 108, 97, 110, 101, 95, 115] && (lanesL op == ((cnt n : Nat) : Int)) && (refLanes (ofL op) == ((cnt n : Nat) : Int))) = true) (alo ahi : Nat) (anl : Bool) (ha1 : alo < 18446744073709551616) (ha2 : ahi < 18446744073709551616) (w : World) (hg : Glob w) :
    (∃ ro tk lv fx, PH op [123] 127 [101, 120, 116, 114, 97, 99, 116, 95, 108, 97, 110, 101] n tf true 25 [101, 120, 116, 114, 97, 99, 116, 95, 108, 97, 110, 101, 95, 115] ro (nmL op) tk lv fx) ∧ refLanes (ofL op) = ((cnt n : Nat) : Int) ∧ ∃ lo hi, (∀ W va, Below w.heap.size w W → AR W va [(123, alo, ahi, anl)] → ∀ gi ci base, W.ownsRow base 3 1 (.slice (some ⟨gi, 0, none⟩) 1 ci) 1 (ic ([(at_ : Int)])) → Calls Tryz.prog 20 #[.int .i64 op, .slice (some ⟨gi, 0, none⟩) 1 ci, va] W fun e w' => e = .returned (.tuple #[vv 127 lo hi false, .int .i64 0]) ∧ Below W.heap.size W w') ∧
      (∀ W va, Below w.heap.size w W → AR W va [(123, alo, ahi, anl)] → ∀ gi ci base, W.ownsRow base 3 1 (.slice (some ⟨gi, 0, none⟩) 1 ci) 1 (ic ([(at_ : Int)])) → Calls Tryz.prog 38 #[.int .i64 op, .slice (some ⟨gi, 0, none⟩) 1 ci, va] W fun e w' => e = .returned (.tuple #[vv 127 lo hi false, .int .i64 0]) ∧ Below W.heap.size W w') := by
  simp only [Bool.and_eq_true, beq_iff_eq] at h
  obtain ⟨⟨h, hln⟩, hrl⟩ := h
  obtain ⟨ro, tk, lv, fx, P⟩ := PH_of op _ _ _ _ _ _ _ _ h
  generalize nmL op = nm at *
  have hc1 : 1 ≤ cnt n := by rcases hn.cases with ⟨_, _, h⟩ | ⟨_, _, h⟩ | ⟨_, _, h⟩ | ⟨_, _, h⟩ <;> omega
  have hc16 : cnt n ≤ 16 := by rcases hn.cases with ⟨_, _, h⟩ | ⟨_, _, h⟩ | ⟨_, _, h⟩ | ⟨_, _, h⟩ <;> omega
  refine ⟨⟨ro, tk, lv, fx, P⟩, hrl, extF n true (splitF n alo ahi at_) % 2 ^ 32, 0, fun W va hb ha gi ci base hI => ?_, fun W va hb ha gi ci base hI => ?_⟩
  · have hcell : W.cell? ⟨gi, 0, none⟩ = some (.int .i64 at_) := by rw [hI.cellAt 0 (by decide)]; rfl
    have hgi : gi < W.heap.size := (hI.lt gi rfl).2
    refine Do_num32 op nm P.nm1 [101, 120, 116, 114, 97, 99, 116, 95, 108, 97, 110, 101] tf n tf n true P.par P.len P.l6 P.lb _ va W (hg.next hb) (fun W2 h2 => fits_says op P.lo P.kn [(at_ : Int)] (by rw [P.im]; rfl) (lane_in hat hln) [(123, alo, ahi, anl)] (by rw [P.la]; rfl) (by simp) (by simp) _ va base W2 ((hg.next hb).next h2) (ha.call h2) (own_below hI h2 (Nat.le_refl _))) _ (extF_lt n true _ (splitF_u64 hn _ _ _)) fun W2 h2 => ?_
    exact number_ext [101, 120, 116, 114, 97, 99, 116, 95, 108, 97, 110, 101] (by decide) (by decide) (by decide) tf n hn tf n true gi ci va at_ (cnt n) hc1 hat (splitF n alo ahi) (splitF_u64 hn _ _ _) W2 ((h2.cell (p := ⟨gi, 0, none⟩) hgi).trans hcell) (fun W3 h3 => operand_v [101, 120, 116, 114, 97, 99, 116, 95, 108, 97, 110, 101] tf n hn tf n true va _ 0 alo ahi anl rfl ha1 ha2 W3 ((ha.call h2).call h3))
  · have hcell : W.cell? ⟨gi, 0, none⟩ = some (.int .i64 at_) := by rw [hI.cellAt 0 (by decide)]; rfl
    have hgi : gi < W.heap.size := (hI.lt gi rfl).2
    exact RDo_c127 op P.lo ro nm tk lv fx P.of P.ro0 P.tk1 P.lv1 P.lv2 [(123, alo, ahi, anl)] P.tk2 (by simp) (by simp) va W ha gi ci hgi (fun _ => at_) (lane_one hcell (by rw [hrl]; omega)) (extF n true (splitF n alo ahi at_)) (extF_lt n true _ (splitF_u64 hn _ _ _)) (fun W' hb' => RDone_ch25 ro nm tk lv fx _ _ rfl P.wh P.len n hn P.bits _ va W' 0 _ 0 fun W2 hbw => chosen_xs n hn alo ahi anl ha1 ha2 gi ci at_ hat va W2 ((ha.call hb').call hbw) ((hbw.cell (p := ⟨gi, 0, none⟩) (Nat.lt_of_lt_of_le hgi hb'.size)).trans ((hb'.cell (p := ⟨gi, 0, none⟩) hgi).trans hcell)))
set_option maxHeartbeats 4000000 in
theorem agree_xu (op : Int) (n : Nat) (hn : Okn n) (tf : Bool) (at_ : Nat) (hat : at_ < cnt n) (h : (chkH op [123] 127 [101, 120, 116, 114, 97, 99, 116, 95, 108, 97, 110, 101] n tf false 25 [101, 120, 116, 114, 97, 99, 116, 95, 108, 97, 110, 101, 95, 117] && (lanesL op == ((cnt n : Nat) : Int)) && (refLanes (ofL op) == ((cnt n : Nat) : Int))) = true) (alo ahi : Nat) (anl : Bool) (ha1 : alo < 18446744073709551616) (ha2 : ahi < 18446744073709551616) (w : World) (hg : Glob w) :
    (∃ ro tk lv fx, PH op [123] 127 [101, 120, 116, 114, 97, 99, 116, 95, 108, 97, 110, 101] n tf false 25 [101, 120, 116, 114, 97, 99, 116, 95, 108, 97, 110, 101, 95, 117] ro (nmL op) tk lv fx) ∧ refLanes (ofL op) = ((cnt n : Nat) : Int) ∧ ∃ lo hi, (∀ W va, Below w.heap.size w W → AR W va [(123, alo, ahi, anl)] → ∀ gi ci base, W.ownsRow base 3 1 (.slice (some ⟨gi, 0, none⟩) 1 ci) 1 (ic ([(at_ : Int)])) → Calls Tryz.prog 20 #[.int .i64 op, .slice (some ⟨gi, 0, none⟩) 1 ci, va] W fun e w' => e = .returned (.tuple #[vv 127 lo hi false, .int .i64 0]) ∧ Below W.heap.size W w') ∧
      (∀ W va, Below w.heap.size w W → AR W va [(123, alo, ahi, anl)] → ∀ gi ci base, W.ownsRow base 3 1 (.slice (some ⟨gi, 0, none⟩) 1 ci) 1 (ic ([(at_ : Int)])) → Calls Tryz.prog 38 #[.int .i64 op, .slice (some ⟨gi, 0, none⟩) 1 ci, va] W fun e w' => e = .returned (.tuple #[vv 127 lo hi false, .int .i64 0]) ∧ Below W.heap.size W w') := by
  simp only [Bool.and_eq_true, beq_iff_eq] at h
  obtain ⟨⟨h, hln⟩, hrl⟩ := h
  obtain ⟨ro, tk, lv, fx, P⟩ := PH_of op _ _ _ _ _ _ _ _ h
  generalize nmL op = nm at *
  have hc1 : 1 ≤ cnt n := by rcases hn.cases with ⟨_, _, h⟩ | ⟨_, _, h⟩ | ⟨_, _, h⟩ | ⟨_, _, h⟩ <;> omega
  have hc16 : cnt n ≤ 16 := by rcases hn.cases with ⟨_, _, h⟩ | ⟨_, _, h⟩ | ⟨_, _, h⟩ | ⟨_, _, h⟩ <;> omega
  refine ⟨⟨ro, tk, lv, fx, P⟩, hrl, extF n false (splitF n alo ahi at_) % 2 ^ 32, 0, fun W va hb ha gi ci base hI => ?_, fun W va hb ha gi ci base hI => ?_⟩
  · have hcell : W.cell? ⟨gi, 0, none⟩ = some (.int .i64 at_) := by rw [hI.cellAt 0 (by decide)]; rfl
    have hgi : gi < W.heap.size := (hI.lt gi rfl).2
    refine Do_num32 op nm P.nm1 [101, 120, 116, 114, 97, 99, 116, 95, 108, 97, 110, 101] tf n tf n false P.par P.len P.l6 P.lb _ va W (hg.next hb) (fun W2 h2 => fits_says op P.lo P.kn [(at_ : Int)] (by rw [P.im]; rfl) (lane_in hat hln) [(123, alo, ahi, anl)] (by rw [P.la]; rfl) (by simp) (by simp) _ va base W2 ((hg.next hb).next h2) (ha.call h2) (own_below hI h2 (Nat.le_refl _))) _ (extF_lt n false _ (splitF_u64 hn _ _ _)) fun W2 h2 => ?_
    exact number_ext [101, 120, 116, 114, 97, 99, 116, 95, 108, 97, 110, 101] (by decide) (by decide) (by decide) tf n hn tf n false gi ci va at_ (cnt n) hc1 hat (splitF n alo ahi) (splitF_u64 hn _ _ _) W2 ((h2.cell (p := ⟨gi, 0, none⟩) hgi).trans hcell) (fun W3 h3 => operand_v [101, 120, 116, 114, 97, 99, 116, 95, 108, 97, 110, 101] tf n hn tf n false va _ 0 alo ahi anl rfl ha1 ha2 W3 ((ha.call h2).call h3))
  · have hcell : W.cell? ⟨gi, 0, none⟩ = some (.int .i64 at_) := by rw [hI.cellAt 0 (by decide)]; rfl
    have hgi : gi < W.heap.size := (hI.lt gi rfl).2
    exact RDo_c127 op P.lo ro nm tk lv fx P.of P.ro0 P.tk1 P.lv1 P.lv2 [(123, alo, ahi, anl)] P.tk2 (by simp) (by simp) va W ha gi ci hgi (fun _ => at_) (lane_one hcell (by rw [hrl]; omega)) (extF n false (splitF n alo ahi at_)) (extF_lt n false _ (splitF_u64 hn _ _ _)) (fun W' hb' => RDone_ch25 ro nm tk lv fx _ _ rfl P.wh P.len n hn P.bits _ va W' 0 _ 0 fun W2 hbw => chosen_xu n hn alo ahi anl ha1 ha2 gi ci at_ hat va W2 ((ha.call hb').call hbw) ((hbw.cell (p := ⟨gi, 0, none⟩) (Nat.lt_of_lt_of_le hgi hb'.size)).trans ((hb'.cell (p := ⟨gi, 0, none⟩) hgi).trans hcell)))
set_option maxHeartbeats 4000000 in
theorem agree_x127 (op : Int) (n : Nat) (hn : Okn n) (tf : Bool) (at_ : Nat) (hat : at_ < cnt n) (h : (chkH op [123] 127 [101, 120, 116, 114, 97, 99, 116, 95, 108, 97, 110, 101] n tf false 25 [101, 120, 116, 114, 97, 99, 116, 95, 108, 97, 110, 101] && (lanesL op == ((cnt n : Nat) : Int)) && (refLanes (ofL op) == ((cnt n : Nat) : Int))) = true) (alo ahi : Nat) (anl : Bool) (ha1 : alo < 18446744073709551616) (ha2 : ahi < 18446744073709551616) (w : World) (hg : Glob w) :
    (∃ ro tk lv fx, PH op [123] 127 [101, 120, 116, 114, 97, 99, 116, 95, 108, 97, 110, 101] n tf false 25 [101, 120, 116, 114, 97, 99, 116, 95, 108, 97, 110, 101] ro (nmL op) tk lv fx) ∧ refLanes (ofL op) = ((cnt n : Nat) : Int) ∧ ∃ lo hi, (∀ W va, Below w.heap.size w W → AR W va [(123, alo, ahi, anl)] → ∀ gi ci base, W.ownsRow base 3 1 (.slice (some ⟨gi, 0, none⟩) 1 ci) 1 (ic ([(at_ : Int)])) → Calls Tryz.prog 20 #[.int .i64 op, .slice (some ⟨gi, 0, none⟩) 1 ci, va] W fun e w' => e = .returned (.tuple #[vv 127 lo hi false, .int .i64 0]) ∧ Below W.heap.size W w') ∧
      (∀ W va, Below w.heap.size w W → AR W va [(123, alo, ahi, anl)] → ∀ gi ci base, W.ownsRow base 3 1 (.slice (some ⟨gi, 0, none⟩) 1 ci) 1 (ic ([(at_ : Int)])) → Calls Tryz.prog 38 #[.int .i64 op, .slice (some ⟨gi, 0, none⟩) 1 ci, va] W fun e w' => e = .returned (.tuple #[vv 127 lo hi false, .int .i64 0]) ∧ Below W.heap.size W w') := by
  simp only [Bool.and_eq_true, beq_iff_eq] at h
  obtain ⟨⟨h, hln⟩, hrl⟩ := h
  obtain ⟨ro, tk, lv, fx, P⟩ := PH_of op _ _ _ _ _ _ _ _ h
  generalize nmL op = nm at *
  have hc1 : 1 ≤ cnt n := by rcases hn.cases with ⟨_, _, h⟩ | ⟨_, _, h⟩ | ⟨_, _, h⟩ | ⟨_, _, h⟩ <;> omega
  have hc16 : cnt n ≤ 16 := by rcases hn.cases with ⟨_, _, h⟩ | ⟨_, _, h⟩ | ⟨_, _, h⟩ | ⟨_, _, h⟩ <;> omega
  refine ⟨⟨ro, tk, lv, fx, P⟩, hrl, extF n false (splitF n alo ahi at_) % 2 ^ 32, 0, fun W va hb ha gi ci base hI => ?_, fun W va hb ha gi ci base hI => ?_⟩
  · have hcell : W.cell? ⟨gi, 0, none⟩ = some (.int .i64 at_) := by rw [hI.cellAt 0 (by decide)]; rfl
    have hgi : gi < W.heap.size := (hI.lt gi rfl).2
    refine Do_num32 op nm P.nm1 [101, 120, 116, 114, 97, 99, 116, 95, 108, 97, 110, 101] tf n tf n false P.par P.len P.l6 P.lb _ va W (hg.next hb) (fun W2 h2 => fits_says op P.lo P.kn [(at_ : Int)] (by rw [P.im]; rfl) (lane_in hat hln) [(123, alo, ahi, anl)] (by rw [P.la]; rfl) (by simp) (by simp) _ va base W2 ((hg.next hb).next h2) (ha.call h2) (own_below hI h2 (Nat.le_refl _))) _ (extF_lt n false _ (splitF_u64 hn _ _ _)) fun W2 h2 => ?_
    exact number_ext [101, 120, 116, 114, 97, 99, 116, 95, 108, 97, 110, 101] (by decide) (by decide) (by decide) tf n hn tf n false gi ci va at_ (cnt n) hc1 hat (splitF n alo ahi) (splitF_u64 hn _ _ _) W2 ((h2.cell (p := ⟨gi, 0, none⟩) hgi).trans hcell) (fun W3 h3 => operand_v [101, 120, 116, 114, 97, 99, 116, 95, 108, 97, 110, 101] tf n hn tf n false va _ 0 alo ahi anl rfl ha1 ha2 W3 ((ha.call h2).call h3))
  · have hcell : W.cell? ⟨gi, 0, none⟩ = some (.int .i64 at_) := by rw [hI.cellAt 0 (by decide)]; rfl
    have hgi : gi < W.heap.size := (hI.lt gi rfl).2
    exact RDo_c127 op P.lo ro nm tk lv fx P.of P.ro0 P.tk1 P.lv1 P.lv2 [(123, alo, ahi, anl)] P.tk2 (by simp) (by simp) va W ha gi ci hgi (fun _ => at_) (lane_one hcell (by rw [hrl]; omega)) (extF n false (splitF n alo ahi at_)) (extF_lt n false _ (splitF_u64 hn _ _ _)) (fun W' hb' => RDone_ch25 ro nm tk lv fx _ _ rfl P.wh P.len n hn P.bits _ va W' 0 _ 0 fun W2 hbw => chosen_x n hn alo ahi anl ha1 ha2 gi ci at_ hat va W2 ((ha.call hb').call hbw) ((hbw.cell (p := ⟨gi, 0, none⟩) (Nat.lt_of_lt_of_le hgi hb'.size)).trans ((hb'.cell (p := ⟨gi, 0, none⟩) hgi).trans hcell)))
set_option maxHeartbeats 4000000 in
theorem agree_x126 (op : Int) (n : Nat) (hn : Okn n) (tf : Bool) (at_ : Nat) (hat : at_ < cnt n) (h : (chkH op [123] 126 [101, 120, 116, 114, 97, 99, 116, 95, 108, 97, 110, 101] n tf false 25 [101, 120, 116, 114, 97, 99, 116, 95, 108, 97, 110, 101] && (lanesL op == ((cnt n : Nat) : Int)) && (refLanes (ofL op) == ((cnt n : Nat) : Int))) = true) (alo ahi : Nat) (anl : Bool) (ha1 : alo < 18446744073709551616) (ha2 : ahi < 18446744073709551616) (w : World) (hg : Glob w) :
    (∃ ro tk lv fx, PH op [123] 126 [101, 120, 116, 114, 97, 99, 116, 95, 108, 97, 110, 101] n tf false 25 [101, 120, 116, 114, 97, 99, 116, 95, 108, 97, 110, 101] ro (nmL op) tk lv fx) ∧ refLanes (ofL op) = ((cnt n : Nat) : Int) ∧ ∃ lo hi, (∀ W va, Below w.heap.size w W → AR W va [(123, alo, ahi, anl)] → ∀ gi ci base, W.ownsRow base 3 1 (.slice (some ⟨gi, 0, none⟩) 1 ci) 1 (ic ([(at_ : Int)])) → Calls Tryz.prog 20 #[.int .i64 op, .slice (some ⟨gi, 0, none⟩) 1 ci, va] W fun e w' => e = .returned (.tuple #[vv 126 lo hi false, .int .i64 0]) ∧ Below W.heap.size W w') ∧
      (∀ W va, Below w.heap.size w W → AR W va [(123, alo, ahi, anl)] → ∀ gi ci base, W.ownsRow base 3 1 (.slice (some ⟨gi, 0, none⟩) 1 ci) 1 (ic ([(at_ : Int)])) → Calls Tryz.prog 38 #[.int .i64 op, .slice (some ⟨gi, 0, none⟩) 1 ci, va] W fun e w' => e = .returned (.tuple #[vv 126 lo hi false, .int .i64 0]) ∧ Below W.heap.size W w') := by
  simp only [Bool.and_eq_true, beq_iff_eq] at h
  obtain ⟨⟨h, hln⟩, hrl⟩ := h
  obtain ⟨ro, tk, lv, fx, P⟩ := PH_of op _ _ _ _ _ _ _ _ h
  generalize nmL op = nm at *
  have hc1 : 1 ≤ cnt n := by rcases hn.cases with ⟨_, _, h⟩ | ⟨_, _, h⟩ | ⟨_, _, h⟩ | ⟨_, _, h⟩ <;> omega
  have hc16 : cnt n ≤ 16 := by rcases hn.cases with ⟨_, _, h⟩ | ⟨_, _, h⟩ | ⟨_, _, h⟩ | ⟨_, _, h⟩ <;> omega
  refine ⟨⟨ro, tk, lv, fx, P⟩, hrl, extF n false (splitF n alo ahi at_), 0, fun W va hb ha gi ci base hI => ?_, fun W va hb ha gi ci base hI => ?_⟩
  · have hcell : W.cell? ⟨gi, 0, none⟩ = some (.int .i64 at_) := by rw [hI.cellAt 0 (by decide)]; rfl
    have hgi : gi < W.heap.size := (hI.lt gi rfl).2
    refine Do_num64 op nm P.nm1 [101, 120, 116, 114, 97, 99, 116, 95, 108, 97, 110, 101] tf n tf n false P.par P.len P.l6 P.lb _ va W (hg.next hb) (fun W2 h2 => fits_says op P.lo P.kn [(at_ : Int)] (by rw [P.im]; rfl) (lane_in hat hln) [(123, alo, ahi, anl)] (by rw [P.la]; rfl) (by simp) (by simp) _ va base W2 ((hg.next hb).next h2) (ha.call h2) (own_below hI h2 (Nat.le_refl _))) _ (extF_lt n false _ (splitF_u64 hn _ _ _)) fun W2 h2 => ?_
    exact number_ext [101, 120, 116, 114, 97, 99, 116, 95, 108, 97, 110, 101] (by decide) (by decide) (by decide) tf n hn tf n false gi ci va at_ (cnt n) hc1 hat (splitF n alo ahi) (splitF_u64 hn _ _ _) W2 ((h2.cell (p := ⟨gi, 0, none⟩) hgi).trans hcell) (fun W3 h3 => operand_v [101, 120, 116, 114, 97, 99, 116, 95, 108, 97, 110, 101] tf n hn tf n false va _ 0 alo ahi anl rfl ha1 ha2 W3 ((ha.call h2).call h3))
  · have hcell : W.cell? ⟨gi, 0, none⟩ = some (.int .i64 at_) := by rw [hI.cellAt 0 (by decide)]; rfl
    have hgi : gi < W.heap.size := (hI.lt gi rfl).2
    exact RDo_p126 op P.lo ro nm tk lv fx P.of P.ro0 P.tk1 P.lv1 P.lv2 [(123, alo, ahi, anl)] P.tk2 (by simp) (by simp) va W ha gi ci hgi (fun _ => at_) (lane_one hcell (by rw [hrl]; omega)) (extF n false (splitF n alo ahi at_)) 0 (fun W' hb' => RDone_ch25 ro nm tk lv fx _ _ rfl P.wh P.len n hn P.bits _ va W' 0 _ 0 fun W2 hbw => chosen_x n hn alo ahi anl ha1 ha2 gi ci at_ hat va W2 ((ha.call hb').call hbw) ((hbw.cell (p := ⟨gi, 0, none⟩) (Nat.lt_of_lt_of_le hgi hb'.size)).trans ((hb'.cell (p := ⟨gi, 0, none⟩) hgi).trans hcell)))
set_option maxHeartbeats 4000000 in
theorem agree_x125 (op : Int) (n : Nat) (hn : Okn n) (h32 : n ≤ 32) (tf : Bool) (at_ : Nat) (hat : at_ < cnt n) (h : (chkH op [123] 125 [101, 120, 116, 114, 97, 99, 116, 95, 108, 97, 110, 101] n tf false 25 [101, 120, 116, 114, 97, 99, 116, 95, 108, 97, 110, 101] && (lanesL op == ((cnt n : Nat) : Int)) && (refLanes (ofL op) == ((cnt n : Nat) : Int))) = true) (alo ahi : Nat) (anl : Bool) (ha1 : alo < 18446744073709551616) (ha2 : ahi < 18446744073709551616) (w : World) (hg : Glob w) :
    (∃ ro tk lv fx, PH op [123] 125 [101, 120, 116, 114, 97, 99, 116, 95, 108, 97, 110, 101] n tf false 25 [101, 120, 116, 114, 97, 99, 116, 95, 108, 97, 110, 101] ro (nmL op) tk lv fx) ∧ refLanes (ofL op) = ((cnt n : Nat) : Int) ∧ ∃ lo hi, (∀ W va, Below w.heap.size w W → AR W va [(123, alo, ahi, anl)] → ∀ gi ci base, W.ownsRow base 3 1 (.slice (some ⟨gi, 0, none⟩) 1 ci) 1 (ic ([(at_ : Int)])) → Calls Tryz.prog 20 #[.int .i64 op, .slice (some ⟨gi, 0, none⟩) 1 ci, va] W fun e w' => e = .returned (.tuple #[vv 125 lo hi false, .int .i64 0]) ∧ Below W.heap.size W w') ∧
      (∀ W va, Below w.heap.size w W → AR W va [(123, alo, ahi, anl)] → ∀ gi ci base, W.ownsRow base 3 1 (.slice (some ⟨gi, 0, none⟩) 1 ci) 1 (ic ([(at_ : Int)])) → Calls Tryz.prog 38 #[.int .i64 op, .slice (some ⟨gi, 0, none⟩) 1 ci, va] W fun e w' => e = .returned (.tuple #[vv 125 lo hi false, .int .i64 0]) ∧ Below W.heap.size W w') := by
  simp only [Bool.and_eq_true, beq_iff_eq] at h
  obtain ⟨⟨h, hln⟩, hrl⟩ := h
  obtain ⟨ro, tk, lv, fx, P⟩ := PH_of op _ _ _ _ _ _ _ _ h
  generalize nmL op = nm at *
  have hc1 : 1 ≤ cnt n := by rcases hn.cases with ⟨_, _, h⟩ | ⟨_, _, h⟩ | ⟨_, _, h⟩ | ⟨_, _, h⟩ <;> omega
  have hc16 : cnt n ≤ 16 := by rcases hn.cases with ⟨_, _, h⟩ | ⟨_, _, h⟩ | ⟨_, _, h⟩ | ⟨_, _, h⟩ <;> omega
  refine ⟨⟨ro, tk, lv, fx, P⟩, hrl, extF n false (splitF n alo ahi at_), 0, fun W va hb ha gi ci base hI => ?_, fun W va hb ha gi ci base hI => ?_⟩
  · have hcell : W.cell? ⟨gi, 0, none⟩ = some (.int .i64 at_) := by rw [hI.cellAt 0 (by decide)]; rfl
    have hgi : gi < W.heap.size := (hI.lt gi rfl).2
    refine Do_num125 op nm P.nm1 [101, 120, 116, 114, 97, 99, 116, 95, 108, 97, 110, 101] tf n tf n false P.par P.len P.l6 P.lb _ va W (hg.next hb) (fun W2 h2 => fits_says op P.lo P.kn [(at_ : Int)] (by rw [P.im]; rfl) (lane_in hat hln) [(123, alo, ahi, anl)] (by rw [P.la]; rfl) (by simp) (by simp) _ va base W2 ((hg.next hb).next h2) (ha.call h2) (own_below hI h2 (Nat.le_refl _))) _ (extF_lt n false _ (splitF_u64 hn _ _ _)) fun W2 h2 => ?_
    exact number_ext [101, 120, 116, 114, 97, 99, 116, 95, 108, 97, 110, 101] (by decide) (by decide) (by decide) tf n hn tf n false gi ci va at_ (cnt n) hc1 hat (splitF n alo ahi) (splitF_u64 hn _ _ _) W2 ((h2.cell (p := ⟨gi, 0, none⟩) hgi).trans hcell) (fun W3 h3 => operand_v [101, 120, 116, 114, 97, 99, 116, 95, 108, 97, 110, 101] tf n hn tf n false va _ 0 alo ahi anl rfl ha1 ha2 W3 ((ha.call h2).call h3))
  · have hcell : W.cell? ⟨gi, 0, none⟩ = some (.int .i64 at_) := by rw [hI.cellAt 0 (by decide)]; rfl
    have hgi : gi < W.heap.size := (hI.lt gi rfl).2
    have h := RDo_c125 op P.lo ro nm tk lv fx P.of P.ro0 P.tk1 P.lv1 P.lv2 [(123, alo, ahi, anl)] P.tk2 (by simp) (by simp) va W ha gi ci hgi (fun _ => at_) (lane_one hcell (by rw [hrl]; omega)) (extF n false (splitF n alo ahi at_)) (extF_lt n false _ (splitF_u64 hn _ _ _)) (fun W' hb' => RDone_ch25 ro nm tk lv fx _ _ rfl P.wh P.len n hn P.bits _ va W' 0 _ 0 fun W2 hbw => chosen_x n hn alo ahi anl ha1 ha2 gi ci at_ hat va W2 ((ha.call hb').call hbw) ((hbw.cell (p := ⟨gi, 0, none⟩) (Nat.lt_of_lt_of_le hgi hb'.size)).trans ((hb'.cell (p := ⟨gi, 0, none⟩) hgi).trans hcell)))
    rw [show (extF n false (splitF n alo ahi at_)) % 2 ^ 32 = extF n false (splitF n alo ahi at_) from Nat.mod_eq_of_lt (Nat.lt_of_lt_of_le (splitF_lt n alo ahi at_) (Nat.pow_le_pow_right (by decide) h32))] at h
    exact h
set_option maxHeartbeats 4000000 in
theorem agree_x124 (op : Int) (n : Nat) (hn : Okn n) (tf : Bool) (at_ : Nat) (hat : at_ < cnt n) (h : (chkH op [123] 124 [101, 120, 116, 114, 97, 99, 116, 95, 108, 97, 110, 101] n tf false 25 [101, 120, 116, 114, 97, 99, 116, 95, 108, 97, 110, 101] && (lanesL op == ((cnt n : Nat) : Int)) && (refLanes (ofL op) == ((cnt n : Nat) : Int))) = true) (alo ahi : Nat) (anl : Bool) (ha1 : alo < 18446744073709551616) (ha2 : ahi < 18446744073709551616) (w : World) (hg : Glob w) :
    (∃ ro tk lv fx, PH op [123] 124 [101, 120, 116, 114, 97, 99, 116, 95, 108, 97, 110, 101] n tf false 25 [101, 120, 116, 114, 97, 99, 116, 95, 108, 97, 110, 101] ro (nmL op) tk lv fx) ∧ refLanes (ofL op) = ((cnt n : Nat) : Int) ∧ ∃ lo hi, (∀ W va, Below w.heap.size w W → AR W va [(123, alo, ahi, anl)] → ∀ gi ci base, W.ownsRow base 3 1 (.slice (some ⟨gi, 0, none⟩) 1 ci) 1 (ic ([(at_ : Int)])) → Calls Tryz.prog 20 #[.int .i64 op, .slice (some ⟨gi, 0, none⟩) 1 ci, va] W fun e w' => e = .returned (.tuple #[vv 124 lo hi false, .int .i64 0]) ∧ Below W.heap.size W w') ∧
      (∀ W va, Below w.heap.size w W → AR W va [(123, alo, ahi, anl)] → ∀ gi ci base, W.ownsRow base 3 1 (.slice (some ⟨gi, 0, none⟩) 1 ci) 1 (ic ([(at_ : Int)])) → Calls Tryz.prog 38 #[.int .i64 op, .slice (some ⟨gi, 0, none⟩) 1 ci, va] W fun e w' => e = .returned (.tuple #[vv 124 lo hi false, .int .i64 0]) ∧ Below W.heap.size W w') := by
  simp only [Bool.and_eq_true, beq_iff_eq] at h
  obtain ⟨⟨h, hln⟩, hrl⟩ := h
  obtain ⟨ro, tk, lv, fx, P⟩ := PH_of op _ _ _ _ _ _ _ _ h
  generalize nmL op = nm at *
  have hc1 : 1 ≤ cnt n := by rcases hn.cases with ⟨_, _, h⟩ | ⟨_, _, h⟩ | ⟨_, _, h⟩ | ⟨_, _, h⟩ <;> omega
  have hc16 : cnt n ≤ 16 := by rcases hn.cases with ⟨_, _, h⟩ | ⟨_, _, h⟩ | ⟨_, _, h⟩ | ⟨_, _, h⟩ <;> omega
  refine ⟨⟨ro, tk, lv, fx, P⟩, hrl, extF n false (splitF n alo ahi at_), 0, fun W va hb ha gi ci base hI => ?_, fun W va hb ha gi ci base hI => ?_⟩
  · have hcell : W.cell? ⟨gi, 0, none⟩ = some (.int .i64 at_) := by rw [hI.cellAt 0 (by decide)]; rfl
    have hgi : gi < W.heap.size := (hI.lt gi rfl).2
    refine Do_num124 op nm P.nm1 [101, 120, 116, 114, 97, 99, 116, 95, 108, 97, 110, 101] tf n tf n false P.par P.len P.l6 P.lb _ va W (hg.next hb) (fun W2 h2 => fits_says op P.lo P.kn [(at_ : Int)] (by rw [P.im]; rfl) (lane_in hat hln) [(123, alo, ahi, anl)] (by rw [P.la]; rfl) (by simp) (by simp) _ va base W2 ((hg.next hb).next h2) (ha.call h2) (own_below hI h2 (Nat.le_refl _))) _ (extF_lt n false _ (splitF_u64 hn _ _ _)) fun W2 h2 => ?_
    exact number_ext [101, 120, 116, 114, 97, 99, 116, 95, 108, 97, 110, 101] (by decide) (by decide) (by decide) tf n hn tf n false gi ci va at_ (cnt n) hc1 hat (splitF n alo ahi) (splitF_u64 hn _ _ _) W2 ((h2.cell (p := ⟨gi, 0, none⟩) hgi).trans hcell) (fun W3 h3 => operand_v [101, 120, 116, 114, 97, 99, 116, 95, 108, 97, 110, 101] tf n hn tf n false va _ 0 alo ahi anl rfl ha1 ha2 W3 ((ha.call h2).call h3))
  · have hcell : W.cell? ⟨gi, 0, none⟩ = some (.int .i64 at_) := by rw [hI.cellAt 0 (by decide)]; rfl
    have hgi : gi < W.heap.size := (hI.lt gi rfl).2
    exact RDo_p124 op P.lo ro nm tk lv fx P.of P.ro0 P.tk1 P.lv1 P.lv2 [(123, alo, ahi, anl)] P.tk2 (by simp) (by simp) va W ha gi ci hgi (fun _ => at_) (lane_one hcell (by rw [hrl]; omega)) (extF n false (splitF n alo ahi at_)) 0 (fun W' hb' => RDone_ch25 ro nm tk lv fx _ _ rfl P.wh P.len n hn P.bits _ va W' 0 _ 0 fun W2 hbw => chosen_x n hn alo ahi anl ha1 ha2 gi ci at_ hat va W2 ((ha.call hb').call hbw) ((hbw.cell (p := ⟨gi, 0, none⟩) (Nat.lt_of_lt_of_le hgi hb'.size)).trans ((hb'.cell (p := ⟨gi, 0, none⟩) hgi).trans hcell)))
set_option maxHeartbeats 4000000 in
theorem agree_rep (op : Int) (n : Nat) (hn : Okn n) (tf : Bool) (T : Int) (hT : (T == 123) = false) (at_ : Nat) (hat : at_ < cnt n) (h : (chkH op [123, T] 123 [114, 101, 112, 108, 97, 99, 101, 95, 108, 97, 110, 101] n tf false 25 [114, 101, 112, 108, 97, 99, 101, 95, 108, 97, 110, 101] && (lanesL op == ((cnt n : Nat) : Int)) && (refLanes (ofL op) == ((cnt n : Nat) : Int))) = true) (alo ahi : Nat) (anl : Bool) (ha1 : alo < 18446744073709551616) (ha2 : ahi < 18446744073709551616) (nn : Nat) (hnn : nn < 18446744073709551616) (w : World) (hg : Glob w) :
    (∃ ro tk lv fx, PH op [123, T] 123 [114, 101, 112, 108, 97, 99, 101, 95, 108, 97, 110, 101] n tf false 25 [114, 101, 112, 108, 97, 99, 101, 95, 108, 97, 110, 101] ro (nmL op) tk lv fx) ∧ refLanes (ofL op) = ((cnt n : Nat) : Int) ∧ ∃ lo hi, (∀ W va, Below w.heap.size w W → AR W va [(123, alo, ahi, anl), (T, nn, 0, false)] → ∀ gi ci base, W.ownsRow base 3 1 (.slice (some ⟨gi, 0, none⟩) 1 ci) 1 (ic ([(at_ : Int)])) → Calls Tryz.prog 20 #[.int .i64 op, .slice (some ⟨gi, 0, none⟩) 1 ci, va] W fun e w' => e = .returned (.tuple #[vv 123 lo hi false, .int .i64 0]) ∧ Below W.heap.size W w') ∧
      (∀ W va, Below w.heap.size w W → AR W va [(123, alo, ahi, anl), (T, nn, 0, false)] → ∀ gi ci base, W.ownsRow base 3 1 (.slice (some ⟨gi, 0, none⟩) 1 ci) 1 (ic ([(at_ : Int)])) → Calls Tryz.prog 38 #[.int .i64 op, .slice (some ⟨gi, 0, none⟩) 1 ci, va] W fun e w' => e = .returned (.tuple #[vv 123 lo hi false, .int .i64 0]) ∧ Below W.heap.size W w') := by
  simp only [Bool.and_eq_true, beq_iff_eq] at h
  obtain ⟨⟨h, hln⟩, hrl⟩ := h
  obtain ⟨ro, tk, lv, fx, P⟩ := PH_of op _ _ _ _ _ _ _ _ h
  generalize nmL op = nm at *
  have hc1 : 1 ≤ cnt n := by rcases hn.cases with ⟨_, _, h⟩ | ⟨_, _, h⟩ | ⟨_, _, h⟩ | ⟨_, _, h⟩ <;> omega
  have hc16 : cnt n ≤ 16 := by rcases hn.cases with ⟨_, _, h⟩ | ⟨_, _, h⟩ | ⟨_, _, h⟩ | ⟨_, _, h⟩ <;> omega
  refine ⟨⟨ro, tk, lv, fx, P⟩, hrl, loF n (fun i => if i = at_ then nn else splitF n alo ahi i), hiF n (fun i => if i = at_ then nn else splitF n alo ahi i), fun W va hb ha gi ci base hI => ?_, fun W va hb ha gi ci base hI => ?_⟩
  · have hcell : W.cell? ⟨gi, 0, none⟩ = some (.int .i64 at_) := by rw [hI.cellAt 0 (by decide)]; rfl
    have hgi : gi < W.heap.size := (hI.lt gi rfl).2
    refine Do_vec op nm P.nm1 [114, 101, 112, 108, 97, 99, 101, 95, 108, 97, 110, 101] tf n tf n hn false P.par P.len P.l6 P.lb _ va W (hg.next hb) ?_ (fun i => if i = at_ then nn else splitF n alo ahi i) ?_ ?_
    · intro W2 h2
      exact fits_says op P.lo P.kn [(at_ : Int)] (by rw [P.im]; rfl) (lane_in hat hln) [(123, alo, ahi, anl), (T, nn, 0, false)] (by rw [P.la]; rfl) (by simp) (by simp) _ va base W2 ((hg.next hb).next h2) (ha.call h2) (own_below hI h2 (Nat.le_refl _))
    · intro i _
      show (if _ then _ else _) < _
      split
      · exact hnn
      · exact splitF_u64 hn _ _ _
    · intro W2 h2
      exact vector_rep tf n tf n false gi ci va at_ (cnt n) hc1 hc16 hat (splitF n alo ahi) nn W2 ((h2.cell (p := ⟨gi, 0, none⟩) hgi).trans hcell) (fun W3 h3 => operand_v [114, 101, 112, 108, 97, 99, 101, 95, 108, 97, 110, 101] tf n hn tf n false va _ 0 alo ahi anl rfl ha1 ha2 W3 ((ha.call h2).call h3)) (fun W3 h3 => operand_n1 [114, 101, 112, 108, 97, 99, 101, 95, 108, 97, 110, 101] tf n hn tf n false va _ T nn hT rfl W3 ((ha.call h2).call h3))
  · have hcell : W.cell? ⟨gi, 0, none⟩ = some (.int .i64 at_) := by rw [hI.cellAt 0 (by decide)]; rfl
    have hgi : gi < W.heap.size := (hI.lt gi rfl).2
    refine RDo_vec1 op P.lo ro nm tk lv fx P.of P.ro0 P.tk1 P.lv1 P.lv2 [(123, alo, ahi, anl), (T, nn, 0, false)] P.tk2 (by simp) (by simp) va W ha gi ci hgi (fun _ => at_) (lane_one hcell (by rw [hrl]; omega)) _ _ fun W' hb' => ?_
    refine RDone_ch25 ro nm tk lv fx _ _ rfl P.wh P.len n hn P.bits _ va W' 123 _ _ fun W2 hbw => ?_
    exact chosen_rep n hn alo ahi anl ha1 ha2 T nn hnn gi ci at_ hat va W2 ((ha.call hb').call hbw) ((hbw.cell (p := ⟨gi, 0, none⟩) (Nat.lt_of_lt_of_le hgi hb'.size)).trans ((hb'.cell (p := ⟨gi, 0, none⟩) hgi).trans hcell))
def LChooses : List Int := [13, 14, 15, 16, 17, 18, 19, 20, 21, 22, 23, 24, 25, 26, 27, 28, 29, 30, 31, 32, 33, 34]
end Go.Proofs.YtlhakbkdlgejpaaGreatDoor
