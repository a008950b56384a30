/-
  LBAgree: merged, what the law does not reach left out (each text says what it holds where it lies in wip). No condition.
-/
import Derived.Test.YtlhakbkdlgejpaaGreatDoorK25
import Derived.Test.YtlhakbkdlgejpaaGreatDoorK26
import Derived.Test.YtlhakbkdlgejpaaGreatDoorK19
import Derived.Test.YtlhakbkdlgejpaaGreatDoorK23
set_option linter.unusedSimpArgs false
set_option linter.unusedVariables false
set_option maxRecDepth 100000
namespace Go.Proofs.YtlhakbkdlgejpaaGreatDoor
open Go.RowKit
noncomputable def chkB (op : Int) (tys : List Int) (res : Int) (vb : List UInt8) (n bi : Nat) : Bool :=
  knB (lineL op) && decide (64768 ≤ op) && decide (op < 65024) && ((lineL op).2.1 == 0) && (laL op == tys) && (lbL op == [res]) && decide ((nmL op).length ≤ 1000) && ((xsL (nmL op)).2 == 0) && (verbL (nmL op) == vb) && (fromL (nmL op) == (false, (n : Int))) && (toL (nmL op) == (false, (n : Int))) && (sgL (nmL op) == false) &&
  decide (0 ≤ (ofL op).1) && ((ofL op).2.1 == nmL op) && ((ofL op).2.2.1 == 0) && decide ((ofL op).2.2.2.1.length ≤ 100) && decide ((ofL op).2.2.2.2.1.length ≤ 100) && (tyL (ofL op).2.2.2.1 == tys) && (tyL (ofL op).2.2.2.2.1 == [res]) && (biL (headC (nmL op) 46) == (bi : Int))
structure PB (op : Int) (tys : List Int) (res : Int) (vb : List UInt8) (n bi : Nat) (ro : Int) (nm tk lv : List UInt8) (fx : Bool) : Prop where
  kn : knB (lineL op) = true
  lo : 64768 ≤ op
  hi : op < 65024
  im : (lineL op).2.1 = 0
  la : laL op = tys
  lb : lbL op = [res]
  len : nm.length ≤ 1000
  l6 : ((xsL nm).2 == 0) = false → 0 ≤ laL6 nm
  par : parV nm = insV vb false n false n false
  nm1 : (lineL op).1 = str nm
  of : ofL op = (ro, nm, 0, tk, lv, fx)
  ro0 : 0 ≤ ro
  tk1 : tk.length ≤ 100
  lv1 : lv.length ≤ 100
  tk2 : tyL tk = tys
  lv2 : tyL lv = [res]
  bits : biL (headC nm 46) = bi
theorem PB_of (op : Int) (tys : List Int) (res : Int) (vb : List UInt8) (n bi : Nat) (h : chkB op tys res vb n bi = true) : ∃ ro tk lv fx, PB op tys res vb n bi ro (nmL op) tk lv fx := by
  unfold chkB at h
  have e1 : (lineL op).1 = str (nmL op) := (list_str _).symm
  generalize nmL op = nm at *
  obtain ⟨⟨ro, nm', im, tk, lv, fx⟩, hr⟩ : ∃ r, ofL op = r := ⟨_, rfl⟩
  rw [hr] at h
  simp only [Bool.and_eq_true, decide_eq_true_eq, beq_iff_eq] at h
  obtain ⟨⟨⟨⟨⟨⟨⟨⟨⟨⟨⟨⟨⟨⟨⟨⟨⟨⟨⟨a1, a2⟩, a3⟩, a4⟩, a5⟩, a6⟩, a7⟩, a8⟩, a9⟩, b1⟩, b2⟩, b3⟩, b4⟩, b5⟩, b6⟩, b7⟩, b8⟩, b9⟩, c1⟩, c4⟩ := h
  subst b5
  subst b6
  refine ⟨ro, tk, lv, fx, a1, a2, a3, a4, a5, a6, a7, (fun hh => by rw [a8] at hh; cases hh), ?_, e1, hr, b4, b7, b8, b9, c1, c4⟩
  unfold parV
  rw [a9, b1, b2, b3]
theorem each2_word (f : Nat → Nat → Nat) (k : Nat) (hk : k ≤ 5) (al ah bl bh : Nat) (h1 : al < 18446744073709551616) (h2 : ah < 18446744073709551616) (h3 : bl < 18446744073709551616) (h4 : bh < 18446744073709551616) (hf : ∀ x y, x < 18446744073709551616 → y < 18446744073709551616 → f x y = wordB k x y x) :
    loF 64 (fun i => f (splitF 64 al ah i) (splitF 64 bl bh i)) = wordB k al bl al ∧ hiF 64 (fun i => f (splitF 64 al ah i) (splitF 64 bl bh i)) = wordB k ah bh ah := by
  have s1 := split64 al ah h1 h2
  have s2 := split64 bl bh h3 h4
  have e0 : f (splitF 64 al ah 0) (splitF 64 bl bh 0) = wordB k al bl al := by rw [s1.1, s2.1, hf _ _ h1 h3]
  have e1 : f (splitF 64 al ah 1) (splitF 64 bl bh 1) = wordB k ah bh ah := by rw [s1.2, s2.2, hf _ _ h2 h4]
  have := pack64 (fun i => f (splitF 64 al ah i) (splitF 64 bl bh i)) (by rw [e0]; exact wordB_lt k hk _ _ _ h1 h3 h1) (by rw [e1]; exact wordB_lt k hk _ _ _ h2 h4 h2)
  rw [this.1, this.2, e0, e1]
  exact ⟨rfl, rfl⟩
theorem not_word (al ah : Nat) (h1 : al < 18446744073709551616) (h2 : ah < 18446744073709551616) :
    loF 64 (fun i => (fun x _ => 18446744073709551615 - x : Nat → Nat → Nat) (splitF 64 al ah i) 0) = wordB 0 al al al ∧ hiF 64 (fun i => (fun x _ => 18446744073709551615 - x : Nat → Nat → Nat) (splitF 64 al ah i) 0) = wordB 0 ah ah ah :=
  each2_word (fun x _ => 18446744073709551615 - x) 0 (by decide) al ah al ah h1 h2 h1 h2 (fun x y _ _ => rfl)
theorem sel_word (al ah bl bh cl ch : Nat) (h1 : al < 18446744073709551616) (h2 : ah < 18446744073709551616) (h3 : bl < 18446744073709551616) (h4 : bh < 18446744073709551616) (h5 : cl < 18446744073709551616) (h6 : ch < 18446744073709551616) :
    loF 64 (fun i => selN (splitF 64 al ah i) (splitF 64 bl bh i) (splitF 64 cl ch i)) = wordB 5 al bl cl ∧ hiF 64 (fun i => selN (splitF 64 al ah i) (splitF 64 bl bh i) (splitF 64 cl ch i)) = wordB 5 ah bh ch := by
  have s1 := split64 al ah h1 h2
  have s2 := split64 bl bh h3 h4
  have s3 := split64 cl ch h5 h6
  have e0 : selN (splitF 64 al ah 0) (splitF 64 bl bh 0) (splitF 64 cl ch 0) = wordB 5 al bl cl := by rw [s1.1, s2.1, s3.1]; rfl
  have e1 : selN (splitF 64 al ah 1) (splitF 64 bl bh 1) (splitF 64 cl ch 1) = wordB 5 ah bh ch := by rw [s1.2, s2.2, s3.2]; rfl
  have := pack64 (fun i => selN (splitF 64 al ah i) (splitF 64 bl bh i) (splitF 64 cl ch i)) (by rw [e0]; exact wordB_lt 5 (by decide) _ _ _ h1 h3 h5) (by rw [e1]; exact wordB_lt 5 (by decide) _ _ _ h2 h4 h6)
  rw [this.1, this.2, e0, e1]
  exact ⟨rfl, rfl⟩
set_option maxHeartbeats 4000000 in
theorem agree_not (op : Int) (h : (chkB op [123] 123 [110, 111, 116] 64 0 && (plL WHO (tailC (nmL op) 46) 0 == 0) && ((tailC (nmL op) 46 == [97, 110, 121, 95, 116, 114, 117, 101]) == false)) = true) (alo ahi : Nat) (anl : Bool) (ha1 : alo < 18446744073709551616) (ha2 : ahi < 18446744073709551616) (w : World) (hg : Glob w) :
    (∃ ro tk lv fx, PB op [123] 123 [110, 111, 116] 64 0 ro (nmL op) tk lv fx) ∧ ∃ lo hi, (∀ W va, Below w.heap.size w W → AR W va [(123, alo, ahi, anl)] → Calls Tryz.prog 20 #[.int .i64 op, .slice none 0 0, va] W fun e w' => e = .returned (.tuple #[vv 123 lo hi false, .int .i64 0]) ∧ Below W.heap.size W w') ∧
      (∀ W va, Below w.heap.size w W → AR W va [(123, alo, ahi, anl)] → Calls Tryz.prog 38 #[.int .i64 op, .slice none 0 0, va] W fun e w' => e = .returned (.tuple #[vv 123 lo hi false, .int .i64 0]) ∧ Below W.heap.size W w') := by
  simp only [Bool.and_eq_true, beq_iff_eq] at h
  obtain ⟨⟨h, hpl⟩, hany⟩ := h
  obtain ⟨ro, tk, lv, fx, P⟩ := PB_of op _ _ _ _ _ h
  generalize nmL op = nm at *
  have hn : Okn 64 := by decide
  refine ⟨⟨ro, tk, lv, fx, P⟩, wordB 0 alo alo alo, wordB 0 ahi ahi ahi, fun W va hb ha => ?_, fun W va hb ha => ?_⟩
  · have h := Do_each1 op nm [110, 111, 116] 64 hn false false 64 false P.nm1 P.par P.len P.l6 P.lo P.kn P.im P.la P.lb (by decide) _ (fun W => operation_not false 64 false 64 false W) (fun x y _ _ => by omega) alo ahi anl ha1 ha2 W (hg.next hb) va ha
    rw [(not_word alo ahi ha1 ha2).1, (not_word alo ahi ha1 ha2).2] at h
    exact h
  · refine RDo_vec op P.lo ro nm tk lv fx P.of P.ro0 P.tk1 P.lv1 P.lv2 [(123, alo, ahi, anl)] P.tk2 (by simp) (by simp) va W ha _ _ fun W' hb' => ?_
    refine RDone_whole (ro, nm, 0, tk, lv, fx) _ _ rfl rfl P.len (by simpa using P.bits) (.slice none 0 0) va W' 123 _ _ fun W2 hbw => ?_
    have h := whole_1 0 (by decide) (tailC nm 46) (by rw [hpl]; rfl) (by rw [hany]; rfl) alo ahi anl ha1 ha2 W2 va ((ha.call hb').call hbw)
    rw [if_neg (by decide), who_lo 0 (by decide) _ _ _ _ _ _ ha1 ha1 ha1, who_hi 0 (by decide) _ _ _ _ _ _ ha2 ha2 ha2] at h
    exact h
set_option maxHeartbeats 4000000 in
theorem agree_andnot (op : Int) (h : (chkB op [123, 123] 123 [97, 110, 100, 110, 111, 116] 64 0 && (plL WHO (tailC (nmL op) 46) 0 == 2) && ((tailC (nmL op) 46 == [97, 110, 121, 95, 116, 114, 117, 101]) == false)) = true) (alo ahi : Nat) (anl : Bool) (ha1 : alo < 18446744073709551616) (ha2 : ahi < 18446744073709551616) (blo bhi : Nat) (bnl : Bool) (hb1 : blo < 18446744073709551616) (hb2 : bhi < 18446744073709551616) (w : World) (hg : Glob w) :
    (∃ ro tk lv fx, PB op [123, 123] 123 [97, 110, 100, 110, 111, 116] 64 0 ro (nmL op) tk lv fx) ∧ ∃ lo hi, (∀ W va, Below w.heap.size w W → AR W va [(123, alo, ahi, anl), (123, blo, bhi, bnl)] → Calls Tryz.prog 20 #[.int .i64 op, .slice none 0 0, va] W fun e w' => e = .returned (.tuple #[vv 123 lo hi false, .int .i64 0]) ∧ Below W.heap.size W w') ∧
      (∀ W va, Below w.heap.size w W → AR W va [(123, alo, ahi, anl), (123, blo, bhi, bnl)] → Calls Tryz.prog 38 #[.int .i64 op, .slice none 0 0, va] W fun e w' => e = .returned (.tuple #[vv 123 lo hi false, .int .i64 0]) ∧ Below W.heap.size W w') := by
  simp only [Bool.and_eq_true, beq_iff_eq] at h
  obtain ⟨⟨h, hpl⟩, hany⟩ := h
  obtain ⟨ro, tk, lv, fx, P⟩ := PB_of op _ _ _ _ _ h
  generalize nmL op = nm at *
  have hn : Okn 64 := by decide
  refine ⟨⟨ro, tk, lv, fx, P⟩, wordB 2 alo blo alo, wordB 2 ahi bhi ahi, fun W va hb ha => ?_, fun W va hb ha => ?_⟩
  · have h := Do_each2 op nm [97, 110, 100, 110, 111, 116] 64 hn false false 64 false P.nm1 P.par P.len P.l6 P.lo P.kn P.im P.la P.lb (by decide) (fun x y => x &&& (18446744073709551615 - y)) (fun W => operation_andnot false 64 false 64 false W) (fun x y hx _ => Nat.lt_of_le_of_lt Nat.and_le_left hx) alo ahi blo bhi anl bnl ha1 ha2 hb1 hb2 W (hg.next hb) va ha
    have e := each2_word (fun x y => x &&& (18446744073709551615 - y)) 2 (by decide) alo ahi blo bhi ha1 ha2 hb1 hb2 (fun x y _ _ => rfl)
    rw [e.1, e.2] at h
    exact h
  · refine RDo_vec op P.lo ro nm tk lv fx P.of P.ro0 P.tk1 P.lv1 P.lv2 [(123, alo, ahi, anl), (123, blo, bhi, bnl)] P.tk2 (by simp) (by simp) va W ha _ _ fun W' hb' => ?_
    refine RDone_whole (ro, nm, 0, tk, lv, fx) _ _ rfl rfl P.len (by simpa using P.bits) (.slice none 0 0) va W' 123 _ _ fun W2 hbw => ?_
    have h := whole_2 2 (by decide) (tailC nm 46) (by rw [hpl]; rfl) (by rw [hany]; rfl) alo ahi anl ha1 ha2 blo bhi bnl hb1 hb2 W2 va ((ha.call hb').call hbw)
    rw [if_neg (by decide), who_lo 2 (by decide) _ _ _ _ _ _ ha1 hb1 ha1, who_hi 2 (by decide) _ _ _ _ _ _ ha2 hb2 ha2] at h
    exact h
set_option maxHeartbeats 4000000 in
theorem agree_and (op : Int) (h : (chkB op [123, 123] 123 [97, 110, 100] 64 0 && (plL WHO (tailC (nmL op) 46) 0 == 1) && ((tailC (nmL op) 46 == [97, 110, 121, 95, 116, 114, 117, 101]) == false)) = true) (alo ahi : Nat) (anl : Bool) (ha1 : alo < 18446744073709551616) (ha2 : ahi < 18446744073709551616) (blo bhi : Nat) (bnl : Bool) (hb1 : blo < 18446744073709551616) (hb2 : bhi < 18446744073709551616) (w : World) (hg : Glob w) :
    (∃ ro tk lv fx, PB op [123, 123] 123 [97, 110, 100] 64 0 ro (nmL op) tk lv fx) ∧ ∃ lo hi, (∀ W va, Below w.heap.size w W → AR W va [(123, alo, ahi, anl), (123, blo, bhi, bnl)] → Calls Tryz.prog 20 #[.int .i64 op, .slice none 0 0, va] W fun e w' => e = .returned (.tuple #[vv 123 lo hi false, .int .i64 0]) ∧ Below W.heap.size W w') ∧
      (∀ W va, Below w.heap.size w W → AR W va [(123, alo, ahi, anl), (123, blo, bhi, bnl)] → Calls Tryz.prog 38 #[.int .i64 op, .slice none 0 0, va] W fun e w' => e = .returned (.tuple #[vv 123 lo hi false, .int .i64 0]) ∧ Below W.heap.size W w') := by
  simp only [Bool.and_eq_true, beq_iff_eq] at h
  obtain ⟨⟨h, hpl⟩, hany⟩ := h
  obtain ⟨ro, tk, lv, fx, P⟩ := PB_of op _ _ _ _ _ h
  generalize nmL op = nm at *
  have hn : Okn 64 := by decide
  refine ⟨⟨ro, tk, lv, fx, P⟩, wordB 1 alo blo alo, wordB 1 ahi bhi ahi, fun W va hb ha => ?_, fun W va hb ha => ?_⟩
  · have hf : ∀ x y, x < 18446744073709551616 → y < 18446744073709551616 → (fun x y => (binA 64 8 x y).1) x y = wordB 1 x y x := fun x y hx hy => by
      show (binA 64 8 x y).1 = _
      unfold binA
      rw [if_pos ⟨by decide, by decide, by decide, by decide⟩]
      rw [show x % 2 ^ (64 : Int).toNat = x from Nat.mod_eq_of_lt (by simpa using hx), show y % 2 ^ (64 : Int).toNat = y from Nat.mod_eq_of_lt (by simpa using hy)]
      rfl
    have h := Do_each2 op nm [97, 110, 100] 64 hn false false 64 false P.nm1 P.par P.len P.l6 P.lo P.kn P.im P.la P.lb (by decide) (fun x y => (binA 64 8 x y).1) (fun W => operation_bin_i [97, 110, 100] false 64 64 false 8 (by decide +kernel) (by decide +kernel) (by decide +kernel) _ (Two_int 64 8) (by decide) (by decide) W) (fun x y _ _ => binA_lt 64 hn 8 x y) alo ahi blo bhi anl bnl ha1 ha2 hb1 hb2 W (hg.next hb) va ha
    have e := each2_word (fun x y => (binA 64 8 x y).1) 1 (by decide) alo ahi blo bhi ha1 ha2 hb1 hb2 hf
    rw [e.1, e.2] at h
    exact h
  · refine RDo_vec op P.lo ro nm tk lv fx P.of P.ro0 P.tk1 P.lv1 P.lv2 [(123, alo, ahi, anl), (123, blo, bhi, bnl)] P.tk2 (by simp) (by simp) va W ha _ _ fun W' hb' => ?_
    refine RDone_whole (ro, nm, 0, tk, lv, fx) _ _ rfl rfl P.len (by simpa using P.bits) (.slice none 0 0) va W' 123 _ _ fun W2 hbw => ?_
    have h := whole_2 1 (by decide) (tailC nm 46) (by rw [hpl]; rfl) (by rw [hany]; rfl) alo ahi anl ha1 ha2 blo bhi bnl hb1 hb2 W2 va ((ha.call hb').call hbw)
    rw [if_neg (by decide), who_lo 1 (by decide) _ _ _ _ _ _ ha1 hb1 ha1, who_hi 1 (by decide) _ _ _ _ _ _ ha2 hb2 ha2] at h
    exact h
set_option maxHeartbeats 4000000 in
theorem agree_or (op : Int) (h : (chkB op [123, 123] 123 [111, 114] 64 0 && (plL WHO (tailC (nmL op) 46) 0 == 3) && ((tailC (nmL op) 46 == [97, 110, 121, 95, 116, 114, 117, 101]) == false)) = true) (alo ahi : Nat) (anl : Bool) (ha1 : alo < 18446744073709551616) (ha2 : ahi < 18446744073709551616) (blo bhi : Nat) (bnl : Bool) (hb1 : blo < 18446744073709551616) (hb2 : bhi < 18446744073709551616) (w : World) (hg : Glob w) :
    (∃ ro tk lv fx, PB op [123, 123] 123 [111, 114] 64 0 ro (nmL op) tk lv fx) ∧ ∃ lo hi, (∀ W va, Below w.heap.size w W → AR W va [(123, alo, ahi, anl), (123, blo, bhi, bnl)] → Calls Tryz.prog 20 #[.int .i64 op, .slice none 0 0, va] W fun e w' => e = .returned (.tuple #[vv 123 lo hi false, .int .i64 0]) ∧ Below W.heap.size W w') ∧
      (∀ W va, Below w.heap.size w W → AR W va [(123, alo, ahi, anl), (123, blo, bhi, bnl)] → Calls Tryz.prog 38 #[.int .i64 op, .slice none 0 0, va] W fun e w' => e = .returned (.tuple #[vv 123 lo hi false, .int .i64 0]) ∧ Below W.heap.size W w') := by
  simp only [Bool.and_eq_true, beq_iff_eq] at h
  obtain ⟨⟨h, hpl⟩, hany⟩ := h
  obtain ⟨ro, tk, lv, fx, P⟩ := PB_of op _ _ _ _ _ h
  generalize nmL op = nm at *
  have hn : Okn 64 := by decide
  refine ⟨⟨ro, tk, lv, fx, P⟩, wordB 3 alo blo alo, wordB 3 ahi bhi ahi, fun W va hb ha => ?_, fun W va hb ha => ?_⟩
  · have hf : ∀ x y, x < 18446744073709551616 → y < 18446744073709551616 → (fun x y => (binA 64 9 x y).1) x y = wordB 3 x y x := fun x y hx hy => by
      show (binA 64 9 x y).1 = _
      unfold binA
      rw [if_pos ⟨by decide, by decide, by decide, by decide⟩]
      rw [show x % 2 ^ (64 : Int).toNat = x from Nat.mod_eq_of_lt (by simpa using hx), show y % 2 ^ (64 : Int).toNat = y from Nat.mod_eq_of_lt (by simpa using hy)]
      rfl
    have h := Do_each2 op nm [111, 114] 64 hn false false 64 false P.nm1 P.par P.len P.l6 P.lo P.kn P.im P.la P.lb (by decide) (fun x y => (binA 64 9 x y).1) (fun W => operation_bin_i [111, 114] false 64 64 false 9 (by decide +kernel) (by decide +kernel) (by decide +kernel) _ (Two_int 64 9) (by decide) (by decide) W) (fun x y _ _ => binA_lt 64 hn 9 x y) alo ahi blo bhi anl bnl ha1 ha2 hb1 hb2 W (hg.next hb) va ha
    have e := each2_word (fun x y => (binA 64 9 x y).1) 3 (by decide) alo ahi blo bhi ha1 ha2 hb1 hb2 hf
    rw [e.1, e.2] at h
    exact h
  · refine RDo_vec op P.lo ro nm tk lv fx P.of P.ro0 P.tk1 P.lv1 P.lv2 [(123, alo, ahi, anl), (123, blo, bhi, bnl)] P.tk2 (by simp) (by simp) va W ha _ _ fun W' hb' => ?_
    refine RDone_whole (ro, nm, 0, tk, lv, fx) _ _ rfl rfl P.len (by simpa using P.bits) (.slice none 0 0) va W' 123 _ _ fun W2 hbw => ?_
    have h := whole_2 3 (by decide) (tailC nm 46) (by rw [hpl]; rfl) (by rw [hany]; rfl) alo ahi anl ha1 ha2 blo bhi bnl hb1 hb2 W2 va ((ha.call hb').call hbw)
    rw [if_neg (by decide), who_lo 3 (by decide) _ _ _ _ _ _ ha1 hb1 ha1, who_hi 3 (by decide) _ _ _ _ _ _ ha2 hb2 ha2] at h
    exact h
set_option maxHeartbeats 4000000 in
theorem agree_xor (op : Int) (h : (chkB op [123, 123] 123 [120, 111, 114] 64 0 && (plL WHO (tailC (nmL op) 46) 0 == 4) && ((tailC (nmL op) 46 == [97, 110, 121, 95, 116, 114, 117, 101]) == false)) = true) (alo ahi : Nat) (anl : Bool) (ha1 : alo < 18446744073709551616) (ha2 : ahi < 18446744073709551616) (blo bhi : Nat) (bnl : Bool) (hb1 : blo < 18446744073709551616) (hb2 : bhi < 18446744073709551616) (w : World) (hg : Glob w) :
    (∃ ro tk lv fx, PB op [123, 123] 123 [120, 111, 114] 64 0 ro (nmL op) tk lv fx) ∧ ∃ lo hi, (∀ W va, Below w.heap.size w W → AR W va [(123, alo, ahi, anl), (123, blo, bhi, bnl)] → Calls Tryz.prog 20 #[.int .i64 op, .slice none 0 0, va] W fun e w' => e = .returned (.tuple #[vv 123 lo hi false, .int .i64 0]) ∧ Below W.heap.size W w') ∧
      (∀ W va, Below w.heap.size w W → AR W va [(123, alo, ahi, anl), (123, blo, bhi, bnl)] → Calls Tryz.prog 38 #[.int .i64 op, .slice none 0 0, va] W fun e w' => e = .returned (.tuple #[vv 123 lo hi false, .int .i64 0]) ∧ Below W.heap.size W w') := by
  simp only [Bool.and_eq_true, beq_iff_eq] at h
  obtain ⟨⟨h, hpl⟩, hany⟩ := h
  obtain ⟨ro, tk, lv, fx, P⟩ := PB_of op _ _ _ _ _ h
  generalize nmL op = nm at *
  have hn : Okn 64 := by decide
  refine ⟨⟨ro, tk, lv, fx, P⟩, wordB 4 alo blo alo, wordB 4 ahi bhi ahi, fun W va hb ha => ?_, fun W va hb ha => ?_⟩
  · have hf : ∀ x y, x < 18446744073709551616 → y < 18446744073709551616 → (fun x y => (binA 64 10 x y).1) x y = wordB 4 x y x := fun x y hx hy => by
      show (binA 64 10 x y).1 = _
      unfold binA
      rw [if_pos ⟨by decide, by decide, by decide, by decide⟩]
      rw [show x % 2 ^ (64 : Int).toNat = x from Nat.mod_eq_of_lt (by simpa using hx), show y % 2 ^ (64 : Int).toNat = y from Nat.mod_eq_of_lt (by simpa using hy)]
      rfl
    have h := Do_each2 op nm [120, 111, 114] 64 hn false false 64 false P.nm1 P.par P.len P.l6 P.lo P.kn P.im P.la P.lb (by decide) (fun x y => (binA 64 10 x y).1) (fun W => operation_bin_i [120, 111, 114] false 64 64 false 10 (by decide +kernel) (by decide +kernel) (by decide +kernel) _ (Two_int 64 10) (by decide) (by decide) W) (fun x y _ _ => binA_lt 64 hn 10 x y) alo ahi blo bhi anl bnl ha1 ha2 hb1 hb2 W (hg.next hb) va ha
    have e := each2_word (fun x y => (binA 64 10 x y).1) 4 (by decide) alo ahi blo bhi ha1 ha2 hb1 hb2 hf
    rw [e.1, e.2] at h
    exact h
  · refine RDo_vec op P.lo ro nm tk lv fx P.of P.ro0 P.tk1 P.lv1 P.lv2 [(123, alo, ahi, anl), (123, blo, bhi, bnl)] P.tk2 (by simp) (by simp) va W ha _ _ fun W' hb' => ?_
    refine RDone_whole (ro, nm, 0, tk, lv, fx) _ _ rfl rfl P.len (by simpa using P.bits) (.slice none 0 0) va W' 123 _ _ fun W2 hbw => ?_
    have h := whole_2 4 (by decide) (tailC nm 46) (by rw [hpl]; rfl) (by rw [hany]; rfl) alo ahi anl ha1 ha2 blo bhi bnl hb1 hb2 W2 va ((ha.call hb').call hbw)
    rw [if_neg (by decide), who_lo 4 (by decide) _ _ _ _ _ _ ha1 hb1 ha1, who_hi 4 (by decide) _ _ _ _ _ _ ha2 hb2 ha2] at h
    exact h
set_option maxHeartbeats 4000000 in
theorem agree_bsel (op : Int) (h : (chkB op [123, 123, 123] 123 [98, 105, 116, 115, 101, 108, 101, 99, 116] 64 0 && (plL WHO (tailC (nmL op) 46) 0 == 5) && ((tailC (nmL op) 46 == [97, 110, 121, 95, 116, 114, 117, 101]) == false)) = true) (alo ahi : Nat) (anl : Bool) (ha1 : alo < 18446744073709551616) (ha2 : ahi < 18446744073709551616) (blo bhi : Nat) (bnl : Bool) (hb1 : blo < 18446744073709551616) (hb2 : bhi < 18446744073709551616) (clo chi : Nat) (cnl : Bool) (hc1 : clo < 18446744073709551616) (hc2 : chi < 18446744073709551616) (w : World) (hg : Glob w) :
    (∃ ro tk lv fx, PB op [123, 123, 123] 123 [98, 105, 116, 115, 101, 108, 101, 99, 116] 64 0 ro (nmL op) tk lv fx) ∧ ∃ lo hi, (∀ W va, Below w.heap.size w W → AR W va [(123, alo, ahi, anl), (123, blo, bhi, bnl), (123, clo, chi, cnl)] → Calls Tryz.prog 20 #[.int .i64 op, .slice none 0 0, va] W fun e w' => e = .returned (.tuple #[vv 123 lo hi false, .int .i64 0]) ∧ Below W.heap.size W w') ∧
      (∀ W va, Below w.heap.size w W → AR W va [(123, alo, ahi, anl), (123, blo, bhi, bnl), (123, clo, chi, cnl)] → Calls Tryz.prog 38 #[.int .i64 op, .slice none 0 0, va] W fun e w' => e = .returned (.tuple #[vv 123 lo hi false, .int .i64 0]) ∧ Below W.heap.size W w') := by
  simp only [Bool.and_eq_true, beq_iff_eq] at h
  obtain ⟨⟨h, hpl⟩, hany⟩ := h
  obtain ⟨ro, tk, lv, fx, P⟩ := PB_of op _ _ _ _ _ h
  generalize nmL op = nm at *
  have hn : Okn 64 := by decide
  refine ⟨⟨ro, tk, lv, fx, P⟩, wordB 5 alo blo clo, wordB 5 ahi bhi chi, fun W va hb ha => ?_, fun W va hb ha => ?_⟩
  · have h := Do_bsel op nm P.nm1 P.par P.len P.l6 P.lo P.kn P.im P.la P.lb alo ahi blo bhi clo chi anl bnl cnl ha1 ha2 hb1 hb2 hc1 hc2 W (hg.next hb) va ha
    have e := sel_word alo ahi blo bhi clo chi ha1 ha2 hb1 hb2 hc1 hc2
    rw [e.1, e.2] at h
    exact h
  · refine RDo_vec op P.lo ro nm tk lv fx P.of P.ro0 P.tk1 P.lv1 P.lv2 [(123, alo, ahi, anl), (123, blo, bhi, bnl), (123, clo, chi, cnl)] P.tk2 (by simp) (by simp) va W ha _ _ fun W' hb' => ?_
    refine RDone_whole (ro, nm, 0, tk, lv, fx) _ _ rfl rfl P.len (by simpa using P.bits) (.slice none 0 0) va W' 123 _ _ fun W2 hbw => ?_
    have h := whole_3 5 (by decide) (tailC nm 46) (by rw [hpl]; rfl) (by rw [hany]; rfl) alo ahi anl ha1 ha2 blo bhi bnl hb1 hb2 clo chi cnl hc1 hc2 W2 va ((ha.call hb').call hbw)
    rw [if_neg (by decide), who_lo 5 (by decide) _ _ _ _ _ _ ha1 hb1 hc1, who_hi 5 (by decide) _ _ _ _ _ _ ha2 hb2 hc2] at h
    exact h
set_option maxHeartbeats 4000000 in
theorem agree_bany (op : Int) (h : (chkB op [123] 127 [97, 110, 121, 95, 116, 114, 117, 101] 64 0 && ((plL WHO (tailC (nmL op) 46) 0 == 6) && ((tailC (nmL op) 46 == [97, 110, 121, 95, 116, 114, 117, 101]) == true))) = true) (alo ahi : Nat) (anl : Bool) (ha1 : alo < 18446744073709551616) (ha2 : ahi < 18446744073709551616) (w : World) (hg : Glob w) :
    (∃ ro tk lv fx, PB op [123] 127 [97, 110, 121, 95, 116, 114, 117, 101] 64 0 ro (nmL op) tk lv fx) ∧ ∃ lo hi, (∀ W va, Below w.heap.size w W → AR W va [(123, alo, ahi, anl)] → Calls Tryz.prog 20 #[.int .i64 op, .slice none 0 0, va] W fun e w' => e = .returned (.tuple #[vv 127 lo hi false, .int .i64 0]) ∧ Below W.heap.size W w') ∧
      (∀ W va, Below w.heap.size w W → AR W va [(123, alo, ahi, anl)] → Calls Tryz.prog 38 #[.int .i64 op, .slice none 0 0, va] W fun e w' => e = .returned (.tuple #[vv 127 lo hi false, .int .i64 0]) ∧ Below W.heap.size W w') := by
  simp only [Bool.and_eq_true, beq_iff_eq] at h
  obtain ⟨h, hq⟩ := h
  obtain ⟨ro, tk, lv, fx, P⟩ := PB_of op _ _ _ _ _ h
  generalize nmL op = nm at *
  have hn : Okn 64 := by decide
  have hc1 : 1 ≤ cnt 64 := by rcases hn.cases with ⟨_, _, h⟩ | ⟨_, _, h⟩ | ⟨_, _, h⟩ | ⟨_, _, h⟩ <;> omega
  have hc16 : cnt 64 ≤ 16 := by rcases hn.cases with ⟨_, _, h⟩ | ⟨_, _, h⟩ | ⟨_, _, h⟩ | ⟨_, _, h⟩ <;> omega
  have hv : (if anyN (cnt 64) (splitF 64 alo ahi) then 1 else 0) < 18446744073709551616 := by split <;> decide
  refine ⟨⟨ro, tk, lv, fx, P⟩, (if anyN (cnt 64) (splitF 64 alo ahi) then 1 else 0) % 2 ^ 32, 0, fun W va hb ha => ?_, fun W va hb ha => ?_⟩
  · refine Do_num32 op nm P.nm1 [97, 110, 121, 95, 116, 114, 117, 101] false 64 false 64 false P.par P.len P.l6 P.lb (.slice none 0 0) va W (hg.next hb) (fun W2 h2 => fits_says op P.lo P.kn [] (by rw [P.im]; rfl) (fun x hx => by cases hx) [(123, alo, ahi, anl)] (by rw [P.la]; rfl) (by simp) (by simp) (.slice none 0 0) va W2.heap.size W2 ((hg.next hb).next h2) (ha.call h2) (World.ownsRow_nil _ _ _ _)) _ hv fun W2 h2 => ?_
    exact number_any false 64 false 64 false (.slice none 0 0) va (cnt 64) hc1 hc16 (splitF 64 alo ahi) W2 (fun W3 h3 => operand_v [97, 110, 121, 95, 116, 114, 117, 101] false 64 hn false 64 false va _ 0 alo ahi anl rfl ha1 ha2 W3 ((ha.call h2).call h3))
  · refine RDo_i32 op P.lo ro nm tk lv fx P.of P.ro0 P.tk1 P.lv1 P.lv2 [(123, alo, ahi, anl)] P.tk2 (by simp) (by simp) va W ha _ hv fun W' hb' => ?_
    refine RDone_whole (ro, nm, 0, tk, lv, fx) _ _ rfl rfl P.len (by simpa using P.bits) (.slice none 0 0) va W' 0 _ 0 fun W2 hbw => ?_
    have h := whole_1 6 (by decide) (tailC nm 46) (by rw [hq.1]; rfl) (by rw [hq.2]; rfl) alo ahi anl ha1 ha2 W2 va ((ha.call hb').call hbw)
    rw [if_pos rfl] at h
    have e : anyN (cnt 64) (splitF 64 alo ahi) = anyN 16 (splitF 8 alo ahi) := (any_eq hn alo ahi ha1 ha2).trans (any_eq (n := 8) (by decide) alo ahi ha1 ha2).symm
    rw [e]
    exact h
set_option maxHeartbeats 4000000 in
theorem agree_ball (op : Int) (n : Nat) (hn : Okn n) (h : (chkB op [123] 127 [97, 108, 108, 95, 116, 114, 117, 101] n n && (((tailC (nmL op) 46 == [115, 112, 108, 97, 116]) == false) && ((tailC (nmL op) 46 == [115, 119, 105, 122, 122, 108, 101]) == false) && ((tailC (nmL op) 46 == [97, 108, 108, 95, 116, 114, 117, 101]) == true) && ((tailC (nmL op) 46 == [98, 105, 116, 109, 97, 115, 107]) == false))) = true) (alo ahi : Nat) (anl : Bool) (ha1 : alo < 18446744073709551616) (ha2 : ahi < 18446744073709551616) (w : World) (hg : Glob w) :
    (∃ ro tk lv fx, PB op [123] 127 [97, 108, 108, 95, 116, 114, 117, 101] n n ro (nmL op) tk lv fx) ∧ ∃ lo hi, (∀ W va, Below w.heap.size w W → AR W va [(123, alo, ahi, anl)] → Calls Tryz.prog 20 #[.int .i64 op, .slice none 0 0, va] W fun e w' => e = .returned (.tuple #[vv 127 lo hi false, .int .i64 0]) ∧ Below W.heap.size W w') ∧
      (∀ W va, Below w.heap.size w W → AR W va [(123, alo, ahi, anl)] → Calls Tryz.prog 38 #[.int .i64 op, .slice none 0 0, va] W fun e w' => e = .returned (.tuple #[vv 127 lo hi false, .int .i64 0]) ∧ Below W.heap.size W w') := by
  simp only [Bool.and_eq_true, beq_iff_eq] at h
  obtain ⟨h, hq⟩ := h
  obtain ⟨ro, tk, lv, fx, P⟩ := PB_of op _ _ _ _ _ h
  generalize nmL op = nm at *
  
  have hc1 : 1 ≤ cnt n := by rcases hn.cases with ⟨_, _, h⟩ | ⟨_, _, h⟩ | ⟨_, _, h⟩ | ⟨_, _, h⟩ <;> omega
  have hc16 : cnt n ≤ 16 := by rcases hn.cases with ⟨_, _, h⟩ | ⟨_, _, h⟩ | ⟨_, _, h⟩ | ⟨_, _, h⟩ <;> omega
  have hv : (if allN (cnt n) (splitF n alo ahi) then 1 else 0) < 18446744073709551616 := by split <;> decide
  refine ⟨⟨ro, tk, lv, fx, P⟩, (if allN (cnt n) (splitF n alo ahi) then 1 else 0) % 2 ^ 32, 0, fun W va hb ha => ?_, fun W va hb ha => ?_⟩
  · refine Do_num32 op nm P.nm1 [97, 108, 108, 95, 116, 114, 117, 101] false n false n false P.par P.len P.l6 P.lb (.slice none 0 0) va W (hg.next hb) (fun W2 h2 => fits_says op P.lo P.kn [] (by rw [P.im]; rfl) (fun x hx => by cases hx) [(123, alo, ahi, anl)] (by rw [P.la]; rfl) (by simp) (by simp) (.slice none 0 0) va W2.heap.size W2 ((hg.next hb).next h2) (ha.call h2) (World.ownsRow_nil _ _ _ _)) _ hv fun W2 h2 => ?_
    exact number_all false n false n false (.slice none 0 0) va (cnt n) hc1 hc16 (splitF n alo ahi) W2 (fun W3 h3 => operand_v [97, 108, 108, 95, 116, 114, 117, 101] false n hn false n false va _ 0 alo ahi anl rfl ha1 ha2 W3 ((ha.call h2).call h3))
  · refine RDo_i32 op P.lo ro nm tk lv fx P.of P.ro0 P.tk1 P.lv1 P.lv2 [(123, alo, ahi, anl)] P.tk2 (by simp) (by simp) va W ha _ hv fun W' hb' => ?_
    obtain ⟨⟨⟨hs, hsw⟩, hq1⟩, hq2⟩ := hq
    refine RDone_told (ro, nm, 0, tk, lv, fx) _ (tailC nm 46) rfl rfl P.len n hn P.bits rfl rfl hs hsw true (by first | exact hq1 | (rw [hq1]; decide)) (by first | exact hq2 | (rw [hq2]; decide)) (.slice none 0 0) va _ alo ahi anl rfl ha1 ha2 W' (ha.call hb') _ fun W2 v hbw hr2 => ?_
    exact told_says true (tailC nm 46) (by first | exact hq1 | (rw [hq1]; decide)) n hn (cnt n) hc16 (splitF n alo ahi) (fun i => splitF_lt _ _ _ _) v W2 hr2
set_option maxHeartbeats 4000000 in
theorem agree_bmask (op : Int) (n : Nat) (hn : Okn n) (h : (chkB op [123] 127 [98, 105, 116, 109, 97, 115, 107] n n && (((tailC (nmL op) 46 == [115, 112, 108, 97, 116]) == false) && ((tailC (nmL op) 46 == [115, 119, 105, 122, 122, 108, 101]) == false) && ((tailC (nmL op) 46 == [97, 108, 108, 95, 116, 114, 117, 101]) == false) && ((tailC (nmL op) 46 == [98, 105, 116, 109, 97, 115, 107]) == true))) = true) (alo ahi : Nat) (anl : Bool) (ha1 : alo < 18446744073709551616) (ha2 : ahi < 18446744073709551616) (w : World) (hg : Glob w) :
    (∃ ro tk lv fx, PB op [123] 127 [98, 105, 116, 109, 97, 115, 107] n n ro (nmL op) tk lv fx) ∧ ∃ lo hi, (∀ W va, Below w.heap.size w W → AR W va [(123, alo, ahi, anl)] → Calls Tryz.prog 20 #[.int .i64 op, .slice none 0 0, va] W fun e w' => e = .returned (.tuple #[vv 127 lo hi false, .int .i64 0]) ∧ Below W.heap.size W w') ∧
      (∀ W va, Below w.heap.size w W → AR W va [(123, alo, ahi, anl)] → Calls Tryz.prog 38 #[.int .i64 op, .slice none 0 0, va] W fun e w' => e = .returned (.tuple #[vv 127 lo hi false, .int .i64 0]) ∧ Below W.heap.size W w') := by
  simp only [Bool.and_eq_true, beq_iff_eq] at h
  obtain ⟨h, hq⟩ := h
  obtain ⟨ro, tk, lv, fx, P⟩ := PB_of op _ _ _ _ _ h
  generalize nmL op = nm at *
  
  have hc1 : 1 ≤ cnt n := by rcases hn.cases with ⟨_, _, h⟩ | ⟨_, _, h⟩ | ⟨_, _, h⟩ | ⟨_, _, h⟩ <;> omega
  have hc16 : cnt n ≤ 16 := by rcases hn.cases with ⟨_, _, h⟩ | ⟨_, _, h⟩ | ⟨_, _, h⟩ | ⟨_, _, h⟩ <;> omega
  have hv : (maskN (cnt n) n (splitF n alo ahi)) < 18446744073709551616 := by exact Nat.lt_of_lt_of_le (maskN_lt _ _ hc16 _) (by decide)
  refine ⟨⟨ro, tk, lv, fx, P⟩, (maskN (cnt n) n (splitF n alo ahi)) % 2 ^ 32, 0, fun W va hb ha => ?_, fun W va hb ha => ?_⟩
  · refine Do_num32 op nm P.nm1 [98, 105, 116, 109, 97, 115, 107] false n false n false P.par P.len P.l6 P.lb (.slice none 0 0) va W (hg.next hb) (fun W2 h2 => fits_says op P.lo P.kn [] (by rw [P.im]; rfl) (fun x hx => by cases hx) [(123, alo, ahi, anl)] (by rw [P.la]; rfl) (by simp) (by simp) (.slice none 0 0) va W2.heap.size W2 ((hg.next hb).next h2) (ha.call h2) (World.ownsRow_nil _ _ _ _)) _ hv fun W2 h2 => ?_
    exact number_mask false n hn false n false (.slice none 0 0) va (cnt n) hc1 hc16 (splitF n alo ahi) (fun i => splitF_lt _ _ _ _) W2 (fun W3 h3 => operand_v [98, 105, 116, 109, 97, 115, 107] false n hn false n false va _ 0 alo ahi anl rfl ha1 ha2 W3 ((ha.call h2).call h3))
  · refine RDo_i32 op P.lo ro nm tk lv fx P.of P.ro0 P.tk1 P.lv1 P.lv2 [(123, alo, ahi, anl)] P.tk2 (by simp) (by simp) va W ha _ hv fun W' hb' => ?_
    obtain ⟨⟨⟨hs, hsw⟩, hq1⟩, hq2⟩ := hq
    refine RDone_told (ro, nm, 0, tk, lv, fx) _ (tailC nm 46) rfl rfl P.len n hn P.bits rfl rfl hs hsw false (by first | exact hq1 | (rw [hq1]; decide)) (by first | exact hq2 | (rw [hq2]; decide)) (.slice none 0 0) va _ alo ahi anl rfl ha1 ha2 W' (ha.call hb') _ fun W2 v hbw hr2 => ?_
    exact told_says false (tailC nm 46) (by first | exact hq1 | (rw [hq1]; decide)) n hn (cnt n) hc16 (splitF n alo ahi) (fun i => splitF_lt _ _ _ _) v W2 hr2
def LBits : List Int := [77, 78, 79, 80, 81, 82, 83, 99, 100, 131, 132, 163, 164, 195, 196]
end Go.Proofs.YtlhakbkdlgejpaaGreatDoor
