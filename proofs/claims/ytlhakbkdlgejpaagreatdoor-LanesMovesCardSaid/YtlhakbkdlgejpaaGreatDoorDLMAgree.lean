/-
  What both sides come to at an instruction that moves lanes by a number: the same vector. Condition: the instruction is as its Boolean asks.
-/
import Derived.Test.YtlhakbkdlgejpaaGreatDoorL12
import Derived.Test.YtlhakbkdlgejpaaGreatDoorL09
import Derived.Test.YtlhakbkdlgejpaaGreatDoorDLMOp
import Derived.Test.YtlhakbkdlgejpaaGreatDoorDLMRDone
set_option linter.unusedSimpArgs false
set_option linter.unusedVariables false
set_option maxRecDepth 100000
namespace Go.Proofs.YtlhakbkdlgejpaaGreatDoor
open Go.RowKit

noncomputable def chkN (op : Int) : Bool :=
  knB (lineL op) && decide (64768 ≤ op) && decide (op < 65024) && ((lineL op).2.1 == 0) && (laL op == [123, 127]) && (lbL op == [123]) && eachV (verbL (nmL op)) && decide ((nmL op).length ≤ 1000) && ((xsL (nmL op)).2 == 0) &&
  decide (Okn (toL (nmL op)).2.toNat) && ((toL (nmL op)).2 == (((toL (nmL op)).2.toNat : Nat) : Int)) && !(verbL (nmL op) == [110, 111, 116]) && !(verbL (nmL op) == [97, 110, 100, 110, 111, 116]) &&
  decide (0 ≤ (ofL op).1) && ((ofL op).2.1 == nmL op) && ((ofL op).2.2.1 == 0) && decide ((ofL op).2.2.2.1.length ≤ 100) && decide ((ofL op).2.2.2.2.1.length ≤ 100) && (tyL (ofL op).2.2.2.1 == [123, 127]) && (tyL (ofL op).2.2.2.2.1 == [123]) &&
  (biL (headC (nmL op) 46) == (toL (nmL op)).2) && !(tailC (nmL op) 46 == [115, 112, 108, 97, 116]) && !(tailC (nmL op) 46 == [115, 119, 105, 122, 122, 108, 101]) && !(tailC (nmL op) 46 == [97, 108, 108, 95, 116, 114, 117, 101]) && !(tailC (nmL op) 46 == [98, 105, 116, 109, 97, 115, 107]) && noSh 10 (tailC (nmL op) 46)
noncomputable def chkMov (op : Int) : Bool := chkN op && chkI op && (swL IU (verbL (nmL op)) == 0) && (swL (IR (sgL (nmL op))) (verbL (nmL op)) == 0) && (plL RELI (tailC (nmL op) 46) 0 == -1) && (plL BINI (tailC (nmL op) 46) 0 == swL (IB (sgL (nmL op))) (verbL (nmL op))) &&
  !(tailC (nmL op) 46 == [97, 98, 115]) && !(tailC (nmL op) 46 == [110, 101, 103]) && !(tailC (nmL op) 46 == [112, 111, 112, 99, 110, 116])
theorem moves_all : (LMoves.all fun x => chkMov (64768 + x)) = true := by kernel_rfl
/-- What the Boolean of all kinds says. -/
structure PCN (op : Int) (n : Nat) (vb : List UInt8) (sg : Bool) (sh what nm : List UInt8) (ro : Int) (tk lv : List UInt8) (fx : Bool) : Prop where
  kn : knB (lineL op) = true
  lo : 64768 ≤ op
  hi : op < 65024
  im : (lineL op).2.1 = 0
  la : laL op = [123, 127]
  lb : lbL op = [123]
  ea : eachV vb = true
  len : nm.length ≤ 1000
  xs : ((xsL nm).2 == 0) = true
  okn : Okn n
  n0 : (vb == [110, 111, 116]) = false
  n1 : (vb == [97, 110, 100, 110, 111, 116]) = false
  ro0 : 0 ≤ ro
  of : ofL op = (ro, nm, 0, tk, lv, fx)
  tk1 : tk.length ≤ 100
  lv1 : lv.length ≤ 100
  tk2 : tyL tk = [123, 127]
  lv2 : tyL lv = [123]
  bi : biL sh = n
  w0 : (what == [115, 112, 108, 97, 116]) = false
  w1 : (what == [115, 119, 105, 122, 122, 108, 101]) = false
  w2 : (what == [97, 108, 108, 95, 116, 114, 117, 101]) = false
  w3 : (what == [98, 105, 116, 109, 97, 115, 107]) = false
  ns : noSh 10 what = true
  par : parV nm = insV vb false n false n sg
  nm1 : (lineL op).1 = str nm
  shE : headC nm 46 = sh
  whE : tailC nm 46 = what
  ix : ∀ W, (Instr.index 9 (.string (str sh)) (.int .i64 0)).run Tryz.prog W = .ok (.int .u8 105) W

theorem PCN_of (op : Int) (h : chkN op = true) (h' : chkI op = true) :
    ∃ n ro tk lv fx, PCN op n (verbL (nmL op)) (sgL (nmL op)) (headC (nmL op) 46) (tailC (nmL op) 46) (nmL op) ro tk lv fx := by
  unfold chkN at h
  unfold chkI at h'
  have e1 : (lineL op).1 = str (nmL op) := (list_str _).symm
  generalize nmL op = nm at *
  obtain ⟨⟨ro, nm', im, tk, lv, fx⟩, hr⟩ : ∃ r, ofL op = r := ⟨_, rfl⟩
  rw [hr] at h
  obtain ⟨n, hn⟩ : ∃ n, n = (toL nm).2.toNat := ⟨_, rfl⟩
  rw [← hn] at h
  simp only [Bool.and_eq_true, decide_eq_true_eq, beq_iff_eq, Bool.not_eq_true'] at h h'
  obtain ⟨⟨⟨⟨⟨⟨⟨⟨⟨⟨⟨⟨⟨⟨⟨⟨⟨⟨⟨⟨⟨⟨⟨⟨⟨a1, a2⟩, a3⟩, a4⟩, a5⟩, a6⟩, a7⟩, a8⟩, a9⟩, a10⟩, a11⟩, a12⟩, a13⟩, b1⟩, b2⟩, b3⟩, b4⟩, b5⟩, b6⟩, b7⟩, c1⟩, c2⟩, c3⟩, c4⟩, c5⟩, c6⟩ := h
  obtain ⟨⟨d1, d2⟩, d3⟩ := h'
  subst b2
  subst b3
  have x0 : ((xsL nm').2 == 0) = true := by rw [a9]; rfl
  refine ⟨n, ro, tk, lv, fx, a1, a2, a3, a4, a5, a6, a7, a8, x0, a10, a12, a13, b1, hr, b4, b5, b6, b7, by rw [c1, a11], c2, c3, c4, c5, c6, ?_, e1, rfl, rfl, ?_⟩
  · unfold parV
    have hf : fromL nm' = toL nm' := by unfold fromL; rw [if_pos x0]
    rw [hf, d1, a11]
  · cases hc : headC nm' 46 with
    | nil => rw [hc] at d3; simp at d3
    | cons b t =>
      rw [hc] at d2
      obtain rfl : b = 105 := d2
      exact fun W => ix_str 105 t W

/-- A vector of a vector's lanes and a number, by the program. -/
theorem Do_eachN (op : Int) (nm vb : List UInt8) (n : Nat) (hn : Okn n) (ff tf : Bool) (fb : Int) (sg : Bool) (hnm : (lineL op).1 = str nm) (hpar : parV nm = insV vb tf n tf n sg) (hn1 : nm.length ≤ 1000) (hok : ((xsL nm).2 == 0) = false → 0 ≤ laL6 nm)
    (h64 : 64768 ≤ op) (hk : knB (lineL op) = true) (him : (lineL op).2.1 = 0) (hla : laL op = [123, 127]) (hlb : lbL op = [123]) (hv : eachV vb = true) (f : Nat → Nat → Nat) (HO : ∀ W, Calls Tryz.prog 72 #[insV vb tf n tf n sg] W (FnPost W f))
    (hf : ∀ x y, x < 18446744073709551616 → y < 18446744073709551616 → f x y < 18446744073709551616)
    (alo ahi nn : Nat) (anl : Bool) (h1 : alo < 18446744073709551616) (h2 : ahi < 18446744073709551616) (h3 : nn < 18446744073709551616)
    (w : World) (hg : Glob w) (va : Value) (ha : AR w va [(123, alo, ahi, anl), (127, nn, 0, false)]) :
    Calls Tryz.prog 20 #[.int .i64 op, .slice none 0 0, va] w fun e w' => e = .returned (.tuple #[vv 123 (loF n (fun i => f (splitF n alo ahi i) nn)) (hiF n (fun i => f (splitF n alo ahi i) nn)) false, .int .i64 0]) ∧ Below w.heap.size w w' := by
  refine Do_vec op nm hnm vb tf n tf n hn sg hpar hn1 hok hlb (.slice none 0 0) va w hg ?_ _ ?_ ?_
  · intro W hW
    exact fits_says op h64 hk [] (by rw [him]; rfl) (fun x hx => by cases hx) [(123, alo, ahi, anl), (127, nn, 0, false)] (by rw [hla]; rfl) (by simp) (by simp) (.slice none 0 0) va W.heap.size W (hg.next hW) (ha.call hW) (World.ownsRow_nil _ _ _ _)
  · intro i hi
    exact hf _ _ (splitF_u64 hn _ _ _) h3
  · intro W hW
    have hc1 : 1 ≤ cnt n := by rcases hn.cases with ⟨_, _, h⟩ | ⟨_, _, h⟩ | ⟨_, _, h⟩ | ⟨_, _, h⟩ <;> omega
    have hc16 : cnt n ≤ 16 := by rcases hn.cases with ⟨_, _, h⟩ | ⟨_, _, h⟩ | ⟨_, _, h⟩ | ⟨_, _, h⟩ <;> omega
    exact vector_each vb tf n tf n sg hv (.slice none 0 0) va (cnt n) hc1 hc16 _ (fun _ => nn) f W
      (fun W2 h => operand_v vb tf n hn tf n sg va _ 0 alo ahi anl rfl h1 h2 W2 ((ha.call hW).call h))
      (fun W2 h => operand_n1 vb tf n hn tf n sg va _ 127 nn rfl rfl W2 ((ha.call hW).call h))
      HO (fun i _ => splitF_u64 hn _ _ _) (fun _ _ => h3)
theorem agree_mov (op : Int) (h : chkMov op = true) (alo ahi nn : Nat) (anl : Bool) (h1 : alo < 18446744073709551616) (h2 : ahi < 18446744073709551616) (h3 : nn < 18446744073709551616) (w : World) (hg : Glob w) :
    ∃ lo hi, (∀ W va, Below w.heap.size w W → AR W va [(123, alo, ahi, anl), (127, nn, 0, false)] → Calls Tryz.prog 20 #[.int .i64 op, .slice none 0 0, va] W fun e w' => e = .returned (.tuple #[vv 123 lo hi false, .int .i64 0]) ∧ Below W.heap.size W w') ∧
      (∀ W va, Below w.heap.size w W → AR W va [(123, alo, ahi, anl), (127, nn, 0, false)] → Calls Tryz.prog 38 #[.int .i64 op, .slice none 0 0, va] W fun e w' => e = .returned (.tuple #[vv 123 lo hi false, .int .i64 0]) ∧ Below W.heap.size W w') := by
  unfold chkMov at h
  simp only [Bool.and_eq_true, Bool.not_eq_true'] at h
  obtain ⟨⟨⟨⟨⟨⟨⟨⟨hc, hi⟩, u0⟩, u1⟩, u2⟩, u3⟩, v0⟩, v1⟩, v2⟩ := h
  obtain ⟨n, ro, tk, lv, fx, P⟩ := PCN_of op hc hi
  generalize nmL op = nm at *
  generalize verbL nm = vb at *
  generalize sgL nm = sg at *
  generalize headC nm 46 = sh at *
  generalize tailC nm 46 = what at *
  obtain ⟨k, hk⟩ : ∃ k, k = swL (IB sg) vb := ⟨_, rfl⟩
  have u0 := eq_of_beq u0
  have u1 := eq_of_beq u1
  have u2 := eq_of_beq u2
  have u3 : plL BINI what 0 = k := (eq_of_beq u3).trans hk.symm
  refine ⟨_, _, fun W va hb ha => Do_eachN op nm vb n P.okn false false 0 sg P.nm1 P.par P.len (fun hx => by rw [P.xs] at hx; cases hx) P.lo P.kn P.im P.la P.lb P.ea (fun x y => (binA n k x y).1)
    (fun W => operation_bin_i vb false n n sg k u0 u1 hk.symm _ (Two_int n k) P.n0 P.n1 W) (fun x y _ _ => binA_lt n P.okn k x y) alo ahi nn anl h1 h2 h3 W (hg.next hb) va ha, fun W va hb ha => ?_⟩
  refine RDo_vec op P.lo ro nm tk lv fx P.of P.ro0 P.tk1 P.lv1 P.lv2 [(123, alo, ahi, anl), (127, nn, 0, false)] P.tk2 (by simp) (by simp) va W ha _ _ fun W' hb' => ?_
  exact RDone_num (ro, nm, 0, tk, lv, fx) sh what P.shE P.whE P.len n P.okn P.bi rfl rfl P.w0 P.w1 P.w2 P.w3 10 P.ns 105 false rfl P.ix (.slice none 0 0) va alo ahi anl nn h3 h1 h2 W' (ha.call hb') (fun x y => (binA n k x y).1)
    (fun a b W ha hb => RLane_bin n P.okn what u2 k u3 v0 v1 v2 a b ha hb W) (fun i _ => binA_lt n P.okn k _ _)

theorem chkMov_c (op : Int) (h : chkMov op = true) : chkN op = true ∧ chkI op = true := by
  unfold chkMov at h
  simp only [Bool.and_eq_true] at h
  exact ⟨h.1.1.1.1.1.1.1.1, h.1.1.1.1.1.1.1.2⟩
end Go.Proofs.YtlhakbkdlgejpaaGreatDoor
