/-
  LanesOnes: what the law comes to, whatever the input: true. The statement, by the tied card.
-/
import Derived.Test.YtibfpjnfkknacaaGreatDoorM31
import Derived.Test.YtibfpjnfkknacaaGreatDoorTie
import Derived.Test.YtibfpjnfkknacaaGreatDoorCards
import Derived.JoinedOf
import Derived.RowKitTokens
import Derived.Stop.Joined
import Derived.ChangeMaps5
set_option linter.unusedSimpArgs false
set_option linter.unusedVariables false
namespace Go.Proofs.YtibfpjnfkknacaaGreatDoor
open Go.RowKit

set_option maxRecDepth 100000 in
theorem row_Ones (w : World) : ∀ j, j < LOnes.length → (w.alloc (.cells #[.int .i64 96, .int .i64 97, .int .i64 98, .int .i64 128, .int .i64 129, .int .i64 160, .int .i64 161, .int .i64 192, .int .i64 193] 3)).cell? ⟨w.heap.size, j, none⟩ = some (.int .i64 (LOnes.getD j 0)) := fun j hj => by
  have h := CA.new w #[.int .i64 96, .int .i64 97, .int .i64 98, .int .i64 128, .int .i64 129, .int .i64 160, .int .i64 161, .int .i64 192, .int .i64 193] 3
  have hj : j < 9 := hj
  have e : ∀ i : Fin 9, (#[.int .i64 96, .int .i64 97, .int .i64 98, .int .i64 128, .int .i64 129, .int .i64 160, .int .i64 161, .int .i64 192, .int .i64 193] : Array Value)[i.val]? = some (.int .i64 (LOnes.getD i.val 0)) := by
    intro i
    rcases i with ⟨i, hi⟩; rcases (show i = 0 ∨ i = 1 ∨ i = 2 ∨ i = 3 ∨ i = 4 ∨ i = 5 ∨ i = 6 ∨ i = 7 ∨ i = 8 by omega) with rfl | rfl | rfl | rfl | rfl | rfl | rfl | rfl | rfl <;> rfl
  exact h.at (k := j) (e ⟨j, hj⟩)
set_option maxHeartbeats 4000000 in
set_option maxRecDepth 100000 in
theorem some_Ones (which : Int) (hw0 : -9223372036854775808 ≤ which) (hw1 : which ≤ 9223372036854775807) (ta tb tc : Int) (alo ahi blo bhi clo chi : Nat) (anl bnl cnl : Bool) (h1 : alo < 18446744073709551616) (h2 : ahi < 18446744073709551616) (h3 : blo < 18446744073709551616) (h4 : bhi < 18446744073709551616) (nn : Int) (w : World) (hg : Glob w) :
    Calls Tryz.prog 19 #[.slice (some ⟨w.heap.size, 0, none⟩) 9 9, .int .i64 which, vv ta alo ahi anl, vv tb blo bhi bnl, vv tc clo chi cnl, .int .u64 nn] (w.alloc (.cells #[.int .i64 96, .int .i64 97, .int .i64 98, .int .i64 128, .int .i64 129, .int .i64 160, .int .i64 161, .int .i64 192, .int .i64 193] 3)) fun e w' => e = .returned (.bool true) ∧ Below w.heap.size w w' := by
  obtain ⟨y, _, hy⟩ := and_1023 which
  have hi : y % LOnes.length < LOnes.length := Nat.mod_lt _ (by decide)
  have hmem : LOnes.getD (y % LOnes.length) 0 ∈ LOnes := by
    rw [List.getD_eq_getElem?_getD, List.getElem?_eq_getElem hi]
    exact List.getElem_mem hi
  have hchk : chkUn (64768 + LOnes.getD (y % LOnes.length) 0) = true := List.all_eq_true.1 ones_all _ hmem
  obtain ⟨op, hop⟩ : ∃ op, op = 64768 + LOnes.getD (y % LOnes.length) 0 := ⟨_, rfl⟩
  rw [← hop] at hchk
  have hb0 := (Below.refl _ w).alloc (Nat.le_refl _) (.cells #[.int .i64 96, .int .i64 97, .int .i64 98, .int .i64 128, .int .i64 129, .int .i64 160, .int .i64 161, .int .i64 192, .int .i64 193] 3)
  obtain ⟨lo, hi', HP, HR⟩ := agree_un op hchk alo ahi anl h1 h2 (w.alloc (.cells #[.int .i64 96, .int .i64 97, .int .i64 98, .int .i64 128, .int .i64 129, .int .i64 160, .int .i64 161, .int .i64 192, .int .i64 193] 3)) (hg.next hb0)
  obtain ⟨n, ro, tk, lv, fx, P⟩ := PC_of false op (chkUn_c op hchk).1 (chkUn_c op hchk).2
  have H := some_1 LOnes (by decide) (by decide) w.heap.size 9 which hw0 hw1 ta tb tc alo ahi blo bhi clo chi anl bnl cnl nn (w.alloc (.cells #[.int .i64 96, .int .i64 97, .int .i64 98, .int .i64 128, .int .i64 129, .int .i64 160, .int .i64 161, .int .i64 192, .int .i64 193] 3)) (by rw [size_al]; omega) (row_Ones w) y (y % LOnes.length) hy rfl hi op hop ⟨P.lo, P.hi⟩ ro (nmL op) tk lv fx P.of P.tk1 P.tk2 lo hi' HP HR
  exact H.mono fun e w' ⟨he, hb⟩ => ⟨he, hb0.trans (hb.mono hb0.size)⟩
set_option maxHeartbeats 4000000 in
set_option maxRecDepth 100000 in
theorem law_Ones (which : Int) (hw0 : -9223372036854775808 ≤ which) (hw1 : which ≤ 9223372036854775807) (ta tb tc : Int) (alo ahi blo bhi clo chi : Nat) (anl bnl cnl : Bool) (h1 : alo < 18446744073709551616) (h2 : ahi < 18446744073709551616) (h3 : blo < 18446744073709551616) (h4 : bhi < 18446744073709551616) (nn : Int) (w : World) (hg : Glob w) :
    Calls Tryz.prog 9 #[.int .i64 which, vv ta alo ahi anl, vv tb blo bhi bnl, vv tc clo chi cnl, .int .u64 nn] w fun e w' => e = .returned (.bool true) ∧ Below w.heap.size w w' := by
  have HA := fun W h => hid (awake_says W h)
  have HS := fun W h => hid (some_Ones which hw0 hw1 ta tb tc alo ahi blo bhi clo chi anl bnl cnl h1 h2 h3 h4 nn W h)
  have HX := hid (Bx.start w #[.int .i64 ta, .int .u64 (alo : Nat), .int .u64 (ahi : Nat), .bool anl] #[.int .i64 tb, .int .u64 (blo : Nat), .int .u64 (bhi : Nat), .bool bnl] #[.int .i64 tc, .int .u64 (clo : Nat), .int .u64 (chi : Nat), .bool cnl])
  have HAA := HA _ (hg.next HX.out.below)
  have HG := hid hg
  unfold vv at HS ⊢
  clear hg h1 h2 h3 h4 hw0 hw1
  go_enter Tryz.func9, Tryz.ntmps9
  go_upto_region 2 with (go_at_call 17; (with_reducible refine HAA.out.mono ?_); rintro e w1 ⟨rfl, hb1⟩; have HX1 := hid (HX.out.to hb1); clear hb1)
  have HS1 := HS _ (HG.out.next HX1.out.below)
  have HB1 := hid HX1.out.below
  have hsz := HX1.out.below.size
  have a0 := fun o => (HX1.out.a.alloc o).at (k := 0) (v := .int .i64 ta) rfl
  have a1 := fun o => (HX1.out.a.alloc o).at (k := 1) (v := .int .u64 (alo : Nat)) rfl
  have a2 := fun o => (HX1.out.a.alloc o).at (k := 2) (v := .int .u64 (ahi : Nat)) rfl
  have a3 := fun o => (HX1.out.a.alloc o).at (k := 3) (v := .bool anl) rfl
  have b0 := fun o => (HX1.out.b.alloc o).at (k := 0) (v := .int .i64 tb) rfl
  have b1 := fun o => (HX1.out.b.alloc o).at (k := 1) (v := .int .u64 (blo : Nat)) rfl
  have b2 := fun o => (HX1.out.b.alloc o).at (k := 2) (v := .int .u64 (bhi : Nat)) rfl
  have b3 := fun o => (HX1.out.b.alloc o).at (k := 3) (v := .bool bnl) rfl
  have c0 := fun o => (HX1.out.c.alloc o).at (k := 0) (v := .int .i64 tc) rfl
  have c1 := fun o => (HX1.out.c.alloc o).at (k := 1) (v := .int .u64 (clo : Nat)) rfl
  have c2 := fun o => (HX1.out.c.alloc o).at (k := 2) (v := .int .u64 (chi : Nat)) rfl
  have c3 := fun o => (HX1.out.c.alloc o).at (k := 3) (v := .bool cnl) rfl
  clear HX HX1 HAA HA HS HG
  go_wp2_with (go_at_call 19; (with_reducible refine HS1.out.mono ?_); rintro e w2 ⟨rfl, hb2⟩; have HB2 := hid (HB1.out.trans (hb2.mono hsz)); clear hb2)
  go_ret
  exact ⟨rfl, HB2.out⟩
end Go.Proofs.YtibfpjnfkknacaaGreatDoor

namespace Go.Proofs.YtibfpjnfkknacaaGreatDoor.lanesOnes
open Go.Proofs.YtibfpjnfkknacaaGreatDoor
open Go.ChangeShapes Go.WideShapes Go.ChangeAt Go.ChangeMaps Go.WideMaps Go.WideElems Go.RowKit

set_option maxRecDepth 100000 in
/-- The row's step. -/
theorem lifted (os : Os) (started : os.Started) (H : Type) (enc : TypeId × Value → H) :
    ReturnsInHanded {} Tryz.checked os 9 .any (fun w args => (Rows.lanesOnesSpec.pre enc Tryz.prog Tryz.f9 [] false w args ∧ laidMetH Tryz.prog LAID w) ∧ sizedMet enc Tryz.prog Tryz.f9 (OpenSpec.ofChange Rows.lanesOnesSpec) false w args)
      (Rows.lanesOnesSpec.post enc Tryz.prog Tryz.f9 false true false false) := by
  refine returnsInHanded_of_change_and (C := Tryz.checked) (X := fun w _ => laidMetH Tryz.prog LAID w) (fun _ _ _ hh h => h.of_heap hh) own started (by kernel_rfl) Tryz.func9
    (ChangeSpec.witness_shaped (enc := enc) (C := Tryz.checked) (os := os) (X := fun w _ => laidMetH Tryz.prog LAID w) false (World.doorLaid Tryz.prog 55 os) #[.int .i64 0, .agg #[.int .i64 0, .int .u64 0, .int .u64 0, .bool false], .agg #[.int .i64 0, .int .u64 0, .int .u64 0, .bool false], .agg #[.int .i64 0, .int .u64 0, .int .u64 0, .bool false], .int .u64 0] 8 rfl (World.shaped_of_RefB (by kernel_rfl) (by kernel_rfl)) (by kernel_rfl) (by kernel_rfl) (by kernel_rfl) (door_met os _)) ?_
  intro W base args ds gs before hval0 hW _ _ hL _
  have hval : ∀ (j : Nat) t v, Tryz.f9.params[j]? = some t → args[j]? = some v → Value.okWide Tryz.prog W .any base t v := hval0
  have hW' := hW
  obtain ⟨p, q, hA0, hV, rfl, hfz, hnd⟩ := hW
  have hA : DataW.TrodAll enc Tryz.prog W 0 (fun _ => true) true Tryz.f9.params.toList args.toList ds p := hA0
  rw [Tryz.params9] at hA hval
  obtain ⟨v0, vs0, d0, ds0, p0, q0, hargs, rfl, rfl, h0, r0⟩ := trodAll_cons hA
  obtain ⟨v1, vs1, d1, ds1, p1, q1, rfl, rfl, rfl, h1, r1⟩ := trodAll_cons r0
  obtain ⟨v2, vs2, d2, ds2, p2, q2, rfl, rfl, rfl, h2, r2⟩ := trodAll_cons r1
  obtain ⟨v3, vs3, d3, ds3, p3, q3, rfl, rfl, rfl, h3, r3⟩ := trodAll_cons r2
  obtain ⟨v4, vs4, d4, ds4, p4, q4, rfl, rfl, rfl, h4, r4⟩ := trodAll_cons r3
  obtain ⟨rfl, rfl, rfl⟩ := trodAll_nil r4
  obtain rfl : args = #[v0, v1, v2, v3, v4] := by cases args; simp_all
  obtain ⟨rfl, rfl⟩ := trodVars_none hV
  obtain ⟨a0, rfl, rfl, rfl, w0⟩ := open_int Tryz.underlying3 (hval 0 3 v0 rfl rfl) h0
  obtain ⟨t1, l1, u1, n1, rfl, x1, y1, rfl, k1⟩ := open_val (hval 1 24 v1 rfl rfl) h1
  obtain ⟨t2, l2, u2, n2, rfl, x2, y2, rfl, k2⟩ := open_val (hval 2 24 v2 rfl rfl) h2
  obtain ⟨t3, l3, u3, n3, rfl, x3, y3, rfl, k3⟩ := open_val (hval 3 24 v3 rfl rfl) h3
  obtain ⟨a4, rfl, rfl, rfl, w4⟩ := open_int Tryz.underlying22 (hval 4 22 v4 rfl rfl) h4
  clear hA0 hval0
  simp only [List.append_nil] at hW'
  refine (law_Ones a0 (bounds_i64 w0).1 (bounds_i64 w0).2 t1 t2 t3 l1 u1 l2 u2 l3 u3 n1 n2 n3 x1 y1 x2 y2 a4 W (of_laid hL)).mono fun e W' ⟨he, hg⟩ => ?_
  subst he
  exact ⟨_, rfl, _, _, _, [], [], [], hW', trodAll_mk1 (shut_bool Tryz.underlying4 _), trodAll_cons_mk (shut_int Tryz.underlying3 w0) (trodAll_cons_mk (k1 _ _) (trodAll_cons_mk (k2 _ _) (trodAll_cons_mk (k3 _ _) (trodAll_cons_mk (shut_int Tryz.underlying22 w4) trodAll_mk0)))), rfl, hg.frame _, fun h => by cases h⟩

set_option maxHeartbeats 0
theorem closed : joinedFacts Tryz.pinned.checked.prog 9 Tryz.f9 Rows.lanesOnesSpec Rows.lanesOnesRow = true := by kernel_rfl
theorem named : Tryz.pinned.checked.prog.funcNamed Rows.lanesOnesRow.func = some 9 := by kernel_rfl
theorem inst : Tryz.f9.isInstance Tryz.pinned.checked.prog Rows.lanesOnesRow.origin Rows.lanesOnesRow.targs := of_decide_eq_true (by kernel_rfl)
theorem wrap : Tryz.f9.isWrapper Tryz.pinned.checked.prog Rows.lanesOnesRow.wrapper Rows.lanesOnesRow.mainSum := by unfold Func.isWrapper; first | (rw [if_pos (by decide +kernel)]; kernel_rfl) | (rw [if_neg (by decide +kernel)]; exact ⟨rfl, rfl⟩)
theorem over : Rows.LanesOnesSaid :=
  OpenClaim.holds_of_wide 9 Tryz.f9 rfl rfl rfl rfl rfl rfl rfl ⟨rfl, rfl, rfl, rfl, rfl⟩ rfl rfl rfl rfl rfl named Tryz.func9 closed inst wrap
    (fun os started H enc _ => lifted os started H enc)

/-- The statement. -/
theorem proved : Rows.LanesOnesCardSaid :=
  Claim7.holds_tied_plain_at .later [] [.data, .data, .data, .data, .data] true (true, "efff9fe8d3bc97d5675b585c1f67cdfac0c796674c94f44cb91efdd5d7cb644c") false
    over (fun _ h => by cases h) (by as_aux_lemma => kernel_rfl) (fun _ h => by cases h) lanesOnes_row_tie rfl ⟨rfl, rfl⟩ (by as_aux_lemma => kernel_rfl) rfl
    (fun f fn hf hfn => by
      obtain rfl : f = 9 := Option.some.inj ((show Tryz.prog.funcNamed "bodkin/bodkinlaw06.LanesOnes" = some 9 by kernel_rfl).symm.trans hf) |>.symm
      obtain rfl : fn = Tryz.f9 := (Option.some.inj (Tryz.func9.symm.trans hfn)).symm
      exact ⟨by as_aux_lemma => kernel_rfl, fun j t ht => by
        rw [Tryz.params9] at ht
        have hm : t ∈ [3, 24, 24, 24, 22] := by simpa using Array.mem_of_getElem? ht
        have hall : ([3, 24, 24, 24, 22].all fun u => !Tryz.prog.wantsStandIn u) = true := by kernel_rfl
        exact (show Tryz.prog.wantsStandIn t = false by simpa using List.all_eq_true.1 hall t hm)⟩)
    (by as_aux_lemma => kernel_rfl)
#print axioms proved
end Go.Proofs.YtibfpjnfkknacaaGreatDoor.lanesOnes
