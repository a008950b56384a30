/-
  WU, WOp: merged, what the law does not reach left out (each text says what it holds where it lies in wip). No condition.
-/
import Derived.Test.YtjgeedgphcjhoaaGreatD09
import Derived.Deep.RegionHeld3
import Derived.Shelf.Abstract
set_option linter.unusedSimpArgs false
set_option linter.unusedVariables false
set_option maxRecDepth 100000
namespace Go.Proofs.YtjgeedgphcjhoaaGreat
open Go.RowKit
theorem step_append_own {P : Program} {ops : Array Oper} {o : Oper} {a : Act} {w : World} {K : Act → World → Prop} {Q : Exit → Act → World → Prop} {E : Prop} (hgd : o.guard = none) (s x : Operand) (t : TypeId)
  (ho : o.op = .call { callee := .builtin .append, args := #[s, x], argTypes := #[t, t] }) (base : Nat) (e : TypeId) (i : TypeInfo) (z : Value) (size bytes : Nat) (ht : P.underlying t = some (.slice e)) (hi : P.info? e = some i) (hz : i.zero = some z)
  (hsize : i.size = size) (hby : i.bytes = bytes) (hzs : z.cells.size = size) (hsz : 0 < size) (v : Value) (n : Nat) (xs : List Value) (hs : a.eval s = v) (hown : w.ownsRow base e size v n xs)
  (ad : Addr) (m c : Nat) (news : List Value) (hx : a.eval x = .slice (some ad) m c) (hl : news.length = m * size) (hnews : ∀ j u, news[j]? = some u → w.cell? (ad.add j) = some u) (h1 : ∀ u ∈ news, u.oneCell' = true)
  (h63 : n + m ≤ maxLen) (hbytes : (n + m) * bytes ≤ 140737488355328) (hbase : base ≤ w.heap.size)
  (h : ∀ v' w', w'.ownsRow base e size v' (n + m) (xs ++ news) → w.grownBy w' v.ownBlock → K (a.put o.dst v') w') :
  if Region.wanted o (yielded ops a.tmps) = true then Oper.wp P o a w K Q else E := by
 have hw : Region.wanted o (yielded ops a.tmps) = true := by simp [Region.wanted, hgd]
 rw [if_pos hw]
 obtain ⟨v', w', hrun, r1, r2, _⟩ := run_append_own (P := P) w base t o.type e i z size bytes ht hi hz hsize hby hzs hsz v n xs hown ad m c news hl hnews h1 h63 hbytes hbase
 unfold Oper.wp
 simp [execOp, ho, resolve, invoke, builtin, hs, hx, hrun, Result.andThen]
 exact h _ _ r1 r2
theorem own_cells {w : World} {base g n c : Nat} {y : List UInt8} (h : w.ownsRow base 5 1 (.slice (some ⟨g, 0, none⟩) n c) n (Lib.byteCells y)) : ∀ j u, (Lib.byteCells y)[j]? = some u → w.cell? ((⟨g, 0, none⟩ : Addr).add j) = some u := by
 intro j u hj
 have hl := h.1
 have hlt : j < n := by have := (List.getElem?_eq_some_iff.1 hj).1; omega
 rw [addr_add, Nat.zero_add, h.cellAt j (by omega), hj]
theorem own_at {w : World} {base n : Nat} {v : Value} {xs : List Value} (h : w.ownsRow base 5 1 v n xs) (hn : 1 ≤ n) : ∃ g c, v = .slice (some ⟨g, 0, none⟩) n c := by
 rcases h.2 with ⟨_, h2⟩ | ⟨g, cap, cur, h1, _⟩
 ·omega
 ·exact ⟨g, cap, h1⟩
set_option maxHeartbeats 2000000 in
theorem u_of (B g : Nat) (bs : List UInt8) (n : Int) (x : Nat) (hx : IntKind.u64.wrap n = (x : Int)) (y : List UInt8) (m : Nat) (hm : m = y.length) (w : World) (hB : B ≤ w.heap.size) (hw : WR B g bs w) (hn : bs.length + m ≤ 140737488355000)
  (HU : ∀ W, Hid (Calls Tryz.prog 177 #[.slice none 0 0, .int .u64 (x : Nat)] W fun e w' => ∃ g2 c2, e = .returned (.slice (some ⟨g2, 0, none⟩) m c2) ∧ w'.ownsRow W.heap.size 5 1 (.slice (some ⟨g2, 0, none⟩) m c2) m (Lib.byteCells y) ∧ Below W.heap.size W w')) :
  Calls Tryz.prog 105 #[.pointer (some ⟨g, 0, none⟩), .int .i64 n] w fun e w' => e = .returned (.tuple #[]) ∧ WR B g (bs ++ y) w' ∧ FR B g w w' := by
 obtain ⟨i0, hi, hz0, hz1, hz2⟩ := info_parts info5
 obtain ⟨hBg, u, hc, ho⟩ := hw
 obtain ⟨pu, nu, cu, rfl⟩ := own_slice ho
 have HN1 := hid (show bs.length + m ≤ maxLen by unfold maxLen; omega)
 have HN2 := hid (show (bs.length + m) * 1 ≤ 140737488355328 by omega)
 have HBG := hid hBg
 have HBW := hid hB
 have HM := hid hm
 have HC0 := hid hc
 have HO0 := hid ho
 clear hBg hc ho hm hn hB
 go_enter Tryz.func105, Tryz.ntmps105
 go_upto_region 0 with fail
 have hS : FR B g w w.drew := (FR.refl B g w).drew
 have HC : Hid (CA g #[.slice pu nu cu] 137 w.drew) := HC0
 have HO : Hid (w.drew.ownsRow B 5 1 (.slice pu nu cu) bs.length (Lib.byteCells bs)) := HO0
 clear HC0 HO0
 refine wp_region_held_drew (S := fun W => FR B g w W) (by kernel_rfl) hS (fun _ => ?_)
 generalize w.drew = W at *
 refine wpAnyH_take (oi := ⟨_, _, _, _, _, _⟩) (i := 0) (v := .pointer (some ⟨g, 0, none⟩)) rfl (by kernel_rfl) (by kernel_rfl) (by kernel_rfl) (fun _ _ _ h => h) (Or.inl ⟨by rfl, ?_⟩) (by assumption) ?_
 ·(intro W hSw; skip; go_simp; try (with_reducible rfl))
 try simp only [Act.put, List.setIfInBounds_toArray, List.set_cons_zero, List.set_cons_succ]
 refine wpAnyH_take (oi := ⟨_, _, _, _, _, _⟩) (i := 1) (v := .pointer (some ⟨g, 0, none⟩)) rfl (by kernel_rfl) (by kernel_rfl) (by kernel_rfl) (fun _ _ _ h => h) (Or.inl ⟨by rfl, ?_⟩) (by assumption) ?_
 ·(intro W hSw; skip; go_simp; try (with_reducible rfl))
 try simp only [Act.put, List.setIfInBounds_toArray, List.set_cons_zero, List.set_cons_succ]
 refine wpAnyH_take (oi := ⟨_, _, _, _, _, _⟩) (i := 2) (v := .pointer (some ⟨g, 0, none⟩)) rfl (by kernel_rfl) (by kernel_rfl) (by kernel_rfl) (fun _ _ _ h => h) (Or.inl ⟨by rfl, ?_⟩) (by assumption) ?_
 ·(intro W hSw; skip; go_simp; try (with_reducible rfl))
 try simp only [Act.put, List.setIfInBounds_toArray, List.set_cons_zero, List.set_cons_succ]
 refine wpAnyH_take (oi := ⟨_, _, _, _, _, _⟩) (i := 3) (v := .pointer (some ⟨g, 0, none⟩)) rfl (by kernel_rfl) (by kernel_rfl) (by kernel_rfl) (fun _ _ _ h => h) (Or.inl ⟨by rfl, ?_⟩) (by assumption) ?_
 ·(intro W hSw; skip; go_simp; try (with_reducible rfl))
 try simp only [Act.put, List.setIfInBounds_toArray, List.set_cons_zero, List.set_cons_succ]
 refine wpAnyH_take (oi := ⟨_, _, _, _, _, _⟩) (i := 5) (v := .int .i64 n) rfl (by kernel_rfl) (by kernel_rfl) (by kernel_rfl) (fun _ _ _ h => h) (Or.inl ⟨by rfl, ?_⟩) (by assumption) ?_
 ·(intro W hSw; skip; go_simp; try (with_reducible rfl))
 try simp only [Act.put, List.setIfInBounds_toArray, List.set_cons_zero, List.set_cons_succ]
 refine wpAnyH_take (oi := ⟨_, _, _, _, _, _⟩) (i := 6) (v := .int .u64 (x : Nat)) rfl (by kernel_rfl) (by kernel_rfl) (by kernel_rfl) (fun _ _ _ h => h) (Or.inl ⟨by rfl, ?_⟩) (by assumption) ?_
 ·(intro W hSw; skip; go_simp; try (with_reducible rfl))
 try simp only [Act.put, List.setIfInBounds_toArray, List.set_cons_zero, List.set_cons_succ]
 refine wpAnyH_ready (rs := [4, 7]) (by kernel_rfl) (by simp) ?_
 refine AllReadyH.cons (o := ⟨_, _, _, _, _, _⟩) rfl (fun K hK => ?_) ?_
 ·have z0 := HC.out.at (k := 0) (v := .slice pu nu cu) rfl
  go_simp
  clear z0
  refine hK.out _ _ hS (fun _ => ?_)
  clear hK K
  try simp only [Act.put, List.setIfInBounds_toArray, List.set_cons_zero, List.set_cons_succ]
  refine wpAnyH_ready (rs := [7]) (by kernel_rfl) (by simp) ?_
  refine AllReadyH.cons (o := ⟨_, _, _, _, _, _⟩) rfl (fun K hK => ?_) ?_
  ·go_simp
   go_at_call 177
   (with_reducible refine (HU W).out.mono ?_)
   rintro e W1 ⟨g2, c2, rfl, ho2, hb⟩
   replace HO := hid (own_kept HO.out hb)
   replace HC := hid (HC.out.below hb HC.out.lt)
   replace hS := hS.trans (FR.of hb)
   have HO2 := hid ho2
   clear hb ho2
   refine hK.out _ _ hS (fun _ => ?_)
   clear hK K
   try simp only [Act.put, List.setIfInBounds_toArray, List.set_cons_zero, List.set_cons_succ]
   refine wpAnyH_ready (rs := [8]) (by kernel_rfl) (by simp) ?_
   refine AllReadyH.cons (o := ⟨_, _, _, _, _, _⟩) rfl (fun K hK => ?_) ?_
   ·refine step_append_own rfl (.tmp 8) (.tmp 11) 52 rfl B 5 i0 (.int .u8 0) 1 1 Tryz.underlying52 hi hz0 hz1 hz2 rfl (by decide) (.slice pu nu cu) bs.length (Lib.byteCells bs) rfl HO.out ⟨g2, 0, none⟩ m c2 (Lib.byteCells y) rfl (by rw [Lib.byteCells_length, HM.out, Nat.mul_one]) (own_cells HO2.out) (byteCells_one y) HN1.out HN2.out (Nat.le_trans HBW.out hS.size) ?_
    intro v3 W2 ho3 hg3
    replace HC := hid (WR.set_row HC.out HO.out hg3)
    replace hS := hS.trans (FR.grown HO.out hg3)
    clear HO HO2
    obtain ⟨p3, n3, c3, rfl⟩ := own_slice ho3
    have HO3 := hid ho3
    clear ho3 hg3
    refine hK.out _ _ hS (fun _ => ?_)
    clear hK K
    try simp only [Act.put, List.setIfInBounds_toArray, List.set_cons_zero, List.set_cons_succ]
    refine wpAnyH_take (oi := ⟨_, _, _, _, _, _⟩) (i := 9) (v := .pointer (some ⟨g, 0, none⟩)) rfl (by kernel_rfl) (by kernel_rfl) (by kernel_rfl) (fun _ _ _ h => h) (Or.inl ⟨by rfl, ?_⟩) (by assumption) ?_
    ·(intro W hSw; skip; go_simp; try (with_reducible rfl))
    try simp only [Act.put, List.setIfInBounds_toArray, List.set_cons_zero, List.set_cons_succ]
    refine wpAnyH_take (oi := ⟨_, _, _, _, _, _⟩) (i := 10) (v := .pointer (some ⟨g, 0, none⟩)) rfl (by kernel_rfl) (by kernel_rfl) (by kernel_rfl) (fun _ _ _ h => h) (Or.inl ⟨by rfl, ?_⟩) (by assumption) ?_
    ·(intro W hSw; skip; go_simp; try (with_reducible rfl))
    try simp only [Act.put, List.setIfInBounds_toArray, List.set_cons_zero, List.set_cons_succ]
    refine wpAnyH_ready (rs := [11]) (by kernel_rfl) (by simp) ?_
    refine AllReadyH.cons (o := ⟨_, _, _, _, _, _⟩) rfl (fun K hK => ?_) ?_
    ·have z0 := HC.out.at (k := 0) (v := .slice pu nu cu) rfl
     have z1 := HC.out.free 0
     go_simp
     clear z0 z1
     have HWR := hid (WR.put (bs := bs ++ y) HBG.out HC.out (by rw [List.length_append, ← HM.out, Lib.byteCells_append]; exact HO3.out))
     replace hS := hS.set 0 (.slice p3 n3 c3)
     clear HC HO3
     generalize W2.setCell ⟨g, 0, none⟩ (.slice p3 n3 c3) = W3 at *
     refine hK.out _ _ hS (fun _ => ?_)
     clear hK K
     try simp only [Act.put, List.setIfInBounds_toArray, List.set_cons_zero, List.set_cons_succ]
     refine wpAnyH_done (by kernel_rfl) ?_ _
     have HF := hid hS
     clear hS
     go_wp2
     (first | go_end0 | refine bodyPost_ret (results_none rfl _ _ _) rfl ?_)
     exact ⟨rfl, HWR.out, HF.out⟩
    exact AllReadyH.nil
   exact AllReadyH.nil
  exact AllReadyH.nil
 refine AllReadyH.cons (o := ⟨_, _, _, _, _, _⟩) rfl (fun K hK => ?_) ?_
 ·go_simp
  go_at_call 177
  (with_reducible refine (HU W).out.mono ?_)
  rintro e W1 ⟨g2, c2, rfl, ho2, hb⟩
  replace HO := hid (own_kept HO.out hb)
  replace HC := hid (HC.out.below hb HC.out.lt)
  replace hS := hS.trans (FR.of hb)
  have HO2 := hid ho2
  clear hb ho2
  refine hK.out _ _ hS (fun _ => ?_)
  clear hK K
  try simp only [Act.put, List.setIfInBounds_toArray, List.set_cons_zero, List.set_cons_succ]
  refine wpAnyH_ready (rs := [4]) (by kernel_rfl) (by simp) ?_
  refine AllReadyH.cons (o := ⟨_, _, _, _, _, _⟩) rfl (fun K hK => ?_) ?_
  ·have z0 := HC.out.at (k := 0) (v := .slice pu nu cu) rfl
   go_simp
   clear z0
   refine hK.out _ _ hS (fun _ => ?_)
   clear hK K
   try simp only [Act.put, List.setIfInBounds_toArray, List.set_cons_zero, List.set_cons_succ]
   refine wpAnyH_ready (rs := [8]) (by kernel_rfl) (by simp) ?_
   refine AllReadyH.cons (o := ⟨_, _, _, _, _, _⟩) rfl (fun K hK => ?_) ?_
   ·refine step_append_own rfl (.tmp 8) (.tmp 11) 52 rfl B 5 i0 (.int .u8 0) 1 1 Tryz.underlying52 hi hz0 hz1 hz2 rfl (by decide) (.slice pu nu cu) bs.length (Lib.byteCells bs) rfl HO.out ⟨g2, 0, none⟩ m c2 (Lib.byteCells y) rfl (by rw [Lib.byteCells_length, HM.out, Nat.mul_one]) (own_cells HO2.out) (byteCells_one y) HN1.out HN2.out (Nat.le_trans HBW.out hS.size) ?_
    intro v3 W2 ho3 hg3
    replace HC := hid (WR.set_row HC.out HO.out hg3)
    replace hS := hS.trans (FR.grown HO.out hg3)
    clear HO HO2
    obtain ⟨p3, n3, c3, rfl⟩ := own_slice ho3
    have HO3 := hid ho3
    clear ho3 hg3
    refine hK.out _ _ hS (fun _ => ?_)
    clear hK K
    try simp only [Act.put, List.setIfInBounds_toArray, List.set_cons_zero, List.set_cons_succ]
    refine wpAnyH_take (oi := ⟨_, _, _, _, _, _⟩) (i := 9) (v := .pointer (some ⟨g, 0, none⟩)) rfl (by kernel_rfl) (by kernel_rfl) (by kernel_rfl) (fun _ _ _ h => h) (Or.inl ⟨by rfl, ?_⟩) (by assumption) ?_
    ·(intro W hSw; skip; go_simp; try (with_reducible rfl))
    try simp only [Act.put, List.setIfInBounds_toArray, List.set_cons_zero, List.set_cons_succ]
    refine wpAnyH_take (oi := ⟨_, _, _, _, _, _⟩) (i := 10) (v := .pointer (some ⟨g, 0, none⟩)) rfl (by kernel_rfl) (by kernel_rfl) (by kernel_rfl) (fun _ _ _ h => h) (Or.inl ⟨by rfl, ?_⟩) (by assumption) ?_
    ·(intro W hSw; skip; go_simp; try (with_reducible rfl))
    try simp only [Act.put, List.setIfInBounds_toArray, List.set_cons_zero, List.set_cons_succ]
    refine wpAnyH_ready (rs := [11]) (by kernel_rfl) (by simp) ?_
    refine AllReadyH.cons (o := ⟨_, _, _, _, _, _⟩) rfl (fun K hK => ?_) ?_
    ·have z0 := HC.out.at (k := 0) (v := .slice pu nu cu) rfl
     have z1 := HC.out.free 0
     go_simp
     clear z0 z1
     have HWR := hid (WR.put (bs := bs ++ y) HBG.out HC.out (by rw [List.length_append, ← HM.out, Lib.byteCells_append]; exact HO3.out))
     replace hS := hS.set 0 (.slice p3 n3 c3)
     clear HC HO3
     generalize W2.setCell ⟨g, 0, none⟩ (.slice p3 n3 c3) = W3 at *
     refine hK.out _ _ hS (fun _ => ?_)
     clear hK K
     try simp only [Act.put, List.setIfInBounds_toArray, List.set_cons_zero, List.set_cons_succ]
     refine wpAnyH_done (by kernel_rfl) ?_ _
     have HF := hid hS
     clear hS
     go_wp2
     (first | go_end0 | refine bodyPost_ret (results_none rfl _ _ _) rfl ?_)
     exact ⟨rfl, HWR.out, HF.out⟩
    exact AllReadyH.nil
   exact AllReadyH.nil
  exact AllReadyH.nil
 exact AllReadyH.nil
set_option maxHeartbeats 2000000 in
theorem s_of (B g : Nat) (bs : List UInt8) (n : Int) (x : Unit)  (y : List UInt8) (m : Nat) (hm : m = y.length) (w : World) (hB : B ≤ w.heap.size) (hw : WR B g bs w) (hn : bs.length + m ≤ 140737488355000)
  (HU : ∀ W, Hid (Calls Tryz.prog 267 #[.slice none 0 0, .int .i64 n] W fun e w' => ∃ g2 c2, e = .returned (.slice (some ⟨g2, 0, none⟩) m c2) ∧ w'.ownsRow W.heap.size 5 1 (.slice (some ⟨g2, 0, none⟩) m c2) m (Lib.byteCells y) ∧ Below W.heap.size W w')) :
  Calls Tryz.prog 243 #[.pointer (some ⟨g, 0, none⟩), .int .i64 n] w fun e w' => e = .returned (.tuple #[]) ∧ WR B g (bs ++ y) w' ∧ FR B g w w' := by
 obtain ⟨i0, hi, hz0, hz1, hz2⟩ := info_parts info5
 obtain ⟨hBg, u, hc, ho⟩ := hw
 obtain ⟨pu, nu, cu, rfl⟩ := own_slice ho
 have HN1 := hid (show bs.length + m ≤ maxLen by unfold maxLen; omega)
 have HN2 := hid (show (bs.length + m) * 1 ≤ 140737488355328 by omega)
 have HBG := hid hBg
 have HBW := hid hB
 have HM := hid hm
 have HC0 := hid hc
 have HO0 := hid ho
 clear hBg hc ho hm hn hB
 go_enter Tryz.func243, Tryz.ntmps243
 go_upto_region 0 with fail
 have hS : FR B g w w.drew := (FR.refl B g w).drew
 have HC : Hid (CA g #[.slice pu nu cu] 137 w.drew) := HC0
 have HO : Hid (w.drew.ownsRow B 5 1 (.slice pu nu cu) bs.length (Lib.byteCells bs)) := HO0
 clear HC0 HO0
 refine wp_region_held_drew (S := fun W => FR B g w W) (by kernel_rfl) hS (fun _ => ?_)
 generalize w.drew = W at *
 refine wpAnyH_take (oi := ⟨_, _, _, _, _, _⟩) (i := 0) (v := .pointer (some ⟨g, 0, none⟩)) rfl (by kernel_rfl) (by kernel_rfl) (by kernel_rfl) (fun _ _ _ h => h) (Or.inl ⟨by rfl, ?_⟩) (by assumption) ?_
 ·(intro W hSw; skip; go_simp; try (with_reducible rfl))
 try simp only [Act.put, List.setIfInBounds_toArray, List.set_cons_zero, List.set_cons_succ]
 refine wpAnyH_take (oi := ⟨_, _, _, _, _, _⟩) (i := 1) (v := .pointer (some ⟨g, 0, none⟩)) rfl (by kernel_rfl) (by kernel_rfl) (by kernel_rfl) (fun _ _ _ h => h) (Or.inl ⟨by rfl, ?_⟩) (by assumption) ?_
 ·(intro W hSw; skip; go_simp; try (with_reducible rfl))
 try simp only [Act.put, List.setIfInBounds_toArray, List.set_cons_zero, List.set_cons_succ]
 refine wpAnyH_take (oi := ⟨_, _, _, _, _, _⟩) (i := 2) (v := .pointer (some ⟨g, 0, none⟩)) rfl (by kernel_rfl) (by kernel_rfl) (by kernel_rfl) (fun _ _ _ h => h) (Or.inl ⟨by rfl, ?_⟩) (by assumption) ?_
 ·(intro W hSw; skip; go_simp; try (with_reducible rfl))
 try simp only [Act.put, List.setIfInBounds_toArray, List.set_cons_zero, List.set_cons_succ]
 refine wpAnyH_take (oi := ⟨_, _, _, _, _, _⟩) (i := 3) (v := .pointer (some ⟨g, 0, none⟩)) rfl (by kernel_rfl) (by kernel_rfl) (by kernel_rfl) (fun _ _ _ h => h) (Or.inl ⟨by rfl, ?_⟩) (by assumption) ?_
 ·(intro W hSw; skip; go_simp; try (with_reducible rfl))
 try simp only [Act.put, List.setIfInBounds_toArray, List.set_cons_zero, List.set_cons_succ]
 refine wpAnyH_take (oi := ⟨_, _, _, _, _, _⟩) (i := 5) (v := .int .i64 n) rfl (by kernel_rfl) (by kernel_rfl) (by kernel_rfl) (fun _ _ _ h => h) (Or.inl ⟨by rfl, ?_⟩) (by assumption) ?_
 ·(intro W hSw; skip; go_simp; try (with_reducible rfl))
 try simp only [Act.put, List.setIfInBounds_toArray, List.set_cons_zero, List.set_cons_succ]
 refine wpAnyH_ready (rs := [4, 6]) (by kernel_rfl) (by simp) ?_
 refine AllReadyH.cons (o := ⟨_, _, _, _, _, _⟩) rfl (fun K hK => ?_) ?_
 ·have z0 := HC.out.at (k := 0) (v := .slice pu nu cu) rfl
  go_simp
  clear z0
  refine hK.out _ _ hS (fun _ => ?_)
  clear hK K
  try simp only [Act.put, List.setIfInBounds_toArray, List.set_cons_zero, List.set_cons_succ]
  refine wpAnyH_ready (rs := [6]) (by kernel_rfl) (by simp) ?_
  refine AllReadyH.cons (o := ⟨_, _, _, _, _, _⟩) rfl (fun K hK => ?_) ?_
  ·go_simp
   go_at_call 267
   (with_reducible refine (HU W).out.mono ?_)
   rintro e W1 ⟨g2, c2, rfl, ho2, hb⟩
   replace HO := hid (own_kept HO.out hb)
   replace HC := hid (HC.out.below hb HC.out.lt)
   replace hS := hS.trans (FR.of hb)
   have HO2 := hid ho2
   clear hb ho2
   refine hK.out _ _ hS (fun _ => ?_)
   clear hK K
   try simp only [Act.put, List.setIfInBounds_toArray, List.set_cons_zero, List.set_cons_succ]
   refine wpAnyH_ready (rs := [7]) (by kernel_rfl) (by simp) ?_
   refine AllReadyH.cons (o := ⟨_, _, _, _, _, _⟩) rfl (fun K hK => ?_) ?_
   ·refine step_append_own rfl (.tmp 8) (.tmp 10) 52 rfl B 5 i0 (.int .u8 0) 1 1 Tryz.underlying52 hi hz0 hz1 hz2 rfl (by decide) (.slice pu nu cu) bs.length (Lib.byteCells bs) rfl HO.out ⟨g2, 0, none⟩ m c2 (Lib.byteCells y) rfl (by rw [Lib.byteCells_length, HM.out, Nat.mul_one]) (own_cells HO2.out) (byteCells_one y) HN1.out HN2.out (Nat.le_trans HBW.out hS.size) ?_
    intro v3 W2 ho3 hg3
    replace HC := hid (WR.set_row HC.out HO.out hg3)
    replace hS := hS.trans (FR.grown HO.out hg3)
    clear HO HO2
    obtain ⟨p3, n3, c3, rfl⟩ := own_slice ho3
    have HO3 := hid ho3
    clear ho3 hg3
    refine hK.out _ _ hS (fun _ => ?_)
    clear hK K
    try simp only [Act.put, List.setIfInBounds_toArray, List.set_cons_zero, List.set_cons_succ]
    refine wpAnyH_take (oi := ⟨_, _, _, _, _, _⟩) (i := 8) (v := .pointer (some ⟨g, 0, none⟩)) rfl (by kernel_rfl) (by kernel_rfl) (by kernel_rfl) (fun _ _ _ h => h) (Or.inl ⟨by rfl, ?_⟩) (by assumption) ?_
    ·(intro W hSw; skip; go_simp; try (with_reducible rfl))
    try simp only [Act.put, List.setIfInBounds_toArray, List.set_cons_zero, List.set_cons_succ]
    refine wpAnyH_take (oi := ⟨_, _, _, _, _, _⟩) (i := 9) (v := .pointer (some ⟨g, 0, none⟩)) rfl (by kernel_rfl) (by kernel_rfl) (by kernel_rfl) (fun _ _ _ h => h) (Or.inl ⟨by rfl, ?_⟩) (by assumption) ?_
    ·(intro W hSw; skip; go_simp; try (with_reducible rfl))
    try simp only [Act.put, List.setIfInBounds_toArray, List.set_cons_zero, List.set_cons_succ]
    refine wpAnyH_ready (rs := [10]) (by kernel_rfl) (by simp) ?_
    refine AllReadyH.cons (o := ⟨_, _, _, _, _, _⟩) rfl (fun K hK => ?_) ?_
    ·have z0 := HC.out.at (k := 0) (v := .slice pu nu cu) rfl
     have z1 := HC.out.free 0
     go_simp
     clear z0 z1
     have HWR := hid (WR.put (bs := bs ++ y) HBG.out HC.out (by rw [List.length_append, ← HM.out, Lib.byteCells_append]; exact HO3.out))
     replace hS := hS.set 0 (.slice p3 n3 c3)
     clear HC HO3
     generalize W2.setCell ⟨g, 0, none⟩ (.slice p3 n3 c3) = W3 at *
     refine hK.out _ _ hS (fun _ => ?_)
     clear hK K
     try simp only [Act.put, List.setIfInBounds_toArray, List.set_cons_zero, List.set_cons_succ]
     refine wpAnyH_done (by kernel_rfl) ?_ _
     have HF := hid hS
     clear hS
     go_wp2
     (first | go_end0 | refine bodyPost_ret (results_none rfl _ _ _) rfl ?_)
     exact ⟨rfl, HWR.out, HF.out⟩
    exact AllReadyH.nil
   exact AllReadyH.nil
  exact AllReadyH.nil
 refine AllReadyH.cons (o := ⟨_, _, _, _, _, _⟩) rfl (fun K hK => ?_) ?_
 ·go_simp
  go_at_call 267
  (with_reducible refine (HU W).out.mono ?_)
  rintro e W1 ⟨g2, c2, rfl, ho2, hb⟩
  replace HO := hid (own_kept HO.out hb)
  replace HC := hid (HC.out.below hb HC.out.lt)
  replace hS := hS.trans (FR.of hb)
  have HO2 := hid ho2
  clear hb ho2
  refine hK.out _ _ hS (fun _ => ?_)
  clear hK K
  try simp only [Act.put, List.setIfInBounds_toArray, List.set_cons_zero, List.set_cons_succ]
  refine wpAnyH_ready (rs := [4]) (by kernel_rfl) (by simp) ?_
  refine AllReadyH.cons (o := ⟨_, _, _, _, _, _⟩) rfl (fun K hK => ?_) ?_
  ·have z0 := HC.out.at (k := 0) (v := .slice pu nu cu) rfl
   go_simp
   clear z0
   refine hK.out _ _ hS (fun _ => ?_)
   clear hK K
   try simp only [Act.put, List.setIfInBounds_toArray, List.set_cons_zero, List.set_cons_succ]
   refine wpAnyH_ready (rs := [7]) (by kernel_rfl) (by simp) ?_
   refine AllReadyH.cons (o := ⟨_, _, _, _, _, _⟩) rfl (fun K hK => ?_) ?_
   ·refine step_append_own rfl (.tmp 8) (.tmp 10) 52 rfl B 5 i0 (.int .u8 0) 1 1 Tryz.underlying52 hi hz0 hz1 hz2 rfl (by decide) (.slice pu nu cu) bs.length (Lib.byteCells bs) rfl HO.out ⟨g2, 0, none⟩ m c2 (Lib.byteCells y) rfl (by rw [Lib.byteCells_length, HM.out, Nat.mul_one]) (own_cells HO2.out) (byteCells_one y) HN1.out HN2.out (Nat.le_trans HBW.out hS.size) ?_
    intro v3 W2 ho3 hg3
    replace HC := hid (WR.set_row HC.out HO.out hg3)
    replace hS := hS.trans (FR.grown HO.out hg3)
    clear HO HO2
    obtain ⟨p3, n3, c3, rfl⟩ := own_slice ho3
    have HO3 := hid ho3
    clear ho3 hg3
    refine hK.out _ _ hS (fun _ => ?_)
    clear hK K
    try simp only [Act.put, List.setIfInBounds_toArray, List.set_cons_zero, List.set_cons_succ]
    refine wpAnyH_take (oi := ⟨_, _, _, _, _, _⟩) (i := 8) (v := .pointer (some ⟨g, 0, none⟩)) rfl (by kernel_rfl) (by kernel_rfl) (by kernel_rfl) (fun _ _ _ h => h) (Or.inl ⟨by rfl, ?_⟩) (by assumption) ?_
    ·(intro W hSw; skip; go_simp; try (with_reducible rfl))
    try simp only [Act.put, List.setIfInBounds_toArray, List.set_cons_zero, List.set_cons_succ]
    refine wpAnyH_take (oi := ⟨_, _, _, _, _, _⟩) (i := 9) (v := .pointer (some ⟨g, 0, none⟩)) rfl (by kernel_rfl) (by kernel_rfl) (by kernel_rfl) (fun _ _ _ h => h) (Or.inl ⟨by rfl, ?_⟩) (by assumption) ?_
    ·(intro W hSw; skip; go_simp; try (with_reducible rfl))
    try simp only [Act.put, List.setIfInBounds_toArray, List.set_cons_zero, List.set_cons_succ]
    refine wpAnyH_ready (rs := [10]) (by kernel_rfl) (by simp) ?_
    refine AllReadyH.cons (o := ⟨_, _, _, _, _, _⟩) rfl (fun K hK => ?_) ?_
    ·have z0 := HC.out.at (k := 0) (v := .slice pu nu cu) rfl
     have z1 := HC.out.free 0
     go_simp
     clear z0 z1
     have HWR := hid (WR.put (bs := bs ++ y) HBG.out HC.out (by rw [List.length_append, ← HM.out, Lib.byteCells_append]; exact HO3.out))
     replace hS := hS.set 0 (.slice p3 n3 c3)
     clear HC HO3
     generalize W2.setCell ⟨g, 0, none⟩ (.slice p3 n3 c3) = W3 at *
     refine hK.out _ _ hS (fun _ => ?_)
     clear hK K
     try simp only [Act.put, List.setIfInBounds_toArray, List.set_cons_zero, List.set_cons_succ]
     refine wpAnyH_done (by kernel_rfl) ?_ _
     have HF := hid hS
     clear hS
     go_wp2
     (first | go_end0 | refine bodyPost_ret (results_none rfl _ _ _) rfl ?_)
     exact ⟨rfl, HWR.out, HF.out⟩
    exact AllReadyH.nil
   exact AllReadyH.nil
  exact AllReadyH.nil
 exact AllReadyH.nil
theorem u_says (B g : Nat) (bs : List UInt8) (n : Int) (w : World) (hB : B ≤ w.heap.size) (hw : WR B g bs w) (hn : bs.length + 10 ≤ 140737488355000) :
  Calls Tryz.prog 105 #[.pointer (some ⟨g, 0, none⟩), .int .i64 n] w fun e w' => e = .returned (.tuple #[]) ∧ WR B g (bs ++ uI n) w' ∧ FR B g w w' := by
 obtain ⟨x, hx⟩ : ∃ x : Nat, x = (n % 18446744073709551616).toNat := ⟨_, rfl⟩
 have hl := ulist_length64 (x := x) (by omega)
 have hp := ulist_pos x
 refine u_of B g bs n x (by rw [show IntKind.u64.wrap n = n % 18446744073709551616 from rfl]; omega) (uI n) (uI n).length rfl w hB hw (by have := uI_len n; omega) (fun W => ?_)
 refine (U_in 0 (.slice none 0 0) [] x (by omega) W (.inl (.inl ⟨rfl, rfl⟩)) (Nat.zero_le _) (by simp)).mono ?_
 rintro e w' ⟨v, rfl, ho, hb⟩
 rw [List.nil_append, hx] at ho
 rw [hx] at hp
 obtain ⟨g2, c2, rfl⟩ := own_at ho hp
 exact ⟨g2, c2, rfl, ho, hb⟩
theorem s_says (B g : Nat) (bs : List UInt8) (n : Int) (h0 : -9223372036854775808 ≤ n) (h1 : n ≤ 9223372036854775807) (w : World) (hB : B ≤ w.heap.size) (hw : WR B g bs w) (hn : bs.length + 10 ≤ 140737488355000) :
  Calls Tryz.prog 243 #[.pointer (some ⟨g, 0, none⟩), .int .i64 n] w fun e w' => e = .returned (.tuple #[]) ∧ WR B g (bs ++ slist n) w' ∧ FR B g w w' := by
 have hl := slist_length64 h0 h1
 have hp := slist_pos n
 refine s_of B g bs n () (slist n) (slist n).length rfl w hB hw (by omega) (fun W => ?_)
 refine (S_in 0 (.slice none 0 0) [] n h0 h1 W (.inl (.inl ⟨rfl, rfl⟩)) (Nat.zero_le _) (by simp)).mono ?_
 rintro e w' ⟨v, rfl, ho, hb⟩
 rw [List.nil_append] at ho
 obtain ⟨g2, c2, rfl⟩ := own_at ho hp
 exact ⟨g2, c2, rfl, ho, hb⟩
end Go.Proofs.YtjgeedgphcjhoaaGreat
namespace Go.Proofs.YtjgeedgphcjhoaaGreat
open Go.RowKit
theorem WR.base {B g : Nat} {bs : List UInt8} {w : World} (h : WR B g bs w) : B ≤ w.heap.size := Nat.le_trans h.1 (Nat.le_of_lt h.lt)
set_option maxHeartbeats 1000000 in
theorem op_says (B g : Nat) (bs : List UInt8) (op : Int) (h0 : 0 ≤ op) (h1 : op < 65024) (w : World) (hw : WR B g bs w) (hn : bs.length + 20 ≤ 140737488355000) :
  Calls Tryz.prog 240 #[.pointer (some ⟨g, 0, none⟩), .int .i64 op] w fun e w' => e = .returned (.tuple #[]) ∧ WR B g (bs ++ opL op) w' ∧ FR B g w w' := by
 have HW := hid hw
 have HN := hid hn
 have HN1 := fun x : Int => hid (show bs.length + [x].length ≤ 140737488355000 by simp; omega)
 have HN2 := fun x : Int => hid (show (bs ++ List.map byI [x]).length + 10 ≤ 140737488355000 by simp; omega)
 unfold opL
 by_cases c1 : 64768 ≤ op
 ·rw [if_pos c1]
  clear hw hn h0
  go_enter Tryz.func240, Tryz.ntmps240
  go_wp2_with (first
   | (go_at_call 169; (with_reducible refine (bytes_says B g bs [253] _ _ (HW.out.alloc _) (LT.one 253 1 HW.out.lt) (HN1 _).out).mono ?_); rintro e w1 ⟨rfl, hw1, hf1⟩; have HW1 := hid hw1; have HF1 := hid (((FR.refl B g w).alloc _).trans hf1); clear hw1 hf1)
   | (go_at_call 105; (with_reducible refine (u_says B g _ (op - 64768) _ HW1.out.base HW1.out (HN2 _).out).mono ?_); rintro e w2 ⟨rfl, hw2, hf2⟩; have HW2 := hid hw2; have HF2 := hid (HF1.out.trans hf2); clear hw2 hf2))
  (first | go_end0 | refine bodyPost_ret (results_none rfl _ _ _) rfl ?_)
  exact ⟨rfl, by have := HW2.out; rw [List.append_assoc] at this; exact this, HF2.out⟩
 ·rw [if_neg c1]
  by_cases c2 : 64512 ≤ op
  ·rw [if_pos c2]
   clear hw hn h0
   go_enter Tryz.func240, Tryz.ntmps240
   go_wp2_with (first
    | (go_at_call 169; (with_reducible refine (bytes_says B g bs [252] _ _ (HW.out.alloc _) (LT.one 252 1 HW.out.lt) (HN1 _).out).mono ?_); rintro e w1 ⟨rfl, hw1, hf1⟩; have HW1 := hid hw1; have HF1 := hid (((FR.refl B g w).alloc _).trans hf1); clear hw1 hf1)
    | (go_at_call 105; (with_reducible refine (u_says B g _ (op - 64512) _ HW1.out.base HW1.out (HN2 _).out).mono ?_); rintro e w2 ⟨rfl, hw2, hf2⟩; have HW2 := hid hw2; have HF2 := hid (HF1.out.trans hf2); clear hw2 hf2))
   (first | go_end0 | refine bodyPost_ret (results_none rfl _ _ _) rfl ?_)
   exact ⟨rfl, by have := HW2.out; rw [List.append_assoc] at this; exact this, HF2.out⟩
  ·rw [if_neg c2]
   clear hw hn
   go_enter Tryz.func240, Tryz.ntmps240
   go_wp2_with (first
    | (go_at_call 169; (with_reducible refine (bytes_says B g bs [op] _ _ (HW.out.alloc _) (LT.one op 1 HW.out.lt) (HN1 _).out).mono ?_); rintro e w1 ⟨rfl, hw1, hf1⟩; have HW1 := hid hw1; have HF1 := hid (((FR.refl B g w).alloc _).trans hf1); clear hw1 hf1))
   (first | go_end0 | refine bodyPost_ret (results_none rfl _ _ _) rfl ?_)
   exact ⟨rfl, HW1.out, HF1.out⟩
theorem byI_cast (q : Nat) : byI ((q : Nat) : Int) = (q % 256).toUInt8 := by
 unfold byI
 congr 1
set_option maxHeartbeats 1000000 in
theorem little_any (B g : Nat) (bs : List UInt8) (k v : Nat) (hk : k ≤ 100) (hv : v < 18446744073709551616) (w : World) (hw : WR B g bs w) (hn : bs.length + 120 ≤ 140737488355000) :
  Calls Tryz.prog 245 #[.pointer (some ⟨g, 0, none⟩), .int .i64 k, .int .u64 (v : Nat)] w fun e w' => e = .returned (.tuple #[]) ∧ WR B g (bs ++ lowL k v) w' ∧ FR B g w w' := by
 have HW := hid hw
 have HN := hid hn
 have HV := hid hv
 clear hw hn
 go_enter Tryz.func245, Tryz.ntmps245
 go_wp2
 go_loopw [2, 7] (fun vn vi wr => ∃ (i q : Nat) (pre : List UInt8), i ≤ k ∧ vi = .int .i64 i ∧ vn = .int .u64 (q : Nat) ∧ q < 18446744073709551616 ∧ Hid (pre.length = i ∧ lowL k v = pre ++ lowL (k - i) q) ∧ Hid (WR B g (bs ++ pre) wr) ∧ Hid (FR B g w wr)) (fun _ vi _ => k - (intOf vi).toNat)
 case atStart => exact ⟨0, v, [], Nat.zero_le _, rfl, rfl, HV.out, ⟨rfl, rfl⟩, by simpa using HW, FR.refl _ _ _⟩
 case round =>
  obtain ⟨i, q, pre, hi, rfl, rfl, hq, HS, HR, HF⟩ := hrel
  by_cases hlt : i < k
  ·obtain ⟨hBg, u, hc, ho⟩ := HR.out
   obtain ⟨pu, nu, cu, rfl⟩ := own_slice ho
   have y0 := hc.at (k := 0) (v := .slice pu nu cu) rfl
   have HC := hid hc
   have HO := hid ho
   have HBG := hid hBg
   have HLE : Hid ((bs ++ pre).length + 1 ≤ 140737488355328) := by
    have := HN.out
    have := HS.out.1
    simp only [Hid, List.length_append]
    omega
   have HNX : Hid (lowL k v = (pre ++ [byI q]) ++ lowL (k - (i + 1)) (q / 256)) := by
    have := HS.out.2
    obtain ⟨j, hj⟩ : ∃ j, k - i = j + 1 := ⟨k - i - 1, by omega⟩
    rw [hj, lowL] at this
    rw [show k - (i + 1) = j by omega, byI_cast]
    simpa [Hid] using this
   clear hc ho hBg hi
   go_wp2_with (at_builtin; refine append_byteF rfl _ _ rfl B g _ _ q w HBG.out HC.out HO.out HLE.out HF.out _ rfl rfl rfl ?_; intro v2 w2 ho2 hc2 hf2; obtain ⟨p2, m2, c2, rfl⟩ := own_slice ho2; have y1 := hc2.at (k := 0) (v := .slice pu nu cu) rfl; have y2 := hc2.free 0; have HO2 := hid ho2; have HC2 := hid hc2; have HF2 := hid hf2; clear ho2 hc2 hf2)
   go_roundw
   case rel =>
    refine ⟨i + 1, q / 256, pre ++ [byI q], hlt, by go_num, by go_num, by omega, hid ⟨by simp [HS.out.1], HNX.out⟩, ?_, hid (HF2.out.set 0 _)⟩
    rw [← List.append_assoc]
    exact WR.put HBG.out HC2.out HO2.out
   case measure => simp [intOf]; omega
  ·obtain rfl : i = k := by omega
   go_wp2
   (first | go_end0 | refine bodyPost_ret (results_none rfl _ _ _) rfl ?_)
   refine ⟨rfl, ?_, HF.out⟩
   have := HR.out
   rw [HS.out.2, Nat.sub_self, lowL, List.append_nil]
   exact this
theorem little_4 (B g : Nat) (bs : List UInt8) (v : Nat) (hv : v < 18446744073709551616) (w : World) (hw : WR B g bs w) (hn : bs.length + 120 ≤ 140737488355000) :
  Calls Tryz.prog 245 #[.pointer (some ⟨g, 0, none⟩), .int .i64 4, .int .u64 (v : Nat)] w fun e w' => e = .returned (.tuple #[]) ∧ WR B g (bs ++ lowL 4 v) w' ∧ FR B g w w' := little_any B g bs 4 v (by omega) hv w hw hn
theorem little_8 (B g : Nat) (bs : List UInt8) (v : Nat) (hv : v < 18446744073709551616) (w : World) (hw : WR B g bs w) (hn : bs.length + 120 ≤ 140737488355000) :
  Calls Tryz.prog 245 #[.pointer (some ⟨g, 0, none⟩), .int .i64 8, .int .u64 (v : Nat)] w fun e w' => e = .returned (.tuple #[]) ∧ WR B g (bs ++ lowL 8 v) w' ∧ FR B g w w' := little_any B g bs 8 v (by omega) hv w hw hn
/-- The bytes of each, one behind the other. -/
def flL (F : Int → List UInt8) : List Int → List UInt8
 | [] => []
 | x :: l => F x ++ flL F l
theorem flL_snoc (F : Int → List UInt8) : ∀ (l : List Int) (x : Int), flL F (l ++ [x]) = flL F l ++ F x
 | [], x => by simp [flL]
 | y :: l, x => by simp [flL, flL_snoc F l x]
theorem flL_len (F : Int → List UInt8) (hF : ∀ x, (F x).length ≤ 10) : ∀ l : List Int, (flL F l).length ≤ 10 * l.length
 | [] => Nat.le_refl _
 | x :: l => by
  have := flL_len F hF l
  have := hF x
  simp only [flL, List.length_append, List.length_cons]
  omega
theorem flL_us : ∀ l, flL uI l = usL l
 | [] => rfl
 | x :: l => by rw [flL, usL, flL_us l]
theorem flL_by : ∀ l, flL (fun x => [byI x]) l = l.map byI
 | [] => rfl
 | x :: l => by rw [flL, flL_by l]; rfl
set_option maxHeartbeats 2000000 in
theorem list_int (B g b : Nat) (k : Nat) (eg : ∀ args w, (callFunc k args).run Tryz.prog w = .ok (.enter k args) w) (F : Int → List UInt8) (hF : ∀ x, (F x).length ≤ 10) (bs : List UInt8) (l : List Int) (v : Value) (w : World) (hbg : b ≠ g) (hb : CA b #[.pointer (some ⟨g, 0, none⟩)] 135 w)
  (hk : ∀ bs x W, WR B g bs W → CA b #[.pointer (some ⟨g, 0, none⟩)] 135 W → bs.length + 20 ≤ 140737488355000 → Calls Tryz.prog k #[.int .i64 x, .pointer (some ⟨b, 0, none⟩)] W fun e w' => e = .returned (.tuple #[]) ∧ WR B g (bs ++ F x) w' ∧ FR B g W w')
  (hw : WR B g bs w) (hl : LT B g w v l) (hn : bs.length + 40 + 10 * l.length ≤ 140737488355000) :
  Calls Tryz.prog 226 #[.pointer (some ⟨g, 0, none⟩), v, .func (.func k) #[] #[.pointer (some ⟨b, 0, none⟩)]] w fun e w' => e = .returned (.tuple #[]) ∧ WR B g (bs ++ uI l.length ++ flL F l) w' ∧ FR B g w w' := by
 obtain ⟨p, c, rfl, hq, hl2⟩ := id hl
 obtain ⟨n, hnl⟩ : ∃ n, n = l.length := ⟨_, rfl⟩
 have HNL := hid hnl
 rw [← hnl] at hq ⊢
 have HP := hid hl2
 have HW := hid hw
 have HN := hid hn
 have HN1 := hid (show bs.length + 10 ≤ 140737488355000 by omega)
 have hn62 : (n : Int) < 9223372036854775807 := by omega
 have HK := hid hk
 have HB := hid hb
 have HBG := hid hbg
 have HFL := hid hF
 have HUL := hid (uI_len n)
 clear hl2 hl hw hn hnl hq hk hb hbg hF
 go_enter Tryz.func226, Tryz.ntmps226
 go_upto_region 1 with (go_at_call 105; (with_reducible refine (u_says B g bs n _ HW.out.base HW.out HN1.out).mono ?_); rintro e w1 ⟨rfl, hw1, hf1⟩; have HW1 := hid hw1; have HF1 := hid hf1; clear hw1 hf1)
 go_wp2
 go_loopw [14] (fun vi wr => ∃ i : Nat, i ≤ n ∧ vi = .int .i64 i ∧ Hid (WR B g (bs ++ uI n ++ flL F (l.take i)) wr) ∧ Hid (FR B g w wr)) (fun vi _ => n - (intOf vi).toNat)
 case atStart => exact ⟨0, Nat.zero_le _, rfl, by simpa [flL] using HW1, HF1⟩
 case round =>
  obtain ⟨i, hi, rfl, HR, HF⟩ := hrel
  by_cases hlt : i < n
  ·have hll : i < l.length := by rw [← HNL.out]; exact hlt
   obtain ⟨x, hx⟩ : ∃ x, l[i]? = some x := ⟨l[i], List.getElem?_eq_getElem hll⟩
   obtain ⟨kb, o, rfl, hkn, hcell⟩ := HP.out (by intro e; rw [e] at hll; simp at hll)
   have z0 := hcell i x hx
   rw [← World.cell?_of_block (HF.out.block kb hkn)] at z0
   have HX : Hid (flL F (l.take (i + 1)) = flL F (l.take i) ++ F x) := by
    rw [List.take_add_one, hx]
    exact flL_snoc F _ x
   have HLE : Hid ((bs ++ uI n ++ flL F (l.take i)).length + 20 ≤ 140737488355000) := by
    have h1 := HN.out
    have h2 := flL_len F HFL.out (l.take i)
    have h3 := HUL.out
    simp only [Hid, List.length_append, List.length_take] at h2 ⊢
    omega
   have HKX := fun W h1 h2 => hid (HK.out _ x W h1 h2 HLE.out)
   have HBR := hid (HB.out.fr HF.out (by decide) HBG.out)
   clear hcell hx hkn hll hi
   go_wp2_with (go_at_fn k; (with_reducible refine (HKX _ HR.out HBR.out).out.mono ?_); rintro e w2 ⟨rfl, hw2, hf2⟩; have HW2 := hid hw2; have HF2 := hid (HF.out.trans hf2); clear hw2 hf2)
   go_roundw
   case rel =>
    refine ⟨i + 1, hlt, by go_num, ?_, HF2⟩
    rw [HX.out, ← List.append_assoc]
    exact HW2
   case measure => simp [intOf]; omega
  ·obtain rfl : i = n := by omega
   go_wp2
   (first | go_end0 | refine bodyPost_ret (results_none rfl _ _ _) rfl ?_)
   refine ⟨rfl, ?_, HF.out⟩
   have := HR.out
   rw [HNL.out, List.take_length, ← HNL.out] at this
   exact this
end Go.Proofs.YtjgeedgphcjhoaaGreat
