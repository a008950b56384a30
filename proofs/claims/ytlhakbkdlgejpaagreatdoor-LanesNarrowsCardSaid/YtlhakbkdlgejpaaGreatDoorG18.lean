/-
  LVNar, LNDo: merged, what the law does not reach left out (each text says what it holds where it lies in wip). No condition.
-/
import Derived.Test.YtlhakbkdlgejpaaGreatDoorG06
import Derived.Test.YtlhakbkdlgejpaaGreatDoorG17
import Derived.Test.YtlhakbkdlgejpaaGreatDoorG03
import Derived.Laws.AppendOwn
import Derived.Test.YtlhakbkdlgejpaaGreatDoorG12
set_option linter.unusedSimpArgs false
set_option linter.unusedVariables false
set_option maxRecDepth 100000
namespace Go.Proofs.YtlhakbkdlgejpaaGreatDoor
open Go.RowKit
theorem step_append_own {P : Program} {ops : Array Oper} {o : Oper} {a : Act} {w : World} {K : Act → World → Prop} {Q : Exit → Act → World → Prop} {E : Prop} (hgd : o.guard = none) (s x : Operand) (t : TypeId)
  (ho : o.op = .call { callee := .builtin .append, args := #[s, x], argTypes := #[t, t] }) (base : Nat) (e : TypeId) (i : TypeInfo) (z : Value) (size bytes : Nat) (ht : P.underlying t = some (.slice e)) (hi : P.info? e = some i) (hz : i.zero = some z)
  (hsize : i.size = size) (hby : i.bytes = bytes) (hzs : z.cells.size = size) (hsz : 0 < size) (v : Value) (n : Nat) (xs : List Value) (hs : a.eval s = v) (hown : w.ownsRow base e size v n xs)
  (ad : Addr) (m c : Nat) (news : List Value) (hx : a.eval x = .slice (some ad) m c) (hl : news.length = m * size) (hnews : ∀ j u, news[j]? = some u → w.cell? (ad.add j) = some u) (h1 : ∀ u ∈ news, u.oneCell' = true)
  (h63 : n + m ≤ maxLen) (hbytes : (n + m) * bytes ≤ 140737488355328) (hbase : base ≤ w.heap.size)
  (h : ∀ v' w', w'.ownsRow base e size v' (n + m) (xs ++ news) → w.grownBy w' v.ownBlock → K (a.put o.dst v') w') :
  if Region.wanted o (yielded ops a.tmps) = true then Oper.wp P o a w K Q else E := by
 have hw : Region.wanted o (yielded ops a.tmps) = true := by simp [Region.wanted, hgd]
 rw [if_pos hw]
 obtain ⟨v', w', hrun, r1, r2, _⟩ := run_append_own (P := P) w base t o.type e i z size bytes ht hi hz hsize hby hzs hsz v n xs hown ad m c news hl hnews h1 h63 hbytes hbase
 unfold Oper.wp
 simp [execOp, ho, resolve, invoke, builtin, hs, hx, hrun, Result.andThen]
 exact h _ _ r1 r2
theorem add_plain (g o j : Nat) : ((⟨g, o, none⟩ : Addr).add j) = ⟨g, o + j, none⟩ := by (simp [Addr.add]; try (intro h; subst h; rfl))
theorem fc_append (c d : Nat) (F G : Nat → Nat) : fc c F ++ fc d G = fc (c + d) (fun i => if i < c then F i else G (i - c)) := by
 apply List.ext_getElem?
 intro j
 rw [List.getElem?_append, fc_length]
 by_cases h1 : j < c
 ·rw [if_pos h1, fc_get h1, fc_get (by omega), if_pos h1]
 ·rw [if_neg h1]
  by_cases h2 : j < c + d
  ·rw [fc_get (by omega), fc_get h2, if_neg h1]
  ·rw [List.getElem?_eq_none (by rw [fc_length]; omega), List.getElem?_eq_none (by rw [fc_length]; omega)]
set_option maxHeartbeats 4000000 in
theorem vector_nar (ff : Bool) (fb : Int) (tf : Bool) (tb : Int) (sg : Bool) (vi va : Value) (c : Nat) (hc1 : 1 ≤ c) (hc : c ≤ 16) (F G R : Nat → Nat) (w : World)
  (H0 : ∀ W, Below w.heap.size w W → Calls Tryz.prog 64 #[insV [110, 97, 114, 114, 111, 119] ff fb tf tb sg, va, .int .i64 0] W (LPost W c F))
  (H1 : ∀ W, Below w.heap.size w W → Calls Tryz.prog 64 #[insV [110, 97, 114, 114, 111, 119] ff fb tf tb sg, va, .int .i64 1] W (LPost W c G))
  (HN : ∀ W vl, RowAt W vl (c + c) (fun i => if i < c then F i else G (i - c)) → Calls Tryz.prog 68 #[insV [110, 97, 114, 114, 111, 119] ff fb tf tb sg, vl] W (LPost W (c + c) R)) :
  Calls Tryz.prog 34 #[insV [110, 97, 114, 114, 111, 119] ff fb tf tb sg, vi, va] w (LPost w (c + c) R) := by
 unfold insV at H0 H1 HN ⊢
 obtain ⟨i0, hi0, hz0, hz1, hz2⟩ := info_parts info22
 obtain ⟨s, hs⟩ : ∃ s, s = str [110, 97, 114, 114, 111, 119] := ⟨_, rfl⟩
 rw [← hs] at H0 H1 HN ⊢
 have q0 : (s.toList == [115, 112, 108, 97, 116]) = false := by rw [hs, str_list]; decide
 have q1 : (s.toList == [114, 101, 112, 108, 97, 99, 101, 95, 108, 97, 110, 101]) = false := by rw [hs, str_list]; decide
 have q2 : (s.toList == [115, 104, 117, 102, 102, 108, 101]) = false := by rw [hs, str_list]; decide
 have q3 : (s.toList == [115, 119, 105, 122, 122, 108, 101]) = false := by rw [hs, str_list]; decide
 have q4 : (s.toList == [98, 105, 116, 115, 101, 108, 101, 99, 116]) = false := by rw [hs, str_list]; decide
 have q5 : (s.toList == [110, 97, 114, 114, 111, 119]) = true := by rw [hs, str_list]; decide
 clear hs
 have HH0 := fun W h => hid (H0 W h)
 have HH1 := fun W h => hid (H1 W h)
 have HHN := fun W vl h => hid (HN W vl h)
 have HFC := hid (fc_append c c F G)
 clear H0 H1 HN
 go_enter Tryz.func34, Tryz.ntmps34
 go_upto_region 1 with fail
 have hS : Below w.heap.size w (w.alloc (.cells #[.string s, .bool ff, .int .i64 fb, .bool tf, .int .i64 tb, .bool sg] 50)).drew ∧ CA w.heap.size #[.string s, .bool ff, .int .i64 fb, .bool tf, .int .i64 tb, .bool sg] 50 (w.alloc (.cells #[.string s, .bool ff, .int .i64 fb, .bool tf, .int .i64 tb, .bool sg] 50)).drew := ⟨((Below.refl _ w).alloc (Nat.le_refl _) _).drew, (CA.new w _ 50).drew⟩
 refine wp_region_held_drew (S := fun W => Below w.heap.size w W ∧ CA w.heap.size #[.string s, .bool ff, .int .i64 fb, .bool tf, .int .i64 tb, .bool sg] 50 W) (by kernel_rfl) hS (fun _ => ?_)
 generalize (w.alloc (.cells #[.string s, .bool ff, .int .i64 fb, .bool tf, .int .i64 tb, .bool sg] 50)).drew = W at *
 refine wpAnyH_take (oi := ⟨_, _, _, _, _, _⟩) (i := 0) (v := .agg #[.string s, .bool ff, .int .i64 fb, .bool tf, .int .i64 tb, .bool sg]) rfl (by kernel_rfl) (by kernel_rfl) (by kernel_rfl) (fun _ _ _ h => h) (Or.inl ⟨by rfl, ?_⟩) (by assumption) ?_
 ·(intro W hSw; have x0 := hSw.2.at (k := 0) (v := .string s) rfl; have x1 := hSw.2.at (k := 1) (v := .bool ff) rfl; have x2 := hSw.2.at (k := 2) (v := .int .i64 fb) rfl; have x3 := hSw.2.at (k := 3) (v := .bool tf) rfl; have x4 := hSw.2.at (k := 4) (v := .int .i64 tb) rfl; have x5 := hSw.2.at (k := 5) (v := .bool sg) rfl; go_simp; try (with_reducible rfl))
 try simp only [Act.put, List.setIfInBounds_toArray, List.set_cons_zero, List.set_cons_succ]
 refine wpAnyH_take (oi := ⟨_, _, _, _, _, _⟩) (i := 1) (v := va) rfl (by kernel_rfl) (by kernel_rfl) (by kernel_rfl) (fun _ _ _ h => h) (Or.inl ⟨by rfl, ?_⟩) (by assumption) ?_
 ·(intro W hSw; have x0 := hSw.2.at (k := 0) (v := .string s) rfl; have x1 := hSw.2.at (k := 1) (v := .bool ff) rfl; have x2 := hSw.2.at (k := 2) (v := .int .i64 fb) rfl; have x3 := hSw.2.at (k := 3) (v := .bool tf) rfl; have x4 := hSw.2.at (k := 4) (v := .int .i64 tb) rfl; have x5 := hSw.2.at (k := 5) (v := .bool sg) rfl; go_simp; try (with_reducible rfl))
 try simp only [Act.put, List.setIfInBounds_toArray, List.set_cons_zero, List.set_cons_succ]
 refine wpAnyH_take (oi := ⟨_, _, _, _, _, _⟩) (i := 3) (v := .agg #[.string s, .bool ff, .int .i64 fb, .bool tf, .int .i64 tb, .bool sg]) rfl (by kernel_rfl) (by kernel_rfl) (by kernel_rfl) (fun _ _ _ h => h) (Or.inl ⟨by rfl, ?_⟩) (by assumption) ?_
 ·(intro W hSw; have x0 := hSw.2.at (k := 0) (v := .string s) rfl; have x1 := hSw.2.at (k := 1) (v := .bool ff) rfl; have x2 := hSw.2.at (k := 2) (v := .int .i64 fb) rfl; have x3 := hSw.2.at (k := 3) (v := .bool tf) rfl; have x4 := hSw.2.at (k := 4) (v := .int .i64 tb) rfl; have x5 := hSw.2.at (k := 5) (v := .bool sg) rfl; go_simp; try (with_reducible rfl))
 try simp only [Act.put, List.setIfInBounds_toArray, List.set_cons_zero, List.set_cons_succ]
 refine wpAnyH_take (oi := ⟨_, _, _, _, _, _⟩) (i := 4) (v := va) rfl (by kernel_rfl) (by kernel_rfl) (by kernel_rfl) (fun _ _ _ h => h) (Or.inl ⟨by rfl, ?_⟩) (by assumption) ?_
 ·(intro W hSw; have x0 := hSw.2.at (k := 0) (v := .string s) rfl; have x1 := hSw.2.at (k := 1) (v := .bool ff) rfl; have x2 := hSw.2.at (k := 2) (v := .int .i64 fb) rfl; have x3 := hSw.2.at (k := 3) (v := .bool tf) rfl; have x4 := hSw.2.at (k := 4) (v := .int .i64 tb) rfl; have x5 := hSw.2.at (k := 5) (v := .bool sg) rfl; go_simp; try (with_reducible rfl))
 try simp only [Act.put, List.setIfInBounds_toArray, List.set_cons_zero, List.set_cons_succ]
 refine wpAnyH_ready (rs := [2]) (by kernel_rfl) (by simp) ?_
 refine AllReadyH.cons (o := ⟨_, _, _, _, _, _⟩) rfl (fun K hK => ?_) ?_
 ·go_simp
  go_at_call 64
  (with_reducible refine (HH0 _ hS.1).out.mono ?_)
  rintro e W1 ⟨v1, rfl, ho1, hb⟩
  have hlt0 : w.heap.size + 1 ≤ W.heap.size := hS.2.lt
  have HO1 := hid (own_mono ho1 hlt0)
  replace hS := And.intro (hS.1.trans (hb.mono hS.1.size)) (hS.2.call hb)
  clear hb ho1
  refine hK.out _ _ hS (fun _ => ?_)
  clear hK K
  try simp only [Act.put, List.setIfInBounds_toArray, List.set_cons_zero, List.set_cons_succ]
  refine wpAnyH_ready (rs := [5]) (by kernel_rfl) (by simp) ?_
  refine AllReadyH.cons (o := ⟨_, _, _, _, _, _⟩) rfl (fun K hK => ?_) ?_
  ·go_simp
   go_at_call 64
   (with_reducible refine (HH1 _ hS.1).out.mono ?_)
   rintro e W2 ⟨v2, rfl, ho2, hb⟩
   replace hS := And.intro (hS.1.trans (hb.mono hS.1.size)) (hS.2.call hb)
   replace HO1 := hid (own_below HO1.out hb (Nat.le_refl _))
   have HR2 := hid (RowAt.of_own ho2 hc1)
   clear hb ho2
   refine hK.out _ _ hS (fun _ => ?_)
   clear hK K
   try simp only [Act.put, List.setIfInBounds_toArray, List.set_cons_zero, List.set_cons_succ]
   refine wpAnyH_take (oi := ⟨_, _, _, _, _, _⟩) (i := 6) (v := v1) rfl (by kernel_rfl) (by kernel_rfl) (by kernel_rfl) (fun _ _ _ h => h) (Or.inl ⟨by rfl, ?_⟩) (by assumption) ?_
   ·(intro W hSw; have x0 := hSw.2.at (k := 0) (v := .string s) rfl; have x1 := hSw.2.at (k := 1) (v := .bool ff) rfl; have x2 := hSw.2.at (k := 2) (v := .int .i64 fb) rfl; have x3 := hSw.2.at (k := 3) (v := .bool tf) rfl; have x4 := hSw.2.at (k := 4) (v := .int .i64 tb) rfl; have x5 := hSw.2.at (k := 5) (v := .bool sg) rfl; go_simp; try (with_reducible rfl))
   try simp only [Act.put, List.setIfInBounds_toArray, List.set_cons_zero, List.set_cons_succ]
   refine wpAnyH_take (oi := ⟨_, _, _, _, _, _⟩) (i := 7) (v := v2) rfl (by kernel_rfl) (by kernel_rfl) (by kernel_rfl) (fun _ _ _ h => h) (Or.inl ⟨by rfl, ?_⟩) (by assumption) ?_
   ·(intro W hSw; have x0 := hSw.2.at (k := 0) (v := .string s) rfl; have x1 := hSw.2.at (k := 1) (v := .bool ff) rfl; have x2 := hSw.2.at (k := 2) (v := .int .i64 fb) rfl; have x3 := hSw.2.at (k := 3) (v := .bool tf) rfl; have x4 := hSw.2.at (k := 4) (v := .int .i64 tb) rfl; have x5 := hSw.2.at (k := 5) (v := .bool sg) rfl; go_simp; try (with_reducible rfl))
   try simp only [Act.put, List.setIfInBounds_toArray, List.set_cons_zero, List.set_cons_succ]
   refine wpAnyH_done (by kernel_rfl) ?_ _
   have y0 := hS.2.at (k := 0) (v := .string s) rfl
   obtain ⟨g1, cap1, rfl⟩ := owned_at HO1.out hc1
   obtain ⟨g2, o2, cap2, rfl, hg2, hcap2, hat2⟩ := HR2.out
   have HNW := hid (show ∀ j u, (fc c G)[j]? = some u → W2.cell? ((⟨g2, o2, none⟩ : Addr).add j) = some u by
    intro j u hj
    have hjc : j < c := by have := (List.getElem?_eq_some_iff.1 hj).1; rw [fc_length] at this; exact this
    rw [add_plain, (hat2 j hjc).1, ← hj, fc_get hjc])
   have HC2 := hid hS
   have HO3 := hid HO1.out
   have hl0 := hS.2.lt
   have HL0 := hid hl0
   clear HO1 HR2 hS hat2 hl0
   go_upto_region 15 with fail
   have hS : Below w.heap.size w W2.drew ∧ CA w.heap.size #[.string s, .bool ff, .int .i64 fb, .bool tf, .int .i64 tb, .bool sg] 50 W2.drew := ⟨HC2.out.1.drew, HC2.out.2⟩
   have HOO : Hid (W2.drew.ownsRow (w.heap.size + 1) 22 1 (.slice (some ⟨g1, 0, none⟩) c cap1) c (fc c F)) := HO3
   have HNEW : Hid (∀ j u, (fc c G)[j]? = some u → W2.drew.cell? ((⟨g2, o2, none⟩ : Addr).add j) = some u) := HNW
   have HLT0 : Hid (w.heap.size + 1 ≤ W2.drew.heap.size) := HL0
   clear HC2 HO3 HNW HL0 y0
   refine wp_region_held_drew (S := fun W => Below w.heap.size w W ∧ CA w.heap.size #[.string s, .bool ff, .int .i64 fb, .bool tf, .int .i64 tb, .bool sg] 50 W) (by kernel_rfl) hS (fun _ => ?_)
   generalize W2.drew = W at *
   refine wpAnyH_take (oi := ⟨_, _, _, _, _, _⟩) (i := 0) (v := .agg #[.string s, .bool ff, .int .i64 fb, .bool tf, .int .i64 tb, .bool sg]) rfl (by kernel_rfl) (by kernel_rfl) (by kernel_rfl) (fun _ _ _ h => h) (Or.inl ⟨by rfl, ?_⟩) (by assumption) ?_
   ·(intro W hSw; have x0 := hSw.2.at (k := 0) (v := .string s) rfl; have x1 := hSw.2.at (k := 1) (v := .bool ff) rfl; have x2 := hSw.2.at (k := 2) (v := .int .i64 fb) rfl; have x3 := hSw.2.at (k := 3) (v := .bool tf) rfl; have x4 := hSw.2.at (k := 4) (v := .int .i64 tb) rfl; have x5 := hSw.2.at (k := 5) (v := .bool sg) rfl; go_simp; try (with_reducible rfl))
   try simp only [Act.put, List.setIfInBounds_toArray, List.set_cons_zero, List.set_cons_succ]
   refine wpAnyH_take (oi := ⟨_, _, _, _, _, _⟩) (i := 1) (v := .slice (some ⟨g1, 0, none⟩) c cap1) rfl (by kernel_rfl) (by kernel_rfl) (by kernel_rfl) (fun _ _ _ h => h) (Or.inl ⟨by rfl, ?_⟩) (by assumption) ?_
   ·(intro W hSw; have x0 := hSw.2.at (k := 0) (v := .string s) rfl; have x1 := hSw.2.at (k := 1) (v := .bool ff) rfl; have x2 := hSw.2.at (k := 2) (v := .int .i64 fb) rfl; have x3 := hSw.2.at (k := 3) (v := .bool tf) rfl; have x4 := hSw.2.at (k := 4) (v := .int .i64 tb) rfl; have x5 := hSw.2.at (k := 5) (v := .bool sg) rfl; go_simp; try (with_reducible rfl))
   try simp only [Act.put, List.setIfInBounds_toArray, List.set_cons_zero, List.set_cons_succ]
   refine wpAnyH_take (oi := ⟨_, _, _, _, _, _⟩) (i := 2) (v := .slice (some ⟨g2, o2, none⟩) c cap2) rfl (by kernel_rfl) (by kernel_rfl) (by kernel_rfl) (fun _ _ _ h => h) (Or.inl ⟨by rfl, ?_⟩) (by assumption) ?_
   ·(intro W hSw; have x0 := hSw.2.at (k := 0) (v := .string s) rfl; have x1 := hSw.2.at (k := 1) (v := .bool ff) rfl; have x2 := hSw.2.at (k := 2) (v := .int .i64 fb) rfl; have x3 := hSw.2.at (k := 3) (v := .bool tf) rfl; have x4 := hSw.2.at (k := 4) (v := .int .i64 tb) rfl; have x5 := hSw.2.at (k := 5) (v := .bool sg) rfl; go_simp; try (with_reducible rfl))
   try simp only [Act.put, List.setIfInBounds_toArray, List.set_cons_zero, List.set_cons_succ]
   refine wpAnyH_ready (rs := [3]) (by kernel_rfl) (by simp) ?_
   refine AllReadyH.cons (o := ⟨_, _, _, _, _, _⟩) rfl (fun K hK => ?_) ?_
   ·refine step_append_own rfl (.tmp 57) (.tmp 58) 40 rfl (w.heap.size + 1) 22 i0 (.int .u64 0) 1 8 Tryz.underlying40 hi0 hz0 hz1 hz2 rfl (by decide) (.slice (some ⟨g1, 0, none⟩) c cap1) c (fc c F) rfl HOO.out ⟨g2, o2, none⟩ c cap2 (fc c G) rfl (by rw [fc_length]; omega) HNEW.out (fc_one c G) (by unfold maxLen; omega) (by omega) HLT0.out ?_
    intro v3 W3 ho3 hg3
    have hb3 : Below (w.heap.size + 1) W W3 := (Below.refl _ W).grown hg3 HLT0.out (fun k hk => (HOO.out.lt k hk).1)
    have hS2 : Below w.heap.size w W3 ∧ CA w.heap.size #[.string s, .bool ff, .int .i64 fb, .bool tf, .int .i64 tb, .bool sg] 50 W3 := ⟨hS.1.trans (hb3.mono (Nat.le_succ _)), hS.2.below hb3 (Nat.lt_succ_self _)⟩
    rw [HFC.out] at ho3
    have HL3 := hid (RowAt.of_own ho3 (by omega))
    clear hS ho3 hg3 hb3
    have hS := hS2
    clear hS2
    refine hK.out _ _ hS (fun _ => ?_)
    clear hK K
    try simp only [Act.put, List.setIfInBounds_toArray, List.set_cons_zero, List.set_cons_succ]
    refine wpAnyH_ready (rs := [4]) (by kernel_rfl) (by simp) ?_
    refine AllReadyH.cons (o := ⟨_, _, _, _, _, _⟩) rfl (fun K hK => ?_) ?_
    ·go_simp
     go_at_call 68
     (with_reducible refine (HHN _ _ HL3.out).out.mono ?_)
     have hsz3 : w.heap.size ≤ W3.heap.size := hS.1.size
     have HW3 := hid hsz3
     rintro e W4 ⟨v4, rfl, ho4, hb4⟩
     have HO4 := hid ho4
     replace hS := And.intro (hS.1.trans (hb4.mono hS.1.size)) (hS.2.call hb4)
     clear hb4 ho4 hsz3
     refine hK.out _ _ hS (fun _ => ?_)
     clear hK K
     try simp only [Act.put, List.setIfInBounds_toArray, List.set_cons_zero, List.set_cons_succ]
     refine wpAnyH_take (oi := ⟨_, _, _, _, _, _⟩) (i := 5) (v := v4) rfl (by kernel_rfl) (by kernel_rfl) (by kernel_rfl) (fun _ _ _ h => h) (Or.inl ⟨by rfl, ?_⟩) (by assumption) ?_
     ·(intro W hSw; have x0 := hSw.2.at (k := 0) (v := .string s) rfl; have x1 := hSw.2.at (k := 1) (v := .bool ff) rfl; have x2 := hSw.2.at (k := 2) (v := .int .i64 fb) rfl; have x3 := hSw.2.at (k := 3) (v := .bool tf) rfl; have x4 := hSw.2.at (k := 4) (v := .int .i64 tb) rfl; have x5 := hSw.2.at (k := 5) (v := .bool sg) rfl; go_simp; try (with_reducible rfl))
     try simp only [Act.put, List.setIfInBounds_toArray, List.set_cons_zero, List.set_cons_succ]
     refine wpAnyH_done (by kernel_rfl) ?_ _
     have HB4 := hid hS.1
     clear hS
     go_wp2
     go_ret
     exact ⟨_, rfl, own_mono HO4.out HW3.out, HB4.out⟩
    exact AllReadyH.nil
   exact AllReadyH.nil
  exact AllReadyH.nil
 exact AllReadyH.nil
end Go.Proofs.YtlhakbkdlgejpaaGreatDoor
namespace Go.Proofs.YtlhakbkdlgejpaaGreatDoor
open Go.RowKit
/-- The bounds of what is narrowed. -/
def narLo (tb : Nat) (s : Bool) : Int := if s then (if tb = 8 then -128 else -32768) else 0
def narHi (tb : Nat) (s : Bool) : Int := if s then (if tb = 8 then 127 else 32767) else (if tb = 8 then 255 else 65535)
/-- What the lanes of two vectors come to, narrowed. -/
def narF (fr tb : Nat) (s : Bool) (alo ahi blo bhi : Nat) (i : Nat) : Nat :=
 toN 64 (clampZ (sg fr ((if i < cnt fr then splitF fr alo ahi i else splitF fr blo bhi (i - cnt fr)) % 2 ^ fr)) (narLo tb s) (narHi tb s))
set_option maxHeartbeats 4000000 in
theorem Do_nar (op : Int) (nm : List UInt8) (fr tb : Nat) (hfr : (fr = 16 ∧ tb = 8) ∨ (fr = 32 ∧ tb = 16)) (ff tf : Bool) (s : Bool) (hnm : (lineL op).1 = str nm) (hpar : parV nm = insV [110, 97, 114, 114, 111, 119] ff fr tf tb s) (hn1 : nm.length ≤ 1000) (hok : ((xsL nm).2 == 0) = false → 0 ≤ laL6 nm)
  (h64 : 64768 ≤ op) (hk : knB (lineL op) = true) (him : (lineL op).2.1 = 0) (hla : laL op = [123, 123]) (hlb : lbL op = [123])
  (alo ahi blo bhi : Nat) (anl bnl : Bool) (h1 : alo < 18446744073709551616) (h2 : ahi < 18446744073709551616) (h3 : blo < 18446744073709551616) (h4 : bhi < 18446744073709551616)
  (w : World) (hg : Glob w) (va : Value) (ha : AR w va [(123, alo, ahi, anl), (123, blo, bhi, bnl)]) :
  Calls Tryz.prog 20 #[.int .i64 op, .slice none 0 0, va] w fun e w' => e = .returned (.tuple #[vv 123 (loF tb (narF fr tb s alo ahi blo bhi)) (hiF tb (narF fr tb s alo ahi blo bhi)) false, .int .i64 0]) ∧ Below w.heap.size w w' := by
 have hnt : Okn tb := by rcases hfr with ⟨_, rfl⟩ | ⟨_, rfl⟩ <;> decide
 have hnf : Okn fr := by rcases hfr with ⟨rfl, _⟩ | ⟨rfl, _⟩ <;> decide
 have hcc : cnt tb = cnt fr + cnt fr := by rcases hfr with ⟨rfl, rfl⟩ | ⟨rfl, rfl⟩ <;> decide
 have hc1 : 1 ≤ cnt fr := by rcases hfr with ⟨rfl, rfl⟩ | ⟨rfl, rfl⟩ <;> decide
 have hc16 : cnt fr ≤ 16 := by rcases hfr with ⟨rfl, rfl⟩ | ⟨rfl, rfl⟩ <;> decide
 refine Do_vec op nm hnm [110, 97, 114, 114, 111, 119] ff fr tf tb hnt s hpar hn1 hok hlb (.slice none 0 0) va w hg ?_ _ ?_ ?_
 ·intro W hW
  exact fits_says op h64 hk [] (by rw [him]; rfl) (fun x hx => by cases hx) [(123, alo, ahi, anl), (123, blo, bhi, bnl)] (by rw [hla]; rfl) (by simp) (by simp) (.slice none 0 0) va W.heap.size W (hg.next hW) (ha.call hW) (World.ownsRow_nil _ _ _ _)
 ·intro i hi
  unfold narF toN
  omega
 ·intro W hW
  rw [hcc]
  refine vector_nar ff fr tf tb s (.slice none 0 0) va (cnt fr) hc1 hc16 (splitF fr alo ahi) (splitF fr blo bhi) _ W
   (fun W2 h => operand_v [110, 97, 114, 114, 111, 119] ff fr hnf tf tb s va _ 0 alo ahi anl rfl h1 h2 W2 ((ha.call hW).call h))
   (fun W2 h => operand_v [110, 97, 114, 114, 111, 119] ff fr hnf tf tb s va _ 1 blo bhi bnl rfl h3 h4 W2 ((ha.call hW).call h))
   (fun W2 vl hl => ?_)
  have hF : ∀ i, (fun i => if i < cnt fr then splitF fr alo ahi i else splitF fr blo bhi (i - cnt fr)) i < 18446744073709551616 := fun i => by
   show (if i < cnt fr then splitF fr alo ahi i else splitF fr blo bhi (i - cnt fr)) < _
   split <;> exact splitF_u64 hnf _ _ _
  rcases hfr with ⟨rfl, rfl⟩ | ⟨rfl, rfl⟩ <;> cases s
  ·exact narrowed_8_u [110, 97, 114, 114, 111, 119] ff tf vl _ (by decide) _ hF W2 hl
  ·exact narrowed_8_s [110, 97, 114, 114, 111, 119] ff tf vl _ (by decide) _ hF W2 hl
  ·exact narrowed_16_u [110, 97, 114, 114, 111, 119] ff tf vl _ (by decide) _ hF W2 hl
  ·exact narrowed_16_s [110, 97, 114, 114, 111, 119] ff tf vl _ (by decide) _ hF W2 hl
end Go.Proofs.YtlhakbkdlgejpaaGreatDoor
