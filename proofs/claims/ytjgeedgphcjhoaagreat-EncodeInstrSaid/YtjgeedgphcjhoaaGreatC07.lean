/-
  RBeh5: merged, what the law does not reach left out (each text says what it holds where it lies in wip). No condition.
-/
import Derived.Test.YtjgeedgphcjhoaaGreatC04
import Derived.Deep.RegionHeld3
set_option linter.unusedSimpArgs false
set_option linter.unusedVariables false
set_option maxRecDepth 100000
namespace Go.Proofs.YtjgeedgphcjhoaaGreat
open Go.RowKit
set_option maxHeartbeats 4000000 in
theorem beh_3 (op a b : Int) (n h : Nat) (l : List Int) (pl pb pe : Option Addr) (cl nb cb ne ce : Nat) (ot : Bool) (B : Nat) (w : World) (hB : B ≤ w.heap.size) (hl : LI B w (.slice pl l.length cl) l) (hnl : l.length + 200 ≤ 1000000000000) (hnn : n < 18446744073709551616) (hh : h < 18446744073709551616) :
  Calls Tryz.prog 232 #[.agg #[.int .i64 op,.int .i64 a,.int .i64 b,.int .u64 (n : Nat),.int .u64 (h : Nat),.slice pl l.length cl,.slice pb nb cb,.slice pe ne ce,.bool ot],.int .i64 3] w (BO w (uI l.length ++ usL l ++ uI a)) := by
 have HX0 := hid (CA.new w #[.int .i64 op,.int .i64 a,.int .i64 b,.int .u64 (n : Nat),.int .u64 (h : Nat),.slice pl l.length cl,.slice pb nb cb,.slice pe ne ce,.bool ot] 39)
 have HBX := hid ((Below.refl w.heap.size w).alloc (Nat.le_refl _) (.cells #[.int .i64 op,.int .i64 a,.int .i64 b,.int .u64 (n : Nat),.int .u64 (h : Nat),.slice pl l.length cl,.slice pb nb cb,.slice pe ne ce,.bool ot] 39))
 have HRX := hid ((RF.refl w.heap.size w).alloc (.cells #[.int .i64 op,.int .i64 a,.int .i64 b,.int .u64 (n : Nat),.int .u64 (h : Nat),.slice pl l.length cl,.slice pb nb cb,.slice pe ne ce,.bool ot] 39))
 have y0 := HX0.out.at (k := 0) (v := .int .i64 op) rfl
 have y1 := HX0.out.at (k := 1) (v := .int .i64 a) rfl
 have y2 := HX0.out.at (k := 2) (v := .int .i64 b) rfl
 have y3 := HX0.out.at (k := 3) (v := .int .u64 (n : Nat)) rfl
 have y4 := HX0.out.at (k := 4) (v := .int .u64 (h : Nat)) rfl
 have y5 := HX0.out.at (k := 5) (v := .slice pl l.length cl) rfl
 have y6 := HX0.out.at (k := 6) (v := .slice pb nb cb) rfl
 have y7 := HX0.out.at (k := 7) (v := .slice pe ne ce) rfl
 have y8 := HX0.out.at (k := 8) (v := .bool ot) rfl
 have hLI : ∀ W,Below B w W → LI B W (.slice pl l.length cl) l := fun W hW => hl.below hW
 have HLI := fun W (hW : Below w.heap.size w W) => hid (hLI W (hW.mono hB))
 have Hn := hid hnn
 have Hh := hid hh
 have HBB := hid hB
 have HSZ : Hid (w.heap.size ≤ w.heap.size) := Nat.le_refl _
 have HLN := hid hnl
 have q1 := uI_len a
 have q2 := uI_len b
 have q3 := usL_len l
 have q5 := uI_len l.length
 have HS0 : Hid (RF w.heap.size w (w.alloc (.cells #[.int .i64 op,.int .i64 a,.int .i64 b,.int .u64 (n : Nat),.int .u64 (h : Nat),.slice pl l.length cl,.slice pb nb cb,.slice pe ne ce,.bool ot] 39)) ∧ CA w.heap.size #[.int .i64 op,.int .i64 a,.int .i64 b,.int .u64 (n : Nat),.int .u64 (h : Nat),.slice pl l.length cl,.slice pb nb cb,.slice pe ne ce,.bool ot] 39 (w.alloc (.cells #[.int .i64 op,.int .i64 a,.int .i64 b,.int .u64 (n : Nat),.int .u64 (h : Nat),.slice pl l.length cl,.slice pb nb cb,.slice pe ne ce,.bool ot] 39))) := ⟨HRX.out,HX0.out⟩
 have HN3 := hid (show (usL l).length + 20 ≤ 140737488355000 by omega)
 have HN4 := hid (show (uI l.length ++ usL l).length + (uI a).length ≤ 140737488355000 by simp only [List.length_append]; omega)
 obtain ⟨N,hN⟩ : ∃ N,N = l.length := ⟨_,rfl⟩
 have HNN := hid hN
 have hn62 : (N : Int) < 9223372036854775807 := by omega
 clear q1 q2 q3 q5 hl hnl hnn hh hB hLI
 go_enter Tryz.func232,Tryz.ntmps232
 go_wp2
 go_loopw [6,7] (fun vo vi wr => ∃ (i : Nat) (p : Option Addr) (m c : Nat),i ≤ l.length ∧ vi = .int .i64 i ∧ vo = .slice p m c ∧ Hid (wr.ownsRow w.heap.size 5 1 (.slice p m c) (usL (l.take i)).length (Lib.byteCells (usL (l.take i)))) ∧ Hid (RF w.heap.size w wr ∧ CA w.heap.size #[.int .i64 op,.int .i64 a,.int .i64 b,.int .u64 (n : Nat),.int .u64 (h : Nat),.slice pl l.length cl,.slice pb nb cb,.slice pe ne ce,.bool ot] 39 wr)) (fun _ vi _ => l.length - (intOf vi).toNat)
 case atStart => exact ⟨0,none,0,0,Nat.zero_le _,rfl,rfl,own_nil _ _,HS0⟩
 case round =>
  clear y0 y1 y2 y3 y4 y5 y6 y7 y8 HX0 HBX HRX HS0
  obtain ⟨i,p0,m0,c0,hi,rfl,rfl,HR,HF⟩ := hrel
  have y0 := HF.out.2.at (k := 0) (v := .int .i64 op) rfl
  have y1 := HF.out.2.at (k := 1) (v := .int .i64 a) rfl
  have y2 := HF.out.2.at (k := 2) (v := .int .i64 b) rfl
  have y3 := HF.out.2.at (k := 3) (v := .int .u64 (n : Nat)) rfl
  have y4 := HF.out.2.at (k := 4) (v := .int .u64 (h : Nat)) rfl
  have y5 := HF.out.2.at (k := 5) (v := .slice pl l.length cl) rfl
  have y6 := HF.out.2.at (k := 6) (v := .slice pb nb cb) rfl
  have y7 := HF.out.2.at (k := 7) (v := .slice pe ne ce) rfl
  have y8 := HF.out.2.at (k := 8) (v := .bool ot) rfl
  have hn62 : (l.length : Int) < 9223372036854775807 := by have := HLN.out; omega
  by_cases hlt : i < l.length
  ·obtain ⟨x,hx⟩ : ∃ x,l[i]? = some x := ⟨l[i],List.getElem?_eq_getElem hlt⟩
   obtain ⟨p',c',e,_,hcc⟩ := (HLI _ (HF.out.1.below (Nat.le_refl _))).out
   obtain ⟨k,o,hpk,hk,hcell⟩ := hcc (by intro e; rw [e] at hlt; simp at hlt)
   injection e with e1 e2 e3
   rw [hpk] at e1
   subst e1
   have z0 := hcell i x hx
   have HX := hid (show usL (l.take (i + 1)) = usL (l.take i) ++ uI x by rw [List.take_add_one,hx]; exact usL_snoc _ _)
   have HLE : Hid ((usL (l.take i)).length + (uI x).length ≤ 140737488355000) := by
    have h1 := HLN.out
    have h2 := usL_len (l.take i)
    have h3 := uI_len x
    simp only [List.length_take] at h2
    simp only [Hid]
    omega
   clear hcell hx hk e2 e3 hpk hcc
   go_wp2_with (first
    | (go_at_call 133; (with_reducible refine (RU_says x _).mono ?_); rintro e w1 ⟨v,rfl,ho,hb⟩; obtain ⟨p1,m1,c1,rfl⟩ := own_slice ho; have HO1 := hid ho; have HR1 := hid (own_kept HR.out hb); have HB1 := hid (HF.out.1.trans (RF.of hb)); have HX1 := hid (HF.out.2.below hb HF.out.2.lt); clear ho hb)
    | (at_builtin; refine append_rowW rfl _ _ rfl w.heap.size _ _ _ _ _ w1 HR1.out HO1.out HLE.out HB1.out.size (RF.refl _ _) rfl rfl ?_; intro p3 m3 c3 w3 ho3 hf3; have HO3 := hid ho3; have HF3 := hid (HB1.out.trans hf3); have HX3 := hid (HX1.out.rf hf3 (by decide)); clear ho3 hf3))
   go_roundw
   case rel =>
    refine ⟨i + 1,p3,m3,c3,hlt,by go_num,rfl,?_,HF3.out,?_⟩
    ·rw [HX.out]
     exact HO3
    ·exact HX3.out
   case measure => simp [intOf]; omega
  ·obtain rfl : i = l.length := by omega
   have HE := hid (show usL (l.take l.length) = usL l by rw [List.take_length])
   rw [HE.out] at HR
   have HO0 := HR
   have HS0 := HF
   clear HR HF HE
   go_upto_region 20 with fail
   have hS : RF w.heap.size w wr.drew ∧ CA w.heap.size #[.int .i64 op,.int .i64 a,.int .i64 b,.int .u64 (n : Nat),.int .u64 (h : Nat),.slice pl l.length cl,.slice pb nb cb,.slice pe ne ce,.bool ot] 39 wr.drew := ⟨HS0.out.1.drew,HS0.out.2⟩
   replace HO0 : Hid (wr.drew.ownsRow w.heap.size 5 1 (.slice p0 m0 c0) (usL l).length (Lib.byteCells (usL l))) := HO0
   clear HS0
   refine wp_region_held_drew (S := fun W => RF w.heap.size w W ∧ CA w.heap.size #[.int .i64 op,.int .i64 a,.int .i64 b,.int .u64 (n : Nat),.int .u64 (h : Nat),.slice pl l.length cl,.slice pb nb cb,.slice pe ne ce,.bool ot] 39 W) (by kernel_rfl) hS (fun _ => ?_)
   generalize wr.drew = W at *
   refine wpAnyH_take (oi := ⟨_,_,_,_,_,_⟩) (i := 0) (v := .pointer (some ⟨w.heap.size,5,none⟩)) rfl (by kernel_rfl) (by kernel_rfl) (by kernel_rfl) (fun _ _ _ h => h) (Or.inl ⟨by rfl,?_⟩) (by assumption) ?_
   ·(intro W hSw; have x0 := hSw.2.at (k := 0) (v := .int .i64 op) rfl; have x1 := hSw.2.at (k := 1) (v := .int .i64 a) rfl; have x2 := hSw.2.at (k := 2) (v := .int .i64 b) rfl; have x3 := hSw.2.at (k := 3) (v := .int .u64 (n : Nat)) rfl; have x4 := hSw.2.at (k := 4) (v := .int .u64 (h : Nat)) rfl; have x5 := hSw.2.at (k := 5) (v := .slice pl l.length cl) rfl; have x6 := hSw.2.at (k := 6) (v := .slice pb nb cb) rfl; have x7 := hSw.2.at (k := 7) (v := .slice pe ne ce) rfl; have x8 := hSw.2.at (k := 8) (v := .bool ot) rfl; go_simp; try (with_reducible rfl))
   try simp only [Act.put,List.setIfInBounds_toArray,List.set_cons_zero,List.set_cons_succ]
   refine wpAnyH_take (oi := ⟨_,_,_,_,_,_⟩) (i := 1) (v := .slice pl l.length cl) rfl (by kernel_rfl) (by kernel_rfl) (by kernel_rfl) (fun _ _ _ h => h) (Or.inl ⟨by rfl,?_⟩) (by assumption) ?_
   ·(intro W hSw; have x0 := hSw.2.at (k := 0) (v := .int .i64 op) rfl; have x1 := hSw.2.at (k := 1) (v := .int .i64 a) rfl; have x2 := hSw.2.at (k := 2) (v := .int .i64 b) rfl; have x3 := hSw.2.at (k := 3) (v := .int .u64 (n : Nat)) rfl; have x4 := hSw.2.at (k := 4) (v := .int .u64 (h : Nat)) rfl; have x5 := hSw.2.at (k := 5) (v := .slice pl l.length cl) rfl; have x6 := hSw.2.at (k := 6) (v := .slice pb nb cb) rfl; have x7 := hSw.2.at (k := 7) (v := .slice pe ne ce) rfl; have x8 := hSw.2.at (k := 8) (v := .bool ot) rfl; go_simp; try (with_reducible rfl))
   try simp only [Act.put,List.setIfInBounds_toArray,List.set_cons_zero,List.set_cons_succ]
   refine wpAnyH_take (oi := ⟨_,_,_,_,_,_⟩) (i := 2) (v := .int .i64 l.length) rfl (by kernel_rfl) (by kernel_rfl) (by kernel_rfl) (fun _ _ _ h => h) (Or.inl ⟨by rfl,?_⟩) (by assumption) ?_
   ·(intro W hSw; have x0 := hSw.2.at (k := 0) (v := .int .i64 op) rfl; have x1 := hSw.2.at (k := 1) (v := .int .i64 a) rfl; have x2 := hSw.2.at (k := 2) (v := .int .i64 b) rfl; have x3 := hSw.2.at (k := 3) (v := .int .u64 (n : Nat)) rfl; have x4 := hSw.2.at (k := 4) (v := .int .u64 (h : Nat)) rfl; have x5 := hSw.2.at (k := 5) (v := .slice pl l.length cl) rfl; have x6 := hSw.2.at (k := 6) (v := .slice pb nb cb) rfl; have x7 := hSw.2.at (k := 7) (v := .slice pe ne ce) rfl; have x8 := hSw.2.at (k := 8) (v := .bool ot) rfl; go_simp; try (with_reducible rfl))
   try simp only [Act.put,List.setIfInBounds_toArray,List.set_cons_zero,List.set_cons_succ]
   refine wpAnyH_take (oi := ⟨_,_,_,_,_,_⟩) (i := 3) (v := .slice p0 m0 c0) rfl (by kernel_rfl) (by kernel_rfl) (by kernel_rfl) (fun _ _ _ h => h) (Or.inl ⟨by rfl,?_⟩) (by assumption) ?_
   ·(intro W hSw; have x0 := hSw.2.at (k := 0) (v := .int .i64 op) rfl; have x1 := hSw.2.at (k := 1) (v := .int .i64 a) rfl; have x2 := hSw.2.at (k := 2) (v := .int .i64 b) rfl; have x3 := hSw.2.at (k := 3) (v := .int .u64 (n : Nat)) rfl; have x4 := hSw.2.at (k := 4) (v := .int .u64 (h : Nat)) rfl; have x5 := hSw.2.at (k := 5) (v := .slice pl l.length cl) rfl; have x6 := hSw.2.at (k := 6) (v := .slice pb nb cb) rfl; have x7 := hSw.2.at (k := 7) (v := .slice pe ne ce) rfl; have x8 := hSw.2.at (k := 8) (v := .bool ot) rfl; go_simp; try (with_reducible rfl))
   try simp only [Act.put,List.setIfInBounds_toArray,List.set_cons_zero,List.set_cons_succ]
   refine wpAnyH_take (oi := ⟨_,_,_,_,_,_⟩) (i := 5) (v := .pointer (some ⟨w.heap.size,1,none⟩)) rfl (by kernel_rfl) (by kernel_rfl) (by kernel_rfl) (fun _ _ _ h => h) (Or.inl ⟨by rfl,?_⟩) (by assumption) ?_
   ·(intro W hSw; have x0 := hSw.2.at (k := 0) (v := .int .i64 op) rfl; have x1 := hSw.2.at (k := 1) (v := .int .i64 a) rfl; have x2 := hSw.2.at (k := 2) (v := .int .i64 b) rfl; have x3 := hSw.2.at (k := 3) (v := .int .u64 (n : Nat)) rfl; have x4 := hSw.2.at (k := 4) (v := .int .u64 (h : Nat)) rfl; have x5 := hSw.2.at (k := 5) (v := .slice pl l.length cl) rfl; have x6 := hSw.2.at (k := 6) (v := .slice pb nb cb) rfl; have x7 := hSw.2.at (k := 7) (v := .slice pe ne ce) rfl; have x8 := hSw.2.at (k := 8) (v := .bool ot) rfl; go_simp; try (with_reducible rfl))
   try simp only [Act.put,List.setIfInBounds_toArray,List.set_cons_zero,List.set_cons_succ]
   refine wpAnyH_take (oi := ⟨_,_,_,_,_,_⟩) (i := 6) (v := .int .i64 a) rfl (by kernel_rfl) (by kernel_rfl) (by kernel_rfl) (fun _ _ _ h => h) (Or.inl ⟨by rfl,?_⟩) (by assumption) ?_
   ·(intro W hSw; have x0 := hSw.2.at (k := 0) (v := .int .i64 op) rfl; have x1 := hSw.2.at (k := 1) (v := .int .i64 a) rfl; have x2 := hSw.2.at (k := 2) (v := .int .i64 b) rfl; have x3 := hSw.2.at (k := 3) (v := .int .u64 (n : Nat)) rfl; have x4 := hSw.2.at (k := 4) (v := .int .u64 (h : Nat)) rfl; have x5 := hSw.2.at (k := 5) (v := .slice pl l.length cl) rfl; have x6 := hSw.2.at (k := 6) (v := .slice pb nb cb) rfl; have x7 := hSw.2.at (k := 7) (v := .slice pe ne ce) rfl; have x8 := hSw.2.at (k := 8) (v := .bool ot) rfl; go_simp; try (with_reducible rfl))
   try simp only [Act.put,List.setIfInBounds_toArray,List.set_cons_zero,List.set_cons_succ]
   refine wpAnyH_ready (rs := [4]) (by kernel_rfl) (by simp) ?_
   refine AllReadyH.cons (o := ⟨_,_,_,_,_,_⟩) rfl (fun K hK => ?_) ?_
   ·go_simp
    go_at_call 135
    (with_reducible refine (listed_says l.length _ (usL l) w.heap.size W HO0.out HN3.out).mono ?_)
    rintro e W1 ⟨v,rfl,ho,hb⟩
    obtain ⟨p1,m1,c1,rfl⟩ := own_slice ho
    have HO1 := hid (own_less ho (Nat.le_trans HSZ.out hS.1.size))
    replace hS := And.intro (hS.1.trans (RF.of hb)) (hS.2.below hb hS.2.lt)
    clear ho hb
    refine hK.out _ _ hS (fun _ => ?_)
    clear hK K
    try simp only [Act.put,List.setIfInBounds_toArray,List.set_cons_zero,List.set_cons_succ]
    refine wpAnyH_ready (rs := [7]) (by kernel_rfl) (by simp) ?_
    refine AllReadyH.cons (o := ⟨_,_,_,_,_,_⟩) rfl (fun K hK => ?_) ?_
    ·go_simp
     go_at_call 133
     (with_reducible refine (RU_says a W1).mono ?_)
     rintro e W2 ⟨v,rfl,ho,hb⟩
     obtain ⟨p2,m2,c2,rfl⟩ := own_slice ho
     have HO2 := hid (own_less ho (Nat.le_trans HSZ.out hS.1.size))
     replace HO1 := hid (own_kept HO1.out hb)
     replace hS := And.intro (hS.1.trans (RF.of hb)) (hS.2.below hb hS.2.lt)
     clear ho hb
     refine hK.out _ _ hS (fun _ => ?_)
     clear hK K
     try simp only [Act.put,List.setIfInBounds_toArray,List.set_cons_zero,List.set_cons_succ]
     refine wpAnyH_ready (rs := [8]) (by kernel_rfl) (by simp) ?_
     refine AllReadyH.cons (o := ⟨_,_,_,_,_,_⟩) rfl (fun K hK => ?_) ?_
     ·refine append_rowS rfl (.tmp 65) (.tmp 68) rfl w.heap.size _ _ _ _ _ w HO1.out HO2.out HN4.out (Nat.le_refl _) hS.1 rfl rfl ?_
      intro p3 m3 c3 W3 ho3 hr
      replace hS := And.intro (hS.1.trans hr) (hS.2.rf hr (by decide))
      have HO3 := hid ho3
      clear ho3 hr HO1 HO2
      refine hK.out _ _ hS (fun _ => ?_)
      clear hK K
      try simp only [Act.put,List.setIfInBounds_toArray,List.set_cons_zero,List.set_cons_succ]
      refine wpAnyH_take (oi := ⟨_,_,_,_,_,_⟩) (i := 9) (v := .slice p3 m3 c3) rfl (by kernel_rfl) (by kernel_rfl) (by kernel_rfl) (fun _ _ _ h => h) (Or.inl ⟨by rfl,?_⟩) (by assumption) ?_
      ·(intro W hSw; have x0 := hSw.2.at (k := 0) (v := .int .i64 op) rfl; have x1 := hSw.2.at (k := 1) (v := .int .i64 a) rfl; have x2 := hSw.2.at (k := 2) (v := .int .i64 b) rfl; have x3 := hSw.2.at (k := 3) (v := .int .u64 (n : Nat)) rfl; have x4 := hSw.2.at (k := 4) (v := .int .u64 (h : Nat)) rfl; have x5 := hSw.2.at (k := 5) (v := .slice pl l.length cl) rfl; have x6 := hSw.2.at (k := 6) (v := .slice pb nb cb) rfl; have x7 := hSw.2.at (k := 7) (v := .slice pe ne ce) rfl; have x8 := hSw.2.at (k := 8) (v := .bool ot) rfl; go_simp; try (with_reducible rfl))
      try simp only [Act.put,List.setIfInBounds_toArray,List.set_cons_zero,List.set_cons_succ]
      refine wpAnyH_done (by kernel_rfl) ?_ _
      have HF := hid hS.1
      clear hS
      go_wp2
      go_ret
      exact ⟨_,rfl,HO3.out,HF.out.below (Nat.le_refl _)⟩
     exact AllReadyH.nil
    exact AllReadyH.nil
   exact AllReadyH.nil
end Go.Proofs.YtjgeedgphcjhoaaGreat
