/-
  EInsL: merged, what the law does not reach left out (each text says what it holds where it lies in wip). No condition.
-/
import Derived.Test.YtjgeedgphcjhoaaGreatC36
set_option linter.unusedSimpArgs false
set_option linter.unusedVariables false
set_option maxRecDepth 100000
namespace Go.Proofs.YtjgeedgphcjhoaaGreat
open Go.RowKit
set_option maxHeartbeats 8000000 in
theorem law_Instr (op a b : Int) (n h : Nat) (l : List Int) (pl pb pe : Option Addr) (nl cl nb cb ne ce : Nat) (ot : Bool) (body els : Fo) (w : World) (hL : Lens (.cons op a b n h l ot body els .nil)) (hr : RN (.cons op a b n h l ot body els .nil)) (hl : LI w.heap.size w (.slice pl nl cl) l) (hb : SA w.heap.size w (.slice pb nb cb) body) (he : SA w.heap.size w (.slice pe ne ce) els) :
  Calls Tryz.prog 11 #[.agg #[.int .i64 op,.int .i64 a,.int .i64 b,.int .u64 (n : Nat),.int .u64 (h : Nat),.slice pl nl cl,.slice pb nb cb,.slice pe ne ce,.bool ot]] w fun e w' => e = .returned (.bool true) ∧ Below w.heap.size w w' := by
 have HA := fun W => hid (awakeE W)
 have HX0 := hid (CA.new w #[.int .i64 op,.int .i64 a,.int .i64 b,.int .u64 (n : Nat),.int .u64 (h : Nat),.slice pl nl cl,.slice pb nb cb,.slice pe ne ce,.bool ot] 39)
 have HB0 := hid ((Below.refl w.heap.size w).alloc (Nat.le_refl _) (.cells #[.int .i64 op,.int .i64 a,.int .i64 b,.int .u64 (n : Nat),.int .u64 (h : Nat),.slice pl nl cl,.slice pb nb cb,.slice pe ne ce,.bool ot] 39))
 have y0 := HX0.out.at (k := 0) (v := .int .i64 op) rfl
 have y1 := HX0.out.at (k := 1) (v := .int .i64 a) rfl
 have y2 := HX0.out.at (k := 2) (v := .int .i64 b) rfl
 have y3 := HX0.out.at (k := 3) (v := .int .u64 (n : Nat)) rfl
 have y4 := HX0.out.at (k := 4) (v := .int .u64 (h : Nat)) rfl
 have y5 := HX0.out.at (k := 5) (v := .slice pl nl cl) rfl
 have y6 := HX0.out.at (k := 6) (v := .slice pb nb cb) rfl
 have y7 := HX0.out.at (k := 7) (v := .slice pe ne ce) rfl
 have y8 := HX0.out.at (k := 8) (v := .bool ot) rfl
 obtain ⟨f,hf⟩ : ∃ f,f = Fo.cons op a b n h l ot body els .nil := ⟨_,rfl⟩
 have HSA := hid (fun (W : World) (hW : Below w.heap.size w W) => (show SA (W.heap.size + 1) (W.alloc (.cells #[.int .i64 op,.int .i64 a,.int .i64 b,.int .u64 (n : Nat),.int .u64 (h : Nat),.slice pl nl cl,.slice pb nb cb,.slice pe ne ce,.bool ot] 39)) (.slice (some ⟨W.heap.size,0,none⟩) 1 1) f by
  have hc := CA.new W #[.int .i64 op,.int .i64 a,.int .i64 b,.int .u64 (n : Nat),.int .u64 (h : Nat),.slice pl nl cl,.slice pb nb cb,.slice pe ne ce,.bool ot] 39
  have hbw := hW.alloc hW.size (.cells #[.int .i64 op,.int .i64 a,.int .i64 b,.int .u64 (n : Nat),.int .u64 (h : Nat),.slice pl nl cl,.slice pb nb cb,.slice pe ne ce,.bool ot] 39)
  have hle : w.heap.size ≤ W.heap.size + 1 := by have := hW.size; omega
  have hb2 := SA.mono (SA.below hb hbw) hle
  have he2 := SA.mono (SA.below he hbw) hle
  obtain ⟨q1,d1,g1,o1,z1,z2,z3⟩ := hb2
  obtain ⟨q2,d2,g2,o2,z4,z5,z6⟩ := he2
  rw [hf]
  exact ⟨some ⟨W.heap.size,0,none⟩,1,W.heap.size,0,rfl,fun _ => rfl,by omega,⟨.slice pl nl cl,.slice pb nb cb,.slice pe ne ce,hc.at rfl,hc.at rfl,hc.at rfl,hc.at rfl,hc.at rfl,hc.at rfl,hc.at rfl,hc.at rfl,hc.at rfl,LI.mono (LI.below hl hbw) hle,⟨q1,d1,g1,o1,z1,z2,z3⟩,⟨q2,d2,g2,o2,z4,z5,z6⟩⟩,trivial⟩))
 rw [← hf] at hL hr
 have hlen : f.len < 9223372036854775807 := by rw [hf]; simp only [Fo.len]; omega
 clear hf hl hb he
 go_enter Tryz.func11,Tryz.ntmps11
 go_upto_region 5 with (go_at_call 22; (with_reducible refine (HA _).out.mono ?_); rintro e w1 ⟨rfl,hb⟩; have HB1 := hid (HB0.out.trans (hb.mono HB0.out.size)); have HX1 := hid (HX0.out.below hb HX0.out.lt); have y0 := HX1.out.at (k := 0) (v := .int .i64 op) rfl; have y1 := HX1.out.at (k := 1) (v := .int .i64 a) rfl; have y2 := HX1.out.at (k := 2) (v := .int .i64 b) rfl; have y3 := HX1.out.at (k := 3) (v := .int .u64 (n : Nat)) rfl; have y4 := HX1.out.at (k := 4) (v := .int .u64 (h : Nat)) rfl; have y5 := HX1.out.at (k := 5) (v := .slice pl nl cl) rfl; have y6 := HX1.out.at (k := 6) (v := .slice pb nb cb) rfl; have y7 := HX1.out.at (k := 7) (v := .slice pe ne ce) rfl; have y8 := HX1.out.at (k := 8) (v := .bool ot) rfl; clear hb)
 have hs0 := HSA.out w1 HB1.out
 have HBW := hid (HB1.out.alloc HB1.out.size (.cells #[.int .i64 op,.int .i64 a,.int .i64 b,.int .u64 (n : Nat),.int .u64 (h : Nat),.slice pl nl cl,.slice pb nb cb,.slice pe ne ce,.bool ot] 39))
 have hsz0 := size_al w1 (.cells #[.int .i64 op,.int .i64 a,.int .i64 b,.int .u64 (n : Nat),.int .u64 (h : Nat),.slice pl nl cl,.slice pb nb cb,.slice pe ne ce,.bool ot] 39)
 rw [← hsz0] at hs0
 have HS0 := hid hs0
 clear hs0 hsz0 HSA HB1 HX1 HX0 HB0 HA
 generalize w1.alloc (.cells #[.int .i64 op,.int .i64 a,.int .i64 b,.int .u64 (n : Nat),.int .u64 (h : Nat),.slice pl nl cl,.slice pb nb cb,.slice pe ne ce,.bool ot] 39) = w2 at *
 generalize w1.heap.size = g at *
 have HSL := fun (W : World) (h : Below w2.heap.size w2 W) => hid (SA.mono (SA.below HS0.out h) h.size)
 have HF := fun (W : World) (h : Below w2.heap.size w2 W) => hid (Few_says f (.slice (some ⟨g,0,none⟩) 1 1) W hL hlen (HSL W h).out)
 have HR0 := hid (Below.refl w2.heap.size w2)
 by_cases hfew : 0 ≤ wg f 0 3000
 ·have hcnt := few_cnt f hfew
  have hsz := wg_siz f 0 3000 hfew
  rw [decide_eq_true hfew] at HF
  have HX := fun (W : World) (h : Below w2.heap.size w2 W) => hid (Expr_says f (.slice (some ⟨g,0,none⟩) 1 1) W.heap.size W (by omega) hr.rng (Nat.le_refl _) (HSL W h).out)
  by_cases hcb : codeB f = true
  ·obtain ⟨hok,hel⟩ := code_facts f (.slice (some ⟨g,0,none⟩) 1 1) w2 hcnt hsz hr HS0.out hcb
   have HC := fun (W : World) (h : Below w2.heap.size w2 W) => hid (encCode_yes f (by omega) hok (by omega) (.slice (some ⟨g,0,none⟩) 1 1) W (HSL W h).out hcb)
   have HR := fun (W : World) (h : Below w2.heap.size w2 W) => hid (ExprR_says W.heap.size f (by omega) hok (by omega) (.slice (some ⟨g,0,none⟩) 1 1) W (Nat.le_refl _) (HSL W h).out)
   rw [hcb] at HX
   obtain ⟨E,hE⟩ : ∃ E,E = f.enc ++ [11] := ⟨_,rfl⟩
   rw [← hE] at HC HR
   have HE1 := hid (show 1 ≤ E.length by rw [hE]; simp)
   have HE2 := hid (show E.length ≤ 140737488351232 by rw [hE]; simp only [List.length_append,List.length_cons,List.length_nil]; omega)
   obtain ⟨s,hst⟩ : ∃ s : ByteArray,(⟨E.toArray⟩ : ByteArray) = s := ⟨_,rfl⟩
   have HST := hid hst
   clear HS0 hL hlen hr hfew hcnt hsz hcb hok hel hE hst HSL
   go_upto_region 12 with (first
    | (go_at_call 17; (with_reducible refine (HF _ HR0.out).out.mono ?_); rintro e w2' ⟨rfl,rfl⟩)
    | (go_at_call 25; (with_reducible refine (HC _ HR0.out).out.mono ?_); rintro e w3 ⟨p,n9,c,rfl,ho,hb⟩; have HY3 := hid (bytes_of_owned ho HE2.out); have HB3 := hid hb; clear ho hb)
    | (go_at_call 26; (with_reducible refine (HX _ HB3.out).out.mono ?_); rintro e w4 ⟨rfl,hb⟩; have HB4 := hid (HB3.out.trans (hb.mono HB3.out.size)); have HY4 := hid (HY3.out.below hb); have HZ4 := hid hb.size; clear hb))
   obtain ⟨B1,hB1⟩ : ∃ B1,B1 = w3.heap.size := ⟨_,rfl⟩
   rw [← hB1] at HY4 HZ4
   have hS : Below w2.heap.size w2 w4.drew ∧ B1 ≤ w4.drew.heap.size ∧ BytesAt B1 w4.drew (.slice p n9 c) E := ⟨HB4.out.drew,HZ4.out,HY4.out⟩
   clear HB4 HZ4 HY4 HB3 HY3 hB1
   refine wp_region_held_drew (S := fun W => Below w2.heap.size w2 W ∧ B1 ≤ W.heap.size ∧ BytesAt B1 W (.slice p n9 c) E) (by kernel_rfl) hS (fun _ => ?_)
   generalize w4.drew = W at *
   refine wpAnyH_take (oi := ⟨_,_,_,_,_,_⟩) (i := 0) (v := .int .i64 0) rfl (by kernel_rfl) (by kernel_rfl) (by kernel_rfl) (fun _ _ _ h => h) (Or.inl ⟨by rfl,?_⟩) (by assumption) ?_
   ·(intro W hSw; have c1 := conv_bytes hSw.2.2; rw [HST.out] at c1; go_simp; try (with_reducible rfl))
   try simp only [Act.put,List.setIfInBounds_toArray,List.set_cons_zero,List.set_cons_succ]
   refine wpAnyH_take (oi := ⟨_,_,_,_,_,_⟩) (i := 1) (v := .bool true) rfl (by kernel_rfl) (by kernel_rfl) (by kernel_rfl) (fun _ _ _ h => h) (Or.inl ⟨by rfl,?_⟩) (by assumption) ?_
   ·(intro W hSw; have c1 := conv_bytes hSw.2.2; rw [HST.out] at c1; go_simp; try (with_reducible rfl))
   try simp only [Act.put,List.setIfInBounds_toArray,List.set_cons_zero,List.set_cons_succ]
   refine wpAnyH_take (oi := ⟨_,_,_,_,_,_⟩) (i := 2) (v := .bool true) rfl (by kernel_rfl) (by kernel_rfl) (by kernel_rfl) (fun _ _ _ h => h) (Or.inl ⟨by rfl,?_⟩) (by assumption) ?_
   ·(intro W hSw; have c1 := conv_bytes hSw.2.2; rw [HST.out] at c1; go_simp; try (with_reducible rfl))
   try simp only [Act.put,List.setIfInBounds_toArray,List.set_cons_zero,List.set_cons_succ]
   refine wpAnyH_take (oi := ⟨_,_,_,_,_,_⟩) (i := 3) (v := .slice p n9 c) rfl (by kernel_rfl) (by kernel_rfl) (by kernel_rfl) (fun _ _ _ h => h) (Or.inl ⟨by rfl,?_⟩) (by assumption) ?_
   ·(intro W hSw; have c1 := conv_bytes hSw.2.2; rw [HST.out] at c1; go_simp; try (with_reducible rfl))
   try simp only [Act.put,List.setIfInBounds_toArray,List.set_cons_zero,List.set_cons_succ]
   refine wpAnyH_take (oi := ⟨_,_,_,_,_,_⟩) (i := 4) (v := .string s) rfl (by kernel_rfl) (by kernel_rfl) (by kernel_rfl) (fun _ _ _ h => h) (Or.inl ⟨by rfl,?_⟩) (by assumption) ?_
   ·(intro W hSw; have c1 := conv_bytes hSw.2.2; rw [HST.out] at c1; go_simp; try (with_reducible rfl))
   try simp only [Act.put,List.setIfInBounds_toArray,List.set_cons_zero,List.set_cons_succ]
   refine wpAnyH_take (oi := ⟨_,_,_,_,_,_⟩) (i := 5) (v := .slice (some ⟨g,0,none⟩) 1 1) rfl (by kernel_rfl) (by kernel_rfl) (by kernel_rfl) (fun _ _ _ h => h) (Or.inl ⟨by rfl,?_⟩) (by assumption) ?_
   ·(intro W hSw; have c1 := conv_bytes hSw.2.2; rw [HST.out] at c1; go_simp; try (with_reducible rfl))
   try simp only [Act.put,List.setIfInBounds_toArray,List.set_cons_zero,List.set_cons_succ]
   refine wpAnyH_ready (rs := [6]) (by kernel_rfl) (by simp) ?_
   refine AllReadyH.cons (o := ⟨_,_,_,_,_,_⟩) rfl (fun K hK => ?_) ?_
   ·go_simp
    go_at_call 27
    (with_reducible refine (HR W hS.1).out.mono ?_)
    rintro e W1 ⟨v,rfl,ho,hb⟩
    obtain ⟨g9,c9,rfl⟩ := own_at ho HE1.out
    have HY := hid (bytes_of_owned ho HE2.out)
    replace hS := And.intro (hS.1.trans (hb.mono hS.1.size)) (And.intro (Nat.le_trans hS.2.1 hb.size) (hS.2.2.below (hb.mono hS.2.1)))
    clear ho hb
    refine hK.out _ _ hS (fun _ => ?_)
    clear hK K
    try simp only [Act.put,List.setIfInBounds_toArray,List.set_cons_zero,List.set_cons_succ]
    refine wpAnyH_ready (rs := [7]) (by kernel_rfl) (by simp) ?_
    refine AllReadyH.cons (o := ⟨_,_,_,_,_,_⟩) rfl (fun K hK => ?_) ?_
    ·have c2 := conv_bytes HY.out
     rw [HST.out] at c2
     go_simp
     clear c2
     refine hK.out _ _ hS (fun _ => ?_)
     clear hK K
     try simp only [Act.put,List.setIfInBounds_toArray,List.set_cons_zero,List.set_cons_succ]
     refine wpAnyH_take (oi := ⟨_,_,_,_,_,_⟩) (i := 8) (v := .bool true) rfl (by kernel_rfl) (by kernel_rfl) (by kernel_rfl) (fun _ _ _ h => h) (Or.inl ⟨by rfl,?_⟩) (by assumption) ?_
     ·(intro W hSw; have c1 := conv_bytes hSw.2.2; rw [HST.out] at c1; go_simp; try (with_reducible rfl))
     try simp only [Act.put,List.setIfInBounds_toArray,List.set_cons_zero,List.set_cons_succ]
     refine wpAnyH_take (oi := ⟨_,_,_,_,_,_⟩) (i := 9) (v := .bool true) rfl (by kernel_rfl) (by kernel_rfl) (by kernel_rfl) (fun _ _ _ h => h) (Or.inl ⟨by rfl,?_⟩) (by assumption) ?_
     ·(intro W hSw; have c1 := conv_bytes hSw.2.2; rw [HST.out] at c1; go_simp; try (with_reducible rfl))
     try simp only [Act.put,List.setIfInBounds_toArray,List.set_cons_zero,List.set_cons_succ]
     refine wpAnyH_take (oi := ⟨_,_,_,_,_,_⟩) (i := 10) (v := .bool true) rfl (by kernel_rfl) (by kernel_rfl) (by kernel_rfl) (fun _ _ _ h => h) (Or.inl ⟨by rfl,?_⟩) (by assumption) ?_
     ·(intro W hSw; have c1 := conv_bytes hSw.2.2; rw [HST.out] at c1; go_simp; try (with_reducible rfl))
     try simp only [Act.put,List.setIfInBounds_toArray,List.set_cons_zero,List.set_cons_succ]
     refine wpAnyH_done (by kernel_rfl) ?_ _
     have HF := hid (HBW.out.trans (hS.1.mono HBW.out.size))
     clear hS
     go_wp2
     go_ret
     exact ⟨rfl,HF.out⟩
    exact AllReadyH.nil
   exact AllReadyH.nil
  ·have hcf : codeB f = false := by simpa using hcb
   have HC := fun (W : World) (h : Below w2.heap.size w2 W) => hid (encCode_no f (by omega) (.slice (some ⟨g,0,none⟩) 1 1) W (HSL W h).out hcf)
   rw [hcf] at HX
   clear HS0 hL hlen hr hfew hcnt hsz hcb hcf HSL
   go_wp2_with (first
    | (go_at_call 17; (with_reducible refine (HF _ HR0.out).out.mono ?_); rintro e w2' ⟨rfl,rfl⟩)
    | (go_at_call 25; (with_reducible refine (HC _ HR0.out).out.mono ?_); rintro e w3 ⟨rfl,hb⟩; have HB3 := hid hb; clear hb)
    | (go_at_call 26; (with_reducible refine (HX _ HB3.out).out.mono ?_); rintro e w4 ⟨rfl,hb⟩; have HB4 := hid (HB3.out.trans (hb.mono HB3.out.size)); clear hb))
   go_ret
   exact ⟨rfl,HBW.out.trans (HB4.out.mono HBW.out.size)⟩
 ·rw [decide_eq_false hfew] at HF
  clear HS0 hL hlen hr hfew HSL
  go_wp2_with (go_at_call 17; (with_reducible refine (HF _ HR0.out).out.mono ?_); rintro e w2' ⟨rfl,rfl⟩)
  go_ret
  exact ⟨rfl,HBW.out⟩
end Go.Proofs.YtjgeedgphcjhoaaGreat
