/-
  EOneL: merged, what the law does not reach left out (each text says what it holds where it lies in wip). No condition.
-/
import Derived.Test.YtjgeedgphcjhoaaGreatO31
set_option linter.unusedSimpArgs false
set_option linter.unusedVariables false
set_option maxRecDepth 100000
namespace Go.Proofs.YtjgeedgphcjhoaaGreat
open Go.RowKit
set_option maxHeartbeats 16000000 in
theorem law_One (op a b : Int) (n h : Nat) (l : List Int) (pl pb pe : Option Addr) (nl cl nb cb ne ce : Nat) (ot : Bool) (body els : Fo) (cnt : Bool) (w : World) (hL : Lens (.cons op a b n h l ot body els .nil)) (hr : RN (.cons op a b n h l ot body els .nil)) (hl : LI w.heap.size w (.slice pl nl cl) l) (hb : SA w.heap.size w (.slice pb nb cb) body) (he : SA w.heap.size w (.slice pe ne ce) els) :
  Calls Tryz.prog 4 #[.agg #[.int .i64 op,.int .i64 a,.int .i64 b,.int .u64 (n : Nat),.int .u64 (h : Nat),.slice pl nl cl,.slice pb nb cb,.slice pe ne ce,.bool ot],.bool cnt] w fun e w' => e = .returned (.bool true) ∧ Below w.heap.size w w' := by
 have HA := fun W => hid (awake_says W)
 have HX0 := hid (CA.new w #[.int .i64 op,.int .i64 a,.int .i64 b,.int .u64 (n : Nat),.int .u64 (h : Nat),.slice pl nl cl,.slice pb nb cb,.slice pe ne ce,.bool ot] 39)
 have HB0 := hid ((Below.refl w.heap.size w).alloc (Nat.le_refl _) (.cells #[.int .i64 op,.int .i64 a,.int .i64 b,.int .u64 (n : Nat),.int .u64 (h : Nat),.slice pl nl cl,.slice pb nb cb,.slice pe ne ce,.bool ot] 39))
 have y0 := HX0.out.at (k := 0) (v := .int .i64 op) rfl
 have y1 := HX0.out.at (k := 1) (v := .int .i64 a) rfl
 have y2 := HX0.out.at (k := 2) (v := .int .i64 b) rfl
 have y3 := HX0.out.at (k := 3) (v := .int .u64 (n : Nat)) rfl
 have y4 := HX0.out.at (k := 4) (v := .int .u64 (h : Nat)) rfl
 have y5 := HX0.out.at (k := 5) (v := .slice pl nl cl) rfl
 have y6 := HX0.out.at (k := 6) (v := .slice pb nb cb) rfl
 have y7 := HX0.out.at (k := 7) (v := .slice pe ne ce) rfl
 have y8 := HX0.out.at (k := 8) (v := .bool ot) rfl
 obtain ⟨f,hf⟩ : ∃ f,f = Fo.cons op a b n h l ot body els .nil := ⟨_,rfl⟩
 have HSA := hid (fun (W : World) (hW : Below w.heap.size w W) => (show SA (W.heap.size + 1) (W.alloc (.cells #[.int .i64 op,.int .i64 a,.int .i64 b,.int .u64 (n : Nat),.int .u64 (h : Nat),.slice pl nl cl,.slice pb nb cb,.slice pe ne ce,.bool ot] 39)) (.slice (some ⟨W.heap.size,0,none⟩) 1 1) f by
  have hc := CA.new W #[.int .i64 op,.int .i64 a,.int .i64 b,.int .u64 (n : Nat),.int .u64 (h : Nat),.slice pl nl cl,.slice pb nb cb,.slice pe ne ce,.bool ot] 39
  have hbw := hW.alloc hW.size (.cells #[.int .i64 op,.int .i64 a,.int .i64 b,.int .u64 (n : Nat),.int .u64 (h : Nat),.slice pl nl cl,.slice pb nb cb,.slice pe ne ce,.bool ot] 39)
  have hle : w.heap.size ≤ W.heap.size + 1 := by have := hW.size; omega
  have hb2 := SA.mono (SA.below hb hbw) hle
  have he2 := SA.mono (SA.below he hbw) hle
  obtain ⟨q1,d1,g1,o1,z1,z2,z3⟩ := hb2
  obtain ⟨q2,d2,g2,o2,z4,z5,z6⟩ := he2
  rw [hf]
  exact ⟨some ⟨W.heap.size,0,none⟩,1,W.heap.size,0,rfl,fun _ => rfl,by omega,⟨.slice pl nl cl,.slice pb nb cb,.slice pe ne ce,hc.at rfl,hc.at rfl,hc.at rfl,hc.at rfl,hc.at rfl,hc.at rfl,hc.at rfl,hc.at rfl,hc.at rfl,LI.mono (LI.below hl hbw) hle,⟨q1,d1,g1,o1,z1,z2,z3⟩,⟨q2,d2,g2,o2,z4,z5,z6⟩⟩,trivial⟩))
 rw [← hf] at hL hr
 have hlen : f.len < 9223372036854775807 := by rw [hf]; simp only [Fo.len]; omega
 have hl1 : f.len = 1 := by rw [hf]; rfl
 clear hf hl hb he
 go_enter Tryz.func4,Tryz.ntmps4
 go_upto_region 5 with (go_at_call 13; (with_reducible refine (HA _).out.mono ?_); rintro e w1 ⟨rfl,hb⟩; have HB1 := hid (HB0.out.trans (hb.mono HB0.out.size)); have HX1 := hid (HX0.out.below hb HX0.out.lt); have y0 := HX1.out.at (k := 0) (v := .int .i64 op) rfl; have y1 := HX1.out.at (k := 1) (v := .int .i64 a) rfl; have y2 := HX1.out.at (k := 2) (v := .int .i64 b) rfl; have y3 := HX1.out.at (k := 3) (v := .int .u64 (n : Nat)) rfl; have y4 := HX1.out.at (k := 4) (v := .int .u64 (h : Nat)) rfl; have y5 := HX1.out.at (k := 5) (v := .slice pl nl cl) rfl; have y6 := HX1.out.at (k := 6) (v := .slice pb nb cb) rfl; have y7 := HX1.out.at (k := 7) (v := .slice pe ne ce) rfl; have y8 := HX1.out.at (k := 8) (v := .bool ot) rfl; clear hb)
 have hs0 := HSA.out w1 HB1.out
 have HBW := hid (HB1.out.alloc HB1.out.size (.cells #[.int .i64 op,.int .i64 a,.int .i64 b,.int .u64 (n : Nat),.int .u64 (h : Nat),.slice pl nl cl,.slice pb nb cb,.slice pe ne ce,.bool ot] 39))
 have hsz0 := size_al w1 (.cells #[.int .i64 op,.int .i64 a,.int .i64 b,.int .u64 (n : Nat),.int .u64 (h : Nat),.slice pl nl cl,.slice pb nb cb,.slice pe ne ce,.bool ot] 39)
 rw [← hsz0] at hs0
 have HS0 := hid hs0
 clear hs0 hsz0 HSA HB1 HX1 HX0 HB0 HA
 generalize w1.alloc (.cells #[.int .i64 op,.int .i64 a,.int .i64 b,.int .u64 (n : Nat),.int .u64 (h : Nat),.slice pl nl cl,.slice pb nb cb,.slice pe ne ce,.bool ot] 39) = w2 at *
 generalize w1.heap.size = g at *
 have HF := hid (Few_says f (.slice (some ⟨g,0,none⟩) 1 1) w2 hL hlen HS0.out)
 have hbz : Below w2.heap.size w2 ((((w2.alloc (.cells #[.int .i64 0,.slice none 0 0,.slice (some ⟨g,0,none⟩) 1 1] 42)).alloc (.cells #[.slice none 0 0,.slice none 0 0,.slice (some ⟨w2.heap.size,0,none⟩) 1 1,.slice none 0 0,.slice none 0 0,.slice none 0 0,.slice none 0 0,.int .i64 0,.slice none 0 0,.slice none 0 0,.bool cnt] 32)).alloc (.cells #[.int .i64 127,.bool false,.slice (some ⟨g,0,none⟩) 1 1] 46)).alloc (.cells #[.slice none 0 0,.slice none 0 0,.slice none 0 0,.slice none 0 0,.slice none 0 0,.slice (some ⟨w2.heap.size + 1 + 1,0,none⟩) 1 1,.slice none 0 0,.int .i64 0,.slice none 0 0,.slice none 0 0,.bool cnt] 32)) := ((((Below.refl w2.heap.size w2).alloc (Nat.le_refl _) _).alloc (by simp only [size_al]; omega) _).alloc (by simp only [size_al]; omega) _).alloc (by simp only [size_al]; omega) _
 have HBZ0 := hid (HBW.out.trans (hbz.mono HBW.out.size))
 have HS3 := hid (SA.mono (SA.below HS0.out hbz) hbz.size)
 have hc1 : CA w2.heap.size #[.int .i64 0,.slice none 0 0,.slice (some ⟨g,0,none⟩) 1 1] 42 ((((w2.alloc (.cells #[.int .i64 0,.slice none 0 0,.slice (some ⟨g,0,none⟩) 1 1] 42)).alloc (.cells #[.slice none 0 0,.slice none 0 0,.slice (some ⟨w2.heap.size,0,none⟩) 1 1,.slice none 0 0,.slice none 0 0,.slice none 0 0,.slice none 0 0,.int .i64 0,.slice none 0 0,.slice none 0 0,.bool cnt] 32)).alloc (.cells #[.int .i64 127,.bool false,.slice (some ⟨g,0,none⟩) 1 1] 46)).alloc (.cells #[.slice none 0 0,.slice none 0 0,.slice none 0 0,.slice none 0 0,.slice none 0 0,.slice (some ⟨w2.heap.size + 1 + 1,0,none⟩) 1 1,.slice none 0 0,.int .i64 0,.slice none 0 0,.slice none 0 0,.bool cnt] 32)) := (((CA.new w2 #[.int .i64 0,.slice none 0 0,.slice (some ⟨g,0,none⟩) 1 1] 42).alloc _).alloc _).alloc _
 have hc2 : CA (w2.heap.size + 1) #[.slice none 0 0,.slice none 0 0,.slice (some ⟨w2.heap.size,0,none⟩) 1 1,.slice none 0 0,.slice none 0 0,.slice none 0 0,.slice none 0 0,.int .i64 0,.slice none 0 0,.slice none 0 0,.bool cnt] 32 ((((w2.alloc (.cells #[.int .i64 0,.slice none 0 0,.slice (some ⟨g,0,none⟩) 1 1] 42)).alloc (.cells #[.slice none 0 0,.slice none 0 0,.slice (some ⟨w2.heap.size,0,none⟩) 1 1,.slice none 0 0,.slice none 0 0,.slice none 0 0,.slice none 0 0,.int .i64 0,.slice none 0 0,.slice none 0 0,.bool cnt] 32)).alloc (.cells #[.int .i64 127,.bool false,.slice (some ⟨g,0,none⟩) 1 1] 46)).alloc (.cells #[.slice none 0 0,.slice none 0 0,.slice none 0 0,.slice none 0 0,.slice none 0 0,.slice (some ⟨w2.heap.size + 1 + 1,0,none⟩) 1 1,.slice none 0 0,.int .i64 0,.slice none 0 0,.slice none 0 0,.bool cnt] 32)) := by
  have := CA.new (w2.alloc (.cells #[.int .i64 0,.slice none 0 0,.slice (some ⟨g,0,none⟩) 1 1] 42)) #[.slice none 0 0,.slice none 0 0,.slice (some ⟨w2.heap.size,0,none⟩) 1 1,.slice none 0 0,.slice none 0 0,.slice none 0 0,.slice none 0 0,.int .i64 0,.slice none 0 0,.slice none 0 0,.bool cnt] 32
  rw [size_al] at this
  exact (this.alloc _).alloc _
 have hc3 : CA (w2.heap.size + 1 + 1) #[.int .i64 127,.bool false,.slice (some ⟨g,0,none⟩) 1 1] 46 ((((w2.alloc (.cells #[.int .i64 0,.slice none 0 0,.slice (some ⟨g,0,none⟩) 1 1] 42)).alloc (.cells #[.slice none 0 0,.slice none 0 0,.slice (some ⟨w2.heap.size,0,none⟩) 1 1,.slice none 0 0,.slice none 0 0,.slice none 0 0,.slice none 0 0,.int .i64 0,.slice none 0 0,.slice none 0 0,.bool cnt] 32)).alloc (.cells #[.int .i64 127,.bool false,.slice (some ⟨g,0,none⟩) 1 1] 46)).alloc (.cells #[.slice none 0 0,.slice none 0 0,.slice none 0 0,.slice none 0 0,.slice none 0 0,.slice (some ⟨w2.heap.size + 1 + 1,0,none⟩) 1 1,.slice none 0 0,.int .i64 0,.slice none 0 0,.slice none 0 0,.bool cnt] 32)) := by
  have := CA.new ((w2.alloc (.cells #[.int .i64 0,.slice none 0 0,.slice (some ⟨g,0,none⟩) 1 1] 42)).alloc (.cells #[.slice none 0 0,.slice none 0 0,.slice (some ⟨w2.heap.size,0,none⟩) 1 1,.slice none 0 0,.slice none 0 0,.slice none 0 0,.slice none 0 0,.int .i64 0,.slice none 0 0,.slice none 0 0,.bool cnt] 32)) #[.int .i64 127,.bool false,.slice (some ⟨g,0,none⟩) 1 1] 46
  rw [size_al,size_al] at this
  exact this.alloc _
 have hc4 : CA (w2.heap.size + 1 + 1 + 1) #[.slice none 0 0,.slice none 0 0,.slice none 0 0,.slice none 0 0,.slice none 0 0,.slice (some ⟨w2.heap.size + 1 + 1,0,none⟩) 1 1,.slice none 0 0,.int .i64 0,.slice none 0 0,.slice none 0 0,.bool cnt] 32 ((((w2.alloc (.cells #[.int .i64 0,.slice none 0 0,.slice (some ⟨g,0,none⟩) 1 1] 42)).alloc (.cells #[.slice none 0 0,.slice none 0 0,.slice (some ⟨w2.heap.size,0,none⟩) 1 1,.slice none 0 0,.slice none 0 0,.slice none 0 0,.slice none 0 0,.int .i64 0,.slice none 0 0,.slice none 0 0,.bool cnt] 32)).alloc (.cells #[.int .i64 127,.bool false,.slice (some ⟨g,0,none⟩) 1 1] 46)).alloc (.cells #[.slice none 0 0,.slice none 0 0,.slice none 0 0,.slice none 0 0,.slice none 0 0,.slice (some ⟨w2.heap.size + 1 + 1,0,none⟩) 1 1,.slice none 0 0,.int .i64 0,.slice none 0 0,.slice none 0 0,.bool cnt] 32)) := by
  have := CA.new (((w2.alloc (.cells #[.int .i64 0,.slice none 0 0,.slice (some ⟨g,0,none⟩) 1 1] 42)).alloc (.cells #[.slice none 0 0,.slice none 0 0,.slice (some ⟨w2.heap.size,0,none⟩) 1 1,.slice none 0 0,.slice none 0 0,.slice none 0 0,.slice none 0 0,.int .i64 0,.slice none 0 0,.slice none 0 0,.bool cnt] 32)).alloc (.cells #[.int .i64 127,.bool false,.slice (some ⟨g,0,none⟩) 1 1] 46)) #[.slice none 0 0,.slice none 0 0,.slice none 0 0,.slice none 0 0,.slice none 0 0,.slice (some ⟨w2.heap.size + 1 + 1,0,none⟩) 1 1,.slice none 0 0,.int .i64 0,.slice none 0 0,.slice none 0 0,.bool cnt] 32
  rw [size_al,size_al,size_al] at this
  exact this
 have HC1 := hid hc1
 have HC2 := hid hc2
 have HC3 := hid hc3
 have HC4 := hid hc4
 clear hbz hc1 hc2 hc3 hc4 HBW
 by_cases hfew : 0 ≤ wg f 0 3000
 ·have hcnt := few_cnt f hfew
  rw [decide_eq_true hfew] at HF
  clear HS0 hfew hlen
  go_upto_region 8 with (go_at_call 17; (with_reducible refine HF.out.mono ?_); rintro e w2' ⟨rfl,rfl⟩)
  generalize ((((w2.alloc (.cells #[.int .i64 0,.slice none 0 0,.slice (some ⟨g,0,none⟩) 1 1] 42)).alloc (.cells #[.slice none 0 0,.slice none 0 0,.slice (some ⟨w2.heap.size,0,none⟩) 1 1,.slice none 0 0,.slice none 0 0,.slice none 0 0,.slice none 0 0,.int .i64 0,.slice none 0 0,.slice none 0 0,.bool cnt] 32)).alloc (.cells #[.int .i64 127,.bool false,.slice (some ⟨g,0,none⟩) 1 1] 46)).alloc (.cells #[.slice none 0 0,.slice none 0 0,.slice none 0 0,.slice none 0 0,.slice none 0 0,.slice (some ⟨w2.heap.size + 1 + 1,0,none⟩) 1 1,.slice none 0 0,.int .i64 0,.slice none 0 0,.slice none 0 0,.bool cnt] 32)) = W3 at *
  generalize w2.heap.size = k at *
  have LF := fun (W : World) (h : Below W3.heap.size W3 W) => hid (HC2.out.below h HC2.out.lt)
  have LG := fun (W : World) (h : Below W3.heap.size W3 W) => hid (HC4.out.below h HC4.out.lt)
  have HSL := fun (W : World) (h : Below W3.heap.size W3 W) => hid (SA.mono (SA.below HS3.out h) h.size)
  have KPF := fun (W : World) (h : Below W3.heap.size W3 W) => hid (PMay_f f (by omega) (some ⟨g,0,none⟩) 1 k cnt W (by rw [hl1]; exact HC1.out.below h HC1.out.lt) (by rw [hl1]; exact (HSL W h).out))
  have KPG := fun (W : World) (h : Below W3.heap.size W3 W) => hid (PMay_g f (by omega) (some ⟨g,0,none⟩) 1 1 (k + 1 + 1) cnt W (HC3.out.below h HC3.out.lt) (HSL W h).out)
  have KE := fun (W : World) (h : Below W3.heap.size W3 W) => Expr_says f (.slice (some ⟨g,0,none⟩) 1 1) W.heap.size W (by omega) hr.rng (Nat.le_refl _) (HSL W h).out
  have KA := fun (W : World) (h : Below W3.heap.size W3 W) => Asks_says W.heap.size (f.cnt + 1) f ⟨by omega,by omega⟩ (.slice (some ⟨g,0,none⟩) 1 1) W (Nat.le_refl _) (HSL W h).out
  have KRF := fun (W : World) (h : Below W3.heap.size W3 W) => hid (RMay_f k (some ⟨g,0,none⟩) 1 1 cnt (codeB f) (asksB f) W (HC1.out.below h HC1.out.lt) (fun W' h' => KE W' (h.trans (h'.mono h.size))) (fun W' h' => KA W' (h.trans (h'.mono h.size))))
  have KRG := fun (W : World) (h : Below W3.heap.size W3 W) => hid (RMay_g (k + 1 + 1) (some ⟨g,0,none⟩) 1 1 cnt (codeB f) (asksB f) W (HC3.out.below h HC3.out.lt) (fun W' h' => KE W' (h.trans (h'.mono h.size))) (fun W' h' => KA W' (h.trans (h'.mono h.size))))
  rw [data_eq] at KPF
  have HBZ := HBZ0
  obtain ⟨A,hA⟩ : ∃ A,A = (codeB f && (cnt || !asksB f)) := ⟨_,rfl⟩
  obtain ⟨G,hG⟩ : ∃ G,G = codeB f := ⟨_,rfl⟩
  rw [← hA] at KPF KRF
  rw [← hG] at KPG KRG
  clear KE KA hA hG HSL HS3 hcnt hr hL hl1 HBZ0 HC1 HC3
  have hS : Below W3.heap.size W3 W3.drew := (Below.refl _ _).drew
  refine wp_region_held_drew (S := fun W => Below W3.heap.size W3 W) (by kernel_rfl) hS (fun _ => ?_)
  generalize W3.drew = W at *
  refine wpAnyH_take (oi := ⟨_,_,_,_,_,_⟩) (i := 0) (v := .bool true) rfl (by kernel_rfl) (by kernel_rfl) (by kernel_rfl) (fun _ _ _ h => h) (Or.inl ⟨by rfl,?_⟩) (by assumption) ?_
  ·(intro W hSw; have x0 := ((LF W hSw).out).at (k := 0) (v := .slice none 0 0) rfl; have x1 := ((LF W hSw).out).at (k := 1) (v := .slice none 0 0) rfl; have x2 := ((LF W hSw).out).at (k := 2) (v := .slice (some ⟨k,0,none⟩) 1 1) rfl; have x3 := ((LF W hSw).out).at (k := 3) (v := .slice none 0 0) rfl; have x4 := ((LF W hSw).out).at (k := 4) (v := .slice none 0 0) rfl; have x5 := ((LF W hSw).out).at (k := 5) (v := .slice none 0 0) rfl; have x6 := ((LF W hSw).out).at (k := 6) (v := .slice none 0 0) rfl; have x7 := ((LF W hSw).out).at (k := 7) (v := .int .i64 0) rfl; have x8 := ((LF W hSw).out).at (k := 8) (v := .slice none 0 0) rfl; have x9 := ((LF W hSw).out).at (k := 9) (v := .slice none 0 0) rfl; have x10 := ((LF W hSw).out).at (k := 10) (v := .bool cnt) rfl; have v0 := ((LG W hSw).out).at (k := 0) (v := .slice none 0 0) rfl; have v1 := ((LG W hSw).out).at (k := 1) (v := .slice none 0 0) rfl; have v2 := ((LG W hSw).out).at (k := 2) (v := .slice none 0 0) rfl; have v3 := ((LG W hSw).out).at (k := 3) (v := .slice none 0 0) rfl; have v4 := ((LG W hSw).out).at (k := 4) (v := .slice none 0 0) rfl; have v5 := ((LG W hSw).out).at (k := 5) (v := .slice (some ⟨k + 1 + 1,0,none⟩) 1 1) rfl; have v6 := ((LG W hSw).out).at (k := 6) (v := .slice none 0 0) rfl; have v7 := ((LG W hSw).out).at (k := 7) (v := .int .i64 0) rfl; have v8 := ((LG W hSw).out).at (k := 8) (v := .slice none 0 0) rfl; have v9 := ((LG W hSw).out).at (k := 9) (v := .slice none 0 0) rfl; have v10 := ((LG W hSw).out).at (k := 10) (v := .bool cnt) rfl; go_simp; try (with_reducible rfl))
  try simp only [Act.put,List.setIfInBounds_toArray,List.set_cons_zero,List.set_cons_succ]
  refine wpAnyH_take (oi := ⟨_,_,_,_,_,_⟩) (i := 1) (v := .bool false) rfl (by kernel_rfl) (by kernel_rfl) (by kernel_rfl) (fun _ _ _ h => h) (Or.inl ⟨by rfl,?_⟩) (by assumption) ?_
  ·(intro W hSw; have x0 := ((LF W hSw).out).at (k := 0) (v := .slice none 0 0) rfl; have x1 := ((LF W hSw).out).at (k := 1) (v := .slice none 0 0) rfl; have x2 := ((LF W hSw).out).at (k := 2) (v := .slice (some ⟨k,0,none⟩) 1 1) rfl; have x3 := ((LF W hSw).out).at (k := 3) (v := .slice none 0 0) rfl; have x4 := ((LF W hSw).out).at (k := 4) (v := .slice none 0 0) rfl; have x5 := ((LF W hSw).out).at (k := 5) (v := .slice none 0 0) rfl; have x6 := ((LF W hSw).out).at (k := 6) (v := .slice none 0 0) rfl; have x7 := ((LF W hSw).out).at (k := 7) (v := .int .i64 0) rfl; have x8 := ((LF W hSw).out).at (k := 8) (v := .slice none 0 0) rfl; have x9 := ((LF W hSw).out).at (k := 9) (v := .slice none 0 0) rfl; have x10 := ((LF W hSw).out).at (k := 10) (v := .bool cnt) rfl; have v0 := ((LG W hSw).out).at (k := 0) (v := .slice none 0 0) rfl; have v1 := ((LG W hSw).out).at (k := 1) (v := .slice none 0 0) rfl; have v2 := ((LG W hSw).out).at (k := 2) (v := .slice none 0 0) rfl; have v3 := ((LG W hSw).out).at (k := 3) (v := .slice none 0 0) rfl; have v4 := ((LG W hSw).out).at (k := 4) (v := .slice none 0 0) rfl; have v5 := ((LG W hSw).out).at (k := 5) (v := .slice (some ⟨k + 1 + 1,0,none⟩) 1 1) rfl; have v6 := ((LG W hSw).out).at (k := 6) (v := .slice none 0 0) rfl; have v7 := ((LG W hSw).out).at (k := 7) (v := .int .i64 0) rfl; have v8 := ((LG W hSw).out).at (k := 8) (v := .slice none 0 0) rfl; have v9 := ((LG W hSw).out).at (k := 9) (v := .slice none 0 0) rfl; have v10 := ((LG W hSw).out).at (k := 10) (v := .bool cnt) rfl; go_simp; try (with_reducible rfl))
  try simp only [Act.put,List.setIfInBounds_toArray,List.set_cons_zero,List.set_cons_succ]
  refine wpAnyH_take (oi := ⟨_,_,_,_,_,_⟩) (i := 2) (v := .bool false) rfl (by kernel_rfl) (by kernel_rfl) (by kernel_rfl) (fun _ _ _ h => h) (Or.inl ⟨by rfl,?_⟩) (by assumption) ?_
  ·(intro W hSw; have x0 := ((LF W hSw).out).at (k := 0) (v := .slice none 0 0) rfl; have x1 := ((LF W hSw).out).at (k := 1) (v := .slice none 0 0) rfl; have x2 := ((LF W hSw).out).at (k := 2) (v := .slice (some ⟨k,0,none⟩) 1 1) rfl; have x3 := ((LF W hSw).out).at (k := 3) (v := .slice none 0 0) rfl; have x4 := ((LF W hSw).out).at (k := 4) (v := .slice none 0 0) rfl; have x5 := ((LF W hSw).out).at (k := 5) (v := .slice none 0 0) rfl; have x6 := ((LF W hSw).out).at (k := 6) (v := .slice none 0 0) rfl; have x7 := ((LF W hSw).out).at (k := 7) (v := .int .i64 0) rfl; have x8 := ((LF W hSw).out).at (k := 8) (v := .slice none 0 0) rfl; have x9 := ((LF W hSw).out).at (k := 9) (v := .slice none 0 0) rfl; have x10 := ((LF W hSw).out).at (k := 10) (v := .bool cnt) rfl; have v0 := ((LG W hSw).out).at (k := 0) (v := .slice none 0 0) rfl; have v1 := ((LG W hSw).out).at (k := 1) (v := .slice none 0 0) rfl; have v2 := ((LG W hSw).out).at (k := 2) (v := .slice none 0 0) rfl; have v3 := ((LG W hSw).out).at (k := 3) (v := .slice none 0 0) rfl; have v4 := ((LG W hSw).out).at (k := 4) (v := .slice none 0 0) rfl; have v5 := ((LG W hSw).out).at (k := 5) (v := .slice (some ⟨k + 1 + 1,0,none⟩) 1 1) rfl; have v6 := ((LG W hSw).out).at (k := 6) (v := .slice none 0 0) rfl; have v7 := ((LG W hSw).out).at (k := 7) (v := .int .i64 0) rfl; have v8 := ((LG W hSw).out).at (k := 8) (v := .slice none 0 0) rfl; have v9 := ((LG W hSw).out).at (k := 9) (v := .slice none 0 0) rfl; have v10 := ((LG W hSw).out).at (k := 10) (v := .bool cnt) rfl; go_simp; try (with_reducible rfl))
  try simp only [Act.put,List.setIfInBounds_toArray,List.set_cons_zero,List.set_cons_succ]
  refine wpAnyH_take (oi := ⟨_,_,_,_,_,_⟩) (i := 3) (v := .agg #[.slice none 0 0,.slice none 0 0,.slice (some ⟨k,0,none⟩) 1 1,.slice none 0 0,.slice none 0 0,.slice none 0 0,.slice none 0 0,.int .i64 0,.slice none 0 0,.slice none 0 0,.bool cnt]) rfl (by kernel_rfl) (by kernel_rfl) (by kernel_rfl) (fun _ _ _ h => h) (Or.inl ⟨by rfl,?_⟩) (by assumption) ?_
  ·(intro W hSw; have x0 := ((LF W hSw).out).at (k := 0) (v := .slice none 0 0) rfl; have x1 := ((LF W hSw).out).at (k := 1) (v := .slice none 0 0) rfl; have x2 := ((LF W hSw).out).at (k := 2) (v := .slice (some ⟨k,0,none⟩) 1 1) rfl; have x3 := ((LF W hSw).out).at (k := 3) (v := .slice none 0 0) rfl; have x4 := ((LF W hSw).out).at (k := 4) (v := .slice none 0 0) rfl; have x5 := ((LF W hSw).out).at (k := 5) (v := .slice none 0 0) rfl; have x6 := ((LF W hSw).out).at (k := 6) (v := .slice none 0 0) rfl; have x7 := ((LF W hSw).out).at (k := 7) (v := .int .i64 0) rfl; have x8 := ((LF W hSw).out).at (k := 8) (v := .slice none 0 0) rfl; have x9 := ((LF W hSw).out).at (k := 9) (v := .slice none 0 0) rfl; have x10 := ((LF W hSw).out).at (k := 10) (v := .bool cnt) rfl; have v0 := ((LG W hSw).out).at (k := 0) (v := .slice none 0 0) rfl; have v1 := ((LG W hSw).out).at (k := 1) (v := .slice none 0 0) rfl; have v2 := ((LG W hSw).out).at (k := 2) (v := .slice none 0 0) rfl; have v3 := ((LG W hSw).out).at (k := 3) (v := .slice none 0 0) rfl; have v4 := ((LG W hSw).out).at (k := 4) (v := .slice none 0 0) rfl; have v5 := ((LG W hSw).out).at (k := 5) (v := .slice (some ⟨k + 1 + 1,0,none⟩) 1 1) rfl; have v6 := ((LG W hSw).out).at (k := 6) (v := .slice none 0 0) rfl; have v7 := ((LG W hSw).out).at (k := 7) (v := .int .i64 0) rfl; have v8 := ((LG W hSw).out).at (k := 8) (v := .slice none 0 0) rfl; have v9 := ((LG W hSw).out).at (k := 9) (v := .slice none 0 0) rfl; have v10 := ((LG W hSw).out).at (k := 10) (v := .bool cnt) rfl; go_simp; try (with_reducible rfl))
  try simp only [Act.put,List.setIfInBounds_toArray,List.set_cons_zero,List.set_cons_succ]
  refine wpAnyH_take (oi := ⟨_,_,_,_,_,_⟩) (i := 5) (v := .agg #[.slice none 0 0,.slice none 0 0,.slice (some ⟨k,0,none⟩) 1 1,.slice none 0 0,.slice none 0 0,.slice none 0 0,.slice none 0 0,.int .i64 0,.slice none 0 0,.slice none 0 0,.bool cnt]) rfl (by kernel_rfl) (by kernel_rfl) (by kernel_rfl) (fun _ _ _ h => h) (Or.inl ⟨by rfl,?_⟩) (by assumption) ?_
  ·(intro W hSw; have x0 := ((LF W hSw).out).at (k := 0) (v := .slice none 0 0) rfl; have x1 := ((LF W hSw).out).at (k := 1) (v := .slice none 0 0) rfl; have x2 := ((LF W hSw).out).at (k := 2) (v := .slice (some ⟨k,0,none⟩) 1 1) rfl; have x3 := ((LF W hSw).out).at (k := 3) (v := .slice none 0 0) rfl; have x4 := ((LF W hSw).out).at (k := 4) (v := .slice none 0 0) rfl; have x5 := ((LF W hSw).out).at (k := 5) (v := .slice none 0 0) rfl; have x6 := ((LF W hSw).out).at (k := 6) (v := .slice none 0 0) rfl; have x7 := ((LF W hSw).out).at (k := 7) (v := .int .i64 0) rfl; have x8 := ((LF W hSw).out).at (k := 8) (v := .slice none 0 0) rfl; have x9 := ((LF W hSw).out).at (k := 9) (v := .slice none 0 0) rfl; have x10 := ((LF W hSw).out).at (k := 10) (v := .bool cnt) rfl; have v0 := ((LG W hSw).out).at (k := 0) (v := .slice none 0 0) rfl; have v1 := ((LG W hSw).out).at (k := 1) (v := .slice none 0 0) rfl; have v2 := ((LG W hSw).out).at (k := 2) (v := .slice none 0 0) rfl; have v3 := ((LG W hSw).out).at (k := 3) (v := .slice none 0 0) rfl; have v4 := ((LG W hSw).out).at (k := 4) (v := .slice none 0 0) rfl; have v5 := ((LG W hSw).out).at (k := 5) (v := .slice (some ⟨k + 1 + 1,0,none⟩) 1 1) rfl; have v6 := ((LG W hSw).out).at (k := 6) (v := .slice none 0 0) rfl; have v7 := ((LG W hSw).out).at (k := 7) (v := .int .i64 0) rfl; have v8 := ((LG W hSw).out).at (k := 8) (v := .slice none 0 0) rfl; have v9 := ((LG W hSw).out).at (k := 9) (v := .slice none 0 0) rfl; have v10 := ((LG W hSw).out).at (k := 10) (v := .bool cnt) rfl; go_simp; try (with_reducible rfl))
  try simp only [Act.put,List.setIfInBounds_toArray,List.set_cons_zero,List.set_cons_succ]
  refine wpAnyH_ready (rs := [4]) (by kernel_rfl) (by simp) ?_
  refine AllReadyH.cons (o := ⟨_,_,_,_,_,_⟩) rfl (fun K hK => ?_) ?_
  ·go_simp
   go_at_call 15
   (with_reducible refine (KPF W hS).out.mono ?_)
   rintro e W11 ⟨rfl,hb⟩
   replace hS := hS.trans (hb.mono hS.size)
   clear hb
   refine hK.out _ _ hS (fun _ => ?_)
   clear hK K
   try simp only [Act.put,List.setIfInBounds_toArray,List.set_cons_zero,List.set_cons_succ]
   refine wpAnyH_ready (rs := [6]) (by kernel_rfl) (by simp) ?_
   refine AllReadyH.cons (o := ⟨_,_,_,_,_,_⟩) rfl (fun K hK => ?_) ?_
   ·go_simp
    go_at_call 16
    (with_reducible refine (KRF W11 hS).out.mono ?_)
    rintro e W12 ⟨rfl,hb⟩
    replace hS := hS.trans (hb.mono hS.size)
    clear hb
    refine hK.out _ _ hS (fun _ => ?_)
    clear hK K
    try simp only [Act.put,List.setIfInBounds_toArray,List.set_cons_zero,List.set_cons_succ]
    refine wpAnyH_take (oi := ⟨_,_,_,_,_,_⟩) (i := 7) (v := .bool true) rfl (by kernel_rfl) (by kernel_rfl) (by kernel_rfl) (fun _ _ _ h => h) (Or.inl ⟨by rfl,?_⟩) (by assumption) ?_
    ·(intro W hSw; have x0 := ((LF W hSw).out).at (k := 0) (v := .slice none 0 0) rfl; have x1 := ((LF W hSw).out).at (k := 1) (v := .slice none 0 0) rfl; have x2 := ((LF W hSw).out).at (k := 2) (v := .slice (some ⟨k,0,none⟩) 1 1) rfl; have x3 := ((LF W hSw).out).at (k := 3) (v := .slice none 0 0) rfl; have x4 := ((LF W hSw).out).at (k := 4) (v := .slice none 0 0) rfl; have x5 := ((LF W hSw).out).at (k := 5) (v := .slice none 0 0) rfl; have x6 := ((LF W hSw).out).at (k := 6) (v := .slice none 0 0) rfl; have x7 := ((LF W hSw).out).at (k := 7) (v := .int .i64 0) rfl; have x8 := ((LF W hSw).out).at (k := 8) (v := .slice none 0 0) rfl; have x9 := ((LF W hSw).out).at (k := 9) (v := .slice none 0 0) rfl; have x10 := ((LF W hSw).out).at (k := 10) (v := .bool cnt) rfl; have v0 := ((LG W hSw).out).at (k := 0) (v := .slice none 0 0) rfl; have v1 := ((LG W hSw).out).at (k := 1) (v := .slice none 0 0) rfl; have v2 := ((LG W hSw).out).at (k := 2) (v := .slice none 0 0) rfl; have v3 := ((LG W hSw).out).at (k := 3) (v := .slice none 0 0) rfl; have v4 := ((LG W hSw).out).at (k := 4) (v := .slice none 0 0) rfl; have v5 := ((LG W hSw).out).at (k := 5) (v := .slice (some ⟨k + 1 + 1,0,none⟩) 1 1) rfl; have v6 := ((LG W hSw).out).at (k := 6) (v := .slice none 0 0) rfl; have v7 := ((LG W hSw).out).at (k := 7) (v := .int .i64 0) rfl; have v8 := ((LG W hSw).out).at (k := 8) (v := .slice none 0 0) rfl; have v9 := ((LG W hSw).out).at (k := 9) (v := .slice none 0 0) rfl; have v10 := ((LG W hSw).out).at (k := 10) (v := .bool cnt) rfl; go_simp; try (with_reducible rfl))
    try simp only [Act.put,List.setIfInBounds_toArray,List.set_cons_zero,List.set_cons_succ]
    refine wpAnyH_take (oi := ⟨_,_,_,_,_,_⟩) (i := 8) (v := .bool true) rfl (by kernel_rfl) (by kernel_rfl) (by kernel_rfl) (fun _ _ _ h => h) (Or.inl ⟨by rfl,?_⟩) (by assumption) ?_
    ·(intro W hSw; have x0 := ((LF W hSw).out).at (k := 0) (v := .slice none 0 0) rfl; have x1 := ((LF W hSw).out).at (k := 1) (v := .slice none 0 0) rfl; have x2 := ((LF W hSw).out).at (k := 2) (v := .slice (some ⟨k,0,none⟩) 1 1) rfl; have x3 := ((LF W hSw).out).at (k := 3) (v := .slice none 0 0) rfl; have x4 := ((LF W hSw).out).at (k := 4) (v := .slice none 0 0) rfl; have x5 := ((LF W hSw).out).at (k := 5) (v := .slice none 0 0) rfl; have x6 := ((LF W hSw).out).at (k := 6) (v := .slice none 0 0) rfl; have x7 := ((LF W hSw).out).at (k := 7) (v := .int .i64 0) rfl; have x8 := ((LF W hSw).out).at (k := 8) (v := .slice none 0 0) rfl; have x9 := ((LF W hSw).out).at (k := 9) (v := .slice none 0 0) rfl; have x10 := ((LF W hSw).out).at (k := 10) (v := .bool cnt) rfl; have v0 := ((LG W hSw).out).at (k := 0) (v := .slice none 0 0) rfl; have v1 := ((LG W hSw).out).at (k := 1) (v := .slice none 0 0) rfl; have v2 := ((LG W hSw).out).at (k := 2) (v := .slice none 0 0) rfl; have v3 := ((LG W hSw).out).at (k := 3) (v := .slice none 0 0) rfl; have v4 := ((LG W hSw).out).at (k := 4) (v := .slice none 0 0) rfl; have v5 := ((LG W hSw).out).at (k := 5) (v := .slice (some ⟨k + 1 + 1,0,none⟩) 1 1) rfl; have v6 := ((LG W hSw).out).at (k := 6) (v := .slice none 0 0) rfl; have v7 := ((LG W hSw).out).at (k := 7) (v := .int .i64 0) rfl; have v8 := ((LG W hSw).out).at (k := 8) (v := .slice none 0 0) rfl; have v9 := ((LG W hSw).out).at (k := 9) (v := .slice none 0 0) rfl; have v10 := ((LG W hSw).out).at (k := 10) (v := .bool cnt) rfl; go_simp; try (with_reducible rfl))
    try simp only [Act.put,List.setIfInBounds_toArray,List.set_cons_zero,List.set_cons_succ]
    refine wpAnyH_take (oi := ⟨_,_,_,_,_,_⟩) (i := 9) (v := .agg #[.slice none 0 0,.slice none 0 0,.slice none 0 0,.slice none 0 0,.slice none 0 0,.slice (some ⟨k + 1 + 1,0,none⟩) 1 1,.slice none 0 0,.int .i64 0,.slice none 0 0,.slice none 0 0,.bool cnt]) rfl (by kernel_rfl) (by kernel_rfl) (by kernel_rfl) (fun _ _ _ h => h) (Or.inl ⟨by rfl,?_⟩) (by assumption) ?_
    ·(intro W hSw; have x0 := ((LF W hSw).out).at (k := 0) (v := .slice none 0 0) rfl; have x1 := ((LF W hSw).out).at (k := 1) (v := .slice none 0 0) rfl; have x2 := ((LF W hSw).out).at (k := 2) (v := .slice (some ⟨k,0,none⟩) 1 1) rfl; have x3 := ((LF W hSw).out).at (k := 3) (v := .slice none 0 0) rfl; have x4 := ((LF W hSw).out).at (k := 4) (v := .slice none 0 0) rfl; have x5 := ((LF W hSw).out).at (k := 5) (v := .slice none 0 0) rfl; have x6 := ((LF W hSw).out).at (k := 6) (v := .slice none 0 0) rfl; have x7 := ((LF W hSw).out).at (k := 7) (v := .int .i64 0) rfl; have x8 := ((LF W hSw).out).at (k := 8) (v := .slice none 0 0) rfl; have x9 := ((LF W hSw).out).at (k := 9) (v := .slice none 0 0) rfl; have x10 := ((LF W hSw).out).at (k := 10) (v := .bool cnt) rfl; have v0 := ((LG W hSw).out).at (k := 0) (v := .slice none 0 0) rfl; have v1 := ((LG W hSw).out).at (k := 1) (v := .slice none 0 0) rfl; have v2 := ((LG W hSw).out).at (k := 2) (v := .slice none 0 0) rfl; have v3 := ((LG W hSw).out).at (k := 3) (v := .slice none 0 0) rfl; have v4 := ((LG W hSw).out).at (k := 4) (v := .slice none 0 0) rfl; have v5 := ((LG W hSw).out).at (k := 5) (v := .slice (some ⟨k + 1 + 1,0,none⟩) 1 1) rfl; have v6 := ((LG W hSw).out).at (k := 6) (v := .slice none 0 0) rfl; have v7 := ((LG W hSw).out).at (k := 7) (v := .int .i64 0) rfl; have v8 := ((LG W hSw).out).at (k := 8) (v := .slice none 0 0) rfl; have v9 := ((LG W hSw).out).at (k := 9) (v := .slice none 0 0) rfl; have v10 := ((LG W hSw).out).at (k := 10) (v := .bool cnt) rfl; go_simp; try (with_reducible rfl))
    try simp only [Act.put,List.setIfInBounds_toArray,List.set_cons_zero,List.set_cons_succ]
    refine wpAnyH_take (oi := ⟨_,_,_,_,_,_⟩) (i := 11) (v := .agg #[.slice none 0 0,.slice none 0 0,.slice none 0 0,.slice none 0 0,.slice none 0 0,.slice (some ⟨k + 1 + 1,0,none⟩) 1 1,.slice none 0 0,.int .i64 0,.slice none 0 0,.slice none 0 0,.bool cnt]) rfl (by kernel_rfl) (by kernel_rfl) (by kernel_rfl) (fun _ _ _ h => h) (Or.inl ⟨by rfl,?_⟩) (by assumption) ?_
    ·(intro W hSw; have x0 := ((LF W hSw).out).at (k := 0) (v := .slice none 0 0) rfl; have x1 := ((LF W hSw).out).at (k := 1) (v := .slice none 0 0) rfl; have x2 := ((LF W hSw).out).at (k := 2) (v := .slice (some ⟨k,0,none⟩) 1 1) rfl; have x3 := ((LF W hSw).out).at (k := 3) (v := .slice none 0 0) rfl; have x4 := ((LF W hSw).out).at (k := 4) (v := .slice none 0 0) rfl; have x5 := ((LF W hSw).out).at (k := 5) (v := .slice none 0 0) rfl; have x6 := ((LF W hSw).out).at (k := 6) (v := .slice none 0 0) rfl; have x7 := ((LF W hSw).out).at (k := 7) (v := .int .i64 0) rfl; have x8 := ((LF W hSw).out).at (k := 8) (v := .slice none 0 0) rfl; have x9 := ((LF W hSw).out).at (k := 9) (v := .slice none 0 0) rfl; have x10 := ((LF W hSw).out).at (k := 10) (v := .bool cnt) rfl; have v0 := ((LG W hSw).out).at (k := 0) (v := .slice none 0 0) rfl; have v1 := ((LG W hSw).out).at (k := 1) (v := .slice none 0 0) rfl; have v2 := ((LG W hSw).out).at (k := 2) (v := .slice none 0 0) rfl; have v3 := ((LG W hSw).out).at (k := 3) (v := .slice none 0 0) rfl; have v4 := ((LG W hSw).out).at (k := 4) (v := .slice none 0 0) rfl; have v5 := ((LG W hSw).out).at (k := 5) (v := .slice (some ⟨k + 1 + 1,0,none⟩) 1 1) rfl; have v6 := ((LG W hSw).out).at (k := 6) (v := .slice none 0 0) rfl; have v7 := ((LG W hSw).out).at (k := 7) (v := .int .i64 0) rfl; have v8 := ((LG W hSw).out).at (k := 8) (v := .slice none 0 0) rfl; have v9 := ((LG W hSw).out).at (k := 9) (v := .slice none 0 0) rfl; have v10 := ((LG W hSw).out).at (k := 10) (v := .bool cnt) rfl; go_simp; try (with_reducible rfl))
    try simp only [Act.put,List.setIfInBounds_toArray,List.set_cons_zero,List.set_cons_succ]
    refine wpAnyH_ready (rs := [10]) (by kernel_rfl) (by simp) ?_
    refine AllReadyH.cons (o := ⟨_,_,_,_,_,_⟩) rfl (fun K hK => ?_) ?_
    ·go_simp
     go_at_call 15
     (with_reducible refine (KPG W12 hS).out.mono ?_)
     rintro e W13 ⟨rfl,hb⟩
     replace hS := hS.trans (hb.mono hS.size)
     clear hb
     refine hK.out _ _ hS (fun _ => ?_)
     clear hK K
     try simp only [Act.put,List.setIfInBounds_toArray,List.set_cons_zero,List.set_cons_succ]
     refine wpAnyH_ready (rs := [12]) (by kernel_rfl) (by simp) ?_
     refine AllReadyH.cons (o := ⟨_,_,_,_,_,_⟩) rfl (fun K hK => ?_) ?_
     ·go_simp
      go_at_call 16
      (with_reducible refine (KRG W13 hS).out.mono ?_)
      rintro e W14 ⟨rfl,hb⟩
      replace hS := hS.trans (hb.mono hS.size)
      clear hb
      refine hK.out _ _ hS (fun _ => ?_)
      clear hK K
      try simp only [Act.put,List.setIfInBounds_toArray,List.set_cons_zero,List.set_cons_succ]
      refine wpAnyH_take (oi := ⟨_,_,_,_,_,_⟩) (i := 13) (v := .bool true) rfl (by kernel_rfl) (by kernel_rfl) (by kernel_rfl) (fun _ _ _ h => h) (Or.inl ⟨by rfl,?_⟩) (by assumption) ?_
      ·(intro W hSw; have x0 := ((LF W hSw).out).at (k := 0) (v := .slice none 0 0) rfl; have x1 := ((LF W hSw).out).at (k := 1) (v := .slice none 0 0) rfl; have x2 := ((LF W hSw).out).at (k := 2) (v := .slice (some ⟨k,0,none⟩) 1 1) rfl; have x3 := ((LF W hSw).out).at (k := 3) (v := .slice none 0 0) rfl; have x4 := ((LF W hSw).out).at (k := 4) (v := .slice none 0 0) rfl; have x5 := ((LF W hSw).out).at (k := 5) (v := .slice none 0 0) rfl; have x6 := ((LF W hSw).out).at (k := 6) (v := .slice none 0 0) rfl; have x7 := ((LF W hSw).out).at (k := 7) (v := .int .i64 0) rfl; have x8 := ((LF W hSw).out).at (k := 8) (v := .slice none 0 0) rfl; have x9 := ((LF W hSw).out).at (k := 9) (v := .slice none 0 0) rfl; have x10 := ((LF W hSw).out).at (k := 10) (v := .bool cnt) rfl; have v0 := ((LG W hSw).out).at (k := 0) (v := .slice none 0 0) rfl; have v1 := ((LG W hSw).out).at (k := 1) (v := .slice none 0 0) rfl; have v2 := ((LG W hSw).out).at (k := 2) (v := .slice none 0 0) rfl; have v3 := ((LG W hSw).out).at (k := 3) (v := .slice none 0 0) rfl; have v4 := ((LG W hSw).out).at (k := 4) (v := .slice none 0 0) rfl; have v5 := ((LG W hSw).out).at (k := 5) (v := .slice (some ⟨k + 1 + 1,0,none⟩) 1 1) rfl; have v6 := ((LG W hSw).out).at (k := 6) (v := .slice none 0 0) rfl; have v7 := ((LG W hSw).out).at (k := 7) (v := .int .i64 0) rfl; have v8 := ((LG W hSw).out).at (k := 8) (v := .slice none 0 0) rfl; have v9 := ((LG W hSw).out).at (k := 9) (v := .slice none 0 0) rfl; have v10 := ((LG W hSw).out).at (k := 10) (v := .bool cnt) rfl; go_simp; try (with_reducible rfl))
      try simp only [Act.put,List.setIfInBounds_toArray,List.set_cons_zero,List.set_cons_succ]
      refine wpAnyH_take (oi := ⟨_,_,_,_,_,_⟩) (i := 14) (v := .bool true) rfl (by kernel_rfl) (by kernel_rfl) (by kernel_rfl) (fun _ _ _ h => h) (Or.inl ⟨by rfl,?_⟩) (by assumption) ?_
      ·(intro W hSw; have x0 := ((LF W hSw).out).at (k := 0) (v := .slice none 0 0) rfl; have x1 := ((LF W hSw).out).at (k := 1) (v := .slice none 0 0) rfl; have x2 := ((LF W hSw).out).at (k := 2) (v := .slice (some ⟨k,0,none⟩) 1 1) rfl; have x3 := ((LF W hSw).out).at (k := 3) (v := .slice none 0 0) rfl; have x4 := ((LF W hSw).out).at (k := 4) (v := .slice none 0 0) rfl; have x5 := ((LF W hSw).out).at (k := 5) (v := .slice none 0 0) rfl; have x6 := ((LF W hSw).out).at (k := 6) (v := .slice none 0 0) rfl; have x7 := ((LF W hSw).out).at (k := 7) (v := .int .i64 0) rfl; have x8 := ((LF W hSw).out).at (k := 8) (v := .slice none 0 0) rfl; have x9 := ((LF W hSw).out).at (k := 9) (v := .slice none 0 0) rfl; have x10 := ((LF W hSw).out).at (k := 10) (v := .bool cnt) rfl; have v0 := ((LG W hSw).out).at (k := 0) (v := .slice none 0 0) rfl; have v1 := ((LG W hSw).out).at (k := 1) (v := .slice none 0 0) rfl; have v2 := ((LG W hSw).out).at (k := 2) (v := .slice none 0 0) rfl; have v3 := ((LG W hSw).out).at (k := 3) (v := .slice none 0 0) rfl; have v4 := ((LG W hSw).out).at (k := 4) (v := .slice none 0 0) rfl; have v5 := ((LG W hSw).out).at (k := 5) (v := .slice (some ⟨k + 1 + 1,0,none⟩) 1 1) rfl; have v6 := ((LG W hSw).out).at (k := 6) (v := .slice none 0 0) rfl; have v7 := ((LG W hSw).out).at (k := 7) (v := .int .i64 0) rfl; have v8 := ((LG W hSw).out).at (k := 8) (v := .slice none 0 0) rfl; have v9 := ((LG W hSw).out).at (k := 9) (v := .slice none 0 0) rfl; have v10 := ((LG W hSw).out).at (k := 10) (v := .bool cnt) rfl; go_simp; try (with_reducible rfl))
      try simp only [Act.put,List.setIfInBounds_toArray,List.set_cons_zero,List.set_cons_succ]
      refine wpAnyH_take (oi := ⟨_,_,_,_,_,_⟩) (i := 15) (v := .bool true) rfl (by kernel_rfl) (by kernel_rfl) (by kernel_rfl) (fun _ _ _ h => h) (Or.inl ⟨by rfl,?_⟩) (by assumption) ?_
      ·(intro W hSw; have x0 := ((LF W hSw).out).at (k := 0) (v := .slice none 0 0) rfl; have x1 := ((LF W hSw).out).at (k := 1) (v := .slice none 0 0) rfl; have x2 := ((LF W hSw).out).at (k := 2) (v := .slice (some ⟨k,0,none⟩) 1 1) rfl; have x3 := ((LF W hSw).out).at (k := 3) (v := .slice none 0 0) rfl; have x4 := ((LF W hSw).out).at (k := 4) (v := .slice none 0 0) rfl; have x5 := ((LF W hSw).out).at (k := 5) (v := .slice none 0 0) rfl; have x6 := ((LF W hSw).out).at (k := 6) (v := .slice none 0 0) rfl; have x7 := ((LF W hSw).out).at (k := 7) (v := .int .i64 0) rfl; have x8 := ((LF W hSw).out).at (k := 8) (v := .slice none 0 0) rfl; have x9 := ((LF W hSw).out).at (k := 9) (v := .slice none 0 0) rfl; have x10 := ((LF W hSw).out).at (k := 10) (v := .bool cnt) rfl; have v0 := ((LG W hSw).out).at (k := 0) (v := .slice none 0 0) rfl; have v1 := ((LG W hSw).out).at (k := 1) (v := .slice none 0 0) rfl; have v2 := ((LG W hSw).out).at (k := 2) (v := .slice none 0 0) rfl; have v3 := ((LG W hSw).out).at (k := 3) (v := .slice none 0 0) rfl; have v4 := ((LG W hSw).out).at (k := 4) (v := .slice none 0 0) rfl; have v5 := ((LG W hSw).out).at (k := 5) (v := .slice (some ⟨k + 1 + 1,0,none⟩) 1 1) rfl; have v6 := ((LG W hSw).out).at (k := 6) (v := .slice none 0 0) rfl; have v7 := ((LG W hSw).out).at (k := 7) (v := .int .i64 0) rfl; have v8 := ((LG W hSw).out).at (k := 8) (v := .slice none 0 0) rfl; have v9 := ((LG W hSw).out).at (k := 9) (v := .slice none 0 0) rfl; have v10 := ((LG W hSw).out).at (k := 10) (v := .bool cnt) rfl; go_simp; try (with_reducible rfl))
      try simp only [Act.put,List.setIfInBounds_toArray,List.set_cons_zero,List.set_cons_succ]
      refine wpAnyH_take (oi := ⟨_,_,_,_,_,_⟩) (i := 16) (v := .bool true) rfl (by kernel_rfl) (by kernel_rfl) (by kernel_rfl) (fun _ _ _ h => h) (Or.inl ⟨by rfl,?_⟩) (by assumption) ?_
      ·(intro W hSw; have x0 := ((LF W hSw).out).at (k := 0) (v := .slice none 0 0) rfl; have x1 := ((LF W hSw).out).at (k := 1) (v := .slice none 0 0) rfl; have x2 := ((LF W hSw).out).at (k := 2) (v := .slice (some ⟨k,0,none⟩) 1 1) rfl; have x3 := ((LF W hSw).out).at (k := 3) (v := .slice none 0 0) rfl; have x4 := ((LF W hSw).out).at (k := 4) (v := .slice none 0 0) rfl; have x5 := ((LF W hSw).out).at (k := 5) (v := .slice none 0 0) rfl; have x6 := ((LF W hSw).out).at (k := 6) (v := .slice none 0 0) rfl; have x7 := ((LF W hSw).out).at (k := 7) (v := .int .i64 0) rfl; have x8 := ((LF W hSw).out).at (k := 8) (v := .slice none 0 0) rfl; have x9 := ((LF W hSw).out).at (k := 9) (v := .slice none 0 0) rfl; have x10 := ((LF W hSw).out).at (k := 10) (v := .bool cnt) rfl; have v0 := ((LG W hSw).out).at (k := 0) (v := .slice none 0 0) rfl; have v1 := ((LG W hSw).out).at (k := 1) (v := .slice none 0 0) rfl; have v2 := ((LG W hSw).out).at (k := 2) (v := .slice none 0 0) rfl; have v3 := ((LG W hSw).out).at (k := 3) (v := .slice none 0 0) rfl; have v4 := ((LG W hSw).out).at (k := 4) (v := .slice none 0 0) rfl; have v5 := ((LG W hSw).out).at (k := 5) (v := .slice (some ⟨k + 1 + 1,0,none⟩) 1 1) rfl; have v6 := ((LG W hSw).out).at (k := 6) (v := .slice none 0 0) rfl; have v7 := ((LG W hSw).out).at (k := 7) (v := .int .i64 0) rfl; have v8 := ((LG W hSw).out).at (k := 8) (v := .slice none 0 0) rfl; have v9 := ((LG W hSw).out).at (k := 9) (v := .slice none 0 0) rfl; have v10 := ((LG W hSw).out).at (k := 10) (v := .bool cnt) rfl; go_simp; try (with_reducible rfl))
      try simp only [Act.put,List.setIfInBounds_toArray,List.set_cons_zero,List.set_cons_succ]
      refine wpAnyH_done (by kernel_rfl) ?_ _
      have HF := hid (HBZ.out.trans (hS.mono HBZ.out.size))
      clear hS
      go_wp2
      go_ret
      exact ⟨rfl,HF.out⟩
     exact AllReadyH.nil
    exact AllReadyH.nil
   exact AllReadyH.nil
  exact AllReadyH.nil
 ·rw [decide_eq_false hfew] at HF
  clear HS0 hfew hlen hL hr hl1 HS3 HC1 HC2 HC3 HC4
  go_upto_region 8 with (go_at_call 17; (with_reducible refine HF.out.mono ?_); rintro e w2' ⟨rfl,rfl⟩)
  generalize ((((w2.alloc (.cells #[.int .i64 0,.slice none 0 0,.slice (some ⟨g,0,none⟩) 1 1] 42)).alloc (.cells #[.slice none 0 0,.slice none 0 0,.slice (some ⟨w2.heap.size,0,none⟩) 1 1,.slice none 0 0,.slice none 0 0,.slice none 0 0,.slice none 0 0,.int .i64 0,.slice none 0 0,.slice none 0 0,.bool cnt] 32)).alloc (.cells #[.int .i64 127,.bool false,.slice (some ⟨g,0,none⟩) 1 1] 46)).alloc (.cells #[.slice none 0 0,.slice none 0 0,.slice none 0 0,.slice none 0 0,.slice none 0 0,.slice (some ⟨w2.heap.size + 1 + 1,0,none⟩) 1 1,.slice none 0 0,.int .i64 0,.slice none 0 0,.slice none 0 0,.bool cnt] 32)) = W3 at *
  have HBZ := HBZ0
  clear HBZ0
  have hS : Below W3.heap.size W3 W3.drew := (Below.refl _ _).drew
  refine wp_region_held_drew (S := fun W => Below W3.heap.size W3 W) (by kernel_rfl) hS (fun _ => ?_)
  generalize W3.drew = W at *
  refine wpAnyH_take (oi := ⟨_,_,_,_,_,_⟩) (i := 0) (v := .bool false) rfl (by kernel_rfl) (by kernel_rfl) (by kernel_rfl) (fun _ _ _ h => h) (Or.inl ⟨by rfl,?_⟩) (by assumption) ?_
  ·(intro W hSw; skip; go_simp; try (with_reducible rfl))
  try simp only [Act.put,List.setIfInBounds_toArray,List.set_cons_zero,List.set_cons_succ]
  refine wpAnyH_take (oi := ⟨_,_,_,_,_,_⟩) (i := 1) (v := .bool true) rfl (by kernel_rfl) (by kernel_rfl) (by kernel_rfl) (fun _ _ _ h => h) (Or.inl ⟨by rfl,?_⟩) (by assumption) ?_
  ·(intro W hSw; skip; go_simp; try (with_reducible rfl))
  try simp only [Act.put,List.setIfInBounds_toArray,List.set_cons_zero,List.set_cons_succ]
  refine wpAnyH_take (oi := ⟨_,_,_,_,_,_⟩) (i := 2) (v := .bool true) rfl (by kernel_rfl) (by kernel_rfl) (by kernel_rfl) (fun _ _ _ h => h) (Or.inl ⟨by rfl,?_⟩) (by assumption) ?_
  ·(intro W hSw; skip; go_simp; try (with_reducible rfl))
  try simp only [Act.put,List.setIfInBounds_toArray,List.set_cons_zero,List.set_cons_succ]
  refine wpAnyH_take (oi := ⟨_,_,_,_,_,_⟩) (i := 3) (v := undef) rfl (by kernel_rfl) (by kernel_rfl) (by kernel_rfl) (fun _ _ _ h => h) (Or.inr ⟨by rfl,rfl⟩) (by assumption) ?_
  try simp only [Act.put,List.setIfInBounds_toArray,List.set_cons_zero,List.set_cons_succ]
  refine wpAnyH_take (oi := ⟨_,_,_,_,_,_⟩) (i := 4) (v := undef) rfl (by kernel_rfl) (by kernel_rfl) (by kernel_rfl) (fun _ _ _ h => h) (Or.inr ⟨by rfl,rfl⟩) (by assumption) ?_
  try simp only [Act.put,List.setIfInBounds_toArray,List.set_cons_zero,List.set_cons_succ]
  refine wpAnyH_take (oi := ⟨_,_,_,_,_,_⟩) (i := 5) (v := undef) rfl (by kernel_rfl) (by kernel_rfl) (by kernel_rfl) (fun _ _ _ h => h) (Or.inr ⟨by rfl,rfl⟩) (by assumption) ?_
  try simp only [Act.put,List.setIfInBounds_toArray,List.set_cons_zero,List.set_cons_succ]
  refine wpAnyH_take (oi := ⟨_,_,_,_,_,_⟩) (i := 6) (v := undef) rfl (by kernel_rfl) (by kernel_rfl) (by kernel_rfl) (fun _ _ _ h => h) (Or.inr ⟨by rfl,rfl⟩) (by assumption) ?_
  try simp only [Act.put,List.setIfInBounds_toArray,List.set_cons_zero,List.set_cons_succ]
  refine wpAnyH_take (oi := ⟨_,_,_,_,_,_⟩) (i := 7) (v := undef) rfl (by kernel_rfl) (by kernel_rfl) (by kernel_rfl) (fun _ _ _ h => h) (Or.inr ⟨by rfl,rfl⟩) (by assumption) ?_
  try simp only [Act.put,List.setIfInBounds_toArray,List.set_cons_zero,List.set_cons_succ]
  refine wpAnyH_take (oi := ⟨_,_,_,_,_,_⟩) (i := 8) (v := undef) rfl (by kernel_rfl) (by kernel_rfl) (by kernel_rfl) (fun _ _ _ h => h) (Or.inr ⟨by rfl,rfl⟩) (by assumption) ?_
  try simp only [Act.put,List.setIfInBounds_toArray,List.set_cons_zero,List.set_cons_succ]
  refine wpAnyH_take (oi := ⟨_,_,_,_,_,_⟩) (i := 9) (v := undef) rfl (by kernel_rfl) (by kernel_rfl) (by kernel_rfl) (fun _ _ _ h => h) (Or.inr ⟨by rfl,rfl⟩) (by assumption) ?_
  try simp only [Act.put,List.setIfInBounds_toArray,List.set_cons_zero,List.set_cons_succ]
  refine wpAnyH_take (oi := ⟨_,_,_,_,_,_⟩) (i := 10) (v := undef) rfl (by kernel_rfl) (by kernel_rfl) (by kernel_rfl) (fun _ _ _ h => h) (Or.inr ⟨by rfl,rfl⟩) (by assumption) ?_
  try simp only [Act.put,List.setIfInBounds_toArray,List.set_cons_zero,List.set_cons_succ]
  refine wpAnyH_take (oi := ⟨_,_,_,_,_,_⟩) (i := 11) (v := undef) rfl (by kernel_rfl) (by kernel_rfl) (by kernel_rfl) (fun _ _ _ h => h) (Or.inr ⟨by rfl,rfl⟩) (by assumption) ?_
  try simp only [Act.put,List.setIfInBounds_toArray,List.set_cons_zero,List.set_cons_succ]
  refine wpAnyH_take (oi := ⟨_,_,_,_,_,_⟩) (i := 12) (v := undef) rfl (by kernel_rfl) (by kernel_rfl) (by kernel_rfl) (fun _ _ _ h => h) (Or.inr ⟨by rfl,rfl⟩) (by assumption) ?_
  try simp only [Act.put,List.setIfInBounds_toArray,List.set_cons_zero,List.set_cons_succ]
  refine wpAnyH_take (oi := ⟨_,_,_,_,_,_⟩) (i := 13) (v := undef) rfl (by kernel_rfl) (by kernel_rfl) (by kernel_rfl) (fun _ _ _ h => h) (Or.inr ⟨by rfl,rfl⟩) (by assumption) ?_
  try simp only [Act.put,List.setIfInBounds_toArray,List.set_cons_zero,List.set_cons_succ]
  refine wpAnyH_take (oi := ⟨_,_,_,_,_,_⟩) (i := 14) (v := undef) rfl (by kernel_rfl) (by kernel_rfl) (by kernel_rfl) (fun _ _ _ h => h) (Or.inr ⟨by rfl,rfl⟩) (by assumption) ?_
  try simp only [Act.put,List.setIfInBounds_toArray,List.set_cons_zero,List.set_cons_succ]
  refine wpAnyH_take (oi := ⟨_,_,_,_,_,_⟩) (i := 15) (v := .bool true) rfl (by kernel_rfl) (by kernel_rfl) (by kernel_rfl) (fun _ _ _ h => h) (Or.inl ⟨by rfl,?_⟩) (by assumption) ?_
  ·(intro W hSw; skip; go_simp; try (with_reducible rfl))
  try simp only [Act.put,List.setIfInBounds_toArray,List.set_cons_zero,List.set_cons_succ]
  refine wpAnyH_take (oi := ⟨_,_,_,_,_,_⟩) (i := 16) (v := .bool true) rfl (by kernel_rfl) (by kernel_rfl) (by kernel_rfl) (fun _ _ _ h => h) (Or.inl ⟨by rfl,?_⟩) (by assumption) ?_
  ·(intro W hSw; skip; go_simp; try (with_reducible rfl))
  try simp only [Act.put,List.setIfInBounds_toArray,List.set_cons_zero,List.set_cons_succ]
  refine wpAnyH_done (by kernel_rfl) ?_ _
  have HF := hid (HBZ.out.trans (hS.mono HBZ.out.size))
  clear hS
  go_wp2
  go_ret
  exact ⟨rfl,HF.out⟩
end Go.Proofs.YtjgeedgphcjhoaaGreat
