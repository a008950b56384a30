/-
  May, GVar, RStr, RTabs, RDig, Types, RTypes, ROfM: merged, what the law does not reach left out (each text says what it holds where it lies in wip). No condition.
-/
import Derived.Test.YtjgeedgphcjhoaaGreatO03
import Derived.Test.YtjgeedgphcjhoaaGreatO11
import Derived.Test.YtjgeedgphcjhoaaGreatO02
import Derived.Laws.AppendOwnNone
import Derived.Laws.Concat
import Derived.RegionTactic
set_option linter.unusedSimpArgs false
set_option linter.unusedVariables false
set_option maxRecDepth 100000
namespace Go.Proofs.YtjgeedgphcjhoaaGreat
open Go.RowKit
set_option maxHeartbeats 2000000 in
theorem isFT_says (l1 l2 : List Int) (p1 p2 : Option Addr) (c1 c2 B : Nat) (w : World) (hB : B ≤ w.heap.size) (h1 : LI B w (.slice p1 l1.length c1) l1) (h2 : LI B w (.slice p2 l2.length c2) l2) :
  Calls Tryz.prog 31 #[.agg #[.slice p1 l1.length c1,.slice p2 l2.length c2]] w fun e w' => e = .returned (.bool (l1.all valB && l2.all valB)) ∧ Below w.heap.size w w' := by
 have hq1 : l1.length < 9223372036854775807 := by obtain ⟨_,_,_,h,_⟩ := h1; exact h
 have hq2 : l2.length < 9223372036854775807 := by obtain ⟨_,_,_,h,_⟩ := h2; exact h
 have H1 := fun W (hW : Below B w W) => hid (all_int 144 (fun _ _ => rfl) valB isVal_says l1 (.slice p1 l1.length c1) B W (h1.below hW) (Nat.le_trans hB hW.size) hq1)
 have H2 := fun W (hW : Below B w W) => hid (all_int 144 (fun _ _ => rfl) valB isVal_says l2 (.slice p2 l2.length c2) B W (h2.below hW) (Nat.le_trans hB hW.size) hq2)
 generalize l1.all valB = b1 at *
 generalize l2.all valB = b2 at *
 generalize l1.length = n1 at *
 generalize l2.length = n2 at *
 have HBX := hid ((Below.refl w.heap.size w).alloc (Nat.le_refl _) (.cells #[.slice p1 n1 c1,.slice p2 n2 c2] 67))
 have HBY := hid (HBX.out.mono hB)
 clear h1 h2 hq1 hq2 hB
 cases b1
 all_goals
  go_enter Tryz.func31,Tryz.ntmps31
  go_wp2_with (first
   | (go_at_call 143; (with_reducible refine (H1 _ HBY.out).out.mono ?_); rintro e w3 ⟨rfl,rfl⟩)
   | (go_at_call 143; (with_reducible refine (H2 _ HBY.out).out.mono ?_); rintro e w3 ⟨rfl,rfl⟩))
  go_ret
  exact ⟨by simp,HBX.out⟩
set_option maxHeartbeats 4000000 in
theorem isFunc_says (t : Int) (l : List Int) (f : Fo) (p1 p2 : Option Addr) (c1 c2 B : Nat) (w : World) (hn : f.cnt < 9223372036854775806) (hB : B ≤ w.heap.size) (h1 : LI B w (.slice p1 l.length c1) l) (h2 : SA B w (.slice p2 f.len c2) f) :
  Calls Tryz.prog 35 #[.agg #[.int .i64 t,.slice p1 l.length c1,.slice p2 f.len c2]] w fun e w' => e = .returned (.bool (idxB t && decide ((l.length : Int) ≤ 50000) && l.all valB && codeB f)) ∧ Below w.heap.size w w' := by
 have hq1 : l.length < 9223372036854775807 := by obtain ⟨_,_,_,h,_⟩ := h1; exact h
 have HT := fun W => hid (isIndex_says t W)
 have H1 := fun W (hW : Below B w W) => hid (all_int 144 (fun _ _ => rfl) valB isVal_says l (.slice p1 l.length c1) B W (h1.below hW) (Nat.le_trans hB hW.size) hq1)
 have H2 := fun W (hW : Below B w W) => hid (isCode_says f (.slice p2 f.len c2) B W hn (Nat.le_trans hB hW.size) (SA.below h2 hW))
 generalize l.all valB = b3 at *
 generalize codeB f = b4 at *
 generalize idxB t = b1 at *
 obtain ⟨n1,hn1⟩ : ∃ x,x = l.length := ⟨_,rfl⟩
 rw [← hn1] at H1 ⊢
 generalize f.len = n2 at *
 obtain ⟨b2,d2⟩ : ∃ x,decide ((n1 : Int) ≤ 50000) = x := ⟨_,rfl⟩
 rw [d2]
 have HBX := hid ((Below.refl w.heap.size w).alloc (Nat.le_refl _) (.cells #[.int .i64 t,.slice p1 n1 c1,.slice p2 n2 c2] 42))
 have HBY := hid (HBX.out.mono hB)
 clear h1 h2 hq1 hB hn hn1
 rcases (show b1 = false ∨ (b1 = true ∧ b2 = false) ∨ (b1 = true ∧ b2 = true ∧ b3 = false) ∨ (b1 = true ∧ b2 = true ∧ b3 = true) by cases b1 <;> cases b2 <;> cases b3 <;> simp) with rfl | ⟨rfl,rfl⟩ | ⟨rfl,rfl,rfl⟩ | ⟨rfl,rfl,rfl⟩
 ·go_enter Tryz.func35,Tryz.ntmps35
  go_wp2_with (first
   | (go_at_call 145; (with_reducible refine (HT _).out.mono ?_); rintro e w3 ⟨rfl,rfl⟩)
   | (go_at_call 143; (with_reducible refine (H1 _ HBY.out).out.mono ?_); rintro e w3 ⟨rfl,rfl⟩)
   | (go_at_call 148; (with_reducible refine (H2 _ HBY.out).out.mono ?_); rintro e w4 ⟨rfl,hb4⟩; have HB4 := hid (HBX.out.trans (hb4.mono HBX.out.size)); clear hb4))
  go_ret
  exact ⟨by simp,HBX.out⟩
 ·go_enter Tryz.func35,Tryz.ntmps35
  go_wp2_with (first
   | (go_at_call 145; (with_reducible refine (HT _).out.mono ?_); rintro e w3 ⟨rfl,rfl⟩)
   | (go_at_call 143; (with_reducible refine (H1 _ HBY.out).out.mono ?_); rintro e w3 ⟨rfl,rfl⟩)
   | (go_at_call 148; (with_reducible refine (H2 _ HBY.out).out.mono ?_); rintro e w4 ⟨rfl,hb4⟩; have HB4 := hid (HBX.out.trans (hb4.mono HBX.out.size)); clear hb4))
  go_ret
  exact ⟨by simp,HBX.out⟩
 ·go_enter Tryz.func35,Tryz.ntmps35
  go_wp2_with (first
   | (go_at_call 145; (with_reducible refine (HT _).out.mono ?_); rintro e w3 ⟨rfl,rfl⟩)
   | (go_at_call 143; (with_reducible refine (H1 _ HBY.out).out.mono ?_); rintro e w3 ⟨rfl,rfl⟩)
   | (go_at_call 148; (with_reducible refine (H2 _ HBY.out).out.mono ?_); rintro e w4 ⟨rfl,hb4⟩; have HB4 := hid (HBX.out.trans (hb4.mono HBX.out.size)); clear hb4))
  go_ret
  exact ⟨by simp,HBX.out⟩
 ·go_enter Tryz.func35,Tryz.ntmps35
  go_wp2_with (first
   | (go_at_call 145; (with_reducible refine (HT _).out.mono ?_); rintro e w3 ⟨rfl,rfl⟩)
   | (go_at_call 143; (with_reducible refine (H1 _ HBY.out).out.mono ?_); rintro e w3 ⟨rfl,rfl⟩)
   | (go_at_call 148; (with_reducible refine (H2 _ HBY.out).out.mono ?_); rintro e w4 ⟨rfl,hb4⟩; have HB4 := hid (HBX.out.trans (hb4.mono HBX.out.size)); clear hb4))
  go_ret
  exact ⟨by simp,HB4.out⟩
theorem isDataless_says (t : Int) (f : Fo) (p1 p2 : Option Addr) (n1 c1 c2 B : Nat) (w : World) (hn : f.cnt < 9223372036854775806) (hB : B ≤ w.heap.size) (h2 : SA B w (.slice p2 f.len c2) f) :
  Calls Tryz.prog 49 #[.agg #[.int .i64 t,.slice p1 n1 c1,.slice p2 f.len c2]] w fun e w' => e = .returned (.bool (dataB f)) ∧ Below w.heap.size w w' := by
 have H := fun W (hW : Below B w W) => hid (every_says 151 #[] (fun _ _ => rfl) (fun (_ : Unit) _ => True) dataSt B none (fun k e => by cases e) (fun _ _ _ _ _ => trivial) (asks_data B) f () (.slice p2 f.len c2) W hn (Nat.le_trans hB hW.size) (fun k e => by cases e) (SA.below h2 hW) trivial)
 unfold dataB
 generalize (evF dataSt f 1 ()).1 = r at *
 generalize f.len = n2 at *
 have HBX := hid ((Below.refl w.heap.size w).alloc (Nat.le_refl _) (.cells #[.int .i64 t,.slice p1 n1 c1,.slice p2 n2 c2] 42))
 have HBY := hid (HBX.out.mono hB)
 clear h2 hn hB
 go_enter Tryz.func49,Tryz.ntmps49
 go_wp2_with (go_at_call 140; (with_reducible refine (H _ HBY.out).out.mono ?_); rintro e w1 ⟨rfl,_,hk1⟩; have HB1 := hid (HBX.out.trans (hk1.pure.mono HBX.out.size)); clear hk1)
 go_ret
 exact ⟨rfl,HB1.out⟩
set_option maxHeartbeats 16000000 in
theorem May_says (tp : Option Addr) (tn tc fg fo fc : Nat) (tb fb db : Bool) (w : World)
  (ht : ∀ W,Below w.heap.size w W → Calls Tryz.prog 30 #[.slice tp tn tc,.func (.func 31) #[] #[]] W fun e w' => e = .returned (.bool tb) ∧ Below W.heap.size W w')
  (hf : ∀ W,Below w.heap.size w W → Calls Tryz.prog 34 #[.slice (some ⟨fg,fo,none⟩) 1 fc,.func (.func 35) #[] #[]] W fun e w' => e = .returned (.bool fb) ∧ Below W.heap.size W w')
  (hd : ∀ W,Below w.heap.size w W → Calls Tryz.prog 34 #[.slice (some ⟨fg,fo,none⟩) 1 fc,.func (.func 49) #[] #[]] W fun e w' => e = .returned (.bool db) ∧ Below W.heap.size W w') :
  Calls Tryz.prog 15 #[.agg #[.slice tp tn tc,.slice none 0 0,.slice (some ⟨fg,fo,none⟩) 1 fc,.slice none 0 0,.slice none 0 0,.slice none 0 0,.slice none 0 0,.int .i64 0,.slice none 0 0,.slice none 0 0,.bool false]] w fun e w' => e = .returned (.bool (tb && fb && db)) ∧ Below w.heap.size w w' := by
 have HT := fun W h => hid (ht W h)
 have HF := fun W h => hid (hf W h)
 have HD := fun W h => hid (hd W h)
 have HN24 := fun W => hid (all_nil_24 33 none 0 W)
 have HN28 := fun W => hid (all_nil_28 37 none 0 W)
 have HN30 := fun W => hid (all_nil_30 39 none 0 W)
 have HN32 := fun W => hid (all_nil_32 41 none 0 W)
 have HN34 := fun W => hid (all_nil_34 43 none 0 W)
 have HN37 := fun W => hid (all_nil_37 46 none 0 W)
 have HN39 := fun W => hid (all_nil_39 48 none 0 W)
 have HS := fun W => hid (isStart_says 0 W)
 rw [show decide (IntKind.u64.wrap 0 ≤ 4294967296) = true from rfl] at HS
 have HBX := hid ((Below.refl w.heap.size w).alloc (Nat.le_refl _) (.cells #[.slice tp tn tc,.slice none 0 0,.slice (some ⟨fg,fo,none⟩) 1 fc,.slice none 0 0,.slice none 0 0,.slice none 0 0,.slice none 0 0,.int .i64 0,.slice none 0 0,.slice none 0 0,.bool false] 32))
 have HX := hid (CA.new w #[.slice tp tn tc,.slice none 0 0,.slice (some ⟨fg,fo,none⟩) 1 fc,.slice none 0 0,.slice none 0 0,.slice none 0 0,.slice none 0 0,.int .i64 0,.slice none 0 0,.slice none 0 0,.bool false] 32)
 clear ht hf hd
 rcases (show tb = false ∨ (tb = true ∧ fb = false) ∨ (tb = true ∧ fb = true) by cases tb <;> cases fb <;> simp) with rfl | ⟨rfl,rfl⟩ | ⟨rfl,rfl⟩
 ·go_enter Tryz.func15,Tryz.ntmps15
  go_wp2_with (first
   | (go_at_call 30; (with_reducible refine (HT _ HBX.out).out.mono ?_); rintro e w1 ⟨rfl,hb1⟩; have HB1 := hid (HBX.out.trans (hb1.mono HBX.out.size)); have HX1 := hid (HX.out.below hb1 HX.out.lt); have y0 := HX1.out.at (k := 0) (v := .slice tp tn tc) rfl; have y1 := HX1.out.at (k := 1) (v := .slice none 0 0) rfl; have y2 := HX1.out.at (k := 2) (v := .slice (some ⟨fg,fo,none⟩) 1 fc) rfl; have y3 := HX1.out.at (k := 3) (v := .slice none 0 0) rfl; have y4 := HX1.out.at (k := 4) (v := .slice none 0 0) rfl; have y5 := HX1.out.at (k := 5) (v := .slice none 0 0) rfl; have y6 := HX1.out.at (k := 6) (v := .slice none 0 0) rfl; have y7 := HX1.out.at (k := 7) (v := .int .i64 0) rfl; have y8 := HX1.out.at (k := 8) (v := .slice none 0 0) rfl; have y9 := HX1.out.at (k := 9) (v := .slice none 0 0) rfl; have y10 := HX1.out.at (k := 10) (v := .bool false) rfl; clear hb1)
   | (go_at_call 34; (with_reducible refine (HF _ HB1.out).out.mono ?_); rintro e w2 ⟨rfl,hb2⟩; have HB2 := hid (HB1.out.trans (hb2.mono HB1.out.size)); have HX2 := hid (HX1.out.below hb2 HX1.out.lt); have z0 := HX2.out.at (k := 0) (v := .slice tp tn tc) rfl; have z1 := HX2.out.at (k := 1) (v := .slice none 0 0) rfl; have z2 := HX2.out.at (k := 2) (v := .slice (some ⟨fg,fo,none⟩) 1 fc) rfl; have z3 := HX2.out.at (k := 3) (v := .slice none 0 0) rfl; have z4 := HX2.out.at (k := 4) (v := .slice none 0 0) rfl; have z5 := HX2.out.at (k := 5) (v := .slice none 0 0) rfl; have z6 := HX2.out.at (k := 6) (v := .slice none 0 0) rfl; have z7 := HX2.out.at (k := 7) (v := .int .i64 0) rfl; have z8 := HX2.out.at (k := 8) (v := .slice none 0 0) rfl; have z9 := HX2.out.at (k := 9) (v := .slice none 0 0) rfl; have z10 := HX2.out.at (k := 10) (v := .bool false) rfl; clear hb2)
   | (go_at_call 34; (with_reducible refine (HD _ HB2.out).out.mono ?_); rintro e w3 ⟨rfl,hb3⟩; have HB3 := hid (HB2.out.trans (hb3.mono HB2.out.size)); clear hb3)
   | (go_at_call 44; (with_reducible refine (HS _).out.mono ?_); rintro e w5 ⟨rfl,rfl⟩)
   | (go_at_call 32; (with_reducible refine (HN24 _).out.mono ?_); rintro e w5 ⟨rfl,rfl⟩)
   | (go_at_call 36; (with_reducible refine (HN28 _).out.mono ?_); rintro e w5 ⟨rfl,rfl⟩)
   | (go_at_call 38; (with_reducible refine (HN30 _).out.mono ?_); rintro e w5 ⟨rfl,rfl⟩)
   | (go_at_call 40; (with_reducible refine (HN32 _).out.mono ?_); rintro e w5 ⟨rfl,rfl⟩)
   | (go_at_call 42; (with_reducible refine (HN34 _).out.mono ?_); rintro e w5 ⟨rfl,rfl⟩)
   | (go_at_call 45; (with_reducible refine (HN37 _).out.mono ?_); rintro e w5 ⟨rfl,rfl⟩)
   | (go_at_call 47; (with_reducible refine (HN39 _).out.mono ?_); rintro e w5 ⟨rfl,rfl⟩))
  go_ret
  exact ⟨by simp,HB1.out⟩
 ·go_enter Tryz.func15,Tryz.ntmps15
  go_wp2_with (first
   | (go_at_call 30; (with_reducible refine (HT _ HBX.out).out.mono ?_); rintro e w1 ⟨rfl,hb1⟩; have HB1 := hid (HBX.out.trans (hb1.mono HBX.out.size)); have HX1 := hid (HX.out.below hb1 HX.out.lt); have y0 := HX1.out.at (k := 0) (v := .slice tp tn tc) rfl; have y1 := HX1.out.at (k := 1) (v := .slice none 0 0) rfl; have y2 := HX1.out.at (k := 2) (v := .slice (some ⟨fg,fo,none⟩) 1 fc) rfl; have y3 := HX1.out.at (k := 3) (v := .slice none 0 0) rfl; have y4 := HX1.out.at (k := 4) (v := .slice none 0 0) rfl; have y5 := HX1.out.at (k := 5) (v := .slice none 0 0) rfl; have y6 := HX1.out.at (k := 6) (v := .slice none 0 0) rfl; have y7 := HX1.out.at (k := 7) (v := .int .i64 0) rfl; have y8 := HX1.out.at (k := 8) (v := .slice none 0 0) rfl; have y9 := HX1.out.at (k := 9) (v := .slice none 0 0) rfl; have y10 := HX1.out.at (k := 10) (v := .bool false) rfl; clear hb1)
   | (go_at_call 34; (with_reducible refine (HF _ HB1.out).out.mono ?_); rintro e w2 ⟨rfl,hb2⟩; have HB2 := hid (HB1.out.trans (hb2.mono HB1.out.size)); have HX2 := hid (HX1.out.below hb2 HX1.out.lt); have z0 := HX2.out.at (k := 0) (v := .slice tp tn tc) rfl; have z1 := HX2.out.at (k := 1) (v := .slice none 0 0) rfl; have z2 := HX2.out.at (k := 2) (v := .slice (some ⟨fg,fo,none⟩) 1 fc) rfl; have z3 := HX2.out.at (k := 3) (v := .slice none 0 0) rfl; have z4 := HX2.out.at (k := 4) (v := .slice none 0 0) rfl; have z5 := HX2.out.at (k := 5) (v := .slice none 0 0) rfl; have z6 := HX2.out.at (k := 6) (v := .slice none 0 0) rfl; have z7 := HX2.out.at (k := 7) (v := .int .i64 0) rfl; have z8 := HX2.out.at (k := 8) (v := .slice none 0 0) rfl; have z9 := HX2.out.at (k := 9) (v := .slice none 0 0) rfl; have z10 := HX2.out.at (k := 10) (v := .bool false) rfl; clear hb2)
   | (go_at_call 34; (with_reducible refine (HD _ HB2.out).out.mono ?_); rintro e w3 ⟨rfl,hb3⟩; have HB3 := hid (HB2.out.trans (hb3.mono HB2.out.size)); clear hb3)
   | (go_at_call 44; (with_reducible refine (HS _).out.mono ?_); rintro e w5 ⟨rfl,rfl⟩)
   | (go_at_call 32; (with_reducible refine (HN24 _).out.mono ?_); rintro e w5 ⟨rfl,rfl⟩)
   | (go_at_call 36; (with_reducible refine (HN28 _).out.mono ?_); rintro e w5 ⟨rfl,rfl⟩)
   | (go_at_call 38; (with_reducible refine (HN30 _).out.mono ?_); rintro e w5 ⟨rfl,rfl⟩)
   | (go_at_call 40; (with_reducible refine (HN32 _).out.mono ?_); rintro e w5 ⟨rfl,rfl⟩)
   | (go_at_call 42; (with_reducible refine (HN34 _).out.mono ?_); rintro e w5 ⟨rfl,rfl⟩)
   | (go_at_call 45; (with_reducible refine (HN37 _).out.mono ?_); rintro e w5 ⟨rfl,rfl⟩)
   | (go_at_call 47; (with_reducible refine (HN39 _).out.mono ?_); rintro e w5 ⟨rfl,rfl⟩))
  go_ret
  exact ⟨by simp,HB2.out⟩
 ·go_enter Tryz.func15,Tryz.ntmps15
  go_wp2_with (first
   | (go_at_call 30; (with_reducible refine (HT _ HBX.out).out.mono ?_); rintro e w1 ⟨rfl,hb1⟩; have HB1 := hid (HBX.out.trans (hb1.mono HBX.out.size)); have HX1 := hid (HX.out.below hb1 HX.out.lt); have y0 := HX1.out.at (k := 0) (v := .slice tp tn tc) rfl; have y1 := HX1.out.at (k := 1) (v := .slice none 0 0) rfl; have y2 := HX1.out.at (k := 2) (v := .slice (some ⟨fg,fo,none⟩) 1 fc) rfl; have y3 := HX1.out.at (k := 3) (v := .slice none 0 0) rfl; have y4 := HX1.out.at (k := 4) (v := .slice none 0 0) rfl; have y5 := HX1.out.at (k := 5) (v := .slice none 0 0) rfl; have y6 := HX1.out.at (k := 6) (v := .slice none 0 0) rfl; have y7 := HX1.out.at (k := 7) (v := .int .i64 0) rfl; have y8 := HX1.out.at (k := 8) (v := .slice none 0 0) rfl; have y9 := HX1.out.at (k := 9) (v := .slice none 0 0) rfl; have y10 := HX1.out.at (k := 10) (v := .bool false) rfl; clear hb1)
   | (go_at_call 34; (with_reducible refine (HF _ HB1.out).out.mono ?_); rintro e w2 ⟨rfl,hb2⟩; have HB2 := hid (HB1.out.trans (hb2.mono HB1.out.size)); have HX2 := hid (HX1.out.below hb2 HX1.out.lt); have z0 := HX2.out.at (k := 0) (v := .slice tp tn tc) rfl; have z1 := HX2.out.at (k := 1) (v := .slice none 0 0) rfl; have z2 := HX2.out.at (k := 2) (v := .slice (some ⟨fg,fo,none⟩) 1 fc) rfl; have z3 := HX2.out.at (k := 3) (v := .slice none 0 0) rfl; have z4 := HX2.out.at (k := 4) (v := .slice none 0 0) rfl; have z5 := HX2.out.at (k := 5) (v := .slice none 0 0) rfl; have z6 := HX2.out.at (k := 6) (v := .slice none 0 0) rfl; have z7 := HX2.out.at (k := 7) (v := .int .i64 0) rfl; have z8 := HX2.out.at (k := 8) (v := .slice none 0 0) rfl; have z9 := HX2.out.at (k := 9) (v := .slice none 0 0) rfl; have z10 := HX2.out.at (k := 10) (v := .bool false) rfl; clear hb2)
   | (go_at_call 34; (with_reducible refine (HD _ HB2.out).out.mono ?_); rintro e w3 ⟨rfl,hb3⟩; have HB3 := hid (HB2.out.trans (hb3.mono HB2.out.size)); clear hb3)
   | (go_at_call 44; (with_reducible refine (HS _).out.mono ?_); rintro e w5 ⟨rfl,rfl⟩)
   | (go_at_call 32; (with_reducible refine (HN24 _).out.mono ?_); rintro e w5 ⟨rfl,rfl⟩)
   | (go_at_call 36; (with_reducible refine (HN28 _).out.mono ?_); rintro e w5 ⟨rfl,rfl⟩)
   | (go_at_call 38; (with_reducible refine (HN30 _).out.mono ?_); rintro e w5 ⟨rfl,rfl⟩)
   | (go_at_call 40; (with_reducible refine (HN32 _).out.mono ?_); rintro e w5 ⟨rfl,rfl⟩)
   | (go_at_call 42; (with_reducible refine (HN34 _).out.mono ?_); rintro e w5 ⟨rfl,rfl⟩)
   | (go_at_call 45; (with_reducible refine (HN37 _).out.mono ?_); rintro e w5 ⟨rfl,rfl⟩)
   | (go_at_call 47; (with_reducible refine (HN39 _).out.mono ?_); rintro e w5 ⟨rfl,rfl⟩))
  go_ret
  exact ⟨by simp,HB3.out⟩
end Go.Proofs.YtjgeedgphcjhoaaGreat
namespace Go.Proofs.YtjgeedgphcjhoaaGreat
open Go.RowKit
set_option maxHeartbeats 4000000 in
theorem all_var (k : Nat) (eg : ∀ args w,(callFunc k args).run Tryz.prog w = .ok (.enter k args) w) (P : Nat → Bool) (n g o c : Nat) (t0 : Nat → Int) (u1 : Nat → Bool) (p2 : Nat → Option Addr) (n2 c2 : Nat → Nat) (w : World) (hg : n ≠ 0 → g < w.heap.size) (hn : n < 9223372036854775807) (ad : Option Addr) (had : n ≠ 0 → ad = some ⟨g,o,none⟩)
  (hx : ∀ i,i < n → w.cell? ⟨g,o + i * 3,none⟩ = some (.int .i64 (t0 i)) ∧ w.cell? ⟨g,o + i * 3 + 1,none⟩ = some (.bool (u1 i)) ∧ w.cell? ⟨g,o + i * 3 + 2,none⟩ = some (.slice (p2 i) (n2 i) (c2 i))) (hP : ∀ i,i < n → ∀ W,Below w.heap.size w W → Calls Tryz.prog k #[.agg #[.int .i64 (t0 i),.bool (u1 i),.slice (p2 i) (n2 i) (c2 i)]] W fun e w' => e = .returned (.bool (P i)) ∧ Below W.heap.size W w') :
  Calls Tryz.prog 40 #[.slice ad n c,.func (.func k) #[] #[]] w fun e w' => e = .returned (.bool ((List.range n).all P)) ∧ Below w.heap.size w w' := by
 have HP := hid hP
 have HXX := hid hx
 have HG := hid hg
 have HAD := hid had
 have hn' : (n : Int) < 9223372036854775807 := by omega
 obtain ⟨r,hr⟩ : ∃ r,r = (List.range n).all P := ⟨_,rfl⟩
 rw [← hr]
 have HR := hid hr
 clear hP hx hr hn hg had
 go_enter Tryz.func40,Tryz.ntmps40
 go_wp2
 go_loopw [9] (fun vi wr => ∃ i : Nat,i ≤ n ∧ vi = .int .i64 i ∧ Hid (∀ j,j < i → P j = true) ∧ Hid (Below w.heap.size w wr)) (fun vi _ => n - (intOf vi).toNat)
 case atStart => exact ⟨0,Nat.zero_le _,rfl,fun j hj => absurd hj (Nat.not_lt_zero _),Below.refl _ _⟩
 case round =>
  obtain ⟨i,hi,rfl,HI,HB⟩ := hrel
  by_cases hlt : i < n
  ·obtain ⟨z0_0,z0_1,z0_2⟩ := HXX.out i hlt
   have hg := HG.out (by omega)
   obtain rfl := HAD.out (by omega)
   have hPi := fun W h => hid (HP.out i hlt W h)
   have x0 := (HB.out.cell (p := ⟨g,o + i * 3,none⟩) hg).trans z0_0
   have x1 := (HB.out.cell (p := ⟨g,o + i * 3 + 1,none⟩) hg).trans z0_1
   have x2 := (HB.out.cell (p := ⟨g,o + i * 3 + 2,none⟩) hg).trans z0_2
   clear z0_0 z0_1 z0_2 hg
   obtain ⟨b,hb⟩ : ∃ b,b = P i := ⟨_,rfl⟩
   rw [← hb] at hPi
   have HBP := hid hb
   clear hb
   generalize t0 i = s0 at *
   generalize u1 i = e1 at *
   generalize p2 i = q2 at *
   generalize n2 i = m2 at *
   generalize c2 i = d2 at *
   have HB1 := hid (HB.out.alloc HB.out.size (.cells #[.int .i64 s0,.bool e1,.slice q2 m2 d2] 46))
   cases b with
   | false =>
    have HE : Hid (r = false) := by
     rw [HR.out]
     exact List.all_eq_false.2 ⟨i,List.mem_range.2 hlt,by rw [← HBP.out]; decide⟩
    go_wp2_with (go_at_fn k; (with_reducible refine (hPi _ HB1.out).out.mono ?_); rintro e w2 ⟨rfl,hb2⟩; have HB2 := hid (HB1.out.trans (hb2.mono HB1.out.size)); clear hb2)
    go_ret
    exact ⟨by rw [HE.out]; rfl,HB2.out⟩
   | true =>
    go_wp2_with (go_at_fn k; (with_reducible refine (hPi _ HB1.out).out.mono ?_); rintro e w2 ⟨rfl,hb2⟩; have HB2 := hid (HB1.out.trans (hb2.mono HB1.out.size)); clear hb2)
    go_roundw
    case rel =>
     refine ⟨i + 1,hlt,by go_num,fun j hj => ?_,HB2.out⟩
     by_cases hji : j = i
     ·rw [hji]; exact HBP.out.symm
     ·exact HI.out j (by omega)
    case measure => simp [intOf]; omega
  ·obtain rfl : i = n := by omega
   have HE : Hid (r = true) := by
    rw [HR.out]
    exact List.all_eq_true.2 fun j hj => HI.out j (List.mem_range.1 hj)
   go_wp2
   go_ret
   exact ⟨by rw [HE.out]; rfl,HB.out⟩
set_option maxHeartbeats 1000000 in
theorem isGlobalType_says (t : Int) (m : Bool) (w : World) : Calls Tryz.prog 146 #[.agg #[.int .i64 t,.bool m]] w fun e w' => e = .returned (.bool (valB t)) ∧ Below w.heap.size w w' := by
 have H := fun W => hid (isVal_says t W)
 generalize valB t = r at *
 have HBX := hid ((Below.refl w.heap.size w).alloc (Nat.le_refl _) (.cells #[.int .i64 t,.bool m] 44))
 go_enter Tryz.func146,Tryz.ntmps146
 go_wp2_with (go_at_call 144; (with_reducible refine (H _).out.mono ?_); rintro e w1 ⟨rfl,rfl⟩)
 go_ret
 exact ⟨rfl,HBX.out⟩
set_option maxHeartbeats 1000000 in
theorem isGlobal_says (t : Int) (m : Bool) (f : Fo) (p : Option Addr) (n c B : Nat) (w : World) (hn : f.cnt < 9223372036854775806) (hB : B ≤ w.heap.size) (hs : SA B w (.slice p n c) f) :
  Calls Tryz.prog 41 #[.agg #[.int .i64 t,.bool m,.slice p n c]] w fun e w' => e = .returned (.bool (valB t && codeB f)) ∧ Below w.heap.size w w' := by
 have HT := fun W => hid (isGlobalType_says t m W)
 have HBX := hid ((Below.refl w.heap.size w).alloc (Nat.le_refl _) (.cells #[.int .i64 t,.bool m,.slice p n c] 46))
 have HX := hid (CA.new w #[.int .i64 t,.bool m,.slice p n c] 46)
 have HC := fun W (hW : Below w.heap.size w W) => hid (isCode_says f (.slice p n c) B W hn (Nat.le_trans hB hW.size) (SA.below hs (hW.mono hB)))
 generalize valB t = r at *
 generalize codeB f = q at *
 clear hn hB hs
 cases r with
 | false =>
  go_enter Tryz.func41,Tryz.ntmps41
  go_wp2_with (go_at_call 146; (with_reducible refine (HT _).out.mono ?_); rintro e w1 ⟨rfl,hb⟩; have HB1 := hid (HBX.out.trans (hb.mono HBX.out.size)); clear hb)
  go_ret
  exact ⟨rfl,HB1.out⟩
 | true =>
  go_enter Tryz.func41,Tryz.ntmps41
  go_wp2_with (first
   | (go_at_call 146; (with_reducible refine (HT _).out.mono ?_); rintro e w1 ⟨rfl,hb⟩; have HB1 := hid (HBX.out.trans (hb.mono HBX.out.size)); have HX1 := hid (HX.out.below hb HX.out.lt); have x2 := HX1.out.at (k := 2) (v := .slice p n c) rfl; clear hb)
   | (go_at_call 148; (with_reducible refine (HC _ HB1.out).out.mono ?_); rintro e w2 ⟨rfl,hb⟩; have HB2 := hid (HB1.out.trans (hb.mono HB1.out.size)); clear hb))
  go_ret
  exact ⟨by simp,HB2.out⟩
end Go.Proofs.YtjgeedgphcjhoaaGreat
namespace Go.Proofs.YtjgeedgphcjhoaaGreat
open Go.RowKit
def str (l : List UInt8) : ByteArray := ⟨l.toArray⟩
theorem str_list (l : List UInt8) : (str l).toList = l := by rw [ByteArray.toList_eq]; rfl
theorem str_size (l : List UInt8) : (str l).size = l.length := by simp [str,ByteArray.size]
theorem str_get (l : List UInt8) (n : Nat) (h : n < l.length) (h' : n < (str l).size) : (str l)[n]'h' = l[n] := by
 show (l.toArray)[n]'(by simpa using h) = l[n]
 rfl
theorem str_snoc (x l : List UInt8) (n : Nat) (h : n < l.length) : str x ++ (str l).extract n (n + 1) = str (x ++ [l[n]]) := by
 apply ByteArray.ext
 simp only [ByteArray.data_append,ByteArray.data_extract,str]
 rw [List.extract_toArray,List.append_toArray]
 congr 2
 rw [List.extract_eq_take_drop,Nat.add_sub_cancel_left,List.drop_eq_getElem_cons h]
 rfl
def sc (l : List (List UInt8)) : List Value := l.map fun x => Value.string (str x)
theorem info9 : (Tryz.prog.info? 9).map (fun i => (i.zero,i.size,i.bytes)) = some (some (.string ⟨#[]⟩),1,16) := by kernel_rfl
theorem append_str {w : World} {ops : Array Oper} {rest : List Oper} {o : Oper} {a : Act} {Q : Exit → Act → World → Prop} (hgd : o.guard = none) (s x : Operand)
  (ho : o.op = .call { callee := .builtin .append,args := #[s,x],argTypes := #[218,218] }) (base : Nat) (v : Value) (n : Nat) (xs : List Value) (q : ByteArray)
  (hown : w.ownsRow base 9 1 v n xs) (hbase : base ≤ w.heap.size) (hn : n + 1 ≤ 1000000) (hs : a.eval s = v) (hx : a.eval x = .slice (some ⟨w.heap.size,0,none⟩) 1 1)
  (h : ∀ v' w',w'.ownsRow base 9 1 v' (n + 1) (xs ++ [.string q]) → Below base w w' → base ≤ w'.heap.size → wpList Tryz.prog ops Q rest (a.put o.dst v') w') :
  wpList Tryz.prog ops Q (o :: rest) a (w.alloc (.cells #[.string q] 9)) := by
 obtain ⟨i0,hi,hz0,hz1,hz2⟩ := info_parts info9
 have hb1 := (Below.refl base w).alloc hbase (.cells #[.string q] 9)
 refine wpList_append_own _ hgd s x 218 ho base 9 i0 (.string ⟨#[]⟩) 1 16 Tryz.underlying218 hi hz0 hz1 hz2 rfl (by decide) v n xs hs (hown.alloc _) ⟨w.heap.size,0,none⟩ 1 1 [.string q] hx rfl (cell_one_new _ _ _)
  (fun u hu => by simp at hu; subst hu; rfl) (by unfold maxLen; omega) (by omega) (by simp; omega) ?_
 intro v' w1 hown' hgrow _
 exact h v' w1 hown' (hb1.grown hgrow (by simp; omega) (fun k hk => (hown.lt k hk).1)) (by have := hgrow.size; simp at this; omega)
/-- A step over a text's byte: the words so far, the word at hand. -/
def stepW (p : List (List UInt8) × List UInt8) (c : UInt8) : List (List UInt8) × List UInt8 :=
 match p with
 | (o,x) => if c = 32 then (if x = [] then (o,[]) else (o ++ [x],[])) else (o,x ++ [c])
def wst (l : List UInt8) (n : Nat) : List (List UInt8) × List UInt8 := ((l ++ [32]).take n).foldl stepW ([],[])
/-- The words of a text. -/
def wordsL (l : List UInt8) : List (List UInt8) := (wst l (l.length + 1)).1
theorem wst_succ (l : List UInt8) (n : Nat) (c : UInt8) (h : (l ++ [32])[n]? = some c) : wst l (n + 1) = stepW (wst l n) c := by
 unfold wst
 rw [List.take_add_one,h,List.foldl_append]
 rfl
theorem wst_len (l : List UInt8) (n : Nat) : (wst l n).1.length + (wst l n).2.length ≤ n := by
 induction n with
 | zero => simp [wst]
 | succ n ih =>
  cases h : (l ++ [32])[n]? with
  | none =>
   have e : wst l (n + 1) = wst l n := by unfold wst; rw [List.take_add_one,h]; simp
   rw [e]; omega
  | some c =>
   rw [wst_succ l n c h]
   generalize wst l n = p at ih
   obtain ⟨o,x⟩ := p
   simp only [stepW] at ih ⊢
   split
   ·split
    ·rename_i hx; subst hx; simp at ih ⊢; omega
    ·rename_i hx
     have : 0 < x.length := List.length_pos_iff.2 hx
     simp; omega
   ·simp; omega
end Go.Proofs.YtjgeedgphcjhoaaGreat
namespace Go.Proofs.YtjgeedgphcjhoaaGreat
open Go.RowKit
theorem tab_front {T : TypeId} {oa ob oc os : Oper} {rest : Code} {Q : Exit → Act → World → Prop} {i : Value} {w : World} {parts : Array (Nat × Operand)} {cs zs : Array Value}
  (ha : oa.op = .assign (.const (.string ⟨#[]⟩)) ∧ oa.dst = some 2 ∧ oa.guard = none)
  (hb : ob.op = .build T parts ∧ ob.dst = some 4 ∧ ob.guard = none) (hbuilt : ∀ a : Act,Tryz.prog.built T (parts.map fun (i,x) => (i,a.eval x)).toList = some cs)
  (hc : oc.op = .alloc T ∧ oc.dst = some 3 ∧ oc.guard = none) (halloc : ∀ (a : Act) (W : World),(execOp a.eval oc).run Tryz.prog W = .ok (.value (.pointer (some ⟨W.heap.size,0,none⟩))) (W.alloc (.cells zs T)))
  (hs : os.op = .store T (.tmp 3) (.tmp 4) ∧ os.dst = none ∧ os.guard = none)
  (hzs : zs.size = cs.size) (hi : (Tryz.prog.info? T).map (·.size) = some cs.size) (h1 : cs.all (·.oneCell') = true)
  (h : ∀ v4 W,(∀ k v,cs[k]? = some v → W.cell? ⟨w.heap.size,k,none⟩ = some v) → Below w.heap.size w W →
   Code.wp Tryz.prog rest Q { tmps := #[i,undef,.string ⟨#[]⟩,.pointer (some ⟨w.heap.size,0,none⟩),v4,undef,undef,undef],defers := [] } W) :
  Code.wp Tryz.prog (.seq (.region 0 #[oa] false) (.seq (.region 1 #[ob,oc,os] false) rest)) Q { tmps := #[i,undef,undef,undef,undef,undef,undef,undef],defers := [] } w := by
 obtain ⟨ha1,ha2,ha3⟩ := ha
 obtain ⟨hb1,hb2,hb3⟩ := hb
 obtain ⟨hc1,hc2,hc3⟩ := hc
 obtain ⟨hs1,hs2,hs3⟩ := hs
 refine wp_seq (wp_region_lit (l := [oa]) ?_)
 refine run_to ha3 (some 2) ha2 (.string ⟨#[]⟩) w (by unfold execOp; rw [ha1]; rfl) ?_
 show Exit.then _ _ .normal _ _
 show Code.wp _ _ _ _ _
 refine wp_seq (wp_region_lit (l := [ob,oc,os]) ?_)
 refine wpList_buildTo hb3 T parts hb1 (some 4) hb2 cs (hbuilt _) ?_
 refine run_to hc3 (some 3) hc2 (.pointer (some ⟨w.heap.size,0,none⟩)) (w.alloc (.cells zs T)) (halloc _ _) ?_
 have hheap : (w.alloc (.cells zs T)).heap[w.heap.size]? = some (.cells zs T (0,0)) := by
  show (w.heap.push _)[w.heap.size]? = _
  simp
 refine wpList_store_rowTo hs3 T (.tmp 3) (.tmp 4) hs1 hs2 w.heap.size cs (by rfl) (by rfl) T zs hheap hi hzs h1 ?_
 show Exit.then _ _ .normal _ _
 show Code.wp _ _ _ _ _
 refine h (.agg cs) _ ?_ ?_
 ·intro k v hk
  rw [World.cell?,setRow_heap _ _ _ _ _ _ hheap]
  simpa using hk
 ·exact ⟨rfl,rfl,rfl,by simp,fun k hk => by rw [setRow_other _ _ _ _ (by omega)]; exact Below.heap_alloc _ _ _ hk⟩
def buildOf (f : Func) : Oper := match f.body with
 | some (.seq _ (.seq (.region _ ops _) _)) => ops.getD 0 default
 | _ => default
def partsOf (o : Oper) : Array (Nat × Operand) := match o.op with
 | .build _ parts => parts
 | _ => #[]
def strOf (v : Value) : List UInt8 := match v with
 | .string s => s.data.toList
 | _ => []
def refTab (n : Nat) (f : Func) : List (List UInt8) := (List.range n).map fun k => match (partsOf (buildOf f)).toList.find? fun x => x.1 == k with
 | some (_,.const v) => strOf v
 | _ => []
noncomputable def tabOne : List (List UInt8) := refTab 211 Tryz.f216
noncomputable def tabTwo : List (List UInt8) := refTab 18 Tryz.f217
noncomputable def tabThree : List (List UInt8) := refTab 256 Tryz.f218
theorem one_len : tabOne.length = 211 := by kernel_rfl
theorem two_len : tabTwo.length = 18 := by kernel_rfl
theorem three_len : tabThree.length = 256 := by kernel_rfl
theorem sc_at {l : List (List UInt8)} {k : Nat} (h : k < l.length) : (sc l).toArray[k]? = some (.string (str (l.getD k []))) := by
 simp [sc,List.getElem?_eq_getElem h,List.getD_eq_getElem?_getD]
def ops0 (f : Func) : Oper := match f.body with
 | some (.seq (.region _ ops _) _) => ops.getD 0 default
 | _ => default
def ops1 (f : Func) (k : Nat) : Oper := match f.body with
 | some (.seq _ (.seq (.region _ ops _) _)) => ops.getD k default
 | _ => default
theorem two_says (k : Nat) (hk : k < 18) (w : World) : Calls Tryz.prog 217 #[.int .i64 k] w fun e w' => e = .returned (.string (str (tabTwo.getD k []))) ∧ Below w.heap.size w w' := by
 refine calls_of_wp (c := .seq (.region 0 #[ops0 Tryz.f217] false) (.seq (.region 1 #[ops1 Tryz.f217 0, ops1 Tryz.f217 1, ops1 Tryz.f217 2] false) (.seq (.region 2 #[{ dst := some 5, op := Op.move (Operand.tmp 0), type := 3, pos := "table.go:45", after := #[], guard := none }, { dst := some 6, op := Op.indexAddr 234 (Operand.tmp 3) (Operand.tmp 5), type := 0, pos := "table.go:45", after := #[{ on := 0, ground := Ground.data }], guard := none }, { dst := some 7, op := Op.load 9 (Operand.tmp 6), type := 9, pos := "table.go:45", after := #[{ on := 1, ground := Ground.data }], guard := none }, { dst := some 2, op := Op.assign (Operand.tmp 7), type := 9, pos := "table.go:45", after := #[{ on := 2, ground := Ground.data }, { on := 0, ground := Ground.phase }, { on := 1, ground := Ground.phase }, { on := 2, ground := Ground.phase }], guard := none }] false) .ret))) Tryz.func217 (by kernel_rfl) ?_
 show Code.wp _ _ _ { tmps := #[.int .i64 k,undef,undef,undef,undef,undef,undef,undef],defers := [] } _
 refine tab_front (T := 234) (parts := partsOf (buildOf Tryz.f217)) (cs := (sc tabTwo).toArray) (zs := Array.replicate 18 (.string ⟨#[]⟩)) ⟨by kernel_rfl,by kernel_rfl,by kernel_rfl⟩ ⟨by kernel_rfl,by kernel_rfl,by kernel_rfl⟩ (fun _ => by kernel_rfl) ⟨by kernel_rfl,by kernel_rfl,by kernel_rfl⟩ (fun _ _ => by kernel_rfl) ⟨by kernel_rfl,by kernel_rfl,by kernel_rfl⟩ (by kernel_rfl) (by kernel_rfl) (by kernel_rfl) ?_
 intro v4 W hc hb
 have hcell := hc k _ (sc_at (by rw [two_len]; exact hk))
 obtain ⟨s,hs⟩ : ∃ s,s = str (tabTwo.getD k []) := ⟨_,rfl⟩
 rw [← hs] at hcell ⊢
 clear hc hs
 go_wp2
 go_ret
 exact ⟨rfl,hb⟩
theorem one_says (k : Nat) (hk : k < 211) (w : World) : Calls Tryz.prog 216 #[.int .i64 k] w fun e w' => e = .returned (.string (str (tabOne.getD k []))) ∧ Below w.heap.size w w' := by
 refine calls_of_wp (c := .seq (.region 0 #[ops0 Tryz.f216] false) (.seq (.region 1 #[ops1 Tryz.f216 0, ops1 Tryz.f216 1, ops1 Tryz.f216 2] false) (.seq (.region 2 #[{ dst := some 5, op := Op.move (Operand.tmp 0), type := 3, pos := "table.go:34", after := #[], guard := none }, { dst := some 6, op := Op.indexAddr 233 (Operand.tmp 3) (Operand.tmp 5), type := 0, pos := "table.go:34", after := #[{ on := 0, ground := Ground.data }], guard := none }, { dst := some 7, op := Op.load 9 (Operand.tmp 6), type := 9, pos := "table.go:34", after := #[{ on := 1, ground := Ground.data }], guard := none }, { dst := some 2, op := Op.assign (Operand.tmp 7), type := 9, pos := "table.go:34", after := #[{ on := 2, ground := Ground.data }, { on := 0, ground := Ground.phase }, { on := 1, ground := Ground.phase }, { on := 2, ground := Ground.phase }], guard := none }] false) .ret))) Tryz.func216 (by kernel_rfl) ?_
 show Code.wp _ _ _ { tmps := #[.int .i64 k,undef,undef,undef,undef,undef,undef,undef],defers := [] } _
 refine tab_front (T := 233) (parts := partsOf (buildOf Tryz.f216)) (cs := (sc tabOne).toArray) (zs := Array.replicate 211 (.string ⟨#[]⟩)) ⟨by kernel_rfl,by kernel_rfl,by kernel_rfl⟩ ⟨by kernel_rfl,by kernel_rfl,by kernel_rfl⟩ (fun _ => by kernel_rfl) ⟨by kernel_rfl,by kernel_rfl,by kernel_rfl⟩ (fun _ _ => by kernel_rfl) ⟨by kernel_rfl,by kernel_rfl,by kernel_rfl⟩ (by kernel_rfl) (by kernel_rfl) (by kernel_rfl) ?_
 intro v4 W hc hb
 have hcell := hc k _ (sc_at (by rw [one_len]; exact hk))
 obtain ⟨s,hs⟩ : ∃ s,s = str (tabOne.getD k []) := ⟨_,rfl⟩
 rw [← hs] at hcell ⊢
 clear hc hs
 go_wp2
 go_ret
 exact ⟨rfl,hb⟩
theorem three_says (k : Nat) (hk : k < 256) (w : World) : Calls Tryz.prog 218 #[.int .i64 k] w fun e w' => e = .returned (.string (str (tabThree.getD k []))) ∧ Below w.heap.size w w' := by
 refine calls_of_wp (c := .seq (.region 0 #[ops0 Tryz.f218] false) (.seq (.region 1 #[ops1 Tryz.f218 0, ops1 Tryz.f218 1, ops1 Tryz.f218 2] false) (.seq (.region 2 #[{ dst := some 5, op := Op.move (Operand.tmp 0), type := 3, pos := "table.go:95", after := #[], guard := none }, { dst := some 6, op := Op.indexAddr 235 (Operand.tmp 3) (Operand.tmp 5), type := 0, pos := "table.go:95", after := #[{ on := 0, ground := Ground.data }], guard := none }, { dst := some 7, op := Op.load 9 (Operand.tmp 6), type := 9, pos := "table.go:95", after := #[{ on := 1, ground := Ground.data }], guard := none }, { dst := some 2, op := Op.assign (Operand.tmp 7), type := 9, pos := "table.go:95", after := #[{ on := 2, ground := Ground.data }, { on := 0, ground := Ground.phase }, { on := 1, ground := Ground.phase }, { on := 2, ground := Ground.phase }], guard := none }] false) .ret))) Tryz.func218 (by kernel_rfl) ?_
 show Code.wp _ _ _ { tmps := #[.int .i64 k,undef,undef,undef,undef,undef,undef,undef],defers := [] } _
 refine tab_front (T := 235) (parts := partsOf (buildOf Tryz.f218)) (cs := (sc tabThree).toArray) (zs := Array.replicate 256 (.string ⟨#[]⟩)) ⟨by kernel_rfl,by kernel_rfl,by kernel_rfl⟩ ⟨by kernel_rfl,by kernel_rfl,by kernel_rfl⟩ (fun _ => by kernel_rfl) ⟨by kernel_rfl,by kernel_rfl,by kernel_rfl⟩ (fun _ _ => by kernel_rfl) ⟨by kernel_rfl,by kernel_rfl,by kernel_rfl⟩ (by kernel_rfl) (by kernel_rfl) (by kernel_rfl) ?_
 intro v4 W hc hb
 have hcell := hc k _ (sc_at (by rw [three_len]; exact hk))
 obtain ⟨s,hs⟩ : ∃ s,s = str (tabThree.getD k []) := ⟨_,rfl⟩
 rw [← hs] at hcell ⊢
 clear hc hs
 go_wp2
 go_ret
 exact ⟨rfl,hb⟩
end Go.Proofs.YtjgeedgphcjhoaaGreat
namespace Go.Proofs.YtjgeedgphcjhoaaGreat
open Go.RowKit
/-- A row of the reference's table: the number, the name, what stands behind, what it takes, what it leaves, is that fixed? -/
abbrev Rw := Int × List UInt8 × Int × List UInt8 × List UInt8 × Bool
def rw0 : Rw := (-1,[],0,[],[],false)
def rwV (r : Rw) : Value := .agg #[.int .i64 r.1,.string (str r.2.1),.int .i64 r.2.2.1,.string (str r.2.2.2.1),.string (str r.2.2.2.2.1),.bool r.2.2.2.2.2]
theorem none_says (w : World) : Calls Tryz.prog 220 #[] w fun e w' => e = .returned (rwV rw0) ∧ Below w.heap.size w w' := by
 go_enter Tryz.func220,Tryz.ntmps220
 go_wp2
 exact bodyPost_ret (v := rwV rw0) (by simp [results,Tryz.results220,go_sem,rwV,rw0,str]) rfl ⟨rfl,(Below.refl _ _).alloc (Nat.le_refl _) _⟩
def digF (n : Int) (c : UInt8) : Int := n * 10 + (c.toNat : Int) - 48
def digL (l : List UInt8) : Int := l.foldl digF 0
theorem dig_succ (l : List UInt8) (n : Nat) (h : n < l.length) : digL (l.take (n + 1)) = digL (l.take n) * 10 + (l[n].toNat : Int) - 48 := by
 rw [List.take_add_one,List.getElem?_eq_getElem h]
 unfold digL
 rw [List.foldl_append]
 rfl
theorem dig_bound (l : List UInt8) : ∀ n,n ≤ l.length → -(1000 ^ n : Int) ≤ digL (l.take n) ∧ digL (l.take n) ≤ 1000 ^ n
 | 0,_ => by simp [digL]
 | n + 1,h => by
  have ih := dig_bound l n (by omega)
  have hc := (l[n]'(by omega)).toNat_lt
  rw [dig_succ l n (by omega),Int.pow_succ]
  have hp : (1 : Int) ≤ 1000 ^ n := by have := Int.pow_pos (n := 1000) (m := n) (by decide); omega
  generalize (1000 : Int) ^ n = p at ih hp ⊢
  omega
set_option maxHeartbeats 4000000 in
theorem digits_says (l : List UInt8) (hl : l.length ≤ 4) (w : World) : Calls Tryz.prog 221 #[.string (str l)] w fun e w' => e = .returned (.int .i64 (digL l)) ∧ Below w.heap.size w w' := by
 obtain ⟨s,hs⟩ : ∃ s,s = str l := ⟨_,rfl⟩
 have hsz : s.size = l.length := by rw [hs,str_size]
 rw [← hs]
 have HS := hid hs
 clear hs
 obtain ⟨L,hL⟩ : ∃ L,L = l.length := ⟨_,rfl⟩
 rw [← hL] at hsz hl
 have HL := hid hL
 clear hL
 go_enter Tryz.func221,Tryz.ntmps221
 go_wp2
 go_loopw [3,4] (fun vn vi wr => ∃ n : Nat,Hid (n ≤ L) ∧ vi = .int .i64 n ∧ vn = .int .i64 (digL (l.take n)) ∧ Hid (Below w.heap.size w wr)) (fun _ vi _ => 5 - (intOf vi).toNat)
 case atStart => exact ⟨0,Nat.zero_le _,rfl,rfl,Below.refl _ _⟩
 case round =>
  obtain ⟨n,hn,rfl,rfl,HR⟩ := hrel
  by_cases hlt : n < L
  ·have hn1 := hid (show n + 1 ≤ L by omega)
   have hnll : n < l.length := by rw [← HL.out]; exact hlt
   obtain ⟨c,hc⟩ : ∃ c,c = l[n]'hnll := ⟨_,rfl⟩
   have hget : ∀ h : n < s.size,(s[n]'h) = c := fun h => by
    have e := HS.out
    subst e
    exact (str_get l n hnll _).trans hc.symm
   have HD := hid (dig_succ l n hnll)
   rw [← hc] at HD
   have hb := dig_bound l n (Nat.le_of_lt hnll)
   obtain ⟨q,hq⟩ : ∃ q,q = digL (l.take n) := ⟨_,rfl⟩
   rw [← hq] at hb HD ⊢
   have hcl := c.toNat_lt
   have hb2 : -1000000000000 ≤ q ∧ q ≤ 1000000000000 := by
    have hn4 : n = 0 ∨ n = 1 ∨ n = 2 ∨ n = 3 := by omega
    rcases hn4 with rfl | rfl | rfl | rfl <;> simp at hb <;> omega
   have e1 : wrap64 (q * 10) = q * 10 := by unfold wrap64; omega
   have e2 : wrap64 (q * 10 + (c.toNat : Int)) = q * 10 + (c.toNat : Int) := by unfold wrap64; omega
   have e3 : wrap64 (q * 10 + (c.toNat : Int) - 48) = q * 10 + (c.toNat : Int) - 48 := by unfold wrap64; omega
   have e4 : wrap64 (c.toNat : Int) = (c.toNat : Int) := by unfold wrap64; omega
   clear hb hb2 hcl hc hq
   go_wp2
   go_roundw
   case rel => exact ⟨n + 1,hn1.out,by go_num,by rw [HD.out,e3],HR.out⟩
   case measure => (first | (simp [intOf]; done) | (simp [intOf]; omega))
  ·obtain rfl : n = L := by have := hn.out; omega
   rw [show l.take n = l by rw [HL.out,List.take_length]]
   obtain ⟨q,hq⟩ : ∃ q,q = digL l := ⟨_,rfl⟩
   rw [← hq]
   go_wp2
   go_ret
   exact ⟨by rw [← hq]; rfl,HR.out⟩
end Go.Proofs.YtjgeedgphcjhoaaGreat
namespace Go.Proofs.YtjgeedgphcjhoaaGreat
open Go.RowKit
/-- The types of a list. -/
def typesL (t : Nat) : List Int := ((glob5.drop (3 * t)).take 3).takeWhile fun z => z != 0
end Go.Proofs.YtjgeedgphcjhoaaGreat
namespace Go.Proofs.YtjgeedgphcjhoaaGreat
open Go.RowKit
def tyOf (c : UInt8) : Option Int := if c = 105 then some 127 else if c = 108 then some 126 else if c = 102 then some 125 else if c = 100 then some 124 else if c = 118 then some 123 else if c = 110 then some 112 else none
def tyL (l : List UInt8) : List Int := l.filterMap tyOf
end Go.Proofs.YtjgeedgphcjhoaaGreat
namespace Go.Proofs.YtjgeedgphcjhoaaGreat
open Go.RowKit
/-- The text of a number's row. -/
noncomputable def textOf (op : Int) : List UInt8 :=
 if 0 ≤ op ∧ op < 211 then tabOne.getD op.toNat [] else if 64512 ≤ op ∧ op < 64530 then tabTwo.getD (op - 64512).toNat [] else if 64768 ≤ op ∧ op < 65024 then tabThree.getD (op - 64768).toNat [] else []
/-- A step over a letter of what is taken and left. -/
def stepS (p : Bool × List UInt8 × List UInt8) (c : UInt8) : Bool × List UInt8 × List UInt8 :=
 match p with
 | (b,t,l) => if c = 62 then (true,t,l) else if b then (b,t,l ++ [c]) else (b,t ++ [c],l)
def sst (l : List UInt8) (n : Nat) : Bool × List UInt8 × List UInt8 := (l.take n).foldl stepS (false,[],[])
def ofText (op : Int) (t : List UInt8) : Rw :=
 match wordsL t with
 | [a,b,c] => if c = [63] then (op,a,digL b,[],[],false) else (op,a,digL b,(sst c c.length).2.1,(sst c c.length).2.2,true)
 | _ => rw0
noncomputable def ofL (op : Int) : Rw := ofText op (textOf op)
def okText (t : List UInt8) : Bool := decide (t.length ≤ 100) && (match wordsL t with | [a,b,c] => decide (b.length ≤ 4) && decide (c.length ≤ 100) | _ => true)
theorem texts_ok : (rangeOps.all fun op => okText (textOf op)) = true := by kernel_rfl
theorem text_out (op : Int) (h : ¬ op ∈ rangeOps) : textOf op = [] := by
 rw [mem_rangeOps] at h
 unfold textOf
 rw [if_neg (by omega),if_neg (by omega),if_neg (by omega)]
theorem text_ok (op : Int) : okText (textOf op) = true := by
 by_cases h : op ∈ rangeOps
 ·exact List.all_eq_true.1 texts_ok op h
 ·rw [text_out op h]; rfl
/-- The program's line and the reference's row say the same. -/
noncomputable def agree (op : Int) : Bool :=
 let r := ofL op
 let l := lineL op
 (knB l == decide (0 ≤ r.1)) && (l.1.data.toList == r.2.1) && (l.2.1 == r.2.2.1) && (fxB l == r.2.2.2.2.2) &&
 ((if fxB l then typesL l.2.2.1.toNat else []) == tyL r.2.2.2.1) && ((if fxB l then typesL l.2.2.2.toNat else []) == tyL r.2.2.2.2.1) && decide (r.2.2.2.1.length ≤ 100) && decide (r.2.2.2.2.1.length ≤ 100) &&
 (r.1 == -1 || r.1 == op)
theorem agree_all : (rangeOps.all agree) = true := by kernel_rfl
end Go.Proofs.YtjgeedgphcjhoaaGreat
