/-
  The contracts of isFuncType, isFunc, isDataless and of May, of modules with nothing but types and functions. Condition: what the lists come to.
-/
import Derived.Test.YteianbgampljeaaGreatAll
import Derived.Test.YteianbgampljeaaGreatCode
set_option linter.unusedSimpArgs false
set_option linter.unusedVariables false
set_option maxRecDepth 100000
namespace Go.Proofs.YteianbgampljeaaGreat
open Go.RowKit

set_option maxHeartbeats 2000000 in
theorem isFT_says (l1 l2 : List Int) (p1 p2 : Option Addr) (c1 c2 B : Nat) (w : World) (hB : B ≤ w.heap.size) (h1 : LI B w (.slice p1 l1.length c1) l1) (h2 : LI B w (.slice p2 l2.length c2) l2) :
    Calls Tryz.prog 23 #[.agg #[.slice p1 l1.length c1, .slice p2 l2.length c2]] w fun e w' => e = .returned (.bool (l1.all valB && l2.all valB)) ∧ Below w.heap.size w w' := by
  have hq1 : l1.length < 9223372036854775807 := by obtain ⟨_, _, _, h, _⟩ := h1; exact h
  have hq2 : l2.length < 9223372036854775807 := by obtain ⟨_, _, _, h, _⟩ := h2; exact h
  have H1 := fun W (hW : Below B w W) => hid (all_int 94 (fun _ _ => rfl) valB isVal_says l1 (.slice p1 l1.length c1) B W (h1.below hW) (Nat.le_trans hB hW.size) hq1)
  have H2 := fun W (hW : Below B w W) => hid (all_int 94 (fun _ _ => rfl) valB isVal_says l2 (.slice p2 l2.length c2) B W (h2.below hW) (Nat.le_trans hB hW.size) hq2)
  generalize l1.all valB = b1 at *
  generalize l2.all valB = b2 at *
  generalize l1.length = n1 at *
  generalize l2.length = n2 at *
  have HBX := hid ((Below.refl w.heap.size w).alloc (Nat.le_refl _) (.cells #[.slice p1 n1 c1, .slice p2 n2 c2] 56))
  have HBY := hid (HBX.out.mono hB)
  clear h1 h2 hq1 hq2 hB
  cases b1
  all_goals
    go_enter Tryz.func23, Tryz.ntmps23
    go_wp2_with (first
      | (go_at_call 93; (with_reducible refine (H1 _ HBY.out).out.mono ?_); rintro e w3 ⟨rfl, rfl⟩)
      | (go_at_call 93; (with_reducible refine (H2 _ HBY.out).out.mono ?_); rintro e w3 ⟨rfl, rfl⟩))
    go_ret
    exact ⟨by simp, HBX.out⟩

set_option maxHeartbeats 4000000 in
theorem isFunc_says (t : Int) (l : List Int) (f : Fo) (p1 p2 : Option Addr) (c1 c2 B : Nat) (w : World) (hn : f.cnt < 9223372036854775806) (hB : B ≤ w.heap.size) (h1 : LI B w (.slice p1 l.length c1) l) (h2 : SA B w (.slice p2 f.len c2) f) :
    Calls Tryz.prog 27 #[.agg #[.int .i64 t, .slice p1 l.length c1, .slice p2 f.len c2]] w fun e w' => e = .returned (.bool (idxB t && decide ((l.length : Int) ≤ 50000) && l.all valB && codeB f)) ∧ Below w.heap.size w w' := by
  have hq1 : l.length < 9223372036854775807 := by obtain ⟨_, _, _, h, _⟩ := h1; exact h
  have HT := fun W => hid (isIndex_says t W)
  have H1 := fun W (hW : Below B w W) => hid (all_int 94 (fun _ _ => rfl) valB isVal_says l (.slice p1 l.length c1) B W (h1.below hW) (Nat.le_trans hB hW.size) hq1)
  have H2 := fun W (hW : Below B w W) => hid (isCode_says f (.slice p2 f.len c2) B W hn (Nat.le_trans hB hW.size) (SA.below h2 hW))
  generalize l.all valB = b3 at *
  generalize codeB f = b4 at *
  generalize idxB t = b1 at *
  obtain ⟨n1, hn1⟩ : ∃ x, x = l.length := ⟨_, rfl⟩
  rw [← hn1] at H1 ⊢
  generalize f.len = n2 at *
  obtain ⟨b2, d2⟩ : ∃ x, decide ((n1 : Int) ≤ 50000) = x := ⟨_, rfl⟩
  rw [d2]
  have HBX := hid ((Below.refl w.heap.size w).alloc (Nat.le_refl _) (.cells #[.int .i64 t, .slice p1 n1 c1, .slice p2 n2 c2] 42))
  have HBY := hid (HBX.out.mono hB)
  clear h1 h2 hq1 hB hn hn1
  rcases (show b1 = false ∨ (b1 = true ∧ b2 = false) ∨ (b1 = true ∧ b2 = true ∧ b3 = false) ∨ (b1 = true ∧ b2 = true ∧ b3 = true) by cases b1 <;> cases b2 <;> cases b3 <;> simp) with rfl | ⟨rfl, rfl⟩ | ⟨rfl, rfl, rfl⟩ | ⟨rfl, rfl, rfl⟩
  · go_enter Tryz.func27, Tryz.ntmps27
    go_wp2_with (first
      | (go_at_call 95; (with_reducible refine (HT _).out.mono ?_); rintro e w3 ⟨rfl, rfl⟩)
      | (go_at_call 93; (with_reducible refine (H1 _ HBY.out).out.mono ?_); rintro e w3 ⟨rfl, rfl⟩)
      | (go_at_call 98; (with_reducible refine (H2 _ HBY.out).out.mono ?_); rintro e w4 ⟨rfl, hb4⟩; have HB4 := hid (HBX.out.trans (hb4.mono HBX.out.size)); clear hb4))
    go_ret
    exact ⟨by simp, HBX.out⟩
  · go_enter Tryz.func27, Tryz.ntmps27
    go_wp2_with (first
      | (go_at_call 95; (with_reducible refine (HT _).out.mono ?_); rintro e w3 ⟨rfl, rfl⟩)
      | (go_at_call 93; (with_reducible refine (H1 _ HBY.out).out.mono ?_); rintro e w3 ⟨rfl, rfl⟩)
      | (go_at_call 98; (with_reducible refine (H2 _ HBY.out).out.mono ?_); rintro e w4 ⟨rfl, hb4⟩; have HB4 := hid (HBX.out.trans (hb4.mono HBX.out.size)); clear hb4))
    go_ret
    exact ⟨by simp, HBX.out⟩
  · go_enter Tryz.func27, Tryz.ntmps27
    go_wp2_with (first
      | (go_at_call 95; (with_reducible refine (HT _).out.mono ?_); rintro e w3 ⟨rfl, rfl⟩)
      | (go_at_call 93; (with_reducible refine (H1 _ HBY.out).out.mono ?_); rintro e w3 ⟨rfl, rfl⟩)
      | (go_at_call 98; (with_reducible refine (H2 _ HBY.out).out.mono ?_); rintro e w4 ⟨rfl, hb4⟩; have HB4 := hid (HBX.out.trans (hb4.mono HBX.out.size)); clear hb4))
    go_ret
    exact ⟨by simp, HBX.out⟩
  · go_enter Tryz.func27, Tryz.ntmps27
    go_wp2_with (first
      | (go_at_call 95; (with_reducible refine (HT _).out.mono ?_); rintro e w3 ⟨rfl, rfl⟩)
      | (go_at_call 93; (with_reducible refine (H1 _ HBY.out).out.mono ?_); rintro e w3 ⟨rfl, rfl⟩)
      | (go_at_call 98; (with_reducible refine (H2 _ HBY.out).out.mono ?_); rintro e w4 ⟨rfl, hb4⟩; have HB4 := hid (HBX.out.trans (hb4.mono HBX.out.size)); clear hb4))
    go_ret
    exact ⟨by simp, HB4.out⟩
theorem isDataless_says (t : Int) (f : Fo) (p1 p2 : Option Addr) (n1 c1 c2 B : Nat) (w : World) (hn : f.cnt < 9223372036854775806) (hB : B ≤ w.heap.size) (h2 : SA B w (.slice p2 f.len c2) f) :
    Calls Tryz.prog 41 #[.agg #[.int .i64 t, .slice p1 n1 c1, .slice p2 f.len c2]] w fun e w' => e = .returned (.bool (dataB f)) ∧ Below w.heap.size w w' := by
  have H := fun W (hW : Below B w W) => hid (every_says 101 #[] (fun _ _ => rfl) (fun (_ : Unit) _ => True) dataSt B none (fun k e => by cases e) (fun _ _ _ _ _ => trivial) (asks_data B) f () (.slice p2 f.len c2) W hn (Nat.le_trans hB hW.size) (fun k e => by cases e) (SA.below h2 hW) trivial)
  unfold dataB
  generalize (evF dataSt f 1 ()).1 = r at *
  generalize f.len = n2 at *
  have HBX := hid ((Below.refl w.heap.size w).alloc (Nat.le_refl _) (.cells #[.int .i64 t, .slice p1 n1 c1, .slice p2 n2 c2] 42))
  have HBY := hid (HBX.out.mono hB)
  clear h2 hn hB
  go_enter Tryz.func41, Tryz.ntmps41
  go_wp2_with (go_at_call 53; (with_reducible refine (H _ HBY.out).out.mono ?_); rintro e w1 ⟨rfl, _, hk1⟩; have HB1 := hid (HBX.out.trans (hk1.pure.mono HBX.out.size)); clear hk1)
  go_ret
  exact ⟨rfl, HB1.out⟩

set_option maxHeartbeats 16000000 in
theorem May_says (tp : Option Addr) (tn tc fg fo fc : Nat) (tb fb db : Bool) (w : World)
    (ht : ∀ W, Below w.heap.size w W → Calls Tryz.prog 22 #[.slice tp tn tc, .func (.func 23) #[] #[]] W fun e w' => e = .returned (.bool tb) ∧ Below W.heap.size W w')
    (hf : ∀ W, Below w.heap.size w W → Calls Tryz.prog 26 #[.slice (some ⟨fg, fo, none⟩) 1 fc, .func (.func 27) #[] #[]] W fun e w' => e = .returned (.bool fb) ∧ Below W.heap.size W w')
    (hd : ∀ W, Below w.heap.size w W → Calls Tryz.prog 26 #[.slice (some ⟨fg, fo, none⟩) 1 fc, .func (.func 41) #[] #[]] W fun e w' => e = .returned (.bool db) ∧ Below W.heap.size W w') :
    Calls Tryz.prog 11 #[.agg #[.slice tp tn tc, .slice none 0 0, .slice (some ⟨fg, fo, none⟩) 1 fc, .slice none 0 0, .slice none 0 0, .slice none 0 0, .slice none 0 0, .int .i64 0, .slice none 0 0, .slice none 0 0, .bool false]] w fun e w' => e = .returned (.bool (tb && fb && db)) ∧ Below w.heap.size w w' := by
  have HT := fun W h => hid (ht W h)
  have HF := fun W h => hid (hf W h)
  have HD := fun W h => hid (hd W h)
  have HN24 := fun W => hid (all_nil_24 25 none 0 W)
  have HN28 := fun W => hid (all_nil_28 29 none 0 W)
  have HN30 := fun W => hid (all_nil_30 31 none 0 W)
  have HN32 := fun W => hid (all_nil_32 33 none 0 W)
  have HN34 := fun W => hid (all_nil_34 35 none 0 W)
  have HN37 := fun W => hid (all_nil_37 38 none 0 W)
  have HN39 := fun W => hid (all_nil_39 40 none 0 W)
  have HS := fun W => hid (isStart_says 0 W)
  rw [show decide (IntKind.u64.wrap 0 ≤ 4294967296) = true from rfl] at HS
  have HBX := hid ((Below.refl w.heap.size w).alloc (Nat.le_refl _) (.cells #[.slice tp tn tc, .slice none 0 0, .slice (some ⟨fg, fo, none⟩) 1 fc, .slice none 0 0, .slice none 0 0, .slice none 0 0, .slice none 0 0, .int .i64 0, .slice none 0 0, .slice none 0 0, .bool false] 32))
  have HX := hid (CA.new w #[.slice tp tn tc, .slice none 0 0, .slice (some ⟨fg, fo, none⟩) 1 fc, .slice none 0 0, .slice none 0 0, .slice none 0 0, .slice none 0 0, .int .i64 0, .slice none 0 0, .slice none 0 0, .bool false] 32)
  clear ht hf hd
  rcases (show tb = false ∨ (tb = true ∧ fb = false) ∨ (tb = true ∧ fb = true) by cases tb <;> cases fb <;> simp) with rfl | ⟨rfl, rfl⟩ | ⟨rfl, rfl⟩
  · go_enter Tryz.func11, Tryz.ntmps11
    go_wp2_with (first
      | (go_at_call 22; (with_reducible refine (HT _ HBX.out).out.mono ?_); rintro e w1 ⟨rfl, hb1⟩; have HB1 := hid (HBX.out.trans (hb1.mono HBX.out.size)); have HX1 := hid (HX.out.below hb1 HX.out.lt); have y0 := HX1.out.at (k := 0) (v := .slice tp tn tc) rfl; have y1 := HX1.out.at (k := 1) (v := .slice none 0 0) rfl; have y2 := HX1.out.at (k := 2) (v := .slice (some ⟨fg, fo, none⟩) 1 fc) rfl; have y3 := HX1.out.at (k := 3) (v := .slice none 0 0) rfl; have y4 := HX1.out.at (k := 4) (v := .slice none 0 0) rfl; have y5 := HX1.out.at (k := 5) (v := .slice none 0 0) rfl; have y6 := HX1.out.at (k := 6) (v := .slice none 0 0) rfl; have y7 := HX1.out.at (k := 7) (v := .int .i64 0) rfl; have y8 := HX1.out.at (k := 8) (v := .slice none 0 0) rfl; have y9 := HX1.out.at (k := 9) (v := .slice none 0 0) rfl; have y10 := HX1.out.at (k := 10) (v := .bool false) rfl; clear hb1)
      | (go_at_call 26; (with_reducible refine (HF _ HB1.out).out.mono ?_); rintro e w2 ⟨rfl, hb2⟩; have HB2 := hid (HB1.out.trans (hb2.mono HB1.out.size)); have HX2 := hid (HX1.out.below hb2 HX1.out.lt); have z0 := HX2.out.at (k := 0) (v := .slice tp tn tc) rfl; have z1 := HX2.out.at (k := 1) (v := .slice none 0 0) rfl; have z2 := HX2.out.at (k := 2) (v := .slice (some ⟨fg, fo, none⟩) 1 fc) rfl; have z3 := HX2.out.at (k := 3) (v := .slice none 0 0) rfl; have z4 := HX2.out.at (k := 4) (v := .slice none 0 0) rfl; have z5 := HX2.out.at (k := 5) (v := .slice none 0 0) rfl; have z6 := HX2.out.at (k := 6) (v := .slice none 0 0) rfl; have z7 := HX2.out.at (k := 7) (v := .int .i64 0) rfl; have z8 := HX2.out.at (k := 8) (v := .slice none 0 0) rfl; have z9 := HX2.out.at (k := 9) (v := .slice none 0 0) rfl; have z10 := HX2.out.at (k := 10) (v := .bool false) rfl; clear hb2)
      | (go_at_call 26; (with_reducible refine (HD _ HB2.out).out.mono ?_); rintro e w3 ⟨rfl, hb3⟩; have HB3 := hid (HB2.out.trans (hb3.mono HB2.out.size)); clear hb3)
      | (go_at_call 36; (with_reducible refine (HS _).out.mono ?_); rintro e w5 ⟨rfl, rfl⟩)
      | (go_at_call 24; (with_reducible refine (HN24 _).out.mono ?_); rintro e w5 ⟨rfl, rfl⟩)
      | (go_at_call 28; (with_reducible refine (HN28 _).out.mono ?_); rintro e w5 ⟨rfl, rfl⟩)
      | (go_at_call 30; (with_reducible refine (HN30 _).out.mono ?_); rintro e w5 ⟨rfl, rfl⟩)
      | (go_at_call 32; (with_reducible refine (HN32 _).out.mono ?_); rintro e w5 ⟨rfl, rfl⟩)
      | (go_at_call 34; (with_reducible refine (HN34 _).out.mono ?_); rintro e w5 ⟨rfl, rfl⟩)
      | (go_at_call 37; (with_reducible refine (HN37 _).out.mono ?_); rintro e w5 ⟨rfl, rfl⟩)
      | (go_at_call 39; (with_reducible refine (HN39 _).out.mono ?_); rintro e w5 ⟨rfl, rfl⟩))
    go_ret
    exact ⟨by simp, HB1.out⟩
  · go_enter Tryz.func11, Tryz.ntmps11
    go_wp2_with (first
      | (go_at_call 22; (with_reducible refine (HT _ HBX.out).out.mono ?_); rintro e w1 ⟨rfl, hb1⟩; have HB1 := hid (HBX.out.trans (hb1.mono HBX.out.size)); have HX1 := hid (HX.out.below hb1 HX.out.lt); have y0 := HX1.out.at (k := 0) (v := .slice tp tn tc) rfl; have y1 := HX1.out.at (k := 1) (v := .slice none 0 0) rfl; have y2 := HX1.out.at (k := 2) (v := .slice (some ⟨fg, fo, none⟩) 1 fc) rfl; have y3 := HX1.out.at (k := 3) (v := .slice none 0 0) rfl; have y4 := HX1.out.at (k := 4) (v := .slice none 0 0) rfl; have y5 := HX1.out.at (k := 5) (v := .slice none 0 0) rfl; have y6 := HX1.out.at (k := 6) (v := .slice none 0 0) rfl; have y7 := HX1.out.at (k := 7) (v := .int .i64 0) rfl; have y8 := HX1.out.at (k := 8) (v := .slice none 0 0) rfl; have y9 := HX1.out.at (k := 9) (v := .slice none 0 0) rfl; have y10 := HX1.out.at (k := 10) (v := .bool false) rfl; clear hb1)
      | (go_at_call 26; (with_reducible refine (HF _ HB1.out).out.mono ?_); rintro e w2 ⟨rfl, hb2⟩; have HB2 := hid (HB1.out.trans (hb2.mono HB1.out.size)); have HX2 := hid (HX1.out.below hb2 HX1.out.lt); have z0 := HX2.out.at (k := 0) (v := .slice tp tn tc) rfl; have z1 := HX2.out.at (k := 1) (v := .slice none 0 0) rfl; have z2 := HX2.out.at (k := 2) (v := .slice (some ⟨fg, fo, none⟩) 1 fc) rfl; have z3 := HX2.out.at (k := 3) (v := .slice none 0 0) rfl; have z4 := HX2.out.at (k := 4) (v := .slice none 0 0) rfl; have z5 := HX2.out.at (k := 5) (v := .slice none 0 0) rfl; have z6 := HX2.out.at (k := 6) (v := .slice none 0 0) rfl; have z7 := HX2.out.at (k := 7) (v := .int .i64 0) rfl; have z8 := HX2.out.at (k := 8) (v := .slice none 0 0) rfl; have z9 := HX2.out.at (k := 9) (v := .slice none 0 0) rfl; have z10 := HX2.out.at (k := 10) (v := .bool false) rfl; clear hb2)
      | (go_at_call 26; (with_reducible refine (HD _ HB2.out).out.mono ?_); rintro e w3 ⟨rfl, hb3⟩; have HB3 := hid (HB2.out.trans (hb3.mono HB2.out.size)); clear hb3)
      | (go_at_call 36; (with_reducible refine (HS _).out.mono ?_); rintro e w5 ⟨rfl, rfl⟩)
      | (go_at_call 24; (with_reducible refine (HN24 _).out.mono ?_); rintro e w5 ⟨rfl, rfl⟩)
      | (go_at_call 28; (with_reducible refine (HN28 _).out.mono ?_); rintro e w5 ⟨rfl, rfl⟩)
      | (go_at_call 30; (with_reducible refine (HN30 _).out.mono ?_); rintro e w5 ⟨rfl, rfl⟩)
      | (go_at_call 32; (with_reducible refine (HN32 _).out.mono ?_); rintro e w5 ⟨rfl, rfl⟩)
      | (go_at_call 34; (with_reducible refine (HN34 _).out.mono ?_); rintro e w5 ⟨rfl, rfl⟩)
      | (go_at_call 37; (with_reducible refine (HN37 _).out.mono ?_); rintro e w5 ⟨rfl, rfl⟩)
      | (go_at_call 39; (with_reducible refine (HN39 _).out.mono ?_); rintro e w5 ⟨rfl, rfl⟩))
    go_ret
    exact ⟨by simp, HB2.out⟩
  · go_enter Tryz.func11, Tryz.ntmps11
    go_wp2_with (first
      | (go_at_call 22; (with_reducible refine (HT _ HBX.out).out.mono ?_); rintro e w1 ⟨rfl, hb1⟩; have HB1 := hid (HBX.out.trans (hb1.mono HBX.out.size)); have HX1 := hid (HX.out.below hb1 HX.out.lt); have y0 := HX1.out.at (k := 0) (v := .slice tp tn tc) rfl; have y1 := HX1.out.at (k := 1) (v := .slice none 0 0) rfl; have y2 := HX1.out.at (k := 2) (v := .slice (some ⟨fg, fo, none⟩) 1 fc) rfl; have y3 := HX1.out.at (k := 3) (v := .slice none 0 0) rfl; have y4 := HX1.out.at (k := 4) (v := .slice none 0 0) rfl; have y5 := HX1.out.at (k := 5) (v := .slice none 0 0) rfl; have y6 := HX1.out.at (k := 6) (v := .slice none 0 0) rfl; have y7 := HX1.out.at (k := 7) (v := .int .i64 0) rfl; have y8 := HX1.out.at (k := 8) (v := .slice none 0 0) rfl; have y9 := HX1.out.at (k := 9) (v := .slice none 0 0) rfl; have y10 := HX1.out.at (k := 10) (v := .bool false) rfl; clear hb1)
      | (go_at_call 26; (with_reducible refine (HF _ HB1.out).out.mono ?_); rintro e w2 ⟨rfl, hb2⟩; have HB2 := hid (HB1.out.trans (hb2.mono HB1.out.size)); have HX2 := hid (HX1.out.below hb2 HX1.out.lt); have z0 := HX2.out.at (k := 0) (v := .slice tp tn tc) rfl; have z1 := HX2.out.at (k := 1) (v := .slice none 0 0) rfl; have z2 := HX2.out.at (k := 2) (v := .slice (some ⟨fg, fo, none⟩) 1 fc) rfl; have z3 := HX2.out.at (k := 3) (v := .slice none 0 0) rfl; have z4 := HX2.out.at (k := 4) (v := .slice none 0 0) rfl; have z5 := HX2.out.at (k := 5) (v := .slice none 0 0) rfl; have z6 := HX2.out.at (k := 6) (v := .slice none 0 0) rfl; have z7 := HX2.out.at (k := 7) (v := .int .i64 0) rfl; have z8 := HX2.out.at (k := 8) (v := .slice none 0 0) rfl; have z9 := HX2.out.at (k := 9) (v := .slice none 0 0) rfl; have z10 := HX2.out.at (k := 10) (v := .bool false) rfl; clear hb2)
      | (go_at_call 26; (with_reducible refine (HD _ HB2.out).out.mono ?_); rintro e w3 ⟨rfl, hb3⟩; have HB3 := hid (HB2.out.trans (hb3.mono HB2.out.size)); clear hb3)
      | (go_at_call 36; (with_reducible refine (HS _).out.mono ?_); rintro e w5 ⟨rfl, rfl⟩)
      | (go_at_call 24; (with_reducible refine (HN24 _).out.mono ?_); rintro e w5 ⟨rfl, rfl⟩)
      | (go_at_call 28; (with_reducible refine (HN28 _).out.mono ?_); rintro e w5 ⟨rfl, rfl⟩)
      | (go_at_call 30; (with_reducible refine (HN30 _).out.mono ?_); rintro e w5 ⟨rfl, rfl⟩)
      | (go_at_call 32; (with_reducible refine (HN32 _).out.mono ?_); rintro e w5 ⟨rfl, rfl⟩)
      | (go_at_call 34; (with_reducible refine (HN34 _).out.mono ?_); rintro e w5 ⟨rfl, rfl⟩)
      | (go_at_call 37; (with_reducible refine (HN37 _).out.mono ?_); rintro e w5 ⟨rfl, rfl⟩)
      | (go_at_call 39; (with_reducible refine (HN39 _).out.mono ?_); rintro e w5 ⟨rfl, rfl⟩))
    go_ret
    exact ⟨by simp, HB3.out⟩
end Go.Proofs.YteianbgampljeaaGreat
