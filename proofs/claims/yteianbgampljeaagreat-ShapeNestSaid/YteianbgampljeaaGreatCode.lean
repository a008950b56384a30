/-
  The contracts of isCode, of isDataless' question, of Nest and of Count. Condition: there are fewer instructions than integers.
-/
import Derived.Test.YteianbgampljeaaGreatInstr
set_option linter.unusedSimpArgs false
set_option linter.unusedVariables false
set_option maxRecDepth 100000
namespace Go.Proofs.YteianbgampljeaaGreat
open Go.RowKit

theorem KP.set (w : World) (g k : Nat) (v : Value) : KP (some g) w (w.setCell ⟨g, k, none⟩ v) := ⟨rfl, rfl, rfl, by simp [World.setCell], fun i hi hc => Below.heap_setCell _ _ _ _ (fun e => hc (by rw [e]))⟩
noncomputable def codeSt (_ : Unit) (d op a b : Int) (n h : Nat) (l : List Int) (ot : Bool) (body els : Fo) : Bool × Unit := (decide (d ≤ 500) && insB op a b n h l ot body.len els.len, ())
noncomputable def codeB (f : Fo) : Bool := (evF codeSt f 1 ()).1
noncomputable def dataSt (_ : Unit) (d op a b : Int) (n h : Nat) (l : List Int) (ot : Bool) (body els : Fo) : Bool × Unit := ((lineL op).2.1 != 17 && (lineL op).2.1 != 18, ())
noncomputable def dataB (f : Fo) : Bool := (evF dataSt f 1 ()).1
def nestSt (s : Int) (d op a b : Int) (n h : Nat) (l : List Int) (ot : Bool) (body els : Fo) : Bool × Int := (true, max s d)
def countSt (s : Int) (d op a b : Int) (n h : Nat) (l : List Int) (ot : Bool) (body els : Fo) : Bool × Int := (true, wrap64 (s + 1))

set_option maxHeartbeats 2000000 in
theorem asks_code (B : Nat) : Asked 120 #[] (fun (_ : Unit) _ => True) codeSt B none := by
  intro s d op a b n h l ot body els vl vb ve w hd hB hc hl hbo hel hs
  obtain ⟨pl, cl, rfl, hq, _⟩ := id hl
  obtain ⟨pb, cb, _, _, rfl, _, _⟩ := hbo
  obtain ⟨pe, ce, _, _, rfl, _, _⟩ := hel
  show Calls Tryz.prog 120 #[.agg #[.int .i64 op, .int .i64 a, .int .i64 b, .int .u64 (n : Nat), .int .u64 (h : Nat), .slice pl l.length cl, .slice pb body.len cb, .slice pe els.len ce, .bool ot], .int .i64 d] w fun e w' => e = .returned (.bool (decide (d ≤ 500) && insB op a b n h l ot body.len els.len)) ∧ True ∧ KP none w w'
  have HI : ∀ W, Below w.heap.size w W → Hid (Calls Tryz.prog 121 #[.agg #[.int .i64 op, .int .i64 a, .int .i64 b, .int .u64 (n : Nat), .int .u64 (h : Nat), .slice pl l.length cl, .slice pb body.len cb, .slice pe els.len ce, .bool ot]] W fun e w' => e = .returned (.bool (insB op a b n h l ot body.len els.len)) ∧ Below W.heap.size W w') := fun W hW => isInstr_says op a b n h l l.length rfl pl pb pe cl body.len cb els.len ce ot B W (Nat.le_trans hB hW.size) (hl.below (hW.mono hB)) hq
  generalize insB op a b n h l ot body.len els.len = u at *
  generalize l.length = nl at *
  generalize body.len = nb at *
  generalize els.len = ne at *
  have HBX := hid ((Below.refl w.heap.size w).alloc (Nat.le_refl _) (.cells #[.int .i64 op, .int .i64 a, .int .i64 b, .int .u64 (n : Nat), .int .u64 (h : Nat), .slice pl nl cl, .slice pb nb cb, .slice pe ne ce, .bool ot] 39))
  obtain ⟨b5, d5⟩ : ∃ x, decide (d ≤ 500) = x := ⟨_, rfl⟩
  rw [d5]
  clear hl hq hd hs hB hc
  cases b5 with
  | false =>
    go_enter Tryz.func120, Tryz.ntmps120
    go_wp2
    go_ret
    exact ⟨rfl, trivial, KP.of HBX.out⟩
  | true =>
    go_enter Tryz.func120, Tryz.ntmps120
    go_wp2_with (go_at_call 121; (with_reducible refine (HI _ HBX.out).out.mono ?_); rintro e w1 ⟨rfl, hb1⟩; have HB1 := hid (HBX.out.trans (hb1.mono HBX.out.size)); clear hb1)
    go_ret
    exact ⟨by simp, trivial, KP.of HB1.out⟩

theorem isCode_says (f : Fo) (v : Value) (B : Nat) (w : World) (hn : f.cnt < 9223372036854775806) (hB : B ≤ w.heap.size) (hs : SA B w v f) : Calls Tryz.prog 98 #[v] w fun e w' => e = .returned (.bool (codeB f)) ∧ Below w.heap.size w w' := by
  have H := hid (every_says 120 #[] (fun _ _ => rfl) (fun (_ : Unit) _ => True) codeSt B none (fun k e => by cases e) (fun _ _ _ _ _ => trivial) (asks_code B) f () v w hn hB (fun k e => by cases e) hs trivial)
  unfold codeB
  generalize (evF codeSt f 1 ()).1 = r at *
  clear hs hn
  go_enter Tryz.func98, Tryz.ntmps98
  go_wp2_with (go_at_call 53; (with_reducible refine H.out.mono ?_); rintro e w1 ⟨rfl, _, hk1⟩)
  go_ret
  exact ⟨rfl, hk1.pure⟩

set_option maxHeartbeats 2000000 in
theorem asks_data (B : Nat) : Asked 101 #[] (fun (_ : Unit) _ => True) dataSt B none := by
  intro s d op a b n h l ot body els vl vb ve w hd hB hc hl hbo hel hs
  obtain ⟨pl, cl, rfl, hq, _⟩ := id hl
  obtain ⟨pb, cb, _, _, rfl, _, _⟩ := hbo
  obtain ⟨pe, ce, _, _, rfl, _, _⟩ := hel
  have HI := fun W => hid (Imm_says op W)
  unfold dataSt
  generalize (lineL op).2.1 = k at *
  show Calls Tryz.prog 101 #[.agg #[.int .i64 op, .int .i64 a, .int .i64 b, .int .u64 (n : Nat), .int .u64 (h : Nat), .slice pl l.length cl, .slice pb body.len cb, .slice pe els.len ce, .bool ot], .int .i64 d] w fun e w' => e = .returned (.bool (k != 17 && k != 18)) ∧ True ∧ KP none w w'
  generalize l.length = nl at *
  generalize body.len = nb at *
  generalize els.len = ne at *
  have HBX := hid ((Below.refl w.heap.size w).alloc (Nat.le_refl _) (.cells #[.int .i64 op, .int .i64 a, .int .i64 b, .int .u64 (n : Nat), .int .u64 (h : Nat), .slice pl nl cl, .slice pb nb cb, .slice pe ne ce, .bool ot] 39))
  obtain ⟨b5, d5⟩ : ∃ x, (k != 17) = x := ⟨_, rfl⟩
  rw [d5]
  clear hl hq hd hs hB hc
  cases b5
  all_goals
    go_enter Tryz.func101, Tryz.ntmps101
    go_wp2_with (go_at_call 102; (with_reducible refine (HI _).out.mono ?_); rintro e w1 ⟨rfl, hb1⟩; have HB1 := hid (HBX.out.trans (hb1.mono HBX.out.size)); clear hb1)
    go_ret
    exact ⟨by simp, trivial, KP.of HB1.out⟩

/-- The box of a counter. -/
def Cnt (g : Nat) (s : Int) (W : World) : Prop := CA g #[.int .i64 s] 3 W
set_option maxHeartbeats 2000000 in
theorem asks_nest (B g : Nat) (hg : B ≤ g) : Asked 54 #[.pointer (some ⟨g, 0, none⟩)] (Cnt g) nestSt B (some g) := by
  intro s d op a b n h l ot body els vl vb ve w hd hB hc hl hbo hel hs
  obtain ⟨pl, cl, rfl, hq, _⟩ := id hl
  obtain ⟨pb, cb, _, _, rfl, _, _⟩ := hbo
  obtain ⟨pe, ce, _, _, rfl, _, _⟩ := hel
  have hgw := hc g rfl
  show Calls Tryz.prog 54 #[.agg #[.int .i64 op, .int .i64 a, .int .i64 b, .int .u64 (n : Nat), .int .u64 (h : Nat), .slice pl l.length cl, .slice pb body.len cb, .slice pe els.len ce, .bool ot], .int .i64 d, .pointer (some ⟨g, 0, none⟩)] w fun e w' => e = .returned (.bool true) ∧ Cnt g (max s d) w' ∧ KP (some g) w w'
  generalize l.length = nl at *
  generalize body.len = nb at *
  generalize els.len = ne at *
  have HC := hid (CA.alloc hs (.cells #[.int .i64 op, .int .i64 a, .int .i64 b, .int .u64 (n : Nat), .int .u64 (h : Nat), .slice pl nl cl, .slice pb nb cb, .slice pe ne ce, .bool ot] 39))
  have HK := hid (KP.alloc (KP.refl (some g) w) (.cells #[.int .i64 op, .int .i64 a, .int .i64 b, .int .u64 (n : Nat), .int .u64 (h : Nat), .slice pl nl cl, .slice pb nb cb, .slice pe ne ce, .bool ot] 39))
  clear hl hq hd hs hB hc
  go_enter Tryz.func54, Tryz.ntmps54
  go_upto_region 1 with fail
  generalize w.alloc (.cells #[.int .i64 op, .int .i64 a, .int .i64 b, .int .u64 (n : Nat), .int .u64 (h : Nat), .slice pl nl cl, .slice pb nb cb, .slice pe ne ce, .bool ot] 39) = W1 at *
  have x0 := HC.out.at (k := 0) (v := .int .i64 s) rfl
  have f0 := HC.out.free 0
  go_wp2
  all_goals go_ret
  · have hm : max s d = d := by omega
    rw [hm]
    exact ⟨rfl, CA.set HC.out (k := 0) (.int .i64 d), HK.out.trans (KP.set W1 g 0 _)⟩
  · have hm : max s d = s := by omega
    rw [hm]
    exact ⟨rfl, CA.set HC.out (k := 0) (.int .i64 s), HK.out.trans (KP.set W1 g 0 _)⟩
set_option maxHeartbeats 2000000 in
theorem asks_count (B g : Nat) (hg : B ≤ g) : Asked 55 #[.pointer (some ⟨g, 0, none⟩)] (Cnt g) countSt B (some g) := by
  intro s d op a b n h l ot body els vl vb ve w hd hB hc hl hbo hel hs
  obtain ⟨pl, cl, rfl, hq, _⟩ := id hl
  obtain ⟨pb, cb, _, _, rfl, _, _⟩ := hbo
  obtain ⟨pe, ce, _, _, rfl, _, _⟩ := hel
  have hgw := hc g rfl
  show Calls Tryz.prog 55 #[.agg #[.int .i64 op, .int .i64 a, .int .i64 b, .int .u64 (n : Nat), .int .u64 (h : Nat), .slice pl l.length cl, .slice pb body.len cb, .slice pe els.len ce, .bool ot], .int .i64 d, .pointer (some ⟨g, 0, none⟩)] w fun e w' => e = .returned (.bool true) ∧ Cnt g (wrap64 (s + 1)) w' ∧ KP (some g) w w'
  generalize l.length = nl at *
  generalize body.len = nb at *
  generalize els.len = ne at *
  have HC := hid (CA.alloc hs (.cells #[.int .i64 op, .int .i64 a, .int .i64 b, .int .u64 (n : Nat), .int .u64 (h : Nat), .slice pl nl cl, .slice pb nb cb, .slice pe ne ce, .bool ot] 39))
  have HK := hid (KP.alloc (KP.refl (some g) w) (.cells #[.int .i64 op, .int .i64 a, .int .i64 b, .int .u64 (n : Nat), .int .u64 (h : Nat), .slice pl nl cl, .slice pb nb cb, .slice pe ne ce, .bool ot] 39))
  clear hl hq hd hs hB hc
  go_enter Tryz.func55, Tryz.ntmps55
  go_upto_region 1 with fail
  generalize w.alloc (.cells #[.int .i64 op, .int .i64 a, .int .i64 b, .int .u64 (n : Nat), .int .u64 (h : Nat), .slice pl nl cl, .slice pb nb cb, .slice pe ne ce, .bool ot] 39) = W1 at *
  have x0 := HC.out.at (k := 0) (v := .int .i64 s) rfl
  have f0 := HC.out.free 0
  go_wp2
  go_ret
  exact ⟨rfl, HC.out.set (k := 0) (.int .i64 (wrap64 (s + 1))), HK.out.trans (KP.set W1 g 0 _)⟩

set_option maxHeartbeats 2000000 in
theorem Nest_says (f : Fo) (v : Value) (w : World) (hn : f.cnt < 9223372036854775806) (hs : SA w.heap.size w v f) : Calls Tryz.prog 14 #[v] w fun e w' => e = .returned (.int .i64 (evF nestSt f 1 0).2) ∧ Below w.heap.size w w' := by
  have hb := (Below.refl w.heap.size w).alloc (Nat.le_refl _) (.cells #[.int .i64 0] 3)
  have H := hid (every_says 54 #[.pointer (some ⟨w.heap.size, 0, none⟩)] (fun _ _ => rfl) (Cnt w.heap.size) nestSt w.heap.size (some w.heap.size) (fun k e => by cases e; exact Nat.le_refl _) (fun _ _ o _ h => CA.alloc h o) (asks_nest w.heap.size w.heap.size (Nat.le_refl _)) f 0 v (w.alloc (.cells #[.int .i64 0] 3)) hn hb.size (fun k e => by cases e; rw [size_al]; omega) (SA.below hs hb) (CA.new w #[.int .i64 0] 3))
  generalize evF nestSt f 1 0 = r at *
  have HB := hid hb
  clear hs hn hb
  go_enter Tryz.func14, Tryz.ntmps14
  go_wp2_with (go_at_call 53; (with_reducible refine H.out.mono ?_); rintro e w1 ⟨rfl, hc1, hk1⟩; have y0 := CA.at (k := 0) (v := .int .i64 r.2) hc1 rfl; have HK1 := hid (HB.out.trans (hk1.below HB.out.size (fun k e => by cases e; exact Nat.le_refl _))); clear hc1 hk1)
  go_ret
  exact ⟨rfl, HK1.out⟩
set_option maxHeartbeats 2000000 in
theorem Count_says (f : Fo) (v : Value) (w : World) (hn : f.cnt < 9223372036854775806) (hs : SA w.heap.size w v f) : Calls Tryz.prog 16 #[v] w fun e w' => e = .returned (.int .i64 (evF countSt f 1 0).2) ∧ Below w.heap.size w w' := by
  have hb := (Below.refl w.heap.size w).alloc (Nat.le_refl _) (.cells #[.int .i64 0] 3)
  have H := hid (every_says 55 #[.pointer (some ⟨w.heap.size, 0, none⟩)] (fun _ _ => rfl) (Cnt w.heap.size) countSt w.heap.size (some w.heap.size) (fun k e => by cases e; exact Nat.le_refl _) (fun _ _ o _ h => CA.alloc h o) (asks_count w.heap.size w.heap.size (Nat.le_refl _)) f 0 v (w.alloc (.cells #[.int .i64 0] 3)) hn hb.size (fun k e => by cases e; rw [size_al]; omega) (SA.below hs hb) (CA.new w #[.int .i64 0] 3))
  generalize evF countSt f 1 0 = r at *
  have HB := hid hb
  clear hs hn hb
  go_enter Tryz.func16, Tryz.ntmps16
  go_wp2_with (go_at_call 53; (with_reducible refine H.out.mono ?_); rintro e w1 ⟨rfl, hc1, hk1⟩; have y0 := CA.at (k := 0) (v := .int .i64 r.2) hc1 rfl; have HK1 := hid (HB.out.trans (hk1.below HB.out.size (fun k e => by cases e; exact Nat.le_refl _))); clear hc1 hk1)
  go_ret
  exact ⟨rfl, HK1.out⟩
end Go.Proofs.YteianbgampljeaaGreat
