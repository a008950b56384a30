/-
  What the law comes to, whatever the input: true. Condition: no list is longer than there are integers.
-/
import Derived.Test.YteianbgampljeaaGreatRef3
import Derived.Test.YteianbgampljeaaGreatIn2
set_option linter.unusedSimpArgs false
set_option linter.unusedVariables false
set_option maxRecDepth 100000
namespace Go.Proofs.YteianbgampljeaaGreat
open Go.RowKit

/-- Blocks and loops in one another. -/
def twr : Nat → Fo
  | 0 => insFo 1 .nil
  | k + 1 => insFo (2 + (k : Int) % 2) (twr k)
theorem twr_len (k : Nat) : (twr k).len = 1 := by cases k <;> rfl
theorem twr_nst : ∀ k, (twr k).nst = k + 1
  | 0 => rfl
  | k + 1 => by
    have := twr_nst k
    simp only [twr, insFo, Fo.nst, this]
    omega
theorem twr_cnt : ∀ k, (twr k).cnt = k + 1
  | 0 => rfl
  | k + 1 => by
    have := twr_cnt k
    simp only [twr, insFo, Fo.cnt, this]
theorem ev_ins (st : Unit → Int → Int → Int → Int → Nat → Nat → List Int → Bool → Fo → Fo → Bool × Unit) (op : Int) (b : Fo) (d : Int) : (evF st (insFo op b) d ()).1 = ((st () d op 0 0 0 0 [] false b .nil).1 && (evF st b (d + 1) ()).1) := by
  rcases h1 : st () d op 0 0 0 0 [] false b .nil with ⟨b1, ⟨⟩⟩
  rcases h2 : evF st b (d + 1) () with ⟨b2, ⟨⟩⟩
  have := evF_cons st op 0 0 0 0 [] false b .nil .nil d () b1 () h1 b2 () h2 true () rfl
  show (evF st (.cons op 0 0 0 0 [] false b .nil .nil) d ()).1 = _
  rw [this]
  cases b1 <;> cases b2 <;> rfl
theorem nop_ok : insB 1 0 0 0 0 [] false 0 0 = true := by kernel_rfl
theorem nop_data : ((lineL 1).2.1 != 17 && (lineL 1).2.1 != 18) = true := by kernel_rfl
theorem op_cases (k : Nat) : (2 + (k : Int) % 2) = 2 ∨ (2 + (k : Int) % 2) = 3 := by omega
theorem twr_code : ∀ (k : Nat) (d : Int), (evF codeSt (twr k) d ()).1 = decide (d + k ≤ 500)
  | 0, d => by
    rw [twr, ev_ins]
    simp only [codeSt, Fo.len, nop_ok, evF, Bool.and_true]
    congr 1
    simp
  | k + 1, d => by
    rw [twr, ev_ins, twr_code k (d + 1)]
    have h := (ins_blk _ (op_cases k)).1
    simp only [codeSt, twr_len, Fo.len, h, Bool.and_true]
    by_cases h1 : d + ((k + 1 : Nat) : Int) ≤ 500
    · rw [decide_eq_true (p := d ≤ 500) (by omega), decide_eq_true (p := d + 1 + (k : Int) ≤ 500) (by omega), decide_eq_true h1]
      rfl
    · rw [decide_eq_false (p := d + 1 + (k : Int) ≤ 500) (by omega), decide_eq_false h1, Bool.and_false]
theorem twr_data : ∀ (k : Nat) (d : Int), (evF dataSt (twr k) d ()).1 = true
  | 0, d => by
    rw [twr, ev_ins]
    simp only [dataSt, nop_data, evF, Bool.and_true]
  | k + 1, d => by
    rw [twr, ev_ins, twr_data k (d + 1)]
    have h := (ins_blk _ (op_cases k)).2.2
    simp only [dataSt, h, Bool.and_true]
theorem twr_may (k : Nat) : (codeB (twr k) && dataB (twr k)) = decide ((k : Int) < 500) := by
  unfold codeB dataB
  rw [twr_code, twr_data, Bool.and_true]
  by_cases h : (k : Int) < 500
  · rw [decide_eq_true h, decide_eq_true (by omega)]
  · rw [decide_eq_false h, decide_eq_false (by omega)]

set_option maxHeartbeats 4000000 in
theorem nest_out (v : Value) (depth : Int) (few : Bool) (w : World) (hF : ∀ W, Below w.heap.size w W → Calls Tryz.prog 13 #[v] W fun e w' => e = .returned (.bool few) ∧ W = w') (h : few = false ∨ depth < 0 ∨ 520 < depth) :
    Calls Tryz.prog 5 #[v, .int .i64 depth] w fun e w' => e = .returned (.bool true) ∧ Below w.heap.size w w' := by
  have HA := fun W => hid (awake_says W)
  have HF := fun W h => hid (hF W h)
  clear hF
  cases few with
  | false =>
    clear h
    go_enter Tryz.func5, Tryz.ntmps5
    go_wp2_with (first | (go_at_call 9; (with_reducible refine (HA _).out.mono ?_); rintro e w1 ⟨rfl, hb1⟩; have HB1 := hid hb1; clear hb1) | (go_at_call 13; (with_reducible refine (HF _ HB1.out).out.mono ?_); rintro e w2 ⟨rfl, rfl⟩))
    go_ret
    exact ⟨rfl, HB1.out⟩
  | true =>
    by_cases h0 : depth < 0
    · have d0 : decide (depth < 0) = true := by simpa using h0
      clear h
      go_enter Tryz.func5, Tryz.ntmps5
      go_wp2_with (first | (go_at_call 9; (with_reducible refine (HA _).out.mono ?_); rintro e w1 ⟨rfl, hb1⟩; have HB1 := hid hb1; clear hb1) | (go_at_call 13; (with_reducible refine (HF _ HB1.out).out.mono ?_); rintro e w2 ⟨rfl, rfl⟩))
      go_ret
      exact ⟨rfl, HB1.out⟩
    · have d0 : decide (depth < 0) = false := by simpa using h0
      have h5 : 520 < depth := by
        rcases h with h | h | h
        · cases h
        · omega
        · exact h
      have d1 : decide (520 < depth) = true := by simpa using h5
      clear h
      go_enter Tryz.func5, Tryz.ntmps5
      go_wp2_with (first | (go_at_call 9; (with_reducible refine (HA _).out.mono ?_); rintro e w1 ⟨rfl, hb1⟩; have HB1 := hid hb1; clear hb1) | (go_at_call 13; (with_reducible refine (HF _ HB1.out).out.mono ?_); rintro e w2 ⟨rfl, rfl⟩))
      go_ret
      exact ⟨rfl, HB1.out⟩

set_option maxHeartbeats 16000000 in
theorem nest_in (f : Fo) (v : Value) (n : Nat) (hn : n ≤ 520) (w : World) (hL : Lens f) (hlen : f.len < 9223372036854775807) (hcnt : f.cnt ≤ 3000) (hs : SA w.heap.size w v f) (hfew : decide (0 ≤ wg f 0 3000) = true) :
    Calls Tryz.prog 5 #[v, .int .i64 n] w fun e w' => e = .returned (.bool true) ∧ Below w.heap.size w w' := by
  have HA := fun W => hid (awake_says W)
  have HSL := fun (W : World) (h : Below w.heap.size w W) => hid (SA.mono (SA.below hs h) h.size)
  have HF := fun (W : World) (h : Below w.heap.size w W) => hid (Few_says f v W hL hlen (HSL W h).out)
  rw [hfew] at HF
  have d0 : decide ((n : Int) < 0) = false := by simp
  have hn' : (n : Int) ≤ 520 := by omega
  have d1 : decide ((520 : Int) < (n : Int)) = false := by simp; omega
  obtain ⟨a, ha⟩ : ∃ a, a = f.nst := ⟨_, rfl⟩
  obtain ⟨b, hb⟩ : ∃ b, b = f.cnt := ⟨_, rfl⟩
  have KN := fun (W : World) (h : Below w.heap.size w W) => hid (Nest_f f v W (by omega) (HSL W h).out)
  have KRN := fun (W : World) (h : Below w.heap.size w W) => hid (RNest_says W.heap.size W trivial (f.cnt + 1) f ⟨by omega, by omega⟩ v (HSL W h).out)
  have KC := fun (W : World) (h : Below w.heap.size w W) => hid (Count_f f v W (by omega) (HSL W h).out)
  have KRC := fun (W : World) (h : Below w.heap.size w W) => hid (RCount_says W.heap.size (f.cnt + 1) f ⟨by omega, by omega⟩ v W (Nat.le_refl _) (HSL W h).out)
  rw [← ha] at KN KRN
  rw [← hb] at KC KRC
  have e1 : ((a : Int) == (a : Int)) = true := by simp
  have e2 : ((b : Int) == (b : Int)) = true := by simp
  obtain ⟨q, hq⟩ : ∃ q : Nat, q = n + 1 := ⟨n + 1, rfl⟩
  have e4 : ((q : Int) == (n : Int) + 1) = true := by rw [hq]; simp
  have HQ := hid hq
  have e3 : ((q : Int) == (q : Int)) = true := by simp
  obtain ⟨bm, hbm⟩ : ∃ bm, decide ((n : Int) < 500) = bm := ⟨_, rfl⟩
  have HBM := hid hbm
  clear hs hfew hL hlen hcnt ha hb hq
  go_enter Tryz.func5, Tryz.ntmps5
  go_upto_region 8 with (first
    | (go_at_call 9; (with_reducible refine (HA _).out.mono ?_); rintro e w1 ⟨rfl, hb1⟩; have HB1 := hid hb1; clear hb1)
    | (go_at_call 13; (with_reducible refine (HF _ HB1.out).out.mono ?_); rintro e w2 ⟨rfl, rfl⟩))
  have HC0 := CA.new w1 #[.int .i64 1, .int .i64 0, .int .i64 0, .int .u64 0, .int .u64 0, .slice none 0 0, .slice none 0 0, .slice none 0 0, .bool false] 39
  have HS0 : Hid (w1.heap.size < (w1.alloc (.cells #[.int .i64 1, .int .i64 0, .int .i64 0, .int .u64 0, .int .u64 0, .slice none 0 0, .slice none 0 0, .slice none 0 0, .bool false] 39)).heap.size ∧ SA (w1.alloc (.cells #[.int .i64 1, .int .i64 0, .int .i64 0, .int .u64 0, .int .u64 0, .slice none 0 0, .slice none 0 0, .slice none 0 0, .bool false] 39)).heap.size (w1.alloc (.cells #[.int .i64 1, .int .i64 0, .int .i64 0, .int .u64 0, .int .u64 0, .slice none 0 0, .slice none 0 0, .slice none 0 0, .bool false] 39)) (.slice (some ⟨w1.heap.size, 0, none⟩) 1 1) (twr 0) ∧ Below w.heap.size w (w1.alloc (.cells #[.int .i64 1, .int .i64 0, .int .i64 0, .int .u64 0, .int .u64 0, .slice none 0 0, .slice none 0 0, .slice none 0 0, .bool false] 39))) :=
    ⟨HC0.lt, SA_ins ⟨HC0.at rfl, HC0.at rfl, HC0.at rfl, HC0.at rfl, HC0.at rfl, HC0.at rfl, HC0.at rfl, HC0.at rfl, HC0.at rfl⟩ HC0.lt (SA.nil _ _ _ _), HB1.out.alloc HB1.out.size _⟩
  clear HC0
  generalize w1.alloc (.cells #[.int .i64 1, .int .i64 0, .int .i64 0, .int .u64 0, .int .u64 0, .slice none 0 0, .slice none 0 0, .slice none 0 0, .bool false] 39) = W0 at *
  generalize w1.heap.size = g0 at *
  go_wp2
  go_loopw [7, 8] (fun vx vi wr => ∃ (i g : Nat), i ≤ n ∧ vi = .int .i64 i ∧ vx = .slice (some ⟨g, 0, none⟩) 1 1 ∧ Hid (g < wr.heap.size ∧ SA wr.heap.size wr (.slice (some ⟨g, 0, none⟩) 1 1) (twr i) ∧ Below w.heap.size w wr)) (fun _ vi _ => n - (intOf vi).toNat)
  case atStart => exact ⟨0, g0, Nat.zero_le _, rfl, rfl, HS0⟩
  case round =>
    obtain ⟨i, g, hi, rfl, rfl, HI⟩ := hrel
    by_cases hlt : i < n
    · go_wp2
      have HC := CA.new wr #[.int .i64 (2 + (i : Int) % 2), .int .i64 0, .int .i64 0, .int .u64 0, .int .u64 0, .slice none 0 0, .slice (some ⟨g, 0, none⟩) 1 1, .slice none 0 0, .bool false] 39
      have hbl := (Below.refl wr.heap.size wr).alloc (Nat.le_refl _) (.cells #[.int .i64 (2 + (i : Int) % 2), .int .i64 0, .int .i64 0, .int .u64 0, .int .u64 0, .slice none 0 0, .slice (some ⟨g, 0, none⟩) 1 1, .slice none 0 0, .bool false] 39)
      have HS := hid (show wr.heap.size < (wr.alloc (.cells #[.int .i64 (2 + (i : Int) % 2), .int .i64 0, .int .i64 0, .int .u64 0, .int .u64 0, .slice none 0 0, .slice (some ⟨g, 0, none⟩) 1 1, .slice none 0 0, .bool false] 39)).heap.size ∧ SA (wr.alloc (.cells #[.int .i64 (2 + (i : Int) % 2), .int .i64 0, .int .i64 0, .int .u64 0, .int .u64 0, .slice none 0 0, .slice (some ⟨g, 0, none⟩) 1 1, .slice none 0 0, .bool false] 39)).heap.size (wr.alloc (.cells #[.int .i64 (2 + (i : Int) % 2), .int .i64 0, .int .i64 0, .int .u64 0, .int .u64 0, .slice none 0 0, .slice (some ⟨g, 0, none⟩) 1 1, .slice none 0 0, .bool false] 39)) (.slice (some ⟨wr.heap.size, 0, none⟩) 1 1) (twr (i + 1)) ∧ Below w.heap.size w (wr.alloc (.cells #[.int .i64 (2 + (i : Int) % 2), .int .i64 0, .int .i64 0, .int .u64 0, .int .u64 0, .slice none 0 0, .slice (some ⟨g, 0, none⟩) 1 1, .slice none 0 0, .bool false] 39)) from
        ⟨HC.lt, SA_ins ⟨HC.at rfl, HC.at rfl, HC.at rfl, HC.at rfl, HC.at rfl, HC.at rfl, HC.at rfl, HC.at rfl, HC.at rfl⟩ HC.lt (SA.mono (SA.below HI.out.2.1 hbl) hbl.size), HI.out.2.2.alloc HI.out.2.2.size _⟩)
      clear HC hbl
      exact ⟨⟨i + 1, wr.heap.size, hlt, by simp, rfl, HS⟩, by simp [intOf]; omega⟩
    · obtain rfl : i = n := by omega
      have HG := hid HI.out.1
      have HSX := hid HI.out.2.1
      have HBX := hid HI.out.2.2
      clear HI HS0
      go_upto_region 13 with fail
      have hF := CA.alloc (CA.new wr #[.int .i64 0, .slice none 0 0, .slice (some ⟨g, 0, none⟩) 1 1] 42) (.cells #[.slice none 0 0, .slice none 0 0, .slice (some ⟨wr.heap.size, 0, none⟩) 1 1, .slice none 0 0, .slice none 0 0, .slice none 0 0, .slice none 0 0, .int .i64 0, .slice none 0 0, .slice none 0 0, .bool false] 32)
      have hM := CA.new (wr.alloc (.cells #[.int .i64 0, .slice none 0 0, .slice (some ⟨g, 0, none⟩) 1 1] 42)) #[.slice none 0 0, .slice none 0 0, .slice (some ⟨wr.heap.size, 0, none⟩) 1 1, .slice none 0 0, .slice none 0 0, .slice none 0 0, .slice none 0 0, .int .i64 0, .slice none 0 0, .slice none 0 0, .bool false] 32
      rw [size_al] at hM
      have hbw := ((Below.refl wr.heap.size wr).alloc (Nat.le_refl _) (.cells #[.int .i64 0, .slice none 0 0, .slice (some ⟨g, 0, none⟩) 1 1] 42)).alloc (by rw [size_al]; omega) (.cells #[.slice none 0 0, .slice none 0 0, .slice (some ⟨wr.heap.size, 0, none⟩) 1 1, .slice none 0 0, .slice none 0 0, .slice none 0 0, .slice none 0 0, .int .i64 0, .slice none 0 0, .slice none 0 0, .bool false] 32)
      have HB3 := hid (HBX.out.trans (hbw.mono HBX.out.size))
      have HS3 := hid (SA.mono (SA.below HSX.out hbw) hbw.size)
      have HF3 := hid hF
      have HM3 := hid hM
      clear hF hM hbw HSX HBX HG
      generalize (wr.alloc (.cells #[.int .i64 0, .slice none 0 0, .slice (some ⟨g, 0, none⟩) 1 1] 42)).alloc (.cells #[.slice none 0 0, .slice none 0 0, .slice (some ⟨wr.heap.size, 0, none⟩) 1 1, .slice none 0 0, .slice none 0 0, .slice none 0 0, .slice none 0 0, .int .i64 0, .slice none 0 0, .slice none 0 0, .bool false] 32) = W3 at *
      generalize wr.heap.size + 1 = gm at *
      generalize wr.heap.size = gf at *
      have KXN := fun (W : World) (h : Below W3.heap.size W3 W) => hid (Nest_f (twr i) (.slice (some ⟨g, 0, none⟩) 1 1) W (by rw [twr_cnt]; omega) (SA.mono (SA.below HS3.out h) h.size))
      rw [twr_nst, ← HQ.out] at KXN
      have KXC := fun (W : World) (h : Below W3.heap.size W3 W) => hid (Count_f (twr i) (.slice (some ⟨g, 0, none⟩) 1 1) W (by rw [twr_cnt]; omega) (SA.mono (SA.below HS3.out h) h.size))
      rw [twr_cnt, ← HQ.out] at KXC
      have KM := fun (W : World) (h : Below W3.heap.size W3 W) => hid (May_fn gf g (twr i) W (by rw [twr_cnt]; omega) (twr_len i) (Nat.lt_of_lt_of_le HF3.out.lt h.size) ((h.cell (p := ⟨gf, 0, none⟩) HF3.out.lt).trans (HF3.out.at rfl)) ((h.cell (p := ⟨gf, 1, none⟩) HF3.out.lt).trans (HF3.out.at rfl)) ((h.cell (p := ⟨gf, 2, none⟩) HF3.out.lt).trans (HF3.out.at rfl)) (SA.mono (SA.below HS3.out h) h.size))
      rw [twr_may, HBM.out] at KM
      have HR := hid (Below.refl W3.heap.size W3)
      have LM := fun (W : World) (h : Below W3.heap.size W3 W) => hid (CA.below HM3.out h HM3.out.lt)
      clear HS3 HF3 HM3 HSL HF HA hn hi
      cases bm
      all_goals
        go_wp2_with (first
          | (go_at_call 14; (with_reducible refine (KN _ HB3.out).out.mono ?_); rintro e w4 ⟨rfl, hb⟩; have HR4 := hid (HR.out.trans (hb.mono HR.out.size)); have HB4 := hid (HB3.out.trans (hb.mono HB3.out.size)); clear hb)
          | (go_at_call 15; (with_reducible refine (KRN _ HB4.out).out.mono ?_); rintro e w5 ⟨rfl, rfl⟩)
          | (go_at_call 16; (with_reducible refine (KC _ HB4.out).out.mono ?_); rintro e w6 ⟨rfl, hb⟩; have HR6 := hid (HR4.out.trans (hb.mono HR4.out.size)); have HB6 := hid (HB4.out.trans (hb.mono HB4.out.size)); clear hb)
          | (go_at_call 17; (with_reducible refine (KRC _ HB6.out).out.mono ?_); rintro e w7 ⟨rfl, hb⟩; have HR7 := hid (HR6.out.trans (hb.mono HR6.out.size)); have HB7 := hid (HB6.out.trans (hb.mono HB6.out.size)); clear hb)
          | (go_at_call 14; (with_reducible refine (KXN _ HR7.out).out.mono ?_); rintro e w8 ⟨rfl, hb⟩; have HR8 := hid (HR7.out.trans (hb.mono HR7.out.size)); have HB8 := hid (HB7.out.trans (hb.mono HB7.out.size)); clear hb)
          | (go_at_call 16; (with_reducible refine (KXC _ HR8.out).out.mono ?_); rintro e w9 ⟨rfl, hb⟩; have HR9 := hid (HR8.out.trans (hb.mono HR8.out.size)); have HB9 := hid (HB8.out.trans (hb.mono HB8.out.size)); clear hb; have x0 := (LM _ HR9.out).out.at (k := 0) (v := .slice none 0 0) rfl; have x1 := (LM _ HR9.out).out.at (k := 1) (v := .slice none 0 0) rfl; have x2 := (LM _ HR9.out).out.at (k := 2) (v := .slice (some ⟨gf, 0, none⟩) 1 1) rfl; have x3 := (LM _ HR9.out).out.at (k := 3) (v := .slice none 0 0) rfl; have x4 := (LM _ HR9.out).out.at (k := 4) (v := .slice none 0 0) rfl; have x5 := (LM _ HR9.out).out.at (k := 5) (v := .slice none 0 0) rfl; have x6 := (LM _ HR9.out).out.at (k := 6) (v := .slice none 0 0) rfl; have x7 := (LM _ HR9.out).out.at (k := 7) (v := .int .i64 0) rfl; have x8 := (LM _ HR9.out).out.at (k := 8) (v := .slice none 0 0) rfl; have x9 := (LM _ HR9.out).out.at (k := 9) (v := .slice none 0 0) rfl; have x10 := (LM _ HR9.out).out.at (k := 10) (v := .bool false) rfl)
          | (go_at_call 11; (with_reducible refine (KM _ HR9.out).out.mono ?_); rintro e w10 ⟨rfl, hb⟩; have HB10 := hid (HB9.out.trans (hb.mono HB9.out.size)); clear hb))
        go_ret
        exact ⟨rfl, HB10.out⟩

theorem law_Nest (f : Fo) (v : Value) (depth : Int) (w : World) (hL : Lens f) (hlen : f.len < 9223372036854775807) (hs : SA w.heap.size w v f) :
    Calls Tryz.prog 5 #[v, .int .i64 depth] w fun e w' => e = .returned (.bool true) ∧ Below w.heap.size w w' := by
  have hF := fun (W : World) (h : Below w.heap.size w W) => Few_says f v W hL hlen (SA.mono (SA.below hs h) h.size)
  by_cases h : decide (0 ≤ wg f 0 3000) = false ∨ depth < 0 ∨ 520 < depth
  · exact nest_out v depth _ w hF h
  · have h1 : decide (0 ≤ wg f 0 3000) = true := by
      cases hd : decide (0 ≤ wg f 0 3000) with
      | true => rfl
      | false => exact absurd (.inl hd) h
    obtain ⟨n, rfl⟩ : ∃ n : Nat, depth = n := ⟨depth.toNat, by omega⟩
    exact nest_in f v n (by omega) w hL hlen (few_cnt f (by simpa using h1)) hs h1
end Go.Proofs.YteianbgampljeaaGreat
