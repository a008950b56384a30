/-
  The law of tables under a script (StoreTable), walked to its end: it answers true. Condition: what lies behind its rows and its script.
-/
import Derived.Test.YtlifnddofgeaaaaTSt
set_option linter.unusedSimpArgs false
set_option linter.unusedVariables false
set_option maxRecDepth 100000
namespace Go.Proofs.Ytlifnddofgeaaaa
open Go.RowKit

set_option maxHeartbeats 40000000 in
theorem law_Tab (mn mx : Int) (has : Bool) (h3 : -9223372036854775808 ≤ mx) (h4 : mx < 9223372036854775808) (p1 : Option Addr) (n1 c1 : Nat) (l1 : List V4) (p2 : Option Addr) (n2 c2 : Nat) (l2 : List V4) (p : Option Addr) (n c b o : Nat) (E : Nat → EAct) (w : World) (hn : n ≤ maxLen) (hF : Sl 4 p1 n1 c1 (cellsV l1) w) (hO : Sl 4 p2 n2 c2 (cellsV l2) w) (hS : Scr p n b o E w) :
    Calls Try.prog 4 #[.agg #[.int .i64 mn, .int .i64 mx, .bool has], .slice p1 n1 c1, .slice p2 n2 c2, .slice p n c] w fun e w' => e = .returned (.bool true) ∧ Below w.heap.size w w' := by
  have HA := fun W => hid (awake_says W)
  have HL0 := hid (CA.new w #[.int .i64 mn, .int .i64 mx, .bool has] 23)
  have HB0 := hid ((Below.refl w.heap.size w).alloc (Nat.le_refl _) (.cells #[.int .i64 mn, .int .i64 mx, .bool has] 23))
  have HS := hid hS
  have HF := hid hF
  have HO := hid hO
  have HX := hid (And.intro h3 h4)
  have HN : Hid (n ≤ maxLen) := hn
  have hn62 : (n : Int) < 9223372036854775808 := by unfold maxLen at hn; omega
  have hn1 : (n1 : Int) < 9223372036854775808 := by have := hF.cap; have := hF.big; omega
  have hn2 : (n2 : Int) < 9223372036854775808 := by have := hO.cap; have := hO.big; omega
  clear hS hn hF hO h3 h4
  rcases (show (100 : Int) < n1 ∨ (¬ (100 : Int) < n1 ∧ (100 : Int) < n2) ∨ (¬ (100 : Int) < n1 ∧ ¬ (100 : Int) < n2) by omega) with hp | ⟨hp, hq⟩ | ⟨hp, hq⟩
  · go_enter Try.func4, Try.ntmps4
    go_wp2_with (go_at_call 8; (with_reducible refine (HA _).out.mono ?_); rintro e w1 ⟨rfl, hb1⟩; have HB1 := hid (HB0.out.trans (hb1.mono HB0.out.size)); clear hb1)
    go_ret
    exact ⟨rfl, HB1.out⟩
  · go_enter Try.func4, Try.ntmps4
    go_wp2_with (go_at_call 8; (with_reducible refine (HA _).out.mono ?_); rintro e w1 ⟨rfl, hb1⟩; have HB1 := hid (HB0.out.trans (hb1.mono HB0.out.size)); clear hb1)
    go_ret
    exact ⟨rfl, HB1.out⟩
  · have HN1 : Hid (n1 ≤ 100) := by show _ ≤ _; omega
    have HN2 : Hid (n2 ≤ 100) := by show _ ≤ _; omega
    have hpd : decide ((100 : Int) < (n1 : Int)) = false := by simp; omega
    have hqd : decide ((100 : Int) < (n2 : Int)) = false := by simp; omega
    clear hp hq
    go_enter Try.func4, Try.ntmps4
    go_upto_region 10 with (first
      | (go_at_call 8; (with_reducible refine (HA _).out.mono ?_); rintro e w1 ⟨rfl, hb1⟩; have HB1 := hid (HB0.out.trans (hb1.mono HB0.out.size)); have HL1 := hid (HL0.out.below hb1 HL0.out.lt); clear hb1)
      | (at_builtin; refine app_v rfl _ _ rfl w.heap.size none _ 0 0 _ _ [] _ ⟨World.ownsRow_nil _ _ _ _, fun _ h => by cases h⟩ (HF.out.below HB1.out).src HF.out.nil n1 (Nat.zero_add _) (by have := HN1.out; omega) HB1.out.size rfl rfl ?_; intro pm cm wa hra hka hna; rw [List.nil_append] at hra; have HRA := hid hra; have HBA := hid (KP.fresh HB1.out hka HB1.out.size (fun g h => by cases h)); have HLA := hid (HL1.out.keep hka (by simp [blk])); have HPA : Hid (∀ g, blk pm = some g → w.heap.size < g) := (fun g hg => by rcases hna with rfl | ⟨g', rfl, h5⟩; cases hg; (have h6 : g' = g := by simpa [blk] using hg); have := HL1.out.lt; omega); clear hra hka hna)
      | (at_builtin; refine app_v rfl _ _ rfl w.heap.size none _ 0 0 _ _ [] _ ⟨World.ownsRow_nil _ _ _ _, fun _ h => by cases h⟩ (HO.out.below HBA.out).src HO.out.nil n2 (Nat.zero_add _) (by have := HN2.out; omega) HBA.out.size rfl rfl ?_; intro px cx wb hrb hkb hnb; rw [List.nil_append] at hrb; have HRB := hid hrb; have HBB := hid (KP.fresh HBA.out hkb HBA.out.size (fun g h => by cases h)); have HLB := hid (HLA.out.keep hkb (by simp [blk])); have HRAB := hid (HRA.out.keep hkb (fun _ _ _ => by simp [blk])); have HPB : Hid (∀ g, blk pm = some g → blk px ≠ some g) := (fun g hg hx => by rcases hnb with rfl | ⟨g', rfl, h5⟩; cases hx; (have h6 : g' = g := by simpa [blk] using hx); have := HRA.out.lt' g hg; omega); clear hrb hkb hnb))
    clear HL0 HB0 HA HB1 HL1 HBA HLA HRA hpd hqd
    have y0 := HLB.out.at (k := 0) (v := .int .i64 mn) rfl
    have y1 := HLB.out.at (k := 1) (v := .int .i64 mx) rfl
    have y2 := HLB.out.at (k := 2) (v := .bool has) rfl
    go_upto_region 11 with fail
    have HTM : Hid (TabA w.heap.size wb.heap.size 112 mn mx has pm n1 cm (cellsV l1) (wb.alloc (.cells #[.int .i64 112, .int .i64 mn, .int .i64 mx, .bool has, .slice pm n1 cm] 54))) := ⟨CA.new _ _ _, HRAB.out.below ((Below.refl _ _).alloc (Nat.le_refl _) _)⟩
    have HLC := hid (HLB.out.alloc (.cells #[.int .i64 112, .int .i64 mn, .int .i64 mx, .bool has, .slice pm n1 cm] 54))
    have HRC := hid (HRB.out.below ((Below.refl wb.heap.size wb).alloc (Nat.le_refl _) (.cells #[.int .i64 112, .int .i64 mn, .int .i64 mx, .bool has, .slice pm n1 cm] 54)))
    have HBC := hid (HBB.out.alloc HBB.out.size (.cells #[.int .i64 112, .int .i64 mn, .int .i64 mx, .bool has, .slice pm n1 cm] 54))
    have HGM := hid HBB.out.size
    clear HLB HRB HBB HRAB y0 y1 y2
    generalize wb.alloc (.cells #[.int .i64 112, .int .i64 mn, .int .i64 mx, .bool has, .slice pm n1 cm] 54) = wc at *
    generalize wb.heap.size = gm at *
    go_upto_region 12 with fail
    have HST : Hid (ST w gm wc.heap.size mn mx has px n2 cx l2 pm p1 n1 cm n1 c1 l1 l1 (wc.alloc (.cells #[.int .i64 0, .int .i64 0, .int .i64 0, .bool false, .slice px n2 cx] 54))) := ⟨HTM.out.below ((Below.refl _ _).alloc (Nat.le_refl _) _), HF.out.below (HBC.out.alloc HBC.out.size _), ⟨CA.new _ _ _, HRC.out.below ((Below.refl _ _).alloc (Nat.le_refl _) _)⟩, HLC.out.alloc _, HBC.out.alloc HBC.out.size _, fun h0 g hg hw => by (have h5 := HF.out.lt (by omega) g hw); (have h6 := HPA.out g hg); omega, fun h0 hw => by (have h5 := HF.out.lt (by omega) gm hw); (have h6 := HGM.out); omega, HPB.out, by have := HTM.out.box.lt; omega, HGM.out⟩
    clear HTM HLC HRC HBC HPA HPB
    generalize wc.alloc (.cells #[.int .i64 0, .int .i64 0, .int .i64 0, .bool false, .slice px n2 cx] 54) = wd at *
    generalize wc.heap.size = gx at *
    go_wp2
    go_loopw [14, 15] (fun vw vi wr => ∃ (i N : Nat) (l : List V4) (pm pw : Option Addr) (cm cw : Nat), vi = .int .i64 i ∧ vw = .slice pw N cw ∧ Hid (i ≤ 20) ∧ Hid (N ≤ 10000) ∧ Hid (ST w gm gx mn mx has px n2 cx l2 pm pw N cm N cw l l wr)) (fun _ vi _ => 20 - (intOf vi).toNat)
    case atStart => exact ⟨0, n1, l1, pm, p1, cm, c1, rfl, rfl, Nat.zero_le _, by have := HN1.out; show _ ≤ _; omega, HST⟩
    case round =>
      clear HST
      obtain ⟨i, N, l, pm, pw, cm, cw, rfl, rfl, HI, HK, HT⟩ := hrel
      by_cases hin : i < n
      · by_cases hi20 : (i : Int) < 20
        · obtain ⟨hcl, hok⟩ := HS.out.below HT.out.be i hin
          obtain ⟨hp1, hp2⟩ := HS.out.at_ (by omega)
          subst hp1
          obtain ⟨⟨ek, ea, eb, en, ec, ep, em, ed, el, ⟨x0, x1, x2, x3⟩⟩, hE⟩ : ∃ e, e = E i := ⟨_, rfl⟩
          rw [← hE] at hcl hok
          have q0 := hcl 0 _ rfl
          have q1 := hcl 1 _ rfl
          have q2 := hcl 2 _ rfl
          have q3 := hcl 3 _ rfl
          have q4 := hcl 4 _ rfl
          have q5 := hcl 5 _ rfl
          have q6 := hcl 6 _ rfl
          have q7 := hcl 7 _ rfl
          have q8 := hcl 8 _ rfl
          have q9 := hcl 9 _ rfl
          rw [Nat.add_zero] at q0
          simp only at q0 q1 q2 q3 q4 q5 q6 q7 q8 q9
          have HEA : Hid (ea < 18446744073709551616) := hok.a
          have HEB : Hid (eb < 18446744073709551616) := hok.b
          have HEN : Hid (en < 18446744073709551616) := hok.n
          have HEK : Hid (-9223372036854775808 ≤ ek ∧ ek < 9223372036854775808) := hok.k
          clear hcl hok hE hp2
          have hi62 : (i : Int) < 100 := by omega
          have HI20 : Hid (i < 20) := by show _ < _; omega
          go_upto_region 17 with fail
          have HXB := hid (CA.new wr #[.int .i64 ek, .int .u64 ea, .int .u64 eb, .int .u64 en, .int .u8 ec, .slice ep em ed, .int .i64 x0, .int .u64 x1, .int .u64 x2, .bool x3] 34)
          have HTA := hid (HT.out.alloc (.cells #[.int .i64 ek, .int .u64 ea, .int .u64 eb, .int .u64 en, .int .u8 ec, .slice ep em ed, .int .i64 x0, .int .u64 x1, .int .u64 x2, .bool x3] 34))
          have HGX : Hid (gm ≠ wr.heap.size ∧ blk pm ≠ some wr.heap.size) := ⟨by have := HT.out.tm.box.lt; omega, HT.out.tm.row.old⟩
          clear HT q0 q1 q2 q3 q4 q5 q6 q7 q8 q9
          generalize wr.alloc (.cells #[.int .i64 ek, .int .u64 ea, .int .u64 eb, .int .u64 en, .int .u8 ec, .slice ep em ed, .int .i64 x0, .int .u64 x1, .int .u64 x2, .bool x3] 34) = wa at *
          generalize wr.heap.size = ga at *
          have y0 := HXB.out.at (k := 0) (v := .int .i64 ek) rfl
          have y1 := HXB.out.at (k := 1) (v := .int .u64 ea) rfl
          have y2 := HXB.out.at (k := 2) (v := .int .u64 eb) rfl
          have y3 := HXB.out.at (k := 3) (v := .int .u64 en) rfl
          have y6 := HXB.out.at (k := 6) (v := .int .i64 x0) rfl
          have y7 := HXB.out.at (k := 7) (v := .int .u64 x1) rfl
          have y8 := HXB.out.at (k := 8) (v := .int .u64 x2) rfl
          have y9 := HXB.out.at (k := 9) (v := .bool x3) rfl
          have hN62 : (N : Int) < 9223372036854775808 := by have := HK.out; omega
          clear hi20 hn62 hi62 hin hn1 hn2
          go_upto_block 2 with fail
          generalize ek.tmod 7 = r
          go_cut [14, 17, 18] (fun vw v17 v18 wc => ∃ (N : Nat) (l : List V4) (pm pw : Option Addr) (cm cw : Nat) (EE : Int), vw = .slice pw N cw ∧ v17 = .int .i64 EE ∧ v18 = .int .i64 EE ∧ Hid (N ≤ 10000) ∧ Hid (ST w gm gx mn mx has px n2 cx l2 pm pw N cm N cw l l wc))
          case rest =>
            obtain ⟨N, l, pm, pw, cm, cw, EE, rfl, rfl, rfl, HKF, HF2⟩ := hcut
            clear HTA HXB HGX y0 y1 y2 y3 y6 y7 y8 y9 HK hN62
            have hN62 : (N : Int) < 9223372036854775808 := by have := HKF.out; omega
            have hi62 : (i : Int) < 100 := by have := HI20.out; omega
            have z4 := HF2.out.tm.box.at (k := 4) (v := .slice pm N cm) rfl
            have P1 := hid (same_says pm pw N cm cw l wc HF2.out.tm.row.sl HF2.out.sw)
            have P2 : ∀ W, Below wc.heap.size wc W → Hid (Calls Try.prog 28 #[.slice px n2 cx, .slice p2 n2 c2] W fun e w' => e = .returned (.bool true) ∧ Below W.heap.size W w') := fun W hb => same_says px p2 n2 cx c2 l2 W (HF2.out.tx.row.sl.below hb) (HO.out.below (HF2.out.be.trans (hb.mono HF2.out.be.size)))
            go_wp2_with (first
              | (go_at_call 28; (with_reducible refine P1.out.mono ?_); rintro e wd ⟨rfl, hb⟩; have HBD := hid hb; have x4 := (HF2.out.tx.box.below hb HF2.out.tx.box.lt).at (k := 4) (v := .slice px n2 cx) rfl; clear hb)
              | (go_at_call 28; (with_reducible refine (P2 _ HBD.out).out.mono ?_); rintro e we ⟨rfl, hb⟩; have HBE := hid (HBD.out.trans (hb.mono HBD.out.size)); clear hb))
            go_roundw
            case rel => exact ⟨i + 1, N, l, pm, pw, cm, cw, by go_num, rfl, HI20, HKF, HF2.out.below HBE.out⟩
            case measure => have := HI20.out; simp [intOf]; omega
          case first => as_aux_lemma =>
           rcases (show r = 0 ∨ r = 1 ∨ r = 2 ∨ r = 3 ∨ r = 4 ∨ r = 5 ∨ (r ≠ 0 ∧ r ≠ 1 ∧ r ≠ 2 ∧ r ≠ 3 ∧ r ≠ 4 ∧ r ≠ 5) by omega) with rfl | rfl | rfl | rfl | rfl | rfl | ⟨hr0, hr1, hr2, hr3, hr4, hr5⟩
           · as_aux_lemma =>
              obtain ⟨ok, hok⟩ : ∃ ok, ok = okF N ea 1 := ⟨_, rfl⟩
              obtain ⟨lz, hlz⟩ : ∃ lz, lz = if ok = true then splice l ea [(⟨x0, x1, x2, x3⟩ : V4)] else l := ⟨_, rfl⟩
              obtain ⟨EE, hEE⟩ : ∃ EE, EE = errP ok 45 := ⟨_, rfl⟩
              have P1 : Hid (Calls Try.prog 19 #[.pointer (some ⟨gm, 0, none⟩), .int .u64 ea, .agg #[.int .i64 x0, .int .u64 x1, .int .u64 x2, .bool x3]] wa fun e w' => e = .returned (.int .i64 EE) ∧ ST w gm gx mn mx has px n2 cx l2 pm pw N cm N cw lz l w' ∧ KP (blk pm) wa w') := HTA.out.pset ea ⟨x0, x1, x2, x3⟩ HEA.out ok hok lz hlz EE hEE
              have P2 : ∀ W, ST w gm gx mn mx has px n2 cx l2 pm pw N cm N cw lz l W → Hid (Calls Try.prog 20 #[.slice pw N cw, .int .u64 ea, .int .u64 0, .int .u64 1, .slice (some ⟨W.heap.size, 0, none⟩) 1 1] (W.alloc (.cells #[.int .i64 x0, .int .u64 x1, .int .u64 x2, .bool x3] 32)) fun e w' => ∃ p' c', e = .returned (.tuple #[.slice p' N c', .int .i64 EE]) ∧ ST w gm gx mn mx has px n2 cx l2 pm p' N cm N c' lz lz w' ∧ Below (W.alloc (.cells #[.int .i64 x0, .int .u64 x1, .int .u64 x2, .bool x3] 32)).heap.size (W.alloc (.cells #[.int .i64 x0, .int .u64 x1, .int .u64 x2, .bool x3] 32)) w') := by
                intro W h
                have hs : Sl 4 (some ⟨W.heap.size, 0, none⟩) 1 1 (cellsV [(⟨x0, x1, x2, x3⟩ : V4)]) (W.alloc (.cells #[.int .i64 x0, .int .u64 x1, .int .u64 x2, .bool x3] 32)) := ⟨lit_src 32 4 1 W #[.int .i64 x0, .int .u64 x1, .int .u64 x2, .bool x3] (0, 0) rfl (by simp [Value.oneCell']), Nat.le_refl _, by decide, fun h => by cases h⟩
                exact (h.alloc _).put hs ea 0 1 HK.out HEA.out (by decide) (by decide) ok (by rw [hok, okF, okP]; simp) lz (by rw [hlz]; rfl) EE hEE
              clear hok hlz hEE
              go_wp2_with (first
                | (go_at_call 19; (with_reducible refine P1.out.mono ?_); rintro e wb ⟨rfl, hm, hk⟩; have HTB := hid hm; clear hm; have hx := HXB.out.keep hk HGX.out.2; have y0 := hx.at (k := 0) (v := .int .i64 ek) rfl; have y1 := hx.at (k := 1) (v := .int .u64 ea) rfl; have y2 := hx.at (k := 2) (v := .int .u64 eb) rfl; have y3 := hx.at (k := 3) (v := .int .u64 en) rfl; have y6 := hx.at (k := 6) (v := .int .i64 x0) rfl; have y7 := hx.at (k := 7) (v := .int .u64 x1) rfl; have y8 := hx.at (k := 8) (v := .int .u64 x2) rfl; have y9 := hx.at (k := 9) (v := .bool x3) rfl; have HXC := hid hx; clear hx hk)
                | (go_at_call 20; (with_reducible refine (P2 wb HTB.out).out.mono ?_); rintro e wc ⟨pz, cz, rfl, hs, hb⟩; have HZ := hid hs; clear hs hb))
              clear HTB P1 P2 y0 y1 y2 y3 y6 y7 y8 y9
              go_meet
              exact ⟨N, lz, pm, pz, cm, cz, _, rfl, rfl, rfl, HK, HZ⟩
           · as_aux_lemma =>
              obtain ⟨ok, hok⟩ : ∃ ok, ok = okF N ea en := ⟨_, rfl⟩
              obtain ⟨lz, hlz⟩ : ∃ lz, lz = if ok = true then splice l ea (List.replicate en (⟨x0, x1, x2, x3⟩ : V4)) else l := ⟨_, rfl⟩
              obtain ⟨EE, hEE⟩ : ∃ EE, EE = errP ok 45 := ⟨_, rfl⟩
              have P1 : Hid (Calls Try.prog 21 #[.pointer (some ⟨gm, 0, none⟩), .int .u64 ea, .agg #[.int .i64 x0, .int .u64 x1, .int .u64 x2, .bool x3], .int .u64 en] wa fun e w' => e = .returned (.int .i64 EE) ∧ ST w gm gx mn mx has px n2 cx l2 pm pw N cm N cw lz l w' ∧ KP (blk pm) wa w') := HTA.out.pfill ea en ⟨x0, x1, x2, x3⟩ HEA.out HEN.out ok hok lz hlz EE hEE
              have PIN : ∀ W, Hid (Calls Try.prog 16 #[.int .u64 ea, .int .u64 en, .int .i64 N] W fun e w' => e = .returned (.bool ok) ∧ W = w') := by
                intro W
                have h := in_says N ea en (by have := HK.out; omega) HEA.out HEN.out W
                rw [← hok] at h
                exact h
              cases ok with
              | false =>
                have hE45 : EE = 45 := hEE
                have hl0 : lz = l := hlz
                subst hE45
                subst hl0
                clear hok hlz hEE
                go_wp2_with (first
                  | (go_at_call 16; (with_reducible refine (PIN _).out.mono ?_); rintro e wb ⟨rfl, rfl⟩)
                  | (go_at_call 21; (with_reducible refine P1.out.mono ?_); rintro e wb ⟨rfl, hm, hk⟩; have HZ := hid hm; clear hm hk))
                clear P1 PIN y0 y1 y2 y3 y6 y7 y8 y9
                go_meet
                exact ⟨N, lz, pm, pw, cm, cw, _, rfl, rfl, rfl, HK, HZ⟩
              | true =>
                have hE0 : EE = 0 := hEE
                subst hE0
                have hle : ea + en ≤ N := by simpa [okF] using hok.symm
                have PR : Hid (∀ W, Hid (Calls Try.prog 22 #[.agg #[.int .i64 x0, .int .u64 x1, .int .u64 x2, .bool x3], .int .u64 en] W fun e w' => ∃ p' c', e = .returned (.slice p' en c') ∧ Sl 4 p' en c' (cellsV (List.replicate en (⟨x0, x1, x2, x3⟩ : V4))) w' ∧ Below W.heap.size W w')) := by
                  intro W
                  refine (rep_says x0 x1 x2 x3 en (by have := HK.out; omega) W).mono fun e w' he => ?_
                  obtain ⟨p', c', e1, e2, e3⟩ := he
                  refine ⟨p', c', e1, ?_, e3⟩
                  rw [cellsV_rep]
                  exact e2.sl
                have P2 : ∀ W pr cr, ST w gm gx mn mx has px n2 cx l2 pm pw N cm N cw lz l W → Sl 4 pr en cr (cellsV (List.replicate en (⟨x0, x1, x2, x3⟩ : V4))) W → Hid (Calls Try.prog 20 #[.slice pw N cw, .int .u64 ea, .int .u64 0, .int .u64 en, .slice pr en cr] W fun e w' => ∃ p' c', e = .returned (.tuple #[.slice p' N c', .int .i64 0]) ∧ ST w gm gx mn mx has px n2 cx l2 pm p' N cm N c' lz lz w' ∧ Below W.heap.size W w') := by
                  intro W pr cr h hs
                  refine h.put hs ea 0 en HK.out HEA.out (by decide) HEN.out true (by rw [okP]; simp [hle]) lz ?_ 0 rfl
                  rw [hlz, if_pos rfl, if_pos rfl]
                  congr 1
                  simp [cut]
                clear hok hlz hEE hle
                go_upto_region 36 with (first
                  | (go_at_call 16; (with_reducible refine (PIN _).out.mono ?_); rintro e wb ⟨rfl, rfl⟩)
                  | (go_at_call 21; (with_reducible refine P1.out.mono ?_); rintro e wb ⟨rfl, hm, hk⟩; have HTB := hid hm; clear hm; have hx := HXB.out.keep hk HGX.out.2; have y0 := hx.at (k := 0) (v := .int .i64 ek) rfl; have y1 := hx.at (k := 1) (v := .int .u64 ea) rfl; have y2 := hx.at (k := 2) (v := .int .u64 eb) rfl; have y3 := hx.at (k := 3) (v := .int .u64 en) rfl; have y6 := hx.at (k := 6) (v := .int .i64 x0) rfl; have y7 := hx.at (k := 7) (v := .int .u64 x1) rfl; have y8 := hx.at (k := 8) (v := .int .u64 x2) rfl; have y9 := hx.at (k := 9) (v := .bool x3) rfl; have HXC := hid hx; clear hx hk))
                clear P1 PIN y0 y1 y2 y3 y6 y7 y8 y9
                have hS : CA ga #[.int .i64 ek, .int .u64 ea, .int .u64 eb, .int .u64 en, .int .u8 ec, .slice ep em ed, .int .i64 x0, .int .u64 x1, .int .u64 x2, .bool x3] 34 wb.drew ∧ ST w gm gx mn mx has px n2 cx l2 pm pw N cm N cw lz l wb.drew := ⟨HXC.out, HTB.out.drew⟩
                refine wp_region_held_drew (S := fun W => CA ga #[.int .i64 ek, .int .u64 ea, .int .u64 eb, .int .u64 en, .int .u8 ec, .slice ep em ed, .int .i64 x0, .int .u64 x1, .int .u64 x2, .bool x3] 34 W ∧ ST w gm gx mn mx has px n2 cx l2 pm pw N cm N cw lz l W) (by kernel_rfl) hS (fun _ => ?_)
                clear HXC HTB HXB HTA
                generalize wb.drew = W at *
                refine wpAnyH_take (oi := ⟨_, _, _, _, _, _⟩) (i := 0) (v := .slice pw N cw) rfl (by kernel_rfl) (by kernel_rfl) (by kernel_rfl) (fun _ _ _ h => h) (Or.inl ⟨by rfl, ?_⟩) (by assumption) ?_
                · (intro W hSw; (have y1 := hSw.1.at (k := 1) (v := .int .u64 ea) rfl); (have y3 := hSw.1.at (k := 3) (v := .int .u64 en) rfl); (have y6 := hSw.1.at (k := 6) (v := .int .i64 x0) rfl); (have y7 := hSw.1.at (k := 7) (v := .int .u64 x1) rfl); (have y8 := hSw.1.at (k := 8) (v := .int .u64 x2) rfl); (have y9 := hSw.1.at (k := 9) (v := .bool x3) rfl); clear hSw; go_simp; try (exact wrap_b8 _); try (with_reducible rfl))
                try simp only [Act.put, List.setIfInBounds_toArray, List.set_cons_zero, List.set_cons_succ]
                refine wpAnyH_take (oi := ⟨_, _, _, _, _, _⟩) (i := 1) (v := .pointer (some ⟨ga, 1, none⟩)) rfl (by kernel_rfl) (by kernel_rfl) (by kernel_rfl) (fun _ _ _ h => h) (Or.inl ⟨by rfl, ?_⟩) (by assumption) ?_
                · (intro W hSw; (have y1 := hSw.1.at (k := 1) (v := .int .u64 ea) rfl); (have y3 := hSw.1.at (k := 3) (v := .int .u64 en) rfl); (have y6 := hSw.1.at (k := 6) (v := .int .i64 x0) rfl); (have y7 := hSw.1.at (k := 7) (v := .int .u64 x1) rfl); (have y8 := hSw.1.at (k := 8) (v := .int .u64 x2) rfl); (have y9 := hSw.1.at (k := 9) (v := .bool x3) rfl); clear hSw; go_simp; try (exact wrap_b8 _); try (with_reducible rfl))
                try simp only [Act.put, List.setIfInBounds_toArray, List.set_cons_zero, List.set_cons_succ]
                refine wpAnyH_take (oi := ⟨_, _, _, _, _, _⟩) (i := 2) (v := .int .u64 ea) rfl (by kernel_rfl) (by kernel_rfl) (by kernel_rfl) (fun _ _ _ h => h) (Or.inl ⟨by rfl, ?_⟩) (by assumption) ?_
                · (intro W hSw; (have y1 := hSw.1.at (k := 1) (v := .int .u64 ea) rfl); (have y3 := hSw.1.at (k := 3) (v := .int .u64 en) rfl); (have y6 := hSw.1.at (k := 6) (v := .int .i64 x0) rfl); (have y7 := hSw.1.at (k := 7) (v := .int .u64 x1) rfl); (have y8 := hSw.1.at (k := 8) (v := .int .u64 x2) rfl); (have y9 := hSw.1.at (k := 9) (v := .bool x3) rfl); clear hSw; go_simp; try (exact wrap_b8 _); try (with_reducible rfl))
                try simp only [Act.put, List.setIfInBounds_toArray, List.set_cons_zero, List.set_cons_succ]
                refine wpAnyH_take (oi := ⟨_, _, _, _, _, _⟩) (i := 3) (v := .pointer (some ⟨ga, 3, none⟩)) rfl (by kernel_rfl) (by kernel_rfl) (by kernel_rfl) (fun _ _ _ h => h) (Or.inl ⟨by rfl, ?_⟩) (by assumption) ?_
                · (intro W hSw; (have y1 := hSw.1.at (k := 1) (v := .int .u64 ea) rfl); (have y3 := hSw.1.at (k := 3) (v := .int .u64 en) rfl); (have y6 := hSw.1.at (k := 6) (v := .int .i64 x0) rfl); (have y7 := hSw.1.at (k := 7) (v := .int .u64 x1) rfl); (have y8 := hSw.1.at (k := 8) (v := .int .u64 x2) rfl); (have y9 := hSw.1.at (k := 9) (v := .bool x3) rfl); clear hSw; go_simp; try (exact wrap_b8 _); try (with_reducible rfl))
                try simp only [Act.put, List.setIfInBounds_toArray, List.set_cons_zero, List.set_cons_succ]
                refine wpAnyH_take (oi := ⟨_, _, _, _, _, _⟩) (i := 4) (v := .int .u64 en) rfl (by kernel_rfl) (by kernel_rfl) (by kernel_rfl) (fun _ _ _ h => h) (Or.inl ⟨by rfl, ?_⟩) (by assumption) ?_
                · (intro W hSw; (have y1 := hSw.1.at (k := 1) (v := .int .u64 ea) rfl); (have y3 := hSw.1.at (k := 3) (v := .int .u64 en) rfl); (have y6 := hSw.1.at (k := 6) (v := .int .i64 x0) rfl); (have y7 := hSw.1.at (k := 7) (v := .int .u64 x1) rfl); (have y8 := hSw.1.at (k := 8) (v := .int .u64 x2) rfl); (have y9 := hSw.1.at (k := 9) (v := .bool x3) rfl); clear hSw; go_simp; try (exact wrap_b8 _); try (with_reducible rfl))
                try simp only [Act.put, List.setIfInBounds_toArray, List.set_cons_zero, List.set_cons_succ]
                refine wpAnyH_take (oi := ⟨_, _, _, _, _, _⟩) (i := 5) (v := .pointer (some ⟨ga, 6, none⟩)) rfl (by kernel_rfl) (by kernel_rfl) (by kernel_rfl) (fun _ _ _ h => h) (Or.inl ⟨by rfl, ?_⟩) (by assumption) ?_
                · (intro W hSw; (have y1 := hSw.1.at (k := 1) (v := .int .u64 ea) rfl); (have y3 := hSw.1.at (k := 3) (v := .int .u64 en) rfl); (have y6 := hSw.1.at (k := 6) (v := .int .i64 x0) rfl); (have y7 := hSw.1.at (k := 7) (v := .int .u64 x1) rfl); (have y8 := hSw.1.at (k := 8) (v := .int .u64 x2) rfl); (have y9 := hSw.1.at (k := 9) (v := .bool x3) rfl); clear hSw; go_simp; try (exact wrap_b8 _); try (with_reducible rfl))
                try simp only [Act.put, List.setIfInBounds_toArray, List.set_cons_zero, List.set_cons_succ]
                refine wpAnyH_take (oi := ⟨_, _, _, _, _, _⟩) (i := 6) (v := .agg #[.int .i64 x0, .int .u64 x1, .int .u64 x2, .bool x3]) rfl (by kernel_rfl) (by kernel_rfl) (by kernel_rfl) (fun _ _ _ h => h) (Or.inl ⟨by rfl, ?_⟩) (by assumption) ?_
                · (intro W hSw; (have y1 := hSw.1.at (k := 1) (v := .int .u64 ea) rfl); (have y3 := hSw.1.at (k := 3) (v := .int .u64 en) rfl); (have y6 := hSw.1.at (k := 6) (v := .int .i64 x0) rfl); (have y7 := hSw.1.at (k := 7) (v := .int .u64 x1) rfl); (have y8 := hSw.1.at (k := 8) (v := .int .u64 x2) rfl); (have y9 := hSw.1.at (k := 9) (v := .bool x3) rfl); clear hSw; go_simp; try (exact wrap_b8 _); try (with_reducible rfl))
                try simp only [Act.put, List.setIfInBounds_toArray, List.set_cons_zero, List.set_cons_succ]
                refine wpAnyH_take (oi := ⟨_, _, _, _, _, _⟩) (i := 7) (v := .pointer (some ⟨ga, 3, none⟩)) rfl (by kernel_rfl) (by kernel_rfl) (by kernel_rfl) (fun _ _ _ h => h) (Or.inl ⟨by rfl, ?_⟩) (by assumption) ?_
                · (intro W hSw; (have y1 := hSw.1.at (k := 1) (v := .int .u64 ea) rfl); (have y3 := hSw.1.at (k := 3) (v := .int .u64 en) rfl); (have y6 := hSw.1.at (k := 6) (v := .int .i64 x0) rfl); (have y7 := hSw.1.at (k := 7) (v := .int .u64 x1) rfl); (have y8 := hSw.1.at (k := 8) (v := .int .u64 x2) rfl); (have y9 := hSw.1.at (k := 9) (v := .bool x3) rfl); clear hSw; go_simp; try (exact wrap_b8 _); try (with_reducible rfl))
                try simp only [Act.put, List.setIfInBounds_toArray, List.set_cons_zero, List.set_cons_succ]
                refine wpAnyH_take (oi := ⟨_, _, _, _, _, _⟩) (i := 8) (v := .int .u64 en) rfl (by kernel_rfl) (by kernel_rfl) (by kernel_rfl) (fun _ _ _ h => h) (Or.inl ⟨by rfl, ?_⟩) (by assumption) ?_
                · (intro W hSw; (have y1 := hSw.1.at (k := 1) (v := .int .u64 ea) rfl); (have y3 := hSw.1.at (k := 3) (v := .int .u64 en) rfl); (have y6 := hSw.1.at (k := 6) (v := .int .i64 x0) rfl); (have y7 := hSw.1.at (k := 7) (v := .int .u64 x1) rfl); (have y8 := hSw.1.at (k := 8) (v := .int .u64 x2) rfl); (have y9 := hSw.1.at (k := 9) (v := .bool x3) rfl); clear hSw; go_simp; try (exact wrap_b8 _); try (with_reducible rfl))
                try simp only [Act.put, List.setIfInBounds_toArray, List.set_cons_zero, List.set_cons_succ]
                refine wpAnyH_ready (rs := [9]) (by kernel_rfl) (by simp) ?_
                refine AllReadyH.cons (o := ⟨_, _, _, _, _, _⟩) rfl (fun K hK => ?_) ?_
                · go_simp
                  go_at_call 22
                  (with_reducible refine (PR.out _).out.mono ?_)
                  rintro e W1 ⟨pr, cr, rfl, hrow, hb⟩
                  have HRW := hid hrow
                  replace hS := And.intro (hS.1.below hb hS.1.lt) (hS.2.below hb)
                  clear hrow hb
                  refine hK.out _ _ hS (fun _ => ?_)
                  clear hK K
                  try simp only [Act.put, List.setIfInBounds_toArray, List.set_cons_zero, List.set_cons_succ]
                  refine wpAnyH_ready (rs := [10]) (by kernel_rfl) (by simp) ?_
                  refine AllReadyH.cons (o := ⟨_, _, _, _, _, _⟩) rfl (fun K hK => ?_) ?_
                  · go_simp
                    go_at_call 20
                    (with_reducible refine (P2 _ pr cr hS.2 HRW.out).out.mono ?_)
                    rintro e W2 ⟨pz, cz, rfl, hs, hb⟩
                    have HZ := hid hs
                    replace hS := And.intro (hS.1.below hb hS.1.lt) (hS.2.below hb)
                    clear hs hb HRW
                    refine hK.out _ _ hS (fun _ => ?_)
                    clear hK K
                    try simp only [Act.put, List.setIfInBounds_toArray, List.set_cons_zero, List.set_cons_succ]
                    refine wpAnyH_take (oi := ⟨_, _, _, _, _, _⟩) (i := 11) (v := .tuple #[.slice pz N cz, .int .i64 0]) rfl (by kernel_rfl) (by kernel_rfl) (by kernel_rfl) (fun _ _ _ h => h) (Or.inl ⟨by rfl, ?_⟩) (by assumption) ?_
                    · (intro W hSw; (have y1 := hSw.1.at (k := 1) (v := .int .u64 ea) rfl); (have y3 := hSw.1.at (k := 3) (v := .int .u64 en) rfl); (have y6 := hSw.1.at (k := 6) (v := .int .i64 x0) rfl); (have y7 := hSw.1.at (k := 7) (v := .int .u64 x1) rfl); (have y8 := hSw.1.at (k := 8) (v := .int .u64 x2) rfl); (have y9 := hSw.1.at (k := 9) (v := .bool x3) rfl); clear hSw; go_simp; try (exact wrap_b8 _); try (with_reducible rfl))
                    try simp only [Act.put, List.setIfInBounds_toArray, List.set_cons_zero, List.set_cons_succ]
                    refine wpAnyH_take (oi := ⟨_, _, _, _, _, _⟩) (i := 12) (v := .slice pz N cz) rfl (by kernel_rfl) (by kernel_rfl) (by kernel_rfl) (fun _ _ _ h => h) (Or.inl ⟨by rfl, ?_⟩) (by assumption) ?_
                    · (intro W hSw; (have y1 := hSw.1.at (k := 1) (v := .int .u64 ea) rfl); (have y3 := hSw.1.at (k := 3) (v := .int .u64 en) rfl); (have y6 := hSw.1.at (k := 6) (v := .int .i64 x0) rfl); (have y7 := hSw.1.at (k := 7) (v := .int .u64 x1) rfl); (have y8 := hSw.1.at (k := 8) (v := .int .u64 x2) rfl); (have y9 := hSw.1.at (k := 9) (v := .bool x3) rfl); clear hSw; go_simp; try (exact wrap_b8 _); try (with_reducible rfl))
                    try simp only [Act.put, List.setIfInBounds_toArray, List.set_cons_zero, List.set_cons_succ]
                    refine wpAnyH_take (oi := ⟨_, _, _, _, _, _⟩) (i := 13) (v := .int .i64 0) rfl (by kernel_rfl) (by kernel_rfl) (by kernel_rfl) (fun _ _ _ h => h) (Or.inl ⟨by rfl, ?_⟩) (by assumption) ?_
                    · (intro W hSw; (have y1 := hSw.1.at (k := 1) (v := .int .u64 ea) rfl); (have y3 := hSw.1.at (k := 3) (v := .int .u64 en) rfl); (have y6 := hSw.1.at (k := 6) (v := .int .i64 x0) rfl); (have y7 := hSw.1.at (k := 7) (v := .int .u64 x1) rfl); (have y8 := hSw.1.at (k := 8) (v := .int .u64 x2) rfl); (have y9 := hSw.1.at (k := 9) (v := .bool x3) rfl); clear hSw; go_simp; try (exact wrap_b8 _); try (with_reducible rfl))
                    try simp only [Act.put, List.setIfInBounds_toArray, List.set_cons_zero, List.set_cons_succ]
                    refine wpAnyH_take (oi := ⟨_, _, _, _, _, _⟩) (i := 14) (v := .slice pz N cz) rfl (by kernel_rfl) (by kernel_rfl) (by kernel_rfl) (fun _ _ _ h => h) (Or.inl ⟨by rfl, ?_⟩) (by assumption) ?_
                    · (intro W hSw; (have y1 := hSw.1.at (k := 1) (v := .int .u64 ea) rfl); (have y3 := hSw.1.at (k := 3) (v := .int .u64 en) rfl); (have y6 := hSw.1.at (k := 6) (v := .int .i64 x0) rfl); (have y7 := hSw.1.at (k := 7) (v := .int .u64 x1) rfl); (have y8 := hSw.1.at (k := 8) (v := .int .u64 x2) rfl); (have y9 := hSw.1.at (k := 9) (v := .bool x3) rfl); clear hSw; go_simp; try (exact wrap_b8 _); try (with_reducible rfl))
                    try simp only [Act.put, List.setIfInBounds_toArray, List.set_cons_zero, List.set_cons_succ]
                    refine wpAnyH_take (oi := ⟨_, _, _, _, _, _⟩) (i := 15) (v := .int .i64 0) rfl (by kernel_rfl) (by kernel_rfl) (by kernel_rfl) (fun _ _ _ h => h) (Or.inl ⟨by rfl, ?_⟩) (by assumption) ?_
                    · (intro W hSw; (have y1 := hSw.1.at (k := 1) (v := .int .u64 ea) rfl); (have y3 := hSw.1.at (k := 3) (v := .int .u64 en) rfl); (have y6 := hSw.1.at (k := 6) (v := .int .i64 x0) rfl); (have y7 := hSw.1.at (k := 7) (v := .int .u64 x1) rfl); (have y8 := hSw.1.at (k := 8) (v := .int .u64 x2) rfl); (have y9 := hSw.1.at (k := 9) (v := .bool x3) rfl); clear hSw; go_simp; try (exact wrap_b8 _); try (with_reducible rfl))
                    try simp only [Act.put, List.setIfInBounds_toArray, List.set_cons_zero, List.set_cons_succ]
                    refine wpAnyH_done (by kernel_rfl) ?_ _
                    clear hS
                    try go_wp2
                    go_meet
                    exact ⟨N, lz, pm, pz, cm, cz, _, rfl, rfl, rfl, HK, HZ⟩
                  exact AllReadyH.nil
                exact AllReadyH.nil
           · as_aux_lemma =>
              obtain ⟨ok, hok⟩ : ∃ ok, ok = okP N N ea eb en := ⟨_, rfl⟩
              obtain ⟨lz, hlz⟩ : ∃ lz, lz = if ok = true then splice l ea (cut l eb en) else l := ⟨_, rfl⟩
              obtain ⟨EE, hEE⟩ : ∃ EE, EE = errP ok 45 := ⟨_, rfl⟩
              have P1 : Hid (Calls Try.prog 23 #[.pointer (some ⟨gm, 0, none⟩), .int .u64 ea, .int .u64 eb, .int .u64 en, .pointer (some ⟨gm, 0, none⟩)] wa fun e w' => e = .returned (.int .i64 EE) ∧ ST w gm gx mn mx has px n2 cx l2 pm pw N cm N cw lz l w' ∧ KP (blk pm) wa w') := HTA.out.pcopy (gy := gm) (HTA.out.tm.box.at (k := 4) rfl) HTA.out.tm.row.sl ea eb en HEA.out HEB.out HEN.out ok hok lz hlz EE hEE
              have P2 : ∀ W, ST w gm gx mn mx has px n2 cx l2 pm pw N cm N cw lz l W → Hid (Calls Try.prog 20 #[.slice pw N cw, .int .u64 ea, .int .u64 eb, .int .u64 en, .slice pw N cw] W fun e w' => ∃ p' c', e = .returned (.tuple #[.slice p' N c', .int .i64 EE]) ∧ ST w gm gx mn mx has px n2 cx l2 pm p' N cm N c' lz lz w' ∧ Below W.heap.size W w') := fun W h => h.put h.sw ea eb en HK.out HEA.out HEB.out HEN.out ok hok lz hlz EE hEE
              clear hok hlz hEE
              go_wp2_with (first
                | (go_at_call 23; (with_reducible refine P1.out.mono ?_); rintro e wb ⟨rfl, hm, hk⟩; have HTB := hid hm; clear hm; have hx := HXB.out.keep hk HGX.out.2; have y0 := hx.at (k := 0) (v := .int .i64 ek) rfl; have y1 := hx.at (k := 1) (v := .int .u64 ea) rfl; have y2 := hx.at (k := 2) (v := .int .u64 eb) rfl; have y3 := hx.at (k := 3) (v := .int .u64 en) rfl; have y6 := hx.at (k := 6) (v := .int .i64 x0) rfl; have y7 := hx.at (k := 7) (v := .int .u64 x1) rfl; have y8 := hx.at (k := 8) (v := .int .u64 x2) rfl; have y9 := hx.at (k := 9) (v := .bool x3) rfl; have HXC := hid hx; clear hx hk)
                | (go_at_call 20; (with_reducible refine (P2 wb HTB.out).out.mono ?_); rintro e wc ⟨pz, cz, rfl, hs, hb⟩; have HZ := hid hs; clear hs hb))
              clear HTB P1 P2 y0 y1 y2 y3 y6 y7 y8 y9
              go_meet
              exact ⟨N, lz, pm, pz, cm, cz, _, rfl, rfl, rfl, HK, HZ⟩
           · as_aux_lemma =>
              obtain ⟨ok, hok⟩ : ∃ ok, ok = okP N n2 ea eb en := ⟨_, rfl⟩
              obtain ⟨lz, hlz⟩ : ∃ lz, lz = if ok = true then splice l ea (cut l2 eb en) else l := ⟨_, rfl⟩
              obtain ⟨EE, hEE⟩ : ∃ EE, EE = errP ok 45 := ⟨_, rfl⟩
              have P1 : Hid (Calls Try.prog 23 #[.pointer (some ⟨gm, 0, none⟩), .int .u64 ea, .int .u64 eb, .int .u64 en, .pointer (some ⟨gx, 0, none⟩)] wa fun e w' => e = .returned (.int .i64 EE) ∧ ST w gm gx mn mx has px n2 cx l2 pm pw N cm N cw lz l w' ∧ KP (blk pm) wa w') := HTA.out.pcopy (gy := gx) (HTA.out.tx.box.at (k := 4) rfl) HTA.out.tx.row.sl ea eb en HEA.out HEB.out HEN.out ok hok lz hlz EE hEE
              have P2 : ∀ W, ST w gm gx mn mx has px n2 cx l2 pm pw N cm N cw lz l W → Hid (Calls Try.prog 20 #[.slice pw N cw, .int .u64 ea, .int .u64 eb, .int .u64 en, .slice p2 n2 c2] W fun e w' => ∃ p' c', e = .returned (.tuple #[.slice p' N c', .int .i64 EE]) ∧ ST w gm gx mn mx has px n2 cx l2 pm p' N cm N c' lz lz w' ∧ Below W.heap.size W w') := fun W h => h.put (HO.out.below h.be) ea eb en HK.out HEA.out HEB.out HEN.out ok hok lz hlz EE hEE
              clear hok hlz hEE
              go_wp2_with (first
                | (go_at_call 23; (with_reducible refine P1.out.mono ?_); rintro e wb ⟨rfl, hm, hk⟩; have HTB := hid hm; clear hm; have hx := HXB.out.keep hk HGX.out.2; have y0 := hx.at (k := 0) (v := .int .i64 ek) rfl; have y1 := hx.at (k := 1) (v := .int .u64 ea) rfl; have y2 := hx.at (k := 2) (v := .int .u64 eb) rfl; have y3 := hx.at (k := 3) (v := .int .u64 en) rfl; have y6 := hx.at (k := 6) (v := .int .i64 x0) rfl; have y7 := hx.at (k := 7) (v := .int .u64 x1) rfl; have y8 := hx.at (k := 8) (v := .int .u64 x2) rfl; have y9 := hx.at (k := 9) (v := .bool x3) rfl; have HXC := hid hx; clear hx hk)
                | (go_at_call 20; (with_reducible refine (P2 wb HTB.out).out.mono ?_); rintro e wc ⟨pz, cz, rfl, hs, hb⟩; have HZ := hid hs; clear hs hb))
              clear HTB P1 P2 y0 y1 y2 y3 y6 y7 y8 y9
              go_meet
              exact ⟨N, lz, pm, pz, cm, cz, _, rfl, rfl, rfl, HK, HZ⟩
           · as_aux_lemma =>
              obtain ⟨ok, hok⟩ : ∃ ok, ok = okP N n2 ea eb en := ⟨_, rfl⟩
              obtain ⟨lz, hlz⟩ : ∃ lz, lz = if ok = true then splice l ea (cut l2 eb en) else l := ⟨_, rfl⟩
              obtain ⟨EE, hEE⟩ : ∃ EE, EE = errP ok 45 := ⟨_, rfl⟩
              have P1 : Hid (Calls Try.prog 24 #[.pointer (some ⟨gm, 0, none⟩), .int .u64 ea, .int .u64 eb, .int .u64 en, .slice p2 n2 c2] wa fun e w' => e = .returned (.int .i64 EE) ∧ ST w gm gx mn mx has px n2 cx l2 pm pw N cm N cw lz l w' ∧ KP (blk pm) wa w') := HTA.out.pinit (HO.out.below HTA.out.be) ea eb en HEA.out HEB.out HEN.out ok hok lz hlz EE hEE
              have P2 : ∀ W, ST w gm gx mn mx has px n2 cx l2 pm pw N cm N cw lz l W → Hid (Calls Try.prog 20 #[.slice pw N cw, .int .u64 ea, .int .u64 eb, .int .u64 en, .slice p2 n2 c2] W fun e w' => ∃ p' c', e = .returned (.tuple #[.slice p' N c', .int .i64 EE]) ∧ ST w gm gx mn mx has px n2 cx l2 pm p' N cm N c' lz lz w' ∧ Below W.heap.size W w') := fun W h => h.put (HO.out.below h.be) ea eb en HK.out HEA.out HEB.out HEN.out ok hok lz hlz EE hEE
              clear hok hlz hEE
              go_wp2_with (first
                | (go_at_call 24; (with_reducible refine P1.out.mono ?_); rintro e wb ⟨rfl, hm, hk⟩; have HTB := hid hm; clear hm; have hx := HXB.out.keep hk HGX.out.2; have y0 := hx.at (k := 0) (v := .int .i64 ek) rfl; have y1 := hx.at (k := 1) (v := .int .u64 ea) rfl; have y2 := hx.at (k := 2) (v := .int .u64 eb) rfl; have y3 := hx.at (k := 3) (v := .int .u64 en) rfl; have y6 := hx.at (k := 6) (v := .int .i64 x0) rfl; have y7 := hx.at (k := 7) (v := .int .u64 x1) rfl; have y8 := hx.at (k := 8) (v := .int .u64 x2) rfl; have y9 := hx.at (k := 9) (v := .bool x3) rfl; have HXC := hid hx; clear hx hk)
                | (go_at_call 20; (with_reducible refine (P2 wb HTB.out).out.mono ?_); rintro e wc ⟨pz, cz, rfl, hs, hb⟩; have HZ := hid hs; clear hs hb))
              clear HTB P1 P2 y0 y1 y2 y3 y6 y7 y8 y9
              go_meet
              exact ⟨N, lz, pm, pz, cm, cz, _, rfl, rfl, rfl, HK, HZ⟩
           · as_aux_lemma =>
              have hNK : (N : Int) < 9223372036854775808 := hN62
              have hwu : IntKind.u64.wrap (N : Int) = (N : Int) := by rw [IntKind.wrap_u64]; omega
              rcases (show ea < N ∨ ¬ ea < N by omega) with hlt | hlt
              · obtain ⟨x, hx⟩ : ∃ x, l[ea]? = some x := ⟨_, List.getElem?_eq_getElem (by have := HTA.out.sw.src.len; rw [cellsV_len] at this; omega)⟩
                have PG : Hid (Calls Try.prog 25 #[.pointer (some ⟨gm, 0, none⟩), .int .u64 ea] wa fun e w' => e = .returned (.tuple #[.agg #[.int .i64 x.t, .int .u64 x.lo, .int .u64 x.hi, .bool x.nl], .int .i64 0]) ∧ Below wa.heap.size wa w') := get_t_yes w.heap.size gm 112 mn mx has pm N cm ea x (cellsV l) wa HTA.out.tm (by omega) (cellsV_at l ea x hx)
                obtain ⟨g, o9, e9, hg9, ha9⟩ := HTA.out.sw.src.at_ (by intro e; have := HTA.out.sw.src.len; rw [e] at this; simp at this; omega)
                subst e9
                have HAT : Hid (∀ j u, (cellsV l)[j]? = some u → wa.cell? ⟨g, o9 + j, none⟩ = some u) := ha9
                have HG9 : Hid (g < wa.heap.size) := hg9
                have HXX := hid hx
                clear ha9 hg9 hx hNK hN62
                go_upto_region 48 with (go_at_call 25; (with_reducible refine PG.out.mono ?_); rintro e wb ⟨rfl, hb⟩; have HBB := hid hb; clear hb)
                have HVB := hid (CA.new wb #[.int .i64 x.t, .int .u64 x.lo, .int .u64 x.hi, .bool x.nl] 32)
                have hbz := HBB.out.trans (((Below.refl wb.heap.size wb).alloc (Nat.le_refl _) (.cells #[.int .i64 x.t, .int .u64 x.lo, .int .u64 x.hi, .bool x.nl] 32)).mono HBB.out.size)
                have HZ0 := hid (HTA.out.below hbz)
                have HXC := hid (HXB.out.below hbz HXB.out.lt)
                have HAZ : Hid (∀ j u, (cellsV l)[j]? = some u → (wb.alloc (.cells #[.int .i64 x.t, .int .u64 x.lo, .int .u64 x.hi, .bool x.nl] 32)).cell? ⟨g, o9 + j, none⟩ = some u) := fun j u hj => (hbz.cell (p := ⟨g, o9 + j, none⟩) HG9.out).trans (HAT.out j u hj)
                clear hbz PG y0 y1 y2 y3 y6 y7 y8 y9
                generalize wb.alloc (.cells #[.int .i64 x.t, .int .u64 x.lo, .int .u64 x.hi, .bool x.nl] 32) = wc at *
                generalize wb.heap.size = gv at *
                have y1 := HXC.out.at (k := 1) (v := .int .u64 ea) rfl
                go_upto_region 49 with fail
                clear y1
                have HZ := hid HZ0.out.drew
                have y1 : wc.drew.cell? ⟨ga, 1, none⟩ = some (.int .u64 ea) := HXC.out.at (k := 1) rfl
                have v0 : wc.drew.cell? ⟨gv, 0, none⟩ = some (.int .i64 x.t) := HVB.out.at (k := 0) rfl
                have v1 : wc.drew.cell? ⟨gv, 1, none⟩ = some (.int .u64 x.lo) := HVB.out.at (k := 1) rfl
                have v2 : wc.drew.cell? ⟨gv, 2, none⟩ = some (.int .u64 x.hi) := HVB.out.at (k := 2) rfl
                have v3 : wc.drew.cell? ⟨gv, 3, none⟩ = some (.bool x.nl) := HVB.out.at (k := 3) rfl
                have z0 : wc.drew.cell? ⟨g, o9 + ea * 4, none⟩ = some (.int .i64 x.t) := by
                  have h := HAZ.out (ea * 4 + 0) _ ((cellsV_get l ea 0 x HXX.out (by decide)).trans rfl)
                  rw [Nat.add_zero] at h
                  exact h
                have z1 : wc.drew.cell? ⟨g, o9 + ea * 4 + 1, none⟩ = some (.int .u64 x.lo) := by
                  have h := HAZ.out (ea * 4 + 1) _ ((cellsV_get l ea 1 x HXX.out (by decide)).trans rfl)
                  rw [← Nat.add_assoc] at h
                  exact h
                have z2 : wc.drew.cell? ⟨g, o9 + ea * 4 + 2, none⟩ = some (.int .u64 x.hi) := by
                  have h := HAZ.out (ea * 4 + 2) _ ((cellsV_get l ea 2 x HXX.out (by decide)).trans rfl)
                  rw [← Nat.add_assoc] at h
                  exact h
                have z3 : wc.drew.cell? ⟨g, o9 + ea * 4 + 3, none⟩ = some (.bool x.nl) := by
                  have h := HAZ.out (ea * 4 + 3) _ ((cellsV_get l ea 3 x HXX.out (by decide)).trans rfl)
                  rw [← Nat.add_assoc] at h
                  exact h
                have hS : CA gv #[.int .i64 x.t, .int .u64 x.lo, .int .u64 x.hi, .bool x.nl] 32 wc.drew ∧ CA ga #[.int .i64 ek, .int .u64 ea, .int .u64 eb, .int .u64 en, .int .u8 ec, .slice ep em ed, .int .i64 x0, .int .u64 x1, .int .u64 x2, .bool x3] 34 wc.drew ∧ wc.drew.cell? ⟨g, o9 + ea * 4, none⟩ = some (.int .i64 x.t) ∧ wc.drew.cell? ⟨g, o9 + ea * 4 + 1, none⟩ = some (.int .u64 x.lo) ∧ wc.drew.cell? ⟨g, o9 + ea * 4 + 2, none⟩ = some (.int .u64 x.hi) ∧ wc.drew.cell? ⟨g, o9 + ea * 4 + 3, none⟩ = some (.bool x.nl) := ⟨HVB.out, HXC.out, z0, z1, z2, z3⟩
                refine wp_region_held_drew (S := fun W => CA gv #[.int .i64 x.t, .int .u64 x.lo, .int .u64 x.hi, .bool x.nl] 32 W ∧ CA ga #[.int .i64 ek, .int .u64 ea, .int .u64 eb, .int .u64 en, .int .u8 ec, .slice ep em ed, .int .i64 x0, .int .u64 x1, .int .u64 x2, .bool x3] 34 W ∧ W.cell? ⟨g, o9 + ea * 4, none⟩ = some (.int .i64 x.t) ∧ W.cell? ⟨g, o9 + ea * 4 + 1, none⟩ = some (.int .u64 x.lo) ∧ W.cell? ⟨g, o9 + ea * 4 + 2, none⟩ = some (.int .u64 x.hi) ∧ W.cell? ⟨g, o9 + ea * 4 + 3, none⟩ = some (.bool x.nl)) (by kernel_rfl) hS (fun _ => ?_)
                clear HVB HXC HZ0 HXB HTA y1 v0 v1 v2 v3 z0 z1 z2 z3 HAZ HAT HG9 HXX
                clear hwu
                generalize wc.drew = W at *
                refine wpAnyH_take (oi := ⟨_, _, _, _, _, _⟩) (i := 0) (v := .bool true) rfl (by kernel_rfl) (by kernel_rfl) (by kernel_rfl) (fun _ _ _ h => h) (Or.inl ⟨by rfl, ?_⟩) (by assumption) ?_
                · (intro W hSw; (have v0 := hSw.1.at (k := 0) (v := .int .i64 x.t) rfl); (have v1 := hSw.1.at (k := 1) (v := .int .u64 x.lo) rfl); (have v2 := hSw.1.at (k := 2) (v := .int .u64 x.hi) rfl); (have v3 := hSw.1.at (k := 3) (v := .bool x.nl) rfl); (have y1 := hSw.2.1.at (k := 1) (v := .int .u64 ea) rfl); (have z0 := hSw.2.2.1); (have z1 := hSw.2.2.2.1); (have z2 := hSw.2.2.2.2.1); (have z3 := hSw.2.2.2.2.2); clear hSw; go_simp; try (exact wrap_b8 _); try (with_reducible rfl))
                try simp only [Act.put, List.setIfInBounds_toArray, List.set_cons_zero, List.set_cons_succ]
                refine wpAnyH_take (oi := ⟨_, _, _, _, _, _⟩) (i := 1) (v := .int .i64 0) rfl (by kernel_rfl) (by kernel_rfl) (by kernel_rfl) (fun _ _ _ h => h) (Or.inl ⟨by rfl, ?_⟩) (by assumption) ?_
                · (intro W hSw; (have v0 := hSw.1.at (k := 0) (v := .int .i64 x.t) rfl); (have v1 := hSw.1.at (k := 1) (v := .int .u64 x.lo) rfl); (have v2 := hSw.1.at (k := 2) (v := .int .u64 x.hi) rfl); (have v3 := hSw.1.at (k := 3) (v := .bool x.nl) rfl); (have y1 := hSw.2.1.at (k := 1) (v := .int .u64 ea) rfl); (have z0 := hSw.2.2.1); (have z1 := hSw.2.2.2.1); (have z2 := hSw.2.2.2.2.1); (have z3 := hSw.2.2.2.2.2); clear hSw; go_simp; try (exact wrap_b8 _); try (with_reducible rfl))
                try simp only [Act.put, List.setIfInBounds_toArray, List.set_cons_zero, List.set_cons_succ]
                refine wpAnyH_take (oi := ⟨_, _, _, _, _, _⟩) (i := 2) (v := .bool true) rfl (by kernel_rfl) (by kernel_rfl) (by kernel_rfl) (fun _ _ _ h => h) (Or.inl ⟨by rfl, ?_⟩) (by assumption) ?_
                · (intro W hSw; (have v0 := hSw.1.at (k := 0) (v := .int .i64 x.t) rfl); (have v1 := hSw.1.at (k := 1) (v := .int .u64 x.lo) rfl); (have v2 := hSw.1.at (k := 2) (v := .int .u64 x.hi) rfl); (have v3 := hSw.1.at (k := 3) (v := .bool x.nl) rfl); (have y1 := hSw.2.1.at (k := 1) (v := .int .u64 ea) rfl); (have z0 := hSw.2.2.1); (have z1 := hSw.2.2.2.1); (have z2 := hSw.2.2.2.2.1); (have z3 := hSw.2.2.2.2.2); clear hSw; go_simp; try (exact wrap_b8 _); try (with_reducible rfl))
                try simp only [Act.put, List.setIfInBounds_toArray, List.set_cons_zero, List.set_cons_succ]
                refine wpAnyH_take (oi := ⟨_, _, _, _, _, _⟩) (i := 3) (v := .bool false) rfl (by kernel_rfl) (by kernel_rfl) (by kernel_rfl) (fun _ _ _ h => h) (Or.inl ⟨by rfl, ?_⟩) (by assumption) ?_
                · (intro W hSw; (have v0 := hSw.1.at (k := 0) (v := .int .i64 x.t) rfl); (have v1 := hSw.1.at (k := 1) (v := .int .u64 x.lo) rfl); (have v2 := hSw.1.at (k := 2) (v := .int .u64 x.hi) rfl); (have v3 := hSw.1.at (k := 3) (v := .bool x.nl) rfl); (have y1 := hSw.2.1.at (k := 1) (v := .int .u64 ea) rfl); (have z0 := hSw.2.2.1); (have z1 := hSw.2.2.2.1); (have z2 := hSw.2.2.2.2.1); (have z3 := hSw.2.2.2.2.2); clear hSw; go_simp; try (exact wrap_b8 _); try (with_reducible rfl))
                try simp only [Act.put, List.setIfInBounds_toArray, List.set_cons_zero, List.set_cons_succ]
                refine wpAnyH_take (oi := ⟨_, _, _, _, _, _⟩) (i := 4) (v := .bool false) rfl (by kernel_rfl) (by kernel_rfl) (by kernel_rfl) (fun _ _ _ h => h) (Or.inl ⟨by rfl, ?_⟩) (by assumption) ?_
                · (intro W hSw; (have v0 := hSw.1.at (k := 0) (v := .int .i64 x.t) rfl); (have v1 := hSw.1.at (k := 1) (v := .int .u64 x.lo) rfl); (have v2 := hSw.1.at (k := 2) (v := .int .u64 x.hi) rfl); (have v3 := hSw.1.at (k := 3) (v := .bool x.nl) rfl); (have y1 := hSw.2.1.at (k := 1) (v := .int .u64 ea) rfl); (have z0 := hSw.2.2.1); (have z1 := hSw.2.2.2.1); (have z2 := hSw.2.2.2.2.1); (have z3 := hSw.2.2.2.2.2); clear hSw; go_simp; try (exact wrap_b8 _); try (with_reducible rfl))
                try simp only [Act.put, List.setIfInBounds_toArray, List.set_cons_zero, List.set_cons_succ]
                refine wpAnyH_take (oi := ⟨_, _, _, _, _, _⟩) (i := 5) (v := .bool true) rfl (by kernel_rfl) (by kernel_rfl) (by kernel_rfl) (fun _ _ _ h => h) (Or.inl ⟨by rfl, ?_⟩) (by assumption) ?_
                · (intro W hSw; (have v0 := hSw.1.at (k := 0) (v := .int .i64 x.t) rfl); (have v1 := hSw.1.at (k := 1) (v := .int .u64 x.lo) rfl); (have v2 := hSw.1.at (k := 2) (v := .int .u64 x.hi) rfl); (have v3 := hSw.1.at (k := 3) (v := .bool x.nl) rfl); (have y1 := hSw.2.1.at (k := 1) (v := .int .u64 ea) rfl); (have z0 := hSw.2.2.1); (have z1 := hSw.2.2.2.1); (have z2 := hSw.2.2.2.2.1); (have z3 := hSw.2.2.2.2.2); clear hSw; go_simp; try (exact wrap_b8 _); try (with_reducible rfl))
                try simp only [Act.put, List.setIfInBounds_toArray, List.set_cons_zero, List.set_cons_succ]
                refine wpAnyH_take (oi := ⟨_, _, _, _, _, _⟩) (i := 6) (v := .bool true) rfl (by kernel_rfl) (by kernel_rfl) (by kernel_rfl) (fun _ _ _ h => h) (Or.inl ⟨by rfl, ?_⟩) (by assumption) ?_
                · (intro W hSw; (have v0 := hSw.1.at (k := 0) (v := .int .i64 x.t) rfl); (have v1 := hSw.1.at (k := 1) (v := .int .u64 x.lo) rfl); (have v2 := hSw.1.at (k := 2) (v := .int .u64 x.hi) rfl); (have v3 := hSw.1.at (k := 3) (v := .bool x.nl) rfl); (have y1 := hSw.2.1.at (k := 1) (v := .int .u64 ea) rfl); (have z0 := hSw.2.2.1); (have z1 := hSw.2.2.2.1); (have z2 := hSw.2.2.2.2.1); (have z3 := hSw.2.2.2.2.2); clear hSw; go_simp; try (exact wrap_b8 _); try (with_reducible rfl))
                try simp only [Act.put, List.setIfInBounds_toArray, List.set_cons_zero, List.set_cons_succ]
                refine wpAnyH_take (oi := ⟨_, _, _, _, _, _⟩) (i := 7) (v := .agg #[.int .i64 x.t, .int .u64 x.lo, .int .u64 x.hi, .bool x.nl]) rfl (by kernel_rfl) (by kernel_rfl) (by kernel_rfl) (fun _ _ _ h => h) (Or.inl ⟨by rfl, ?_⟩) (by assumption) ?_
                · (intro W hSw; (have v0 := hSw.1.at (k := 0) (v := .int .i64 x.t) rfl); (have v1 := hSw.1.at (k := 1) (v := .int .u64 x.lo) rfl); (have v2 := hSw.1.at (k := 2) (v := .int .u64 x.hi) rfl); (have v3 := hSw.1.at (k := 3) (v := .bool x.nl) rfl); (have y1 := hSw.2.1.at (k := 1) (v := .int .u64 ea) rfl); (have z0 := hSw.2.2.1); (have z1 := hSw.2.2.2.1); (have z2 := hSw.2.2.2.2.1); (have z3 := hSw.2.2.2.2.2); clear hSw; go_simp; try (exact wrap_b8 _); try (with_reducible rfl))
                try simp only [Act.put, List.setIfInBounds_toArray, List.set_cons_zero, List.set_cons_succ]
                refine wpAnyH_take (oi := ⟨_, _, _, _, _, _⟩) (i := 8) (v := .slice (some ⟨g, o9, none⟩) N cw) rfl (by kernel_rfl) (by kernel_rfl) (by kernel_rfl) (fun _ _ _ h => h) (Or.inl ⟨by rfl, ?_⟩) (by assumption) ?_
                · (intro W hSw; (have v0 := hSw.1.at (k := 0) (v := .int .i64 x.t) rfl); (have v1 := hSw.1.at (k := 1) (v := .int .u64 x.lo) rfl); (have v2 := hSw.1.at (k := 2) (v := .int .u64 x.hi) rfl); (have v3 := hSw.1.at (k := 3) (v := .bool x.nl) rfl); (have y1 := hSw.2.1.at (k := 1) (v := .int .u64 ea) rfl); (have z0 := hSw.2.2.1); (have z1 := hSw.2.2.2.1); (have z2 := hSw.2.2.2.2.1); (have z3 := hSw.2.2.2.2.2); clear hSw; go_simp; try (exact wrap_b8 _); try (with_reducible rfl))
                try simp only [Act.put, List.setIfInBounds_toArray, List.set_cons_zero, List.set_cons_succ]
                refine wpAnyH_take (oi := ⟨_, _, _, _, _, _⟩) (i := 9) (v := .pointer (some ⟨ga, 1, none⟩)) rfl (by kernel_rfl) (by kernel_rfl) (by kernel_rfl) (fun _ _ _ h => h) (Or.inl ⟨by rfl, ?_⟩) (by assumption) ?_
                · (intro W hSw; (have v0 := hSw.1.at (k := 0) (v := .int .i64 x.t) rfl); (have v1 := hSw.1.at (k := 1) (v := .int .u64 x.lo) rfl); (have v2 := hSw.1.at (k := 2) (v := .int .u64 x.hi) rfl); (have v3 := hSw.1.at (k := 3) (v := .bool x.nl) rfl); (have y1 := hSw.2.1.at (k := 1) (v := .int .u64 ea) rfl); (have z0 := hSw.2.2.1); (have z1 := hSw.2.2.2.1); (have z2 := hSw.2.2.2.2.1); (have z3 := hSw.2.2.2.2.2); clear hSw; go_simp; try (exact wrap_b8 _); try (with_reducible rfl))
                try simp only [Act.put, List.setIfInBounds_toArray, List.set_cons_zero, List.set_cons_succ]
                refine wpAnyH_take (oi := ⟨_, _, _, _, _, _⟩) (i := 10) (v := .int .u64 ea) rfl (by kernel_rfl) (by kernel_rfl) (by kernel_rfl) (fun _ _ _ h => h) (Or.inl ⟨by rfl, ?_⟩) (by assumption) ?_
                · (intro W hSw; (have v0 := hSw.1.at (k := 0) (v := .int .i64 x.t) rfl); (have v1 := hSw.1.at (k := 1) (v := .int .u64 x.lo) rfl); (have v2 := hSw.1.at (k := 2) (v := .int .u64 x.hi) rfl); (have v3 := hSw.1.at (k := 3) (v := .bool x.nl) rfl); (have y1 := hSw.2.1.at (k := 1) (v := .int .u64 ea) rfl); (have z0 := hSw.2.2.1); (have z1 := hSw.2.2.2.1); (have z2 := hSw.2.2.2.2.1); (have z3 := hSw.2.2.2.2.2); clear hSw; go_simp; try (exact wrap_b8 _); try (with_reducible rfl))
                try simp only [Act.put, List.setIfInBounds_toArray, List.set_cons_zero, List.set_cons_succ]
                refine wpAnyH_take (oi := ⟨_, _, _, _, _, _⟩) (i := 11) (v := .pointer (some ⟨g, o9 + ea * 4, none⟩)) rfl (by kernel_rfl) (by kernel_rfl) (by kernel_rfl) (fun _ _ _ h => h) (Or.inl ⟨by rfl, ?_⟩) (by assumption) ?_
                · (intro W hSw; (have v0 := hSw.1.at (k := 0) (v := .int .i64 x.t) rfl); (have v1 := hSw.1.at (k := 1) (v := .int .u64 x.lo) rfl); (have v2 := hSw.1.at (k := 2) (v := .int .u64 x.hi) rfl); (have v3 := hSw.1.at (k := 3) (v := .bool x.nl) rfl); (have y1 := hSw.2.1.at (k := 1) (v := .int .u64 ea) rfl); (have z0 := hSw.2.2.1); (have z1 := hSw.2.2.2.1); (have z2 := hSw.2.2.2.2.1); (have z3 := hSw.2.2.2.2.2); clear hSw; go_simp; try (exact wrap_b8 _); try (with_reducible rfl))
                try simp only [Act.put, List.setIfInBounds_toArray, List.set_cons_zero, List.set_cons_succ]
                refine wpAnyH_take (oi := ⟨_, _, _, _, _, _⟩) (i := 12) (v := .agg #[.int .i64 x.t, .int .u64 x.lo, .int .u64 x.hi, .bool x.nl]) rfl (by kernel_rfl) (by kernel_rfl) (by kernel_rfl) (fun _ _ _ h => h) (Or.inl ⟨by rfl, ?_⟩) (by assumption) ?_
                · (intro W hSw; (have v0 := hSw.1.at (k := 0) (v := .int .i64 x.t) rfl); (have v1 := hSw.1.at (k := 1) (v := .int .u64 x.lo) rfl); (have v2 := hSw.1.at (k := 2) (v := .int .u64 x.hi) rfl); (have v3 := hSw.1.at (k := 3) (v := .bool x.nl) rfl); (have y1 := hSw.2.1.at (k := 1) (v := .int .u64 ea) rfl); (have z0 := hSw.2.2.1); (have z1 := hSw.2.2.2.1); (have z2 := hSw.2.2.2.2.1); (have z3 := hSw.2.2.2.2.2); clear hSw; go_simp; try (exact wrap_b8 _); try (with_reducible rfl))
                try simp only [Act.put, List.setIfInBounds_toArray, List.set_cons_zero, List.set_cons_succ]
                refine wpAnyH_take (oi := ⟨_, _, _, _, _, _⟩) (i := 13) (v := .bool false) rfl (by kernel_rfl) (by kernel_rfl) (by kernel_rfl) (fun _ _ _ h => h) (Or.inl ⟨by rfl, ?_⟩) (by assumption) ?_
                · (intro W hSw; (have v0 := hSw.1.at (k := 0) (v := .int .i64 x.t) rfl); (have v1 := hSw.1.at (k := 1) (v := .int .u64 x.lo) rfl); (have v2 := hSw.1.at (k := 2) (v := .int .u64 x.hi) rfl); (have v3 := hSw.1.at (k := 3) (v := .bool x.nl) rfl); (have y1 := hSw.2.1.at (k := 1) (v := .int .u64 ea) rfl); (have z0 := hSw.2.2.1); (have z1 := hSw.2.2.2.1); (have z2 := hSw.2.2.2.2.1); (have z3 := hSw.2.2.2.2.2); clear hSw; go_simp; try (exact wrap_b8 _); try (with_reducible rfl))
                try simp only [Act.put, List.setIfInBounds_toArray, List.set_cons_zero, List.set_cons_succ]
                refine wpAnyH_take (oi := ⟨_, _, _, _, _, _⟩) (i := 14) (v := .bool false) rfl (by kernel_rfl) (by kernel_rfl) (by kernel_rfl) (fun _ _ _ h => h) (Or.inl ⟨by rfl, ?_⟩) (by assumption) ?_
                · (intro W hSw; (have v0 := hSw.1.at (k := 0) (v := .int .i64 x.t) rfl); (have v1 := hSw.1.at (k := 1) (v := .int .u64 x.lo) rfl); (have v2 := hSw.1.at (k := 2) (v := .int .u64 x.hi) rfl); (have v3 := hSw.1.at (k := 3) (v := .bool x.nl) rfl); (have y1 := hSw.2.1.at (k := 1) (v := .int .u64 ea) rfl); (have z0 := hSw.2.2.1); (have z1 := hSw.2.2.2.1); (have z2 := hSw.2.2.2.2.1); (have z3 := hSw.2.2.2.2.2); clear hSw; go_simp; try (exact wrap_b8 _); try (with_reducible rfl))
                try simp only [Act.put, List.setIfInBounds_toArray, List.set_cons_zero, List.set_cons_succ]
                refine wpAnyH_take (oi := ⟨_, _, _, _, _, _⟩) (i := 15) (v := .bool false) rfl (by kernel_rfl) (by kernel_rfl) (by kernel_rfl) (fun _ _ _ h => h) (Or.inl ⟨by rfl, ?_⟩) (by assumption) ?_
                · (intro W hSw; (have v0 := hSw.1.at (k := 0) (v := .int .i64 x.t) rfl); (have v1 := hSw.1.at (k := 1) (v := .int .u64 x.lo) rfl); (have v2 := hSw.1.at (k := 2) (v := .int .u64 x.hi) rfl); (have v3 := hSw.1.at (k := 3) (v := .bool x.nl) rfl); (have y1 := hSw.2.1.at (k := 1) (v := .int .u64 ea) rfl); (have z0 := hSw.2.2.1); (have z1 := hSw.2.2.2.1); (have z2 := hSw.2.2.2.2.1); (have z3 := hSw.2.2.2.2.2); clear hSw; go_simp; try (exact wrap_b8 _); try (with_reducible rfl))
                try simp only [Act.put, List.setIfInBounds_toArray, List.set_cons_zero, List.set_cons_succ]
                refine wpAnyH_take (oi := ⟨_, _, _, _, _, _⟩) (i := 16) (v := .bool false) rfl (by kernel_rfl) (by kernel_rfl) (by kernel_rfl) (fun _ _ _ h => h) (Or.inl ⟨by rfl, ?_⟩) (by assumption) ?_
                · (intro W hSw; (have v0 := hSw.1.at (k := 0) (v := .int .i64 x.t) rfl); (have v1 := hSw.1.at (k := 1) (v := .int .u64 x.lo) rfl); (have v2 := hSw.1.at (k := 2) (v := .int .u64 x.hi) rfl); (have v3 := hSw.1.at (k := 3) (v := .bool x.nl) rfl); (have y1 := hSw.2.1.at (k := 1) (v := .int .u64 ea) rfl); (have z0 := hSw.2.2.1); (have z1 := hSw.2.2.2.1); (have z2 := hSw.2.2.2.2.1); (have z3 := hSw.2.2.2.2.2); clear hSw; go_simp; try (exact wrap_b8 _); try (with_reducible rfl))
                try simp only [Act.put, List.setIfInBounds_toArray, List.set_cons_zero, List.set_cons_succ]
                refine wpAnyH_take (oi := ⟨_, _, _, _, _, _⟩) (i := 17) (v := .bool true) rfl (by kernel_rfl) (by kernel_rfl) (by kernel_rfl) (fun _ _ _ h => h) (Or.inl ⟨by rfl, ?_⟩) (by assumption) ?_
                · (intro W hSw; (have v0 := hSw.1.at (k := 0) (v := .int .i64 x.t) rfl); (have v1 := hSw.1.at (k := 1) (v := .int .u64 x.lo) rfl); (have v2 := hSw.1.at (k := 2) (v := .int .u64 x.hi) rfl); (have v3 := hSw.1.at (k := 3) (v := .bool x.nl) rfl); (have y1 := hSw.2.1.at (k := 1) (v := .int .u64 ea) rfl); (have z0 := hSw.2.2.1); (have z1 := hSw.2.2.2.1); (have z2 := hSw.2.2.2.2.1); (have z3 := hSw.2.2.2.2.2); clear hSw; go_simp; try (exact wrap_b8 _); try (with_reducible rfl))
                try simp only [Act.put, List.setIfInBounds_toArray, List.set_cons_zero, List.set_cons_succ]
                refine wpAnyH_take (oi := ⟨_, _, _, _, _, _⟩) (i := 18) (v := .bool false) rfl (by kernel_rfl) (by kernel_rfl) (by kernel_rfl) (fun _ _ _ h => h) (Or.inl ⟨by rfl, ?_⟩) (by assumption) ?_
                · (intro W hSw; (have v0 := hSw.1.at (k := 0) (v := .int .i64 x.t) rfl); (have v1 := hSw.1.at (k := 1) (v := .int .u64 x.lo) rfl); (have v2 := hSw.1.at (k := 2) (v := .int .u64 x.hi) rfl); (have v3 := hSw.1.at (k := 3) (v := .bool x.nl) rfl); (have y1 := hSw.2.1.at (k := 1) (v := .int .u64 ea) rfl); (have z0 := hSw.2.2.1); (have z1 := hSw.2.2.2.1); (have z2 := hSw.2.2.2.2.1); (have z3 := hSw.2.2.2.2.2); clear hSw; go_simp; try (exact wrap_b8 _); try (with_reducible rfl))
                try simp only [Act.put, List.setIfInBounds_toArray, List.set_cons_zero, List.set_cons_succ]
                refine wpAnyH_take (oi := ⟨_, _, _, _, _, _⟩) (i := 19) (v := .bool false) rfl (by kernel_rfl) (by kernel_rfl) (by kernel_rfl) (fun _ _ _ h => h) (Or.inl ⟨by rfl, ?_⟩) (by assumption) ?_
                · (intro W hSw; (have v0 := hSw.1.at (k := 0) (v := .int .i64 x.t) rfl); (have v1 := hSw.1.at (k := 1) (v := .int .u64 x.lo) rfl); (have v2 := hSw.1.at (k := 2) (v := .int .u64 x.hi) rfl); (have v3 := hSw.1.at (k := 3) (v := .bool x.nl) rfl); (have y1 := hSw.2.1.at (k := 1) (v := .int .u64 ea) rfl); (have z0 := hSw.2.2.1); (have z1 := hSw.2.2.2.1); (have z2 := hSw.2.2.2.2.1); (have z3 := hSw.2.2.2.2.2); clear hSw; go_simp; try (exact wrap_b8 _); try (with_reducible rfl))
                try simp only [Act.put, List.setIfInBounds_toArray, List.set_cons_zero, List.set_cons_succ]
                refine wpAnyH_take (oi := ⟨_, _, _, _, _, _⟩) (i := 20) (v := undef) rfl (by kernel_rfl) (by kernel_rfl) (by kernel_rfl) (fun _ _ _ h => h) (Or.inr ⟨by rfl, rfl⟩) (by assumption) ?_
                try simp only [Act.put, List.setIfInBounds_toArray, List.set_cons_zero, List.set_cons_succ]
                refine wpAnyH_take (oi := ⟨_, _, _, _, _, _⟩) (i := 21) (v := undef) rfl (by kernel_rfl) (by kernel_rfl) (by kernel_rfl) (fun _ _ _ h => h) (Or.inr ⟨by rfl, rfl⟩) (by assumption) ?_
                try simp only [Act.put, List.setIfInBounds_toArray, List.set_cons_zero, List.set_cons_succ]
                refine wpAnyH_take (oi := ⟨_, _, _, _, _, _⟩) (i := 22) (v := undef) rfl (by kernel_rfl) (by kernel_rfl) (by kernel_rfl) (fun _ _ _ h => h) (Or.inr ⟨by rfl, rfl⟩) (by assumption) ?_
                try simp only [Act.put, List.setIfInBounds_toArray, List.set_cons_zero, List.set_cons_succ]
                refine wpAnyH_take (oi := ⟨_, _, _, _, _, _⟩) (i := 23) (v := undef) rfl (by kernel_rfl) (by kernel_rfl) (by kernel_rfl) (fun _ _ _ h => h) (Or.inr ⟨by rfl, rfl⟩) (by assumption) ?_
                try simp only [Act.put, List.setIfInBounds_toArray, List.set_cons_zero, List.set_cons_succ]
                refine wpAnyH_take (oi := ⟨_, _, _, _, _, _⟩) (i := 24) (v := undef) rfl (by kernel_rfl) (by kernel_rfl) (by kernel_rfl) (fun _ _ _ h => h) (Or.inr ⟨by rfl, rfl⟩) (by assumption) ?_
                try simp only [Act.put, List.setIfInBounds_toArray, List.set_cons_zero, List.set_cons_succ]
                refine wpAnyH_take (oi := ⟨_, _, _, _, _, _⟩) (i := 25) (v := undef) rfl (by kernel_rfl) (by kernel_rfl) (by kernel_rfl) (fun _ _ _ h => h) (Or.inr ⟨by rfl, rfl⟩) (by assumption) ?_
                try simp only [Act.put, List.setIfInBounds_toArray, List.set_cons_zero, List.set_cons_succ]
                refine wpAnyH_take (oi := ⟨_, _, _, _, _, _⟩) (i := 26) (v := undef) rfl (by kernel_rfl) (by kernel_rfl) (by kernel_rfl) (fun _ _ _ h => h) (Or.inr ⟨by rfl, rfl⟩) (by assumption) ?_
                try simp only [Act.put, List.setIfInBounds_toArray, List.set_cons_zero, List.set_cons_succ]
                refine wpAnyH_take (oi := ⟨_, _, _, _, _, _⟩) (i := 27) (v := .bool false) rfl (by kernel_rfl) (by kernel_rfl) (by kernel_rfl) (fun _ _ _ h => h) (Or.inl ⟨by rfl, ?_⟩) (by assumption) ?_
                · (intro W hSw; (have v0 := hSw.1.at (k := 0) (v := .int .i64 x.t) rfl); (have v1 := hSw.1.at (k := 1) (v := .int .u64 x.lo) rfl); (have v2 := hSw.1.at (k := 2) (v := .int .u64 x.hi) rfl); (have v3 := hSw.1.at (k := 3) (v := .bool x.nl) rfl); (have y1 := hSw.2.1.at (k := 1) (v := .int .u64 ea) rfl); (have z0 := hSw.2.2.1); (have z1 := hSw.2.2.2.1); (have z2 := hSw.2.2.2.2.1); (have z3 := hSw.2.2.2.2.2); clear hSw; go_simp; try (exact wrap_b8 _); try (with_reducible rfl))
                try simp only [Act.put, List.setIfInBounds_toArray, List.set_cons_zero, List.set_cons_succ]
                refine wpAnyH_take (oi := ⟨_, _, _, _, _, _⟩) (i := 28) (v := .bool false) rfl (by kernel_rfl) (by kernel_rfl) (by kernel_rfl) (fun _ _ _ h => h) (Or.inl ⟨by rfl, ?_⟩) (by assumption) ?_
                · (intro W hSw; (have v0 := hSw.1.at (k := 0) (v := .int .i64 x.t) rfl); (have v1 := hSw.1.at (k := 1) (v := .int .u64 x.lo) rfl); (have v2 := hSw.1.at (k := 2) (v := .int .u64 x.hi) rfl); (have v3 := hSw.1.at (k := 3) (v := .bool x.nl) rfl); (have y1 := hSw.2.1.at (k := 1) (v := .int .u64 ea) rfl); (have z0 := hSw.2.2.1); (have z1 := hSw.2.2.2.1); (have z2 := hSw.2.2.2.2.1); (have z3 := hSw.2.2.2.2.2); clear hSw; go_simp; try (exact wrap_b8 _); try (with_reducible rfl))
                try simp only [Act.put, List.setIfInBounds_toArray, List.set_cons_zero, List.set_cons_succ]
                refine wpAnyH_done (by kernel_rfl) ?_ _
                clear hS
                go_wp2
                go_meet
                exact ⟨N, l, pm, (some ⟨g, o9, none⟩), cm, cw, _, rfl, rfl, rfl, HK, HZ⟩
              · have PG : Hid (Calls Try.prog 25 #[.pointer (some ⟨gm, 0, none⟩), .int .u64 ea] wa fun e w' => e = .returned (.tuple #[.agg #[.int .i64 0, .int .u64 0, .int .u64 0, .bool false], .int .i64 45]) ∧ Below wa.heap.size wa w') := get_t_no w.heap.size gm 112 mn mx has pm N cm ea (cellsV l) wa HTA.out.tm HEA.out (by omega)
                clear hNK hN62
                go_upto_region 48 with (go_at_call 25; (with_reducible refine PG.out.mono ?_); rintro e wb ⟨rfl, hb⟩; have HBB := hid hb; clear hb)
                have HVB := hid (CA.new wb #[.int .i64 0, .int .u64 0, .int .u64 0, .bool false] 32)
                have hbz := HBB.out.trans (((Below.refl wb.heap.size wb).alloc (Nat.le_refl _) (.cells #[.int .i64 0, .int .u64 0, .int .u64 0, .bool false] 32)).mono HBB.out.size)
                have HZ0 := hid (HTA.out.below hbz)
                have HXC := hid (HXB.out.below hbz HXB.out.lt)
                clear hbz PG y0 y1 y2 y3 y6 y7 y8 y9
                generalize wb.alloc (.cells #[.int .i64 0, .int .u64 0, .int .u64 0, .bool false] 32) = wc at *
                generalize wb.heap.size = gv at *
                have y1 := HXC.out.at (k := 1) (v := .int .u64 ea) rfl
                go_upto_region 49 with fail
                clear y1
                have HZ := hid HZ0.out.drew
                have y1 : wc.drew.cell? ⟨ga, 1, none⟩ = some (.int .u64 ea) := HXC.out.at (k := 1) rfl
                have v0 : wc.drew.cell? ⟨gv, 0, none⟩ = some (.int .i64 0) := HVB.out.at (k := 0) rfl
                have v1 : wc.drew.cell? ⟨gv, 1, none⟩ = some (.int .u64 0) := HVB.out.at (k := 1) rfl
                have v2 : wc.drew.cell? ⟨gv, 2, none⟩ = some (.int .u64 0) := HVB.out.at (k := 2) rfl
                have v3 : wc.drew.cell? ⟨gv, 3, none⟩ = some (.bool false) := HVB.out.at (k := 3) rfl
                have hS : CA gv #[.int .i64 0, .int .u64 0, .int .u64 0, .bool false] 32 wc.drew ∧ CA ga #[.int .i64 ek, .int .u64 ea, .int .u64 eb, .int .u64 en, .int .u8 ec, .slice ep em ed, .int .i64 x0, .int .u64 x1, .int .u64 x2, .bool x3] 34 wc.drew := ⟨HVB.out, HXC.out⟩
                refine wp_region_held_drew (S := fun W => CA gv #[.int .i64 0, .int .u64 0, .int .u64 0, .bool false] 32 W ∧ CA ga #[.int .i64 ek, .int .u64 ea, .int .u64 eb, .int .u64 en, .int .u8 ec, .slice ep em ed, .int .i64 x0, .int .u64 x1, .int .u64 x2, .bool x3] 34 W) (by kernel_rfl) hS (fun _ => ?_)
                clear HVB HXC HZ0 HXB HTA y1 v0 v1 v2 v3
                clear hwu
                generalize wc.drew = W at *
                refine wpAnyH_take (oi := ⟨_, _, _, _, _, _⟩) (i := 0) (v := .bool false) rfl (by kernel_rfl) (by kernel_rfl) (by kernel_rfl) (fun _ _ _ h => h) (Or.inl ⟨by rfl, ?_⟩) (by assumption) ?_
                · (intro W hSw; (have v0 := hSw.1.at (k := 0) (v := .int .i64 0) rfl); (have v1 := hSw.1.at (k := 1) (v := .int .u64 0) rfl); (have v2 := hSw.1.at (k := 2) (v := .int .u64 0) rfl); (have v3 := hSw.1.at (k := 3) (v := .bool false) rfl); (have y1 := hSw.2.at (k := 1) (v := .int .u64 ea) rfl); clear hSw; go_simp; try (exact wrap_b8 _); try (with_reducible rfl))
                try simp only [Act.put, List.setIfInBounds_toArray, List.set_cons_zero, List.set_cons_succ]
                refine wpAnyH_take (oi := ⟨_, _, _, _, _, _⟩) (i := 1) (v := .int .i64 45) rfl (by kernel_rfl) (by kernel_rfl) (by kernel_rfl) (fun _ _ _ h => h) (Or.inl ⟨by rfl, ?_⟩) (by assumption) ?_
                · (intro W hSw; (have v0 := hSw.1.at (k := 0) (v := .int .i64 0) rfl); (have v1 := hSw.1.at (k := 1) (v := .int .u64 0) rfl); (have v2 := hSw.1.at (k := 2) (v := .int .u64 0) rfl); (have v3 := hSw.1.at (k := 3) (v := .bool false) rfl); (have y1 := hSw.2.at (k := 1) (v := .int .u64 ea) rfl); clear hSw; go_simp; try (exact wrap_b8 _); try (with_reducible rfl))
                try simp only [Act.put, List.setIfInBounds_toArray, List.set_cons_zero, List.set_cons_succ]
                refine wpAnyH_take (oi := ⟨_, _, _, _, _, _⟩) (i := 2) (v := .bool false) rfl (by kernel_rfl) (by kernel_rfl) (by kernel_rfl) (fun _ _ _ h => h) (Or.inl ⟨by rfl, ?_⟩) (by assumption) ?_
                · (intro W hSw; (have v0 := hSw.1.at (k := 0) (v := .int .i64 0) rfl); (have v1 := hSw.1.at (k := 1) (v := .int .u64 0) rfl); (have v2 := hSw.1.at (k := 2) (v := .int .u64 0) rfl); (have v3 := hSw.1.at (k := 3) (v := .bool false) rfl); (have y1 := hSw.2.at (k := 1) (v := .int .u64 ea) rfl); clear hSw; go_simp; try (exact wrap_b8 _); try (with_reducible rfl))
                try simp only [Act.put, List.setIfInBounds_toArray, List.set_cons_zero, List.set_cons_succ]
                refine wpAnyH_take (oi := ⟨_, _, _, _, _, _⟩) (i := 3) (v := .bool false) rfl (by kernel_rfl) (by kernel_rfl) (by kernel_rfl) (fun _ _ _ h => h) (Or.inl ⟨by rfl, ?_⟩) (by assumption) ?_
                · (intro W hSw; (have v0 := hSw.1.at (k := 0) (v := .int .i64 0) rfl); (have v1 := hSw.1.at (k := 1) (v := .int .u64 0) rfl); (have v2 := hSw.1.at (k := 2) (v := .int .u64 0) rfl); (have v3 := hSw.1.at (k := 3) (v := .bool false) rfl); (have y1 := hSw.2.at (k := 1) (v := .int .u64 ea) rfl); clear hSw; go_simp; try (exact wrap_b8 _); try (with_reducible rfl))
                try simp only [Act.put, List.setIfInBounds_toArray, List.set_cons_zero, List.set_cons_succ]
                refine wpAnyH_take (oi := ⟨_, _, _, _, _, _⟩) (i := 4) (v := .bool false) rfl (by kernel_rfl) (by kernel_rfl) (by kernel_rfl) (fun _ _ _ h => h) (Or.inl ⟨by rfl, ?_⟩) (by assumption) ?_
                · (intro W hSw; (have v0 := hSw.1.at (k := 0) (v := .int .i64 0) rfl); (have v1 := hSw.1.at (k := 1) (v := .int .u64 0) rfl); (have v2 := hSw.1.at (k := 2) (v := .int .u64 0) rfl); (have v3 := hSw.1.at (k := 3) (v := .bool false) rfl); (have y1 := hSw.2.at (k := 1) (v := .int .u64 ea) rfl); clear hSw; go_simp; try (exact wrap_b8 _); try (with_reducible rfl))
                try simp only [Act.put, List.setIfInBounds_toArray, List.set_cons_zero, List.set_cons_succ]
                refine wpAnyH_take (oi := ⟨_, _, _, _, _, _⟩) (i := 5) (v := .bool false) rfl (by kernel_rfl) (by kernel_rfl) (by kernel_rfl) (fun _ _ _ h => h) (Or.inl ⟨by rfl, ?_⟩) (by assumption) ?_
                · (intro W hSw; (have v0 := hSw.1.at (k := 0) (v := .int .i64 0) rfl); (have v1 := hSw.1.at (k := 1) (v := .int .u64 0) rfl); (have v2 := hSw.1.at (k := 2) (v := .int .u64 0) rfl); (have v3 := hSw.1.at (k := 3) (v := .bool false) rfl); (have y1 := hSw.2.at (k := 1) (v := .int .u64 ea) rfl); clear hSw; go_simp; try (exact wrap_b8 _); try (with_reducible rfl))
                try simp only [Act.put, List.setIfInBounds_toArray, List.set_cons_zero, List.set_cons_succ]
                refine wpAnyH_take (oi := ⟨_, _, _, _, _, _⟩) (i := 6) (v := .bool false) rfl (by kernel_rfl) (by kernel_rfl) (by kernel_rfl) (fun _ _ _ h => h) (Or.inl ⟨by rfl, ?_⟩) (by assumption) ?_
                · (intro W hSw; (have v0 := hSw.1.at (k := 0) (v := .int .i64 0) rfl); (have v1 := hSw.1.at (k := 1) (v := .int .u64 0) rfl); (have v2 := hSw.1.at (k := 2) (v := .int .u64 0) rfl); (have v3 := hSw.1.at (k := 3) (v := .bool false) rfl); (have y1 := hSw.2.at (k := 1) (v := .int .u64 ea) rfl); clear hSw; go_simp; try (exact wrap_b8 _); try (with_reducible rfl))
                try simp only [Act.put, List.setIfInBounds_toArray, List.set_cons_zero, List.set_cons_succ]
                refine wpAnyH_take (oi := ⟨_, _, _, _, _, _⟩) (i := 7) (v := undef) rfl (by kernel_rfl) (by kernel_rfl) (by kernel_rfl) (fun _ _ _ h => h) (Or.inr ⟨by rfl, rfl⟩) (by assumption) ?_
                try simp only [Act.put, List.setIfInBounds_toArray, List.set_cons_zero, List.set_cons_succ]
                refine wpAnyH_take (oi := ⟨_, _, _, _, _, _⟩) (i := 8) (v := undef) rfl (by kernel_rfl) (by kernel_rfl) (by kernel_rfl) (fun _ _ _ h => h) (Or.inr ⟨by rfl, rfl⟩) (by assumption) ?_
                try simp only [Act.put, List.setIfInBounds_toArray, List.set_cons_zero, List.set_cons_succ]
                refine wpAnyH_take (oi := ⟨_, _, _, _, _, _⟩) (i := 9) (v := undef) rfl (by kernel_rfl) (by kernel_rfl) (by kernel_rfl) (fun _ _ _ h => h) (Or.inr ⟨by rfl, rfl⟩) (by assumption) ?_
                try simp only [Act.put, List.setIfInBounds_toArray, List.set_cons_zero, List.set_cons_succ]
                refine wpAnyH_take (oi := ⟨_, _, _, _, _, _⟩) (i := 10) (v := undef) rfl (by kernel_rfl) (by kernel_rfl) (by kernel_rfl) (fun _ _ _ h => h) (Or.inr ⟨by rfl, rfl⟩) (by assumption) ?_
                try simp only [Act.put, List.setIfInBounds_toArray, List.set_cons_zero, List.set_cons_succ]
                refine wpAnyH_take (oi := ⟨_, _, _, _, _, _⟩) (i := 11) (v := undef) rfl (by kernel_rfl) (by kernel_rfl) (by kernel_rfl) (fun _ _ _ h => h) (Or.inr ⟨by rfl, rfl⟩) (by assumption) ?_
                try simp only [Act.put, List.setIfInBounds_toArray, List.set_cons_zero, List.set_cons_succ]
                refine wpAnyH_take (oi := ⟨_, _, _, _, _, _⟩) (i := 12) (v := undef) rfl (by kernel_rfl) (by kernel_rfl) (by kernel_rfl) (fun _ _ _ h => h) (Or.inr ⟨by rfl, rfl⟩) (by assumption) ?_
                try simp only [Act.put, List.setIfInBounds_toArray, List.set_cons_zero, List.set_cons_succ]
                refine wpAnyH_take (oi := ⟨_, _, _, _, _, _⟩) (i := 13) (v := undef) rfl (by kernel_rfl) (by kernel_rfl) (by kernel_rfl) (fun _ _ _ h => h) (Or.inr ⟨by rfl, rfl⟩) (by assumption) ?_
                try simp only [Act.put, List.setIfInBounds_toArray, List.set_cons_zero, List.set_cons_succ]
                refine wpAnyH_take (oi := ⟨_, _, _, _, _, _⟩) (i := 14) (v := .bool false) rfl (by kernel_rfl) (by kernel_rfl) (by kernel_rfl) (fun _ _ _ h => h) (Or.inl ⟨by rfl, ?_⟩) (by assumption) ?_
                · (intro W hSw; (have v0 := hSw.1.at (k := 0) (v := .int .i64 0) rfl); (have v1 := hSw.1.at (k := 1) (v := .int .u64 0) rfl); (have v2 := hSw.1.at (k := 2) (v := .int .u64 0) rfl); (have v3 := hSw.1.at (k := 3) (v := .bool false) rfl); (have y1 := hSw.2.at (k := 1) (v := .int .u64 ea) rfl); clear hSw; go_simp; try (exact wrap_b8 _); try (with_reducible rfl))
                try simp only [Act.put, List.setIfInBounds_toArray, List.set_cons_zero, List.set_cons_succ]
                refine wpAnyH_take (oi := ⟨_, _, _, _, _, _⟩) (i := 15) (v := .bool false) rfl (by kernel_rfl) (by kernel_rfl) (by kernel_rfl) (fun _ _ _ h => h) (Or.inl ⟨by rfl, ?_⟩) (by assumption) ?_
                · (intro W hSw; (have v0 := hSw.1.at (k := 0) (v := .int .i64 0) rfl); (have v1 := hSw.1.at (k := 1) (v := .int .u64 0) rfl); (have v2 := hSw.1.at (k := 2) (v := .int .u64 0) rfl); (have v3 := hSw.1.at (k := 3) (v := .bool false) rfl); (have y1 := hSw.2.at (k := 1) (v := .int .u64 ea) rfl); clear hSw; go_simp; try (exact wrap_b8 _); try (with_reducible rfl))
                try simp only [Act.put, List.setIfInBounds_toArray, List.set_cons_zero, List.set_cons_succ]
                refine wpAnyH_take (oi := ⟨_, _, _, _, _, _⟩) (i := 16) (v := .bool false) rfl (by kernel_rfl) (by kernel_rfl) (by kernel_rfl) (fun _ _ _ h => h) (Or.inl ⟨by rfl, ?_⟩) (by assumption) ?_
                · (intro W hSw; (have v0 := hSw.1.at (k := 0) (v := .int .i64 0) rfl); (have v1 := hSw.1.at (k := 1) (v := .int .u64 0) rfl); (have v2 := hSw.1.at (k := 2) (v := .int .u64 0) rfl); (have v3 := hSw.1.at (k := 3) (v := .bool false) rfl); (have y1 := hSw.2.at (k := 1) (v := .int .u64 ea) rfl); clear hSw; go_simp; try (exact wrap_b8 _); try (with_reducible rfl))
                try simp only [Act.put, List.setIfInBounds_toArray, List.set_cons_zero, List.set_cons_succ]
                refine wpAnyH_take (oi := ⟨_, _, _, _, _, _⟩) (i := 17) (v := .bool false) rfl (by kernel_rfl) (by kernel_rfl) (by kernel_rfl) (fun _ _ _ h => h) (Or.inl ⟨by rfl, ?_⟩) (by assumption) ?_
                · (intro W hSw; (have v0 := hSw.1.at (k := 0) (v := .int .i64 0) rfl); (have v1 := hSw.1.at (k := 1) (v := .int .u64 0) rfl); (have v2 := hSw.1.at (k := 2) (v := .int .u64 0) rfl); (have v3 := hSw.1.at (k := 3) (v := .bool false) rfl); (have y1 := hSw.2.at (k := 1) (v := .int .u64 ea) rfl); clear hSw; go_simp; try (exact wrap_b8 _); try (with_reducible rfl))
                try simp only [Act.put, List.setIfInBounds_toArray, List.set_cons_zero, List.set_cons_succ]
                refine wpAnyH_take (oi := ⟨_, _, _, _, _, _⟩) (i := 18) (v := .bool true) rfl (by kernel_rfl) (by kernel_rfl) (by kernel_rfl) (fun _ _ _ h => h) (Or.inl ⟨by rfl, ?_⟩) (by assumption) ?_
                · (intro W hSw; (have v0 := hSw.1.at (k := 0) (v := .int .i64 0) rfl); (have v1 := hSw.1.at (k := 1) (v := .int .u64 0) rfl); (have v2 := hSw.1.at (k := 2) (v := .int .u64 0) rfl); (have v3 := hSw.1.at (k := 3) (v := .bool false) rfl); (have y1 := hSw.2.at (k := 1) (v := .int .u64 ea) rfl); clear hSw; go_simp; try (exact wrap_b8 _); try (with_reducible rfl))
                try simp only [Act.put, List.setIfInBounds_toArray, List.set_cons_zero, List.set_cons_succ]
                refine wpAnyH_take (oi := ⟨_, _, _, _, _, _⟩) (i := 19) (v := .bool true) rfl (by kernel_rfl) (by kernel_rfl) (by kernel_rfl) (fun _ _ _ h => h) (Or.inl ⟨by rfl, ?_⟩) (by assumption) ?_
                · (intro W hSw; (have v0 := hSw.1.at (k := 0) (v := .int .i64 0) rfl); (have v1 := hSw.1.at (k := 1) (v := .int .u64 0) rfl); (have v2 := hSw.1.at (k := 2) (v := .int .u64 0) rfl); (have v3 := hSw.1.at (k := 3) (v := .bool false) rfl); (have y1 := hSw.2.at (k := 1) (v := .int .u64 ea) rfl); clear hSw; go_simp; try (exact wrap_b8 _); try (with_reducible rfl))
                try simp only [Act.put, List.setIfInBounds_toArray, List.set_cons_zero, List.set_cons_succ]
                refine wpAnyH_take (oi := ⟨_, _, _, _, _, _⟩) (i := 20) (v := .int .i64 45) rfl (by kernel_rfl) (by kernel_rfl) (by kernel_rfl) (fun _ _ _ h => h) (Or.inl ⟨by rfl, ?_⟩) (by assumption) ?_
                · (intro W hSw; (have v0 := hSw.1.at (k := 0) (v := .int .i64 0) rfl); (have v1 := hSw.1.at (k := 1) (v := .int .u64 0) rfl); (have v2 := hSw.1.at (k := 2) (v := .int .u64 0) rfl); (have v3 := hSw.1.at (k := 3) (v := .bool false) rfl); (have y1 := hSw.2.at (k := 1) (v := .int .u64 ea) rfl); clear hSw; go_simp; try (exact wrap_b8 _); try (with_reducible rfl))
                try simp only [Act.put, List.setIfInBounds_toArray, List.set_cons_zero, List.set_cons_succ]
                refine wpAnyH_take (oi := ⟨_, _, _, _, _, _⟩) (i := 21) (v := .bool false) rfl (by kernel_rfl) (by kernel_rfl) (by kernel_rfl) (fun _ _ _ h => h) (Or.inl ⟨by rfl, ?_⟩) (by assumption) ?_
                · (intro W hSw; (have v0 := hSw.1.at (k := 0) (v := .int .i64 0) rfl); (have v1 := hSw.1.at (k := 1) (v := .int .u64 0) rfl); (have v2 := hSw.1.at (k := 2) (v := .int .u64 0) rfl); (have v3 := hSw.1.at (k := 3) (v := .bool false) rfl); (have y1 := hSw.2.at (k := 1) (v := .int .u64 ea) rfl); clear hSw; go_simp; try (exact wrap_b8 _); try (with_reducible rfl))
                try simp only [Act.put, List.setIfInBounds_toArray, List.set_cons_zero, List.set_cons_succ]
                refine wpAnyH_take (oi := ⟨_, _, _, _, _, _⟩) (i := 22) (v := .bool false) rfl (by kernel_rfl) (by kernel_rfl) (by kernel_rfl) (fun _ _ _ h => h) (Or.inl ⟨by rfl, ?_⟩) (by assumption) ?_
                · (intro W hSw; (have v0 := hSw.1.at (k := 0) (v := .int .i64 0) rfl); (have v1 := hSw.1.at (k := 1) (v := .int .u64 0) rfl); (have v2 := hSw.1.at (k := 2) (v := .int .u64 0) rfl); (have v3 := hSw.1.at (k := 3) (v := .bool false) rfl); (have y1 := hSw.2.at (k := 1) (v := .int .u64 ea) rfl); clear hSw; go_simp; try (exact wrap_b8 _); try (with_reducible rfl))
                try simp only [Act.put, List.setIfInBounds_toArray, List.set_cons_zero, List.set_cons_succ]
                refine wpAnyH_take (oi := ⟨_, _, _, _, _, _⟩) (i := 23) (v := .agg #[.int .i64 0, .int .u64 0, .int .u64 0, .bool false]) rfl (by kernel_rfl) (by kernel_rfl) (by kernel_rfl) (fun _ _ _ h => h) (Or.inl ⟨by rfl, ?_⟩) (by assumption) ?_
                · (intro W hSw; (have v0 := hSw.1.at (k := 0) (v := .int .i64 0) rfl); (have v1 := hSw.1.at (k := 1) (v := .int .u64 0) rfl); (have v2 := hSw.1.at (k := 2) (v := .int .u64 0) rfl); (have v3 := hSw.1.at (k := 3) (v := .bool false) rfl); (have y1 := hSw.2.at (k := 1) (v := .int .u64 ea) rfl); clear hSw; go_simp; try (exact wrap_b8 _); try (with_reducible rfl))
                try simp only [Act.put, List.setIfInBounds_toArray, List.set_cons_zero, List.set_cons_succ]
                refine wpAnyH_take (oi := ⟨_, _, _, _, _, _⟩) (i := 24) (v := .agg #[.int .i64 0, .int .u64 0, .int .u64 0, .bool false]) rfl (by kernel_rfl) (by kernel_rfl) (by kernel_rfl) (fun _ _ _ h => h) (Or.inl ⟨by rfl, ?_⟩) (by assumption) ?_
                · (intro W hSw; (have v0 := hSw.1.at (k := 0) (v := .int .i64 0) rfl); (have v1 := hSw.1.at (k := 1) (v := .int .u64 0) rfl); (have v2 := hSw.1.at (k := 2) (v := .int .u64 0) rfl); (have v3 := hSw.1.at (k := 3) (v := .bool false) rfl); (have y1 := hSw.2.at (k := 1) (v := .int .u64 ea) rfl); clear hSw; go_simp; try (exact wrap_b8 _); try (with_reducible rfl))
                try simp only [Act.put, List.setIfInBounds_toArray, List.set_cons_zero, List.set_cons_succ]
                refine wpAnyH_take (oi := ⟨_, _, _, _, _, _⟩) (i := 25) (v := .bool false) rfl (by kernel_rfl) (by kernel_rfl) (by kernel_rfl) (fun _ _ _ h => h) (Or.inl ⟨by rfl, ?_⟩) (by assumption) ?_
                · (intro W hSw; (have v0 := hSw.1.at (k := 0) (v := .int .i64 0) rfl); (have v1 := hSw.1.at (k := 1) (v := .int .u64 0) rfl); (have v2 := hSw.1.at (k := 2) (v := .int .u64 0) rfl); (have v3 := hSw.1.at (k := 3) (v := .bool false) rfl); (have y1 := hSw.2.at (k := 1) (v := .int .u64 ea) rfl); clear hSw; go_simp; try (exact wrap_b8 _); try (with_reducible rfl))
                try simp only [Act.put, List.setIfInBounds_toArray, List.set_cons_zero, List.set_cons_succ]
                refine wpAnyH_take (oi := ⟨_, _, _, _, _, _⟩) (i := 26) (v := .bool false) rfl (by kernel_rfl) (by kernel_rfl) (by kernel_rfl) (fun _ _ _ h => h) (Or.inl ⟨by rfl, ?_⟩) (by assumption) ?_
                · (intro W hSw; (have v0 := hSw.1.at (k := 0) (v := .int .i64 0) rfl); (have v1 := hSw.1.at (k := 1) (v := .int .u64 0) rfl); (have v2 := hSw.1.at (k := 2) (v := .int .u64 0) rfl); (have v3 := hSw.1.at (k := 3) (v := .bool false) rfl); (have y1 := hSw.2.at (k := 1) (v := .int .u64 ea) rfl); clear hSw; go_simp; try (exact wrap_b8 _); try (with_reducible rfl))
                try simp only [Act.put, List.setIfInBounds_toArray, List.set_cons_zero, List.set_cons_succ]
                refine wpAnyH_take (oi := ⟨_, _, _, _, _, _⟩) (i := 27) (v := .bool false) rfl (by kernel_rfl) (by kernel_rfl) (by kernel_rfl) (fun _ _ _ h => h) (Or.inl ⟨by rfl, ?_⟩) (by assumption) ?_
                · (intro W hSw; (have v0 := hSw.1.at (k := 0) (v := .int .i64 0) rfl); (have v1 := hSw.1.at (k := 1) (v := .int .u64 0) rfl); (have v2 := hSw.1.at (k := 2) (v := .int .u64 0) rfl); (have v3 := hSw.1.at (k := 3) (v := .bool false) rfl); (have y1 := hSw.2.at (k := 1) (v := .int .u64 ea) rfl); clear hSw; go_simp; try (exact wrap_b8 _); try (with_reducible rfl))
                try simp only [Act.put, List.setIfInBounds_toArray, List.set_cons_zero, List.set_cons_succ]
                refine wpAnyH_take (oi := ⟨_, _, _, _, _, _⟩) (i := 28) (v := .bool false) rfl (by kernel_rfl) (by kernel_rfl) (by kernel_rfl) (fun _ _ _ h => h) (Or.inl ⟨by rfl, ?_⟩) (by assumption) ?_
                · (intro W hSw; (have v0 := hSw.1.at (k := 0) (v := .int .i64 0) rfl); (have v1 := hSw.1.at (k := 1) (v := .int .u64 0) rfl); (have v2 := hSw.1.at (k := 2) (v := .int .u64 0) rfl); (have v3 := hSw.1.at (k := 3) (v := .bool false) rfl); (have y1 := hSw.2.at (k := 1) (v := .int .u64 ea) rfl); clear hSw; go_simp; try (exact wrap_b8 _); try (with_reducible rfl))
                try simp only [Act.put, List.setIfInBounds_toArray, List.set_cons_zero, List.set_cons_succ]
                refine wpAnyH_done (by kernel_rfl) ?_ _
                clear hS
                go_wp2
                go_meet
                exact ⟨N, l, pm, pw, cm, cw, _, rfl, rfl, rfl, HK, HZ⟩
           · as_aux_lemma =>
              have e0 : (r == 0) = false := by simp [hr0]
              have e1 : (r == 1) = false := by simp [hr1]
              have e2 : (r == 2) = false := by simp [hr2]
              have e3 : (r == 3) = false := by simp [hr3]
              have e4 : (r == 4) = false := by simp [hr4]
              have e5 : (r == 5) = false := by simp [hr5]
              clear hr0 hr1 hr2 hr3 hr4 hr5
              rcases (show en ≤ 200 ∨ (200 < en ∧ en < 1000000) ∨ (200 < en ∧ ¬ en < 1000000) by omega) with h200 | ⟨h200, h1m⟩ | ⟨h200, h1m⟩
              · have ht : ¬ (200 : Int) < (en : Int) := by omega
                clear h200
                obtain ⟨ok, hok⟩ : ∃ ok, roomB N en 10000 mx has = ok := ⟨_, rfl⟩
                obtain ⟨N2, hN2⟩ : ∃ N2, N2 = gN ok N (N + en) := ⟨_, rfl⟩
                obtain ⟨lz, hlz⟩ : ∃ lz, lz = gX ok l (List.replicate en (⟨x0, x1, x2, x3⟩ : V4)) := ⟨_, rfl⟩
                obtain ⟨EG, hEG⟩ : ∃ EG, EG = gE ok N := ⟨_, rfl⟩
                have HKF : Hid (N2 ≤ 10000) := by
                  show N2 ≤ 10000
                  rw [hN2]
                  cases ok with
                  | false => exact HK.out
                  | true =>
                    have h : (N : Int) + (en : Nat) ≤ limI 10000 mx has := by simpa [roomB] using hok
                    have h9 : limI 10000 mx has ≤ 10000 := by unfold limI; split <;> (try split) <;> omega
                    show N + en ≤ 10000
                    omega
                have P1 : Hid (Calls Try.prog 26 #[.pointer (some ⟨gm, 0, none⟩), .int .u64 en, .agg #[.int .i64 x0, .int .u64 x1, .int .u64 x2, .bool x3]] wa fun e w' => ∃ p' c', e = .returned (.int .i64 EG) ∧ ST w gm gx mn mx has px n2 cx l2 p' pw N2 c' N cw lz l w' ∧ KP (some gm) wa w') := HTA.out.pgrow en ⟨x0, x1, x2, x3⟩ HK.out HEN.out HX.out.1 HX.out.2 ok hok N2 hN2 lz hlz EG hEG
                have P2 : ∀ W p' c', ST w gm gx mn mx has px n2 cx l2 p' pw N2 c' N cw lz l W → Hid (Calls Try.prog 27 #[.slice pw N cw, .agg #[.int .i64 mn, .int .i64 mx, .bool has], .int .u64 en, .agg #[.int .i64 x0, .int .u64 x1, .int .u64 x2, .bool x3]] W fun e w' => ∃ pz cz, e = .returned (.tuple #[.slice pz N2 cz, .int .i64 EG]) ∧ ST w gm gx mn mx has px n2 cx l2 p' pz N2 c' N2 cz lz lz w' ∧ Below W.heap.size W w') := fun W p' c' h => h.rgrow en ⟨x0, x1, x2, x3⟩ HK.out HEN.out HX.out.1 HX.out.2 ok hok N2 hN2 lz hlz EG hEG
                clear hok hN2 hlz hEG
                go_wp2_with (first
                  | (go_at_call 26; (with_reducible refine P1.out.mono ?_); rintro e wb ⟨pk, ck, rfl, hm, hk⟩; have HTB := hid hm; have hx := HXB.out.keep hk (by intro e; cases e; exact HGX.out.1 rfl); have y6 := hx.at (k := 6) (v := .int .i64 x0) rfl; have y7 := hx.at (k := 7) (v := .int .u64 x1) rfl; have y8 := hx.at (k := 8) (v := .int .u64 x2) rfl; have y9 := hx.at (k := 9) (v := .bool x3) rfl; have l0 := HTB.out.bl.at (k := 0) (v := .int .i64 mn) rfl; have l1 := HTB.out.bl.at (k := 1) (v := .int .i64 mx) rfl; have l2' := HTB.out.bl.at (k := 2) (v := .bool has) rfl; clear hm hk hx)
                  | (go_at_call 27; (with_reducible refine (P2 wb pk ck HTB.out).out.mono ?_); rintro e wc ⟨pz, cz, rfl, hs, hb⟩; have HZ := hid hs; clear hs hb))
                clear HTB P1 P2 y0 y1 y2 y3 y6 y7 y8 y9
                go_meet
                exact ⟨N2, lz, pk, pz, ck, cz, _, rfl, rfl, rfl, HKF, HZ⟩
              · have ht : (200 : Int) < (en : Int) := by omega
                have ht2 : (en : Int) < 1000000 := by omega
                obtain ⟨em2, hem2⟩ : ∃ k : Nat, k = en % 200 := ⟨_, rfl⟩
                have hmod : (en : Int) % 200 = (em2 : Int) := by omega
                have HM2 : Hid (em2 < 18446744073709551616) := by show _ < _; omega
                clear h200 h1m hem2
                obtain ⟨ok, hok⟩ : ∃ ok, roomB N em2 10000 mx has = ok := ⟨_, rfl⟩
                obtain ⟨N2, hN2⟩ : ∃ N2, N2 = gN ok N (N + em2) := ⟨_, rfl⟩
                obtain ⟨lz, hlz⟩ : ∃ lz, lz = gX ok l (List.replicate em2 (⟨x0, x1, x2, x3⟩ : V4)) := ⟨_, rfl⟩
                obtain ⟨EG, hEG⟩ : ∃ EG, EG = gE ok N := ⟨_, rfl⟩
                have HKF : Hid (N2 ≤ 10000) := by
                  show N2 ≤ 10000
                  rw [hN2]
                  cases ok with
                  | false => exact HK.out
                  | true =>
                    have h : (N : Int) + (em2 : Nat) ≤ limI 10000 mx has := by simpa [roomB] using hok
                    have h9 : limI 10000 mx has ≤ 10000 := by unfold limI; split <;> (try split) <;> omega
                    show N + em2 ≤ 10000
                    omega
                have P1 : Hid (Calls Try.prog 26 #[.pointer (some ⟨gm, 0, none⟩), .int .u64 em2, .agg #[.int .i64 x0, .int .u64 x1, .int .u64 x2, .bool x3]] wa fun e w' => ∃ p' c', e = .returned (.int .i64 EG) ∧ ST w gm gx mn mx has px n2 cx l2 p' pw N2 c' N cw lz l w' ∧ KP (some gm) wa w') := HTA.out.pgrow em2 ⟨x0, x1, x2, x3⟩ HK.out HM2.out HX.out.1 HX.out.2 ok hok N2 hN2 lz hlz EG hEG
                have P2 : ∀ W p' c', ST w gm gx mn mx has px n2 cx l2 p' pw N2 c' N cw lz l W → Hid (Calls Try.prog 27 #[.slice pw N cw, .agg #[.int .i64 mn, .int .i64 mx, .bool has], .int .u64 em2, .agg #[.int .i64 x0, .int .u64 x1, .int .u64 x2, .bool x3]] W fun e w' => ∃ pz cz, e = .returned (.tuple #[.slice pz N2 cz, .int .i64 EG]) ∧ ST w gm gx mn mx has px n2 cx l2 p' pz N2 c' N2 cz lz lz w' ∧ Below W.heap.size W w') := fun W p' c' h => h.rgrow em2 ⟨x0, x1, x2, x3⟩ HK.out HM2.out HX.out.1 HX.out.2 ok hok N2 hN2 lz hlz EG hEG
                clear hok hN2 hlz hEG
                go_wp2_with (first
                  | (go_at_call 26; (with_reducible refine P1.out.mono ?_); rintro e wb ⟨pk, ck, rfl, hm, hk⟩; have HTB := hid hm; have hx := HXB.out.keep hk (by intro e; cases e; exact HGX.out.1 rfl); have y6 := hx.at (k := 6) (v := .int .i64 x0) rfl; have y7 := hx.at (k := 7) (v := .int .u64 x1) rfl; have y8 := hx.at (k := 8) (v := .int .u64 x2) rfl; have y9 := hx.at (k := 9) (v := .bool x3) rfl; have l0 := HTB.out.bl.at (k := 0) (v := .int .i64 mn) rfl; have l1 := HTB.out.bl.at (k := 1) (v := .int .i64 mx) rfl; have l2' := HTB.out.bl.at (k := 2) (v := .bool has) rfl; clear hm hk hx)
                  | (go_at_call 27; (with_reducible refine (P2 wb pk ck HTB.out).out.mono ?_); rintro e wc ⟨pz, cz, rfl, hs, hb⟩; have HZ := hid hs; clear hs hb))
                clear HTB P1 P2 y0 y1 y2 y3 y6 y7 y8 y9
                go_meet
                exact ⟨N2, lz, pk, pz, ck, cz, _, rfl, rfl, rfl, HKF, HZ⟩
              · have ht : (200 : Int) < (en : Int) := by omega
                have ht2 : ¬ (en : Int) < 1000000 := by omega
                clear h200 h1m
                obtain ⟨ok, hok⟩ : ∃ ok, roomB N en 10000 mx has = ok := ⟨_, rfl⟩
                obtain ⟨N2, hN2⟩ : ∃ N2, N2 = gN ok N (N + en) := ⟨_, rfl⟩
                obtain ⟨lz, hlz⟩ : ∃ lz, lz = gX ok l (List.replicate en (⟨x0, x1, x2, x3⟩ : V4)) := ⟨_, rfl⟩
                obtain ⟨EG, hEG⟩ : ∃ EG, EG = gE ok N := ⟨_, rfl⟩
                have HKF : Hid (N2 ≤ 10000) := by
                  show N2 ≤ 10000
                  rw [hN2]
                  cases ok with
                  | false => exact HK.out
                  | true =>
                    have h : (N : Int) + (en : Nat) ≤ limI 10000 mx has := by simpa [roomB] using hok
                    have h9 : limI 10000 mx has ≤ 10000 := by unfold limI; split <;> (try split) <;> omega
                    show N + en ≤ 10000
                    omega
                have P1 : Hid (Calls Try.prog 26 #[.pointer (some ⟨gm, 0, none⟩), .int .u64 en, .agg #[.int .i64 x0, .int .u64 x1, .int .u64 x2, .bool x3]] wa fun e w' => ∃ p' c', e = .returned (.int .i64 EG) ∧ ST w gm gx mn mx has px n2 cx l2 p' pw N2 c' N cw lz l w' ∧ KP (some gm) wa w') := HTA.out.pgrow en ⟨x0, x1, x2, x3⟩ HK.out HEN.out HX.out.1 HX.out.2 ok hok N2 hN2 lz hlz EG hEG
                have P2 : ∀ W p' c', ST w gm gx mn mx has px n2 cx l2 p' pw N2 c' N cw lz l W → Hid (Calls Try.prog 27 #[.slice pw N cw, .agg #[.int .i64 mn, .int .i64 mx, .bool has], .int .u64 en, .agg #[.int .i64 x0, .int .u64 x1, .int .u64 x2, .bool x3]] W fun e w' => ∃ pz cz, e = .returned (.tuple #[.slice pz N2 cz, .int .i64 EG]) ∧ ST w gm gx mn mx has px n2 cx l2 p' pz N2 c' N2 cz lz lz w' ∧ Below W.heap.size W w') := fun W p' c' h => h.rgrow en ⟨x0, x1, x2, x3⟩ HK.out HEN.out HX.out.1 HX.out.2 ok hok N2 hN2 lz hlz EG hEG
                clear hok hN2 hlz hEG
                go_wp2_with (first
                  | (go_at_call 26; (with_reducible refine P1.out.mono ?_); rintro e wb ⟨pk, ck, rfl, hm, hk⟩; have HTB := hid hm; have hx := HXB.out.keep hk (by intro e; cases e; exact HGX.out.1 rfl); have y6 := hx.at (k := 6) (v := .int .i64 x0) rfl; have y7 := hx.at (k := 7) (v := .int .u64 x1) rfl; have y8 := hx.at (k := 8) (v := .int .u64 x2) rfl; have y9 := hx.at (k := 9) (v := .bool x3) rfl; have l0 := HTB.out.bl.at (k := 0) (v := .int .i64 mn) rfl; have l1 := HTB.out.bl.at (k := 1) (v := .int .i64 mx) rfl; have l2' := HTB.out.bl.at (k := 2) (v := .bool has) rfl; clear hm hk hx)
                  | (go_at_call 27; (with_reducible refine (P2 wb pk ck HTB.out).out.mono ?_); rintro e wc ⟨pz, cz, rfl, hs, hb⟩; have HZ := hid hs; clear hs hb))
                clear HTB P1 P2 y0 y1 y2 y3 y6 y7 y8 y9
                go_meet
                exact ⟨N2, lz, pk, pz, ck, cz, _, rfl, rfl, rfl, HKF, HZ⟩
        · have hi62 : (i : Int) < 100 := by have := HI.out; omega
          go_wp2
          go_ret
          exact ⟨rfl, HT.out.be⟩
      · have hi62 : (i : Int) < 100 := by have := HI.out; omega
        go_wp2
        go_ret
        exact ⟨rfl, HT.out.be⟩
theorem walk_Tab (mn mx : Int) (has : Bool) (h3 : -9223372036854775808 ≤ mx) (h4 : mx < 9223372036854775808) (p1 : Option Addr) (n1 c1 : Nat) (l1 : List V4) {W1 : World} (hF : Sl 4 p1 n1 c1 (cellsV l1) W1) (p2 : Option Addr) (n2 c2 : Nat) (l2 : List V4) (hO : Sl 4 p2 n2 c2 (cellsV l2) W1) (p : Option Addr) (n c b o : Nat) (E : Nat → EAct) (hn : n ≤ maxLen) (hS : Scr p n b o E W1) (w : World) (hw : W1 = w) :
    Calls Try.prog 4 #[.agg #[.int .i64 mn, .int .i64 mx, .bool has], .slice p1 n1 c1, .slice p2 n2 c2, .slice p n c] w fun e w' => e = .returned (.bool true) ∧ Below w.heap.size w w' := by
  subst hw
  exact law_Tab mn mx has h3 h4 p1 n1 c1 l1 p2 n2 c2 l2 p n c b o E W1 hn hF hO hS
end Go.Proofs.Ytlifnddofgeaaaa
