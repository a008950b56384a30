/-
  RMayS, All, MayG1: merged, what the law does not reach left out (each text says what it holds where it lies in wip). No condition.
-/
import Derived.Test.YtjgeedgphcjhoaaGreatO02
import Derived.Deep.DeepCutAuto
set_option linter.unusedSimpArgs false
set_option linter.unusedVariables false
set_option maxRecDepth 100000
namespace Go.Proofs.YtjgeedgphcjhoaaGreat
open Go.RowKit
set_option maxHeartbeats 4000000 in
theorem RSeg_f (gf : Nat) (cnt : Bool) (w : World) : Calls Tryz.prog 58 #[.agg #[.slice none 0 0,.slice none 0 0,.slice (some ⟨gf,0,none⟩) 1 1,.slice none 0 0,.slice none 0 0,.slice none 0 0,.slice none 0 0,.int .i64 0,.slice none 0 0,.slice none 0 0,.bool cnt]] w fun e w' => e = .returned (.bool true) ∧ Below w.heap.size w w' := by
 have HX0 := hid (CA.new w #[.slice none 0 0,.slice none 0 0,.slice (some ⟨gf,0,none⟩) 1 1,.slice none 0 0,.slice none 0 0,.slice none 0 0,.slice none 0 0,.int .i64 0,.slice none 0 0,.slice none 0 0,.bool cnt] 32)
 have HB0 := hid ((Below.refl w.heap.size w).alloc (Nat.le_refl _) (.cells #[.slice none 0 0,.slice none 0 0,.slice (some ⟨gf,0,none⟩) 1 1,.slice none 0 0,.slice none 0 0,.slice none 0 0,.slice none 0 0,.int .i64 0,.slice none 0 0,.slice none 0 0,.bool cnt] 32))
 have y0 := HX0.out.at (k := 0) (v := .slice none 0 0) rfl
 have y1 := HX0.out.at (k := 1) (v := .slice none 0 0) rfl
 have y2 := HX0.out.at (k := 2) (v := .slice (some ⟨gf,0,none⟩) 1 1) rfl
 have y3 := HX0.out.at (k := 3) (v := .slice none 0 0) rfl
 have y4 := HX0.out.at (k := 4) (v := .slice none 0 0) rfl
 have y5 := HX0.out.at (k := 5) (v := .slice none 0 0) rfl
 have y6 := HX0.out.at (k := 6) (v := .slice none 0 0) rfl
 have y7 := HX0.out.at (k := 7) (v := .int .i64 0) rfl
 have y8 := HX0.out.at (k := 8) (v := .slice none 0 0) rfl
 have y9 := HX0.out.at (k := 9) (v := .slice none 0 0) rfl
 have y10 := HX0.out.at (k := 10) (v := .bool cnt) rfl
 go_enter Tryz.func58,Tryz.ntmps58
 go_wp2
 go_loop [3,4] (fun vo vi => vo = .bool true ∧ vi = .int .i64 0) (fun _ _ => 0)
 case atStart => exact ⟨rfl,rfl⟩
 case round =>
  obtain ⟨rfl,rfl⟩ := hrel
  go_wp2
  go_loop [3,10] (fun vo vi => vo = .bool true ∧ vi = .int .i64 0) (fun _ _ => 0)
  case atStart => exact ⟨rfl,rfl⟩
  case round =>
   obtain ⟨rfl,rfl⟩ := hrel
   go_wp2
   go_ret
   exact ⟨rfl,HB0.out⟩
set_option maxHeartbeats 16000000 in
theorem RMay_f (gf : Nat) (p : Option Addr) (n c : Nat) (cnt cb ab : Bool) (w : World) (hc : CA gf #[.int .i64 0,.slice none 0 0,.slice p n c] 42 w)
  (he : ∀ W,Below w.heap.size w W → Calls Tryz.prog 26 #[.slice p n c] W fun e w' => e = .returned (.bool cb) ∧ Below W.heap.size W w')
  (ha : ∀ W,Below w.heap.size w W → Calls Tryz.prog 53 #[.slice p n c] W fun e w' => e = .returned (.bool ab) ∧ Below W.heap.size W w') :
  Calls Tryz.prog 16 #[.agg #[.slice none 0 0,.slice none 0 0,.slice (some ⟨gf,0,none⟩) 1 1,.slice none 0 0,.slice none 0 0,.slice none 0 0,.slice none 0 0,.int .i64 0,.slice none 0 0,.slice none 0 0,.bool cnt]] w fun e w' => e = .returned (.bool (cb && (cnt || !ab))) ∧ Below w.heap.size w w' := by
 have HX0 := hid (CA.new w #[.slice none 0 0,.slice none 0 0,.slice (some ⟨gf,0,none⟩) 1 1,.slice none 0 0,.slice none 0 0,.slice none 0 0,.slice none 0 0,.int .i64 0,.slice none 0 0,.slice none 0 0,.bool cnt] 32)
 have HB0 := hid ((Below.refl w.heap.size w).alloc (Nat.le_refl _) (.cells #[.slice none 0 0,.slice none 0 0,.slice (some ⟨gf,0,none⟩) 1 1,.slice none 0 0,.slice none 0 0,.slice none 0 0,.slice none 0 0,.int .i64 0,.slice none 0 0,.slice none 0 0,.bool cnt] 32))
 have HE := fun W h => hid (he W h)
 have HA := fun W h => hid (ha W h)
 have HG := hid hc
 have HSG := fun W => hid (RSeg_f gf cnt W)
 have HI := fun W => hid (RIndex_says 0 W)
 rw [show idxR 0 = true from rfl] at HI
 have HV := fun W => hid (RVals_says [] (.slice none 0 0) 0 W (LI.nil _ _ _ _))
 rw [show ([] : List Int).all valB = true from rfl] at HV
 have HT := fun W => hid (RVal_says 127 W)
 rw [show valB 127 = true from rfl] at HT
 obtain ⟨R,hR⟩ : ∃ R,R = (cb && (cnt || !ab)) := ⟨_,rfl⟩
 rw [← hR]
 have HR := hid hR
 have y0 := HX0.out.at (k := 0) (v := .slice none 0 0) rfl
 have y1 := HX0.out.at (k := 1) (v := .slice none 0 0) rfl
 have y2 := HX0.out.at (k := 2) (v := .slice (some ⟨gf,0,none⟩) 1 1) rfl
 have y3 := HX0.out.at (k := 3) (v := .slice none 0 0) rfl
 have y4 := HX0.out.at (k := 4) (v := .slice none 0 0) rfl
 have y5 := HX0.out.at (k := 5) (v := .slice none 0 0) rfl
 have y6 := HX0.out.at (k := 6) (v := .slice none 0 0) rfl
 have y7 := HX0.out.at (k := 7) (v := .int .i64 0) rfl
 have y8 := HX0.out.at (k := 8) (v := .slice none 0 0) rfl
 have y9 := HX0.out.at (k := 9) (v := .slice none 0 0) rfl
 have y10 := HX0.out.at (k := 10) (v := .bool cnt) rfl
 clear he ha hc hR
 go_enter Tryz.func16,Tryz.ntmps16
 go_wp2
 go_loop [3,4] (fun vo vi => vo = .bool true ∧ vi = .int .i64 0) (fun _ _ => 0)
 case atStart => exact ⟨rfl,rfl⟩
 case round =>
  obtain ⟨rfl,rfl⟩ := hrel
  go_wp2
  go_loop [3,7] (fun vo vi => vo = .bool true ∧ vi = .int .i64 0) (fun _ _ => 0)
  case atStart => exact ⟨rfl,rfl⟩
  case round =>
   obtain ⟨rfl,rfl⟩ := hrel
   go_wp2
   go_loopw [3,9] (fun vo vi wr => ((vi = .int .i64 0 ∧ vo = .bool true) ∨ (vi = .int .i64 1 ∧ vo = .bool R)) ∧ Hid (Below w.heap.size w wr) ∧ Hid (CA w.heap.size #[.slice none 0 0,.slice none 0 0,.slice (some ⟨gf,0,none⟩) 1 1,.slice none 0 0,.slice none 0 0,.slice none 0 0,.slice none 0 0,.int .i64 0,.slice none 0 0,.slice none 0 0,.bool cnt] 32 wr)) (fun _ vi _ => 1 - (intOf vi).toNat)
   case atStart => exact ⟨.inl ⟨rfl,rfl⟩,HB0,HX0⟩
   case round =>
    clear y0 y1 y2 y3 y4 y5 y6 y7 y8 y9 y10
    obtain ⟨hd,HB,HX⟩ := hrel
    have y0 := HX.out.at (k := 0) (v := .slice none 0 0) rfl
    have y1 := HX.out.at (k := 1) (v := .slice none 0 0) rfl
    have y2 := HX.out.at (k := 2) (v := .slice (some ⟨gf,0,none⟩) 1 1) rfl
    have y3 := HX.out.at (k := 3) (v := .slice none 0 0) rfl
    have y4 := HX.out.at (k := 4) (v := .slice none 0 0) rfl
    have y5 := HX.out.at (k := 5) (v := .slice none 0 0) rfl
    have y6 := HX.out.at (k := 6) (v := .slice none 0 0) rfl
    have y7 := HX.out.at (k := 7) (v := .int .i64 0) rfl
    have y8 := HX.out.at (k := 8) (v := .slice none 0 0) rfl
    have y9 := HX.out.at (k := 9) (v := .slice none 0 0) rfl
    have y10 := HX.out.at (k := 10) (v := .bool cnt) rfl
    rcases hd with ⟨rfl,rfl⟩ | ⟨rfl,rfl⟩
    ·have HGW := hid (HG.out.below HB.out HG.out.lt)
     have x0 := HGW.out.at (k := 0) (v := .int .i64 0) rfl
     have x1 := HGW.out.at (k := 1) (v := .slice none 0 0) rfl
     have x2 := HGW.out.at (k := 2) (v := .slice p n c) rfl
     have HEB := hid (CA.new wr #[.int .i64 0,.slice none 0 0,.slice p n c] 42)
     have HBE := hid (HB.out.alloc HB.out.size (.cells #[.int .i64 0,.slice none 0 0,.slice p n c] 42))
     have HXE := hid (HX.out.alloc (.cells #[.int .i64 0,.slice none 0 0,.slice p n c] 42))
     rcases (show (cb = false) ∨ (cb = true ∧ cnt = true) ∨ (cb = true ∧ cnt = false ∧ ab = true) ∨ (cb = true ∧ cnt = false ∧ ab = false) by cases cb <;> cases cnt <;> cases ab <;> simp) with rfl | ⟨rfl,rfl⟩ | ⟨rfl,rfl,rfl⟩ | ⟨rfl,rfl,rfl⟩
     all_goals
      go_wp2_with (first
       | (go_at_call 52; (with_reducible refine (HI _).out.mono ?_); rintro e w1 ⟨rfl,rfl⟩)
       | (go_at_call 50; (with_reducible refine (HV _).out.mono ?_); rintro e w1 ⟨rfl,rfl⟩)
       | (go_at_call 26; (with_reducible refine (HE _ HBE.out).out.mono ?_); rintro e w2 ⟨rfl,hb⟩; have HB2 := hid (HBE.out.trans (hb.mono HBE.out.size)); have HX2 := hid (HXE.out.below hb HXE.out.lt); have HE2 := hid (HEB.out.below hb HEB.out.lt); have v0 := HE2.out.at (k := 0) (v := .int .i64 0) rfl; have v1 := HE2.out.at (k := 1) (v := .slice none 0 0) rfl; have v2 := HE2.out.at (k := 2) (v := .slice p n c) rfl; clear hb)
       | (go_at_call 53; (with_reducible refine (HA _ HB2.out).out.mono ?_); rintro e w3 ⟨rfl,hb⟩; have HB3 := hid (HB2.out.trans (hb.mono HB2.out.size)); have HX3 := hid (HX2.out.below hb HX2.out.lt); have HE3 := hid (HE2.out.below hb HE2.out.lt); have v0 := HE3.out.at (k := 0) (v := .int .i64 0) rfl; have v1 := HE3.out.at (k := 1) (v := .slice none 0 0) rfl; have v2 := HE3.out.at (k := 2) (v := .slice p n c) rfl; have y10 := HX3.out.at (k := 10) (v := .bool _) rfl; clear hb))
      go_roundw
      case rel => exact ⟨.inr ⟨by go_num,by rw [HR.out]; rfl⟩,HB3,HX3⟩
      case measure => decide
    ·go_wp2
     go_loop [3,15] (fun vo vi => vo = .bool R ∧ vi = .int .i64 0) (fun _ _ => 0)
     case atStart => exact ⟨rfl,rfl⟩
     case round =>
      obtain ⟨rfl,rfl⟩ := hrel
      go_wp2
      go_loop [3,17] (fun vo vi => vo = .bool R ∧ vi = .int .i64 0) (fun _ _ => 0)
      case atStart => exact ⟨rfl,rfl⟩
      case round =>
       obtain ⟨rfl,rfl⟩ := hrel
       go_wp2
       go_loop [3,19] (fun vo vi => vo = .bool R ∧ vi = .int .i64 0) (fun _ _ => 0)
       case atStart => exact ⟨rfl,rfl⟩
       case round =>
        obtain ⟨rfl,rfl⟩ := hrel
        go_wp2
        go_loop [3,22] (fun vo vi => vo = .bool R ∧ vi = .int .i64 0) (fun _ _ => 0)
        case atStart => exact ⟨rfl,rfl⟩
        case round =>
         obtain ⟨rfl,rfl⟩ := hrel
         cases R with
         | false =>
          go_wp2
          go_ret
          exact ⟨rfl,HB.out⟩
         | true =>
          go_wp2_with (go_at_call 58; (with_reducible refine (HSG _).out.mono ?_); rintro e w9 ⟨rfl,hb⟩; have HB9 := hid (HB.out.trans (hb.mono HB.out.size)); clear hb)
          go_ret
          exact ⟨rfl,HB9.out⟩
set_option maxHeartbeats 4000000 in
theorem RSeg_g (gf : Nat) (cnt : Bool) (w : World) : Calls Tryz.prog 58 #[.agg #[.slice none 0 0,.slice none 0 0,.slice none 0 0,.slice none 0 0,.slice none 0 0,.slice (some ⟨gf,0,none⟩) 1 1,.slice none 0 0,.int .i64 0,.slice none 0 0,.slice none 0 0,.bool cnt]] w fun e w' => e = .returned (.bool true) ∧ Below w.heap.size w w' := by
 have HX0 := hid (CA.new w #[.slice none 0 0,.slice none 0 0,.slice none 0 0,.slice none 0 0,.slice none 0 0,.slice (some ⟨gf,0,none⟩) 1 1,.slice none 0 0,.int .i64 0,.slice none 0 0,.slice none 0 0,.bool cnt] 32)
 have HB0 := hid ((Below.refl w.heap.size w).alloc (Nat.le_refl _) (.cells #[.slice none 0 0,.slice none 0 0,.slice none 0 0,.slice none 0 0,.slice none 0 0,.slice (some ⟨gf,0,none⟩) 1 1,.slice none 0 0,.int .i64 0,.slice none 0 0,.slice none 0 0,.bool cnt] 32))
 have y0 := HX0.out.at (k := 0) (v := .slice none 0 0) rfl
 have y1 := HX0.out.at (k := 1) (v := .slice none 0 0) rfl
 have y2 := HX0.out.at (k := 2) (v := .slice none 0 0) rfl
 have y3 := HX0.out.at (k := 3) (v := .slice none 0 0) rfl
 have y4 := HX0.out.at (k := 4) (v := .slice none 0 0) rfl
 have y5 := HX0.out.at (k := 5) (v := .slice (some ⟨gf,0,none⟩) 1 1) rfl
 have y6 := HX0.out.at (k := 6) (v := .slice none 0 0) rfl
 have y7 := HX0.out.at (k := 7) (v := .int .i64 0) rfl
 have y8 := HX0.out.at (k := 8) (v := .slice none 0 0) rfl
 have y9 := HX0.out.at (k := 9) (v := .slice none 0 0) rfl
 have y10 := HX0.out.at (k := 10) (v := .bool cnt) rfl
 go_enter Tryz.func58,Tryz.ntmps58
 go_wp2
 go_loop [3,4] (fun vo vi => vo = .bool true ∧ vi = .int .i64 0) (fun _ _ => 0)
 case atStart => exact ⟨rfl,rfl⟩
 case round =>
  obtain ⟨rfl,rfl⟩ := hrel
  go_wp2
  go_loop [3,10] (fun vo vi => vo = .bool true ∧ vi = .int .i64 0) (fun _ _ => 0)
  case atStart => exact ⟨rfl,rfl⟩
  case round =>
   obtain ⟨rfl,rfl⟩ := hrel
   go_wp2
   go_ret
   exact ⟨rfl,HB0.out⟩
set_option maxHeartbeats 16000000 in
theorem RMay_g (gf : Nat) (p : Option Addr) (n c : Nat) (cnt cb ab : Bool) (w : World) (hc : CA gf #[.int .i64 127,.bool false,.slice p n c] 46 w)
  (he : ∀ W,Below w.heap.size w W → Calls Tryz.prog 26 #[.slice p n c] W fun e w' => e = .returned (.bool cb) ∧ Below W.heap.size W w')
  (ha : ∀ W,Below w.heap.size w W → Calls Tryz.prog 53 #[.slice p n c] W fun e w' => e = .returned (.bool ab) ∧ Below W.heap.size W w') :
  Calls Tryz.prog 16 #[.agg #[.slice none 0 0,.slice none 0 0,.slice none 0 0,.slice none 0 0,.slice none 0 0,.slice (some ⟨gf,0,none⟩) 1 1,.slice none 0 0,.int .i64 0,.slice none 0 0,.slice none 0 0,.bool cnt]] w fun e w' => e = .returned (.bool (cb)) ∧ Below w.heap.size w w' := by
 have HX0 := hid (CA.new w #[.slice none 0 0,.slice none 0 0,.slice none 0 0,.slice none 0 0,.slice none 0 0,.slice (some ⟨gf,0,none⟩) 1 1,.slice none 0 0,.int .i64 0,.slice none 0 0,.slice none 0 0,.bool cnt] 32)
 have HB0 := hid ((Below.refl w.heap.size w).alloc (Nat.le_refl _) (.cells #[.slice none 0 0,.slice none 0 0,.slice none 0 0,.slice none 0 0,.slice none 0 0,.slice (some ⟨gf,0,none⟩) 1 1,.slice none 0 0,.int .i64 0,.slice none 0 0,.slice none 0 0,.bool cnt] 32))
 have HE := fun W h => hid (he W h)
 have HA := fun W h => hid (ha W h)
 have HG := hid hc
 have HSG := fun W => hid (RSeg_g gf cnt W)
 have HI := fun W => hid (RIndex_says 0 W)
 rw [show idxR 0 = true from rfl] at HI
 have HV := fun W => hid (RVals_says [] (.slice none 0 0) 0 W (LI.nil _ _ _ _))
 rw [show ([] : List Int).all valB = true from rfl] at HV
 have HT := fun W => hid (RVal_says 127 W)
 rw [show valB 127 = true from rfl] at HT
 obtain ⟨R,hR⟩ : ∃ R,R = (cb) := ⟨_,rfl⟩
 rw [← hR]
 have HR := hid hR
 have y0 := HX0.out.at (k := 0) (v := .slice none 0 0) rfl
 have y1 := HX0.out.at (k := 1) (v := .slice none 0 0) rfl
 have y2 := HX0.out.at (k := 2) (v := .slice none 0 0) rfl
 have y3 := HX0.out.at (k := 3) (v := .slice none 0 0) rfl
 have y4 := HX0.out.at (k := 4) (v := .slice none 0 0) rfl
 have y5 := HX0.out.at (k := 5) (v := .slice (some ⟨gf,0,none⟩) 1 1) rfl
 have y6 := HX0.out.at (k := 6) (v := .slice none 0 0) rfl
 have y7 := HX0.out.at (k := 7) (v := .int .i64 0) rfl
 have y8 := HX0.out.at (k := 8) (v := .slice none 0 0) rfl
 have y9 := HX0.out.at (k := 9) (v := .slice none 0 0) rfl
 have y10 := HX0.out.at (k := 10) (v := .bool cnt) rfl
 clear he ha hc hR
 go_enter Tryz.func16,Tryz.ntmps16
 go_wp2
 go_loop [3,4] (fun vo vi => vo = .bool true ∧ vi = .int .i64 0) (fun _ _ => 0)
 case atStart => exact ⟨rfl,rfl⟩
 case round =>
  obtain ⟨rfl,rfl⟩ := hrel
  go_wp2
  go_loop [3,7] (fun vo vi => vo = .bool true ∧ vi = .int .i64 0) (fun _ _ => 0)
  case atStart => exact ⟨rfl,rfl⟩
  case round =>
   obtain ⟨rfl,rfl⟩ := hrel
   go_wp2
   go_loop [3,9] (fun vo vi => vo = .bool true ∧ vi = .int .i64 0) (fun _ _ => 0)
   case atStart => exact ⟨rfl,rfl⟩
   case round =>
    obtain ⟨rfl,rfl⟩ := hrel
    go_wp2
    go_loop [3,15] (fun vo vi => vo = .bool true ∧ vi = .int .i64 0) (fun _ _ => 0)
    case atStart => exact ⟨rfl,rfl⟩
    case round =>
     obtain ⟨rfl,rfl⟩ := hrel
     go_wp2
     go_loop [3,17] (fun vo vi => vo = .bool true ∧ vi = .int .i64 0) (fun _ _ => 0)
     case atStart => exact ⟨rfl,rfl⟩
     case round =>
      obtain ⟨rfl,rfl⟩ := hrel
      go_wp2
      go_loopw [3,19] (fun vo vi wr => ((vi = .int .i64 0 ∧ vo = .bool true) ∨ (vi = .int .i64 1 ∧ vo = .bool R)) ∧ Hid (Below w.heap.size w wr) ∧ Hid (CA w.heap.size #[.slice none 0 0,.slice none 0 0,.slice none 0 0,.slice none 0 0,.slice none 0 0,.slice (some ⟨gf,0,none⟩) 1 1,.slice none 0 0,.int .i64 0,.slice none 0 0,.slice none 0 0,.bool cnt] 32 wr)) (fun _ vi _ => 1 - (intOf vi).toNat)
      case atStart => exact ⟨.inl ⟨rfl,rfl⟩,HB0,HX0⟩
      case round =>
       clear y0 y1 y2 y3 y4 y5 y6 y7 y8 y9 y10
       obtain ⟨hd,HB,HX⟩ := hrel
       have y0 := HX.out.at (k := 0) (v := .slice none 0 0) rfl
       have y1 := HX.out.at (k := 1) (v := .slice none 0 0) rfl
       have y2 := HX.out.at (k := 2) (v := .slice none 0 0) rfl
       have y3 := HX.out.at (k := 3) (v := .slice none 0 0) rfl
       have y4 := HX.out.at (k := 4) (v := .slice none 0 0) rfl
       have y5 := HX.out.at (k := 5) (v := .slice (some ⟨gf,0,none⟩) 1 1) rfl
       have y6 := HX.out.at (k := 6) (v := .slice none 0 0) rfl
       have y7 := HX.out.at (k := 7) (v := .int .i64 0) rfl
       have y8 := HX.out.at (k := 8) (v := .slice none 0 0) rfl
       have y9 := HX.out.at (k := 9) (v := .slice none 0 0) rfl
       have y10 := HX.out.at (k := 10) (v := .bool cnt) rfl
       rcases hd with ⟨rfl,rfl⟩ | ⟨rfl,rfl⟩
       ·have HGW := hid (HG.out.below HB.out HG.out.lt)
        have x0 := HGW.out.at (k := 0) (v := .int .i64 127) rfl
        have x1 := HGW.out.at (k := 1) (v := .bool false) rfl
        have x2 := HGW.out.at (k := 2) (v := .slice p n c) rfl
        cases cb
        all_goals
         go_wp2_with (first
          | (go_at_call 56; (with_reducible refine (HT _).out.mono ?_); rintro e w1 ⟨rfl,rfl⟩)
          | (go_at_call 26; (with_reducible refine (HE _ HB.out).out.mono ?_); rintro e w2 ⟨rfl,hb⟩; have HB3 := hid (HB.out.trans (hb.mono HB.out.size)); have HX3 := hid (HX.out.below hb HX.out.lt); clear hb))
         go_roundw
         case rel => exact ⟨.inr ⟨by go_num,by rw [HR.out]⟩,HB3,HX3⟩
         case measure => decide
       ·go_wp2
        go_loop [3,22] (fun vo vi => vo = .bool R ∧ vi = .int .i64 0) (fun _ _ => 0)
        case atStart => exact ⟨rfl,rfl⟩
        case round =>
         obtain ⟨rfl,rfl⟩ := hrel
         cases R with
         | false =>
          go_wp2
          go_ret
          exact ⟨rfl,HB.out⟩
         | true =>
          go_wp2_with (go_at_call 58; (with_reducible refine (HSG _).out.mono ?_); rintro e w9 ⟨rfl,hb⟩; have HB9 := hid (HB.out.trans (hb.mono HB.out.size)); clear hb)
          go_ret
          exact ⟨rfl,HB9.out⟩
end Go.Proofs.YtjgeedgphcjhoaaGreat
namespace Go.Proofs.YtjgeedgphcjhoaaGreat
open Go.RowKit
set_option maxHeartbeats 4000000 in
theorem all_ft (k : Nat) (eg : ∀ args w,(callFunc k args).run Tryz.prog w = .ok (.enter k args) w) (P : Nat → Bool) (n g o c : Nat) (p0 : Nat → Option Addr) (n0 c0 : Nat → Nat) (p1 : Nat → Option Addr) (n1 c1 : Nat → Nat) (w : World) (hg : g < w.heap.size) (hn : n < 9223372036854775807)
  (hx : ∀ i,i < n → w.cell? ⟨g,o + i * 2,none⟩ = some (.slice (p0 i) (n0 i) (c0 i)) ∧ w.cell? ⟨g,o + i * 2 + 1,none⟩ = some (.slice (p1 i) (n1 i) (c1 i))) (hP : ∀ i,i < n → ∀ W,Below w.heap.size w W → Calls Tryz.prog k #[.agg #[.slice (p0 i) (n0 i) (c0 i),.slice (p1 i) (n1 i) (c1 i)]] W fun e w' => e = .returned (.bool (P i)) ∧ Below W.heap.size W w') :
  Calls Tryz.prog 30 #[.slice (some ⟨g,o,none⟩) n c,.func (.func k) #[] #[]] w fun e w' => e = .returned (.bool ((List.range n).all P)) ∧ Below w.heap.size w w' := by
 have HP := hid hP
 have HXX := hid hx
 have hn' : (n : Int) < 9223372036854775807 := by omega
 obtain ⟨r,hr⟩ : ∃ r,r = (List.range n).all P := ⟨_,rfl⟩
 rw [← hr]
 have HR := hid hr
 clear hP hx hr hn
 go_enter Tryz.func30,Tryz.ntmps30
 go_wp2
 go_loopw [9] (fun vi wr => ∃ i : Nat,i ≤ n ∧ vi = .int .i64 i ∧ Hid (∀ j,j < i → P j = true) ∧ Hid (Below w.heap.size w wr)) (fun vi _ => n - (intOf vi).toNat)
 case atStart => exact ⟨0,Nat.zero_le _,rfl,fun j hj => absurd hj (Nat.not_lt_zero _),Below.refl _ _⟩
 case round =>
  obtain ⟨i,hi,rfl,HI,HB⟩ := hrel
  by_cases hlt : i < n
  ·obtain ⟨z0,z1⟩ := HXX.out i hlt
   have hPi := fun W h => hid (HP.out i hlt W h)
   have x0 := (HB.out.cell (p := ⟨g,o + i * 2,none⟩) hg).trans z0
   have x1 := (HB.out.cell (p := ⟨g,o + i * 2 + 1,none⟩) hg).trans z1
   clear z0 z1
   obtain ⟨b,hb⟩ : ∃ b,b = P i := ⟨_,rfl⟩
   rw [← hb] at hPi
   have HBP := hid hb
   clear hb
   generalize p0 i = q0 at *
   generalize n0 i = m0 at *
   generalize c0 i = d0 at *
   generalize p1 i = q1 at *
   generalize n1 i = m1 at *
   generalize c1 i = d1 at *
   have HB1 := hid (HB.out.alloc HB.out.size (.cells #[.slice q0 m0 d0,.slice q1 m1 d1] 67))
   cases b with
   | false =>
    have HE : Hid (r = false) := by
     rw [HR.out]
     exact List.all_eq_false.2 ⟨i,List.mem_range.2 hlt,by rw [← HBP.out]; decide⟩
    go_wp2_with (go_at_fn k; (with_reducible refine (hPi _ HB1.out).out.mono ?_); rintro e w2 ⟨rfl,hb2⟩; have HB2 := hid (HB1.out.trans (hb2.mono HB1.out.size)); clear hb2)
    go_ret
    exact ⟨by rw [HE.out]; rfl,HB2.out⟩
   | true =>
    go_wp2_with (go_at_fn k; (with_reducible refine (hPi _ HB1.out).out.mono ?_); rintro e w2 ⟨rfl,hb2⟩; have HB2 := hid (HB1.out.trans (hb2.mono HB1.out.size)); clear hb2)
    go_roundw
    case rel =>
     refine ⟨i + 1,hlt,by go_num,fun j hj => ?_,HB2.out⟩
     by_cases hji : j = i
     ·rw [hji]; exact HBP.out.symm
     ·exact HI.out j (by omega)
    case measure => simp [intOf]; omega
  ·obtain rfl : i = n := by omega
   have HE : Hid (r = true) := by
    rw [HR.out]
    exact List.all_eq_true.2 fun j hj => HI.out j (List.mem_range.1 hj)
   go_wp2
   go_ret
   exact ⟨by rw [HE.out]; rfl,HB.out⟩
set_option maxHeartbeats 4000000 in
theorem all_code (k : Nat) (eg : ∀ args w,(callFunc k args).run Tryz.prog w = .ok (.enter k args) w) (P : Nat → Bool) (n g o c : Nat) (t0 : Nat → Int) (p1 : Nat → Option Addr) (n1 c1 : Nat → Nat) (p2 : Nat → Option Addr) (n2 c2 : Nat → Nat) (w : World) (hg : g < w.heap.size) (hn : n < 9223372036854775807)
  (hx : ∀ i,i < n → w.cell? ⟨g,o + i * 3,none⟩ = some (.int .i64 (t0 i)) ∧ w.cell? ⟨g,o + i * 3 + 1,none⟩ = some (.slice (p1 i) (n1 i) (c1 i)) ∧ w.cell? ⟨g,o + i * 3 + 2,none⟩ = some (.slice (p2 i) (n2 i) (c2 i))) (hP : ∀ i,i < n → ∀ W,Below w.heap.size w W → Calls Tryz.prog k #[.agg #[.int .i64 (t0 i),.slice (p1 i) (n1 i) (c1 i),.slice (p2 i) (n2 i) (c2 i)]] W fun e w' => e = .returned (.bool (P i)) ∧ Below W.heap.size W w') :
  Calls Tryz.prog 34 #[.slice (some ⟨g,o,none⟩) n c,.func (.func k) #[] #[]] w fun e w' => e = .returned (.bool ((List.range n).all P)) ∧ Below w.heap.size w w' := by
 have HP := hid hP
 have HXX := hid hx
 have hn' : (n : Int) < 9223372036854775807 := by omega
 obtain ⟨r,hr⟩ : ∃ r,r = (List.range n).all P := ⟨_,rfl⟩
 rw [← hr]
 have HR := hid hr
 clear hP hx hr hn
 go_enter Tryz.func34,Tryz.ntmps34
 go_wp2
 go_loopw [9] (fun vi wr => ∃ i : Nat,i ≤ n ∧ vi = .int .i64 i ∧ Hid (∀ j,j < i → P j = true) ∧ Hid (Below w.heap.size w wr)) (fun vi _ => n - (intOf vi).toNat)
 case atStart => exact ⟨0,Nat.zero_le _,rfl,fun j hj => absurd hj (Nat.not_lt_zero _),Below.refl _ _⟩
 case round =>
  obtain ⟨i,hi,rfl,HI,HB⟩ := hrel
  by_cases hlt : i < n
  ·obtain ⟨z0,z1,z2⟩ := HXX.out i hlt
   have hPi := fun W h => hid (HP.out i hlt W h)
   have x0 := (HB.out.cell (p := ⟨g,o + i * 3,none⟩) hg).trans z0
   have x1 := (HB.out.cell (p := ⟨g,o + i * 3 + 1,none⟩) hg).trans z1
   have x2 := (HB.out.cell (p := ⟨g,o + i * 3 + 2,none⟩) hg).trans z2
   clear z0 z1 z2
   obtain ⟨b,hb⟩ : ∃ b,b = P i := ⟨_,rfl⟩
   rw [← hb] at hPi
   have HBP := hid hb
   clear hb
   generalize t0 i = s0 at *
   generalize p1 i = q1 at *
   generalize n1 i = m1 at *
   generalize c1 i = d1 at *
   generalize p2 i = q2 at *
   generalize n2 i = m2 at *
   generalize c2 i = d2 at *
   have HB1 := hid (HB.out.alloc HB.out.size (.cells #[.int .i64 s0,.slice q1 m1 d1,.slice q2 m2 d2] 42))
   cases b with
   | false =>
    have HE : Hid (r = false) := by
     rw [HR.out]
     exact List.all_eq_false.2 ⟨i,List.mem_range.2 hlt,by rw [← HBP.out]; decide⟩
    go_wp2_with (go_at_fn k; (with_reducible refine (hPi _ HB1.out).out.mono ?_); rintro e w2 ⟨rfl,hb2⟩; have HB2 := hid (HB1.out.trans (hb2.mono HB1.out.size)); clear hb2)
    go_ret
    exact ⟨by rw [HE.out]; rfl,HB2.out⟩
   | true =>
    go_wp2_with (go_at_fn k; (with_reducible refine (hPi _ HB1.out).out.mono ?_); rintro e w2 ⟨rfl,hb2⟩; have HB2 := hid (HB1.out.trans (hb2.mono HB1.out.size)); clear hb2)
    go_roundw
    case rel =>
     refine ⟨i + 1,hlt,by go_num,fun j hj => ?_,HB2.out⟩
     by_cases hji : j = i
     ·rw [hji]; exact HBP.out.symm
     ·exact HI.out j (by omega)
    case measure => simp [intOf]; omega
  ·obtain rfl : i = n := by omega
   have HE : Hid (r = true) := by
    rw [HR.out]
    exact List.all_eq_true.2 fun j hj => HI.out j (List.mem_range.1 hj)
   go_wp2
   go_ret
   exact ⟨by rw [HE.out]; rfl,HB.out⟩
theorem all_nil_22 (k : Nat) (p : Option Addr) (c : Nat) (w : World) : Calls Tryz.prog 30 #[.slice p 0 c,.func (.func k) #[] #[]] w fun e w' => e = .returned (.bool true) ∧ w = w' := by
 go_enter Tryz.func30,Tryz.ntmps30
 go_wp2
 go_loop [9] (fun vi => vi = .int .i64 0) (fun _ => 0)
 case atStart => rfl
 case round =>
  subst hrel
  go_wp2
  go_ret
  exact ⟨rfl,rfl⟩
theorem all_nil_24 (k : Nat) (p : Option Addr) (c : Nat) (w : World) : Calls Tryz.prog 32 #[.slice p 0 c,.func (.func k) #[] #[]] w fun e w' => e = .returned (.bool true) ∧ w = w' := by
 go_enter Tryz.func32,Tryz.ntmps32
 go_wp2
 go_loop [9] (fun vi => vi = .int .i64 0) (fun _ => 0)
 case atStart => rfl
 case round =>
  subst hrel
  go_wp2
  go_ret
  exact ⟨rfl,rfl⟩
theorem all_nil_26 (k : Nat) (p : Option Addr) (c : Nat) (w : World) : Calls Tryz.prog 34 #[.slice p 0 c,.func (.func k) #[] #[]] w fun e w' => e = .returned (.bool true) ∧ w = w' := by
 go_enter Tryz.func34,Tryz.ntmps34
 go_wp2
 go_loop [9] (fun vi => vi = .int .i64 0) (fun _ => 0)
 case atStart => rfl
 case round =>
  subst hrel
  go_wp2
  go_ret
  exact ⟨rfl,rfl⟩
theorem all_nil_28 (k : Nat) (p : Option Addr) (c : Nat) (w : World) : Calls Tryz.prog 36 #[.slice p 0 c,.func (.func k) #[] #[]] w fun e w' => e = .returned (.bool true) ∧ w = w' := by
 go_enter Tryz.func36,Tryz.ntmps36
 go_wp2
 go_loop [9] (fun vi => vi = .int .i64 0) (fun _ => 0)
 case atStart => rfl
 case round =>
  subst hrel
  go_wp2
  go_ret
  exact ⟨rfl,rfl⟩
theorem all_nil_30 (k : Nat) (p : Option Addr) (c : Nat) (w : World) : Calls Tryz.prog 38 #[.slice p 0 c,.func (.func k) #[] #[]] w fun e w' => e = .returned (.bool true) ∧ w = w' := by
 go_enter Tryz.func38,Tryz.ntmps38
 go_wp2
 go_loop [9] (fun vi => vi = .int .i64 0) (fun _ => 0)
 case atStart => rfl
 case round =>
  subst hrel
  go_wp2
  go_ret
  exact ⟨rfl,rfl⟩
theorem all_nil_32 (k : Nat) (p : Option Addr) (c : Nat) (w : World) : Calls Tryz.prog 40 #[.slice p 0 c,.func (.func k) #[] #[]] w fun e w' => e = .returned (.bool true) ∧ w = w' := by
 go_enter Tryz.func40,Tryz.ntmps40
 go_wp2
 go_loop [9] (fun vi => vi = .int .i64 0) (fun _ => 0)
 case atStart => rfl
 case round =>
  subst hrel
  go_wp2
  go_ret
  exact ⟨rfl,rfl⟩
theorem all_nil_34 (k : Nat) (p : Option Addr) (c : Nat) (w : World) : Calls Tryz.prog 42 #[.slice p 0 c,.func (.func k) #[] #[]] w fun e w' => e = .returned (.bool true) ∧ w = w' := by
 go_enter Tryz.func42,Tryz.ntmps42
 go_wp2
 go_loop [9] (fun vi => vi = .int .i64 0) (fun _ => 0)
 case atStart => rfl
 case round =>
  subst hrel
  go_wp2
  go_ret
  exact ⟨rfl,rfl⟩
theorem all_nil_37 (k : Nat) (p : Option Addr) (c : Nat) (w : World) : Calls Tryz.prog 45 #[.slice p 0 c,.func (.func k) #[] #[]] w fun e w' => e = .returned (.bool true) ∧ w = w' := by
 go_enter Tryz.func45,Tryz.ntmps45
 go_wp2
 go_loop [9] (fun vi => vi = .int .i64 0) (fun _ => 0)
 case atStart => rfl
 case round =>
  subst hrel
  go_wp2
  go_ret
  exact ⟨rfl,rfl⟩
theorem all_nil_39 (k : Nat) (p : Option Addr) (c : Nat) (w : World) : Calls Tryz.prog 47 #[.slice p 0 c,.func (.func k) #[] #[]] w fun e w' => e = .returned (.bool true) ∧ w = w' := by
 go_enter Tryz.func47,Tryz.ntmps47
 go_wp2
 go_loop [9] (fun vi => vi = .int .i64 0) (fun _ => 0)
 case atStart => rfl
 case round =>
  subst hrel
  go_wp2
  go_ret
  exact ⟨rfl,rfl⟩
end Go.Proofs.YtjgeedgphcjhoaaGreat
namespace Go.Proofs.YtjgeedgphcjhoaaGreat
open Go.RowKit
set_option maxHeartbeats 16000000 in
theorem MayG_0 (tp imp fp tbp mp gp xp ep dp : Option Addr) (tn tc imn imc fn fc tbn tbc mn mc gn gc xn xc en ec dn dc : Nat) (tb imb fb tbb mb gb xb sb eb db qb cnt : Bool) (st : Int) (w : World)
  (ht : ∀ W,Below w.heap.size w W → Calls Tryz.prog 30 #[.slice tp tn tc,.func (.func 31) #[] #[]] W fun e w' => e = .returned (.bool false) ∧ Below W.heap.size W w')
  (him : ∀ W,Below w.heap.size w W → Calls Tryz.prog 32 #[.slice imp imn imc,.func (.func 33) #[] #[]] W fun e w' => e = .returned (.bool imb) ∧ Below W.heap.size W w')
  (hf : ∀ W,Below w.heap.size w W → Calls Tryz.prog 34 #[.slice fp fn fc,.func (.func 35) #[] #[]] W fun e w' => e = .returned (.bool fb) ∧ Below W.heap.size W w')
  (htb : ∀ W,Below w.heap.size w W → Calls Tryz.prog 36 #[.slice tbp tbn tbc,.func (.func 37) #[] #[]] W fun e w' => e = .returned (.bool tbb) ∧ Below W.heap.size W w')
  (hm : ∀ W,Below w.heap.size w W → Calls Tryz.prog 38 #[.slice mp mn mc,.func (.func 39) #[] #[]] W fun e w' => e = .returned (.bool mb) ∧ Below W.heap.size W w')
  (hg : ∀ W,Below w.heap.size w W → Calls Tryz.prog 40 #[.slice gp gn gc,.func (.func 41) #[] #[]] W fun e w' => e = .returned (.bool gb) ∧ Below W.heap.size W w')
  (hx : ∀ W,Below w.heap.size w W → Calls Tryz.prog 42 #[.slice xp xn xc,.func (.func 43) #[] #[]] W fun e w' => e = .returned (.bool xb) ∧ Below W.heap.size W w')
  (hs : ∀ W,Calls Tryz.prog 44 #[.int .i64 st] W fun e w' => e = .returned (.bool sb) ∧ W = w')
  (he : ∀ W,Below w.heap.size w W → Calls Tryz.prog 45 #[.slice ep en ec,.func (.func 46) #[] #[]] W fun e w' => e = .returned (.bool eb) ∧ Below W.heap.size W w')
  (hd : ∀ W,Below w.heap.size w W → Calls Tryz.prog 47 #[.slice dp dn dc,.func (.func 48) #[] #[]] W fun e w' => e = .returned (.bool db) ∧ Below W.heap.size W w')
  (hq : ∀ W,Below w.heap.size w W → Calls Tryz.prog 34 #[.slice fp fn fc,.func (.func 49) #[] #[]] W fun e w' => e = .returned (.bool qb) ∧ Below W.heap.size W w') :
  Calls Tryz.prog 15 #[.agg #[.slice tp tn tc,.slice imp imn imc,.slice fp fn fc,.slice tbp tbn tbc,.slice mp mn mc,.slice gp gn gc,.slice xp xn xc,.int .i64 st,.slice ep en ec,.slice dp dn dc,.bool cnt]] w fun e w' => e = .returned (.bool false) ∧ Below w.heap.size w w' := by
 have Ht := fun W h => hid (ht W h)
 have Him := fun W h => hid (him W h)
 have Hf := fun W h => hid (hf W h)
 have Htb := fun W h => hid (htb W h)
 have Hm := fun W h => hid (hm W h)
 have Hg := fun W h => hid (hg W h)
 have Hx := fun W h => hid (hx W h)
 have HS := fun W => hid (hs W)
 have He := fun W h => hid (he W h)
 have Hd := fun W h => hid (hd W h)
 have HQ := fun W h => hid (hq W h)
 have HBX := hid ((Below.refl w.heap.size w).alloc (Nat.le_refl _) (.cells #[.slice tp tn tc,.slice imp imn imc,.slice fp fn fc,.slice tbp tbn tbc,.slice mp mn mc,.slice gp gn gc,.slice xp xn xc,.int .i64 st,.slice ep en ec,.slice dp dn dc,.bool cnt] 32))
 have HX := hid (CA.new w #[.slice tp tn tc,.slice imp imn imc,.slice fp fn fc,.slice tbp tbn tbc,.slice mp mn mc,.slice gp gn gc,.slice xp xn xc,.int .i64 st,.slice ep en ec,.slice dp dn dc,.bool cnt] 32)
 have x0 := HX.out.at (k := 0) (v := .slice tp tn tc) rfl
 have x1 := HX.out.at (k := 1) (v := .slice imp imn imc) rfl
 have x2 := HX.out.at (k := 2) (v := .slice fp fn fc) rfl
 have x3 := HX.out.at (k := 3) (v := .slice tbp tbn tbc) rfl
 have x4 := HX.out.at (k := 4) (v := .slice mp mn mc) rfl
 have x5 := HX.out.at (k := 5) (v := .slice gp gn gc) rfl
 have x6 := HX.out.at (k := 6) (v := .slice xp xn xc) rfl
 have x7 := HX.out.at (k := 7) (v := .int .i64 st) rfl
 have x8 := HX.out.at (k := 8) (v := .slice ep en ec) rfl
 have x9 := HX.out.at (k := 9) (v := .slice dp dn dc) rfl
 have x10 := HX.out.at (k := 10) (v := .bool cnt) rfl
 clear ht him hf htb hm hg hx hs he hd hq
 go_enter Tryz.func15,Tryz.ntmps15
 go_wp2_with (first
  | (go_at_call 30; (with_reducible refine (Ht _ HBX.out).out.mono ?_); rintro e w10 ⟨rfl,hb⟩; have HB0 := hid (HBX.out.trans (hb.mono HBX.out.size)); have HX0 := hid (HX.out.below hb HX.out.lt); clear x0 x1 x2 x3 x4 x5 x6 x7 x8 x9 x10; have x0 := HX0.out.at (k := 0) (v := .slice tp tn tc) rfl; have x1 := HX0.out.at (k := 1) (v := .slice imp imn imc) rfl; have x2 := HX0.out.at (k := 2) (v := .slice fp fn fc) rfl; have x3 := HX0.out.at (k := 3) (v := .slice tbp tbn tbc) rfl; have x4 := HX0.out.at (k := 4) (v := .slice mp mn mc) rfl; have x5 := HX0.out.at (k := 5) (v := .slice gp gn gc) rfl; have x6 := HX0.out.at (k := 6) (v := .slice xp xn xc) rfl; have x7 := HX0.out.at (k := 7) (v := .int .i64 st) rfl; have x8 := HX0.out.at (k := 8) (v := .slice ep en ec) rfl; have x9 := HX0.out.at (k := 9) (v := .slice dp dn dc) rfl; have x10 := HX0.out.at (k := 10) (v := .bool cnt) rfl; clear hb))
 go_ret
 exact ⟨rfl,HB0.out⟩
set_option maxHeartbeats 16000000 in
theorem MayG_1 (tp imp fp tbp mp gp xp ep dp : Option Addr) (tn tc imn imc fn fc tbn tbc mn mc gn gc xn xc en ec dn dc : Nat) (tb imb fb tbb mb gb xb sb eb db qb cnt : Bool) (st : Int) (w : World)
  (ht : ∀ W,Below w.heap.size w W → Calls Tryz.prog 30 #[.slice tp tn tc,.func (.func 31) #[] #[]] W fun e w' => e = .returned (.bool true) ∧ Below W.heap.size W w')
  (him : ∀ W,Below w.heap.size w W → Calls Tryz.prog 32 #[.slice imp imn imc,.func (.func 33) #[] #[]] W fun e w' => e = .returned (.bool false) ∧ Below W.heap.size W w')
  (hf : ∀ W,Below w.heap.size w W → Calls Tryz.prog 34 #[.slice fp fn fc,.func (.func 35) #[] #[]] W fun e w' => e = .returned (.bool fb) ∧ Below W.heap.size W w')
  (htb : ∀ W,Below w.heap.size w W → Calls Tryz.prog 36 #[.slice tbp tbn tbc,.func (.func 37) #[] #[]] W fun e w' => e = .returned (.bool tbb) ∧ Below W.heap.size W w')
  (hm : ∀ W,Below w.heap.size w W → Calls Tryz.prog 38 #[.slice mp mn mc,.func (.func 39) #[] #[]] W fun e w' => e = .returned (.bool mb) ∧ Below W.heap.size W w')
  (hg : ∀ W,Below w.heap.size w W → Calls Tryz.prog 40 #[.slice gp gn gc,.func (.func 41) #[] #[]] W fun e w' => e = .returned (.bool gb) ∧ Below W.heap.size W w')
  (hx : ∀ W,Below w.heap.size w W → Calls Tryz.prog 42 #[.slice xp xn xc,.func (.func 43) #[] #[]] W fun e w' => e = .returned (.bool xb) ∧ Below W.heap.size W w')
  (hs : ∀ W,Calls Tryz.prog 44 #[.int .i64 st] W fun e w' => e = .returned (.bool sb) ∧ W = w')
  (he : ∀ W,Below w.heap.size w W → Calls Tryz.prog 45 #[.slice ep en ec,.func (.func 46) #[] #[]] W fun e w' => e = .returned (.bool eb) ∧ Below W.heap.size W w')
  (hd : ∀ W,Below w.heap.size w W → Calls Tryz.prog 47 #[.slice dp dn dc,.func (.func 48) #[] #[]] W fun e w' => e = .returned (.bool db) ∧ Below W.heap.size W w')
  (hq : ∀ W,Below w.heap.size w W → Calls Tryz.prog 34 #[.slice fp fn fc,.func (.func 49) #[] #[]] W fun e w' => e = .returned (.bool qb) ∧ Below W.heap.size W w') :
  Calls Tryz.prog 15 #[.agg #[.slice tp tn tc,.slice imp imn imc,.slice fp fn fc,.slice tbp tbn tbc,.slice mp mn mc,.slice gp gn gc,.slice xp xn xc,.int .i64 st,.slice ep en ec,.slice dp dn dc,.bool cnt]] w fun e w' => e = .returned (.bool false) ∧ Below w.heap.size w w' := by
 have Ht := fun W h => hid (ht W h)
 have Him := fun W h => hid (him W h)
 have Hf := fun W h => hid (hf W h)
 have Htb := fun W h => hid (htb W h)
 have Hm := fun W h => hid (hm W h)
 have Hg := fun W h => hid (hg W h)
 have Hx := fun W h => hid (hx W h)
 have HS := fun W => hid (hs W)
 have He := fun W h => hid (he W h)
 have Hd := fun W h => hid (hd W h)
 have HQ := fun W h => hid (hq W h)
 have HBX := hid ((Below.refl w.heap.size w).alloc (Nat.le_refl _) (.cells #[.slice tp tn tc,.slice imp imn imc,.slice fp fn fc,.slice tbp tbn tbc,.slice mp mn mc,.slice gp gn gc,.slice xp xn xc,.int .i64 st,.slice ep en ec,.slice dp dn dc,.bool cnt] 32))
 have HX := hid (CA.new w #[.slice tp tn tc,.slice imp imn imc,.slice fp fn fc,.slice tbp tbn tbc,.slice mp mn mc,.slice gp gn gc,.slice xp xn xc,.int .i64 st,.slice ep en ec,.slice dp dn dc,.bool cnt] 32)
 have x0 := HX.out.at (k := 0) (v := .slice tp tn tc) rfl
 have x1 := HX.out.at (k := 1) (v := .slice imp imn imc) rfl
 have x2 := HX.out.at (k := 2) (v := .slice fp fn fc) rfl
 have x3 := HX.out.at (k := 3) (v := .slice tbp tbn tbc) rfl
 have x4 := HX.out.at (k := 4) (v := .slice mp mn mc) rfl
 have x5 := HX.out.at (k := 5) (v := .slice gp gn gc) rfl
 have x6 := HX.out.at (k := 6) (v := .slice xp xn xc) rfl
 have x7 := HX.out.at (k := 7) (v := .int .i64 st) rfl
 have x8 := HX.out.at (k := 8) (v := .slice ep en ec) rfl
 have x9 := HX.out.at (k := 9) (v := .slice dp dn dc) rfl
 have x10 := HX.out.at (k := 10) (v := .bool cnt) rfl
 clear ht him hf htb hm hg hx hs he hd hq
 go_enter Tryz.func15,Tryz.ntmps15
 go_wp2_with (first
  | (go_at_call 30; (with_reducible refine (Ht _ HBX.out).out.mono ?_); rintro e w10 ⟨rfl,hb⟩; have HB0 := hid (HBX.out.trans (hb.mono HBX.out.size)); have HX0 := hid (HX.out.below hb HX.out.lt); clear x0 x1 x2 x3 x4 x5 x6 x7 x8 x9 x10; have x0 := HX0.out.at (k := 0) (v := .slice tp tn tc) rfl; have x1 := HX0.out.at (k := 1) (v := .slice imp imn imc) rfl; have x2 := HX0.out.at (k := 2) (v := .slice fp fn fc) rfl; have x3 := HX0.out.at (k := 3) (v := .slice tbp tbn tbc) rfl; have x4 := HX0.out.at (k := 4) (v := .slice mp mn mc) rfl; have x5 := HX0.out.at (k := 5) (v := .slice gp gn gc) rfl; have x6 := HX0.out.at (k := 6) (v := .slice xp xn xc) rfl; have x7 := HX0.out.at (k := 7) (v := .int .i64 st) rfl; have x8 := HX0.out.at (k := 8) (v := .slice ep en ec) rfl; have x9 := HX0.out.at (k := 9) (v := .slice dp dn dc) rfl; have x10 := HX0.out.at (k := 10) (v := .bool cnt) rfl; clear hb)
  | (go_at_call 32; (with_reducible refine (Him _ HB0.out).out.mono ?_); rintro e w11 ⟨rfl,hb⟩; have HB1 := hid (HB0.out.trans (hb.mono HB0.out.size)); have HX1 := hid (HX0.out.below hb HX0.out.lt); clear x0 x1 x2 x3 x4 x5 x6 x7 x8 x9 x10; have x0 := HX1.out.at (k := 0) (v := .slice tp tn tc) rfl; have x1 := HX1.out.at (k := 1) (v := .slice imp imn imc) rfl; have x2 := HX1.out.at (k := 2) (v := .slice fp fn fc) rfl; have x3 := HX1.out.at (k := 3) (v := .slice tbp tbn tbc) rfl; have x4 := HX1.out.at (k := 4) (v := .slice mp mn mc) rfl; have x5 := HX1.out.at (k := 5) (v := .slice gp gn gc) rfl; have x6 := HX1.out.at (k := 6) (v := .slice xp xn xc) rfl; have x7 := HX1.out.at (k := 7) (v := .int .i64 st) rfl; have x8 := HX1.out.at (k := 8) (v := .slice ep en ec) rfl; have x9 := HX1.out.at (k := 9) (v := .slice dp dn dc) rfl; have x10 := HX1.out.at (k := 10) (v := .bool cnt) rfl; clear hb))
 go_ret
 exact ⟨rfl,HB1.out⟩
set_option maxHeartbeats 16000000 in
theorem MayG_2 (tp imp fp tbp mp gp xp ep dp : Option Addr) (tn tc imn imc fn fc tbn tbc mn mc gn gc xn xc en ec dn dc : Nat) (tb imb fb tbb mb gb xb sb eb db qb cnt : Bool) (st : Int) (w : World)
  (ht : ∀ W,Below w.heap.size w W → Calls Tryz.prog 30 #[.slice tp tn tc,.func (.func 31) #[] #[]] W fun e w' => e = .returned (.bool true) ∧ Below W.heap.size W w')
  (him : ∀ W,Below w.heap.size w W → Calls Tryz.prog 32 #[.slice imp imn imc,.func (.func 33) #[] #[]] W fun e w' => e = .returned (.bool true) ∧ Below W.heap.size W w')
  (hf : ∀ W,Below w.heap.size w W → Calls Tryz.prog 34 #[.slice fp fn fc,.func (.func 35) #[] #[]] W fun e w' => e = .returned (.bool false) ∧ Below W.heap.size W w')
  (htb : ∀ W,Below w.heap.size w W → Calls Tryz.prog 36 #[.slice tbp tbn tbc,.func (.func 37) #[] #[]] W fun e w' => e = .returned (.bool tbb) ∧ Below W.heap.size W w')
  (hm : ∀ W,Below w.heap.size w W → Calls Tryz.prog 38 #[.slice mp mn mc,.func (.func 39) #[] #[]] W fun e w' => e = .returned (.bool mb) ∧ Below W.heap.size W w')
  (hg : ∀ W,Below w.heap.size w W → Calls Tryz.prog 40 #[.slice gp gn gc,.func (.func 41) #[] #[]] W fun e w' => e = .returned (.bool gb) ∧ Below W.heap.size W w')
  (hx : ∀ W,Below w.heap.size w W → Calls Tryz.prog 42 #[.slice xp xn xc,.func (.func 43) #[] #[]] W fun e w' => e = .returned (.bool xb) ∧ Below W.heap.size W w')
  (hs : ∀ W,Calls Tryz.prog 44 #[.int .i64 st] W fun e w' => e = .returned (.bool sb) ∧ W = w')
  (he : ∀ W,Below w.heap.size w W → Calls Tryz.prog 45 #[.slice ep en ec,.func (.func 46) #[] #[]] W fun e w' => e = .returned (.bool eb) ∧ Below W.heap.size W w')
  (hd : ∀ W,Below w.heap.size w W → Calls Tryz.prog 47 #[.slice dp dn dc,.func (.func 48) #[] #[]] W fun e w' => e = .returned (.bool db) ∧ Below W.heap.size W w')
  (hq : ∀ W,Below w.heap.size w W → Calls Tryz.prog 34 #[.slice fp fn fc,.func (.func 49) #[] #[]] W fun e w' => e = .returned (.bool qb) ∧ Below W.heap.size W w') :
  Calls Tryz.prog 15 #[.agg #[.slice tp tn tc,.slice imp imn imc,.slice fp fn fc,.slice tbp tbn tbc,.slice mp mn mc,.slice gp gn gc,.slice xp xn xc,.int .i64 st,.slice ep en ec,.slice dp dn dc,.bool cnt]] w fun e w' => e = .returned (.bool false) ∧ Below w.heap.size w w' := by
 have Ht := fun W h => hid (ht W h)
 have Him := fun W h => hid (him W h)
 have Hf := fun W h => hid (hf W h)
 have Htb := fun W h => hid (htb W h)
 have Hm := fun W h => hid (hm W h)
 have Hg := fun W h => hid (hg W h)
 have Hx := fun W h => hid (hx W h)
 have HS := fun W => hid (hs W)
 have He := fun W h => hid (he W h)
 have Hd := fun W h => hid (hd W h)
 have HQ := fun W h => hid (hq W h)
 have HBX := hid ((Below.refl w.heap.size w).alloc (Nat.le_refl _) (.cells #[.slice tp tn tc,.slice imp imn imc,.slice fp fn fc,.slice tbp tbn tbc,.slice mp mn mc,.slice gp gn gc,.slice xp xn xc,.int .i64 st,.slice ep en ec,.slice dp dn dc,.bool cnt] 32))
 have HX := hid (CA.new w #[.slice tp tn tc,.slice imp imn imc,.slice fp fn fc,.slice tbp tbn tbc,.slice mp mn mc,.slice gp gn gc,.slice xp xn xc,.int .i64 st,.slice ep en ec,.slice dp dn dc,.bool cnt] 32)
 have x0 := HX.out.at (k := 0) (v := .slice tp tn tc) rfl
 have x1 := HX.out.at (k := 1) (v := .slice imp imn imc) rfl
 have x2 := HX.out.at (k := 2) (v := .slice fp fn fc) rfl
 have x3 := HX.out.at (k := 3) (v := .slice tbp tbn tbc) rfl
 have x4 := HX.out.at (k := 4) (v := .slice mp mn mc) rfl
 have x5 := HX.out.at (k := 5) (v := .slice gp gn gc) rfl
 have x6 := HX.out.at (k := 6) (v := .slice xp xn xc) rfl
 have x7 := HX.out.at (k := 7) (v := .int .i64 st) rfl
 have x8 := HX.out.at (k := 8) (v := .slice ep en ec) rfl
 have x9 := HX.out.at (k := 9) (v := .slice dp dn dc) rfl
 have x10 := HX.out.at (k := 10) (v := .bool cnt) rfl
 clear ht him hf htb hm hg hx hs he hd hq
 go_enter Tryz.func15,Tryz.ntmps15
 go_wp2_with (first
  | (go_at_call 30; (with_reducible refine (Ht _ HBX.out).out.mono ?_); rintro e w10 ⟨rfl,hb⟩; have HB0 := hid (HBX.out.trans (hb.mono HBX.out.size)); have HX0 := hid (HX.out.below hb HX.out.lt); clear x0 x1 x2 x3 x4 x5 x6 x7 x8 x9 x10; have x0 := HX0.out.at (k := 0) (v := .slice tp tn tc) rfl; have x1 := HX0.out.at (k := 1) (v := .slice imp imn imc) rfl; have x2 := HX0.out.at (k := 2) (v := .slice fp fn fc) rfl; have x3 := HX0.out.at (k := 3) (v := .slice tbp tbn tbc) rfl; have x4 := HX0.out.at (k := 4) (v := .slice mp mn mc) rfl; have x5 := HX0.out.at (k := 5) (v := .slice gp gn gc) rfl; have x6 := HX0.out.at (k := 6) (v := .slice xp xn xc) rfl; have x7 := HX0.out.at (k := 7) (v := .int .i64 st) rfl; have x8 := HX0.out.at (k := 8) (v := .slice ep en ec) rfl; have x9 := HX0.out.at (k := 9) (v := .slice dp dn dc) rfl; have x10 := HX0.out.at (k := 10) (v := .bool cnt) rfl; clear hb)
  | (go_at_call 32; (with_reducible refine (Him _ HB0.out).out.mono ?_); rintro e w11 ⟨rfl,hb⟩; have HB1 := hid (HB0.out.trans (hb.mono HB0.out.size)); have HX1 := hid (HX0.out.below hb HX0.out.lt); clear x0 x1 x2 x3 x4 x5 x6 x7 x8 x9 x10; have x0 := HX1.out.at (k := 0) (v := .slice tp tn tc) rfl; have x1 := HX1.out.at (k := 1) (v := .slice imp imn imc) rfl; have x2 := HX1.out.at (k := 2) (v := .slice fp fn fc) rfl; have x3 := HX1.out.at (k := 3) (v := .slice tbp tbn tbc) rfl; have x4 := HX1.out.at (k := 4) (v := .slice mp mn mc) rfl; have x5 := HX1.out.at (k := 5) (v := .slice gp gn gc) rfl; have x6 := HX1.out.at (k := 6) (v := .slice xp xn xc) rfl; have x7 := HX1.out.at (k := 7) (v := .int .i64 st) rfl; have x8 := HX1.out.at (k := 8) (v := .slice ep en ec) rfl; have x9 := HX1.out.at (k := 9) (v := .slice dp dn dc) rfl; have x10 := HX1.out.at (k := 10) (v := .bool cnt) rfl; clear hb)
  | (go_at_call 34; (with_reducible refine (Hf _ HB1.out).out.mono ?_); rintro e w12 ⟨rfl,hb⟩; have HB2 := hid (HB1.out.trans (hb.mono HB1.out.size)); have HX2 := hid (HX1.out.below hb HX1.out.lt); clear x0 x1 x2 x3 x4 x5 x6 x7 x8 x9 x10; have x0 := HX2.out.at (k := 0) (v := .slice tp tn tc) rfl; have x1 := HX2.out.at (k := 1) (v := .slice imp imn imc) rfl; have x2 := HX2.out.at (k := 2) (v := .slice fp fn fc) rfl; have x3 := HX2.out.at (k := 3) (v := .slice tbp tbn tbc) rfl; have x4 := HX2.out.at (k := 4) (v := .slice mp mn mc) rfl; have x5 := HX2.out.at (k := 5) (v := .slice gp gn gc) rfl; have x6 := HX2.out.at (k := 6) (v := .slice xp xn xc) rfl; have x7 := HX2.out.at (k := 7) (v := .int .i64 st) rfl; have x8 := HX2.out.at (k := 8) (v := .slice ep en ec) rfl; have x9 := HX2.out.at (k := 9) (v := .slice dp dn dc) rfl; have x10 := HX2.out.at (k := 10) (v := .bool cnt) rfl; clear hb))
 go_ret
 exact ⟨rfl,HB2.out⟩
end Go.Proofs.YtjgeedgphcjhoaaGreat
