/-
  FProdG: merged, what the law does not reach left out (each text says what it holds where it lies in wip). No condition.
-/
import Derived.Test.YtbbmbhcbncenaaaGreatDoorG16
import Derived.Test.YtbbmbhcbncenaaaGreatDoorG14
import Derived.Test.YtbbmbhcbncenaaaGreatDoorG01
set_option linter.unusedSimpArgs false
set_option linter.unusedVariables false
set_option maxRecDepth 100000
namespace Go.Proofs.YtbbmbhcbncenaaaGreatDoor.Fl
open Go.RowKit
set_option maxRecDepth 20000 in
set_option maxHeartbeats 25600000 in
theorem prod_gen (E P : Int) (f : Ieee.Format) (hfP : f.fractionBits ≤ 52) (a b ka kb xr sg : Nat) (ns n1 n2 : Bool) (m1 m2 RR : Nat) (e1 e2 : Int)
  (KA : (∀ W,Hid (Calls Tryz.prog 157 #[.agg #[.int .i64 E,.int .i64 P],.int .u64 a] W fun e w' => e = .returned (.int .i64 (ka : Int)) ∧ Below W.heap.size W w')))
  (KB : (∀ W,Hid (Calls Tryz.prog 157 #[.agg #[.int .i64 E,.int .i64 P],.int .u64 b] W fun e w' => e = .returned (.int .i64 (kb : Int)) ∧ Below W.heap.size W w')))
  (PA : (∀ W,Hid (Calls Tryz.prog 160 #[.agg #[.int .i64 E,.int .i64 P],.int .u64 a] W fun e w' => e = .returned (.agg #[.bool n1,.int .u64 m1,.int .i64 e1]) ∧ Below W.heap.size W w')))
  (PB : (∀ W,Hid (Calls Tryz.prog 160 #[.agg #[.int .i64 E,.int .i64 P],.int .u64 b] W fun e w' => e = .returned (.agg #[.bool n2,.int .u64 m2,.int .i64 e2]) ∧ Below W.heap.size W w')))
  (SG : (∀ W,Hid (Calls Tryz.prog 135 #[.agg #[.int .i64 E,.int .i64 P],.int .u64 xr] W fun e w' => e = .returned (.int .u64 (sg : Int)) ∧ Below W.heap.size W w')))
  (hxb : bits .xor .u64 (a : Int) (b : Int) = (xr : Int)) (HSGN : Hid (((sg : Int) != 0) = ns)) (f1 : ((ka : Int) == 3) = false) (f2 : ((kb : Int) == 3) = false)
  (HM1 : Hid (m1 < 18446744073709551616)) (HM2 : Hid (m2 < 18446744073709551616)) (HEB : Hid (-1100 ≤ e1 ∧ e1 ≤ 2100 ∧ -1100 ≤ e2 ∧ e2 ≤ 2100))
  (HE1 : Hid (-4611686018427387904 ≤ e1 ∧ e1 ≤ 4611686018427387904)) (HE2 : Hid (-4611686018427387904 ≤ e2 ∧ e2 ≤ 4611686018427387904))
  (HRR : Hid (RR = f.word ns (rungOf f (m1 * m2) (e1 + e2))))
  (HRC : Hid (∀ (q : Nat) (e3 : Int) (mo : Bool),q < 18446744073709551616 → -9223372036854775808 ≤ e3 → e3 ≤ 9223372036854775807 → (mo = true → 288230376151711744 ≤ q) → ∀ W,Calls Tryz.prog 161 #[.agg #[.int .i64 E,.int .i64 P],.agg #[.bool ns,.int .u64 q,.int .i64 e3],.bool mo] W fun r w' => r = .returned (.int .u64 ((f.word ns (rungR f q e3 mo) : Nat) : Int)) ∧ Below W.heap.size W w')) (w : World) :
  Calls Tryz.prog 163 #[.agg #[.int .i64 E,.int .i64 P],.int .u64 a,.int .u64 b] w fun r w' => r = .returned (.int .u64 (RR : Int)) ∧ Below w.heap.size w w' := by
 have hS := Sx.new E P w
 obtain ⟨c0,c1⟩ := id hS.1
 go_enter Tryz.func163,Tryz.ntmps163
 go_upto_region 6 with (first
  | (go_at_call 135; ((with_reducible refine (SG _).out.mono ?_); rintro e w1 ⟨rfl,hb⟩; replace hS := hS.call hb; clear c0 c1; obtain ⟨c0,c1⟩ := id hS.1))
  | (go_at_call 157; ((with_reducible refine (KA _).out.mono ?_); rintro e w1 ⟨rfl,hb⟩; replace hS := hS.call hb; clear c0 c1; obtain ⟨c0,c1⟩ := id hS.1))
  | (go_at_call 157; ((with_reducible refine (KB _).out.mono ?_); rintro e w1 ⟨rfl,hb⟩; replace hS := hS.call hb; clear c0 c1; obtain ⟨c0,c1⟩ := id hS.1)))
 go_cut [8,9] (fun s8 s9 wx => ∃ (gx gy j1 y1 : Nat) (d1 : Int) (j2 y2 : Nat) (d2 : Int),s8 = .pointer (some ⟨gx,0,none⟩) ∧ s9 = .pointer (some ⟨gy,0,none⟩) ∧ Nb gx n1 y1 d1 wx ∧ Nb gy n2 y2 d2 wx ∧ w.heap.size < gx ∧ w.heap.size < gy ∧ gx ≠ gy ∧ Sx E P w wx ∧ Hid (NJ m1 e1 j1 y1 d1) ∧ Hid (NJ m2 e2 j2 y2 d2))
 case first =>
  replace hS := hS.drew
  refine wp_region_held_drew (S := Sx E P w) (by kernel_rfl) hS (fun _ => ?_)
  clear c0 c1 KA KB SG HRR HSGN hxb HEB f1 f2 HRC hfP
  generalize w1.drew = W at *
  refine zt 0 (.agg #[.int .i64 E,.int .i64 P]) rfl ?_ ?_
  ·(intro W hSw; obtain ⟨⟨c0,c1⟩,-⟩ := hSw; go_simp; try (with_reducible rfl))
  try simp only [Act.put,sl2,sl0,sl1]
  refine zt 1 (.int .u64 a) rfl ?_ ?_
  ·(intro W hSw; obtain ⟨⟨c0,c1⟩,-⟩ := hSw; go_simp; try (with_reducible rfl))
  try simp only [Act.put,sl2,sl0,sl1]
  refine zt 4 (.agg #[.int .i64 E,.int .i64 P]) rfl ?_ ?_
  ·(intro W hSw; obtain ⟨⟨c0,c1⟩,-⟩ := hSw; go_simp; try (with_reducible rfl))
  try simp only [Act.put,sl2,sl0,sl1]
  refine zt 5 (.int .u64 b) rfl ?_ ?_
  ·(intro W hSw; obtain ⟨⟨c0,c1⟩,-⟩ := hSw; go_simp; try (with_reducible rfl))
  try simp only [Act.put,sl2,sl0,sl1]
  refine zm [2,8,9] ?_
  refine zc rfl (fun K hK => ?_) ?_
  ·go_simp
   go_at_call 160
   (with_reducible refine (PA _).out.mono ?_)
   rintro e W1 ⟨rfl,hb⟩
   replace hS := hS.call hb
   clear hb
   refine hK.out _ _ hS (fun _ => ?_)
   clear hK K
   try simp only [Act.put,sl2,sl0,sl1]
   refine zm [3,8,9] ?_
   refine zc rfl (fun K hK => ?_) ?_
   ·go_simp
    go_at_call 159
    (with_reducible refine (normal_any n1 m1 HM1.out e1 HE1.out.1 HE1.out.2 _).mono ?_)
    rintro e W2 ⟨j1,hj,hl,hlt,he,hb⟩
    obtain ⟨y1,hy⟩ : ∃ y1 : Nat,y1 = m1 * 2 ^ j1 := ⟨_,rfl⟩
    obtain ⟨d1,hd⟩ : ∃ d1 : Int,d1 = e1 - (j1 : Int) := ⟨_,rfl⟩
    rw [← hy,← hd] at he
    subst he
    have HN1 := hid (And.intro hj (And.intro hl (And.intro hlt (And.intro hy hd))))
    clear hj hl hlt hy hd
    replace hS := hS.call hb
    clear hb
    refine hK.out _ _ hS (fun _ => ?_)
    clear hK K
    try simp only [Act.put,sl2,sl0,sl1]
    refine zm [6,8,9] ?_
    refine zc rfl (fun K hK => ?_) ?_
    ·go_simp
     go_at_call 160
     (with_reducible refine (PB _).out.mono ?_)
     rintro e W3 ⟨rfl,hb⟩
     replace hS := hS.call hb
     clear hb
     refine hK.out _ _ hS (fun _ => ?_)
     clear hK K
     try simp only [Act.put,sl2,sl0,sl1]
     refine zm [7,8,9] ?_
     refine zc rfl (fun K hK => ?_) ?_
     ·go_simp
      go_at_call 159
      (with_reducible refine (normal_any n2 m2 HM2.out e2 HE2.out.1 HE2.out.2 _).mono ?_)
      rintro e W4 ⟨j2,hj,hl,hlt,he,hb⟩
      obtain ⟨y2,hy⟩ : ∃ y2 : Nat,y2 = m2 * 2 ^ j2 := ⟨_,rfl⟩
      obtain ⟨d2,hd⟩ : ∃ d2 : Int,d2 = e2 - (j2 : Int) := ⟨_,rfl⟩
      rw [← hy,← hd] at he
      subst he
      have HN2 := hid (And.intro hj (And.intro hl (And.intro hlt (And.intro hy hd))))
      clear hj hl hlt hy hd
      replace hS := hS.call hb
      clear hb
      refine hK.out _ _ hS (fun _ => ?_)
      clear hK K
      try simp only [Act.put,sl2,sl0,sl1]
      refine zm [8,9] ?_
      refine zc rfl (fun K hK => ?_) ?_
      ·go_simp
       have l_Fgx := hS.lt
       have hX := Nb.new false 0 0 W4
       replace hS := hS.alloc (.cells #[.bool false,.int .u64 0,.int .i64 0] 153)
       generalize World.alloc W4 (.cells #[.bool false,.int .u64 0,.int .i64 0] 153) = W5 at *
       generalize W4.heap.size = gx at *
       refine hK.out _ _ hS (fun _ => ?_)
       clear hK K
       try simp only [Act.put,sl2,sl0,sl1]
       refine zr 9 rfl (fun K hK => ?_)
       go_simp
       have l_Fgy := hS.lt
       have l_hXgy := hX.lt
       have hY := Nb.new false 0 0 W5
       replace hS := hS.alloc (.cells #[.bool false,.int .u64 0,.int .i64 0] 153)
       replace hX := hX.alloc (.cells #[.bool false,.int .u64 0,.int .i64 0] 153)
       generalize World.alloc W5 (.cells #[.bool false,.int .u64 0,.int .i64 0] 153) = W6 at *
       generalize W5.heap.size = gy at *
       refine hK.out _ _ hS (fun _ => ?_)
       clear hK K
       try simp only [Act.put,sl2,sl0,sl1]
       refine zr 10 rfl (fun K hK => ?_)
       obtain ⟨⟨x0,x1,x2⟩,x3,x4,x5⟩ := id hX
       go_simp
       clear x0 x1 x2 x3 x4 x5
       replace hS := hS.set3 (c := gx) (.bool n1) (.int .u64 y1) (.int .i64 d1) l_Fgx
       replace hY := hY.set3 (c := gx) (.bool n1) (.int .u64 y1) (.int .i64 d1) (by omega)
       replace hX := hX.store (ng' := n1) (m' := y1) (e' := d1)
       generalize ((W6.setCell ⟨gx,0,none⟩ (.bool n1)).setCell ⟨gx,1,none⟩ (.int .u64 y1)).setCell ⟨gx,2,none⟩ (.int .i64 d1) = W7 at *
       refine hK.out _ _ hS (fun _ => ?_)
       clear hK K
       try simp only [Act.put,sl2,sl0,sl1]
       refine zr 11 rfl (fun K hK => ?_)
       obtain ⟨⟨x0,x1,x2⟩,x3,x4,x5⟩ := id hY
       go_simp
       clear x0 x1 x2 x3 x4 x5
       replace hS := hS.set3 (c := gy) (.bool n2) (.int .u64 y2) (.int .i64 d2) l_Fgy
       replace hX := hX.set3 (c := gy) (.bool n2) (.int .u64 y2) (.int .i64 d2) (by omega)
       replace hY := hY.store (ng' := n2) (m' := y2) (e' := d2)
       generalize ((W7.setCell ⟨gy,0,none⟩ (.bool n2)).setCell ⟨gy,1,none⟩ (.int .u64 y2)).setCell ⟨gy,2,none⟩ (.int .i64 d2) = W8 at *
       refine hK.out _ _ hS (fun _ => ?_)
       clear hK K
       try simp only [Act.put,sl2,sl0,sl1]
       refine wpAnyH_done (by kernel_rfl) ?_ _
       (go_wp2_with fail)
       go_meet
       exact ⟨gx,gy,j1,y1,d1,j2,y2,d2,rfl,rfl,hX,hY,l_Fgx,l_Fgy,by omega,hS,HN1,HN2⟩
      refine zc rfl (fun K hK => ?_) ?_
      ·go_simp
       have l_Fgy := hS.lt
       have hY := Nb.new false 0 0 W4
       replace hS := hS.alloc (.cells #[.bool false,.int .u64 0,.int .i64 0] 153)
       generalize World.alloc W4 (.cells #[.bool false,.int .u64 0,.int .i64 0] 153) = W5 at *
       generalize W4.heap.size = gy at *
       refine hK.out _ _ hS (fun _ => ?_)
       clear hK K
       try simp only [Act.put,sl2,sl0,sl1]
       refine zr 8 rfl (fun K hK => ?_)
       go_simp
       have l_Fgx := hS.lt
       have l_hYgx := hY.lt
       have hX := Nb.new false 0 0 W5
       replace hS := hS.alloc (.cells #[.bool false,.int .u64 0,.int .i64 0] 153)
       replace hY := hY.alloc (.cells #[.bool false,.int .u64 0,.int .i64 0] 153)
       generalize World.alloc W5 (.cells #[.bool false,.int .u64 0,.int .i64 0] 153) = W6 at *
       generalize W5.heap.size = gx at *
       refine hK.out _ _ hS (fun _ => ?_)
       clear hK K
       try simp only [Act.put,sl2,sl0,sl1]
       refine zr 10 rfl (fun K hK => ?_)
       obtain ⟨⟨x0,x1,x2⟩,x3,x4,x5⟩ := id hX
       go_simp
       clear x0 x1 x2 x3 x4 x5
       replace hS := hS.set3 (c := gx) (.bool n1) (.int .u64 y1) (.int .i64 d1) l_Fgx
       replace hY := hY.set3 (c := gx) (.bool n1) (.int .u64 y1) (.int .i64 d1) (by omega)
       replace hX := hX.store (ng' := n1) (m' := y1) (e' := d1)
       generalize ((W6.setCell ⟨gx,0,none⟩ (.bool n1)).setCell ⟨gx,1,none⟩ (.int .u64 y1)).setCell ⟨gx,2,none⟩ (.int .i64 d1) = W7 at *
       refine hK.out _ _ hS (fun _ => ?_)
       clear hK K
       try simp only [Act.put,sl2,sl0,sl1]
       refine zr 11 rfl (fun K hK => ?_)
       obtain ⟨⟨x0,x1,x2⟩,x3,x4,x5⟩ := id hY
       go_simp
       clear x0 x1 x2 x3 x4 x5
       replace hS := hS.set3 (c := gy) (.bool n2) (.int .u64 y2) (.int .i64 d2) l_Fgy
       replace hX := hX.set3 (c := gy) (.bool n2) (.int .u64 y2) (.int .i64 d2) (by omega)
       replace hY := hY.store (ng' := n2) (m' := y2) (e' := d2)
       generalize ((W7.setCell ⟨gy,0,none⟩ (.bool n2)).setCell ⟨gy,1,none⟩ (.int .u64 y2)).setCell ⟨gy,2,none⟩ (.int .i64 d2) = W8 at *
       refine hK.out _ _ hS (fun _ => ?_)
       clear hK K
       try simp only [Act.put,sl2,sl0,sl1]
       refine wpAnyH_done (by kernel_rfl) ?_ _
       (go_wp2_with fail)
       go_meet
       exact ⟨gx,gy,j1,y1,d1,j2,y2,d2,rfl,rfl,hX,hY,l_Fgx,l_Fgy,by omega,hS,HN1,HN2⟩
      exact zn
     refine zc rfl (fun K hK => ?_) ?_
     ·go_simp
      have l_Fgx := hS.lt
      have hX := Nb.new false 0 0 W3
      replace hS := hS.alloc (.cells #[.bool false,.int .u64 0,.int .i64 0] 153)
      generalize World.alloc W3 (.cells #[.bool false,.int .u64 0,.int .i64 0] 153) = W4 at *
      generalize W3.heap.size = gx at *
      refine hK.out _ _ hS (fun _ => ?_)
      clear hK K
      try simp only [Act.put,sl2,sl0,sl1]
      refine zm [7,9] ?_
      refine zc rfl (fun K hK => ?_) ?_
      ·go_simp
       go_at_call 159
       (with_reducible refine (normal_any n2 m2 HM2.out e2 HE2.out.1 HE2.out.2 _).mono ?_)
       rintro e W5 ⟨j2,hj,hl,hlt,he,hb⟩
       obtain ⟨y2,hy⟩ : ∃ y2 : Nat,y2 = m2 * 2 ^ j2 := ⟨_,rfl⟩
       obtain ⟨d2,hd⟩ : ∃ d2 : Int,d2 = e2 - (j2 : Int) := ⟨_,rfl⟩
       rw [← hy,← hd] at he
       subst he
       have HN2 := hid (And.intro hj (And.intro hl (And.intro hlt (And.intro hy hd))))
       clear hj hl hlt hy hd
       replace hS := hS.call hb
       replace hX := hX.call hb
       clear hb
       refine hK.out _ _ hS (fun _ => ?_)
       clear hK K
       try simp only [Act.put,sl2,sl0,sl1]
       refine zr 9 rfl (fun K hK => ?_)
       go_simp
       have l_Fgy := hS.lt
       have l_hXgy := hX.lt
       have hY := Nb.new false 0 0 W5
       replace hS := hS.alloc (.cells #[.bool false,.int .u64 0,.int .i64 0] 153)
       replace hX := hX.alloc (.cells #[.bool false,.int .u64 0,.int .i64 0] 153)
       generalize World.alloc W5 (.cells #[.bool false,.int .u64 0,.int .i64 0] 153) = W6 at *
       generalize W5.heap.size = gy at *
       refine hK.out _ _ hS (fun _ => ?_)
       clear hK K
       try simp only [Act.put,sl2,sl0,sl1]
       refine zr 10 rfl (fun K hK => ?_)
       obtain ⟨⟨x0,x1,x2⟩,x3,x4,x5⟩ := id hX
       go_simp
       clear x0 x1 x2 x3 x4 x5
       replace hS := hS.set3 (c := gx) (.bool n1) (.int .u64 y1) (.int .i64 d1) l_Fgx
       replace hY := hY.set3 (c := gx) (.bool n1) (.int .u64 y1) (.int .i64 d1) (by omega)
       replace hX := hX.store (ng' := n1) (m' := y1) (e' := d1)
       generalize ((W6.setCell ⟨gx,0,none⟩ (.bool n1)).setCell ⟨gx,1,none⟩ (.int .u64 y1)).setCell ⟨gx,2,none⟩ (.int .i64 d1) = W7 at *
       refine hK.out _ _ hS (fun _ => ?_)
       clear hK K
       try simp only [Act.put,sl2,sl0,sl1]
       refine zr 11 rfl (fun K hK => ?_)
       obtain ⟨⟨x0,x1,x2⟩,x3,x4,x5⟩ := id hY
       go_simp
       clear x0 x1 x2 x3 x4 x5
       replace hS := hS.set3 (c := gy) (.bool n2) (.int .u64 y2) (.int .i64 d2) l_Fgy
       replace hX := hX.set3 (c := gy) (.bool n2) (.int .u64 y2) (.int .i64 d2) (by omega)
       replace hY := hY.store (ng' := n2) (m' := y2) (e' := d2)
       generalize ((W7.setCell ⟨gy,0,none⟩ (.bool n2)).setCell ⟨gy,1,none⟩ (.int .u64 y2)).setCell ⟨gy,2,none⟩ (.int .i64 d2) = W8 at *
       refine hK.out _ _ hS (fun _ => ?_)
       clear hK K
       try simp only [Act.put,sl2,sl0,sl1]
       refine wpAnyH_done (by kernel_rfl) ?_ _
       (go_wp2_with fail)
       go_meet
       exact ⟨gx,gy,j1,y1,d1,j2,y2,d2,rfl,rfl,hX,hY,l_Fgx,l_Fgy,by omega,hS,HN1,HN2⟩
      refine zc rfl (fun K hK => ?_) ?_
      ·go_simp
       have l_Fgy := hS.lt
       have l_hXgy := hX.lt
       have hY := Nb.new false 0 0 W4
       replace hS := hS.alloc (.cells #[.bool false,.int .u64 0,.int .i64 0] 153)
       replace hX := hX.alloc (.cells #[.bool false,.int .u64 0,.int .i64 0] 153)
       generalize World.alloc W4 (.cells #[.bool false,.int .u64 0,.int .i64 0] 153) = W5 at *
       generalize W4.heap.size = gy at *
       refine hK.out _ _ hS (fun _ => ?_)
       clear hK K
       try simp only [Act.put,sl2,sl0,sl1]
       refine zr 7 rfl (fun K hK => ?_)
       go_simp
       go_at_call 159
       (with_reducible refine (normal_any n2 m2 HM2.out e2 HE2.out.1 HE2.out.2 _).mono ?_)
       rintro e W6 ⟨j2,hj,hl,hlt,he,hb⟩
       obtain ⟨y2,hy⟩ : ∃ y2 : Nat,y2 = m2 * 2 ^ j2 := ⟨_,rfl⟩
       obtain ⟨d2,hd⟩ : ∃ d2 : Int,d2 = e2 - (j2 : Int) := ⟨_,rfl⟩
       rw [← hy,← hd] at he
       subst he
       have HN2 := hid (And.intro hj (And.intro hl (And.intro hlt (And.intro hy hd))))
       clear hj hl hlt hy hd
       replace hS := hS.call hb
       replace hX := hX.call hb
       replace hY := hY.call hb
       clear hb
       refine hK.out _ _ hS (fun _ => ?_)
       clear hK K
       try simp only [Act.put,sl2,sl0,sl1]
       refine zr 10 rfl (fun K hK => ?_)
       obtain ⟨⟨x0,x1,x2⟩,x3,x4,x5⟩ := id hX
       go_simp
       clear x0 x1 x2 x3 x4 x5
       replace hS := hS.set3 (c := gx) (.bool n1) (.int .u64 y1) (.int .i64 d1) l_Fgx
       replace hY := hY.set3 (c := gx) (.bool n1) (.int .u64 y1) (.int .i64 d1) (by omega)
       replace hX := hX.store (ng' := n1) (m' := y1) (e' := d1)
       generalize ((W6.setCell ⟨gx,0,none⟩ (.bool n1)).setCell ⟨gx,1,none⟩ (.int .u64 y1)).setCell ⟨gx,2,none⟩ (.int .i64 d1) = W7 at *
       refine hK.out _ _ hS (fun _ => ?_)
       clear hK K
       try simp only [Act.put,sl2,sl0,sl1]
       refine zr 11 rfl (fun K hK => ?_)
       obtain ⟨⟨x0,x1,x2⟩,x3,x4,x5⟩ := id hY
       go_simp
       clear x0 x1 x2 x3 x4 x5
       replace hS := hS.set3 (c := gy) (.bool n2) (.int .u64 y2) (.int .i64 d2) l_Fgy
       replace hX := hX.set3 (c := gy) (.bool n2) (.int .u64 y2) (.int .i64 d2) (by omega)
       replace hY := hY.store (ng' := n2) (m' := y2) (e' := d2)
       generalize ((W7.setCell ⟨gy,0,none⟩ (.bool n2)).setCell ⟨gy,1,none⟩ (.int .u64 y2)).setCell ⟨gy,2,none⟩ (.int .i64 d2) = W8 at *
       refine hK.out _ _ hS (fun _ => ?_)
       clear hK K
       try simp only [Act.put,sl2,sl0,sl1]
       refine wpAnyH_done (by kernel_rfl) ?_ _
       (go_wp2_with fail)
       go_meet
       exact ⟨gx,gy,j1,y1,d1,j2,y2,d2,rfl,rfl,hX,hY,l_Fgx,l_Fgy,by omega,hS,HN1,HN2⟩
      exact zn
     refine zc rfl (fun K hK => ?_) ?_
     ·go_simp
      have l_Fgy := hS.lt
      have hY := Nb.new false 0 0 W3
      replace hS := hS.alloc (.cells #[.bool false,.int .u64 0,.int .i64 0] 153)
      generalize World.alloc W3 (.cells #[.bool false,.int .u64 0,.int .i64 0] 153) = W4 at *
      generalize W3.heap.size = gy at *
      refine hK.out _ _ hS (fun _ => ?_)
      clear hK K
      try simp only [Act.put,sl2,sl0,sl1]
      refine zm [7,8] ?_
      refine zc rfl (fun K hK => ?_) ?_
      ·go_simp
       go_at_call 159
       (with_reducible refine (normal_any n2 m2 HM2.out e2 HE2.out.1 HE2.out.2 _).mono ?_)
       rintro e W5 ⟨j2,hj,hl,hlt,he,hb⟩
       obtain ⟨y2,hy⟩ : ∃ y2 : Nat,y2 = m2 * 2 ^ j2 := ⟨_,rfl⟩
       obtain ⟨d2,hd⟩ : ∃ d2 : Int,d2 = e2 - (j2 : Int) := ⟨_,rfl⟩
       rw [← hy,← hd] at he
       subst he
       have HN2 := hid (And.intro hj (And.intro hl (And.intro hlt (And.intro hy hd))))
       clear hj hl hlt hy hd
       replace hS := hS.call hb
       replace hY := hY.call hb
       clear hb
       refine hK.out _ _ hS (fun _ => ?_)
       clear hK K
       try simp only [Act.put,sl2,sl0,sl1]
       refine zr 8 rfl (fun K hK => ?_)
       go_simp
       have l_Fgx := hS.lt
       have l_hYgx := hY.lt
       have hX := Nb.new false 0 0 W5
       replace hS := hS.alloc (.cells #[.bool false,.int .u64 0,.int .i64 0] 153)
       replace hY := hY.alloc (.cells #[.bool false,.int .u64 0,.int .i64 0] 153)
       generalize World.alloc W5 (.cells #[.bool false,.int .u64 0,.int .i64 0] 153) = W6 at *
       generalize W5.heap.size = gx at *
       refine hK.out _ _ hS (fun _ => ?_)
       clear hK K
       try simp only [Act.put,sl2,sl0,sl1]
       refine zr 10 rfl (fun K hK => ?_)
       obtain ⟨⟨x0,x1,x2⟩,x3,x4,x5⟩ := id hX
       go_simp
       clear x0 x1 x2 x3 x4 x5
       replace hS := hS.set3 (c := gx) (.bool n1) (.int .u64 y1) (.int .i64 d1) l_Fgx
       replace hY := hY.set3 (c := gx) (.bool n1) (.int .u64 y1) (.int .i64 d1) (by omega)
       replace hX := hX.store (ng' := n1) (m' := y1) (e' := d1)
       generalize ((W6.setCell ⟨gx,0,none⟩ (.bool n1)).setCell ⟨gx,1,none⟩ (.int .u64 y1)).setCell ⟨gx,2,none⟩ (.int .i64 d1) = W7 at *
       refine hK.out _ _ hS (fun _ => ?_)
       clear hK K
       try simp only [Act.put,sl2,sl0,sl1]
       refine zr 11 rfl (fun K hK => ?_)
       obtain ⟨⟨x0,x1,x2⟩,x3,x4,x5⟩ := id hY
       go_simp
       clear x0 x1 x2 x3 x4 x5
       replace hS := hS.set3 (c := gy) (.bool n2) (.int .u64 y2) (.int .i64 d2) l_Fgy
       replace hX := hX.set3 (c := gy) (.bool n2) (.int .u64 y2) (.int .i64 d2) (by omega)
       replace hY := hY.store (ng' := n2) (m' := y2) (e' := d2)
       generalize ((W7.setCell ⟨gy,0,none⟩ (.bool n2)).setCell ⟨gy,1,none⟩ (.int .u64 y2)).setCell ⟨gy,2,none⟩ (.int .i64 d2) = W8 at *
       refine hK.out _ _ hS (fun _ => ?_)
       clear hK K
       try simp only [Act.put,sl2,sl0,sl1]
       refine wpAnyH_done (by kernel_rfl) ?_ _
       (go_wp2_with fail)
       go_meet
       exact ⟨gx,gy,j1,y1,d1,j2,y2,d2,rfl,rfl,hX,hY,l_Fgx,l_Fgy,by omega,hS,HN1,HN2⟩
      refine zc rfl (fun K hK => ?_) ?_
      ·go_simp
       have l_Fgx := hS.lt
       have l_hYgx := hY.lt
       have hX := Nb.new false 0 0 W4
       replace hS := hS.alloc (.cells #[.bool false,.int .u64 0,.int .i64 0] 153)
       replace hY := hY.alloc (.cells #[.bool false,.int .u64 0,.int .i64 0] 153)
       generalize World.alloc W4 (.cells #[.bool false,.int .u64 0,.int .i64 0] 153) = W5 at *
       generalize W4.heap.size = gx at *
       refine hK.out _ _ hS (fun _ => ?_)
       clear hK K
       try simp only [Act.put,sl2,sl0,sl1]
       refine zr 7 rfl (fun K hK => ?_)
       go_simp
       go_at_call 159
       (with_reducible refine (normal_any n2 m2 HM2.out e2 HE2.out.1 HE2.out.2 _).mono ?_)
       rintro e W6 ⟨j2,hj,hl,hlt,he,hb⟩
       obtain ⟨y2,hy⟩ : ∃ y2 : Nat,y2 = m2 * 2 ^ j2 := ⟨_,rfl⟩
       obtain ⟨d2,hd⟩ : ∃ d2 : Int,d2 = e2 - (j2 : Int) := ⟨_,rfl⟩
       rw [← hy,← hd] at he
       subst he
       have HN2 := hid (And.intro hj (And.intro hl (And.intro hlt (And.intro hy hd))))
       clear hj hl hlt hy hd
       replace hS := hS.call hb
       replace hY := hY.call hb
       replace hX := hX.call hb
       clear hb
       refine hK.out _ _ hS (fun _ => ?_)
       clear hK K
       try simp only [Act.put,sl2,sl0,sl1]
       refine zr 10 rfl (fun K hK => ?_)
       obtain ⟨⟨x0,x1,x2⟩,x3,x4,x5⟩ := id hX
       go_simp
       clear x0 x1 x2 x3 x4 x5
       replace hS := hS.set3 (c := gx) (.bool n1) (.int .u64 y1) (.int .i64 d1) l_Fgx
       replace hY := hY.set3 (c := gx) (.bool n1) (.int .u64 y1) (.int .i64 d1) (by omega)
       replace hX := hX.store (ng' := n1) (m' := y1) (e' := d1)
       generalize ((W6.setCell ⟨gx,0,none⟩ (.bool n1)).setCell ⟨gx,1,none⟩ (.int .u64 y1)).setCell ⟨gx,2,none⟩ (.int .i64 d1) = W7 at *
       refine hK.out _ _ hS (fun _ => ?_)
       clear hK K
       try simp only [Act.put,sl2,sl0,sl1]
       refine zr 11 rfl (fun K hK => ?_)
       obtain ⟨⟨x0,x1,x2⟩,x3,x4,x5⟩ := id hY
       go_simp
       clear x0 x1 x2 x3 x4 x5
       replace hS := hS.set3 (c := gy) (.bool n2) (.int .u64 y2) (.int .i64 d2) l_Fgy
       replace hX := hX.set3 (c := gy) (.bool n2) (.int .u64 y2) (.int .i64 d2) (by omega)
       replace hY := hY.store (ng' := n2) (m' := y2) (e' := d2)
       generalize ((W7.setCell ⟨gy,0,none⟩ (.bool n2)).setCell ⟨gy,1,none⟩ (.int .u64 y2)).setCell ⟨gy,2,none⟩ (.int .i64 d2) = W8 at *
       refine hK.out _ _ hS (fun _ => ?_)
       clear hK K
       try simp only [Act.put,sl2,sl0,sl1]
       refine wpAnyH_done (by kernel_rfl) ?_ _
       (go_wp2_with fail)
       go_meet
       exact ⟨gx,gy,j1,y1,d1,j2,y2,d2,rfl,rfl,hX,hY,l_Fgx,l_Fgy,by omega,hS,HN1,HN2⟩
      exact zn
     exact zn
    refine zc rfl (fun K hK => ?_) ?_
    ·go_simp
     have l_Fgx := hS.lt
     have hX := Nb.new false 0 0 W2
     replace hS := hS.alloc (.cells #[.bool false,.int .u64 0,.int .i64 0] 153)
     generalize World.alloc W2 (.cells #[.bool false,.int .u64 0,.int .i64 0] 153) = W3 at *
     generalize W2.heap.size = gx at *
     refine hK.out _ _ hS (fun _ => ?_)
     clear hK K
     try simp only [Act.put,sl2,sl0,sl1]
     refine zm [6,9] ?_
     refine zc rfl (fun K hK => ?_) ?_
     ·go_simp
      go_at_call 160
      (with_reducible refine (PB _).out.mono ?_)
      rintro e W4 ⟨rfl,hb⟩
      replace hS := hS.call hb
      replace hX := hX.call hb
      clear hb
      refine hK.out _ _ hS (fun _ => ?_)
      clear hK K
      try simp only [Act.put,sl2,sl0,sl1]
      refine zm [7,9] ?_
      refine zc rfl (fun K hK => ?_) ?_
      ·go_simp
       go_at_call 159
       (with_reducible refine (normal_any n2 m2 HM2.out e2 HE2.out.1 HE2.out.2 _).mono ?_)
       rintro e W5 ⟨j2,hj,hl,hlt,he,hb⟩
       obtain ⟨y2,hy⟩ : ∃ y2 : Nat,y2 = m2 * 2 ^ j2 := ⟨_,rfl⟩
       obtain ⟨d2,hd⟩ : ∃ d2 : Int,d2 = e2 - (j2 : Int) := ⟨_,rfl⟩
       rw [← hy,← hd] at he
       subst he
       have HN2 := hid (And.intro hj (And.intro hl (And.intro hlt (And.intro hy hd))))
       clear hj hl hlt hy hd
       replace hS := hS.call hb
       replace hX := hX.call hb
       clear hb
       refine hK.out _ _ hS (fun _ => ?_)
       clear hK K
       try simp only [Act.put,sl2,sl0,sl1]
       refine zr 9 rfl (fun K hK => ?_)
       go_simp
       have l_Fgy := hS.lt
       have l_hXgy := hX.lt
       have hY := Nb.new false 0 0 W5
       replace hS := hS.alloc (.cells #[.bool false,.int .u64 0,.int .i64 0] 153)
       replace hX := hX.alloc (.cells #[.bool false,.int .u64 0,.int .i64 0] 153)
       generalize World.alloc W5 (.cells #[.bool false,.int .u64 0,.int .i64 0] 153) = W6 at *
       generalize W5.heap.size = gy at *
       refine hK.out _ _ hS (fun _ => ?_)
       clear hK K
       try simp only [Act.put,sl2,sl0,sl1]
       refine zr 10 rfl (fun K hK => ?_)
       obtain ⟨⟨x0,x1,x2⟩,x3,x4,x5⟩ := id hX
       go_simp
       clear x0 x1 x2 x3 x4 x5
       replace hS := hS.set3 (c := gx) (.bool n1) (.int .u64 y1) (.int .i64 d1) l_Fgx
       replace hY := hY.set3 (c := gx) (.bool n1) (.int .u64 y1) (.int .i64 d1) (by omega)
       replace hX := hX.store (ng' := n1) (m' := y1) (e' := d1)
       generalize ((W6.setCell ⟨gx,0,none⟩ (.bool n1)).setCell ⟨gx,1,none⟩ (.int .u64 y1)).setCell ⟨gx,2,none⟩ (.int .i64 d1) = W7 at *
       refine hK.out _ _ hS (fun _ => ?_)
       clear hK K
       try simp only [Act.put,sl2,sl0,sl1]
       refine zr 11 rfl (fun K hK => ?_)
       obtain ⟨⟨x0,x1,x2⟩,x3,x4,x5⟩ := id hY
       go_simp
       clear x0 x1 x2 x3 x4 x5
       replace hS := hS.set3 (c := gy) (.bool n2) (.int .u64 y2) (.int .i64 d2) l_Fgy
       replace hX := hX.set3 (c := gy) (.bool n2) (.int .u64 y2) (.int .i64 d2) (by omega)
       replace hY := hY.store (ng' := n2) (m' := y2) (e' := d2)
       generalize ((W7.setCell ⟨gy,0,none⟩ (.bool n2)).setCell ⟨gy,1,none⟩ (.int .u64 y2)).setCell ⟨gy,2,none⟩ (.int .i64 d2) = W8 at *
       refine hK.out _ _ hS (fun _ => ?_)
       clear hK K
       try simp only [Act.put,sl2,sl0,sl1]
       refine wpAnyH_done (by kernel_rfl) ?_ _
       (go_wp2_with fail)
       go_meet
       exact ⟨gx,gy,j1,y1,d1,j2,y2,d2,rfl,rfl,hX,hY,l_Fgx,l_Fgy,by omega,hS,HN1,HN2⟩
      refine zc rfl (fun K hK => ?_) ?_
      ·go_simp
       have l_Fgy := hS.lt
       have l_hXgy := hX.lt
       have hY := Nb.new false 0 0 W4
       replace hS := hS.alloc (.cells #[.bool false,.int .u64 0,.int .i64 0] 153)
       replace hX := hX.alloc (.cells #[.bool false,.int .u64 0,.int .i64 0] 153)
       generalize World.alloc W4 (.cells #[.bool false,.int .u64 0,.int .i64 0] 153) = W5 at *
       generalize W4.heap.size = gy at *
       refine hK.out _ _ hS (fun _ => ?_)
       clear hK K
       try simp only [Act.put,sl2,sl0,sl1]
       refine zr 7 rfl (fun K hK => ?_)
       go_simp
       go_at_call 159
       (with_reducible refine (normal_any n2 m2 HM2.out e2 HE2.out.1 HE2.out.2 _).mono ?_)
       rintro e W6 ⟨j2,hj,hl,hlt,he,hb⟩
       obtain ⟨y2,hy⟩ : ∃ y2 : Nat,y2 = m2 * 2 ^ j2 := ⟨_,rfl⟩
       obtain ⟨d2,hd⟩ : ∃ d2 : Int,d2 = e2 - (j2 : Int) := ⟨_,rfl⟩
       rw [← hy,← hd] at he
       subst he
       have HN2 := hid (And.intro hj (And.intro hl (And.intro hlt (And.intro hy hd))))
       clear hj hl hlt hy hd
       replace hS := hS.call hb
       replace hX := hX.call hb
       replace hY := hY.call hb
       clear hb
       refine hK.out _ _ hS (fun _ => ?_)
       clear hK K
       try simp only [Act.put,sl2,sl0,sl1]
       refine zr 10 rfl (fun K hK => ?_)
       obtain ⟨⟨x0,x1,x2⟩,x3,x4,x5⟩ := id hX
       go_simp
       clear x0 x1 x2 x3 x4 x5
       replace hS := hS.set3 (c := gx) (.bool n1) (.int .u64 y1) (.int .i64 d1) l_Fgx
       replace hY := hY.set3 (c := gx) (.bool n1) (.int .u64 y1) (.int .i64 d1) (by omega)
       replace hX := hX.store (ng' := n1) (m' := y1) (e' := d1)
       generalize ((W6.setCell ⟨gx,0,none⟩ (.bool n1)).setCell ⟨gx,1,none⟩ (.int .u64 y1)).setCell ⟨gx,2,none⟩ (.int .i64 d1) = W7 at *
       refine hK.out _ _ hS (fun _ => ?_)
       clear hK K
       try simp only [Act.put,sl2,sl0,sl1]
       refine zr 11 rfl (fun K hK => ?_)
       obtain ⟨⟨x0,x1,x2⟩,x3,x4,x5⟩ := id hY
       go_simp
       clear x0 x1 x2 x3 x4 x5
       replace hS := hS.set3 (c := gy) (.bool n2) (.int .u64 y2) (.int .i64 d2) l_Fgy
       replace hX := hX.set3 (c := gy) (.bool n2) (.int .u64 y2) (.int .i64 d2) (by omega)
       replace hY := hY.store (ng' := n2) (m' := y2) (e' := d2)
       generalize ((W7.setCell ⟨gy,0,none⟩ (.bool n2)).setCell ⟨gy,1,none⟩ (.int .u64 y2)).setCell ⟨gy,2,none⟩ (.int .i64 d2) = W8 at *
       refine hK.out _ _ hS (fun _ => ?_)
       clear hK K
       try simp only [Act.put,sl2,sl0,sl1]
       refine wpAnyH_done (by kernel_rfl) ?_ _
       (go_wp2_with fail)
       go_meet
       exact ⟨gx,gy,j1,y1,d1,j2,y2,d2,rfl,rfl,hX,hY,l_Fgx,l_Fgy,by omega,hS,HN1,HN2⟩
      exact zn
     refine zc rfl (fun K hK => ?_) ?_
     ·go_simp
      have l_Fgy := hS.lt
      have l_hXgy := hX.lt
      have hY := Nb.new false 0 0 W3
      replace hS := hS.alloc (.cells #[.bool false,.int .u64 0,.int .i64 0] 153)
      replace hX := hX.alloc (.cells #[.bool false,.int .u64 0,.int .i64 0] 153)
      generalize World.alloc W3 (.cells #[.bool false,.int .u64 0,.int .i64 0] 153) = W4 at *
      generalize W3.heap.size = gy at *
      refine hK.out _ _ hS (fun _ => ?_)
      clear hK K
      try simp only [Act.put,sl2,sl0,sl1]
      refine zr 6 rfl (fun K hK => ?_)
      go_simp
      go_at_call 160
      (with_reducible refine (PB _).out.mono ?_)
      rintro e W5 ⟨rfl,hb⟩
      replace hS := hS.call hb
      replace hX := hX.call hb
      replace hY := hY.call hb
      clear hb
      refine hK.out _ _ hS (fun _ => ?_)
      clear hK K
      try simp only [Act.put,sl2,sl0,sl1]
      refine zr 7 rfl (fun K hK => ?_)
      go_simp
      go_at_call 159
      (with_reducible refine (normal_any n2 m2 HM2.out e2 HE2.out.1 HE2.out.2 _).mono ?_)
      rintro e W6 ⟨j2,hj,hl,hlt,he,hb⟩
      obtain ⟨y2,hy⟩ : ∃ y2 : Nat,y2 = m2 * 2 ^ j2 := ⟨_,rfl⟩
      obtain ⟨d2,hd⟩ : ∃ d2 : Int,d2 = e2 - (j2 : Int) := ⟨_,rfl⟩
      rw [← hy,← hd] at he
      subst he
      have HN2 := hid (And.intro hj (And.intro hl (And.intro hlt (And.intro hy hd))))
      clear hj hl hlt hy hd
      replace hS := hS.call hb
      replace hX := hX.call hb
      replace hY := hY.call hb
      clear hb
      refine hK.out _ _ hS (fun _ => ?_)
      clear hK K
      try simp only [Act.put,sl2,sl0,sl1]
      refine zr 10 rfl (fun K hK => ?_)
      obtain ⟨⟨x0,x1,x2⟩,x3,x4,x5⟩ := id hX
      go_simp
      clear x0 x1 x2 x3 x4 x5
      replace hS := hS.set3 (c := gx) (.bool n1) (.int .u64 y1) (.int .i64 d1) l_Fgx
      replace hY := hY.set3 (c := gx) (.bool n1) (.int .u64 y1) (.int .i64 d1) (by omega)
      replace hX := hX.store (ng' := n1) (m' := y1) (e' := d1)
      generalize ((W6.setCell ⟨gx,0,none⟩ (.bool n1)).setCell ⟨gx,1,none⟩ (.int .u64 y1)).setCell ⟨gx,2,none⟩ (.int .i64 d1) = W7 at *
      refine hK.out _ _ hS (fun _ => ?_)
      clear hK K
      try simp only [Act.put,sl2,sl0,sl1]
      refine zr 11 rfl (fun K hK => ?_)
      obtain ⟨⟨x0,x1,x2⟩,x3,x4,x5⟩ := id hY
      go_simp
      clear x0 x1 x2 x3 x4 x5
      replace hS := hS.set3 (c := gy) (.bool n2) (.int .u64 y2) (.int .i64 d2) l_Fgy
      replace hX := hX.set3 (c := gy) (.bool n2) (.int .u64 y2) (.int .i64 d2) (by omega)
      replace hY := hY.store (ng' := n2) (m' := y2) (e' := d2)
      generalize ((W7.setCell ⟨gy,0,none⟩ (.bool n2)).setCell ⟨gy,1,none⟩ (.int .u64 y2)).setCell ⟨gy,2,none⟩ (.int .i64 d2) = W8 at *
      refine hK.out _ _ hS (fun _ => ?_)
      clear hK K
      try simp only [Act.put,sl2,sl0,sl1]
      refine wpAnyH_done (by kernel_rfl) ?_ _
      (go_wp2_with fail)
      go_meet
      exact ⟨gx,gy,j1,y1,d1,j2,y2,d2,rfl,rfl,hX,hY,l_Fgx,l_Fgy,by omega,hS,HN1,HN2⟩
     exact zn
    refine zc rfl (fun K hK => ?_) ?_
    ·go_simp
     have l_Fgy := hS.lt
     have hY := Nb.new false 0 0 W2
     replace hS := hS.alloc (.cells #[.bool false,.int .u64 0,.int .i64 0] 153)
     generalize World.alloc W2 (.cells #[.bool false,.int .u64 0,.int .i64 0] 153) = W3 at *
     generalize W2.heap.size = gy at *
     refine hK.out _ _ hS (fun _ => ?_)
     clear hK K
     try simp only [Act.put,sl2,sl0,sl1]
     refine zm [6,8] ?_
     refine zc rfl (fun K hK => ?_) ?_
     ·go_simp
      go_at_call 160
      (with_reducible refine (PB _).out.mono ?_)
      rintro e W4 ⟨rfl,hb⟩
      replace hS := hS.call hb
      replace hY := hY.call hb
      clear hb
      refine hK.out _ _ hS (fun _ => ?_)
      clear hK K
      try simp only [Act.put,sl2,sl0,sl1]
      refine zm [7,8] ?_
      refine zc rfl (fun K hK => ?_) ?_
      ·go_simp
       go_at_call 159
       (with_reducible refine (normal_any n2 m2 HM2.out e2 HE2.out.1 HE2.out.2 _).mono ?_)
       rintro e W5 ⟨j2,hj,hl,hlt,he,hb⟩
       obtain ⟨y2,hy⟩ : ∃ y2 : Nat,y2 = m2 * 2 ^ j2 := ⟨_,rfl⟩
       obtain ⟨d2,hd⟩ : ∃ d2 : Int,d2 = e2 - (j2 : Int) := ⟨_,rfl⟩
       rw [← hy,← hd] at he
       subst he
       have HN2 := hid (And.intro hj (And.intro hl (And.intro hlt (And.intro hy hd))))
       clear hj hl hlt hy hd
       replace hS := hS.call hb
       replace hY := hY.call hb
       clear hb
       refine hK.out _ _ hS (fun _ => ?_)
       clear hK K
       try simp only [Act.put,sl2,sl0,sl1]
       refine zr 8 rfl (fun K hK => ?_)
       go_simp
       have l_Fgx := hS.lt
       have l_hYgx := hY.lt
       have hX := Nb.new false 0 0 W5
       replace hS := hS.alloc (.cells #[.bool false,.int .u64 0,.int .i64 0] 153)
       replace hY := hY.alloc (.cells #[.bool false,.int .u64 0,.int .i64 0] 153)
       generalize World.alloc W5 (.cells #[.bool false,.int .u64 0,.int .i64 0] 153) = W6 at *
       generalize W5.heap.size = gx at *
       refine hK.out _ _ hS (fun _ => ?_)
       clear hK K
       try simp only [Act.put,sl2,sl0,sl1]
       refine zr 10 rfl (fun K hK => ?_)
       obtain ⟨⟨x0,x1,x2⟩,x3,x4,x5⟩ := id hX
       go_simp
       clear x0 x1 x2 x3 x4 x5
       replace hS := hS.set3 (c := gx) (.bool n1) (.int .u64 y1) (.int .i64 d1) l_Fgx
       replace hY := hY.set3 (c := gx) (.bool n1) (.int .u64 y1) (.int .i64 d1) (by omega)
       replace hX := hX.store (ng' := n1) (m' := y1) (e' := d1)
       generalize ((W6.setCell ⟨gx,0,none⟩ (.bool n1)).setCell ⟨gx,1,none⟩ (.int .u64 y1)).setCell ⟨gx,2,none⟩ (.int .i64 d1) = W7 at *
       refine hK.out _ _ hS (fun _ => ?_)
       clear hK K
       try simp only [Act.put,sl2,sl0,sl1]
       refine zr 11 rfl (fun K hK => ?_)
       obtain ⟨⟨x0,x1,x2⟩,x3,x4,x5⟩ := id hY
       go_simp
       clear x0 x1 x2 x3 x4 x5
       replace hS := hS.set3 (c := gy) (.bool n2) (.int .u64 y2) (.int .i64 d2) l_Fgy
       replace hX := hX.set3 (c := gy) (.bool n2) (.int .u64 y2) (.int .i64 d2) (by omega)
       replace hY := hY.store (ng' := n2) (m' := y2) (e' := d2)
       generalize ((W7.setCell ⟨gy,0,none⟩ (.bool n2)).setCell ⟨gy,1,none⟩ (.int .u64 y2)).setCell ⟨gy,2,none⟩ (.int .i64 d2) = W8 at *
       refine hK.out _ _ hS (fun _ => ?_)
       clear hK K
       try simp only [Act.put,sl2,sl0,sl1]
       refine wpAnyH_done (by kernel_rfl) ?_ _
       (go_wp2_with fail)
       go_meet
       exact ⟨gx,gy,j1,y1,d1,j2,y2,d2,rfl,rfl,hX,hY,l_Fgx,l_Fgy,by omega,hS,HN1,HN2⟩
      refine zc rfl (fun K hK => ?_) ?_
      ·go_simp
       have l_Fgx := hS.lt
       have l_hYgx := hY.lt
       have hX := Nb.new false 0 0 W4
       replace hS := hS.alloc (.cells #[.bool false,.int .u64 0,.int .i64 0] 153)
       replace hY := hY.alloc (.cells #[.bool false,.int .u64 0,.int .i64 0] 153)
       generalize World.alloc W4 (.cells #[.bool false,.int .u64 0,.int .i64 0] 153) = W5 at *
       generalize W4.heap.size = gx at *
       refine hK.out _ _ hS (fun _ => ?_)
       clear hK K
       try simp only [Act.put,sl2,sl0,sl1]
       refine zr 7 rfl (fun K hK => ?_)
       go_simp
       go_at_call 159
       (with_reducible refine (normal_any n2 m2 HM2.out e2 HE2.out.1 HE2.out.2 _).mono ?_)
       rintro e W6 ⟨j2,hj,hl,hlt,he,hb⟩
       obtain ⟨y2,hy⟩ : ∃ y2 : Nat,y2 = m2 * 2 ^ j2 := ⟨_,rfl⟩
       obtain ⟨d2,hd⟩ : ∃ d2 : Int,d2 = e2 - (j2 : Int) := ⟨_,rfl⟩
       rw [← hy,← hd] at he
       subst he
       have HN2 := hid (And.intro hj (And.intro hl (And.intro hlt (And.intro hy hd))))
       clear hj hl hlt hy hd
       replace hS := hS.call hb
       replace hY := hY.call hb
       replace hX := hX.call hb
       clear hb
       refine hK.out _ _ hS (fun _ => ?_)
       clear hK K
       try simp only [Act.put,sl2,sl0,sl1]
       refine zr 10 rfl (fun K hK => ?_)
       obtain ⟨⟨x0,x1,x2⟩,x3,x4,x5⟩ := id hX
       go_simp
       clear x0 x1 x2 x3 x4 x5
       replace hS := hS.set3 (c := gx) (.bool n1) (.int .u64 y1) (.int .i64 d1) l_Fgx
       replace hY := hY.set3 (c := gx) (.bool n1) (.int .u64 y1) (.int .i64 d1) (by omega)
       replace hX := hX.store (ng' := n1) (m' := y1) (e' := d1)
       generalize ((W6.setCell ⟨gx,0,none⟩ (.bool n1)).setCell ⟨gx,1,none⟩ (.int .u64 y1)).setCell ⟨gx,2,none⟩ (.int .i64 d1) = W7 at *
       refine hK.out _ _ hS (fun _ => ?_)
       clear hK K
       try simp only [Act.put,sl2,sl0,sl1]
       refine zr 11 rfl (fun K hK => ?_)
       obtain ⟨⟨x0,x1,x2⟩,x3,x4,x5⟩ := id hY
       go_simp
       clear x0 x1 x2 x3 x4 x5
       replace hS := hS.set3 (c := gy) (.bool n2) (.int .u64 y2) (.int .i64 d2) l_Fgy
       replace hX := hX.set3 (c := gy) (.bool n2) (.int .u64 y2) (.int .i64 d2) (by omega)
       replace hY := hY.store (ng' := n2) (m' := y2) (e' := d2)
       generalize ((W7.setCell ⟨gy,0,none⟩ (.bool n2)).setCell ⟨gy,1,none⟩ (.int .u64 y2)).setCell ⟨gy,2,none⟩ (.int .i64 d2) = W8 at *
       refine hK.out _ _ hS (fun _ => ?_)
       clear hK K
       try simp only [Act.put,sl2,sl0,sl1]
       refine wpAnyH_done (by kernel_rfl) ?_ _
       (go_wp2_with fail)
       go_meet
       exact ⟨gx,gy,j1,y1,d1,j2,y2,d2,rfl,rfl,hX,hY,l_Fgx,l_Fgy,by omega,hS,HN1,HN2⟩
      exact zn
     refine zc rfl (fun K hK => ?_) ?_
     ·go_simp
      have l_Fgx := hS.lt
      have l_hYgx := hY.lt
      have hX := Nb.new false 0 0 W3
      replace hS := hS.alloc (.cells #[.bool false,.int .u64 0,.int .i64 0] 153)
      replace hY := hY.alloc (.cells #[.bool false,.int .u64 0,.int .i64 0] 153)
      generalize World.alloc W3 (.cells #[.bool false,.int .u64 0,.int .i64 0] 153) = W4 at *
      generalize W3.heap.size = gx at *
      refine hK.out _ _ hS (fun _ => ?_)
      clear hK K
      try simp only [Act.put,sl2,sl0,sl1]
      refine zr 6 rfl (fun K hK => ?_)
      go_simp
      go_at_call 160
      (with_reducible refine (PB _).out.mono ?_)
      rintro e W5 ⟨rfl,hb⟩
      replace hS := hS.call hb
      replace hY := hY.call hb
      replace hX := hX.call hb
      clear hb
      refine hK.out _ _ hS (fun _ => ?_)
      clear hK K
      try simp only [Act.put,sl2,sl0,sl1]
      refine zr 7 rfl (fun K hK => ?_)
      go_simp
      go_at_call 159
      (with_reducible refine (normal_any n2 m2 HM2.out e2 HE2.out.1 HE2.out.2 _).mono ?_)
      rintro e W6 ⟨j2,hj,hl,hlt,he,hb⟩
      obtain ⟨y2,hy⟩ : ∃ y2 : Nat,y2 = m2 * 2 ^ j2 := ⟨_,rfl⟩
      obtain ⟨d2,hd⟩ : ∃ d2 : Int,d2 = e2 - (j2 : Int) := ⟨_,rfl⟩
      rw [← hy,← hd] at he
      subst he
      have HN2 := hid (And.intro hj (And.intro hl (And.intro hlt (And.intro hy hd))))
      clear hj hl hlt hy hd
      replace hS := hS.call hb
      replace hY := hY.call hb
      replace hX := hX.call hb
      clear hb
      refine hK.out _ _ hS (fun _ => ?_)
      clear hK K
      try simp only [Act.put,sl2,sl0,sl1]
      refine zr 10 rfl (fun K hK => ?_)
      obtain ⟨⟨x0,x1,x2⟩,x3,x4,x5⟩ := id hX
      go_simp
      clear x0 x1 x2 x3 x4 x5
      replace hS := hS.set3 (c := gx) (.bool n1) (.int .u64 y1) (.int .i64 d1) l_Fgx
      replace hY := hY.set3 (c := gx) (.bool n1) (.int .u64 y1) (.int .i64 d1) (by omega)
      replace hX := hX.store (ng' := n1) (m' := y1) (e' := d1)
      generalize ((W6.setCell ⟨gx,0,none⟩ (.bool n1)).setCell ⟨gx,1,none⟩ (.int .u64 y1)).setCell ⟨gx,2,none⟩ (.int .i64 d1) = W7 at *
      refine hK.out _ _ hS (fun _ => ?_)
      clear hK K
      try simp only [Act.put,sl2,sl0,sl1]
      refine zr 11 rfl (fun K hK => ?_)
      obtain ⟨⟨x0,x1,x2⟩,x3,x4,x5⟩ := id hY
      go_simp
      clear x0 x1 x2 x3 x4 x5
      replace hS := hS.set3 (c := gy) (.bool n2) (.int .u64 y2) (.int .i64 d2) l_Fgy
      replace hX := hX.set3 (c := gy) (.bool n2) (.int .u64 y2) (.int .i64 d2) (by omega)
      replace hY := hY.store (ng' := n2) (m' := y2) (e' := d2)
      generalize ((W7.setCell ⟨gy,0,none⟩ (.bool n2)).setCell ⟨gy,1,none⟩ (.int .u64 y2)).setCell ⟨gy,2,none⟩ (.int .i64 d2) = W8 at *
      refine hK.out _ _ hS (fun _ => ?_)
      clear hK K
      try simp only [Act.put,sl2,sl0,sl1]
      refine wpAnyH_done (by kernel_rfl) ?_ _
      (go_wp2_with fail)
      go_meet
      exact ⟨gx,gy,j1,y1,d1,j2,y2,d2,rfl,rfl,hX,hY,l_Fgx,l_Fgy,by omega,hS,HN1,HN2⟩
     exact zn
    exact zn
   refine zc rfl (fun K hK => ?_) ?_
   ·go_simp
    have l_Fgx := hS.lt
    have hX := Nb.new false 0 0 W1
    replace hS := hS.alloc (.cells #[.bool false,.int .u64 0,.int .i64 0] 153)
    generalize World.alloc W1 (.cells #[.bool false,.int .u64 0,.int .i64 0] 153) = W2 at *
    generalize W1.heap.size = gx at *
    refine hK.out _ _ hS (fun _ => ?_)
    clear hK K
    try simp only [Act.put,sl2,sl0,sl1]
    refine zm [3,9] ?_
    refine zc rfl (fun K hK => ?_) ?_
    ·go_simp
     go_at_call 159
     (with_reducible refine (normal_any n1 m1 HM1.out e1 HE1.out.1 HE1.out.2 _).mono ?_)
     rintro e W3 ⟨j1,hj,hl,hlt,he,hb⟩
     obtain ⟨y1,hy⟩ : ∃ y1 : Nat,y1 = m1 * 2 ^ j1 := ⟨_,rfl⟩
     obtain ⟨d1,hd⟩ : ∃ d1 : Int,d1 = e1 - (j1 : Int) := ⟨_,rfl⟩
     rw [← hy,← hd] at he
     subst he
     have HN1 := hid (And.intro hj (And.intro hl (And.intro hlt (And.intro hy hd))))
     clear hj hl hlt hy hd
     replace hS := hS.call hb
     replace hX := hX.call hb
     clear hb
     refine hK.out _ _ hS (fun _ => ?_)
     clear hK K
     try simp only [Act.put,sl2,sl0,sl1]
     refine zm [6,9] ?_
     refine zc rfl (fun K hK => ?_) ?_
     ·go_simp
      go_at_call 160
      (with_reducible refine (PB _).out.mono ?_)
      rintro e W4 ⟨rfl,hb⟩
      replace hS := hS.call hb
      replace hX := hX.call hb
      clear hb
      refine hK.out _ _ hS (fun _ => ?_)
      clear hK K
      try simp only [Act.put,sl2,sl0,sl1]
      refine zm [7,9] ?_
      refine zc rfl (fun K hK => ?_) ?_
      ·go_simp
       go_at_call 159
       (with_reducible refine (normal_any n2 m2 HM2.out e2 HE2.out.1 HE2.out.2 _).mono ?_)
       rintro e W5 ⟨j2,hj,hl,hlt,he,hb⟩
       obtain ⟨y2,hy⟩ : ∃ y2 : Nat,y2 = m2 * 2 ^ j2 := ⟨_,rfl⟩
       obtain ⟨d2,hd⟩ : ∃ d2 : Int,d2 = e2 - (j2 : Int) := ⟨_,rfl⟩
       rw [← hy,← hd] at he
       subst he
       have HN2 := hid (And.intro hj (And.intro hl (And.intro hlt (And.intro hy hd))))
       clear hj hl hlt hy hd
       replace hS := hS.call hb
       replace hX := hX.call hb
       clear hb
       refine hK.out _ _ hS (fun _ => ?_)
       clear hK K
       try simp only [Act.put,sl2,sl0,sl1]
       refine zr 9 rfl (fun K hK => ?_)
       go_simp
       have l_Fgy := hS.lt
       have l_hXgy := hX.lt
       have hY := Nb.new false 0 0 W5
       replace hS := hS.alloc (.cells #[.bool false,.int .u64 0,.int .i64 0] 153)
       replace hX := hX.alloc (.cells #[.bool false,.int .u64 0,.int .i64 0] 153)
       generalize World.alloc W5 (.cells #[.bool false,.int .u64 0,.int .i64 0] 153) = W6 at *
       generalize W5.heap.size = gy at *
       refine hK.out _ _ hS (fun _ => ?_)
       clear hK K
       try simp only [Act.put,sl2,sl0,sl1]
       refine zr 10 rfl (fun K hK => ?_)
       obtain ⟨⟨x0,x1,x2⟩,x3,x4,x5⟩ := id hX
       go_simp
       clear x0 x1 x2 x3 x4 x5
       replace hS := hS.set3 (c := gx) (.bool n1) (.int .u64 y1) (.int .i64 d1) l_Fgx
       replace hY := hY.set3 (c := gx) (.bool n1) (.int .u64 y1) (.int .i64 d1) (by omega)
       replace hX := hX.store (ng' := n1) (m' := y1) (e' := d1)
       generalize ((W6.setCell ⟨gx,0,none⟩ (.bool n1)).setCell ⟨gx,1,none⟩ (.int .u64 y1)).setCell ⟨gx,2,none⟩ (.int .i64 d1) = W7 at *
       refine hK.out _ _ hS (fun _ => ?_)
       clear hK K
       try simp only [Act.put,sl2,sl0,sl1]
       refine zr 11 rfl (fun K hK => ?_)
       obtain ⟨⟨x0,x1,x2⟩,x3,x4,x5⟩ := id hY
       go_simp
       clear x0 x1 x2 x3 x4 x5
       replace hS := hS.set3 (c := gy) (.bool n2) (.int .u64 y2) (.int .i64 d2) l_Fgy
       replace hX := hX.set3 (c := gy) (.bool n2) (.int .u64 y2) (.int .i64 d2) (by omega)
       replace hY := hY.store (ng' := n2) (m' := y2) (e' := d2)
       generalize ((W7.setCell ⟨gy,0,none⟩ (.bool n2)).setCell ⟨gy,1,none⟩ (.int .u64 y2)).setCell ⟨gy,2,none⟩ (.int .i64 d2) = W8 at *
       refine hK.out _ _ hS (fun _ => ?_)
       clear hK K
       try simp only [Act.put,sl2,sl0,sl1]
       refine wpAnyH_done (by kernel_rfl) ?_ _
       (go_wp2_with fail)
       go_meet
       exact ⟨gx,gy,j1,y1,d1,j2,y2,d2,rfl,rfl,hX,hY,l_Fgx,l_Fgy,by omega,hS,HN1,HN2⟩
      refine zc rfl (fun K hK => ?_) ?_
      ·go_simp
       have l_Fgy := hS.lt
       have l_hXgy := hX.lt
       have hY := Nb.new false 0 0 W4
       replace hS := hS.alloc (.cells #[.bool false,.int .u64 0,.int .i64 0] 153)
       replace hX := hX.alloc (.cells #[.bool false,.int .u64 0,.int .i64 0] 153)
       generalize World.alloc W4 (.cells #[.bool false,.int .u64 0,.int .i64 0] 153) = W5 at *
       generalize W4.heap.size = gy at *
       refine hK.out _ _ hS (fun _ => ?_)
       clear hK K
       try simp only [Act.put,sl2,sl0,sl1]
       refine zr 7 rfl (fun K hK => ?_)
       go_simp
       go_at_call 159
       (with_reducible refine (normal_any n2 m2 HM2.out e2 HE2.out.1 HE2.out.2 _).mono ?_)
       rintro e W6 ⟨j2,hj,hl,hlt,he,hb⟩
       obtain ⟨y2,hy⟩ : ∃ y2 : Nat,y2 = m2 * 2 ^ j2 := ⟨_,rfl⟩
       obtain ⟨d2,hd⟩ : ∃ d2 : Int,d2 = e2 - (j2 : Int) := ⟨_,rfl⟩
       rw [← hy,← hd] at he
       subst he
       have HN2 := hid (And.intro hj (And.intro hl (And.intro hlt (And.intro hy hd))))
       clear hj hl hlt hy hd
       replace hS := hS.call hb
       replace hX := hX.call hb
       replace hY := hY.call hb
       clear hb
       refine hK.out _ _ hS (fun _ => ?_)
       clear hK K
       try simp only [Act.put,sl2,sl0,sl1]
       refine zr 10 rfl (fun K hK => ?_)
       obtain ⟨⟨x0,x1,x2⟩,x3,x4,x5⟩ := id hX
       go_simp
       clear x0 x1 x2 x3 x4 x5
       replace hS := hS.set3 (c := gx) (.bool n1) (.int .u64 y1) (.int .i64 d1) l_Fgx
       replace hY := hY.set3 (c := gx) (.bool n1) (.int .u64 y1) (.int .i64 d1) (by omega)
       replace hX := hX.store (ng' := n1) (m' := y1) (e' := d1)
       generalize ((W6.setCell ⟨gx,0,none⟩ (.bool n1)).setCell ⟨gx,1,none⟩ (.int .u64 y1)).setCell ⟨gx,2,none⟩ (.int .i64 d1) = W7 at *
       refine hK.out _ _ hS (fun _ => ?_)
       clear hK K
       try simp only [Act.put,sl2,sl0,sl1]
       refine zr 11 rfl (fun K hK => ?_)
       obtain ⟨⟨x0,x1,x2⟩,x3,x4,x5⟩ := id hY
       go_simp
       clear x0 x1 x2 x3 x4 x5
       replace hS := hS.set3 (c := gy) (.bool n2) (.int .u64 y2) (.int .i64 d2) l_Fgy
       replace hX := hX.set3 (c := gy) (.bool n2) (.int .u64 y2) (.int .i64 d2) (by omega)
       replace hY := hY.store (ng' := n2) (m' := y2) (e' := d2)
       generalize ((W7.setCell ⟨gy,0,none⟩ (.bool n2)).setCell ⟨gy,1,none⟩ (.int .u64 y2)).setCell ⟨gy,2,none⟩ (.int .i64 d2) = W8 at *
       refine hK.out _ _ hS (fun _ => ?_)
       clear hK K
       try simp only [Act.put,sl2,sl0,sl1]
       refine wpAnyH_done (by kernel_rfl) ?_ _
       (go_wp2_with fail)
       go_meet
       exact ⟨gx,gy,j1,y1,d1,j2,y2,d2,rfl,rfl,hX,hY,l_Fgx,l_Fgy,by omega,hS,HN1,HN2⟩
      exact zn
     refine zc rfl (fun K hK => ?_) ?_
     ·go_simp
      have l_Fgy := hS.lt
      have l_hXgy := hX.lt
      have hY := Nb.new false 0 0 W3
      replace hS := hS.alloc (.cells #[.bool false,.int .u64 0,.int .i64 0] 153)
      replace hX := hX.alloc (.cells #[.bool false,.int .u64 0,.int .i64 0] 153)
      generalize World.alloc W3 (.cells #[.bool false,.int .u64 0,.int .i64 0] 153) = W4 at *
      generalize W3.heap.size = gy at *
      refine hK.out _ _ hS (fun _ => ?_)
      clear hK K
      try simp only [Act.put,sl2,sl0,sl1]
      refine zr 6 rfl (fun K hK => ?_)
      go_simp
      go_at_call 160
      (with_reducible refine (PB _).out.mono ?_)
      rintro e W5 ⟨rfl,hb⟩
      replace hS := hS.call hb
      replace hX := hX.call hb
      replace hY := hY.call hb
      clear hb
      refine hK.out _ _ hS (fun _ => ?_)
      clear hK K
      try simp only [Act.put,sl2,sl0,sl1]
      refine zr 7 rfl (fun K hK => ?_)
      go_simp
      go_at_call 159
      (with_reducible refine (normal_any n2 m2 HM2.out e2 HE2.out.1 HE2.out.2 _).mono ?_)
      rintro e W6 ⟨j2,hj,hl,hlt,he,hb⟩
      obtain ⟨y2,hy⟩ : ∃ y2 : Nat,y2 = m2 * 2 ^ j2 := ⟨_,rfl⟩
      obtain ⟨d2,hd⟩ : ∃ d2 : Int,d2 = e2 - (j2 : Int) := ⟨_,rfl⟩
      rw [← hy,← hd] at he
      subst he
      have HN2 := hid (And.intro hj (And.intro hl (And.intro hlt (And.intro hy hd))))
      clear hj hl hlt hy hd
      replace hS := hS.call hb
      replace hX := hX.call hb
      replace hY := hY.call hb
      clear hb
      refine hK.out _ _ hS (fun _ => ?_)
      clear hK K
      try simp only [Act.put,sl2,sl0,sl1]
      refine zr 10 rfl (fun K hK => ?_)
      obtain ⟨⟨x0,x1,x2⟩,x3,x4,x5⟩ := id hX
      go_simp
      clear x0 x1 x2 x3 x4 x5
      replace hS := hS.set3 (c := gx) (.bool n1) (.int .u64 y1) (.int .i64 d1) l_Fgx
      replace hY := hY.set3 (c := gx) (.bool n1) (.int .u64 y1) (.int .i64 d1) (by omega)
      replace hX := hX.store (ng' := n1) (m' := y1) (e' := d1)
      generalize ((W6.setCell ⟨gx,0,none⟩ (.bool n1)).setCell ⟨gx,1,none⟩ (.int .u64 y1)).setCell ⟨gx,2,none⟩ (.int .i64 d1) = W7 at *
      refine hK.out _ _ hS (fun _ => ?_)
      clear hK K
      try simp only [Act.put,sl2,sl0,sl1]
      refine zr 11 rfl (fun K hK => ?_)
      obtain ⟨⟨x0,x1,x2⟩,x3,x4,x5⟩ := id hY
      go_simp
      clear x0 x1 x2 x3 x4 x5
      replace hS := hS.set3 (c := gy) (.bool n2) (.int .u64 y2) (.int .i64 d2) l_Fgy
      replace hX := hX.set3 (c := gy) (.bool n2) (.int .u64 y2) (.int .i64 d2) (by omega)
      replace hY := hY.store (ng' := n2) (m' := y2) (e' := d2)
      generalize ((W7.setCell ⟨gy,0,none⟩ (.bool n2)).setCell ⟨gy,1,none⟩ (.int .u64 y2)).setCell ⟨gy,2,none⟩ (.int .i64 d2) = W8 at *
      refine hK.out _ _ hS (fun _ => ?_)
      clear hK K
      try simp only [Act.put,sl2,sl0,sl1]
      refine wpAnyH_done (by kernel_rfl) ?_ _
      (go_wp2_with fail)
      go_meet
      exact ⟨gx,gy,j1,y1,d1,j2,y2,d2,rfl,rfl,hX,hY,l_Fgx,l_Fgy,by omega,hS,HN1,HN2⟩
     exact zn
    refine zc rfl (fun K hK => ?_) ?_
    ·go_simp
     have l_Fgy := hS.lt
     have l_hXgy := hX.lt
     have hY := Nb.new false 0 0 W2
     replace hS := hS.alloc (.cells #[.bool false,.int .u64 0,.int .i64 0] 153)
     replace hX := hX.alloc (.cells #[.bool false,.int .u64 0,.int .i64 0] 153)
     generalize World.alloc W2 (.cells #[.bool false,.int .u64 0,.int .i64 0] 153) = W3 at *
     generalize W2.heap.size = gy at *
     refine hK.out _ _ hS (fun _ => ?_)
     clear hK K
     try simp only [Act.put,sl2,sl0,sl1]
     refine zr 3 rfl (fun K hK => ?_)
     go_simp
     go_at_call 159
     (with_reducible refine (normal_any n1 m1 HM1.out e1 HE1.out.1 HE1.out.2 _).mono ?_)
     rintro e W4 ⟨j1,hj,hl,hlt,he,hb⟩
     obtain ⟨y1,hy⟩ : ∃ y1 : Nat,y1 = m1 * 2 ^ j1 := ⟨_,rfl⟩
     obtain ⟨d1,hd⟩ : ∃ d1 : Int,d1 = e1 - (j1 : Int) := ⟨_,rfl⟩
     rw [← hy,← hd] at he
     subst he
     have HN1 := hid (And.intro hj (And.intro hl (And.intro hlt (And.intro hy hd))))
     clear hj hl hlt hy hd
     replace hS := hS.call hb
     replace hX := hX.call hb
     replace hY := hY.call hb
     clear hb
     refine hK.out _ _ hS (fun _ => ?_)
     clear hK K
     try simp only [Act.put,sl2,sl0,sl1]
     refine zr 6 rfl (fun K hK => ?_)
     go_simp
     go_at_call 160
     (with_reducible refine (PB _).out.mono ?_)
     rintro e W5 ⟨rfl,hb⟩
     replace hS := hS.call hb
     replace hX := hX.call hb
     replace hY := hY.call hb
     clear hb
     refine hK.out _ _ hS (fun _ => ?_)
     clear hK K
     try simp only [Act.put,sl2,sl0,sl1]
     refine zr 7 rfl (fun K hK => ?_)
     go_simp
     go_at_call 159
     (with_reducible refine (normal_any n2 m2 HM2.out e2 HE2.out.1 HE2.out.2 _).mono ?_)
     rintro e W6 ⟨j2,hj,hl,hlt,he,hb⟩
     obtain ⟨y2,hy⟩ : ∃ y2 : Nat,y2 = m2 * 2 ^ j2 := ⟨_,rfl⟩
     obtain ⟨d2,hd⟩ : ∃ d2 : Int,d2 = e2 - (j2 : Int) := ⟨_,rfl⟩
     rw [← hy,← hd] at he
     subst he
     have HN2 := hid (And.intro hj (And.intro hl (And.intro hlt (And.intro hy hd))))
     clear hj hl hlt hy hd
     replace hS := hS.call hb
     replace hX := hX.call hb
     replace hY := hY.call hb
     clear hb
     refine hK.out _ _ hS (fun _ => ?_)
     clear hK K
     try simp only [Act.put,sl2,sl0,sl1]
     refine zr 10 rfl (fun K hK => ?_)
     obtain ⟨⟨x0,x1,x2⟩,x3,x4,x5⟩ := id hX
     go_simp
     clear x0 x1 x2 x3 x4 x5
     replace hS := hS.set3 (c := gx) (.bool n1) (.int .u64 y1) (.int .i64 d1) l_Fgx
     replace hY := hY.set3 (c := gx) (.bool n1) (.int .u64 y1) (.int .i64 d1) (by omega)
     replace hX := hX.store (ng' := n1) (m' := y1) (e' := d1)
     generalize ((W6.setCell ⟨gx,0,none⟩ (.bool n1)).setCell ⟨gx,1,none⟩ (.int .u64 y1)).setCell ⟨gx,2,none⟩ (.int .i64 d1) = W7 at *
     refine hK.out _ _ hS (fun _ => ?_)
     clear hK K
     try simp only [Act.put,sl2,sl0,sl1]
     refine zr 11 rfl (fun K hK => ?_)
     obtain ⟨⟨x0,x1,x2⟩,x3,x4,x5⟩ := id hY
     go_simp
     clear x0 x1 x2 x3 x4 x5
     replace hS := hS.set3 (c := gy) (.bool n2) (.int .u64 y2) (.int .i64 d2) l_Fgy
     replace hX := hX.set3 (c := gy) (.bool n2) (.int .u64 y2) (.int .i64 d2) (by omega)
     replace hY := hY.store (ng' := n2) (m' := y2) (e' := d2)
     generalize ((W7.setCell ⟨gy,0,none⟩ (.bool n2)).setCell ⟨gy,1,none⟩ (.int .u64 y2)).setCell ⟨gy,2,none⟩ (.int .i64 d2) = W8 at *
     refine hK.out _ _ hS (fun _ => ?_)
     clear hK K
     try simp only [Act.put,sl2,sl0,sl1]
     refine wpAnyH_done (by kernel_rfl) ?_ _
     (go_wp2_with fail)
     go_meet
     exact ⟨gx,gy,j1,y1,d1,j2,y2,d2,rfl,rfl,hX,hY,l_Fgx,l_Fgy,by omega,hS,HN1,HN2⟩
    exact zn
   refine zc rfl (fun K hK => ?_) ?_
   ·go_simp
    have l_Fgy := hS.lt
    have hY := Nb.new false 0 0 W1
    replace hS := hS.alloc (.cells #[.bool false,.int .u64 0,.int .i64 0] 153)
    generalize World.alloc W1 (.cells #[.bool false,.int .u64 0,.int .i64 0] 153) = W2 at *
    generalize W1.heap.size = gy at *
    refine hK.out _ _ hS (fun _ => ?_)
    clear hK K
    try simp only [Act.put,sl2,sl0,sl1]
    refine zm [3,8] ?_
    refine zc rfl (fun K hK => ?_) ?_
    ·go_simp
     go_at_call 159
     (with_reducible refine (normal_any n1 m1 HM1.out e1 HE1.out.1 HE1.out.2 _).mono ?_)
     rintro e W3 ⟨j1,hj,hl,hlt,he,hb⟩
     obtain ⟨y1,hy⟩ : ∃ y1 : Nat,y1 = m1 * 2 ^ j1 := ⟨_,rfl⟩
     obtain ⟨d1,hd⟩ : ∃ d1 : Int,d1 = e1 - (j1 : Int) := ⟨_,rfl⟩
     rw [← hy,← hd] at he
     subst he
     have HN1 := hid (And.intro hj (And.intro hl (And.intro hlt (And.intro hy hd))))
     clear hj hl hlt hy hd
     replace hS := hS.call hb
     replace hY := hY.call hb
     clear hb
     refine hK.out _ _ hS (fun _ => ?_)
     clear hK K
     try simp only [Act.put,sl2,sl0,sl1]
     refine zm [6,8] ?_
     refine zc rfl (fun K hK => ?_) ?_
     ·go_simp
      go_at_call 160
      (with_reducible refine (PB _).out.mono ?_)
      rintro e W4 ⟨rfl,hb⟩
      replace hS := hS.call hb
      replace hY := hY.call hb
      clear hb
      refine hK.out _ _ hS (fun _ => ?_)
      clear hK K
      try simp only [Act.put,sl2,sl0,sl1]
      refine zm [7,8] ?_
      refine zc rfl (fun K hK => ?_) ?_
      ·go_simp
       go_at_call 159
       (with_reducible refine (normal_any n2 m2 HM2.out e2 HE2.out.1 HE2.out.2 _).mono ?_)
       rintro e W5 ⟨j2,hj,hl,hlt,he,hb⟩
       obtain ⟨y2,hy⟩ : ∃ y2 : Nat,y2 = m2 * 2 ^ j2 := ⟨_,rfl⟩
       obtain ⟨d2,hd⟩ : ∃ d2 : Int,d2 = e2 - (j2 : Int) := ⟨_,rfl⟩
       rw [← hy,← hd] at he
       subst he
       have HN2 := hid (And.intro hj (And.intro hl (And.intro hlt (And.intro hy hd))))
       clear hj hl hlt hy hd
       replace hS := hS.call hb
       replace hY := hY.call hb
       clear hb
       refine hK.out _ _ hS (fun _ => ?_)
       clear hK K
       try simp only [Act.put,sl2,sl0,sl1]
       refine zr 8 rfl (fun K hK => ?_)
       go_simp
       have l_Fgx := hS.lt
       have l_hYgx := hY.lt
       have hX := Nb.new false 0 0 W5
       replace hS := hS.alloc (.cells #[.bool false,.int .u64 0,.int .i64 0] 153)
       replace hY := hY.alloc (.cells #[.bool false,.int .u64 0,.int .i64 0] 153)
       generalize World.alloc W5 (.cells #[.bool false,.int .u64 0,.int .i64 0] 153) = W6 at *
       generalize W5.heap.size = gx at *
       refine hK.out _ _ hS (fun _ => ?_)
       clear hK K
       try simp only [Act.put,sl2,sl0,sl1]
       refine zr 10 rfl (fun K hK => ?_)
       obtain ⟨⟨x0,x1,x2⟩,x3,x4,x5⟩ := id hX
       go_simp
       clear x0 x1 x2 x3 x4 x5
       replace hS := hS.set3 (c := gx) (.bool n1) (.int .u64 y1) (.int .i64 d1) l_Fgx
       replace hY := hY.set3 (c := gx) (.bool n1) (.int .u64 y1) (.int .i64 d1) (by omega)
       replace hX := hX.store (ng' := n1) (m' := y1) (e' := d1)
       generalize ((W6.setCell ⟨gx,0,none⟩ (.bool n1)).setCell ⟨gx,1,none⟩ (.int .u64 y1)).setCell ⟨gx,2,none⟩ (.int .i64 d1) = W7 at *
       refine hK.out _ _ hS (fun _ => ?_)
       clear hK K
       try simp only [Act.put,sl2,sl0,sl1]
       refine zr 11 rfl (fun K hK => ?_)
       obtain ⟨⟨x0,x1,x2⟩,x3,x4,x5⟩ := id hY
       go_simp
       clear x0 x1 x2 x3 x4 x5
       replace hS := hS.set3 (c := gy) (.bool n2) (.int .u64 y2) (.int .i64 d2) l_Fgy
       replace hX := hX.set3 (c := gy) (.bool n2) (.int .u64 y2) (.int .i64 d2) (by omega)
       replace hY := hY.store (ng' := n2) (m' := y2) (e' := d2)
       generalize ((W7.setCell ⟨gy,0,none⟩ (.bool n2)).setCell ⟨gy,1,none⟩ (.int .u64 y2)).setCell ⟨gy,2,none⟩ (.int .i64 d2) = W8 at *
       refine hK.out _ _ hS (fun _ => ?_)
       clear hK K
       try simp only [Act.put,sl2,sl0,sl1]
       refine wpAnyH_done (by kernel_rfl) ?_ _
       (go_wp2_with fail)
       go_meet
       exact ⟨gx,gy,j1,y1,d1,j2,y2,d2,rfl,rfl,hX,hY,l_Fgx,l_Fgy,by omega,hS,HN1,HN2⟩
      refine zc rfl (fun K hK => ?_) ?_
      ·go_simp
       have l_Fgx := hS.lt
       have l_hYgx := hY.lt
       have hX := Nb.new false 0 0 W4
       replace hS := hS.alloc (.cells #[.bool false,.int .u64 0,.int .i64 0] 153)
       replace hY := hY.alloc (.cells #[.bool false,.int .u64 0,.int .i64 0] 153)
       generalize World.alloc W4 (.cells #[.bool false,.int .u64 0,.int .i64 0] 153) = W5 at *
       generalize W4.heap.size = gx at *
       refine hK.out _ _ hS (fun _ => ?_)
       clear hK K
       try simp only [Act.put,sl2,sl0,sl1]
       refine zr 7 rfl (fun K hK => ?_)
       go_simp
       go_at_call 159
       (with_reducible refine (normal_any n2 m2 HM2.out e2 HE2.out.1 HE2.out.2 _).mono ?_)
       rintro e W6 ⟨j2,hj,hl,hlt,he,hb⟩
       obtain ⟨y2,hy⟩ : ∃ y2 : Nat,y2 = m2 * 2 ^ j2 := ⟨_,rfl⟩
       obtain ⟨d2,hd⟩ : ∃ d2 : Int,d2 = e2 - (j2 : Int) := ⟨_,rfl⟩
       rw [← hy,← hd] at he
       subst he
       have HN2 := hid (And.intro hj (And.intro hl (And.intro hlt (And.intro hy hd))))
       clear hj hl hlt hy hd
       replace hS := hS.call hb
       replace hY := hY.call hb
       replace hX := hX.call hb
       clear hb
       refine hK.out _ _ hS (fun _ => ?_)
       clear hK K
       try simp only [Act.put,sl2,sl0,sl1]
       refine zr 10 rfl (fun K hK => ?_)
       obtain ⟨⟨x0,x1,x2⟩,x3,x4,x5⟩ := id hX
       go_simp
       clear x0 x1 x2 x3 x4 x5
       replace hS := hS.set3 (c := gx) (.bool n1) (.int .u64 y1) (.int .i64 d1) l_Fgx
       replace hY := hY.set3 (c := gx) (.bool n1) (.int .u64 y1) (.int .i64 d1) (by omega)
       replace hX := hX.store (ng' := n1) (m' := y1) (e' := d1)
       generalize ((W6.setCell ⟨gx,0,none⟩ (.bool n1)).setCell ⟨gx,1,none⟩ (.int .u64 y1)).setCell ⟨gx,2,none⟩ (.int .i64 d1) = W7 at *
       refine hK.out _ _ hS (fun _ => ?_)
       clear hK K
       try simp only [Act.put,sl2,sl0,sl1]
       refine zr 11 rfl (fun K hK => ?_)
       obtain ⟨⟨x0,x1,x2⟩,x3,x4,x5⟩ := id hY
       go_simp
       clear x0 x1 x2 x3 x4 x5
       replace hS := hS.set3 (c := gy) (.bool n2) (.int .u64 y2) (.int .i64 d2) l_Fgy
       replace hX := hX.set3 (c := gy) (.bool n2) (.int .u64 y2) (.int .i64 d2) (by omega)
       replace hY := hY.store (ng' := n2) (m' := y2) (e' := d2)
       generalize ((W7.setCell ⟨gy,0,none⟩ (.bool n2)).setCell ⟨gy,1,none⟩ (.int .u64 y2)).setCell ⟨gy,2,none⟩ (.int .i64 d2) = W8 at *
       refine hK.out _ _ hS (fun _ => ?_)
       clear hK K
       try simp only [Act.put,sl2,sl0,sl1]
       refine wpAnyH_done (by kernel_rfl) ?_ _
       (go_wp2_with fail)
       go_meet
       exact ⟨gx,gy,j1,y1,d1,j2,y2,d2,rfl,rfl,hX,hY,l_Fgx,l_Fgy,by omega,hS,HN1,HN2⟩
      exact zn
     refine zc rfl (fun K hK => ?_) ?_
     ·go_simp
      have l_Fgx := hS.lt
      have l_hYgx := hY.lt
      have hX := Nb.new false 0 0 W3
      replace hS := hS.alloc (.cells #[.bool false,.int .u64 0,.int .i64 0] 153)
      replace hY := hY.alloc (.cells #[.bool false,.int .u64 0,.int .i64 0] 153)
      generalize World.alloc W3 (.cells #[.bool false,.int .u64 0,.int .i64 0] 153) = W4 at *
      generalize W3.heap.size = gx at *
      refine hK.out _ _ hS (fun _ => ?_)
      clear hK K
      try simp only [Act.put,sl2,sl0,sl1]
      refine zr 6 rfl (fun K hK => ?_)
      go_simp
      go_at_call 160
      (with_reducible refine (PB _).out.mono ?_)
      rintro e W5 ⟨rfl,hb⟩
      replace hS := hS.call hb
      replace hY := hY.call hb
      replace hX := hX.call hb
      clear hb
      refine hK.out _ _ hS (fun _ => ?_)
      clear hK K
      try simp only [Act.put,sl2,sl0,sl1]
      refine zr 7 rfl (fun K hK => ?_)
      go_simp
      go_at_call 159
      (with_reducible refine (normal_any n2 m2 HM2.out e2 HE2.out.1 HE2.out.2 _).mono ?_)
      rintro e W6 ⟨j2,hj,hl,hlt,he,hb⟩
      obtain ⟨y2,hy⟩ : ∃ y2 : Nat,y2 = m2 * 2 ^ j2 := ⟨_,rfl⟩
      obtain ⟨d2,hd⟩ : ∃ d2 : Int,d2 = e2 - (j2 : Int) := ⟨_,rfl⟩
      rw [← hy,← hd] at he
      subst he
      have HN2 := hid (And.intro hj (And.intro hl (And.intro hlt (And.intro hy hd))))
      clear hj hl hlt hy hd
      replace hS := hS.call hb
      replace hY := hY.call hb
      replace hX := hX.call hb
      clear hb
      refine hK.out _ _ hS (fun _ => ?_)
      clear hK K
      try simp only [Act.put,sl2,sl0,sl1]
      refine zr 10 rfl (fun K hK => ?_)
      obtain ⟨⟨x0,x1,x2⟩,x3,x4,x5⟩ := id hX
      go_simp
      clear x0 x1 x2 x3 x4 x5
      replace hS := hS.set3 (c := gx) (.bool n1) (.int .u64 y1) (.int .i64 d1) l_Fgx
      replace hY := hY.set3 (c := gx) (.bool n1) (.int .u64 y1) (.int .i64 d1) (by omega)
      replace hX := hX.store (ng' := n1) (m' := y1) (e' := d1)
      generalize ((W6.setCell ⟨gx,0,none⟩ (.bool n1)).setCell ⟨gx,1,none⟩ (.int .u64 y1)).setCell ⟨gx,2,none⟩ (.int .i64 d1) = W7 at *
      refine hK.out _ _ hS (fun _ => ?_)
      clear hK K
      try simp only [Act.put,sl2,sl0,sl1]
      refine zr 11 rfl (fun K hK => ?_)
      obtain ⟨⟨x0,x1,x2⟩,x3,x4,x5⟩ := id hY
      go_simp
      clear x0 x1 x2 x3 x4 x5
      replace hS := hS.set3 (c := gy) (.bool n2) (.int .u64 y2) (.int .i64 d2) l_Fgy
      replace hX := hX.set3 (c := gy) (.bool n2) (.int .u64 y2) (.int .i64 d2) (by omega)
      replace hY := hY.store (ng' := n2) (m' := y2) (e' := d2)
      generalize ((W7.setCell ⟨gy,0,none⟩ (.bool n2)).setCell ⟨gy,1,none⟩ (.int .u64 y2)).setCell ⟨gy,2,none⟩ (.int .i64 d2) = W8 at *
      refine hK.out _ _ hS (fun _ => ?_)
      clear hK K
      try simp only [Act.put,sl2,sl0,sl1]
      refine wpAnyH_done (by kernel_rfl) ?_ _
      (go_wp2_with fail)
      go_meet
      exact ⟨gx,gy,j1,y1,d1,j2,y2,d2,rfl,rfl,hX,hY,l_Fgx,l_Fgy,by omega,hS,HN1,HN2⟩
     exact zn
    refine zc rfl (fun K hK => ?_) ?_
    ·go_simp
     have l_Fgx := hS.lt
     have l_hYgx := hY.lt
     have hX := Nb.new false 0 0 W2
     replace hS := hS.alloc (.cells #[.bool false,.int .u64 0,.int .i64 0] 153)
     replace hY := hY.alloc (.cells #[.bool false,.int .u64 0,.int .i64 0] 153)
     generalize World.alloc W2 (.cells #[.bool false,.int .u64 0,.int .i64 0] 153) = W3 at *
     generalize W2.heap.size = gx at *
     refine hK.out _ _ hS (fun _ => ?_)
     clear hK K
     try simp only [Act.put,sl2,sl0,sl1]
     refine zr 3 rfl (fun K hK => ?_)
     go_simp
     go_at_call 159
     (with_reducible refine (normal_any n1 m1 HM1.out e1 HE1.out.1 HE1.out.2 _).mono ?_)
     rintro e W4 ⟨j1,hj,hl,hlt,he,hb⟩
     obtain ⟨y1,hy⟩ : ∃ y1 : Nat,y1 = m1 * 2 ^ j1 := ⟨_,rfl⟩
     obtain ⟨d1,hd⟩ : ∃ d1 : Int,d1 = e1 - (j1 : Int) := ⟨_,rfl⟩
     rw [← hy,← hd] at he
     subst he
     have HN1 := hid (And.intro hj (And.intro hl (And.intro hlt (And.intro hy hd))))
     clear hj hl hlt hy hd
     replace hS := hS.call hb
     replace hY := hY.call hb
     replace hX := hX.call hb
     clear hb
     refine hK.out _ _ hS (fun _ => ?_)
     clear hK K
     try simp only [Act.put,sl2,sl0,sl1]
     refine zr 6 rfl (fun K hK => ?_)
     go_simp
     go_at_call 160
     (with_reducible refine (PB _).out.mono ?_)
     rintro e W5 ⟨rfl,hb⟩
     replace hS := hS.call hb
     replace hY := hY.call hb
     replace hX := hX.call hb
     clear hb
     refine hK.out _ _ hS (fun _ => ?_)
     clear hK K
     try simp only [Act.put,sl2,sl0,sl1]
     refine zr 7 rfl (fun K hK => ?_)
     go_simp
     go_at_call 159
     (with_reducible refine (normal_any n2 m2 HM2.out e2 HE2.out.1 HE2.out.2 _).mono ?_)
     rintro e W6 ⟨j2,hj,hl,hlt,he,hb⟩
     obtain ⟨y2,hy⟩ : ∃ y2 : Nat,y2 = m2 * 2 ^ j2 := ⟨_,rfl⟩
     obtain ⟨d2,hd⟩ : ∃ d2 : Int,d2 = e2 - (j2 : Int) := ⟨_,rfl⟩
     rw [← hy,← hd] at he
     subst he
     have HN2 := hid (And.intro hj (And.intro hl (And.intro hlt (And.intro hy hd))))
     clear hj hl hlt hy hd
     replace hS := hS.call hb
     replace hY := hY.call hb
     replace hX := hX.call hb
     clear hb
     refine hK.out _ _ hS (fun _ => ?_)
     clear hK K
     try simp only [Act.put,sl2,sl0,sl1]
     refine zr 10 rfl (fun K hK => ?_)
     obtain ⟨⟨x0,x1,x2⟩,x3,x4,x5⟩ := id hX
     go_simp
     clear x0 x1 x2 x3 x4 x5
     replace hS := hS.set3 (c := gx) (.bool n1) (.int .u64 y1) (.int .i64 d1) l_Fgx
     replace hY := hY.set3 (c := gx) (.bool n1) (.int .u64 y1) (.int .i64 d1) (by omega)
     replace hX := hX.store (ng' := n1) (m' := y1) (e' := d1)
     generalize ((W6.setCell ⟨gx,0,none⟩ (.bool n1)).setCell ⟨gx,1,none⟩ (.int .u64 y1)).setCell ⟨gx,2,none⟩ (.int .i64 d1) = W7 at *
     refine hK.out _ _ hS (fun _ => ?_)
     clear hK K
     try simp only [Act.put,sl2,sl0,sl1]
     refine zr 11 rfl (fun K hK => ?_)
     obtain ⟨⟨x0,x1,x2⟩,x3,x4,x5⟩ := id hY
     go_simp
     clear x0 x1 x2 x3 x4 x5
     replace hS := hS.set3 (c := gy) (.bool n2) (.int .u64 y2) (.int .i64 d2) l_Fgy
     replace hX := hX.set3 (c := gy) (.bool n2) (.int .u64 y2) (.int .i64 d2) (by omega)
     replace hY := hY.store (ng' := n2) (m' := y2) (e' := d2)
     generalize ((W7.setCell ⟨gy,0,none⟩ (.bool n2)).setCell ⟨gy,1,none⟩ (.int .u64 y2)).setCell ⟨gy,2,none⟩ (.int .i64 d2) = W8 at *
     refine hK.out _ _ hS (fun _ => ?_)
     clear hK K
     try simp only [Act.put,sl2,sl0,sl1]
     refine wpAnyH_done (by kernel_rfl) ?_ _
     (go_wp2_with fail)
     go_meet
     exact ⟨gx,gy,j1,y1,d1,j2,y2,d2,rfl,rfl,hX,hY,l_Fgx,l_Fgy,by omega,hS,HN1,HN2⟩
    exact zn
   exact zn
  refine zc rfl (fun K hK => ?_) ?_
  ·go_simp
   have l_Fgx := hS.lt
   have hX := Nb.new false 0 0 W
   replace hS := hS.alloc (.cells #[.bool false,.int .u64 0,.int .i64 0] 153)
   generalize World.alloc W (.cells #[.bool false,.int .u64 0,.int .i64 0] 153) = W1 at *
   generalize W.heap.size = gx at *
   refine hK.out _ _ hS (fun _ => ?_)
   clear hK K
   try simp only [Act.put,sl2,sl0,sl1]
   refine zm [2,9] ?_
   refine zc rfl (fun K hK => ?_) ?_
   ·go_simp
    go_at_call 160
    (with_reducible refine (PA _).out.mono ?_)
    rintro e W2 ⟨rfl,hb⟩
    replace hS := hS.call hb
    replace hX := hX.call hb
    clear hb
    refine hK.out _ _ hS (fun _ => ?_)
    clear hK K
    try simp only [Act.put,sl2,sl0,sl1]
    refine zm [3,9] ?_
    refine zc rfl (fun K hK => ?_) ?_
    ·go_simp
     go_at_call 159
     (with_reducible refine (normal_any n1 m1 HM1.out e1 HE1.out.1 HE1.out.2 _).mono ?_)
     rintro e W3 ⟨j1,hj,hl,hlt,he,hb⟩
     obtain ⟨y1,hy⟩ : ∃ y1 : Nat,y1 = m1 * 2 ^ j1 := ⟨_,rfl⟩
     obtain ⟨d1,hd⟩ : ∃ d1 : Int,d1 = e1 - (j1 : Int) := ⟨_,rfl⟩
     rw [← hy,← hd] at he
     subst he
     have HN1 := hid (And.intro hj (And.intro hl (And.intro hlt (And.intro hy hd))))
     clear hj hl hlt hy hd
     replace hS := hS.call hb
     replace hX := hX.call hb
     clear hb
     refine hK.out _ _ hS (fun _ => ?_)
     clear hK K
     try simp only [Act.put,sl2,sl0,sl1]
     refine zm [6,9] ?_
     refine zc rfl (fun K hK => ?_) ?_
     ·go_simp
      go_at_call 160
      (with_reducible refine (PB _).out.mono ?_)
      rintro e W4 ⟨rfl,hb⟩
      replace hS := hS.call hb
      replace hX := hX.call hb
      clear hb
      refine hK.out _ _ hS (fun _ => ?_)
      clear hK K
      try simp only [Act.put,sl2,sl0,sl1]
      refine zm [7,9] ?_
      refine zc rfl (fun K hK => ?_) ?_
      ·go_simp
       go_at_call 159
       (with_reducible refine (normal_any n2 m2 HM2.out e2 HE2.out.1 HE2.out.2 _).mono ?_)
       rintro e W5 ⟨j2,hj,hl,hlt,he,hb⟩
       obtain ⟨y2,hy⟩ : ∃ y2 : Nat,y2 = m2 * 2 ^ j2 := ⟨_,rfl⟩
       obtain ⟨d2,hd⟩ : ∃ d2 : Int,d2 = e2 - (j2 : Int) := ⟨_,rfl⟩
       rw [← hy,← hd] at he
       subst he
       have HN2 := hid (And.intro hj (And.intro hl (And.intro hlt (And.intro hy hd))))
       clear hj hl hlt hy hd
       replace hS := hS.call hb
       replace hX := hX.call hb
       clear hb
       refine hK.out _ _ hS (fun _ => ?_)
       clear hK K
       try simp only [Act.put,sl2,sl0,sl1]
       refine zr 9 rfl (fun K hK => ?_)
       go_simp
       have l_Fgy := hS.lt
       have l_hXgy := hX.lt
       have hY := Nb.new false 0 0 W5
       replace hS := hS.alloc (.cells #[.bool false,.int .u64 0,.int .i64 0] 153)
       replace hX := hX.alloc (.cells #[.bool false,.int .u64 0,.int .i64 0] 153)
       generalize World.alloc W5 (.cells #[.bool false,.int .u64 0,.int .i64 0] 153) = W6 at *
       generalize W5.heap.size = gy at *
       refine hK.out _ _ hS (fun _ => ?_)
       clear hK K
       try simp only [Act.put,sl2,sl0,sl1]
       refine zr 10 rfl (fun K hK => ?_)
       obtain ⟨⟨x0,x1,x2⟩,x3,x4,x5⟩ := id hX
       go_simp
       clear x0 x1 x2 x3 x4 x5
       replace hS := hS.set3 (c := gx) (.bool n1) (.int .u64 y1) (.int .i64 d1) l_Fgx
       replace hY := hY.set3 (c := gx) (.bool n1) (.int .u64 y1) (.int .i64 d1) (by omega)
       replace hX := hX.store (ng' := n1) (m' := y1) (e' := d1)
       generalize ((W6.setCell ⟨gx,0,none⟩ (.bool n1)).setCell ⟨gx,1,none⟩ (.int .u64 y1)).setCell ⟨gx,2,none⟩ (.int .i64 d1) = W7 at *
       refine hK.out _ _ hS (fun _ => ?_)
       clear hK K
       try simp only [Act.put,sl2,sl0,sl1]
       refine zr 11 rfl (fun K hK => ?_)
       obtain ⟨⟨x0,x1,x2⟩,x3,x4,x5⟩ := id hY
       go_simp
       clear x0 x1 x2 x3 x4 x5
       replace hS := hS.set3 (c := gy) (.bool n2) (.int .u64 y2) (.int .i64 d2) l_Fgy
       replace hX := hX.set3 (c := gy) (.bool n2) (.int .u64 y2) (.int .i64 d2) (by omega)
       replace hY := hY.store (ng' := n2) (m' := y2) (e' := d2)
       generalize ((W7.setCell ⟨gy,0,none⟩ (.bool n2)).setCell ⟨gy,1,none⟩ (.int .u64 y2)).setCell ⟨gy,2,none⟩ (.int .i64 d2) = W8 at *
       refine hK.out _ _ hS (fun _ => ?_)
       clear hK K
       try simp only [Act.put,sl2,sl0,sl1]
       refine wpAnyH_done (by kernel_rfl) ?_ _
       (go_wp2_with fail)
       go_meet
       exact ⟨gx,gy,j1,y1,d1,j2,y2,d2,rfl,rfl,hX,hY,l_Fgx,l_Fgy,by omega,hS,HN1,HN2⟩
      refine zc rfl (fun K hK => ?_) ?_
      ·go_simp
       have l_Fgy := hS.lt
       have l_hXgy := hX.lt
       have hY := Nb.new false 0 0 W4
       replace hS := hS.alloc (.cells #[.bool false,.int .u64 0,.int .i64 0] 153)
       replace hX := hX.alloc (.cells #[.bool false,.int .u64 0,.int .i64 0] 153)
       generalize World.alloc W4 (.cells #[.bool false,.int .u64 0,.int .i64 0] 153) = W5 at *
       generalize W4.heap.size = gy at *
       refine hK.out _ _ hS (fun _ => ?_)
       clear hK K
       try simp only [Act.put,sl2,sl0,sl1]
       refine zr 7 rfl (fun K hK => ?_)
       go_simp
       go_at_call 159
       (with_reducible refine (normal_any n2 m2 HM2.out e2 HE2.out.1 HE2.out.2 _).mono ?_)
       rintro e W6 ⟨j2,hj,hl,hlt,he,hb⟩
       obtain ⟨y2,hy⟩ : ∃ y2 : Nat,y2 = m2 * 2 ^ j2 := ⟨_,rfl⟩
       obtain ⟨d2,hd⟩ : ∃ d2 : Int,d2 = e2 - (j2 : Int) := ⟨_,rfl⟩
       rw [← hy,← hd] at he
       subst he
       have HN2 := hid (And.intro hj (And.intro hl (And.intro hlt (And.intro hy hd))))
       clear hj hl hlt hy hd
       replace hS := hS.call hb
       replace hX := hX.call hb
       replace hY := hY.call hb
       clear hb
       refine hK.out _ _ hS (fun _ => ?_)
       clear hK K
       try simp only [Act.put,sl2,sl0,sl1]
       refine zr 10 rfl (fun K hK => ?_)
       obtain ⟨⟨x0,x1,x2⟩,x3,x4,x5⟩ := id hX
       go_simp
       clear x0 x1 x2 x3 x4 x5
       replace hS := hS.set3 (c := gx) (.bool n1) (.int .u64 y1) (.int .i64 d1) l_Fgx
       replace hY := hY.set3 (c := gx) (.bool n1) (.int .u64 y1) (.int .i64 d1) (by omega)
       replace hX := hX.store (ng' := n1) (m' := y1) (e' := d1)
       generalize ((W6.setCell ⟨gx,0,none⟩ (.bool n1)).setCell ⟨gx,1,none⟩ (.int .u64 y1)).setCell ⟨gx,2,none⟩ (.int .i64 d1) = W7 at *
       refine hK.out _ _ hS (fun _ => ?_)
       clear hK K
       try simp only [Act.put,sl2,sl0,sl1]
       refine zr 11 rfl (fun K hK => ?_)
       obtain ⟨⟨x0,x1,x2⟩,x3,x4,x5⟩ := id hY
       go_simp
       clear x0 x1 x2 x3 x4 x5
       replace hS := hS.set3 (c := gy) (.bool n2) (.int .u64 y2) (.int .i64 d2) l_Fgy
       replace hX := hX.set3 (c := gy) (.bool n2) (.int .u64 y2) (.int .i64 d2) (by omega)
       replace hY := hY.store (ng' := n2) (m' := y2) (e' := d2)
       generalize ((W7.setCell ⟨gy,0,none⟩ (.bool n2)).setCell ⟨gy,1,none⟩ (.int .u64 y2)).setCell ⟨gy,2,none⟩ (.int .i64 d2) = W8 at *
       refine hK.out _ _ hS (fun _ => ?_)
       clear hK K
       try simp only [Act.put,sl2,sl0,sl1]
       refine wpAnyH_done (by kernel_rfl) ?_ _
       (go_wp2_with fail)
       go_meet
       exact ⟨gx,gy,j1,y1,d1,j2,y2,d2,rfl,rfl,hX,hY,l_Fgx,l_Fgy,by omega,hS,HN1,HN2⟩
      exact zn
     refine zc rfl (fun K hK => ?_) ?_
     ·go_simp
      have l_Fgy := hS.lt
      have l_hXgy := hX.lt
      have hY := Nb.new false 0 0 W3
      replace hS := hS.alloc (.cells #[.bool false,.int .u64 0,.int .i64 0] 153)
      replace hX := hX.alloc (.cells #[.bool false,.int .u64 0,.int .i64 0] 153)
      generalize World.alloc W3 (.cells #[.bool false,.int .u64 0,.int .i64 0] 153) = W4 at *
      generalize W3.heap.size = gy at *
      refine hK.out _ _ hS (fun _ => ?_)
      clear hK K
      try simp only [Act.put,sl2,sl0,sl1]
      refine zr 6 rfl (fun K hK => ?_)
      go_simp
      go_at_call 160
      (with_reducible refine (PB _).out.mono ?_)
      rintro e W5 ⟨rfl,hb⟩
      replace hS := hS.call hb
      replace hX := hX.call hb
      replace hY := hY.call hb
      clear hb
      refine hK.out _ _ hS (fun _ => ?_)
      clear hK K
      try simp only [Act.put,sl2,sl0,sl1]
      refine zr 7 rfl (fun K hK => ?_)
      go_simp
      go_at_call 159
      (with_reducible refine (normal_any n2 m2 HM2.out e2 HE2.out.1 HE2.out.2 _).mono ?_)
      rintro e W6 ⟨j2,hj,hl,hlt,he,hb⟩
      obtain ⟨y2,hy⟩ : ∃ y2 : Nat,y2 = m2 * 2 ^ j2 := ⟨_,rfl⟩
      obtain ⟨d2,hd⟩ : ∃ d2 : Int,d2 = e2 - (j2 : Int) := ⟨_,rfl⟩
      rw [← hy,← hd] at he
      subst he
      have HN2 := hid (And.intro hj (And.intro hl (And.intro hlt (And.intro hy hd))))
      clear hj hl hlt hy hd
      replace hS := hS.call hb
      replace hX := hX.call hb
      replace hY := hY.call hb
      clear hb
      refine hK.out _ _ hS (fun _ => ?_)
      clear hK K
      try simp only [Act.put,sl2,sl0,sl1]
      refine zr 10 rfl (fun K hK => ?_)
      obtain ⟨⟨x0,x1,x2⟩,x3,x4,x5⟩ := id hX
      go_simp
      clear x0 x1 x2 x3 x4 x5
      replace hS := hS.set3 (c := gx) (.bool n1) (.int .u64 y1) (.int .i64 d1) l_Fgx
      replace hY := hY.set3 (c := gx) (.bool n1) (.int .u64 y1) (.int .i64 d1) (by omega)
      replace hX := hX.store (ng' := n1) (m' := y1) (e' := d1)
      generalize ((W6.setCell ⟨gx,0,none⟩ (.bool n1)).setCell ⟨gx,1,none⟩ (.int .u64 y1)).setCell ⟨gx,2,none⟩ (.int .i64 d1) = W7 at *
      refine hK.out _ _ hS (fun _ => ?_)
      clear hK K
      try simp only [Act.put,sl2,sl0,sl1]
      refine zr 11 rfl (fun K hK => ?_)
      obtain ⟨⟨x0,x1,x2⟩,x3,x4,x5⟩ := id hY
      go_simp
      clear x0 x1 x2 x3 x4 x5
      replace hS := hS.set3 (c := gy) (.bool n2) (.int .u64 y2) (.int .i64 d2) l_Fgy
      replace hX := hX.set3 (c := gy) (.bool n2) (.int .u64 y2) (.int .i64 d2) (by omega)
      replace hY := hY.store (ng' := n2) (m' := y2) (e' := d2)
      generalize ((W7.setCell ⟨gy,0,none⟩ (.bool n2)).setCell ⟨gy,1,none⟩ (.int .u64 y2)).setCell ⟨gy,2,none⟩ (.int .i64 d2) = W8 at *
      refine hK.out _ _ hS (fun _ => ?_)
      clear hK K
      try simp only [Act.put,sl2,sl0,sl1]
      refine wpAnyH_done (by kernel_rfl) ?_ _
      (go_wp2_with fail)
      go_meet
      exact ⟨gx,gy,j1,y1,d1,j2,y2,d2,rfl,rfl,hX,hY,l_Fgx,l_Fgy,by omega,hS,HN1,HN2⟩
     exact zn
    refine zc rfl (fun K hK => ?_) ?_
    ·go_simp
     have l_Fgy := hS.lt
     have l_hXgy := hX.lt
     have hY := Nb.new false 0 0 W2
     replace hS := hS.alloc (.cells #[.bool false,.int .u64 0,.int .i64 0] 153)
     replace hX := hX.alloc (.cells #[.bool false,.int .u64 0,.int .i64 0] 153)
     generalize World.alloc W2 (.cells #[.bool false,.int .u64 0,.int .i64 0] 153) = W3 at *
     generalize W2.heap.size = gy at *
     refine hK.out _ _ hS (fun _ => ?_)
     clear hK K
     try simp only [Act.put,sl2,sl0,sl1]
     refine zr 3 rfl (fun K hK => ?_)
     go_simp
     go_at_call 159
     (with_reducible refine (normal_any n1 m1 HM1.out e1 HE1.out.1 HE1.out.2 _).mono ?_)
     rintro e W4 ⟨j1,hj,hl,hlt,he,hb⟩
     obtain ⟨y1,hy⟩ : ∃ y1 : Nat,y1 = m1 * 2 ^ j1 := ⟨_,rfl⟩
     obtain ⟨d1,hd⟩ : ∃ d1 : Int,d1 = e1 - (j1 : Int) := ⟨_,rfl⟩
     rw [← hy,← hd] at he
     subst he
     have HN1 := hid (And.intro hj (And.intro hl (And.intro hlt (And.intro hy hd))))
     clear hj hl hlt hy hd
     replace hS := hS.call hb
     replace hX := hX.call hb
     replace hY := hY.call hb
     clear hb
     refine hK.out _ _ hS (fun _ => ?_)
     clear hK K
     try simp only [Act.put,sl2,sl0,sl1]
     refine zr 6 rfl (fun K hK => ?_)
     go_simp
     go_at_call 160
     (with_reducible refine (PB _).out.mono ?_)
     rintro e W5 ⟨rfl,hb⟩
     replace hS := hS.call hb
     replace hX := hX.call hb
     replace hY := hY.call hb
     clear hb
     refine hK.out _ _ hS (fun _ => ?_)
     clear hK K
     try simp only [Act.put,sl2,sl0,sl1]
     refine zr 7 rfl (fun K hK => ?_)
     go_simp
     go_at_call 159
     (with_reducible refine (normal_any n2 m2 HM2.out e2 HE2.out.1 HE2.out.2 _).mono ?_)
     rintro e W6 ⟨j2,hj,hl,hlt,he,hb⟩
     obtain ⟨y2,hy⟩ : ∃ y2 : Nat,y2 = m2 * 2 ^ j2 := ⟨_,rfl⟩
     obtain ⟨d2,hd⟩ : ∃ d2 : Int,d2 = e2 - (j2 : Int) := ⟨_,rfl⟩
     rw [← hy,← hd] at he
     subst he
     have HN2 := hid (And.intro hj (And.intro hl (And.intro hlt (And.intro hy hd))))
     clear hj hl hlt hy hd
     replace hS := hS.call hb
     replace hX := hX.call hb
     replace hY := hY.call hb
     clear hb
     refine hK.out _ _ hS (fun _ => ?_)
     clear hK K
     try simp only [Act.put,sl2,sl0,sl1]
     refine zr 10 rfl (fun K hK => ?_)
     obtain ⟨⟨x0,x1,x2⟩,x3,x4,x5⟩ := id hX
     go_simp
     clear x0 x1 x2 x3 x4 x5
     replace hS := hS.set3 (c := gx) (.bool n1) (.int .u64 y1) (.int .i64 d1) l_Fgx
     replace hY := hY.set3 (c := gx) (.bool n1) (.int .u64 y1) (.int .i64 d1) (by omega)
     replace hX := hX.store (ng' := n1) (m' := y1) (e' := d1)
     generalize ((W6.setCell ⟨gx,0,none⟩ (.bool n1)).setCell ⟨gx,1,none⟩ (.int .u64 y1)).setCell ⟨gx,2,none⟩ (.int .i64 d1) = W7 at *
     refine hK.out _ _ hS (fun _ => ?_)
     clear hK K
     try simp only [Act.put,sl2,sl0,sl1]
     refine zr 11 rfl (fun K hK => ?_)
     obtain ⟨⟨x0,x1,x2⟩,x3,x4,x5⟩ := id hY
     go_simp
     clear x0 x1 x2 x3 x4 x5
     replace hS := hS.set3 (c := gy) (.bool n2) (.int .u64 y2) (.int .i64 d2) l_Fgy
     replace hX := hX.set3 (c := gy) (.bool n2) (.int .u64 y2) (.int .i64 d2) (by omega)
     replace hY := hY.store (ng' := n2) (m' := y2) (e' := d2)
     generalize ((W7.setCell ⟨gy,0,none⟩ (.bool n2)).setCell ⟨gy,1,none⟩ (.int .u64 y2)).setCell ⟨gy,2,none⟩ (.int .i64 d2) = W8 at *
     refine hK.out _ _ hS (fun _ => ?_)
     clear hK K
     try simp only [Act.put,sl2,sl0,sl1]
     refine wpAnyH_done (by kernel_rfl) ?_ _
     (go_wp2_with fail)
     go_meet
     exact ⟨gx,gy,j1,y1,d1,j2,y2,d2,rfl,rfl,hX,hY,l_Fgx,l_Fgy,by omega,hS,HN1,HN2⟩
    exact zn
   refine zc rfl (fun K hK => ?_) ?_
   ·go_simp
    have l_Fgy := hS.lt
    have l_hXgy := hX.lt
    have hY := Nb.new false 0 0 W1
    replace hS := hS.alloc (.cells #[.bool false,.int .u64 0,.int .i64 0] 153)
    replace hX := hX.alloc (.cells #[.bool false,.int .u64 0,.int .i64 0] 153)
    generalize World.alloc W1 (.cells #[.bool false,.int .u64 0,.int .i64 0] 153) = W2 at *
    generalize W1.heap.size = gy at *
    refine hK.out _ _ hS (fun _ => ?_)
    clear hK K
    try simp only [Act.put,sl2,sl0,sl1]
    refine zr 2 rfl (fun K hK => ?_)
    go_simp
    go_at_call 160
    (with_reducible refine (PA _).out.mono ?_)
    rintro e W3 ⟨rfl,hb⟩
    replace hS := hS.call hb
    replace hX := hX.call hb
    replace hY := hY.call hb
    clear hb
    refine hK.out _ _ hS (fun _ => ?_)
    clear hK K
    try simp only [Act.put,sl2,sl0,sl1]
    refine zr 3 rfl (fun K hK => ?_)
    go_simp
    go_at_call 159
    (with_reducible refine (normal_any n1 m1 HM1.out e1 HE1.out.1 HE1.out.2 _).mono ?_)
    rintro e W4 ⟨j1,hj,hl,hlt,he,hb⟩
    obtain ⟨y1,hy⟩ : ∃ y1 : Nat,y1 = m1 * 2 ^ j1 := ⟨_,rfl⟩
    obtain ⟨d1,hd⟩ : ∃ d1 : Int,d1 = e1 - (j1 : Int) := ⟨_,rfl⟩
    rw [← hy,← hd] at he
    subst he
    have HN1 := hid (And.intro hj (And.intro hl (And.intro hlt (And.intro hy hd))))
    clear hj hl hlt hy hd
    replace hS := hS.call hb
    replace hX := hX.call hb
    replace hY := hY.call hb
    clear hb
    refine hK.out _ _ hS (fun _ => ?_)
    clear hK K
    try simp only [Act.put,sl2,sl0,sl1]
    refine zr 6 rfl (fun K hK => ?_)
    go_simp
    go_at_call 160
    (with_reducible refine (PB _).out.mono ?_)
    rintro e W5 ⟨rfl,hb⟩
    replace hS := hS.call hb
    replace hX := hX.call hb
    replace hY := hY.call hb
    clear hb
    refine hK.out _ _ hS (fun _ => ?_)
    clear hK K
    try simp only [Act.put,sl2,sl0,sl1]
    refine zr 7 rfl (fun K hK => ?_)
    go_simp
    go_at_call 159
    (with_reducible refine (normal_any n2 m2 HM2.out e2 HE2.out.1 HE2.out.2 _).mono ?_)
    rintro e W6 ⟨j2,hj,hl,hlt,he,hb⟩
    obtain ⟨y2,hy⟩ : ∃ y2 : Nat,y2 = m2 * 2 ^ j2 := ⟨_,rfl⟩
    obtain ⟨d2,hd⟩ : ∃ d2 : Int,d2 = e2 - (j2 : Int) := ⟨_,rfl⟩
    rw [← hy,← hd] at he
    subst he
    have HN2 := hid (And.intro hj (And.intro hl (And.intro hlt (And.intro hy hd))))
    clear hj hl hlt hy hd
    replace hS := hS.call hb
    replace hX := hX.call hb
    replace hY := hY.call hb
    clear hb
    refine hK.out _ _ hS (fun _ => ?_)
    clear hK K
    try simp only [Act.put,sl2,sl0,sl1]
    refine zr 10 rfl (fun K hK => ?_)
    obtain ⟨⟨x0,x1,x2⟩,x3,x4,x5⟩ := id hX
    go_simp
    clear x0 x1 x2 x3 x4 x5
    replace hS := hS.set3 (c := gx) (.bool n1) (.int .u64 y1) (.int .i64 d1) l_Fgx
    replace hY := hY.set3 (c := gx) (.bool n1) (.int .u64 y1) (.int .i64 d1) (by omega)
    replace hX := hX.store (ng' := n1) (m' := y1) (e' := d1)
    generalize ((W6.setCell ⟨gx,0,none⟩ (.bool n1)).setCell ⟨gx,1,none⟩ (.int .u64 y1)).setCell ⟨gx,2,none⟩ (.int .i64 d1) = W7 at *
    refine hK.out _ _ hS (fun _ => ?_)
    clear hK K
    try simp only [Act.put,sl2,sl0,sl1]
    refine zr 11 rfl (fun K hK => ?_)
    obtain ⟨⟨x0,x1,x2⟩,x3,x4,x5⟩ := id hY
    go_simp
    clear x0 x1 x2 x3 x4 x5
    replace hS := hS.set3 (c := gy) (.bool n2) (.int .u64 y2) (.int .i64 d2) l_Fgy
    replace hX := hX.set3 (c := gy) (.bool n2) (.int .u64 y2) (.int .i64 d2) (by omega)
    replace hY := hY.store (ng' := n2) (m' := y2) (e' := d2)
    generalize ((W7.setCell ⟨gy,0,none⟩ (.bool n2)).setCell ⟨gy,1,none⟩ (.int .u64 y2)).setCell ⟨gy,2,none⟩ (.int .i64 d2) = W8 at *
    refine hK.out _ _ hS (fun _ => ?_)
    clear hK K
    try simp only [Act.put,sl2,sl0,sl1]
    refine wpAnyH_done (by kernel_rfl) ?_ _
    (go_wp2_with fail)
    go_meet
    exact ⟨gx,gy,j1,y1,d1,j2,y2,d2,rfl,rfl,hX,hY,l_Fgx,l_Fgy,by omega,hS,HN1,HN2⟩
   exact zn
  refine zc rfl (fun K hK => ?_) ?_
  ·go_simp
   have l_Fgy := hS.lt
   have hY := Nb.new false 0 0 W
   replace hS := hS.alloc (.cells #[.bool false,.int .u64 0,.int .i64 0] 153)
   generalize World.alloc W (.cells #[.bool false,.int .u64 0,.int .i64 0] 153) = W1 at *
   generalize W.heap.size = gy at *
   refine hK.out _ _ hS (fun _ => ?_)
   clear hK K
   try simp only [Act.put,sl2,sl0,sl1]
   refine zm [2,8] ?_
   refine zc rfl (fun K hK => ?_) ?_
   ·go_simp
    go_at_call 160
    (with_reducible refine (PA _).out.mono ?_)
    rintro e W2 ⟨rfl,hb⟩
    replace hS := hS.call hb
    replace hY := hY.call hb
    clear hb
    refine hK.out _ _ hS (fun _ => ?_)
    clear hK K
    try simp only [Act.put,sl2,sl0,sl1]
    refine zm [3,8] ?_
    refine zc rfl (fun K hK => ?_) ?_
    ·go_simp
     go_at_call 159
     (with_reducible refine (normal_any n1 m1 HM1.out e1 HE1.out.1 HE1.out.2 _).mono ?_)
     rintro e W3 ⟨j1,hj,hl,hlt,he,hb⟩
     obtain ⟨y1,hy⟩ : ∃ y1 : Nat,y1 = m1 * 2 ^ j1 := ⟨_,rfl⟩
     obtain ⟨d1,hd⟩ : ∃ d1 : Int,d1 = e1 - (j1 : Int) := ⟨_,rfl⟩
     rw [← hy,← hd] at he
     subst he
     have HN1 := hid (And.intro hj (And.intro hl (And.intro hlt (And.intro hy hd))))
     clear hj hl hlt hy hd
     replace hS := hS.call hb
     replace hY := hY.call hb
     clear hb
     refine hK.out _ _ hS (fun _ => ?_)
     clear hK K
     try simp only [Act.put,sl2,sl0,sl1]
     refine zm [6,8] ?_
     refine zc rfl (fun K hK => ?_) ?_
     ·go_simp
      go_at_call 160
      (with_reducible refine (PB _).out.mono ?_)
      rintro e W4 ⟨rfl,hb⟩
      replace hS := hS.call hb
      replace hY := hY.call hb
      clear hb
      refine hK.out _ _ hS (fun _ => ?_)
      clear hK K
      try simp only [Act.put,sl2,sl0,sl1]
      refine zm [7,8] ?_
      refine zc rfl (fun K hK => ?_) ?_
      ·go_simp
       go_at_call 159
       (with_reducible refine (normal_any n2 m2 HM2.out e2 HE2.out.1 HE2.out.2 _).mono ?_)
       rintro e W5 ⟨j2,hj,hl,hlt,he,hb⟩
       obtain ⟨y2,hy⟩ : ∃ y2 : Nat,y2 = m2 * 2 ^ j2 := ⟨_,rfl⟩
       obtain ⟨d2,hd⟩ : ∃ d2 : Int,d2 = e2 - (j2 : Int) := ⟨_,rfl⟩
       rw [← hy,← hd] at he
       subst he
       have HN2 := hid (And.intro hj (And.intro hl (And.intro hlt (And.intro hy hd))))
       clear hj hl hlt hy hd
       replace hS := hS.call hb
       replace hY := hY.call hb
       clear hb
       refine hK.out _ _ hS (fun _ => ?_)
       clear hK K
       try simp only [Act.put,sl2,sl0,sl1]
       refine zr 8 rfl (fun K hK => ?_)
       go_simp
       have l_Fgx := hS.lt
       have l_hYgx := hY.lt
       have hX := Nb.new false 0 0 W5
       replace hS := hS.alloc (.cells #[.bool false,.int .u64 0,.int .i64 0] 153)
       replace hY := hY.alloc (.cells #[.bool false,.int .u64 0,.int .i64 0] 153)
       generalize World.alloc W5 (.cells #[.bool false,.int .u64 0,.int .i64 0] 153) = W6 at *
       generalize W5.heap.size = gx at *
       refine hK.out _ _ hS (fun _ => ?_)
       clear hK K
       try simp only [Act.put,sl2,sl0,sl1]
       refine zr 10 rfl (fun K hK => ?_)
       obtain ⟨⟨x0,x1,x2⟩,x3,x4,x5⟩ := id hX
       go_simp
       clear x0 x1 x2 x3 x4 x5
       replace hS := hS.set3 (c := gx) (.bool n1) (.int .u64 y1) (.int .i64 d1) l_Fgx
       replace hY := hY.set3 (c := gx) (.bool n1) (.int .u64 y1) (.int .i64 d1) (by omega)
       replace hX := hX.store (ng' := n1) (m' := y1) (e' := d1)
       generalize ((W6.setCell ⟨gx,0,none⟩ (.bool n1)).setCell ⟨gx,1,none⟩ (.int .u64 y1)).setCell ⟨gx,2,none⟩ (.int .i64 d1) = W7 at *
       refine hK.out _ _ hS (fun _ => ?_)
       clear hK K
       try simp only [Act.put,sl2,sl0,sl1]
       refine zr 11 rfl (fun K hK => ?_)
       obtain ⟨⟨x0,x1,x2⟩,x3,x4,x5⟩ := id hY
       go_simp
       clear x0 x1 x2 x3 x4 x5
       replace hS := hS.set3 (c := gy) (.bool n2) (.int .u64 y2) (.int .i64 d2) l_Fgy
       replace hX := hX.set3 (c := gy) (.bool n2) (.int .u64 y2) (.int .i64 d2) (by omega)
       replace hY := hY.store (ng' := n2) (m' := y2) (e' := d2)
       generalize ((W7.setCell ⟨gy,0,none⟩ (.bool n2)).setCell ⟨gy,1,none⟩ (.int .u64 y2)).setCell ⟨gy,2,none⟩ (.int .i64 d2) = W8 at *
       refine hK.out _ _ hS (fun _ => ?_)
       clear hK K
       try simp only [Act.put,sl2,sl0,sl1]
       refine wpAnyH_done (by kernel_rfl) ?_ _
       (go_wp2_with fail)
       go_meet
       exact ⟨gx,gy,j1,y1,d1,j2,y2,d2,rfl,rfl,hX,hY,l_Fgx,l_Fgy,by omega,hS,HN1,HN2⟩
      refine zc rfl (fun K hK => ?_) ?_
      ·go_simp
       have l_Fgx := hS.lt
       have l_hYgx := hY.lt
       have hX := Nb.new false 0 0 W4
       replace hS := hS.alloc (.cells #[.bool false,.int .u64 0,.int .i64 0] 153)
       replace hY := hY.alloc (.cells #[.bool false,.int .u64 0,.int .i64 0] 153)
       generalize World.alloc W4 (.cells #[.bool false,.int .u64 0,.int .i64 0] 153) = W5 at *
       generalize W4.heap.size = gx at *
       refine hK.out _ _ hS (fun _ => ?_)
       clear hK K
       try simp only [Act.put,sl2,sl0,sl1]
       refine zr 7 rfl (fun K hK => ?_)
       go_simp
       go_at_call 159
       (with_reducible refine (normal_any n2 m2 HM2.out e2 HE2.out.1 HE2.out.2 _).mono ?_)
       rintro e W6 ⟨j2,hj,hl,hlt,he,hb⟩
       obtain ⟨y2,hy⟩ : ∃ y2 : Nat,y2 = m2 * 2 ^ j2 := ⟨_,rfl⟩
       obtain ⟨d2,hd⟩ : ∃ d2 : Int,d2 = e2 - (j2 : Int) := ⟨_,rfl⟩
       rw [← hy,← hd] at he
       subst he
       have HN2 := hid (And.intro hj (And.intro hl (And.intro hlt (And.intro hy hd))))
       clear hj hl hlt hy hd
       replace hS := hS.call hb
       replace hY := hY.call hb
       replace hX := hX.call hb
       clear hb
       refine hK.out _ _ hS (fun _ => ?_)
       clear hK K
       try simp only [Act.put,sl2,sl0,sl1]
       refine zr 10 rfl (fun K hK => ?_)
       obtain ⟨⟨x0,x1,x2⟩,x3,x4,x5⟩ := id hX
       go_simp
       clear x0 x1 x2 x3 x4 x5
       replace hS := hS.set3 (c := gx) (.bool n1) (.int .u64 y1) (.int .i64 d1) l_Fgx
       replace hY := hY.set3 (c := gx) (.bool n1) (.int .u64 y1) (.int .i64 d1) (by omega)
       replace hX := hX.store (ng' := n1) (m' := y1) (e' := d1)
       generalize ((W6.setCell ⟨gx,0,none⟩ (.bool n1)).setCell ⟨gx,1,none⟩ (.int .u64 y1)).setCell ⟨gx,2,none⟩ (.int .i64 d1) = W7 at *
       refine hK.out _ _ hS (fun _ => ?_)
       clear hK K
       try simp only [Act.put,sl2,sl0,sl1]
       refine zr 11 rfl (fun K hK => ?_)
       obtain ⟨⟨x0,x1,x2⟩,x3,x4,x5⟩ := id hY
       go_simp
       clear x0 x1 x2 x3 x4 x5
       replace hS := hS.set3 (c := gy) (.bool n2) (.int .u64 y2) (.int .i64 d2) l_Fgy
       replace hX := hX.set3 (c := gy) (.bool n2) (.int .u64 y2) (.int .i64 d2) (by omega)
       replace hY := hY.store (ng' := n2) (m' := y2) (e' := d2)
       generalize ((W7.setCell ⟨gy,0,none⟩ (.bool n2)).setCell ⟨gy,1,none⟩ (.int .u64 y2)).setCell ⟨gy,2,none⟩ (.int .i64 d2) = W8 at *
       refine hK.out _ _ hS (fun _ => ?_)
       clear hK K
       try simp only [Act.put,sl2,sl0,sl1]
       refine wpAnyH_done (by kernel_rfl) ?_ _
       (go_wp2_with fail)
       go_meet
       exact ⟨gx,gy,j1,y1,d1,j2,y2,d2,rfl,rfl,hX,hY,l_Fgx,l_Fgy,by omega,hS,HN1,HN2⟩
      exact zn
     refine zc rfl (fun K hK => ?_) ?_
     ·go_simp
      have l_Fgx := hS.lt
      have l_hYgx := hY.lt
      have hX := Nb.new false 0 0 W3
      replace hS := hS.alloc (.cells #[.bool false,.int .u64 0,.int .i64 0] 153)
      replace hY := hY.alloc (.cells #[.bool false,.int .u64 0,.int .i64 0] 153)
      generalize World.alloc W3 (.cells #[.bool false,.int .u64 0,.int .i64 0] 153) = W4 at *
      generalize W3.heap.size = gx at *
      refine hK.out _ _ hS (fun _ => ?_)
      clear hK K
      try simp only [Act.put,sl2,sl0,sl1]
      refine zr 6 rfl (fun K hK => ?_)
      go_simp
      go_at_call 160
      (with_reducible refine (PB _).out.mono ?_)
      rintro e W5 ⟨rfl,hb⟩
      replace hS := hS.call hb
      replace hY := hY.call hb
      replace hX := hX.call hb
      clear hb
      refine hK.out _ _ hS (fun _ => ?_)
      clear hK K
      try simp only [Act.put,sl2,sl0,sl1]
      refine zr 7 rfl (fun K hK => ?_)
      go_simp
      go_at_call 159
      (with_reducible refine (normal_any n2 m2 HM2.out e2 HE2.out.1 HE2.out.2 _).mono ?_)
      rintro e W6 ⟨j2,hj,hl,hlt,he,hb⟩
      obtain ⟨y2,hy⟩ : ∃ y2 : Nat,y2 = m2 * 2 ^ j2 := ⟨_,rfl⟩
      obtain ⟨d2,hd⟩ : ∃ d2 : Int,d2 = e2 - (j2 : Int) := ⟨_,rfl⟩
      rw [← hy,← hd] at he
      subst he
      have HN2 := hid (And.intro hj (And.intro hl (And.intro hlt (And.intro hy hd))))
      clear hj hl hlt hy hd
      replace hS := hS.call hb
      replace hY := hY.call hb
      replace hX := hX.call hb
      clear hb
      refine hK.out _ _ hS (fun _ => ?_)
      clear hK K
      try simp only [Act.put,sl2,sl0,sl1]
      refine zr 10 rfl (fun K hK => ?_)
      obtain ⟨⟨x0,x1,x2⟩,x3,x4,x5⟩ := id hX
      go_simp
      clear x0 x1 x2 x3 x4 x5
      replace hS := hS.set3 (c := gx) (.bool n1) (.int .u64 y1) (.int .i64 d1) l_Fgx
      replace hY := hY.set3 (c := gx) (.bool n1) (.int .u64 y1) (.int .i64 d1) (by omega)
      replace hX := hX.store (ng' := n1) (m' := y1) (e' := d1)
      generalize ((W6.setCell ⟨gx,0,none⟩ (.bool n1)).setCell ⟨gx,1,none⟩ (.int .u64 y1)).setCell ⟨gx,2,none⟩ (.int .i64 d1) = W7 at *
      refine hK.out _ _ hS (fun _ => ?_)
      clear hK K
      try simp only [Act.put,sl2,sl0,sl1]
      refine zr 11 rfl (fun K hK => ?_)
      obtain ⟨⟨x0,x1,x2⟩,x3,x4,x5⟩ := id hY
      go_simp
      clear x0 x1 x2 x3 x4 x5
      replace hS := hS.set3 (c := gy) (.bool n2) (.int .u64 y2) (.int .i64 d2) l_Fgy
      replace hX := hX.set3 (c := gy) (.bool n2) (.int .u64 y2) (.int .i64 d2) (by omega)
      replace hY := hY.store (ng' := n2) (m' := y2) (e' := d2)
      generalize ((W7.setCell ⟨gy,0,none⟩ (.bool n2)).setCell ⟨gy,1,none⟩ (.int .u64 y2)).setCell ⟨gy,2,none⟩ (.int .i64 d2) = W8 at *
      refine hK.out _ _ hS (fun _ => ?_)
      clear hK K
      try simp only [Act.put,sl2,sl0,sl1]
      refine wpAnyH_done (by kernel_rfl) ?_ _
      (go_wp2_with fail)
      go_meet
      exact ⟨gx,gy,j1,y1,d1,j2,y2,d2,rfl,rfl,hX,hY,l_Fgx,l_Fgy,by omega,hS,HN1,HN2⟩
     exact zn
    refine zc rfl (fun K hK => ?_) ?_
    ·go_simp
     have l_Fgx := hS.lt
     have l_hYgx := hY.lt
     have hX := Nb.new false 0 0 W2
     replace hS := hS.alloc (.cells #[.bool false,.int .u64 0,.int .i64 0] 153)
     replace hY := hY.alloc (.cells #[.bool false,.int .u64 0,.int .i64 0] 153)
     generalize World.alloc W2 (.cells #[.bool false,.int .u64 0,.int .i64 0] 153) = W3 at *
     generalize W2.heap.size = gx at *
     refine hK.out _ _ hS (fun _ => ?_)
     clear hK K
     try simp only [Act.put,sl2,sl0,sl1]
     refine zr 3 rfl (fun K hK => ?_)
     go_simp
     go_at_call 159
     (with_reducible refine (normal_any n1 m1 HM1.out e1 HE1.out.1 HE1.out.2 _).mono ?_)
     rintro e W4 ⟨j1,hj,hl,hlt,he,hb⟩
     obtain ⟨y1,hy⟩ : ∃ y1 : Nat,y1 = m1 * 2 ^ j1 := ⟨_,rfl⟩
     obtain ⟨d1,hd⟩ : ∃ d1 : Int,d1 = e1 - (j1 : Int) := ⟨_,rfl⟩
     rw [← hy,← hd] at he
     subst he
     have HN1 := hid (And.intro hj (And.intro hl (And.intro hlt (And.intro hy hd))))
     clear hj hl hlt hy hd
     replace hS := hS.call hb
     replace hY := hY.call hb
     replace hX := hX.call hb
     clear hb
     refine hK.out _ _ hS (fun _ => ?_)
     clear hK K
     try simp only [Act.put,sl2,sl0,sl1]
     refine zr 6 rfl (fun K hK => ?_)
     go_simp
     go_at_call 160
     (with_reducible refine (PB _).out.mono ?_)
     rintro e W5 ⟨rfl,hb⟩
     replace hS := hS.call hb
     replace hY := hY.call hb
     replace hX := hX.call hb
     clear hb
     refine hK.out _ _ hS (fun _ => ?_)
     clear hK K
     try simp only [Act.put,sl2,sl0,sl1]
     refine zr 7 rfl (fun K hK => ?_)
     go_simp
     go_at_call 159
     (with_reducible refine (normal_any n2 m2 HM2.out e2 HE2.out.1 HE2.out.2 _).mono ?_)
     rintro e W6 ⟨j2,hj,hl,hlt,he,hb⟩
     obtain ⟨y2,hy⟩ : ∃ y2 : Nat,y2 = m2 * 2 ^ j2 := ⟨_,rfl⟩
     obtain ⟨d2,hd⟩ : ∃ d2 : Int,d2 = e2 - (j2 : Int) := ⟨_,rfl⟩
     rw [← hy,← hd] at he
     subst he
     have HN2 := hid (And.intro hj (And.intro hl (And.intro hlt (And.intro hy hd))))
     clear hj hl hlt hy hd
     replace hS := hS.call hb
     replace hY := hY.call hb
     replace hX := hX.call hb
     clear hb
     refine hK.out _ _ hS (fun _ => ?_)
     clear hK K
     try simp only [Act.put,sl2,sl0,sl1]
     refine zr 10 rfl (fun K hK => ?_)
     obtain ⟨⟨x0,x1,x2⟩,x3,x4,x5⟩ := id hX
     go_simp
     clear x0 x1 x2 x3 x4 x5
     replace hS := hS.set3 (c := gx) (.bool n1) (.int .u64 y1) (.int .i64 d1) l_Fgx
     replace hY := hY.set3 (c := gx) (.bool n1) (.int .u64 y1) (.int .i64 d1) (by omega)
     replace hX := hX.store (ng' := n1) (m' := y1) (e' := d1)
     generalize ((W6.setCell ⟨gx,0,none⟩ (.bool n1)).setCell ⟨gx,1,none⟩ (.int .u64 y1)).setCell ⟨gx,2,none⟩ (.int .i64 d1) = W7 at *
     refine hK.out _ _ hS (fun _ => ?_)
     clear hK K
     try simp only [Act.put,sl2,sl0,sl1]
     refine zr 11 rfl (fun K hK => ?_)
     obtain ⟨⟨x0,x1,x2⟩,x3,x4,x5⟩ := id hY
     go_simp
     clear x0 x1 x2 x3 x4 x5
     replace hS := hS.set3 (c := gy) (.bool n2) (.int .u64 y2) (.int .i64 d2) l_Fgy
     replace hX := hX.set3 (c := gy) (.bool n2) (.int .u64 y2) (.int .i64 d2) (by omega)
     replace hY := hY.store (ng' := n2) (m' := y2) (e' := d2)
     generalize ((W7.setCell ⟨gy,0,none⟩ (.bool n2)).setCell ⟨gy,1,none⟩ (.int .u64 y2)).setCell ⟨gy,2,none⟩ (.int .i64 d2) = W8 at *
     refine hK.out _ _ hS (fun _ => ?_)
     clear hK K
     try simp only [Act.put,sl2,sl0,sl1]
     refine wpAnyH_done (by kernel_rfl) ?_ _
     (go_wp2_with fail)
     go_meet
     exact ⟨gx,gy,j1,y1,d1,j2,y2,d2,rfl,rfl,hX,hY,l_Fgx,l_Fgy,by omega,hS,HN1,HN2⟩
    exact zn
   refine zc rfl (fun K hK => ?_) ?_
   ·go_simp
    have l_Fgx := hS.lt
    have l_hYgx := hY.lt
    have hX := Nb.new false 0 0 W1
    replace hS := hS.alloc (.cells #[.bool false,.int .u64 0,.int .i64 0] 153)
    replace hY := hY.alloc (.cells #[.bool false,.int .u64 0,.int .i64 0] 153)
    generalize World.alloc W1 (.cells #[.bool false,.int .u64 0,.int .i64 0] 153) = W2 at *
    generalize W1.heap.size = gx at *
    refine hK.out _ _ hS (fun _ => ?_)
    clear hK K
    try simp only [Act.put,sl2,sl0,sl1]
    refine zr 2 rfl (fun K hK => ?_)
    go_simp
    go_at_call 160
    (with_reducible refine (PA _).out.mono ?_)
    rintro e W3 ⟨rfl,hb⟩
    replace hS := hS.call hb
    replace hY := hY.call hb
    replace hX := hX.call hb
    clear hb
    refine hK.out _ _ hS (fun _ => ?_)
    clear hK K
    try simp only [Act.put,sl2,sl0,sl1]
    refine zr 3 rfl (fun K hK => ?_)
    go_simp
    go_at_call 159
    (with_reducible refine (normal_any n1 m1 HM1.out e1 HE1.out.1 HE1.out.2 _).mono ?_)
    rintro e W4 ⟨j1,hj,hl,hlt,he,hb⟩
    obtain ⟨y1,hy⟩ : ∃ y1 : Nat,y1 = m1 * 2 ^ j1 := ⟨_,rfl⟩
    obtain ⟨d1,hd⟩ : ∃ d1 : Int,d1 = e1 - (j1 : Int) := ⟨_,rfl⟩
    rw [← hy,← hd] at he
    subst he
    have HN1 := hid (And.intro hj (And.intro hl (And.intro hlt (And.intro hy hd))))
    clear hj hl hlt hy hd
    replace hS := hS.call hb
    replace hY := hY.call hb
    replace hX := hX.call hb
    clear hb
    refine hK.out _ _ hS (fun _ => ?_)
    clear hK K
    try simp only [Act.put,sl2,sl0,sl1]
    refine zr 6 rfl (fun K hK => ?_)
    go_simp
    go_at_call 160
    (with_reducible refine (PB _).out.mono ?_)
    rintro e W5 ⟨rfl,hb⟩
    replace hS := hS.call hb
    replace hY := hY.call hb
    replace hX := hX.call hb
    clear hb
    refine hK.out _ _ hS (fun _ => ?_)
    clear hK K
    try simp only [Act.put,sl2,sl0,sl1]
    refine zr 7 rfl (fun K hK => ?_)
    go_simp
    go_at_call 159
    (with_reducible refine (normal_any n2 m2 HM2.out e2 HE2.out.1 HE2.out.2 _).mono ?_)
    rintro e W6 ⟨j2,hj,hl,hlt,he,hb⟩
    obtain ⟨y2,hy⟩ : ∃ y2 : Nat,y2 = m2 * 2 ^ j2 := ⟨_,rfl⟩
    obtain ⟨d2,hd⟩ : ∃ d2 : Int,d2 = e2 - (j2 : Int) := ⟨_,rfl⟩
    rw [← hy,← hd] at he
    subst he
    have HN2 := hid (And.intro hj (And.intro hl (And.intro hlt (And.intro hy hd))))
    clear hj hl hlt hy hd
    replace hS := hS.call hb
    replace hY := hY.call hb
    replace hX := hX.call hb
    clear hb
    refine hK.out _ _ hS (fun _ => ?_)
    clear hK K
    try simp only [Act.put,sl2,sl0,sl1]
    refine zr 10 rfl (fun K hK => ?_)
    obtain ⟨⟨x0,x1,x2⟩,x3,x4,x5⟩ := id hX
    go_simp
    clear x0 x1 x2 x3 x4 x5
    replace hS := hS.set3 (c := gx) (.bool n1) (.int .u64 y1) (.int .i64 d1) l_Fgx
    replace hY := hY.set3 (c := gx) (.bool n1) (.int .u64 y1) (.int .i64 d1) (by omega)
    replace hX := hX.store (ng' := n1) (m' := y1) (e' := d1)
    generalize ((W6.setCell ⟨gx,0,none⟩ (.bool n1)).setCell ⟨gx,1,none⟩ (.int .u64 y1)).setCell ⟨gx,2,none⟩ (.int .i64 d1) = W7 at *
    refine hK.out _ _ hS (fun _ => ?_)
    clear hK K
    try simp only [Act.put,sl2,sl0,sl1]
    refine zr 11 rfl (fun K hK => ?_)
    obtain ⟨⟨x0,x1,x2⟩,x3,x4,x5⟩ := id hY
    go_simp
    clear x0 x1 x2 x3 x4 x5
    replace hS := hS.set3 (c := gy) (.bool n2) (.int .u64 y2) (.int .i64 d2) l_Fgy
    replace hX := hX.set3 (c := gy) (.bool n2) (.int .u64 y2) (.int .i64 d2) (by omega)
    replace hY := hY.store (ng' := n2) (m' := y2) (e' := d2)
    generalize ((W7.setCell ⟨gy,0,none⟩ (.bool n2)).setCell ⟨gy,1,none⟩ (.int .u64 y2)).setCell ⟨gy,2,none⟩ (.int .i64 d2) = W8 at *
    refine hK.out _ _ hS (fun _ => ?_)
    clear hK K
    try simp only [Act.put,sl2,sl0,sl1]
    refine wpAnyH_done (by kernel_rfl) ?_ _
    (go_wp2_with fail)
    go_meet
    exact ⟨gx,gy,j1,y1,d1,j2,y2,d2,rfl,rfl,hX,hY,l_Fgx,l_Fgy,by omega,hS,HN1,HN2⟩
   exact zn
  exact zn
 case rest =>
  clear hS c0 c1 PA PB KA KB SG HM1 HM2 HE1 HE2 hxb f1 f2
  obtain ⟨gx,gy,j1,y1,d1,j2,y2,d2,rfl,rfl,hX,hY,hgx,hgy,hne,hS,HN1,HN2⟩ := hcut
  have HX := hid hX
  have HY := hid hY
  have HS := hid hS
  obtain ⟨c0,c1⟩ := id hS.1
  obtain ⟨⟨x0,x1,x2⟩,-⟩ := id hX
  obtain ⟨⟨yy0,yy1,yy2⟩,-⟩ := id hY
  obtain ⟨hj1,hl1,hlt1,hy1,hd1⟩ := HN1.out
  obtain ⟨hj2,hl2,hlt2,hy2,hd2⟩ := HN2.out
  have hpm := prod_math (f := f) hfP e1 e2 hl1 hl2
  rw [← hy1,← hy2,← hd1,← hd2] at hpm
  rw [← hy1] at hlt1
  rw [← hy2] at hlt2
  have HMU := fun W => hid (multiplied_any y1 y2 hlt1 hlt2 W)
  have hhi : y1 * y2 / 18446744073709551616 < 18446744073709551616 := by
   rw [Nat.div_lt_iff_lt_mul (by decide)]
   exact Nat.mul_lt_mul_of_le_of_lt (Nat.le_of_lt hlt1) hlt2 (by decide)
  have hlo : y1 * y2 % 18446744073709551616 ≠ 0 → 288230376151711744 ≤ y1 * y2 / 18446744073709551616 := fun hne => by
   have hm1 : m1 ≠ 0 := by intro h; rw [hy1,h,Nat.zero_mul,Nat.zero_mul] at hne; exact hne rfl
   have hm2 : m2 ≠ 0 := by intro h; rw [hy2,h,Nat.zero_mul,Nat.mul_zero] at hne; exact hne rfl
   have g1 := hl1 hm1
   have g2 := hl2 hm2
   rw [← hy1] at g1
   rw [← hy2] at g2
   rw [Nat.le_div_iff_mul_le (by decide)]
   exact Nat.le_trans (by decide) (Nat.mul_le_mul g1 g2)
  obtain ⟨H,hH⟩ : ∃ H : Nat,H = y1 * y2 / 18446744073709551616 := ⟨_,rfl⟩
  obtain ⟨L,hL⟩ : ∃ L : Nat,L = y1 * y2 % 18446744073709551616 := ⟨_,rfl⟩
  rw [← hH,← hL] at HMU hpm
  rw [← hH] at hhi
  rw [← hH,← hL] at hlo
  obtain ⟨mo,hmo⟩ : ∃ mo : Bool,mo = decide (L ≠ 0) := ⟨_,rfl⟩
  have g1 : ((L : Int) != 0) = mo := by
   rw [hmo]
   by_cases h : L = 0
   ·subst h; rfl
   ·simp [h]
  rw [← hmo] at hpm
  have hdb : -3000 ≤ d1 ∧ d1 ≤ 3000 ∧ -3000 ≤ d2 ∧ d2 ≤ 3000 := by have := HEB.out; omega
  obtain ⟨e4,he4⟩ : ∃ e4 : Int,e4 = d1 + d2 := ⟨_,rfl⟩
  obtain ⟨e3,he3⟩ : ∃ e3 : Int,e3 = e4 + 64 := ⟨_,rfl⟩
  rw [← he4,← he3] at hpm
  have g2 : d1 + d2 = e4 := he4.symm
  have g4 : e4 + 64 = e3 := he3.symm
  have g3 : wrap64 e4 = e4 := pwrap_in _ (by clear hpm; omega) (by clear hpm; omega)
  have g5 : wrap64 e3 = e3 := pwrap_in _ (by clear hpm; omega) (by clear hpm; omega)
  have hRf : RR = (f).word ns (rungR f H e3 mo) := by rw [HRR.out,hpm]
  have RC := fun W => hid (HRC.out H e3 mo hhi (by clear hpm hRf; omega) (by clear hpm hRf; omega) (fun h => hlo (by rw [hmo] at h; exact of_decide_eq_true h)) W)
  rw [← hRf] at RC
  have hsgn := HSGN.out
  clear hRf hpm hhi hlo hmo hH hL he3 he4 hdb hX hY hS hgx hgy hne hj1 hl1 hlt1 hy1 hd1 hj2 hl2 hlt2 hy2 hd2 HN1 HN2 HRR HEB HRC hfP
  go_wp2_with (first
   | (go_at_call 176; ((with_reducible refine (HMU _).out.mono ?_); rintro e w4 ⟨rfl,rfl⟩))
   | (go_at_call 161; (with_reducible refine (RC _).out.mono ?_); rintro e w5 ⟨rfl,hb5⟩; have HF := hid (bnext HS.out.2 hb5)))
  go_ret
  exact ⟨rfl,HF.out⟩
end Go.Proofs.YtbbmbhcbncenaaaGreatDoor.Fl
