/-
  FQuoG: merged, what the law does not reach left out (each text says what it holds where it lies in wip). No condition.
-/
import Derived.Test.YtbbmbhcbncenaaaGreatDoorG14
import Derived.Test.YtbbmbhcbncenaaaGreatDoorG01
set_option linter.unusedSimpArgs false
set_option linter.unusedVariables false
set_option maxRecDepth 100000
namespace Go.Proofs.YtbbmbhcbncenaaaGreatDoor.Fl
open Go.RowKit
set_option maxRecDepth 20000 in
set_option maxHeartbeats 25600000 in
theorem quo_gen (E P : Int) (f : Ieee.Format) (a b xr sg : Nat) (ns n1 n2 : Bool) (m1 m2 RR : Nat) (e1 e2 : Int)
  (KA : (∀ W,Hid (Calls Tryz.prog 157 #[.agg #[.int .i64 E,.int .i64 P],.int .u64 a] W fun e w' => e = .returned (.int .i64 2) ∧ Below W.heap.size W w')))
  (KB : (∀ W,Hid (Calls Tryz.prog 157 #[.agg #[.int .i64 E,.int .i64 P],.int .u64 b] W fun e w' => e = .returned (.int .i64 2) ∧ Below W.heap.size W w')))
  (PA : (∀ W,Hid (Calls Tryz.prog 160 #[.agg #[.int .i64 E,.int .i64 P],.int .u64 a] W fun e w' => e = .returned (.agg #[.bool n1,.int .u64 m1,.int .i64 e1]) ∧ Below W.heap.size W w')))
  (PB : (∀ W,Hid (Calls Tryz.prog 160 #[.agg #[.int .i64 E,.int .i64 P],.int .u64 b] W fun e w' => e = .returned (.agg #[.bool n2,.int .u64 m2,.int .i64 e2]) ∧ Below W.heap.size W w')))
  (SG : (∀ W,Hid (Calls Tryz.prog 135 #[.agg #[.int .i64 E,.int .i64 P],.int .u64 xr] W fun e w' => e = .returned (.int .u64 (sg : Int)) ∧ Below W.heap.size W w')))
  (hxb : bits .xor .u64 (a : Int) (b : Int) = (xr : Int)) (HSGN : Hid (((sg : Int) != 0) = ns))
  (HM1 : Hid (m1 < 18446744073709551616)) (HM2 : Hid (m2 < 18446744073709551616)) (HEB : Hid (-1100 ≤ e1 ∧ e1 ≤ 2100 ∧ -1100 ≤ e2 ∧ e2 ≤ 2100))
  (HE1 : Hid (-4611686018427387904 ≤ e1 ∧ e1 ≤ 4611686018427387904)) (HE2 : Hid (-4611686018427387904 ≤ e2 ∧ e2 ≤ 4611686018427387904)) (HP0 : Hid (m1 ≠ 0 ∧ m2 ≠ 0))
  (HD : Hid (∀ j1 j2 : Nat,9223372036854775808 ≤ m1 * 2 ^ j1 → m1 * 2 ^ j1 < 18446744073709551616 → 9223372036854775808 ≤ m2 * 2 ^ j2 → m2 * 2 ^ j2 < 18446744073709551616 → j2 ≤ 63 →
   RR = f.word ns (rungD f (2 ^ 62 * (m1 * 2 ^ j1 / 2)) (2 * (m2 * 2 ^ j2 / 2)) (e1 - (j1 : Int) - (e2 - (j2 : Int)) - 61))))
  (HRC : Hid (∀ (q : Nat) (e3 : Int) (mo : Bool),q < 18446744073709551616 → -9223372036854775808 ≤ e3 → e3 ≤ 9223372036854775807 → (mo = true → 288230376151711744 ≤ q) → ∀ W,Calls Tryz.prog 161 #[.agg #[.int .i64 E,.int .i64 P],.agg #[.bool ns,.int .u64 q,.int .i64 e3],.bool mo] W fun r w' => r = .returned (.int .u64 ((f.word ns (rungR f q e3 mo) : Nat) : Int)) ∧ Below W.heap.size W w')) (w : World) :
  Calls Tryz.prog 164 #[.agg #[.int .i64 E,.int .i64 P],.int .u64 a,.int .u64 b] w fun r w' => r = .returned (.int .u64 (RR : Int)) ∧ Below w.heap.size w w' := by
 have hS := Sx.new E P w
 obtain ⟨c0,c1⟩ := id hS.1
 go_enter Tryz.func164,Tryz.ntmps164
 go_upto_region 2 with (first
  | (go_at_call 135; ((with_reducible refine (SG _).out.mono ?_); rintro e w1 ⟨rfl,hb⟩; replace hS := hS.call hb; clear c0 c1; obtain ⟨c0,c1⟩ := id hS.1)))
 go_cut [18] (fun s18 wx => s18 = .bool false ∧ Sx E P w wx)
 case first =>
  replace hS := hS.drew
  refine wp_region_held_drew (S := Sx E P w) (by kernel_rfl) hS (fun _ => ?_)
  clear c0 c1 hb
  generalize w1.drew = W at *
  refine zt 0 (.agg #[.int .i64 E,.int .i64 P]) rfl ?_ ?_
  ·(intro W hSw; obtain ⟨⟨c0,c1⟩,-⟩ := hSw; go_simp; try (with_reducible rfl))
  try simp only [Act.put,sl2,sl0,sl1]
  refine zt 1 (.int .u64 a) rfl ?_ ?_
  ·(intro W hSw; obtain ⟨⟨c0,c1⟩,-⟩ := hSw; go_simp; try (with_reducible rfl))
  try simp only [Act.put,sl2,sl0,sl1]
  refine zt 3 (.agg #[.int .i64 E,.int .i64 P]) rfl ?_ ?_
  ·(intro W hSw; obtain ⟨⟨c0,c1⟩,-⟩ := hSw; go_simp; try (with_reducible rfl))
  try simp only [Act.put,sl2,sl0,sl1]
  refine zt 4 (.int .u64 b) rfl ?_ ?_
  ·(intro W hSw; obtain ⟨⟨c0,c1⟩,-⟩ := hSw; go_simp; try (with_reducible rfl))
  try simp only [Act.put,sl2,sl0,sl1]
  refine zr 2 rfl (fun K hK => ?_)
  go_simp
  go_at_call 157
  (with_reducible refine (KA _).out.mono ?_)
  rintro e W1 ⟨rfl,hb⟩
  replace hS := hS.call hb
  clear hb
  refine hK.out _ _ hS (fun _ => ?_)
  clear hK K
  try simp only [Act.put,sl2,sl0,sl1]
  refine zr 5 rfl (fun K hK => ?_)
  go_simp
  go_at_call 157
  (with_reducible refine (KB _).out.mono ?_)
  rintro e W2 ⟨rfl,hb⟩
  replace hS := hS.call hb
  clear hb
  refine hK.out _ _ hS (fun _ => ?_)
  clear hK K
  try simp only [Act.put,sl2,sl0,sl1]
  refine zt 6 (.bool true) rfl ?_ ?_
  ·(intro W hSw; obtain ⟨⟨c0,c1⟩,-⟩ := hSw; go_simp; try (with_reducible rfl))
  try simp only [Act.put,sl2,sl0,sl1]
  refine zt 7 (.bool true) rfl ?_ ?_
  ·(intro W hSw; obtain ⟨⟨c0,c1⟩,-⟩ := hSw; go_simp; try (with_reducible rfl))
  try simp only [Act.put,sl2,sl0,sl1]
  refine zt 8 (.agg #[.int .i64 E,.int .i64 P]) rfl ?_ ?_
  ·(intro W hSw; obtain ⟨⟨c0,c1⟩,-⟩ := hSw; go_simp; try (with_reducible rfl))
  try simp only [Act.put,sl2,sl0,sl1]
  refine zt 9 (.int .u64 a) rfl ?_ ?_
  ·(intro W hSw; obtain ⟨⟨c0,c1⟩,-⟩ := hSw; go_simp; try (with_reducible rfl))
  try simp only [Act.put,sl2,sl0,sl1]
  refine zr 10 rfl (fun K hK => ?_)
  go_simp
  go_at_call 157
  (with_reducible refine (KA _).out.mono ?_)
  rintro e W3 ⟨rfl,hb⟩
  replace hS := hS.call hb
  clear hb
  refine hK.out _ _ hS (fun _ => ?_)
  clear hK K
  try simp only [Act.put,sl2,sl0,sl1]
  refine zt 11 (.bool false) rfl ?_ ?_
  ·(intro W hSw; obtain ⟨⟨c0,c1⟩,-⟩ := hSw; go_simp; try (with_reducible rfl))
  try simp only [Act.put,sl2,sl0,sl1]
  refine zt 12 (.bool false) rfl ?_ ?_
  ·(intro W hSw; obtain ⟨⟨c0,c1⟩,-⟩ := hSw; go_simp; try (with_reducible rfl))
  try simp only [Act.put,sl2,sl0,sl1]
  refine zt 13 (.bool false) rfl ?_ ?_
  ·(intro W hSw; obtain ⟨⟨c0,c1⟩,-⟩ := hSw; go_simp; try (with_reducible rfl))
  try simp only [Act.put,sl2,sl0,sl1]
  refine wpAnyH_done (by kernel_rfl) ?_ _
  (go_wp2_with fail)
  go_meet
  exact ⟨rfl,hS⟩
 case rest =>
  clear hS c0 c1 hb
  obtain ⟨rfl,hS⟩ := hcut
  obtain ⟨c0,c1⟩ := id hS.1
  go_upto_region 8 with (first
   | (go_at_call 157; ((with_reducible refine (KA _).out.mono ?_); rintro e w1 ⟨rfl,hb⟩; replace hS := hS.call hb; have c0 := hS.1.1; have c1 := hS.1.2))
   | (go_at_call 157; ((with_reducible refine (KB _).out.mono ?_); rintro e w1 ⟨rfl,hb⟩; replace hS := hS.call hb; have c0 := hS.1.1; have c1 := hS.1.2)))
  go_cut [8,9] (fun s8 s9 wx => ∃ (gx gy j1 y1 : Nat) (d1 : Int) (j2 y2 : Nat) (d2 : Int),s8 = .pointer (some ⟨gx,0,none⟩) ∧ s9 = .pointer (some ⟨gy,0,none⟩) ∧ Nb gx n1 y1 d1 wx ∧ Nb gy n2 y2 d2 wx ∧ w.heap.size < gx ∧ w.heap.size < gy ∧ gx ≠ gy ∧ Sx E P w wx ∧ Hid (NJ m1 e1 j1 y1 d1) ∧ Hid (NJ m2 e2 j2 y2 d2))
  case first =>
   replace hS := hS.drew
   refine wp_region_held_drew (S := Sx E P w) (by kernel_rfl) hS (fun _ => ?_)
   clear c0 c1 hb KA KB SG HD HP0 HSGN hxb HEB HRC
   generalize w1.drew = W at *
   refine zt 0 (.agg #[.int .i64 E,.int .i64 P]) rfl ?_ ?_
   ·(intro W hSw; obtain ⟨⟨c0,c1⟩,-⟩ := hSw; go_simp; try (with_reducible rfl))
   try simp only [Act.put,sl2,sl0,sl1]
   refine zt 1 (.int .u64 a) rfl ?_ ?_
   ·(intro W hSw; obtain ⟨⟨c0,c1⟩,-⟩ := hSw; go_simp; try (with_reducible rfl))
   try simp only [Act.put,sl2,sl0,sl1]
   refine zt 4 (.agg #[.int .i64 E,.int .i64 P]) rfl ?_ ?_
   ·(intro W hSw; obtain ⟨⟨c0,c1⟩,-⟩ := hSw; go_simp; try (with_reducible rfl))
   try simp only [Act.put,sl2,sl0,sl1]
   refine zt 5 (.int .u64 b) rfl ?_ ?_
   ·(intro W hSw; obtain ⟨⟨c0,c1⟩,-⟩ := hSw; go_simp; try (with_reducible rfl))
   try simp only [Act.put,sl2,sl0,sl1]
   refine zm [2,8,9] ?_
   refine zc rfl (fun K hK => ?_) ?_
   ·go_simp
    go_at_call 160
    (with_reducible refine (PA _).out.mono ?_)
    rintro e W1 ⟨rfl,hb⟩
    replace hS := hS.call hb
    clear hb
    refine hK.out _ _ hS (fun _ => ?_)
    clear hK K
    try simp only [Act.put,sl2,sl0,sl1]
    refine zm [3,8,9] ?_
    refine zc rfl (fun K hK => ?_) ?_
    ·go_simp
     go_at_call 159
     (with_reducible refine (normal_any n1 m1 HM1.out e1 HE1.out.1 HE1.out.2 _).mono ?_)
     rintro e W2 ⟨j1,hj,hl,hlt,he,hb⟩
     obtain ⟨y1,hy⟩ : ∃ y1 : Nat,y1 = m1 * 2 ^ j1 := ⟨_,rfl⟩
     obtain ⟨d1,hd⟩ : ∃ d1 : Int,d1 = e1 - (j1 : Int) := ⟨_,rfl⟩
     rw [← hy,← hd] at he
     subst he
     have HN1 := hid (And.intro hj (And.intro hl (And.intro hlt (And.intro hy hd))))
     clear hj hl hlt hy hd
     replace hS := hS.call hb
     clear hb
     refine hK.out _ _ hS (fun _ => ?_)
     clear hK K
     try simp only [Act.put,sl2,sl0,sl1]
     refine zm [6,8,9] ?_
     refine zc rfl (fun K hK => ?_) ?_
     ·go_simp
      go_at_call 160
      (with_reducible refine (PB _).out.mono ?_)
      rintro e W3 ⟨rfl,hb⟩
      replace hS := hS.call hb
      clear hb
      refine hK.out _ _ hS (fun _ => ?_)
      clear hK K
      try simp only [Act.put,sl2,sl0,sl1]
      refine zm [7,8,9] ?_
      refine zc rfl (fun K hK => ?_) ?_
      ·go_simp
       go_at_call 159
       (with_reducible refine (normal_any n2 m2 HM2.out e2 HE2.out.1 HE2.out.2 _).mono ?_)
       rintro e W4 ⟨j2,hj,hl,hlt,he,hb⟩
       obtain ⟨y2,hy⟩ : ∃ y2 : Nat,y2 = m2 * 2 ^ j2 := ⟨_,rfl⟩
       obtain ⟨d2,hd⟩ : ∃ d2 : Int,d2 = e2 - (j2 : Int) := ⟨_,rfl⟩
       rw [← hy,← hd] at he
       subst he
       have HN2 := hid (And.intro hj (And.intro hl (And.intro hlt (And.intro hy hd))))
       clear hj hl hlt hy hd
       replace hS := hS.call hb
       clear hb
       refine hK.out _ _ hS (fun _ => ?_)
       clear hK K
       try simp only [Act.put,sl2,sl0,sl1]
       refine zm [8,9] ?_
       refine zc rfl (fun K hK => ?_) ?_
       ·go_simp
        have l_Fgx := hS.lt
        have hX := Nb.new false 0 0 W4
        replace hS := hS.alloc (.cells #[.bool false,.int .u64 0,.int .i64 0] 153)
        generalize World.alloc W4 (.cells #[.bool false,.int .u64 0,.int .i64 0] 153) = W5 at *
        generalize W4.heap.size = gx at *
        refine hK.out _ _ hS (fun _ => ?_)
        clear hK K
        try simp only [Act.put,sl2,sl0,sl1]
        refine zr 9 rfl (fun K hK => ?_)
        go_simp
        have l_Fgy := hS.lt
        have l_hXgy := hX.lt
        have hY := Nb.new false 0 0 W5
        replace hS := hS.alloc (.cells #[.bool false,.int .u64 0,.int .i64 0] 153)
        replace hX := hX.alloc (.cells #[.bool false,.int .u64 0,.int .i64 0] 153)
        generalize World.alloc W5 (.cells #[.bool false,.int .u64 0,.int .i64 0] 153) = W6 at *
        generalize W5.heap.size = gy at *
        refine hK.out _ _ hS (fun _ => ?_)
        clear hK K
        try simp only [Act.put,sl2,sl0,sl1]
        refine zr 10 rfl (fun K hK => ?_)
        obtain ⟨⟨x0,x1,x2⟩,x3,x4,x5⟩ := id hX
        go_simp
        clear x0 x1 x2 x3 x4 x5
        replace hS := hS.set3 (c := gx) (.bool n1) (.int .u64 y1) (.int .i64 d1) l_Fgx
        replace hY := hY.set3 (c := gx) (.bool n1) (.int .u64 y1) (.int .i64 d1) (by omega)
        replace hX := hX.store (ng' := n1) (m' := y1) (e' := d1)
        generalize ((W6.setCell ⟨gx,0,none⟩ (.bool n1)).setCell ⟨gx,1,none⟩ (.int .u64 y1)).setCell ⟨gx,2,none⟩ (.int .i64 d1) = W7 at *
        refine hK.out _ _ hS (fun _ => ?_)
        clear hK K
        try simp only [Act.put,sl2,sl0,sl1]
        refine zr 11 rfl (fun K hK => ?_)
        obtain ⟨⟨x0,x1,x2⟩,x3,x4,x5⟩ := id hY
        go_simp
        clear x0 x1 x2 x3 x4 x5
        replace hS := hS.set3 (c := gy) (.bool n2) (.int .u64 y2) (.int .i64 d2) l_Fgy
        replace hX := hX.set3 (c := gy) (.bool n2) (.int .u64 y2) (.int .i64 d2) (by omega)
        replace hY := hY.store (ng' := n2) (m' := y2) (e' := d2)
        generalize ((W7.setCell ⟨gy,0,none⟩ (.bool n2)).setCell ⟨gy,1,none⟩ (.int .u64 y2)).setCell ⟨gy,2,none⟩ (.int .i64 d2) = W8 at *
        refine hK.out _ _ hS (fun _ => ?_)
        clear hK K
        try simp only [Act.put,sl2,sl0,sl1]
        refine wpAnyH_done (by kernel_rfl) ?_ _
        (go_wp2_with fail)
        go_meet
        exact ⟨gx,gy,j1,y1,d1,j2,y2,d2,rfl,rfl,hX,hY,l_Fgx,l_Fgy,by omega,hS,HN1,HN2⟩
       refine zc rfl (fun K hK => ?_) ?_
       ·go_simp
        have l_Fgy := hS.lt
        have hY := Nb.new false 0 0 W4
        replace hS := hS.alloc (.cells #[.bool false,.int .u64 0,.int .i64 0] 153)
        generalize World.alloc W4 (.cells #[.bool false,.int .u64 0,.int .i64 0] 153) = W5 at *
        generalize W4.heap.size = gy at *
        refine hK.out _ _ hS (fun _ => ?_)
        clear hK K
        try simp only [Act.put,sl2,sl0,sl1]
        refine zr 8 rfl (fun K hK => ?_)
        go_simp
        have l_Fgx := hS.lt
        have l_hYgx := hY.lt
        have hX := Nb.new false 0 0 W5
        replace hS := hS.alloc (.cells #[.bool false,.int .u64 0,.int .i64 0] 153)
        replace hY := hY.alloc (.cells #[.bool false,.int .u64 0,.int .i64 0] 153)
        generalize World.alloc W5 (.cells #[.bool false,.int .u64 0,.int .i64 0] 153) = W6 at *
        generalize W5.heap.size = gx at *
        refine hK.out _ _ hS (fun _ => ?_)
        clear hK K
        try simp only [Act.put,sl2,sl0,sl1]
        refine zr 10 rfl (fun K hK => ?_)
        obtain ⟨⟨x0,x1,x2⟩,x3,x4,x5⟩ := id hX
        go_simp
        clear x0 x1 x2 x3 x4 x5
        replace hS := hS.set3 (c := gx) (.bool n1) (.int .u64 y1) (.int .i64 d1) l_Fgx
        replace hY := hY.set3 (c := gx) (.bool n1) (.int .u64 y1) (.int .i64 d1) (by omega)
        replace hX := hX.store (ng' := n1) (m' := y1) (e' := d1)
        generalize ((W6.setCell ⟨gx,0,none⟩ (.bool n1)).setCell ⟨gx,1,none⟩ (.int .u64 y1)).setCell ⟨gx,2,none⟩ (.int .i64 d1) = W7 at *
        refine hK.out _ _ hS (fun _ => ?_)
        clear hK K
        try simp only [Act.put,sl2,sl0,sl1]
        refine zr 11 rfl (fun K hK => ?_)
        obtain ⟨⟨x0,x1,x2⟩,x3,x4,x5⟩ := id hY
        go_simp
        clear x0 x1 x2 x3 x4 x5
        replace hS := hS.set3 (c := gy) (.bool n2) (.int .u64 y2) (.int .i64 d2) l_Fgy
        replace hX := hX.set3 (c := gy) (.bool n2) (.int .u64 y2) (.int .i64 d2) (by omega)
        replace hY := hY.store (ng' := n2) (m' := y2) (e' := d2)
        generalize ((W7.setCell ⟨gy,0,none⟩ (.bool n2)).setCell ⟨gy,1,none⟩ (.int .u64 y2)).setCell ⟨gy,2,none⟩ (.int .i64 d2) = W8 at *
        refine hK.out _ _ hS (fun _ => ?_)
        clear hK K
        try simp only [Act.put,sl2,sl0,sl1]
        refine wpAnyH_done (by kernel_rfl) ?_ _
        (go_wp2_with fail)
        go_meet
        exact ⟨gx,gy,j1,y1,d1,j2,y2,d2,rfl,rfl,hX,hY,l_Fgx,l_Fgy,by omega,hS,HN1,HN2⟩
       exact zn
      refine zc rfl (fun K hK => ?_) ?_
      ·go_simp
       have l_Fgx := hS.lt
       have hX := Nb.new false 0 0 W3
       replace hS := hS.alloc (.cells #[.bool false,.int .u64 0,.int .i64 0] 153)
       generalize World.alloc W3 (.cells #[.bool false,.int .u64 0,.int .i64 0] 153) = W4 at *
       generalize W3.heap.size = gx at *
       refine hK.out _ _ hS (fun _ => ?_)
       clear hK K
       try simp only [Act.put,sl2,sl0,sl1]
       refine zm [7,9] ?_
       refine zc rfl (fun K hK => ?_) ?_
       ·go_simp
        go_at_call 159
        (with_reducible refine (normal_any n2 m2 HM2.out e2 HE2.out.1 HE2.out.2 _).mono ?_)
        rintro e W5 ⟨j2,hj,hl,hlt,he,hb⟩
        obtain ⟨y2,hy⟩ : ∃ y2 : Nat,y2 = m2 * 2 ^ j2 := ⟨_,rfl⟩
        obtain ⟨d2,hd⟩ : ∃ d2 : Int,d2 = e2 - (j2 : Int) := ⟨_,rfl⟩
        rw [← hy,← hd] at he
        subst he
        have HN2 := hid (And.intro hj (And.intro hl (And.intro hlt (And.intro hy hd))))
        clear hj hl hlt hy hd
        replace hS := hS.call hb
        replace hX := hX.call hb
        clear hb
        refine hK.out _ _ hS (fun _ => ?_)
        clear hK K
        try simp only [Act.put,sl2,sl0,sl1]
        refine zr 9 rfl (fun K hK => ?_)
        go_simp
        have l_Fgy := hS.lt
        have l_hXgy := hX.lt
        have hY := Nb.new false 0 0 W5
        replace hS := hS.alloc (.cells #[.bool false,.int .u64 0,.int .i64 0] 153)
        replace hX := hX.alloc (.cells #[.bool false,.int .u64 0,.int .i64 0] 153)
        generalize World.alloc W5 (.cells #[.bool false,.int .u64 0,.int .i64 0] 153) = W6 at *
        generalize W5.heap.size = gy at *
        refine hK.out _ _ hS (fun _ => ?_)
        clear hK K
        try simp only [Act.put,sl2,sl0,sl1]
        refine zr 10 rfl (fun K hK => ?_)
        obtain ⟨⟨x0,x1,x2⟩,x3,x4,x5⟩ := id hX
        go_simp
        clear x0 x1 x2 x3 x4 x5
        replace hS := hS.set3 (c := gx) (.bool n1) (.int .u64 y1) (.int .i64 d1) l_Fgx
        replace hY := hY.set3 (c := gx) (.bool n1) (.int .u64 y1) (.int .i64 d1) (by omega)
        replace hX := hX.store (ng' := n1) (m' := y1) (e' := d1)
        generalize ((W6.setCell ⟨gx,0,none⟩ (.bool n1)).setCell ⟨gx,1,none⟩ (.int .u64 y1)).setCell ⟨gx,2,none⟩ (.int .i64 d1) = W7 at *
        refine hK.out _ _ hS (fun _ => ?_)
        clear hK K
        try simp only [Act.put,sl2,sl0,sl1]
        refine zr 11 rfl (fun K hK => ?_)
        obtain ⟨⟨x0,x1,x2⟩,x3,x4,x5⟩ := id hY
        go_simp
        clear x0 x1 x2 x3 x4 x5
        replace hS := hS.set3 (c := gy) (.bool n2) (.int .u64 y2) (.int .i64 d2) l_Fgy
        replace hX := hX.set3 (c := gy) (.bool n2) (.int .u64 y2) (.int .i64 d2) (by omega)
        replace hY := hY.store (ng' := n2) (m' := y2) (e' := d2)
        generalize ((W7.setCell ⟨gy,0,none⟩ (.bool n2)).setCell ⟨gy,1,none⟩ (.int .u64 y2)).setCell ⟨gy,2,none⟩ (.int .i64 d2) = W8 at *
        refine hK.out _ _ hS (fun _ => ?_)
        clear hK K
        try simp only [Act.put,sl2,sl0,sl1]
        refine wpAnyH_done (by kernel_rfl) ?_ _
        (go_wp2_with fail)
        go_meet
        exact ⟨gx,gy,j1,y1,d1,j2,y2,d2,rfl,rfl,hX,hY,l_Fgx,l_Fgy,by omega,hS,HN1,HN2⟩
       refine zc rfl (fun K hK => ?_) ?_
       ·go_simp
        have l_Fgy := hS.lt
        have l_hXgy := hX.lt
        have hY := Nb.new false 0 0 W4
        replace hS := hS.alloc (.cells #[.bool false,.int .u64 0,.int .i64 0] 153)
        replace hX := hX.alloc (.cells #[.bool false,.int .u64 0,.int .i64 0] 153)
        generalize World.alloc W4 (.cells #[.bool false,.int .u64 0,.int .i64 0] 153) = W5 at *
        generalize W4.heap.size = gy at *
        refine hK.out _ _ hS (fun _ => ?_)
        clear hK K
        try simp only [Act.put,sl2,sl0,sl1]
        refine zr 7 rfl (fun K hK => ?_)
        go_simp
        go_at_call 159
        (with_reducible refine (normal_any n2 m2 HM2.out e2 HE2.out.1 HE2.out.2 _).mono ?_)
        rintro e W6 ⟨j2,hj,hl,hlt,he,hb⟩
        obtain ⟨y2,hy⟩ : ∃ y2 : Nat,y2 = m2 * 2 ^ j2 := ⟨_,rfl⟩
        obtain ⟨d2,hd⟩ : ∃ d2 : Int,d2 = e2 - (j2 : Int) := ⟨_,rfl⟩
        rw [← hy,← hd] at he
        subst he
        have HN2 := hid (And.intro hj (And.intro hl (And.intro hlt (And.intro hy hd))))
        clear hj hl hlt hy hd
        replace hS := hS.call hb
        replace hX := hX.call hb
        replace hY := hY.call hb
        clear hb
        refine hK.out _ _ hS (fun _ => ?_)
        clear hK K
        try simp only [Act.put,sl2,sl0,sl1]
        refine zr 10 rfl (fun K hK => ?_)
        obtain ⟨⟨x0,x1,x2⟩,x3,x4,x5⟩ := id hX
        go_simp
        clear x0 x1 x2 x3 x4 x5
        replace hS := hS.set3 (c := gx) (.bool n1) (.int .u64 y1) (.int .i64 d1) l_Fgx
        replace hY := hY.set3 (c := gx) (.bool n1) (.int .u64 y1) (.int .i64 d1) (by omega)
        replace hX := hX.store (ng' := n1) (m' := y1) (e' := d1)
        generalize ((W6.setCell ⟨gx,0,none⟩ (.bool n1)).setCell ⟨gx,1,none⟩ (.int .u64 y1)).setCell ⟨gx,2,none⟩ (.int .i64 d1) = W7 at *
        refine hK.out _ _ hS (fun _ => ?_)
        clear hK K
        try simp only [Act.put,sl2,sl0,sl1]
        refine zr 11 rfl (fun K hK => ?_)
        obtain ⟨⟨x0,x1,x2⟩,x3,x4,x5⟩ := id hY
        go_simp
        clear x0 x1 x2 x3 x4 x5
        replace hS := hS.set3 (c := gy) (.bool n2) (.int .u64 y2) (.int .i64 d2) l_Fgy
        replace hX := hX.set3 (c := gy) (.bool n2) (.int .u64 y2) (.int .i64 d2) (by omega)
        replace hY := hY.store (ng' := n2) (m' := y2) (e' := d2)
        generalize ((W7.setCell ⟨gy,0,none⟩ (.bool n2)).setCell ⟨gy,1,none⟩ (.int .u64 y2)).setCell ⟨gy,2,none⟩ (.int .i64 d2) = W8 at *
        refine hK.out _ _ hS (fun _ => ?_)
        clear hK K
        try simp only [Act.put,sl2,sl0,sl1]
        refine wpAnyH_done (by kernel_rfl) ?_ _
        (go_wp2_with fail)
        go_meet
        exact ⟨gx,gy,j1,y1,d1,j2,y2,d2,rfl,rfl,hX,hY,l_Fgx,l_Fgy,by omega,hS,HN1,HN2⟩
       exact zn
      refine zc rfl (fun K hK => ?_) ?_
      ·go_simp
       have l_Fgy := hS.lt
       have hY := Nb.new false 0 0 W3
       replace hS := hS.alloc (.cells #[.bool false,.int .u64 0,.int .i64 0] 153)
       generalize World.alloc W3 (.cells #[.bool false,.int .u64 0,.int .i64 0] 153) = W4 at *
       generalize W3.heap.size = gy at *
       refine hK.out _ _ hS (fun _ => ?_)
       clear hK K
       try simp only [Act.put,sl2,sl0,sl1]
       refine zm [7,8] ?_
       refine zc rfl (fun K hK => ?_) ?_
       ·go_simp
        go_at_call 159
        (with_reducible refine (normal_any n2 m2 HM2.out e2 HE2.out.1 HE2.out.2 _).mono ?_)
        rintro e W5 ⟨j2,hj,hl,hlt,he,hb⟩
        obtain ⟨y2,hy⟩ : ∃ y2 : Nat,y2 = m2 * 2 ^ j2 := ⟨_,rfl⟩
        obtain ⟨d2,hd⟩ : ∃ d2 : Int,d2 = e2 - (j2 : Int) := ⟨_,rfl⟩
        rw [← hy,← hd] at he
        subst he
        have HN2 := hid (And.intro hj (And.intro hl (And.intro hlt (And.intro hy hd))))
        clear hj hl hlt hy hd
        replace hS := hS.call hb
        replace hY := hY.call hb
        clear hb
        refine hK.out _ _ hS (fun _ => ?_)
        clear hK K
        try simp only [Act.put,sl2,sl0,sl1]
        refine zr 8 rfl (fun K hK => ?_)
        go_simp
        have l_Fgx := hS.lt
        have l_hYgx := hY.lt
        have hX := Nb.new false 0 0 W5
        replace hS := hS.alloc (.cells #[.bool false,.int .u64 0,.int .i64 0] 153)
        replace hY := hY.alloc (.cells #[.bool false,.int .u64 0,.int .i64 0] 153)
        generalize World.alloc W5 (.cells #[.bool false,.int .u64 0,.int .i64 0] 153) = W6 at *
        generalize W5.heap.size = gx at *
        refine hK.out _ _ hS (fun _ => ?_)
        clear hK K
        try simp only [Act.put,sl2,sl0,sl1]
        refine zr 10 rfl (fun K hK => ?_)
        obtain ⟨⟨x0,x1,x2⟩,x3,x4,x5⟩ := id hX
        go_simp
        clear x0 x1 x2 x3 x4 x5
        replace hS := hS.set3 (c := gx) (.bool n1) (.int .u64 y1) (.int .i64 d1) l_Fgx
        replace hY := hY.set3 (c := gx) (.bool n1) (.int .u64 y1) (.int .i64 d1) (by omega)
        replace hX := hX.store (ng' := n1) (m' := y1) (e' := d1)
        generalize ((W6.setCell ⟨gx,0,none⟩ (.bool n1)).setCell ⟨gx,1,none⟩ (.int .u64 y1)).setCell ⟨gx,2,none⟩ (.int .i64 d1) = W7 at *
        refine hK.out _ _ hS (fun _ => ?_)
        clear hK K
        try simp only [Act.put,sl2,sl0,sl1]
        refine zr 11 rfl (fun K hK => ?_)
        obtain ⟨⟨x0,x1,x2⟩,x3,x4,x5⟩ := id hY
        go_simp
        clear x0 x1 x2 x3 x4 x5
        replace hS := hS.set3 (c := gy) (.bool n2) (.int .u64 y2) (.int .i64 d2) l_Fgy
        replace hX := hX.set3 (c := gy) (.bool n2) (.int .u64 y2) (.int .i64 d2) (by omega)
        replace hY := hY.store (ng' := n2) (m' := y2) (e' := d2)
        generalize ((W7.setCell ⟨gy,0,none⟩ (.bool n2)).setCell ⟨gy,1,none⟩ (.int .u64 y2)).setCell ⟨gy,2,none⟩ (.int .i64 d2) = W8 at *
        refine hK.out _ _ hS (fun _ => ?_)
        clear hK K
        try simp only [Act.put,sl2,sl0,sl1]
        refine wpAnyH_done (by kernel_rfl) ?_ _
        (go_wp2_with fail)
        go_meet
        exact ⟨gx,gy,j1,y1,d1,j2,y2,d2,rfl,rfl,hX,hY,l_Fgx,l_Fgy,by omega,hS,HN1,HN2⟩
       refine zc rfl (fun K hK => ?_) ?_
       ·go_simp
        have l_Fgx := hS.lt
        have l_hYgx := hY.lt
        have hX := Nb.new false 0 0 W4
        replace hS := hS.alloc (.cells #[.bool false,.int .u64 0,.int .i64 0] 153)
        replace hY := hY.alloc (.cells #[.bool false,.int .u64 0,.int .i64 0] 153)
        generalize World.alloc W4 (.cells #[.bool false,.int .u64 0,.int .i64 0] 153) = W5 at *
        generalize W4.heap.size = gx at *
        refine hK.out _ _ hS (fun _ => ?_)
        clear hK K
        try simp only [Act.put,sl2,sl0,sl1]
        refine zr 7 rfl (fun K hK => ?_)
        go_simp
        go_at_call 159
        (with_reducible refine (normal_any n2 m2 HM2.out e2 HE2.out.1 HE2.out.2 _).mono ?_)
        rintro e W6 ⟨j2,hj,hl,hlt,he,hb⟩
        obtain ⟨y2,hy⟩ : ∃ y2 : Nat,y2 = m2 * 2 ^ j2 := ⟨_,rfl⟩
        obtain ⟨d2,hd⟩ : ∃ d2 : Int,d2 = e2 - (j2 : Int) := ⟨_,rfl⟩
        rw [← hy,← hd] at he
        subst he
        have HN2 := hid (And.intro hj (And.intro hl (And.intro hlt (And.intro hy hd))))
        clear hj hl hlt hy hd
        replace hS := hS.call hb
        replace hY := hY.call hb
        replace hX := hX.call hb
        clear hb
        refine hK.out _ _ hS (fun _ => ?_)
        clear hK K
        try simp only [Act.put,sl2,sl0,sl1]
        refine zr 10 rfl (fun K hK => ?_)
        obtain ⟨⟨x0,x1,x2⟩,x3,x4,x5⟩ := id hX
        go_simp
        clear x0 x1 x2 x3 x4 x5
        replace hS := hS.set3 (c := gx) (.bool n1) (.int .u64 y1) (.int .i64 d1) l_Fgx
        replace hY := hY.set3 (c := gx) (.bool n1) (.int .u64 y1) (.int .i64 d1) (by omega)
        replace hX := hX.store (ng' := n1) (m' := y1) (e' := d1)
        generalize ((W6.setCell ⟨gx,0,none⟩ (.bool n1)).setCell ⟨gx,1,none⟩ (.int .u64 y1)).setCell ⟨gx,2,none⟩ (.int .i64 d1) = W7 at *
        refine hK.out _ _ hS (fun _ => ?_)
        clear hK K
        try simp only [Act.put,sl2,sl0,sl1]
        refine zr 11 rfl (fun K hK => ?_)
        obtain ⟨⟨x0,x1,x2⟩,x3,x4,x5⟩ := id hY
        go_simp
        clear x0 x1 x2 x3 x4 x5
        replace hS := hS.set3 (c := gy) (.bool n2) (.int .u64 y2) (.int .i64 d2) l_Fgy
        replace hX := hX.set3 (c := gy) (.bool n2) (.int .u64 y2) (.int .i64 d2) (by omega)
        replace hY := hY.store (ng' := n2) (m' := y2) (e' := d2)
        generalize ((W7.setCell ⟨gy,0,none⟩ (.bool n2)).setCell ⟨gy,1,none⟩ (.int .u64 y2)).setCell ⟨gy,2,none⟩ (.int .i64 d2) = W8 at *
        refine hK.out _ _ hS (fun _ => ?_)
        clear hK K
        try simp only [Act.put,sl2,sl0,sl1]
        refine wpAnyH_done (by kernel_rfl) ?_ _
        (go_wp2_with fail)
        go_meet
        exact ⟨gx,gy,j1,y1,d1,j2,y2,d2,rfl,rfl,hX,hY,l_Fgx,l_Fgy,by omega,hS,HN1,HN2⟩
       exact zn
      exact zn
     refine zc rfl (fun K hK => ?_) ?_
     ·go_simp
      have l_Fgx := hS.lt
      have hX := Nb.new false 0 0 W2
      replace hS := hS.alloc (.cells #[.bool false,.int .u64 0,.int .i64 0] 153)
      generalize World.alloc W2 (.cells #[.bool false,.int .u64 0,.int .i64 0] 153) = W3 at *
      generalize W2.heap.size = gx at *
      refine hK.out _ _ hS (fun _ => ?_)
      clear hK K
      try simp only [Act.put,sl2,sl0,sl1]
      refine zm [6,9] ?_
      refine zc rfl (fun K hK => ?_) ?_
      ·go_simp
       go_at_call 160
       (with_reducible refine (PB _).out.mono ?_)
       rintro e W4 ⟨rfl,hb⟩
       replace hS := hS.call hb
       replace hX := hX.call hb
       clear hb
       refine hK.out _ _ hS (fun _ => ?_)
       clear hK K
       try simp only [Act.put,sl2,sl0,sl1]
       refine zm [7,9] ?_
       refine zc rfl (fun K hK => ?_) ?_
       ·go_simp
        go_at_call 159
        (with_reducible refine (normal_any n2 m2 HM2.out e2 HE2.out.1 HE2.out.2 _).mono ?_)
        rintro e W5 ⟨j2,hj,hl,hlt,he,hb⟩
        obtain ⟨y2,hy⟩ : ∃ y2 : Nat,y2 = m2 * 2 ^ j2 := ⟨_,rfl⟩
        obtain ⟨d2,hd⟩ : ∃ d2 : Int,d2 = e2 - (j2 : Int) := ⟨_,rfl⟩
        rw [← hy,← hd] at he
        subst he
        have HN2 := hid (And.intro hj (And.intro hl (And.intro hlt (And.intro hy hd))))
        clear hj hl hlt hy hd
        replace hS := hS.call hb
        replace hX := hX.call hb
        clear hb
        refine hK.out _ _ hS (fun _ => ?_)
        clear hK K
        try simp only [Act.put,sl2,sl0,sl1]
        refine zr 9 rfl (fun K hK => ?_)
        go_simp
        have l_Fgy := hS.lt
        have l_hXgy := hX.lt
        have hY := Nb.new false 0 0 W5
        replace hS := hS.alloc (.cells #[.bool false,.int .u64 0,.int .i64 0] 153)
        replace hX := hX.alloc (.cells #[.bool false,.int .u64 0,.int .i64 0] 153)
        generalize World.alloc W5 (.cells #[.bool false,.int .u64 0,.int .i64 0] 153) = W6 at *
        generalize W5.heap.size = gy at *
        refine hK.out _ _ hS (fun _ => ?_)
        clear hK K
        try simp only [Act.put,sl2,sl0,sl1]
        refine zr 10 rfl (fun K hK => ?_)
        obtain ⟨⟨x0,x1,x2⟩,x3,x4,x5⟩ := id hX
        go_simp
        clear x0 x1 x2 x3 x4 x5
        replace hS := hS.set3 (c := gx) (.bool n1) (.int .u64 y1) (.int .i64 d1) l_Fgx
        replace hY := hY.set3 (c := gx) (.bool n1) (.int .u64 y1) (.int .i64 d1) (by omega)
        replace hX := hX.store (ng' := n1) (m' := y1) (e' := d1)
        generalize ((W6.setCell ⟨gx,0,none⟩ (.bool n1)).setCell ⟨gx,1,none⟩ (.int .u64 y1)).setCell ⟨gx,2,none⟩ (.int .i64 d1) = W7 at *
        refine hK.out _ _ hS (fun _ => ?_)
        clear hK K
        try simp only [Act.put,sl2,sl0,sl1]
        refine zr 11 rfl (fun K hK => ?_)
        obtain ⟨⟨x0,x1,x2⟩,x3,x4,x5⟩ := id hY
        go_simp
        clear x0 x1 x2 x3 x4 x5
        replace hS := hS.set3 (c := gy) (.bool n2) (.int .u64 y2) (.int .i64 d2) l_Fgy
        replace hX := hX.set3 (c := gy) (.bool n2) (.int .u64 y2) (.int .i64 d2) (by omega)
        replace hY := hY.store (ng' := n2) (m' := y2) (e' := d2)
        generalize ((W7.setCell ⟨gy,0,none⟩ (.bool n2)).setCell ⟨gy,1,none⟩ (.int .u64 y2)).setCell ⟨gy,2,none⟩ (.int .i64 d2) = W8 at *
        refine hK.out _ _ hS (fun _ => ?_)
        clear hK K
        try simp only [Act.put,sl2,sl0,sl1]
        refine wpAnyH_done (by kernel_rfl) ?_ _
        (go_wp2_with fail)
        go_meet
        exact ⟨gx,gy,j1,y1,d1,j2,y2,d2,rfl,rfl,hX,hY,l_Fgx,l_Fgy,by omega,hS,HN1,HN2⟩
       refine zc rfl (fun K hK => ?_) ?_
       ·go_simp
        have l_Fgy := hS.lt
        have l_hXgy := hX.lt
        have hY := Nb.new false 0 0 W4
        replace hS := hS.alloc (.cells #[.bool false,.int .u64 0,.int .i64 0] 153)
        replace hX := hX.alloc (.cells #[.bool false,.int .u64 0,.int .i64 0] 153)
        generalize World.alloc W4 (.cells #[.bool false,.int .u64 0,.int .i64 0] 153) = W5 at *
        generalize W4.heap.size = gy at *
        refine hK.out _ _ hS (fun _ => ?_)
        clear hK K
        try simp only [Act.put,sl2,sl0,sl1]
        refine zr 7 rfl (fun K hK => ?_)
        go_simp
        go_at_call 159
        (with_reducible refine (normal_any n2 m2 HM2.out e2 HE2.out.1 HE2.out.2 _).mono ?_)
        rintro e W6 ⟨j2,hj,hl,hlt,he,hb⟩
        obtain ⟨y2,hy⟩ : ∃ y2 : Nat,y2 = m2 * 2 ^ j2 := ⟨_,rfl⟩
        obtain ⟨d2,hd⟩ : ∃ d2 : Int,d2 = e2 - (j2 : Int) := ⟨_,rfl⟩
        rw [← hy,← hd] at he
        subst he
        have HN2 := hid (And.intro hj (And.intro hl (And.intro hlt (And.intro hy hd))))
        clear hj hl hlt hy hd
        replace hS := hS.call hb
        replace hX := hX.call hb
        replace hY := hY.call hb
        clear hb
        refine hK.out _ _ hS (fun _ => ?_)
        clear hK K
        try simp only [Act.put,sl2,sl0,sl1]
        refine zr 10 rfl (fun K hK => ?_)
        obtain ⟨⟨x0,x1,x2⟩,x3,x4,x5⟩ := id hX
        go_simp
        clear x0 x1 x2 x3 x4 x5
        replace hS := hS.set3 (c := gx) (.bool n1) (.int .u64 y1) (.int .i64 d1) l_Fgx
        replace hY := hY.set3 (c := gx) (.bool n1) (.int .u64 y1) (.int .i64 d1) (by omega)
        replace hX := hX.store (ng' := n1) (m' := y1) (e' := d1)
        generalize ((W6.setCell ⟨gx,0,none⟩ (.bool n1)).setCell ⟨gx,1,none⟩ (.int .u64 y1)).setCell ⟨gx,2,none⟩ (.int .i64 d1) = W7 at *
        refine hK.out _ _ hS (fun _ => ?_)
        clear hK K
        try simp only [Act.put,sl2,sl0,sl1]
        refine zr 11 rfl (fun K hK => ?_)
        obtain ⟨⟨x0,x1,x2⟩,x3,x4,x5⟩ := id hY
        go_simp
        clear x0 x1 x2 x3 x4 x5
        replace hS := hS.set3 (c := gy) (.bool n2) (.int .u64 y2) (.int .i64 d2) l_Fgy
        replace hX := hX.set3 (c := gy) (.bool n2) (.int .u64 y2) (.int .i64 d2) (by omega)
        replace hY := hY.store (ng' := n2) (m' := y2) (e' := d2)
        generalize ((W7.setCell ⟨gy,0,none⟩ (.bool n2)).setCell ⟨gy,1,none⟩ (.int .u64 y2)).setCell ⟨gy,2,none⟩ (.int .i64 d2) = W8 at *
        refine hK.out _ _ hS (fun _ => ?_)
        clear hK K
        try simp only [Act.put,sl2,sl0,sl1]
        refine wpAnyH_done (by kernel_rfl) ?_ _
        (go_wp2_with fail)
        go_meet
        exact ⟨gx,gy,j1,y1,d1,j2,y2,d2,rfl,rfl,hX,hY,l_Fgx,l_Fgy,by omega,hS,HN1,HN2⟩
       exact zn
      refine zc rfl (fun K hK => ?_) ?_
      ·go_simp
       have l_Fgy := hS.lt
       have l_hXgy := hX.lt
       have hY := Nb.new false 0 0 W3
       replace hS := hS.alloc (.cells #[.bool false,.int .u64 0,.int .i64 0] 153)
       replace hX := hX.alloc (.cells #[.bool false,.int .u64 0,.int .i64 0] 153)
       generalize World.alloc W3 (.cells #[.bool false,.int .u64 0,.int .i64 0] 153) = W4 at *
       generalize W3.heap.size = gy at *
       refine hK.out _ _ hS (fun _ => ?_)
       clear hK K
       try simp only [Act.put,sl2,sl0,sl1]
       refine zr 6 rfl (fun K hK => ?_)
       go_simp
       go_at_call 160
       (with_reducible refine (PB _).out.mono ?_)
       rintro e W5 ⟨rfl,hb⟩
       replace hS := hS.call hb
       replace hX := hX.call hb
       replace hY := hY.call hb
       clear hb
       refine hK.out _ _ hS (fun _ => ?_)
       clear hK K
       try simp only [Act.put,sl2,sl0,sl1]
       refine zr 7 rfl (fun K hK => ?_)
       go_simp
       go_at_call 159
       (with_reducible refine (normal_any n2 m2 HM2.out e2 HE2.out.1 HE2.out.2 _).mono ?_)
       rintro e W6 ⟨j2,hj,hl,hlt,he,hb⟩
       obtain ⟨y2,hy⟩ : ∃ y2 : Nat,y2 = m2 * 2 ^ j2 := ⟨_,rfl⟩
       obtain ⟨d2,hd⟩ : ∃ d2 : Int,d2 = e2 - (j2 : Int) := ⟨_,rfl⟩
       rw [← hy,← hd] at he
       subst he
       have HN2 := hid (And.intro hj (And.intro hl (And.intro hlt (And.intro hy hd))))
       clear hj hl hlt hy hd
       replace hS := hS.call hb
       replace hX := hX.call hb
       replace hY := hY.call hb
       clear hb
       refine hK.out _ _ hS (fun _ => ?_)
       clear hK K
       try simp only [Act.put,sl2,sl0,sl1]
       refine zr 10 rfl (fun K hK => ?_)
       obtain ⟨⟨x0,x1,x2⟩,x3,x4,x5⟩ := id hX
       go_simp
       clear x0 x1 x2 x3 x4 x5
       replace hS := hS.set3 (c := gx) (.bool n1) (.int .u64 y1) (.int .i64 d1) l_Fgx
       replace hY := hY.set3 (c := gx) (.bool n1) (.int .u64 y1) (.int .i64 d1) (by omega)
       replace hX := hX.store (ng' := n1) (m' := y1) (e' := d1)
       generalize ((W6.setCell ⟨gx,0,none⟩ (.bool n1)).setCell ⟨gx,1,none⟩ (.int .u64 y1)).setCell ⟨gx,2,none⟩ (.int .i64 d1) = W7 at *
       refine hK.out _ _ hS (fun _ => ?_)
       clear hK K
       try simp only [Act.put,sl2,sl0,sl1]
       refine zr 11 rfl (fun K hK => ?_)
       obtain ⟨⟨x0,x1,x2⟩,x3,x4,x5⟩ := id hY
       go_simp
       clear x0 x1 x2 x3 x4 x5
       replace hS := hS.set3 (c := gy) (.bool n2) (.int .u64 y2) (.int .i64 d2) l_Fgy
       replace hX := hX.set3 (c := gy) (.bool n2) (.int .u64 y2) (.int .i64 d2) (by omega)
       replace hY := hY.store (ng' := n2) (m' := y2) (e' := d2)
       generalize ((W7.setCell ⟨gy,0,none⟩ (.bool n2)).setCell ⟨gy,1,none⟩ (.int .u64 y2)).setCell ⟨gy,2,none⟩ (.int .i64 d2) = W8 at *
       refine hK.out _ _ hS (fun _ => ?_)
       clear hK K
       try simp only [Act.put,sl2,sl0,sl1]
       refine wpAnyH_done (by kernel_rfl) ?_ _
       (go_wp2_with fail)
       go_meet
       exact ⟨gx,gy,j1,y1,d1,j2,y2,d2,rfl,rfl,hX,hY,l_Fgx,l_Fgy,by omega,hS,HN1,HN2⟩
      exact zn
     refine zc rfl (fun K hK => ?_) ?_
     ·go_simp
      have l_Fgy := hS.lt
      have hY := Nb.new false 0 0 W2
      replace hS := hS.alloc (.cells #[.bool false,.int .u64 0,.int .i64 0] 153)
      generalize World.alloc W2 (.cells #[.bool false,.int .u64 0,.int .i64 0] 153) = W3 at *
      generalize W2.heap.size = gy at *
      refine hK.out _ _ hS (fun _ => ?_)
      clear hK K
      try simp only [Act.put,sl2,sl0,sl1]
      refine zm [6,8] ?_
      refine zc rfl (fun K hK => ?_) ?_
      ·go_simp
       go_at_call 160
       (with_reducible refine (PB _).out.mono ?_)
       rintro e W4 ⟨rfl,hb⟩
       replace hS := hS.call hb
       replace hY := hY.call hb
       clear hb
       refine hK.out _ _ hS (fun _ => ?_)
       clear hK K
       try simp only [Act.put,sl2,sl0,sl1]
       refine zm [7,8] ?_
       refine zc rfl (fun K hK => ?_) ?_
       ·go_simp
        go_at_call 159
        (with_reducible refine (normal_any n2 m2 HM2.out e2 HE2.out.1 HE2.out.2 _).mono ?_)
        rintro e W5 ⟨j2,hj,hl,hlt,he,hb⟩
        obtain ⟨y2,hy⟩ : ∃ y2 : Nat,y2 = m2 * 2 ^ j2 := ⟨_,rfl⟩
        obtain ⟨d2,hd⟩ : ∃ d2 : Int,d2 = e2 - (j2 : Int) := ⟨_,rfl⟩
        rw [← hy,← hd] at he
        subst he
        have HN2 := hid (And.intro hj (And.intro hl (And.intro hlt (And.intro hy hd))))
        clear hj hl hlt hy hd
        replace hS := hS.call hb
        replace hY := hY.call hb
        clear hb
        refine hK.out _ _ hS (fun _ => ?_)
        clear hK K
        try simp only [Act.put,sl2,sl0,sl1]
        refine zr 8 rfl (fun K hK => ?_)
        go_simp
        have l_Fgx := hS.lt
        have l_hYgx := hY.lt
        have hX := Nb.new false 0 0 W5
        replace hS := hS.alloc (.cells #[.bool false,.int .u64 0,.int .i64 0] 153)
        replace hY := hY.alloc (.cells #[.bool false,.int .u64 0,.int .i64 0] 153)
        generalize World.alloc W5 (.cells #[.bool false,.int .u64 0,.int .i64 0] 153) = W6 at *
        generalize W5.heap.size = gx at *
        refine hK.out _ _ hS (fun _ => ?_)
        clear hK K
        try simp only [Act.put,sl2,sl0,sl1]
        refine zr 10 rfl (fun K hK => ?_)
        obtain ⟨⟨x0,x1,x2⟩,x3,x4,x5⟩ := id hX
        go_simp
        clear x0 x1 x2 x3 x4 x5
        replace hS := hS.set3 (c := gx) (.bool n1) (.int .u64 y1) (.int .i64 d1) l_Fgx
        replace hY := hY.set3 (c := gx) (.bool n1) (.int .u64 y1) (.int .i64 d1) (by omega)
        replace hX := hX.store (ng' := n1) (m' := y1) (e' := d1)
        generalize ((W6.setCell ⟨gx,0,none⟩ (.bool n1)).setCell ⟨gx,1,none⟩ (.int .u64 y1)).setCell ⟨gx,2,none⟩ (.int .i64 d1) = W7 at *
        refine hK.out _ _ hS (fun _ => ?_)
        clear hK K
        try simp only [Act.put,sl2,sl0,sl1]
        refine zr 11 rfl (fun K hK => ?_)
        obtain ⟨⟨x0,x1,x2⟩,x3,x4,x5⟩ := id hY
        go_simp
        clear x0 x1 x2 x3 x4 x5
        replace hS := hS.set3 (c := gy) (.bool n2) (.int .u64 y2) (.int .i64 d2) l_Fgy
        replace hX := hX.set3 (c := gy) (.bool n2) (.int .u64 y2) (.int .i64 d2) (by omega)
        replace hY := hY.store (ng' := n2) (m' := y2) (e' := d2)
        generalize ((W7.setCell ⟨gy,0,none⟩ (.bool n2)).setCell ⟨gy,1,none⟩ (.int .u64 y2)).setCell ⟨gy,2,none⟩ (.int .i64 d2) = W8 at *
        refine hK.out _ _ hS (fun _ => ?_)
        clear hK K
        try simp only [Act.put,sl2,sl0,sl1]
        refine wpAnyH_done (by kernel_rfl) ?_ _
        (go_wp2_with fail)
        go_meet
        exact ⟨gx,gy,j1,y1,d1,j2,y2,d2,rfl,rfl,hX,hY,l_Fgx,l_Fgy,by omega,hS,HN1,HN2⟩
       refine zc rfl (fun K hK => ?_) ?_
       ·go_simp
        have l_Fgx := hS.lt
        have l_hYgx := hY.lt
        have hX := Nb.new false 0 0 W4
        replace hS := hS.alloc (.cells #[.bool false,.int .u64 0,.int .i64 0] 153)
        replace hY := hY.alloc (.cells #[.bool false,.int .u64 0,.int .i64 0] 153)
        generalize World.alloc W4 (.cells #[.bool false,.int .u64 0,.int .i64 0] 153) = W5 at *
        generalize W4.heap.size = gx at *
        refine hK.out _ _ hS (fun _ => ?_)
        clear hK K
        try simp only [Act.put,sl2,sl0,sl1]
        refine zr 7 rfl (fun K hK => ?_)
        go_simp
        go_at_call 159
        (with_reducible refine (normal_any n2 m2 HM2.out e2 HE2.out.1 HE2.out.2 _).mono ?_)
        rintro e W6 ⟨j2,hj,hl,hlt,he,hb⟩
        obtain ⟨y2,hy⟩ : ∃ y2 : Nat,y2 = m2 * 2 ^ j2 := ⟨_,rfl⟩
        obtain ⟨d2,hd⟩ : ∃ d2 : Int,d2 = e2 - (j2 : Int) := ⟨_,rfl⟩
        rw [← hy,← hd] at he
        subst he
        have HN2 := hid (And.intro hj (And.intro hl (And.intro hlt (And.intro hy hd))))
        clear hj hl hlt hy hd
        replace hS := hS.call hb
        replace hY := hY.call hb
        replace hX := hX.call hb
        clear hb
        refine hK.out _ _ hS (fun _ => ?_)
        clear hK K
        try simp only [Act.put,sl2,sl0,sl1]
        refine zr 10 rfl (fun K hK => ?_)
        obtain ⟨⟨x0,x1,x2⟩,x3,x4,x5⟩ := id hX
        go_simp
        clear x0 x1 x2 x3 x4 x5
        replace hS := hS.set3 (c := gx) (.bool n1) (.int .u64 y1) (.int .i64 d1) l_Fgx
        replace hY := hY.set3 (c := gx) (.bool n1) (.int .u64 y1) (.int .i64 d1) (by omega)
        replace hX := hX.store (ng' := n1) (m' := y1) (e' := d1)
        generalize ((W6.setCell ⟨gx,0,none⟩ (.bool n1)).setCell ⟨gx,1,none⟩ (.int .u64 y1)).setCell ⟨gx,2,none⟩ (.int .i64 d1) = W7 at *
        refine hK.out _ _ hS (fun _ => ?_)
        clear hK K
        try simp only [Act.put,sl2,sl0,sl1]
        refine zr 11 rfl (fun K hK => ?_)
        obtain ⟨⟨x0,x1,x2⟩,x3,x4,x5⟩ := id hY
        go_simp
        clear x0 x1 x2 x3 x4 x5
        replace hS := hS.set3 (c := gy) (.bool n2) (.int .u64 y2) (.int .i64 d2) l_Fgy
        replace hX := hX.set3 (c := gy) (.bool n2) (.int .u64 y2) (.int .i64 d2) (by omega)
        replace hY := hY.store (ng' := n2) (m' := y2) (e' := d2)
        generalize ((W7.setCell ⟨gy,0,none⟩ (.bool n2)).setCell ⟨gy,1,none⟩ (.int .u64 y2)).setCell ⟨gy,2,none⟩ (.int .i64 d2) = W8 at *
        refine hK.out _ _ hS (fun _ => ?_)
        clear hK K
        try simp only [Act.put,sl2,sl0,sl1]
        refine wpAnyH_done (by kernel_rfl) ?_ _
        (go_wp2_with fail)
        go_meet
        exact ⟨gx,gy,j1,y1,d1,j2,y2,d2,rfl,rfl,hX,hY,l_Fgx,l_Fgy,by omega,hS,HN1,HN2⟩
       exact zn
      refine zc rfl (fun K hK => ?_) ?_
      ·go_simp
       have l_Fgx := hS.lt
       have l_hYgx := hY.lt
       have hX := Nb.new false 0 0 W3
       replace hS := hS.alloc (.cells #[.bool false,.int .u64 0,.int .i64 0] 153)
       replace hY := hY.alloc (.cells #[.bool false,.int .u64 0,.int .i64 0] 153)
       generalize World.alloc W3 (.cells #[.bool false,.int .u64 0,.int .i64 0] 153) = W4 at *
       generalize W3.heap.size = gx at *
       refine hK.out _ _ hS (fun _ => ?_)
       clear hK K
       try simp only [Act.put,sl2,sl0,sl1]
       refine zr 6 rfl (fun K hK => ?_)
       go_simp
       go_at_call 160
       (with_reducible refine (PB _).out.mono ?_)
       rintro e W5 ⟨rfl,hb⟩
       replace hS := hS.call hb
       replace hY := hY.call hb
       replace hX := hX.call hb
       clear hb
       refine hK.out _ _ hS (fun _ => ?_)
       clear hK K
       try simp only [Act.put,sl2,sl0,sl1]
       refine zr 7 rfl (fun K hK => ?_)
       go_simp
       go_at_call 159
       (with_reducible refine (normal_any n2 m2 HM2.out e2 HE2.out.1 HE2.out.2 _).mono ?_)
       rintro e W6 ⟨j2,hj,hl,hlt,he,hb⟩
       obtain ⟨y2,hy⟩ : ∃ y2 : Nat,y2 = m2 * 2 ^ j2 := ⟨_,rfl⟩
       obtain ⟨d2,hd⟩ : ∃ d2 : Int,d2 = e2 - (j2 : Int) := ⟨_,rfl⟩
       rw [← hy,← hd] at he
       subst he
       have HN2 := hid (And.intro hj (And.intro hl (And.intro hlt (And.intro hy hd))))
       clear hj hl hlt hy hd
       replace hS := hS.call hb
       replace hY := hY.call hb
       replace hX := hX.call hb
       clear hb
       refine hK.out _ _ hS (fun _ => ?_)
       clear hK K
       try simp only [Act.put,sl2,sl0,sl1]
       refine zr 10 rfl (fun K hK => ?_)
       obtain ⟨⟨x0,x1,x2⟩,x3,x4,x5⟩ := id hX
       go_simp
       clear x0 x1 x2 x3 x4 x5
       replace hS := hS.set3 (c := gx) (.bool n1) (.int .u64 y1) (.int .i64 d1) l_Fgx
       replace hY := hY.set3 (c := gx) (.bool n1) (.int .u64 y1) (.int .i64 d1) (by omega)
       replace hX := hX.store (ng' := n1) (m' := y1) (e' := d1)
       generalize ((W6.setCell ⟨gx,0,none⟩ (.bool n1)).setCell ⟨gx,1,none⟩ (.int .u64 y1)).setCell ⟨gx,2,none⟩ (.int .i64 d1) = W7 at *
       refine hK.out _ _ hS (fun _ => ?_)
       clear hK K
       try simp only [Act.put,sl2,sl0,sl1]
       refine zr 11 rfl (fun K hK => ?_)
       obtain ⟨⟨x0,x1,x2⟩,x3,x4,x5⟩ := id hY
       go_simp
       clear x0 x1 x2 x3 x4 x5
       replace hS := hS.set3 (c := gy) (.bool n2) (.int .u64 y2) (.int .i64 d2) l_Fgy
       replace hX := hX.set3 (c := gy) (.bool n2) (.int .u64 y2) (.int .i64 d2) (by omega)
       replace hY := hY.store (ng' := n2) (m' := y2) (e' := d2)
       generalize ((W7.setCell ⟨gy,0,none⟩ (.bool n2)).setCell ⟨gy,1,none⟩ (.int .u64 y2)).setCell ⟨gy,2,none⟩ (.int .i64 d2) = W8 at *
       refine hK.out _ _ hS (fun _ => ?_)
       clear hK K
       try simp only [Act.put,sl2,sl0,sl1]
       refine wpAnyH_done (by kernel_rfl) ?_ _
       (go_wp2_with fail)
       go_meet
       exact ⟨gx,gy,j1,y1,d1,j2,y2,d2,rfl,rfl,hX,hY,l_Fgx,l_Fgy,by omega,hS,HN1,HN2⟩
      exact zn
     exact zn
    refine zc rfl (fun K hK => ?_) ?_
    ·go_simp
     have l_Fgx := hS.lt
     have hX := Nb.new false 0 0 W1
     replace hS := hS.alloc (.cells #[.bool false,.int .u64 0,.int .i64 0] 153)
     generalize World.alloc W1 (.cells #[.bool false,.int .u64 0,.int .i64 0] 153) = W2 at *
     generalize W1.heap.size = gx at *
     refine hK.out _ _ hS (fun _ => ?_)
     clear hK K
     try simp only [Act.put,sl2,sl0,sl1]
     refine zm [3,9] ?_
     refine zc rfl (fun K hK => ?_) ?_
     ·go_simp
      go_at_call 159
      (with_reducible refine (normal_any n1 m1 HM1.out e1 HE1.out.1 HE1.out.2 _).mono ?_)
      rintro e W3 ⟨j1,hj,hl,hlt,he,hb⟩
      obtain ⟨y1,hy⟩ : ∃ y1 : Nat,y1 = m1 * 2 ^ j1 := ⟨_,rfl⟩
      obtain ⟨d1,hd⟩ : ∃ d1 : Int,d1 = e1 - (j1 : Int) := ⟨_,rfl⟩
      rw [← hy,← hd] at he
      subst he
      have HN1 := hid (And.intro hj (And.intro hl (And.intro hlt (And.intro hy hd))))
      clear hj hl hlt hy hd
      replace hS := hS.call hb
      replace hX := hX.call hb
      clear hb
      refine hK.out _ _ hS (fun _ => ?_)
      clear hK K
      try simp only [Act.put,sl2,sl0,sl1]
      refine zm [6,9] ?_
      refine zc rfl (fun K hK => ?_) ?_
      ·go_simp
       go_at_call 160
       (with_reducible refine (PB _).out.mono ?_)
       rintro e W4 ⟨rfl,hb⟩
       replace hS := hS.call hb
       replace hX := hX.call hb
       clear hb
       refine hK.out _ _ hS (fun _ => ?_)
       clear hK K
       try simp only [Act.put,sl2,sl0,sl1]
       refine zm [7,9] ?_
       refine zc rfl (fun K hK => ?_) ?_
       ·go_simp
        go_at_call 159
        (with_reducible refine (normal_any n2 m2 HM2.out e2 HE2.out.1 HE2.out.2 _).mono ?_)
        rintro e W5 ⟨j2,hj,hl,hlt,he,hb⟩
        obtain ⟨y2,hy⟩ : ∃ y2 : Nat,y2 = m2 * 2 ^ j2 := ⟨_,rfl⟩
        obtain ⟨d2,hd⟩ : ∃ d2 : Int,d2 = e2 - (j2 : Int) := ⟨_,rfl⟩
        rw [← hy,← hd] at he
        subst he
        have HN2 := hid (And.intro hj (And.intro hl (And.intro hlt (And.intro hy hd))))
        clear hj hl hlt hy hd
        replace hS := hS.call hb
        replace hX := hX.call hb
        clear hb
        refine hK.out _ _ hS (fun _ => ?_)
        clear hK K
        try simp only [Act.put,sl2,sl0,sl1]
        refine zr 9 rfl (fun K hK => ?_)
        go_simp
        have l_Fgy := hS.lt
        have l_hXgy := hX.lt
        have hY := Nb.new false 0 0 W5
        replace hS := hS.alloc (.cells #[.bool false,.int .u64 0,.int .i64 0] 153)
        replace hX := hX.alloc (.cells #[.bool false,.int .u64 0,.int .i64 0] 153)
        generalize World.alloc W5 (.cells #[.bool false,.int .u64 0,.int .i64 0] 153) = W6 at *
        generalize W5.heap.size = gy at *
        refine hK.out _ _ hS (fun _ => ?_)
        clear hK K
        try simp only [Act.put,sl2,sl0,sl1]
        refine zr 10 rfl (fun K hK => ?_)
        obtain ⟨⟨x0,x1,x2⟩,x3,x4,x5⟩ := id hX
        go_simp
        clear x0 x1 x2 x3 x4 x5
        replace hS := hS.set3 (c := gx) (.bool n1) (.int .u64 y1) (.int .i64 d1) l_Fgx
        replace hY := hY.set3 (c := gx) (.bool n1) (.int .u64 y1) (.int .i64 d1) (by omega)
        replace hX := hX.store (ng' := n1) (m' := y1) (e' := d1)
        generalize ((W6.setCell ⟨gx,0,none⟩ (.bool n1)).setCell ⟨gx,1,none⟩ (.int .u64 y1)).setCell ⟨gx,2,none⟩ (.int .i64 d1) = W7 at *
        refine hK.out _ _ hS (fun _ => ?_)
        clear hK K
        try simp only [Act.put,sl2,sl0,sl1]
        refine zr 11 rfl (fun K hK => ?_)
        obtain ⟨⟨x0,x1,x2⟩,x3,x4,x5⟩ := id hY
        go_simp
        clear x0 x1 x2 x3 x4 x5
        replace hS := hS.set3 (c := gy) (.bool n2) (.int .u64 y2) (.int .i64 d2) l_Fgy
        replace hX := hX.set3 (c := gy) (.bool n2) (.int .u64 y2) (.int .i64 d2) (by omega)
        replace hY := hY.store (ng' := n2) (m' := y2) (e' := d2)
        generalize ((W7.setCell ⟨gy,0,none⟩ (.bool n2)).setCell ⟨gy,1,none⟩ (.int .u64 y2)).setCell ⟨gy,2,none⟩ (.int .i64 d2) = W8 at *
        refine hK.out _ _ hS (fun _ => ?_)
        clear hK K
        try simp only [Act.put,sl2,sl0,sl1]
        refine wpAnyH_done (by kernel_rfl) ?_ _
        (go_wp2_with fail)
        go_meet
        exact ⟨gx,gy,j1,y1,d1,j2,y2,d2,rfl,rfl,hX,hY,l_Fgx,l_Fgy,by omega,hS,HN1,HN2⟩
       refine zc rfl (fun K hK => ?_) ?_
       ·go_simp
        have l_Fgy := hS.lt
        have l_hXgy := hX.lt
        have hY := Nb.new false 0 0 W4
        replace hS := hS.alloc (.cells #[.bool false,.int .u64 0,.int .i64 0] 153)
        replace hX := hX.alloc (.cells #[.bool false,.int .u64 0,.int .i64 0] 153)
        generalize World.alloc W4 (.cells #[.bool false,.int .u64 0,.int .i64 0] 153) = W5 at *
        generalize W4.heap.size = gy at *
        refine hK.out _ _ hS (fun _ => ?_)
        clear hK K
        try simp only [Act.put,sl2,sl0,sl1]
        refine zr 7 rfl (fun K hK => ?_)
        go_simp
        go_at_call 159
        (with_reducible refine (normal_any n2 m2 HM2.out e2 HE2.out.1 HE2.out.2 _).mono ?_)
        rintro e W6 ⟨j2,hj,hl,hlt,he,hb⟩
        obtain ⟨y2,hy⟩ : ∃ y2 : Nat,y2 = m2 * 2 ^ j2 := ⟨_,rfl⟩
        obtain ⟨d2,hd⟩ : ∃ d2 : Int,d2 = e2 - (j2 : Int) := ⟨_,rfl⟩
        rw [← hy,← hd] at he
        subst he
        have HN2 := hid (And.intro hj (And.intro hl (And.intro hlt (And.intro hy hd))))
        clear hj hl hlt hy hd
        replace hS := hS.call hb
        replace hX := hX.call hb
        replace hY := hY.call hb
        clear hb
        refine hK.out _ _ hS (fun _ => ?_)
        clear hK K
        try simp only [Act.put,sl2,sl0,sl1]
        refine zr 10 rfl (fun K hK => ?_)
        obtain ⟨⟨x0,x1,x2⟩,x3,x4,x5⟩ := id hX
        go_simp
        clear x0 x1 x2 x3 x4 x5
        replace hS := hS.set3 (c := gx) (.bool n1) (.int .u64 y1) (.int .i64 d1) l_Fgx
        replace hY := hY.set3 (c := gx) (.bool n1) (.int .u64 y1) (.int .i64 d1) (by omega)
        replace hX := hX.store (ng' := n1) (m' := y1) (e' := d1)
        generalize ((W6.setCell ⟨gx,0,none⟩ (.bool n1)).setCell ⟨gx,1,none⟩ (.int .u64 y1)).setCell ⟨gx,2,none⟩ (.int .i64 d1) = W7 at *
        refine hK.out _ _ hS (fun _ => ?_)
        clear hK K
        try simp only [Act.put,sl2,sl0,sl1]
        refine zr 11 rfl (fun K hK => ?_)
        obtain ⟨⟨x0,x1,x2⟩,x3,x4,x5⟩ := id hY
        go_simp
        clear x0 x1 x2 x3 x4 x5
        replace hS := hS.set3 (c := gy) (.bool n2) (.int .u64 y2) (.int .i64 d2) l_Fgy
        replace hX := hX.set3 (c := gy) (.bool n2) (.int .u64 y2) (.int .i64 d2) (by omega)
        replace hY := hY.store (ng' := n2) (m' := y2) (e' := d2)
        generalize ((W7.setCell ⟨gy,0,none⟩ (.bool n2)).setCell ⟨gy,1,none⟩ (.int .u64 y2)).setCell ⟨gy,2,none⟩ (.int .i64 d2) = W8 at *
        refine hK.out _ _ hS (fun _ => ?_)
        clear hK K
        try simp only [Act.put,sl2,sl0,sl1]
        refine wpAnyH_done (by kernel_rfl) ?_ _
        (go_wp2_with fail)
        go_meet
        exact ⟨gx,gy,j1,y1,d1,j2,y2,d2,rfl,rfl,hX,hY,l_Fgx,l_Fgy,by omega,hS,HN1,HN2⟩
       exact zn
      refine zc rfl (fun K hK => ?_) ?_
      ·go_simp
       have l_Fgy := hS.lt
       have l_hXgy := hX.lt
       have hY := Nb.new false 0 0 W3
       replace hS := hS.alloc (.cells #[.bool false,.int .u64 0,.int .i64 0] 153)
       replace hX := hX.alloc (.cells #[.bool false,.int .u64 0,.int .i64 0] 153)
       generalize World.alloc W3 (.cells #[.bool false,.int .u64 0,.int .i64 0] 153) = W4 at *
       generalize W3.heap.size = gy at *
       refine hK.out _ _ hS (fun _ => ?_)
       clear hK K
       try simp only [Act.put,sl2,sl0,sl1]
       refine zr 6 rfl (fun K hK => ?_)
       go_simp
       go_at_call 160
       (with_reducible refine (PB _).out.mono ?_)
       rintro e W5 ⟨rfl,hb⟩
       replace hS := hS.call hb
       replace hX := hX.call hb
       replace hY := hY.call hb
       clear hb
       refine hK.out _ _ hS (fun _ => ?_)
       clear hK K
       try simp only [Act.put,sl2,sl0,sl1]
       refine zr 7 rfl (fun K hK => ?_)
       go_simp
       go_at_call 159
       (with_reducible refine (normal_any n2 m2 HM2.out e2 HE2.out.1 HE2.out.2 _).mono ?_)
       rintro e W6 ⟨j2,hj,hl,hlt,he,hb⟩
       obtain ⟨y2,hy⟩ : ∃ y2 : Nat,y2 = m2 * 2 ^ j2 := ⟨_,rfl⟩
       obtain ⟨d2,hd⟩ : ∃ d2 : Int,d2 = e2 - (j2 : Int) := ⟨_,rfl⟩
       rw [← hy,← hd] at he
       subst he
       have HN2 := hid (And.intro hj (And.intro hl (And.intro hlt (And.intro hy hd))))
       clear hj hl hlt hy hd
       replace hS := hS.call hb
       replace hX := hX.call hb
       replace hY := hY.call hb
       clear hb
       refine hK.out _ _ hS (fun _ => ?_)
       clear hK K
       try simp only [Act.put,sl2,sl0,sl1]
       refine zr 10 rfl (fun K hK => ?_)
       obtain ⟨⟨x0,x1,x2⟩,x3,x4,x5⟩ := id hX
       go_simp
       clear x0 x1 x2 x3 x4 x5
       replace hS := hS.set3 (c := gx) (.bool n1) (.int .u64 y1) (.int .i64 d1) l_Fgx
       replace hY := hY.set3 (c := gx) (.bool n1) (.int .u64 y1) (.int .i64 d1) (by omega)
       replace hX := hX.store (ng' := n1) (m' := y1) (e' := d1)
       generalize ((W6.setCell ⟨gx,0,none⟩ (.bool n1)).setCell ⟨gx,1,none⟩ (.int .u64 y1)).setCell ⟨gx,2,none⟩ (.int .i64 d1) = W7 at *
       refine hK.out _ _ hS (fun _ => ?_)
       clear hK K
       try simp only [Act.put,sl2,sl0,sl1]
       refine zr 11 rfl (fun K hK => ?_)
       obtain ⟨⟨x0,x1,x2⟩,x3,x4,x5⟩ := id hY
       go_simp
       clear x0 x1 x2 x3 x4 x5
       replace hS := hS.set3 (c := gy) (.bool n2) (.int .u64 y2) (.int .i64 d2) l_Fgy
       replace hX := hX.set3 (c := gy) (.bool n2) (.int .u64 y2) (.int .i64 d2) (by omega)
       replace hY := hY.store (ng' := n2) (m' := y2) (e' := d2)
       generalize ((W7.setCell ⟨gy,0,none⟩ (.bool n2)).setCell ⟨gy,1,none⟩ (.int .u64 y2)).setCell ⟨gy,2,none⟩ (.int .i64 d2) = W8 at *
       refine hK.out _ _ hS (fun _ => ?_)
       clear hK K
       try simp only [Act.put,sl2,sl0,sl1]
       refine wpAnyH_done (by kernel_rfl) ?_ _
       (go_wp2_with fail)
       go_meet
       exact ⟨gx,gy,j1,y1,d1,j2,y2,d2,rfl,rfl,hX,hY,l_Fgx,l_Fgy,by omega,hS,HN1,HN2⟩
      exact zn
     refine zc rfl (fun K hK => ?_) ?_
     ·go_simp
      have l_Fgy := hS.lt
      have l_hXgy := hX.lt
      have hY := Nb.new false 0 0 W2
      replace hS := hS.alloc (.cells #[.bool false,.int .u64 0,.int .i64 0] 153)
      replace hX := hX.alloc (.cells #[.bool false,.int .u64 0,.int .i64 0] 153)
      generalize World.alloc W2 (.cells #[.bool false,.int .u64 0,.int .i64 0] 153) = W3 at *
      generalize W2.heap.size = gy at *
      refine hK.out _ _ hS (fun _ => ?_)
      clear hK K
      try simp only [Act.put,sl2,sl0,sl1]
      refine zr 3 rfl (fun K hK => ?_)
      go_simp
      go_at_call 159
      (with_reducible refine (normal_any n1 m1 HM1.out e1 HE1.out.1 HE1.out.2 _).mono ?_)
      rintro e W4 ⟨j1,hj,hl,hlt,he,hb⟩
      obtain ⟨y1,hy⟩ : ∃ y1 : Nat,y1 = m1 * 2 ^ j1 := ⟨_,rfl⟩
      obtain ⟨d1,hd⟩ : ∃ d1 : Int,d1 = e1 - (j1 : Int) := ⟨_,rfl⟩
      rw [← hy,← hd] at he
      subst he
      have HN1 := hid (And.intro hj (And.intro hl (And.intro hlt (And.intro hy hd))))
      clear hj hl hlt hy hd
      replace hS := hS.call hb
      replace hX := hX.call hb
      replace hY := hY.call hb
      clear hb
      refine hK.out _ _ hS (fun _ => ?_)
      clear hK K
      try simp only [Act.put,sl2,sl0,sl1]
      refine zr 6 rfl (fun K hK => ?_)
      go_simp
      go_at_call 160
      (with_reducible refine (PB _).out.mono ?_)
      rintro e W5 ⟨rfl,hb⟩
      replace hS := hS.call hb
      replace hX := hX.call hb
      replace hY := hY.call hb
      clear hb
      refine hK.out _ _ hS (fun _ => ?_)
      clear hK K
      try simp only [Act.put,sl2,sl0,sl1]
      refine zr 7 rfl (fun K hK => ?_)
      go_simp
      go_at_call 159
      (with_reducible refine (normal_any n2 m2 HM2.out e2 HE2.out.1 HE2.out.2 _).mono ?_)
      rintro e W6 ⟨j2,hj,hl,hlt,he,hb⟩
      obtain ⟨y2,hy⟩ : ∃ y2 : Nat,y2 = m2 * 2 ^ j2 := ⟨_,rfl⟩
      obtain ⟨d2,hd⟩ : ∃ d2 : Int,d2 = e2 - (j2 : Int) := ⟨_,rfl⟩
      rw [← hy,← hd] at he
      subst he
      have HN2 := hid (And.intro hj (And.intro hl (And.intro hlt (And.intro hy hd))))
      clear hj hl hlt hy hd
      replace hS := hS.call hb
      replace hX := hX.call hb
      replace hY := hY.call hb
      clear hb
      refine hK.out _ _ hS (fun _ => ?_)
      clear hK K
      try simp only [Act.put,sl2,sl0,sl1]
      refine zr 10 rfl (fun K hK => ?_)
      obtain ⟨⟨x0,x1,x2⟩,x3,x4,x5⟩ := id hX
      go_simp
      clear x0 x1 x2 x3 x4 x5
      replace hS := hS.set3 (c := gx) (.bool n1) (.int .u64 y1) (.int .i64 d1) l_Fgx
      replace hY := hY.set3 (c := gx) (.bool n1) (.int .u64 y1) (.int .i64 d1) (by omega)
      replace hX := hX.store (ng' := n1) (m' := y1) (e' := d1)
      generalize ((W6.setCell ⟨gx,0,none⟩ (.bool n1)).setCell ⟨gx,1,none⟩ (.int .u64 y1)).setCell ⟨gx,2,none⟩ (.int .i64 d1) = W7 at *
      refine hK.out _ _ hS (fun _ => ?_)
      clear hK K
      try simp only [Act.put,sl2,sl0,sl1]
      refine zr 11 rfl (fun K hK => ?_)
      obtain ⟨⟨x0,x1,x2⟩,x3,x4,x5⟩ := id hY
      go_simp
      clear x0 x1 x2 x3 x4 x5
      replace hS := hS.set3 (c := gy) (.bool n2) (.int .u64 y2) (.int .i64 d2) l_Fgy
      replace hX := hX.set3 (c := gy) (.bool n2) (.int .u64 y2) (.int .i64 d2) (by omega)
      replace hY := hY.store (ng' := n2) (m' := y2) (e' := d2)
      generalize ((W7.setCell ⟨gy,0,none⟩ (.bool n2)).setCell ⟨gy,1,none⟩ (.int .u64 y2)).setCell ⟨gy,2,none⟩ (.int .i64 d2) = W8 at *
      refine hK.out _ _ hS (fun _ => ?_)
      clear hK K
      try simp only [Act.put,sl2,sl0,sl1]
      refine wpAnyH_done (by kernel_rfl) ?_ _
      (go_wp2_with fail)
      go_meet
      exact ⟨gx,gy,j1,y1,d1,j2,y2,d2,rfl,rfl,hX,hY,l_Fgx,l_Fgy,by omega,hS,HN1,HN2⟩
     exact zn
    refine zc rfl (fun K hK => ?_) ?_
    ·go_simp
     have l_Fgy := hS.lt
     have hY := Nb.new false 0 0 W1
     replace hS := hS.alloc (.cells #[.bool false,.int .u64 0,.int .i64 0] 153)
     generalize World.alloc W1 (.cells #[.bool false,.int .u64 0,.int .i64 0] 153) = W2 at *
     generalize W1.heap.size = gy at *
     refine hK.out _ _ hS (fun _ => ?_)
     clear hK K
     try simp only [Act.put,sl2,sl0,sl1]
     refine zm [3,8] ?_
     refine zc rfl (fun K hK => ?_) ?_
     ·go_simp
      go_at_call 159
      (with_reducible refine (normal_any n1 m1 HM1.out e1 HE1.out.1 HE1.out.2 _).mono ?_)
      rintro e W3 ⟨j1,hj,hl,hlt,he,hb⟩
      obtain ⟨y1,hy⟩ : ∃ y1 : Nat,y1 = m1 * 2 ^ j1 := ⟨_,rfl⟩
      obtain ⟨d1,hd⟩ : ∃ d1 : Int,d1 = e1 - (j1 : Int) := ⟨_,rfl⟩
      rw [← hy,← hd] at he
      subst he
      have HN1 := hid (And.intro hj (And.intro hl (And.intro hlt (And.intro hy hd))))
      clear hj hl hlt hy hd
      replace hS := hS.call hb
      replace hY := hY.call hb
      clear hb
      refine hK.out _ _ hS (fun _ => ?_)
      clear hK K
      try simp only [Act.put,sl2,sl0,sl1]
      refine zm [6,8] ?_
      refine zc rfl (fun K hK => ?_) ?_
      ·go_simp
       go_at_call 160
       (with_reducible refine (PB _).out.mono ?_)
       rintro e W4 ⟨rfl,hb⟩
       replace hS := hS.call hb
       replace hY := hY.call hb
       clear hb
       refine hK.out _ _ hS (fun _ => ?_)
       clear hK K
       try simp only [Act.put,sl2,sl0,sl1]
       refine zm [7,8] ?_
       refine zc rfl (fun K hK => ?_) ?_
       ·go_simp
        go_at_call 159
        (with_reducible refine (normal_any n2 m2 HM2.out e2 HE2.out.1 HE2.out.2 _).mono ?_)
        rintro e W5 ⟨j2,hj,hl,hlt,he,hb⟩
        obtain ⟨y2,hy⟩ : ∃ y2 : Nat,y2 = m2 * 2 ^ j2 := ⟨_,rfl⟩
        obtain ⟨d2,hd⟩ : ∃ d2 : Int,d2 = e2 - (j2 : Int) := ⟨_,rfl⟩
        rw [← hy,← hd] at he
        subst he
        have HN2 := hid (And.intro hj (And.intro hl (And.intro hlt (And.intro hy hd))))
        clear hj hl hlt hy hd
        replace hS := hS.call hb
        replace hY := hY.call hb
        clear hb
        refine hK.out _ _ hS (fun _ => ?_)
        clear hK K
        try simp only [Act.put,sl2,sl0,sl1]
        refine zr 8 rfl (fun K hK => ?_)
        go_simp
        have l_Fgx := hS.lt
        have l_hYgx := hY.lt
        have hX := Nb.new false 0 0 W5
        replace hS := hS.alloc (.cells #[.bool false,.int .u64 0,.int .i64 0] 153)
        replace hY := hY.alloc (.cells #[.bool false,.int .u64 0,.int .i64 0] 153)
        generalize World.alloc W5 (.cells #[.bool false,.int .u64 0,.int .i64 0] 153) = W6 at *
        generalize W5.heap.size = gx at *
        refine hK.out _ _ hS (fun _ => ?_)
        clear hK K
        try simp only [Act.put,sl2,sl0,sl1]
        refine zr 10 rfl (fun K hK => ?_)
        obtain ⟨⟨x0,x1,x2⟩,x3,x4,x5⟩ := id hX
        go_simp
        clear x0 x1 x2 x3 x4 x5
        replace hS := hS.set3 (c := gx) (.bool n1) (.int .u64 y1) (.int .i64 d1) l_Fgx
        replace hY := hY.set3 (c := gx) (.bool n1) (.int .u64 y1) (.int .i64 d1) (by omega)
        replace hX := hX.store (ng' := n1) (m' := y1) (e' := d1)
        generalize ((W6.setCell ⟨gx,0,none⟩ (.bool n1)).setCell ⟨gx,1,none⟩ (.int .u64 y1)).setCell ⟨gx,2,none⟩ (.int .i64 d1) = W7 at *
        refine hK.out _ _ hS (fun _ => ?_)
        clear hK K
        try simp only [Act.put,sl2,sl0,sl1]
        refine zr 11 rfl (fun K hK => ?_)
        obtain ⟨⟨x0,x1,x2⟩,x3,x4,x5⟩ := id hY
        go_simp
        clear x0 x1 x2 x3 x4 x5
        replace hS := hS.set3 (c := gy) (.bool n2) (.int .u64 y2) (.int .i64 d2) l_Fgy
        replace hX := hX.set3 (c := gy) (.bool n2) (.int .u64 y2) (.int .i64 d2) (by omega)
        replace hY := hY.store (ng' := n2) (m' := y2) (e' := d2)
        generalize ((W7.setCell ⟨gy,0,none⟩ (.bool n2)).setCell ⟨gy,1,none⟩ (.int .u64 y2)).setCell ⟨gy,2,none⟩ (.int .i64 d2) = W8 at *
        refine hK.out _ _ hS (fun _ => ?_)
        clear hK K
        try simp only [Act.put,sl2,sl0,sl1]
        refine wpAnyH_done (by kernel_rfl) ?_ _
        (go_wp2_with fail)
        go_meet
        exact ⟨gx,gy,j1,y1,d1,j2,y2,d2,rfl,rfl,hX,hY,l_Fgx,l_Fgy,by omega,hS,HN1,HN2⟩
       refine zc rfl (fun K hK => ?_) ?_
       ·go_simp
        have l_Fgx := hS.lt
        have l_hYgx := hY.lt
        have hX := Nb.new false 0 0 W4
        replace hS := hS.alloc (.cells #[.bool false,.int .u64 0,.int .i64 0] 153)
        replace hY := hY.alloc (.cells #[.bool false,.int .u64 0,.int .i64 0] 153)
        generalize World.alloc W4 (.cells #[.bool false,.int .u64 0,.int .i64 0] 153) = W5 at *
        generalize W4.heap.size = gx at *
        refine hK.out _ _ hS (fun _ => ?_)
        clear hK K
        try simp only [Act.put,sl2,sl0,sl1]
        refine zr 7 rfl (fun K hK => ?_)
        go_simp
        go_at_call 159
        (with_reducible refine (normal_any n2 m2 HM2.out e2 HE2.out.1 HE2.out.2 _).mono ?_)
        rintro e W6 ⟨j2,hj,hl,hlt,he,hb⟩
        obtain ⟨y2,hy⟩ : ∃ y2 : Nat,y2 = m2 * 2 ^ j2 := ⟨_,rfl⟩
        obtain ⟨d2,hd⟩ : ∃ d2 : Int,d2 = e2 - (j2 : Int) := ⟨_,rfl⟩
        rw [← hy,← hd] at he
        subst he
        have HN2 := hid (And.intro hj (And.intro hl (And.intro hlt (And.intro hy hd))))
        clear hj hl hlt hy hd
        replace hS := hS.call hb
        replace hY := hY.call hb
        replace hX := hX.call hb
        clear hb
        refine hK.out _ _ hS (fun _ => ?_)
        clear hK K
        try simp only [Act.put,sl2,sl0,sl1]
        refine zr 10 rfl (fun K hK => ?_)
        obtain ⟨⟨x0,x1,x2⟩,x3,x4,x5⟩ := id hX
        go_simp
        clear x0 x1 x2 x3 x4 x5
        replace hS := hS.set3 (c := gx) (.bool n1) (.int .u64 y1) (.int .i64 d1) l_Fgx
        replace hY := hY.set3 (c := gx) (.bool n1) (.int .u64 y1) (.int .i64 d1) (by omega)
        replace hX := hX.store (ng' := n1) (m' := y1) (e' := d1)
        generalize ((W6.setCell ⟨gx,0,none⟩ (.bool n1)).setCell ⟨gx,1,none⟩ (.int .u64 y1)).setCell ⟨gx,2,none⟩ (.int .i64 d1) = W7 at *
        refine hK.out _ _ hS (fun _ => ?_)
        clear hK K
        try simp only [Act.put,sl2,sl0,sl1]
        refine zr 11 rfl (fun K hK => ?_)
        obtain ⟨⟨x0,x1,x2⟩,x3,x4,x5⟩ := id hY
        go_simp
        clear x0 x1 x2 x3 x4 x5
        replace hS := hS.set3 (c := gy) (.bool n2) (.int .u64 y2) (.int .i64 d2) l_Fgy
        replace hX := hX.set3 (c := gy) (.bool n2) (.int .u64 y2) (.int .i64 d2) (by omega)
        replace hY := hY.store (ng' := n2) (m' := y2) (e' := d2)
        generalize ((W7.setCell ⟨gy,0,none⟩ (.bool n2)).setCell ⟨gy,1,none⟩ (.int .u64 y2)).setCell ⟨gy,2,none⟩ (.int .i64 d2) = W8 at *
        refine hK.out _ _ hS (fun _ => ?_)
        clear hK K
        try simp only [Act.put,sl2,sl0,sl1]
        refine wpAnyH_done (by kernel_rfl) ?_ _
        (go_wp2_with fail)
        go_meet
        exact ⟨gx,gy,j1,y1,d1,j2,y2,d2,rfl,rfl,hX,hY,l_Fgx,l_Fgy,by omega,hS,HN1,HN2⟩
       exact zn
      refine zc rfl (fun K hK => ?_) ?_
      ·go_simp
       have l_Fgx := hS.lt
       have l_hYgx := hY.lt
       have hX := Nb.new false 0 0 W3
       replace hS := hS.alloc (.cells #[.bool false,.int .u64 0,.int .i64 0] 153)
       replace hY := hY.alloc (.cells #[.bool false,.int .u64 0,.int .i64 0] 153)
       generalize World.alloc W3 (.cells #[.bool false,.int .u64 0,.int .i64 0] 153) = W4 at *
       generalize W3.heap.size = gx at *
       refine hK.out _ _ hS (fun _ => ?_)
       clear hK K
       try simp only [Act.put,sl2,sl0,sl1]
       refine zr 6 rfl (fun K hK => ?_)
       go_simp
       go_at_call 160
       (with_reducible refine (PB _).out.mono ?_)
       rintro e W5 ⟨rfl,hb⟩
       replace hS := hS.call hb
       replace hY := hY.call hb
       replace hX := hX.call hb
       clear hb
       refine hK.out _ _ hS (fun _ => ?_)
       clear hK K
       try simp only [Act.put,sl2,sl0,sl1]
       refine zr 7 rfl (fun K hK => ?_)
       go_simp
       go_at_call 159
       (with_reducible refine (normal_any n2 m2 HM2.out e2 HE2.out.1 HE2.out.2 _).mono ?_)
       rintro e W6 ⟨j2,hj,hl,hlt,he,hb⟩
       obtain ⟨y2,hy⟩ : ∃ y2 : Nat,y2 = m2 * 2 ^ j2 := ⟨_,rfl⟩
       obtain ⟨d2,hd⟩ : ∃ d2 : Int,d2 = e2 - (j2 : Int) := ⟨_,rfl⟩
       rw [← hy,← hd] at he
       subst he
       have HN2 := hid (And.intro hj (And.intro hl (And.intro hlt (And.intro hy hd))))
       clear hj hl hlt hy hd
       replace hS := hS.call hb
       replace hY := hY.call hb
       replace hX := hX.call hb
       clear hb
       refine hK.out _ _ hS (fun _ => ?_)
       clear hK K
       try simp only [Act.put,sl2,sl0,sl1]
       refine zr 10 rfl (fun K hK => ?_)
       obtain ⟨⟨x0,x1,x2⟩,x3,x4,x5⟩ := id hX
       go_simp
       clear x0 x1 x2 x3 x4 x5
       replace hS := hS.set3 (c := gx) (.bool n1) (.int .u64 y1) (.int .i64 d1) l_Fgx
       replace hY := hY.set3 (c := gx) (.bool n1) (.int .u64 y1) (.int .i64 d1) (by omega)
       replace hX := hX.store (ng' := n1) (m' := y1) (e' := d1)
       generalize ((W6.setCell ⟨gx,0,none⟩ (.bool n1)).setCell ⟨gx,1,none⟩ (.int .u64 y1)).setCell ⟨gx,2,none⟩ (.int .i64 d1) = W7 at *
       refine hK.out _ _ hS (fun _ => ?_)
       clear hK K
       try simp only [Act.put,sl2,sl0,sl1]
       refine zr 11 rfl (fun K hK => ?_)
       obtain ⟨⟨x0,x1,x2⟩,x3,x4,x5⟩ := id hY
       go_simp
       clear x0 x1 x2 x3 x4 x5
       replace hS := hS.set3 (c := gy) (.bool n2) (.int .u64 y2) (.int .i64 d2) l_Fgy
       replace hX := hX.set3 (c := gy) (.bool n2) (.int .u64 y2) (.int .i64 d2) (by omega)
       replace hY := hY.store (ng' := n2) (m' := y2) (e' := d2)
       generalize ((W7.setCell ⟨gy,0,none⟩ (.bool n2)).setCell ⟨gy,1,none⟩ (.int .u64 y2)).setCell ⟨gy,2,none⟩ (.int .i64 d2) = W8 at *
       refine hK.out _ _ hS (fun _ => ?_)
       clear hK K
       try simp only [Act.put,sl2,sl0,sl1]
       refine wpAnyH_done (by kernel_rfl) ?_ _
       (go_wp2_with fail)
       go_meet
       exact ⟨gx,gy,j1,y1,d1,j2,y2,d2,rfl,rfl,hX,hY,l_Fgx,l_Fgy,by omega,hS,HN1,HN2⟩
      exact zn
     refine zc rfl (fun K hK => ?_) ?_
     ·go_simp
      have l_Fgx := hS.lt
      have l_hYgx := hY.lt
      have hX := Nb.new false 0 0 W2
      replace hS := hS.alloc (.cells #[.bool false,.int .u64 0,.int .i64 0] 153)
      replace hY := hY.alloc (.cells #[.bool false,.int .u64 0,.int .i64 0] 153)
      generalize World.alloc W2 (.cells #[.bool false,.int .u64 0,.int .i64 0] 153) = W3 at *
      generalize W2.heap.size = gx at *
      refine hK.out _ _ hS (fun _ => ?_)
      clear hK K
      try simp only [Act.put,sl2,sl0,sl1]
      refine zr 3 rfl (fun K hK => ?_)
      go_simp
      go_at_call 159
      (with_reducible refine (normal_any n1 m1 HM1.out e1 HE1.out.1 HE1.out.2 _).mono ?_)
      rintro e W4 ⟨j1,hj,hl,hlt,he,hb⟩
      obtain ⟨y1,hy⟩ : ∃ y1 : Nat,y1 = m1 * 2 ^ j1 := ⟨_,rfl⟩
      obtain ⟨d1,hd⟩ : ∃ d1 : Int,d1 = e1 - (j1 : Int) := ⟨_,rfl⟩
      rw [← hy,← hd] at he
      subst he
      have HN1 := hid (And.intro hj (And.intro hl (And.intro hlt (And.intro hy hd))))
      clear hj hl hlt hy hd
      replace hS := hS.call hb
      replace hY := hY.call hb
      replace hX := hX.call hb
      clear hb
      refine hK.out _ _ hS (fun _ => ?_)
      clear hK K
      try simp only [Act.put,sl2,sl0,sl1]
      refine zr 6 rfl (fun K hK => ?_)
      go_simp
      go_at_call 160
      (with_reducible refine (PB _).out.mono ?_)
      rintro e W5 ⟨rfl,hb⟩
      replace hS := hS.call hb
      replace hY := hY.call hb
      replace hX := hX.call hb
      clear hb
      refine hK.out _ _ hS (fun _ => ?_)
      clear hK K
      try simp only [Act.put,sl2,sl0,sl1]
      refine zr 7 rfl (fun K hK => ?_)
      go_simp
      go_at_call 159
      (with_reducible refine (normal_any n2 m2 HM2.out e2 HE2.out.1 HE2.out.2 _).mono ?_)
      rintro e W6 ⟨j2,hj,hl,hlt,he,hb⟩
      obtain ⟨y2,hy⟩ : ∃ y2 : Nat,y2 = m2 * 2 ^ j2 := ⟨_,rfl⟩
      obtain ⟨d2,hd⟩ : ∃ d2 : Int,d2 = e2 - (j2 : Int) := ⟨_,rfl⟩
      rw [← hy,← hd] at he
      subst he
      have HN2 := hid (And.intro hj (And.intro hl (And.intro hlt (And.intro hy hd))))
      clear hj hl hlt hy hd
      replace hS := hS.call hb
      replace hY := hY.call hb
      replace hX := hX.call hb
      clear hb
      refine hK.out _ _ hS (fun _ => ?_)
      clear hK K
      try simp only [Act.put,sl2,sl0,sl1]
      refine zr 10 rfl (fun K hK => ?_)
      obtain ⟨⟨x0,x1,x2⟩,x3,x4,x5⟩ := id hX
      go_simp
      clear x0 x1 x2 x3 x4 x5
      replace hS := hS.set3 (c := gx) (.bool n1) (.int .u64 y1) (.int .i64 d1) l_Fgx
      replace hY := hY.set3 (c := gx) (.bool n1) (.int .u64 y1) (.int .i64 d1) (by omega)
      replace hX := hX.store (ng' := n1) (m' := y1) (e' := d1)
      generalize ((W6.setCell ⟨gx,0,none⟩ (.bool n1)).setCell ⟨gx,1,none⟩ (.int .u64 y1)).setCell ⟨gx,2,none⟩ (.int .i64 d1) = W7 at *
      refine hK.out _ _ hS (fun _ => ?_)
      clear hK K
      try simp only [Act.put,sl2,sl0,sl1]
      refine zr 11 rfl (fun K hK => ?_)
      obtain ⟨⟨x0,x1,x2⟩,x3,x4,x5⟩ := id hY
      go_simp
      clear x0 x1 x2 x3 x4 x5
      replace hS := hS.set3 (c := gy) (.bool n2) (.int .u64 y2) (.int .i64 d2) l_Fgy
      replace hX := hX.set3 (c := gy) (.bool n2) (.int .u64 y2) (.int .i64 d2) (by omega)
      replace hY := hY.store (ng' := n2) (m' := y2) (e' := d2)
      generalize ((W7.setCell ⟨gy,0,none⟩ (.bool n2)).setCell ⟨gy,1,none⟩ (.int .u64 y2)).setCell ⟨gy,2,none⟩ (.int .i64 d2) = W8 at *
      refine hK.out _ _ hS (fun _ => ?_)
      clear hK K
      try simp only [Act.put,sl2,sl0,sl1]
      refine wpAnyH_done (by kernel_rfl) ?_ _
      (go_wp2_with fail)
      go_meet
      exact ⟨gx,gy,j1,y1,d1,j2,y2,d2,rfl,rfl,hX,hY,l_Fgx,l_Fgy,by omega,hS,HN1,HN2⟩
     exact zn
    exact zn
   refine zc rfl (fun K hK => ?_) ?_
   ·go_simp
    have l_Fgx := hS.lt
    have hX := Nb.new false 0 0 W
    replace hS := hS.alloc (.cells #[.bool false,.int .u64 0,.int .i64 0] 153)
    generalize World.alloc W (.cells #[.bool false,.int .u64 0,.int .i64 0] 153) = W1 at *
    generalize W.heap.size = gx at *
    refine hK.out _ _ hS (fun _ => ?_)
    clear hK K
    try simp only [Act.put,sl2,sl0,sl1]
    refine zm [2,9] ?_
    refine zc rfl (fun K hK => ?_) ?_
    ·go_simp
     go_at_call 160
     (with_reducible refine (PA _).out.mono ?_)
     rintro e W2 ⟨rfl,hb⟩
     replace hS := hS.call hb
     replace hX := hX.call hb
     clear hb
     refine hK.out _ _ hS (fun _ => ?_)
     clear hK K
     try simp only [Act.put,sl2,sl0,sl1]
     refine zm [3,9] ?_
     refine zc rfl (fun K hK => ?_) ?_
     ·go_simp
      go_at_call 159
      (with_reducible refine (normal_any n1 m1 HM1.out e1 HE1.out.1 HE1.out.2 _).mono ?_)
      rintro e W3 ⟨j1,hj,hl,hlt,he,hb⟩
      obtain ⟨y1,hy⟩ : ∃ y1 : Nat,y1 = m1 * 2 ^ j1 := ⟨_,rfl⟩
      obtain ⟨d1,hd⟩ : ∃ d1 : Int,d1 = e1 - (j1 : Int) := ⟨_,rfl⟩
      rw [← hy,← hd] at he
      subst he
      have HN1 := hid (And.intro hj (And.intro hl (And.intro hlt (And.intro hy hd))))
      clear hj hl hlt hy hd
      replace hS := hS.call hb
      replace hX := hX.call hb
      clear hb
      refine hK.out _ _ hS (fun _ => ?_)
      clear hK K
      try simp only [Act.put,sl2,sl0,sl1]
      refine zm [6,9] ?_
      refine zc rfl (fun K hK => ?_) ?_
      ·go_simp
       go_at_call 160
       (with_reducible refine (PB _).out.mono ?_)
       rintro e W4 ⟨rfl,hb⟩
       replace hS := hS.call hb
       replace hX := hX.call hb
       clear hb
       refine hK.out _ _ hS (fun _ => ?_)
       clear hK K
       try simp only [Act.put,sl2,sl0,sl1]
       refine zm [7,9] ?_
       refine zc rfl (fun K hK => ?_) ?_
       ·go_simp
        go_at_call 159
        (with_reducible refine (normal_any n2 m2 HM2.out e2 HE2.out.1 HE2.out.2 _).mono ?_)
        rintro e W5 ⟨j2,hj,hl,hlt,he,hb⟩
        obtain ⟨y2,hy⟩ : ∃ y2 : Nat,y2 = m2 * 2 ^ j2 := ⟨_,rfl⟩
        obtain ⟨d2,hd⟩ : ∃ d2 : Int,d2 = e2 - (j2 : Int) := ⟨_,rfl⟩
        rw [← hy,← hd] at he
        subst he
        have HN2 := hid (And.intro hj (And.intro hl (And.intro hlt (And.intro hy hd))))
        clear hj hl hlt hy hd
        replace hS := hS.call hb
        replace hX := hX.call hb
        clear hb
        refine hK.out _ _ hS (fun _ => ?_)
        clear hK K
        try simp only [Act.put,sl2,sl0,sl1]
        refine zr 9 rfl (fun K hK => ?_)
        go_simp
        have l_Fgy := hS.lt
        have l_hXgy := hX.lt
        have hY := Nb.new false 0 0 W5
        replace hS := hS.alloc (.cells #[.bool false,.int .u64 0,.int .i64 0] 153)
        replace hX := hX.alloc (.cells #[.bool false,.int .u64 0,.int .i64 0] 153)
        generalize World.alloc W5 (.cells #[.bool false,.int .u64 0,.int .i64 0] 153) = W6 at *
        generalize W5.heap.size = gy at *
        refine hK.out _ _ hS (fun _ => ?_)
        clear hK K
        try simp only [Act.put,sl2,sl0,sl1]
        refine zr 10 rfl (fun K hK => ?_)
        obtain ⟨⟨x0,x1,x2⟩,x3,x4,x5⟩ := id hX
        go_simp
        clear x0 x1 x2 x3 x4 x5
        replace hS := hS.set3 (c := gx) (.bool n1) (.int .u64 y1) (.int .i64 d1) l_Fgx
        replace hY := hY.set3 (c := gx) (.bool n1) (.int .u64 y1) (.int .i64 d1) (by omega)
        replace hX := hX.store (ng' := n1) (m' := y1) (e' := d1)
        generalize ((W6.setCell ⟨gx,0,none⟩ (.bool n1)).setCell ⟨gx,1,none⟩ (.int .u64 y1)).setCell ⟨gx,2,none⟩ (.int .i64 d1) = W7 at *
        refine hK.out _ _ hS (fun _ => ?_)
        clear hK K
        try simp only [Act.put,sl2,sl0,sl1]
        refine zr 11 rfl (fun K hK => ?_)
        obtain ⟨⟨x0,x1,x2⟩,x3,x4,x5⟩ := id hY
        go_simp
        clear x0 x1 x2 x3 x4 x5
        replace hS := hS.set3 (c := gy) (.bool n2) (.int .u64 y2) (.int .i64 d2) l_Fgy
        replace hX := hX.set3 (c := gy) (.bool n2) (.int .u64 y2) (.int .i64 d2) (by omega)
        replace hY := hY.store (ng' := n2) (m' := y2) (e' := d2)
        generalize ((W7.setCell ⟨gy,0,none⟩ (.bool n2)).setCell ⟨gy,1,none⟩ (.int .u64 y2)).setCell ⟨gy,2,none⟩ (.int .i64 d2) = W8 at *
        refine hK.out _ _ hS (fun _ => ?_)
        clear hK K
        try simp only [Act.put,sl2,sl0,sl1]
        refine wpAnyH_done (by kernel_rfl) ?_ _
        (go_wp2_with fail)
        go_meet
        exact ⟨gx,gy,j1,y1,d1,j2,y2,d2,rfl,rfl,hX,hY,l_Fgx,l_Fgy,by omega,hS,HN1,HN2⟩
       refine zc rfl (fun K hK => ?_) ?_
       ·go_simp
        have l_Fgy := hS.lt
        have l_hXgy := hX.lt
        have hY := Nb.new false 0 0 W4
        replace hS := hS.alloc (.cells #[.bool false,.int .u64 0,.int .i64 0] 153)
        replace hX := hX.alloc (.cells #[.bool false,.int .u64 0,.int .i64 0] 153)
        generalize World.alloc W4 (.cells #[.bool false,.int .u64 0,.int .i64 0] 153) = W5 at *
        generalize W4.heap.size = gy at *
        refine hK.out _ _ hS (fun _ => ?_)
        clear hK K
        try simp only [Act.put,sl2,sl0,sl1]
        refine zr 7 rfl (fun K hK => ?_)
        go_simp
        go_at_call 159
        (with_reducible refine (normal_any n2 m2 HM2.out e2 HE2.out.1 HE2.out.2 _).mono ?_)
        rintro e W6 ⟨j2,hj,hl,hlt,he,hb⟩
        obtain ⟨y2,hy⟩ : ∃ y2 : Nat,y2 = m2 * 2 ^ j2 := ⟨_,rfl⟩
        obtain ⟨d2,hd⟩ : ∃ d2 : Int,d2 = e2 - (j2 : Int) := ⟨_,rfl⟩
        rw [← hy,← hd] at he
        subst he
        have HN2 := hid (And.intro hj (And.intro hl (And.intro hlt (And.intro hy hd))))
        clear hj hl hlt hy hd
        replace hS := hS.call hb
        replace hX := hX.call hb
        replace hY := hY.call hb
        clear hb
        refine hK.out _ _ hS (fun _ => ?_)
        clear hK K
        try simp only [Act.put,sl2,sl0,sl1]
        refine zr 10 rfl (fun K hK => ?_)
        obtain ⟨⟨x0,x1,x2⟩,x3,x4,x5⟩ := id hX
        go_simp
        clear x0 x1 x2 x3 x4 x5
        replace hS := hS.set3 (c := gx) (.bool n1) (.int .u64 y1) (.int .i64 d1) l_Fgx
        replace hY := hY.set3 (c := gx) (.bool n1) (.int .u64 y1) (.int .i64 d1) (by omega)
        replace hX := hX.store (ng' := n1) (m' := y1) (e' := d1)
        generalize ((W6.setCell ⟨gx,0,none⟩ (.bool n1)).setCell ⟨gx,1,none⟩ (.int .u64 y1)).setCell ⟨gx,2,none⟩ (.int .i64 d1) = W7 at *
        refine hK.out _ _ hS (fun _ => ?_)
        clear hK K
        try simp only [Act.put,sl2,sl0,sl1]
        refine zr 11 rfl (fun K hK => ?_)
        obtain ⟨⟨x0,x1,x2⟩,x3,x4,x5⟩ := id hY
        go_simp
        clear x0 x1 x2 x3 x4 x5
        replace hS := hS.set3 (c := gy) (.bool n2) (.int .u64 y2) (.int .i64 d2) l_Fgy
        replace hX := hX.set3 (c := gy) (.bool n2) (.int .u64 y2) (.int .i64 d2) (by omega)
        replace hY := hY.store (ng' := n2) (m' := y2) (e' := d2)
        generalize ((W7.setCell ⟨gy,0,none⟩ (.bool n2)).setCell ⟨gy,1,none⟩ (.int .u64 y2)).setCell ⟨gy,2,none⟩ (.int .i64 d2) = W8 at *
        refine hK.out _ _ hS (fun _ => ?_)
        clear hK K
        try simp only [Act.put,sl2,sl0,sl1]
        refine wpAnyH_done (by kernel_rfl) ?_ _
        (go_wp2_with fail)
        go_meet
        exact ⟨gx,gy,j1,y1,d1,j2,y2,d2,rfl,rfl,hX,hY,l_Fgx,l_Fgy,by omega,hS,HN1,HN2⟩
       exact zn
      refine zc rfl (fun K hK => ?_) ?_
      ·go_simp
       have l_Fgy := hS.lt
       have l_hXgy := hX.lt
       have hY := Nb.new false 0 0 W3
       replace hS := hS.alloc (.cells #[.bool false,.int .u64 0,.int .i64 0] 153)
       replace hX := hX.alloc (.cells #[.bool false,.int .u64 0,.int .i64 0] 153)
       generalize World.alloc W3 (.cells #[.bool false,.int .u64 0,.int .i64 0] 153) = W4 at *
       generalize W3.heap.size = gy at *
       refine hK.out _ _ hS (fun _ => ?_)
       clear hK K
       try simp only [Act.put,sl2,sl0,sl1]
       refine zr 6 rfl (fun K hK => ?_)
       go_simp
       go_at_call 160
       (with_reducible refine (PB _).out.mono ?_)
       rintro e W5 ⟨rfl,hb⟩
       replace hS := hS.call hb
       replace hX := hX.call hb
       replace hY := hY.call hb
       clear hb
       refine hK.out _ _ hS (fun _ => ?_)
       clear hK K
       try simp only [Act.put,sl2,sl0,sl1]
       refine zr 7 rfl (fun K hK => ?_)
       go_simp
       go_at_call 159
       (with_reducible refine (normal_any n2 m2 HM2.out e2 HE2.out.1 HE2.out.2 _).mono ?_)
       rintro e W6 ⟨j2,hj,hl,hlt,he,hb⟩
       obtain ⟨y2,hy⟩ : ∃ y2 : Nat,y2 = m2 * 2 ^ j2 := ⟨_,rfl⟩
       obtain ⟨d2,hd⟩ : ∃ d2 : Int,d2 = e2 - (j2 : Int) := ⟨_,rfl⟩
       rw [← hy,← hd] at he
       subst he
       have HN2 := hid (And.intro hj (And.intro hl (And.intro hlt (And.intro hy hd))))
       clear hj hl hlt hy hd
       replace hS := hS.call hb
       replace hX := hX.call hb
       replace hY := hY.call hb
       clear hb
       refine hK.out _ _ hS (fun _ => ?_)
       clear hK K
       try simp only [Act.put,sl2,sl0,sl1]
       refine zr 10 rfl (fun K hK => ?_)
       obtain ⟨⟨x0,x1,x2⟩,x3,x4,x5⟩ := id hX
       go_simp
       clear x0 x1 x2 x3 x4 x5
       replace hS := hS.set3 (c := gx) (.bool n1) (.int .u64 y1) (.int .i64 d1) l_Fgx
       replace hY := hY.set3 (c := gx) (.bool n1) (.int .u64 y1) (.int .i64 d1) (by omega)
       replace hX := hX.store (ng' := n1) (m' := y1) (e' := d1)
       generalize ((W6.setCell ⟨gx,0,none⟩ (.bool n1)).setCell ⟨gx,1,none⟩ (.int .u64 y1)).setCell ⟨gx,2,none⟩ (.int .i64 d1) = W7 at *
       refine hK.out _ _ hS (fun _ => ?_)
       clear hK K
       try simp only [Act.put,sl2,sl0,sl1]
       refine zr 11 rfl (fun K hK => ?_)
       obtain ⟨⟨x0,x1,x2⟩,x3,x4,x5⟩ := id hY
       go_simp
       clear x0 x1 x2 x3 x4 x5
       replace hS := hS.set3 (c := gy) (.bool n2) (.int .u64 y2) (.int .i64 d2) l_Fgy
       replace hX := hX.set3 (c := gy) (.bool n2) (.int .u64 y2) (.int .i64 d2) (by omega)
       replace hY := hY.store (ng' := n2) (m' := y2) (e' := d2)
       generalize ((W7.setCell ⟨gy,0,none⟩ (.bool n2)).setCell ⟨gy,1,none⟩ (.int .u64 y2)).setCell ⟨gy,2,none⟩ (.int .i64 d2) = W8 at *
       refine hK.out _ _ hS (fun _ => ?_)
       clear hK K
       try simp only [Act.put,sl2,sl0,sl1]
       refine wpAnyH_done (by kernel_rfl) ?_ _
       (go_wp2_with fail)
       go_meet
       exact ⟨gx,gy,j1,y1,d1,j2,y2,d2,rfl,rfl,hX,hY,l_Fgx,l_Fgy,by omega,hS,HN1,HN2⟩
      exact zn
     refine zc rfl (fun K hK => ?_) ?_
     ·go_simp
      have l_Fgy := hS.lt
      have l_hXgy := hX.lt
      have hY := Nb.new false 0 0 W2
      replace hS := hS.alloc (.cells #[.bool false,.int .u64 0,.int .i64 0] 153)
      replace hX := hX.alloc (.cells #[.bool false,.int .u64 0,.int .i64 0] 153)
      generalize World.alloc W2 (.cells #[.bool false,.int .u64 0,.int .i64 0] 153) = W3 at *
      generalize W2.heap.size = gy at *
      refine hK.out _ _ hS (fun _ => ?_)
      clear hK K
      try simp only [Act.put,sl2,sl0,sl1]
      refine zr 3 rfl (fun K hK => ?_)
      go_simp
      go_at_call 159
      (with_reducible refine (normal_any n1 m1 HM1.out e1 HE1.out.1 HE1.out.2 _).mono ?_)
      rintro e W4 ⟨j1,hj,hl,hlt,he,hb⟩
      obtain ⟨y1,hy⟩ : ∃ y1 : Nat,y1 = m1 * 2 ^ j1 := ⟨_,rfl⟩
      obtain ⟨d1,hd⟩ : ∃ d1 : Int,d1 = e1 - (j1 : Int) := ⟨_,rfl⟩
      rw [← hy,← hd] at he
      subst he
      have HN1 := hid (And.intro hj (And.intro hl (And.intro hlt (And.intro hy hd))))
      clear hj hl hlt hy hd
      replace hS := hS.call hb
      replace hX := hX.call hb
      replace hY := hY.call hb
      clear hb
      refine hK.out _ _ hS (fun _ => ?_)
      clear hK K
      try simp only [Act.put,sl2,sl0,sl1]
      refine zr 6 rfl (fun K hK => ?_)
      go_simp
      go_at_call 160
      (with_reducible refine (PB _).out.mono ?_)
      rintro e W5 ⟨rfl,hb⟩
      replace hS := hS.call hb
      replace hX := hX.call hb
      replace hY := hY.call hb
      clear hb
      refine hK.out _ _ hS (fun _ => ?_)
      clear hK K
      try simp only [Act.put,sl2,sl0,sl1]
      refine zr 7 rfl (fun K hK => ?_)
      go_simp
      go_at_call 159
      (with_reducible refine (normal_any n2 m2 HM2.out e2 HE2.out.1 HE2.out.2 _).mono ?_)
      rintro e W6 ⟨j2,hj,hl,hlt,he,hb⟩
      obtain ⟨y2,hy⟩ : ∃ y2 : Nat,y2 = m2 * 2 ^ j2 := ⟨_,rfl⟩
      obtain ⟨d2,hd⟩ : ∃ d2 : Int,d2 = e2 - (j2 : Int) := ⟨_,rfl⟩
      rw [← hy,← hd] at he
      subst he
      have HN2 := hid (And.intro hj (And.intro hl (And.intro hlt (And.intro hy hd))))
      clear hj hl hlt hy hd
      replace hS := hS.call hb
      replace hX := hX.call hb
      replace hY := hY.call hb
      clear hb
      refine hK.out _ _ hS (fun _ => ?_)
      clear hK K
      try simp only [Act.put,sl2,sl0,sl1]
      refine zr 10 rfl (fun K hK => ?_)
      obtain ⟨⟨x0,x1,x2⟩,x3,x4,x5⟩ := id hX
      go_simp
      clear x0 x1 x2 x3 x4 x5
      replace hS := hS.set3 (c := gx) (.bool n1) (.int .u64 y1) (.int .i64 d1) l_Fgx
      replace hY := hY.set3 (c := gx) (.bool n1) (.int .u64 y1) (.int .i64 d1) (by omega)
      replace hX := hX.store (ng' := n1) (m' := y1) (e' := d1)
      generalize ((W6.setCell ⟨gx,0,none⟩ (.bool n1)).setCell ⟨gx,1,none⟩ (.int .u64 y1)).setCell ⟨gx,2,none⟩ (.int .i64 d1) = W7 at *
      refine hK.out _ _ hS (fun _ => ?_)
      clear hK K
      try simp only [Act.put,sl2,sl0,sl1]
      refine zr 11 rfl (fun K hK => ?_)
      obtain ⟨⟨x0,x1,x2⟩,x3,x4,x5⟩ := id hY
      go_simp
      clear x0 x1 x2 x3 x4 x5
      replace hS := hS.set3 (c := gy) (.bool n2) (.int .u64 y2) (.int .i64 d2) l_Fgy
      replace hX := hX.set3 (c := gy) (.bool n2) (.int .u64 y2) (.int .i64 d2) (by omega)
      replace hY := hY.store (ng' := n2) (m' := y2) (e' := d2)
      generalize ((W7.setCell ⟨gy,0,none⟩ (.bool n2)).setCell ⟨gy,1,none⟩ (.int .u64 y2)).setCell ⟨gy,2,none⟩ (.int .i64 d2) = W8 at *
      refine hK.out _ _ hS (fun _ => ?_)
      clear hK K
      try simp only [Act.put,sl2,sl0,sl1]
      refine wpAnyH_done (by kernel_rfl) ?_ _
      (go_wp2_with fail)
      go_meet
      exact ⟨gx,gy,j1,y1,d1,j2,y2,d2,rfl,rfl,hX,hY,l_Fgx,l_Fgy,by omega,hS,HN1,HN2⟩
     exact zn
    refine zc rfl (fun K hK => ?_) ?_
    ·go_simp
     have l_Fgy := hS.lt
     have l_hXgy := hX.lt
     have hY := Nb.new false 0 0 W1
     replace hS := hS.alloc (.cells #[.bool false,.int .u64 0,.int .i64 0] 153)
     replace hX := hX.alloc (.cells #[.bool false,.int .u64 0,.int .i64 0] 153)
     generalize World.alloc W1 (.cells #[.bool false,.int .u64 0,.int .i64 0] 153) = W2 at *
     generalize W1.heap.size = gy at *
     refine hK.out _ _ hS (fun _ => ?_)
     clear hK K
     try simp only [Act.put,sl2,sl0,sl1]
     refine zr 2 rfl (fun K hK => ?_)
     go_simp
     go_at_call 160
     (with_reducible refine (PA _).out.mono ?_)
     rintro e W3 ⟨rfl,hb⟩
     replace hS := hS.call hb
     replace hX := hX.call hb
     replace hY := hY.call hb
     clear hb
     refine hK.out _ _ hS (fun _ => ?_)
     clear hK K
     try simp only [Act.put,sl2,sl0,sl1]
     refine zr 3 rfl (fun K hK => ?_)
     go_simp
     go_at_call 159
     (with_reducible refine (normal_any n1 m1 HM1.out e1 HE1.out.1 HE1.out.2 _).mono ?_)
     rintro e W4 ⟨j1,hj,hl,hlt,he,hb⟩
     obtain ⟨y1,hy⟩ : ∃ y1 : Nat,y1 = m1 * 2 ^ j1 := ⟨_,rfl⟩
     obtain ⟨d1,hd⟩ : ∃ d1 : Int,d1 = e1 - (j1 : Int) := ⟨_,rfl⟩
     rw [← hy,← hd] at he
     subst he
     have HN1 := hid (And.intro hj (And.intro hl (And.intro hlt (And.intro hy hd))))
     clear hj hl hlt hy hd
     replace hS := hS.call hb
     replace hX := hX.call hb
     replace hY := hY.call hb
     clear hb
     refine hK.out _ _ hS (fun _ => ?_)
     clear hK K
     try simp only [Act.put,sl2,sl0,sl1]
     refine zr 6 rfl (fun K hK => ?_)
     go_simp
     go_at_call 160
     (with_reducible refine (PB _).out.mono ?_)
     rintro e W5 ⟨rfl,hb⟩
     replace hS := hS.call hb
     replace hX := hX.call hb
     replace hY := hY.call hb
     clear hb
     refine hK.out _ _ hS (fun _ => ?_)
     clear hK K
     try simp only [Act.put,sl2,sl0,sl1]
     refine zr 7 rfl (fun K hK => ?_)
     go_simp
     go_at_call 159
     (with_reducible refine (normal_any n2 m2 HM2.out e2 HE2.out.1 HE2.out.2 _).mono ?_)
     rintro e W6 ⟨j2,hj,hl,hlt,he,hb⟩
     obtain ⟨y2,hy⟩ : ∃ y2 : Nat,y2 = m2 * 2 ^ j2 := ⟨_,rfl⟩
     obtain ⟨d2,hd⟩ : ∃ d2 : Int,d2 = e2 - (j2 : Int) := ⟨_,rfl⟩
     rw [← hy,← hd] at he
     subst he
     have HN2 := hid (And.intro hj (And.intro hl (And.intro hlt (And.intro hy hd))))
     clear hj hl hlt hy hd
     replace hS := hS.call hb
     replace hX := hX.call hb
     replace hY := hY.call hb
     clear hb
     refine hK.out _ _ hS (fun _ => ?_)
     clear hK K
     try simp only [Act.put,sl2,sl0,sl1]
     refine zr 10 rfl (fun K hK => ?_)
     obtain ⟨⟨x0,x1,x2⟩,x3,x4,x5⟩ := id hX
     go_simp
     clear x0 x1 x2 x3 x4 x5
     replace hS := hS.set3 (c := gx) (.bool n1) (.int .u64 y1) (.int .i64 d1) l_Fgx
     replace hY := hY.set3 (c := gx) (.bool n1) (.int .u64 y1) (.int .i64 d1) (by omega)
     replace hX := hX.store (ng' := n1) (m' := y1) (e' := d1)
     generalize ((W6.setCell ⟨gx,0,none⟩ (.bool n1)).setCell ⟨gx,1,none⟩ (.int .u64 y1)).setCell ⟨gx,2,none⟩ (.int .i64 d1) = W7 at *
     refine hK.out _ _ hS (fun _ => ?_)
     clear hK K
     try simp only [Act.put,sl2,sl0,sl1]
     refine zr 11 rfl (fun K hK => ?_)
     obtain ⟨⟨x0,x1,x2⟩,x3,x4,x5⟩ := id hY
     go_simp
     clear x0 x1 x2 x3 x4 x5
     replace hS := hS.set3 (c := gy) (.bool n2) (.int .u64 y2) (.int .i64 d2) l_Fgy
     replace hX := hX.set3 (c := gy) (.bool n2) (.int .u64 y2) (.int .i64 d2) (by omega)
     replace hY := hY.store (ng' := n2) (m' := y2) (e' := d2)
     generalize ((W7.setCell ⟨gy,0,none⟩ (.bool n2)).setCell ⟨gy,1,none⟩ (.int .u64 y2)).setCell ⟨gy,2,none⟩ (.int .i64 d2) = W8 at *
     refine hK.out _ _ hS (fun _ => ?_)
     clear hK K
     try simp only [Act.put,sl2,sl0,sl1]
     refine wpAnyH_done (by kernel_rfl) ?_ _
     (go_wp2_with fail)
     go_meet
     exact ⟨gx,gy,j1,y1,d1,j2,y2,d2,rfl,rfl,hX,hY,l_Fgx,l_Fgy,by omega,hS,HN1,HN2⟩
    exact zn
   refine zc rfl (fun K hK => ?_) ?_
   ·go_simp
    have l_Fgy := hS.lt
    have hY := Nb.new false 0 0 W
    replace hS := hS.alloc (.cells #[.bool false,.int .u64 0,.int .i64 0] 153)
    generalize World.alloc W (.cells #[.bool false,.int .u64 0,.int .i64 0] 153) = W1 at *
    generalize W.heap.size = gy at *
    refine hK.out _ _ hS (fun _ => ?_)
    clear hK K
    try simp only [Act.put,sl2,sl0,sl1]
    refine zm [2,8] ?_
    refine zc rfl (fun K hK => ?_) ?_
    ·go_simp
     go_at_call 160
     (with_reducible refine (PA _).out.mono ?_)
     rintro e W2 ⟨rfl,hb⟩
     replace hS := hS.call hb
     replace hY := hY.call hb
     clear hb
     refine hK.out _ _ hS (fun _ => ?_)
     clear hK K
     try simp only [Act.put,sl2,sl0,sl1]
     refine zm [3,8] ?_
     refine zc rfl (fun K hK => ?_) ?_
     ·go_simp
      go_at_call 159
      (with_reducible refine (normal_any n1 m1 HM1.out e1 HE1.out.1 HE1.out.2 _).mono ?_)
      rintro e W3 ⟨j1,hj,hl,hlt,he,hb⟩
      obtain ⟨y1,hy⟩ : ∃ y1 : Nat,y1 = m1 * 2 ^ j1 := ⟨_,rfl⟩
      obtain ⟨d1,hd⟩ : ∃ d1 : Int,d1 = e1 - (j1 : Int) := ⟨_,rfl⟩
      rw [← hy,← hd] at he
      subst he
      have HN1 := hid (And.intro hj (And.intro hl (And.intro hlt (And.intro hy hd))))
      clear hj hl hlt hy hd
      replace hS := hS.call hb
      replace hY := hY.call hb
      clear hb
      refine hK.out _ _ hS (fun _ => ?_)
      clear hK K
      try simp only [Act.put,sl2,sl0,sl1]
      refine zm [6,8] ?_
      refine zc rfl (fun K hK => ?_) ?_
      ·go_simp
       go_at_call 160
       (with_reducible refine (PB _).out.mono ?_)
       rintro e W4 ⟨rfl,hb⟩
       replace hS := hS.call hb
       replace hY := hY.call hb
       clear hb
       refine hK.out _ _ hS (fun _ => ?_)
       clear hK K
       try simp only [Act.put,sl2,sl0,sl1]
       refine zm [7,8] ?_
       refine zc rfl (fun K hK => ?_) ?_
       ·go_simp
        go_at_call 159
        (with_reducible refine (normal_any n2 m2 HM2.out e2 HE2.out.1 HE2.out.2 _).mono ?_)
        rintro e W5 ⟨j2,hj,hl,hlt,he,hb⟩
        obtain ⟨y2,hy⟩ : ∃ y2 : Nat,y2 = m2 * 2 ^ j2 := ⟨_,rfl⟩
        obtain ⟨d2,hd⟩ : ∃ d2 : Int,d2 = e2 - (j2 : Int) := ⟨_,rfl⟩
        rw [← hy,← hd] at he
        subst he
        have HN2 := hid (And.intro hj (And.intro hl (And.intro hlt (And.intro hy hd))))
        clear hj hl hlt hy hd
        replace hS := hS.call hb
        replace hY := hY.call hb
        clear hb
        refine hK.out _ _ hS (fun _ => ?_)
        clear hK K
        try simp only [Act.put,sl2,sl0,sl1]
        refine zr 8 rfl (fun K hK => ?_)
        go_simp
        have l_Fgx := hS.lt
        have l_hYgx := hY.lt
        have hX := Nb.new false 0 0 W5
        replace hS := hS.alloc (.cells #[.bool false,.int .u64 0,.int .i64 0] 153)
        replace hY := hY.alloc (.cells #[.bool false,.int .u64 0,.int .i64 0] 153)
        generalize World.alloc W5 (.cells #[.bool false,.int .u64 0,.int .i64 0] 153) = W6 at *
        generalize W5.heap.size = gx at *
        refine hK.out _ _ hS (fun _ => ?_)
        clear hK K
        try simp only [Act.put,sl2,sl0,sl1]
        refine zr 10 rfl (fun K hK => ?_)
        obtain ⟨⟨x0,x1,x2⟩,x3,x4,x5⟩ := id hX
        go_simp
        clear x0 x1 x2 x3 x4 x5
        replace hS := hS.set3 (c := gx) (.bool n1) (.int .u64 y1) (.int .i64 d1) l_Fgx
        replace hY := hY.set3 (c := gx) (.bool n1) (.int .u64 y1) (.int .i64 d1) (by omega)
        replace hX := hX.store (ng' := n1) (m' := y1) (e' := d1)
        generalize ((W6.setCell ⟨gx,0,none⟩ (.bool n1)).setCell ⟨gx,1,none⟩ (.int .u64 y1)).setCell ⟨gx,2,none⟩ (.int .i64 d1) = W7 at *
        refine hK.out _ _ hS (fun _ => ?_)
        clear hK K
        try simp only [Act.put,sl2,sl0,sl1]
        refine zr 11 rfl (fun K hK => ?_)
        obtain ⟨⟨x0,x1,x2⟩,x3,x4,x5⟩ := id hY
        go_simp
        clear x0 x1 x2 x3 x4 x5
        replace hS := hS.set3 (c := gy) (.bool n2) (.int .u64 y2) (.int .i64 d2) l_Fgy
        replace hX := hX.set3 (c := gy) (.bool n2) (.int .u64 y2) (.int .i64 d2) (by omega)
        replace hY := hY.store (ng' := n2) (m' := y2) (e' := d2)
        generalize ((W7.setCell ⟨gy,0,none⟩ (.bool n2)).setCell ⟨gy,1,none⟩ (.int .u64 y2)).setCell ⟨gy,2,none⟩ (.int .i64 d2) = W8 at *
        refine hK.out _ _ hS (fun _ => ?_)
        clear hK K
        try simp only [Act.put,sl2,sl0,sl1]
        refine wpAnyH_done (by kernel_rfl) ?_ _
        (go_wp2_with fail)
        go_meet
        exact ⟨gx,gy,j1,y1,d1,j2,y2,d2,rfl,rfl,hX,hY,l_Fgx,l_Fgy,by omega,hS,HN1,HN2⟩
       refine zc rfl (fun K hK => ?_) ?_
       ·go_simp
        have l_Fgx := hS.lt
        have l_hYgx := hY.lt
        have hX := Nb.new false 0 0 W4
        replace hS := hS.alloc (.cells #[.bool false,.int .u64 0,.int .i64 0] 153)
        replace hY := hY.alloc (.cells #[.bool false,.int .u64 0,.int .i64 0] 153)
        generalize World.alloc W4 (.cells #[.bool false,.int .u64 0,.int .i64 0] 153) = W5 at *
        generalize W4.heap.size = gx at *
        refine hK.out _ _ hS (fun _ => ?_)
        clear hK K
        try simp only [Act.put,sl2,sl0,sl1]
        refine zr 7 rfl (fun K hK => ?_)
        go_simp
        go_at_call 159
        (with_reducible refine (normal_any n2 m2 HM2.out e2 HE2.out.1 HE2.out.2 _).mono ?_)
        rintro e W6 ⟨j2,hj,hl,hlt,he,hb⟩
        obtain ⟨y2,hy⟩ : ∃ y2 : Nat,y2 = m2 * 2 ^ j2 := ⟨_,rfl⟩
        obtain ⟨d2,hd⟩ : ∃ d2 : Int,d2 = e2 - (j2 : Int) := ⟨_,rfl⟩
        rw [← hy,← hd] at he
        subst he
        have HN2 := hid (And.intro hj (And.intro hl (And.intro hlt (And.intro hy hd))))
        clear hj hl hlt hy hd
        replace hS := hS.call hb
        replace hY := hY.call hb
        replace hX := hX.call hb
        clear hb
        refine hK.out _ _ hS (fun _ => ?_)
        clear hK K
        try simp only [Act.put,sl2,sl0,sl1]
        refine zr 10 rfl (fun K hK => ?_)
        obtain ⟨⟨x0,x1,x2⟩,x3,x4,x5⟩ := id hX
        go_simp
        clear x0 x1 x2 x3 x4 x5
        replace hS := hS.set3 (c := gx) (.bool n1) (.int .u64 y1) (.int .i64 d1) l_Fgx
        replace hY := hY.set3 (c := gx) (.bool n1) (.int .u64 y1) (.int .i64 d1) (by omega)
        replace hX := hX.store (ng' := n1) (m' := y1) (e' := d1)
        generalize ((W6.setCell ⟨gx,0,none⟩ (.bool n1)).setCell ⟨gx,1,none⟩ (.int .u64 y1)).setCell ⟨gx,2,none⟩ (.int .i64 d1) = W7 at *
        refine hK.out _ _ hS (fun _ => ?_)
        clear hK K
        try simp only [Act.put,sl2,sl0,sl1]
        refine zr 11 rfl (fun K hK => ?_)
        obtain ⟨⟨x0,x1,x2⟩,x3,x4,x5⟩ := id hY
        go_simp
        clear x0 x1 x2 x3 x4 x5
        replace hS := hS.set3 (c := gy) (.bool n2) (.int .u64 y2) (.int .i64 d2) l_Fgy
        replace hX := hX.set3 (c := gy) (.bool n2) (.int .u64 y2) (.int .i64 d2) (by omega)
        replace hY := hY.store (ng' := n2) (m' := y2) (e' := d2)
        generalize ((W7.setCell ⟨gy,0,none⟩ (.bool n2)).setCell ⟨gy,1,none⟩ (.int .u64 y2)).setCell ⟨gy,2,none⟩ (.int .i64 d2) = W8 at *
        refine hK.out _ _ hS (fun _ => ?_)
        clear hK K
        try simp only [Act.put,sl2,sl0,sl1]
        refine wpAnyH_done (by kernel_rfl) ?_ _
        (go_wp2_with fail)
        go_meet
        exact ⟨gx,gy,j1,y1,d1,j2,y2,d2,rfl,rfl,hX,hY,l_Fgx,l_Fgy,by omega,hS,HN1,HN2⟩
       exact zn
      refine zc rfl (fun K hK => ?_) ?_
      ·go_simp
       have l_Fgx := hS.lt
       have l_hYgx := hY.lt
       have hX := Nb.new false 0 0 W3
       replace hS := hS.alloc (.cells #[.bool false,.int .u64 0,.int .i64 0] 153)
       replace hY := hY.alloc (.cells #[.bool false,.int .u64 0,.int .i64 0] 153)
       generalize World.alloc W3 (.cells #[.bool false,.int .u64 0,.int .i64 0] 153) = W4 at *
       generalize W3.heap.size = gx at *
       refine hK.out _ _ hS (fun _ => ?_)
       clear hK K
       try simp only [Act.put,sl2,sl0,sl1]
       refine zr 6 rfl (fun K hK => ?_)
       go_simp
       go_at_call 160
       (with_reducible refine (PB _).out.mono ?_)
       rintro e W5 ⟨rfl,hb⟩
       replace hS := hS.call hb
       replace hY := hY.call hb
       replace hX := hX.call hb
       clear hb
       refine hK.out _ _ hS (fun _ => ?_)
       clear hK K
       try simp only [Act.put,sl2,sl0,sl1]
       refine zr 7 rfl (fun K hK => ?_)
       go_simp
       go_at_call 159
       (with_reducible refine (normal_any n2 m2 HM2.out e2 HE2.out.1 HE2.out.2 _).mono ?_)
       rintro e W6 ⟨j2,hj,hl,hlt,he,hb⟩
       obtain ⟨y2,hy⟩ : ∃ y2 : Nat,y2 = m2 * 2 ^ j2 := ⟨_,rfl⟩
       obtain ⟨d2,hd⟩ : ∃ d2 : Int,d2 = e2 - (j2 : Int) := ⟨_,rfl⟩
       rw [← hy,← hd] at he
       subst he
       have HN2 := hid (And.intro hj (And.intro hl (And.intro hlt (And.intro hy hd))))
       clear hj hl hlt hy hd
       replace hS := hS.call hb
       replace hY := hY.call hb
       replace hX := hX.call hb
       clear hb
       refine hK.out _ _ hS (fun _ => ?_)
       clear hK K
       try simp only [Act.put,sl2,sl0,sl1]
       refine zr 10 rfl (fun K hK => ?_)
       obtain ⟨⟨x0,x1,x2⟩,x3,x4,x5⟩ := id hX
       go_simp
       clear x0 x1 x2 x3 x4 x5
       replace hS := hS.set3 (c := gx) (.bool n1) (.int .u64 y1) (.int .i64 d1) l_Fgx
       replace hY := hY.set3 (c := gx) (.bool n1) (.int .u64 y1) (.int .i64 d1) (by omega)
       replace hX := hX.store (ng' := n1) (m' := y1) (e' := d1)
       generalize ((W6.setCell ⟨gx,0,none⟩ (.bool n1)).setCell ⟨gx,1,none⟩ (.int .u64 y1)).setCell ⟨gx,2,none⟩ (.int .i64 d1) = W7 at *
       refine hK.out _ _ hS (fun _ => ?_)
       clear hK K
       try simp only [Act.put,sl2,sl0,sl1]
       refine zr 11 rfl (fun K hK => ?_)
       obtain ⟨⟨x0,x1,x2⟩,x3,x4,x5⟩ := id hY
       go_simp
       clear x0 x1 x2 x3 x4 x5
       replace hS := hS.set3 (c := gy) (.bool n2) (.int .u64 y2) (.int .i64 d2) l_Fgy
       replace hX := hX.set3 (c := gy) (.bool n2) (.int .u64 y2) (.int .i64 d2) (by omega)
       replace hY := hY.store (ng' := n2) (m' := y2) (e' := d2)
       generalize ((W7.setCell ⟨gy,0,none⟩ (.bool n2)).setCell ⟨gy,1,none⟩ (.int .u64 y2)).setCell ⟨gy,2,none⟩ (.int .i64 d2) = W8 at *
       refine hK.out _ _ hS (fun _ => ?_)
       clear hK K
       try simp only [Act.put,sl2,sl0,sl1]
       refine wpAnyH_done (by kernel_rfl) ?_ _
       (go_wp2_with fail)
       go_meet
       exact ⟨gx,gy,j1,y1,d1,j2,y2,d2,rfl,rfl,hX,hY,l_Fgx,l_Fgy,by omega,hS,HN1,HN2⟩
      exact zn
     refine zc rfl (fun K hK => ?_) ?_
     ·go_simp
      have l_Fgx := hS.lt
      have l_hYgx := hY.lt
      have hX := Nb.new false 0 0 W2
      replace hS := hS.alloc (.cells #[.bool false,.int .u64 0,.int .i64 0] 153)
      replace hY := hY.alloc (.cells #[.bool false,.int .u64 0,.int .i64 0] 153)
      generalize World.alloc W2 (.cells #[.bool false,.int .u64 0,.int .i64 0] 153) = W3 at *
      generalize W2.heap.size = gx at *
      refine hK.out _ _ hS (fun _ => ?_)
      clear hK K
      try simp only [Act.put,sl2,sl0,sl1]
      refine zr 3 rfl (fun K hK => ?_)
      go_simp
      go_at_call 159
      (with_reducible refine (normal_any n1 m1 HM1.out e1 HE1.out.1 HE1.out.2 _).mono ?_)
      rintro e W4 ⟨j1,hj,hl,hlt,he,hb⟩
      obtain ⟨y1,hy⟩ : ∃ y1 : Nat,y1 = m1 * 2 ^ j1 := ⟨_,rfl⟩
      obtain ⟨d1,hd⟩ : ∃ d1 : Int,d1 = e1 - (j1 : Int) := ⟨_,rfl⟩
      rw [← hy,← hd] at he
      subst he
      have HN1 := hid (And.intro hj (And.intro hl (And.intro hlt (And.intro hy hd))))
      clear hj hl hlt hy hd
      replace hS := hS.call hb
      replace hY := hY.call hb
      replace hX := hX.call hb
      clear hb
      refine hK.out _ _ hS (fun _ => ?_)
      clear hK K
      try simp only [Act.put,sl2,sl0,sl1]
      refine zr 6 rfl (fun K hK => ?_)
      go_simp
      go_at_call 160
      (with_reducible refine (PB _).out.mono ?_)
      rintro e W5 ⟨rfl,hb⟩
      replace hS := hS.call hb
      replace hY := hY.call hb
      replace hX := hX.call hb
      clear hb
      refine hK.out _ _ hS (fun _ => ?_)
      clear hK K
      try simp only [Act.put,sl2,sl0,sl1]
      refine zr 7 rfl (fun K hK => ?_)
      go_simp
      go_at_call 159
      (with_reducible refine (normal_any n2 m2 HM2.out e2 HE2.out.1 HE2.out.2 _).mono ?_)
      rintro e W6 ⟨j2,hj,hl,hlt,he,hb⟩
      obtain ⟨y2,hy⟩ : ∃ y2 : Nat,y2 = m2 * 2 ^ j2 := ⟨_,rfl⟩
      obtain ⟨d2,hd⟩ : ∃ d2 : Int,d2 = e2 - (j2 : Int) := ⟨_,rfl⟩
      rw [← hy,← hd] at he
      subst he
      have HN2 := hid (And.intro hj (And.intro hl (And.intro hlt (And.intro hy hd))))
      clear hj hl hlt hy hd
      replace hS := hS.call hb
      replace hY := hY.call hb
      replace hX := hX.call hb
      clear hb
      refine hK.out _ _ hS (fun _ => ?_)
      clear hK K
      try simp only [Act.put,sl2,sl0,sl1]
      refine zr 10 rfl (fun K hK => ?_)
      obtain ⟨⟨x0,x1,x2⟩,x3,x4,x5⟩ := id hX
      go_simp
      clear x0 x1 x2 x3 x4 x5
      replace hS := hS.set3 (c := gx) (.bool n1) (.int .u64 y1) (.int .i64 d1) l_Fgx
      replace hY := hY.set3 (c := gx) (.bool n1) (.int .u64 y1) (.int .i64 d1) (by omega)
      replace hX := hX.store (ng' := n1) (m' := y1) (e' := d1)
      generalize ((W6.setCell ⟨gx,0,none⟩ (.bool n1)).setCell ⟨gx,1,none⟩ (.int .u64 y1)).setCell ⟨gx,2,none⟩ (.int .i64 d1) = W7 at *
      refine hK.out _ _ hS (fun _ => ?_)
      clear hK K
      try simp only [Act.put,sl2,sl0,sl1]
      refine zr 11 rfl (fun K hK => ?_)
      obtain ⟨⟨x0,x1,x2⟩,x3,x4,x5⟩ := id hY
      go_simp
      clear x0 x1 x2 x3 x4 x5
      replace hS := hS.set3 (c := gy) (.bool n2) (.int .u64 y2) (.int .i64 d2) l_Fgy
      replace hX := hX.set3 (c := gy) (.bool n2) (.int .u64 y2) (.int .i64 d2) (by omega)
      replace hY := hY.store (ng' := n2) (m' := y2) (e' := d2)
      generalize ((W7.setCell ⟨gy,0,none⟩ (.bool n2)).setCell ⟨gy,1,none⟩ (.int .u64 y2)).setCell ⟨gy,2,none⟩ (.int .i64 d2) = W8 at *
      refine hK.out _ _ hS (fun _ => ?_)
      clear hK K
      try simp only [Act.put,sl2,sl0,sl1]
      refine wpAnyH_done (by kernel_rfl) ?_ _
      (go_wp2_with fail)
      go_meet
      exact ⟨gx,gy,j1,y1,d1,j2,y2,d2,rfl,rfl,hX,hY,l_Fgx,l_Fgy,by omega,hS,HN1,HN2⟩
     exact zn
    refine zc rfl (fun K hK => ?_) ?_
    ·go_simp
     have l_Fgx := hS.lt
     have l_hYgx := hY.lt
     have hX := Nb.new false 0 0 W1
     replace hS := hS.alloc (.cells #[.bool false,.int .u64 0,.int .i64 0] 153)
     replace hY := hY.alloc (.cells #[.bool false,.int .u64 0,.int .i64 0] 153)
     generalize World.alloc W1 (.cells #[.bool false,.int .u64 0,.int .i64 0] 153) = W2 at *
     generalize W1.heap.size = gx at *
     refine hK.out _ _ hS (fun _ => ?_)
     clear hK K
     try simp only [Act.put,sl2,sl0,sl1]
     refine zr 2 rfl (fun K hK => ?_)
     go_simp
     go_at_call 160
     (with_reducible refine (PA _).out.mono ?_)
     rintro e W3 ⟨rfl,hb⟩
     replace hS := hS.call hb
     replace hY := hY.call hb
     replace hX := hX.call hb
     clear hb
     refine hK.out _ _ hS (fun _ => ?_)
     clear hK K
     try simp only [Act.put,sl2,sl0,sl1]
     refine zr 3 rfl (fun K hK => ?_)
     go_simp
     go_at_call 159
     (with_reducible refine (normal_any n1 m1 HM1.out e1 HE1.out.1 HE1.out.2 _).mono ?_)
     rintro e W4 ⟨j1,hj,hl,hlt,he,hb⟩
     obtain ⟨y1,hy⟩ : ∃ y1 : Nat,y1 = m1 * 2 ^ j1 := ⟨_,rfl⟩
     obtain ⟨d1,hd⟩ : ∃ d1 : Int,d1 = e1 - (j1 : Int) := ⟨_,rfl⟩
     rw [← hy,← hd] at he
     subst he
     have HN1 := hid (And.intro hj (And.intro hl (And.intro hlt (And.intro hy hd))))
     clear hj hl hlt hy hd
     replace hS := hS.call hb
     replace hY := hY.call hb
     replace hX := hX.call hb
     clear hb
     refine hK.out _ _ hS (fun _ => ?_)
     clear hK K
     try simp only [Act.put,sl2,sl0,sl1]
     refine zr 6 rfl (fun K hK => ?_)
     go_simp
     go_at_call 160
     (with_reducible refine (PB _).out.mono ?_)
     rintro e W5 ⟨rfl,hb⟩
     replace hS := hS.call hb
     replace hY := hY.call hb
     replace hX := hX.call hb
     clear hb
     refine hK.out _ _ hS (fun _ => ?_)
     clear hK K
     try simp only [Act.put,sl2,sl0,sl1]
     refine zr 7 rfl (fun K hK => ?_)
     go_simp
     go_at_call 159
     (with_reducible refine (normal_any n2 m2 HM2.out e2 HE2.out.1 HE2.out.2 _).mono ?_)
     rintro e W6 ⟨j2,hj,hl,hlt,he,hb⟩
     obtain ⟨y2,hy⟩ : ∃ y2 : Nat,y2 = m2 * 2 ^ j2 := ⟨_,rfl⟩
     obtain ⟨d2,hd⟩ : ∃ d2 : Int,d2 = e2 - (j2 : Int) := ⟨_,rfl⟩
     rw [← hy,← hd] at he
     subst he
     have HN2 := hid (And.intro hj (And.intro hl (And.intro hlt (And.intro hy hd))))
     clear hj hl hlt hy hd
     replace hS := hS.call hb
     replace hY := hY.call hb
     replace hX := hX.call hb
     clear hb
     refine hK.out _ _ hS (fun _ => ?_)
     clear hK K
     try simp only [Act.put,sl2,sl0,sl1]
     refine zr 10 rfl (fun K hK => ?_)
     obtain ⟨⟨x0,x1,x2⟩,x3,x4,x5⟩ := id hX
     go_simp
     clear x0 x1 x2 x3 x4 x5
     replace hS := hS.set3 (c := gx) (.bool n1) (.int .u64 y1) (.int .i64 d1) l_Fgx
     replace hY := hY.set3 (c := gx) (.bool n1) (.int .u64 y1) (.int .i64 d1) (by omega)
     replace hX := hX.store (ng' := n1) (m' := y1) (e' := d1)
     generalize ((W6.setCell ⟨gx,0,none⟩ (.bool n1)).setCell ⟨gx,1,none⟩ (.int .u64 y1)).setCell ⟨gx,2,none⟩ (.int .i64 d1) = W7 at *
     refine hK.out _ _ hS (fun _ => ?_)
     clear hK K
     try simp only [Act.put,sl2,sl0,sl1]
     refine zr 11 rfl (fun K hK => ?_)
     obtain ⟨⟨x0,x1,x2⟩,x3,x4,x5⟩ := id hY
     go_simp
     clear x0 x1 x2 x3 x4 x5
     replace hS := hS.set3 (c := gy) (.bool n2) (.int .u64 y2) (.int .i64 d2) l_Fgy
     replace hX := hX.set3 (c := gy) (.bool n2) (.int .u64 y2) (.int .i64 d2) (by omega)
     replace hY := hY.store (ng' := n2) (m' := y2) (e' := d2)
     generalize ((W7.setCell ⟨gy,0,none⟩ (.bool n2)).setCell ⟨gy,1,none⟩ (.int .u64 y2)).setCell ⟨gy,2,none⟩ (.int .i64 d2) = W8 at *
     refine hK.out _ _ hS (fun _ => ?_)
     clear hK K
     try simp only [Act.put,sl2,sl0,sl1]
     refine wpAnyH_done (by kernel_rfl) ?_ _
     (go_wp2_with fail)
     go_meet
     exact ⟨gx,gy,j1,y1,d1,j2,y2,d2,rfl,rfl,hX,hY,l_Fgx,l_Fgy,by omega,hS,HN1,HN2⟩
    exact zn
   exact zn
  case rest =>
   clear hS c0 c1 hb PA PB KA KB SG HM1 HM2 HE1 HE2 hxb
   obtain ⟨gx,gy,j1,y1,d1,j2,y2,d2,rfl,rfl,hX,hY,hgx,hgy,hne,hS,HN1,HN2⟩ := hcut
   have HX := hid hX
   have HY := hid hY
   have HS := hid hS
   obtain ⟨c0,c1⟩ := id hS.1
   obtain ⟨⟨x0,x1,x2⟩,-⟩ := id hX
   obtain ⟨⟨y0,yy1,yy2⟩,-⟩ := id hY
   obtain ⟨hj1,hl1,hlt1,hy1,hd1⟩ := HN1.out
   obtain ⟨hj2,hl2,hlt2,hy2,hd2⟩ := HN2.out
   have hY1 := hl1 HP0.out.1
   have hY2 := hl2 HP0.out.2
   have hRf := HD.out j1 j2 hY1 hlt1 hY2 hlt2 hj2
   rw [← hy1,← hy2,← hd1,← hd2] at hRf
   rw [← hy1] at hY1 hlt1
   rw [← hy2] at hY2 hlt2
   obtain ⟨N,hN⟩ : ∃ N : Nat,N = y1 / 2 := ⟨_,rfl⟩
   obtain ⟨D,hD⟩ : ∃ D : Nat,D = y2 / 2 := ⟨_,rfl⟩
   rw [← hN,← hD] at hRf
   have hNb : 4611686018427387904 ≤ N ∧ N < 9223372036854775808 := by omega
   have hDb : 4611686018427387904 ≤ D ∧ D < 9223372036854775808 := by omega
   have f1 : (y1 : Int) / 2 = (N : Int) := by omega
   have f2 : (y2 : Int) / 2 = (D : Int) := by omega
   have hdb : -3000 ≤ d1 ∧ d1 ≤ 3000 ∧ -3000 ≤ d2 ∧ d2 ≤ 3000 := by have := HEB.out; omega
   have HRF := hid hRf
   have HB := hid (And.intro hNb (And.intro hDb hdb))
   clear hX hY hS hgx hgy hne hj1 hl1 hlt1 hy1 hd1 hj2 hl2 hlt2 hy2 hd2 hY1 hY2 hRf hN hD hNb hDb hdb HN1 HN2 HD HP0 HEB
   go_upto_region 9 with fail
   go_cut [10,11] (fun s10 s11 wx => s10 = .int .u64 N ∧ s11 = .int .u64 D ∧ Nb gx n1 y1 d1 wx ∧ Nb gy n2 y2 d2 wx ∧ Sx E P w wx)
   case first =>
    go_quiet (fail)
    (go_wp2_with fail)
    go_meet
    exact ⟨rfl,rfl,HX.out,HY.out,HS.out.drewN _⟩
   case rest =>
    clear f1 f2 HX HY HS c0 c1 x0 x1 x2 y0 yy1 yy2
    obtain ⟨rfl,rfl,hX,hY,hS⟩ := hcut
    have HX := hid hX
    have HY := hid hY
    have HS := hid hS
    clear hX hY hS
    have hDp : 0 < 2 * D := by have := HB.out.2.1; omega
    have HDP := hid hDp
    clear hDp
    go_wp2
    go_loop [10,12,75] (fun vr vm vk => ∃ k : Nat,k ≤ 62 ∧ vk = .int .i64 k ∧ vm = .int .u64 ((2 ^ k * N / (2 * D) : Nat) : Int) ∧ vr = .int .u64 ((2 ^ k * N % (2 * D) : Nat) : Int)) (fun _ _ vk => 62 - (intOf vk).toNat)
    case atStart => exact ⟨0,by omega,rfl,by have := HB.out; rw [Nat.pow_zero,Nat.one_mul,Nat.div_eq_of_lt (by omega)]; rfl,by have := HB.out; rw [Nat.pow_zero,Nat.one_mul,Nat.mod_eq_of_lt (by omega)]⟩
    case round =>
     obtain ⟨k,hk,rfl,rfl,rfl⟩ := hrel
     have hDp := HDP.out
     have hB := HB.out
     obtain ⟨q,hq⟩ : ∃ q : Nat,q = 2 ^ k * N / (2 * D) := ⟨_,rfl⟩
     obtain ⟨r,hr⟩ : ∃ r : Nat,r = 2 ^ k * N % (2 * D) := ⟨_,rfl⟩
     have hrl : r < 2 * D := by rw [hr]; exact Nat.mod_lt _ hDp
     have hqb : q < 4611686018427387904 ∨ k = 62 := by
      by_cases h62 : k = 62
      ·exact .inr h62
      ·left
       rw [hq,Nat.div_lt_iff_lt_mul hDp]
       have h1 : (2 : Nat) ^ k ≤ 2 ^ 61 := Nat.pow_le_pow_right (by decide) (by omega)
       have h2 : (2 : Nat) ^ 61 = 2305843009213693952 := by decide
       calc 2 ^ k * N ≤ 2 ^ 61 * N := Nat.mul_le_mul_right _ h1
        _ < 4611686018427387904 * (2 * D) := by rw [h2]; omega
     by_cases hlt : k < 62
     ·have hs := dstep (2 ^ k * N) (2 * D) hDp
      have hpk : 2 * (2 ^ k * N) = 2 ^ (k + 1) * N := by rw [Nat.pow_succ,← Nat.mul_assoc,Nat.mul_comm 2 (2 ^ k)]
      rw [hpk,← hq,← hr] at hs
      rw [← hq,← hr]
      have hqb2 : q < 4611686018427387904 := by omega
      obtain ⟨q2,hq2⟩ : ∃ q2 : Nat,q2 = 2 * q := ⟨_,rfl⟩
      have g1 : (q : Int) * 2 = (q2 : Int) := by omega
      have g2 : IntKind.u64.wrap (q2 : Int) = (q2 : Int) := by rw [IntKind.wrap_u64]; omega
      have hk0 : decide ((k : Int) < 62) = true := by simp; omega
      by_cases hc : D ≤ r
      ·have hs1 := hs.1 (by omega)
       obtain ⟨r2,hr2⟩ : ∃ r2 : Nat,r2 = r - D := ⟨_,rfl⟩
       obtain ⟨r3,hr3⟩ : ∃ r3 : Nat,r3 = 2 * r2 := ⟨_,rfl⟩
       have g3 : (r : Int) - (D : Int) = (r2 : Int) := by omega
       have g4 : IntKind.u64.wrap (r2 : Int) = (r2 : Int) := by rw [IntKind.wrap_u64]; omega
       have g5 : (r2 : Int) * 2 = (r3 : Int) := by omega
       have g6 : IntKind.u64.wrap (r3 : Int) = (r3 : Int) := by rw [IntKind.wrap_u64]; omega
       have g7 : decide (D ≤ r) = true := by simp [hc]
       have g8 : decide ((D : Int) ≤ (r : Int)) = true := by simp; omega
       have g9 : bits .or .u64 (q2 : Int) 1 = ((q2 + 1 : Nat) : Int) := by
        have := bits_or_u64_nat q2 1 (by omega) (by decide)
        rw [hq2,or_one,← hq2] at this
        exact this
       have HF : Hid (2 ^ (k + 1) * N / (2 * D) = q2 + 1 ∧ 2 ^ (k + 1) * N % (2 * D) = r3) := hid ⟨by rw [hs1.1,hq2],by rw [hs1.2,hr3,hr2]; omega⟩
       clear hs hs1 hq hr hrl hqb hqb2 hq2 hr2 hr3 hpk hDp hB
       go_wp2
       all_goals
        go_round
        case rel => exact ⟨k + 1,by omega,by go_num,by rw [HF.out.1]; try first | rfl | go_num,by rw [HF.out.2]⟩
        case measure => simp [intOf]; omega
      ·have hs2 := hs.2 (by omega)
       obtain ⟨r3,hr3⟩ : ∃ r3 : Nat,r3 = 2 * r := ⟨_,rfl⟩
       have g5 : (r : Int) * 2 = (r3 : Int) := by omega
       have g6 : IntKind.u64.wrap (r3 : Int) = (r3 : Int) := by rw [IntKind.wrap_u64]; omega
       have g7 : decide (D ≤ r) = false := by simp; omega
       have g8 : decide ((D : Int) ≤ (r : Int)) = false := by simp; omega
       have HF : Hid (2 ^ (k + 1) * N / (2 * D) = q2 ∧ 2 ^ (k + 1) * N % (2 * D) = r3) := hid ⟨by rw [hs2.1,hq2],by rw [hs2.2,hr3]⟩
       clear hs hs2 hq hr hrl hqb hqb2 hq2 hr3 hpk hDp hB hc
       go_wp2
       all_goals
        go_round
        case rel => exact ⟨k + 1,by omega,by go_num,by rw [HF.out.1]; try first | rfl | go_num,by rw [HF.out.2]⟩
        case measure => simp [intOf]; omega
     ·have hk62 : k = 62 := by omega
      subst hk62
      rw [← hq,← hr]
      have hqhi : q < 18446744073709551616 := by
       rw [hq,Nat.div_lt_iff_lt_mul hDp]
       have h2 : (2 : Nat) ^ 62 = 4611686018427387904 := by decide
       rw [h2]; omega
      have hqlo : 288230376151711744 ≤ q := by
       rw [hq,Nat.le_div_iff_mul_le hDp]
       have h2 : (2 : Nat) ^ 62 = 4611686018427387904 := by decide
       rw [h2]; omega
      obtain ⟨mo,hmo⟩ : ∃ mo : Bool,mo = decide (r ≠ 0) := ⟨_,rfl⟩
      have g1 : ((r : Int) != 0) = mo := by
       rw [hmo]
       by_cases h : r = 0
       ·subst h; rfl
       ·simp [h]
      obtain ⟨e3,he3⟩ : ∃ e3 : Int,e3 = d1 - d2 - 61 := ⟨_,rfl⟩
      obtain ⟨e4,he4⟩ : ∃ e4 : Int,e4 = d1 - d2 := ⟨_,rfl⟩
      have g2 : d1 - d2 = e4 := he4.symm
      have g3 : wrap64 e4 = e4 := by unfold wrap64; omega
      have g4 : e4 - 61 = e3 := by omega
      have g5 : wrap64 e3 = e3 := by unfold wrap64; omega
      have hRf : RR = (f).word ns (rungR f q e3 mo) := by
       rw [HRF.out]
       unfold rungD
       rw [← hq,← hr,hmo,he3]
      have RC := fun W => hid (HRC.out q e3 mo hqhi (by omega) (by omega) (fun _ => hqlo) W)
      rw [← hRf] at RC
      have hsgn := HSGN.out
      obtain ⟨c0,c1⟩ := id HS.out.1
      obtain ⟨⟨x0,x1,x2⟩,-⟩ := id HX.out
      obtain ⟨⟨y0,yy1,yy2⟩,-⟩ := id HY.out
      clear hRf hq hr hrl hqb hqhi hqlo hmo he3 he4 hDp hB
      go_wp2_with (go_at_call 161; (with_reducible refine (RC _).out.mono ?_); rintro e w5 ⟨rfl,hb5⟩; have HF := hid (bnext HS.out.2 hb5))
      go_ret
      exact ⟨rfl,HF.out⟩
end Go.Proofs.YtbbmbhcbncenaaaGreatDoor.Fl
