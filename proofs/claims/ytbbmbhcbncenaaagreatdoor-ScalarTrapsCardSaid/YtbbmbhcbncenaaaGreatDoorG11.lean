/-
  FParts: merged, what the law does not reach left out (each text says what it holds where it lies in wip). No condition.
-/
import Derived.Test.YtbbmbhcbncenaaaGreatDoorG10
import Derived.Test.YtbbmbhcbncenaaaGreatDoorG09
import Derived.Deep.DeepCutAuto
import Derived.Test.YtbbmbhcbncenaaaGreatDoorG01
set_option linter.unusedSimpArgs false
set_option linter.unusedVariables false
set_option maxRecDepth 100000
namespace Go.Proofs.YtbbmbhcbncenaaaGreatDoor.Fl
open Go.RowKit
def pm (P s : Nat) : Nat := if s / 2 ^ P = 0 then s else s % 2 ^ P + 2 ^ P
def pe (P : Nat) (low : Int) (s : Nat) : Int := if s / 2 ^ P = 0 then low else low + ((s / 2 ^ P - 1 : Nat) : Int)
set_option maxRecDepth 20000 in
set_option maxHeartbeats 3200000 in
theorem parts_32 (a : Nat) (ha : a < 4294967296) (w : World) : Calls Tryz.prog 160 #[.agg #[.int .i64 8,.int .i64 23],.int .u64 a] w fun e w' => e = .returned (.agg #[.bool (decide (2147483648 ≤ a)),.int .u64 ((pm 23 (a % 2147483648) : Nat) : Int),.int .i64 (pe 23 (-149) (a % 2147483648))]) ∧ Below w.heap.size w w' := by
 have HS := fun w => hid (size_32 a ha w)
 have HG := fun w => hid (sign_32 a ha w)
 have hneg : ((((if 2147483648 ≤ a then 2147483648 else 0 : Nat) : Int)) != 0) = decide (2147483648 ≤ a) := by split <;> simp [*]
 obtain ⟨s,hs⟩ : ∃ s : Nat,s = a % 2147483648 := ⟨_,rfl⟩
 obtain ⟨g,hg⟩ : ∃ g : Nat,g = (if 2147483648 ≤ a then 2147483648 else 0) := ⟨_,rfl⟩
 obtain ⟨ng,hng⟩ : ∃ ng : Bool,ng = decide (2147483648 ≤ a) := ⟨_,rfl⟩
 have hs2 : s < 2147483648 := by omega
 rw [← hs] at HS ⊢
 rw [← hg] at HG hneg
 rw [← hng] at hneg ⊢
 have hs2H := hid hs2
 clear hs hg hng ha hs2
 go_enter Tryz.func160,Tryz.ntmps160
 go_upto_region 2 with fail
 go_cut [6] (fun s6 wx => ∃ gx : Nat,s6 = .pointer (some ⟨gx,0,none⟩) ∧ Nb gx ng s (-149) wx ∧ w.heap.size + 1 < gx ∧ Sx 8 23 w wx ∧ Nb (w.heap.size + 1) false 0 0 wx)
 case first =>
  have hS := ((Sx.new 8 23 w).alloc (.cells #[.bool false,.int .u64 0,.int .i64 0] 153)).drew
  have hR := (Nb.new false 0 0 (w.alloc (.cells #[.int .i64 8,.int .i64 23] 114))).drew
  rw [show (w.alloc (.cells #[.int .i64 8,.int .i64 23] 114)).heap.size = w.heap.size + 1 by simp] at hR
  refine wp_region_held_drew (S := Sx 8 23 w) (by kernel_rfl) hS (fun _ => ?_)
  generalize World.drew ((w.alloc (.cells #[.int .i64 8,.int .i64 23] 114)).alloc (.cells #[.bool false,.int .u64 0,.int .i64 0] 153)) = W at *
  refine zt 0 (.agg #[.int .i64 8,.int .i64 23]) rfl ?_ ?_
  ·(intro W hSw; obtain ⟨⟨c0,c1⟩,-⟩ := hSw; go_simp; try (with_reducible rfl))
  try simp only [Act.put,sl2,sl0,sl1]
  refine zt 1 (.int .u64 a) rfl ?_ ?_
  ·(intro W hSw; obtain ⟨⟨c0,c1⟩,-⟩ := hSw; go_simp; try (with_reducible rfl))
  try simp only [Act.put,sl2,sl0,sl1]
  refine zt 4 (.agg #[.int .i64 8,.int .i64 23]) rfl ?_ ?_
  ·(intro W hSw; obtain ⟨⟨c0,c1⟩,-⟩ := hSw; go_simp; try (with_reducible rfl))
  try simp only [Act.put,sl2,sl0,sl1]
  refine zt 5 (.int .u64 a) rfl ?_ ?_
  ·(intro W hSw; obtain ⟨⟨c0,c1⟩,-⟩ := hSw; go_simp; try (with_reducible rfl))
  try simp only [Act.put,sl2,sl0,sl1]
  refine zt 7 (.agg #[.int .i64 8,.int .i64 23]) rfl ?_ ?_
  ·(intro W hSw; obtain ⟨⟨c0,c1⟩,-⟩ := hSw; go_simp; try (with_reducible rfl))
  try simp only [Act.put,sl2,sl0,sl1]
  refine zm [2,10] ?_
  refine zc rfl (fun K hK => ?_) ?_
  ·go_simp
   go_at_call 135
   (with_reducible refine (HG _).out.mono ?_)
   rintro e W1 ⟨rfl,hb⟩
   replace hS := hS.call hb
   replace hR := hR.call hb
   clear hb
   refine hK.out _ _ hS (fun _ => ?_)
   clear hK K
   try simp only [Act.put,sl2,sl0,sl1]
   refine zt 3 (.bool ng) rfl ?_ ?_
   ·(intro W hSw; obtain ⟨⟨c0,c1⟩,-⟩ := hSw; go_simp; try (with_reducible rfl))
   try simp only [Act.put,sl2,sl0,sl1]
   refine zm [6,10] ?_
   refine zc rfl (fun K hK => ?_) ?_
   ·go_simp
    go_at_call 130
    (with_reducible refine (HS _).out.mono ?_)
    rintro e W2 ⟨rfl,hb⟩
    replace hS := hS.call hb
    replace hR := hR.call hb
    clear hb
    refine hK.out _ _ hS (fun _ => ?_)
    clear hK K
    try simp only [Act.put,sl2,sl0,sl1]
    refine zm [8,10] ?_
    refine zc rfl (fun K hK => ?_) ?_
    ·go_simp
     go_at_call 175
     (with_reducible refine (lowest_32 _).mono ?_)
     rintro e W3 ⟨rfl,hb⟩
     replace hS := hS.call hb
     replace hR := hR.call hb
     clear hb
     refine hK.out _ _ hS (fun _ => ?_)
     clear hK K
     try simp only [Act.put,sl2,sl0,sl1]
     refine zt 9 (.agg #[.bool ng,.int .u64 s,.int .i64 (-149)]) rfl ?_ ?_
     ·(intro W hSw; obtain ⟨⟨c0,c1⟩,-⟩ := hSw; go_simp; try (with_reducible rfl))
     try simp only [Act.put,sl2,sl0,sl1]
     refine zr 10 rfl (fun K hK => ?_)
     go_simp
     have l_Fgx := hS.lt
     have l_hRgx := hR.lt
     have hX := Nb.new false 0 0 W3
     replace hS := hS.alloc (.cells #[.bool false,.int .u64 0,.int .i64 0] 153)
     replace hR := hR.alloc (.cells #[.bool false,.int .u64 0,.int .i64 0] 153)
     generalize World.alloc W3 (.cells #[.bool false,.int .u64 0,.int .i64 0] 153) = W4 at *
     generalize W3.heap.size = gx at *
     refine hK.out _ _ hS (fun _ => ?_)
     clear hK K
     try simp only [Act.put,sl2,sl0,sl1]
     refine zr 11 rfl (fun K hK => ?_)
     obtain ⟨⟨x0,x1,x2⟩,x3,x4,x5⟩ := id hX
     go_simp
     clear x0 x1 x2 x3 x4 x5
     replace hS := hS.set3 (c := gx) (.bool ng) (.int .u64 s) (.int .i64 (-149)) l_Fgx
     replace hR := ((hR.set (c := gx) (o := 0) (u := .bool ng) (by omega)).set (c := gx) (o := 1) (u := .int .u64 s) (by omega)).set (c := gx) (o := 2) (u := .int .i64 (-149)) (by omega)
     replace hX := hX.store (ng' := ng) (m' := s) (e' := (-149))
     generalize ((W4.setCell ⟨gx,0,none⟩ (.bool ng)).setCell ⟨gx,1,none⟩ (.int .u64 s)).setCell ⟨gx,2,none⟩ (.int .i64 (-149)) = W5 at *
     refine hK.out _ _ hS (fun _ => ?_)
     clear hK K
     try simp only [Act.put,sl2,sl0,sl1]
     refine wpAnyH_done (by kernel_rfl) ?_ _
     go_wp2_with fail
     go_meet
     exact ⟨gx,rfl,hX,l_hRgx,hS,hR⟩
    refine zc rfl (fun K hK => ?_) ?_
    ·go_simp
     have l_Fgx := hS.lt
     have l_hRgx := hR.lt
     have hX := Nb.new false 0 0 W2
     replace hS := hS.alloc (.cells #[.bool false,.int .u64 0,.int .i64 0] 153)
     replace hR := hR.alloc (.cells #[.bool false,.int .u64 0,.int .i64 0] 153)
     generalize World.alloc W2 (.cells #[.bool false,.int .u64 0,.int .i64 0] 153) = W3 at *
     generalize W2.heap.size = gx at *
     refine hK.out _ _ hS (fun _ => ?_)
     clear hK K
     try simp only [Act.put,sl2,sl0,sl1]
     refine zr 8 rfl (fun K hK => ?_)
     go_simp
     go_at_call 175
     (with_reducible refine (lowest_32 _).mono ?_)
     rintro e W4 ⟨rfl,hb⟩
     replace hS := hS.call hb
     replace hR := hR.call hb
     replace hX := hX.call hb
     clear hb
     refine hK.out _ _ hS (fun _ => ?_)
     clear hK K
     try simp only [Act.put,sl2,sl0,sl1]
     refine zt 9 (.agg #[.bool ng,.int .u64 s,.int .i64 (-149)]) rfl ?_ ?_
     ·(intro W hSw; obtain ⟨⟨c0,c1⟩,-⟩ := hSw; go_simp; try (with_reducible rfl))
     try simp only [Act.put,sl2,sl0,sl1]
     refine zr 11 rfl (fun K hK => ?_)
     obtain ⟨⟨x0,x1,x2⟩,x3,x4,x5⟩ := id hX
     go_simp
     clear x0 x1 x2 x3 x4 x5
     replace hS := hS.set3 (c := gx) (.bool ng) (.int .u64 s) (.int .i64 (-149)) l_Fgx
     replace hR := ((hR.set (c := gx) (o := 0) (u := .bool ng) (by omega)).set (c := gx) (o := 1) (u := .int .u64 s) (by omega)).set (c := gx) (o := 2) (u := .int .i64 (-149)) (by omega)
     replace hX := hX.store (ng' := ng) (m' := s) (e' := (-149))
     generalize ((W4.setCell ⟨gx,0,none⟩ (.bool ng)).setCell ⟨gx,1,none⟩ (.int .u64 s)).setCell ⟨gx,2,none⟩ (.int .i64 (-149)) = W5 at *
     refine hK.out _ _ hS (fun _ => ?_)
     clear hK K
     try simp only [Act.put,sl2,sl0,sl1]
     refine wpAnyH_done (by kernel_rfl) ?_ _
     go_wp2_with fail
     go_meet
     exact ⟨gx,rfl,hX,l_hRgx,hS,hR⟩
    exact zn
   refine zc rfl (fun K hK => ?_) ?_
   ·go_simp
    have l_Fgx := hS.lt
    have l_hRgx := hR.lt
    have hX := Nb.new false 0 0 W1
    replace hS := hS.alloc (.cells #[.bool false,.int .u64 0,.int .i64 0] 153)
    replace hR := hR.alloc (.cells #[.bool false,.int .u64 0,.int .i64 0] 153)
    generalize World.alloc W1 (.cells #[.bool false,.int .u64 0,.int .i64 0] 153) = W2 at *
    generalize W1.heap.size = gx at *
    refine hK.out _ _ hS (fun _ => ?_)
    clear hK K
    try simp only [Act.put,sl2,sl0,sl1]
    refine zr 6 rfl (fun K hK => ?_)
    go_simp
    go_at_call 130
    (with_reducible refine (HS _).out.mono ?_)
    rintro e W3 ⟨rfl,hb⟩
    replace hS := hS.call hb
    replace hR := hR.call hb
    replace hX := hX.call hb
    clear hb
    refine hK.out _ _ hS (fun _ => ?_)
    clear hK K
    try simp only [Act.put,sl2,sl0,sl1]
    refine zr 8 rfl (fun K hK => ?_)
    go_simp
    go_at_call 175
    (with_reducible refine (lowest_32 _).mono ?_)
    rintro e W4 ⟨rfl,hb⟩
    replace hS := hS.call hb
    replace hR := hR.call hb
    replace hX := hX.call hb
    clear hb
    refine hK.out _ _ hS (fun _ => ?_)
    clear hK K
    try simp only [Act.put,sl2,sl0,sl1]
    refine zt 9 (.agg #[.bool ng,.int .u64 s,.int .i64 (-149)]) rfl ?_ ?_
    ·(intro W hSw; obtain ⟨⟨c0,c1⟩,-⟩ := hSw; go_simp; try (with_reducible rfl))
    try simp only [Act.put,sl2,sl0,sl1]
    refine zr 11 rfl (fun K hK => ?_)
    obtain ⟨⟨x0,x1,x2⟩,x3,x4,x5⟩ := id hX
    go_simp
    clear x0 x1 x2 x3 x4 x5
    replace hS := hS.set3 (c := gx) (.bool ng) (.int .u64 s) (.int .i64 (-149)) l_Fgx
    replace hR := ((hR.set (c := gx) (o := 0) (u := .bool ng) (by omega)).set (c := gx) (o := 1) (u := .int .u64 s) (by omega)).set (c := gx) (o := 2) (u := .int .i64 (-149)) (by omega)
    replace hX := hX.store (ng' := ng) (m' := s) (e' := (-149))
    generalize ((W4.setCell ⟨gx,0,none⟩ (.bool ng)).setCell ⟨gx,1,none⟩ (.int .u64 s)).setCell ⟨gx,2,none⟩ (.int .i64 (-149)) = W5 at *
    refine hK.out _ _ hS (fun _ => ?_)
    clear hK K
    try simp only [Act.put,sl2,sl0,sl1]
    refine wpAnyH_done (by kernel_rfl) ?_ _
    go_wp2_with fail
    go_meet
    exact ⟨gx,rfl,hX,l_hRgx,hS,hR⟩
   exact zn
  refine zc rfl (fun K hK => ?_) ?_
  ·go_simp
   have l_Fgx := hS.lt
   have l_hRgx := hR.lt
   have hX := Nb.new false 0 0 W
   replace hS := hS.alloc (.cells #[.bool false,.int .u64 0,.int .i64 0] 153)
   replace hR := hR.alloc (.cells #[.bool false,.int .u64 0,.int .i64 0] 153)
   generalize World.alloc W (.cells #[.bool false,.int .u64 0,.int .i64 0] 153) = W1 at *
   generalize W.heap.size = gx at *
   refine hK.out _ _ hS (fun _ => ?_)
   clear hK K
   try simp only [Act.put,sl2,sl0,sl1]
   refine zr 2 rfl (fun K hK => ?_)
   go_simp
   go_at_call 135
   (with_reducible refine (HG _).out.mono ?_)
   rintro e W2 ⟨rfl,hb⟩
   replace hS := hS.call hb
   replace hR := hR.call hb
   replace hX := hX.call hb
   clear hb
   refine hK.out _ _ hS (fun _ => ?_)
   clear hK K
   try simp only [Act.put,sl2,sl0,sl1]
   refine zt 3 (.bool ng) rfl ?_ ?_
   ·(intro W hSw; obtain ⟨⟨c0,c1⟩,-⟩ := hSw; go_simp; try (with_reducible rfl))
   try simp only [Act.put,sl2,sl0,sl1]
   refine zr 6 rfl (fun K hK => ?_)
   go_simp
   go_at_call 130
   (with_reducible refine (HS _).out.mono ?_)
   rintro e W3 ⟨rfl,hb⟩
   replace hS := hS.call hb
   replace hR := hR.call hb
   replace hX := hX.call hb
   clear hb
   refine hK.out _ _ hS (fun _ => ?_)
   clear hK K
   try simp only [Act.put,sl2,sl0,sl1]
   refine zr 8 rfl (fun K hK => ?_)
   go_simp
   go_at_call 175
   (with_reducible refine (lowest_32 _).mono ?_)
   rintro e W4 ⟨rfl,hb⟩
   replace hS := hS.call hb
   replace hR := hR.call hb
   replace hX := hX.call hb
   clear hb
   refine hK.out _ _ hS (fun _ => ?_)
   clear hK K
   try simp only [Act.put,sl2,sl0,sl1]
   refine zt 9 (.agg #[.bool ng,.int .u64 s,.int .i64 (-149)]) rfl ?_ ?_
   ·(intro W hSw; obtain ⟨⟨c0,c1⟩,-⟩ := hSw; go_simp; try (with_reducible rfl))
   try simp only [Act.put,sl2,sl0,sl1]
   refine zr 11 rfl (fun K hK => ?_)
   obtain ⟨⟨x0,x1,x2⟩,x3,x4,x5⟩ := id hX
   go_simp
   clear x0 x1 x2 x3 x4 x5
   replace hS := hS.set3 (c := gx) (.bool ng) (.int .u64 s) (.int .i64 (-149)) l_Fgx
   replace hR := ((hR.set (c := gx) (o := 0) (u := .bool ng) (by omega)).set (c := gx) (o := 1) (u := .int .u64 s) (by omega)).set (c := gx) (o := 2) (u := .int .i64 (-149)) (by omega)
   replace hX := hX.store (ng' := ng) (m' := s) (e' := (-149))
   generalize ((W4.setCell ⟨gx,0,none⟩ (.bool ng)).setCell ⟨gx,1,none⟩ (.int .u64 s)).setCell ⟨gx,2,none⟩ (.int .i64 (-149)) = W5 at *
   refine hK.out _ _ hS (fun _ => ?_)
   clear hK K
   try simp only [Act.put,sl2,sl0,sl1]
   refine wpAnyH_done (by kernel_rfl) ?_ _
   go_wp2_with fail
   go_meet
   exact ⟨gx,rfl,hX,l_hRgx,hS,hR⟩
  exact zn
 case rest =>
  obtain ⟨gx,rfl,hX,hl,hS,hR⟩ := hcut
  obtain ⟨⟨x0,x1,x2⟩,x3,x4,x5⟩ := id hX
  obtain ⟨⟨r0,r1,r2⟩,r3,r4,r5⟩ := id hR
  obtain ⟨c0,c1⟩ := id hS.1
  have hB := hid hS.2
  have hlH := hid hl
  have hne : gx ≠ w.heap.size + 1 := by omega
  have hne2 : w.heap.size + 1 ≠ gx := by omega
  have HR := hid hR
  clear hX hR hS hl HS HG
  by_cases hq : s / 8388608 = 0
  ·have hq2 : (((s : Int) / 8388608) != 0) = false := by simp; omega
   have HM : Hid (((pm 23 s : Nat) : Int) = (s : Int)) := hid (by unfold pm; rw [if_pos (show s / 2 ^ 23 = 0 from hq)])
   have HE : Hid (pe 23 (-149) s = -149) := hid (by unfold pe; rw [if_pos (show s / 2 ^ 23 = 0 from hq)])
   clear hq
   go_wp2
   obtain ⟨⟨f0,f1,f2⟩,-⟩ := HR.out.store (ng' := ng) (m' := s) (e' := -149)
   have hBf := bset (c := w.heap.size + 1) (o := 2) (u := .int .i64 (-149)) (bset (c := w.heap.size + 1) (o := 1) (u := .int .u64 s) (bset (c := w.heap.size + 1) (o := 0) (u := .bool ng) hB.out (by omega)) (by omega)) (by omega)
   generalize ((wc.setCell ⟨w.heap.size + 1,0,none⟩ (.bool ng)).setCell ⟨w.heap.size + 1,1,none⟩ (.int .u64 s)).setCell ⟨w.heap.size + 1,2,none⟩ (.int .i64 (-149)) = wf at *
   exact bodyPost_ret (v := .agg #[.bool ng,.int .u64 s,.int .i64 (-149)]) (by simp [results,Tryz.results160,go_sem,f0,f1,f2]) rfl ⟨by rw [HM.out,HE.out],hBf⟩
  ·have h3 := hs2H.out
   obtain ⟨Q,hQ⟩ : ∃ Q : Int,(s : Int) / 8388608 = Q := ⟨_,rfl⟩
   obtain ⟨M,hM⟩ : ∃ M : Int,(s : Int) % 8388608 + 8388608 = M := ⟨_,rfl⟩
   obtain ⟨X,hX⟩ : ∃ X : Int,(-149) + (Q - 1) = X := ⟨_,rfl⟩
   have hq2 : (Q != 0) = true := by simp; omega
   have hw1 : wrap64 Q = Q := by unfold wrap64; omega
   have hw2 : wrap64 (Q - 1) = Q - 1 := by unfold wrap64; omega
   have hw3 : wrap64 X = X := by unfold wrap64; omega
   have HM : Hid (((pm 23 s : Nat) : Int) = M) := hid (by unfold pm; rw [if_neg (show ¬ s / 2 ^ 23 = 0 from hq),← hM]; rfl)
   have HE : Hid (pe 23 (-149) s = X) := hid (by unfold pe; rw [if_neg (show ¬ s / 2 ^ 23 = 0 from hq)]; show (-149) + ((s / 8388608 - 1 : Nat) : Int) = X; omega)
   clear hq h3
   go_wp2
   obtain ⟨⟨f0,f1,f2⟩,-⟩ := ((HR.out.set (c := gx) (o := 1) (u := .int .u64 M) hne).set (c := gx) (o := 2) (u := .int .i64 X) hne).store (ng' := ng) (m' := M) (e' := X)
   have hBf := bset (c := w.heap.size + 1) (o := 2) (u := .int .i64 X) (bset (c := w.heap.size + 1) (o := 1) (u := .int .u64 M) (bset (c := w.heap.size + 1) (o := 0) (u := .bool ng) (bset (c := gx) (o := 2) (u := .int .i64 X) (bset (c := gx) (o := 1) (u := .int .u64 M) hB.out (by have := hlH.out; omega)) (by have := hlH.out; omega)) (by omega)) (by omega)) (by omega)
   generalize ((((wc.setCell ⟨gx,1,none⟩ (.int .u64 M)).setCell ⟨gx,2,none⟩ (.int .i64 X)).setCell ⟨w.heap.size + 1,0,none⟩ (.bool ng)).setCell ⟨w.heap.size + 1,1,none⟩ (.int .u64 M)).setCell ⟨w.heap.size + 1,2,none⟩ (.int .i64 X) = wf at *
   exact bodyPost_ret (v := .agg #[.bool ng,.int .u64 M,.int .i64 X]) (by simp [results,Tryz.results160,go_sem,f0,f1,f2]) rfl ⟨by rw [HM.out,HE.out],hBf⟩
set_option maxRecDepth 20000 in
set_option maxHeartbeats 3200000 in
theorem parts_64 (a : Nat) (ha : a < 18446744073709551616) (w : World) : Calls Tryz.prog 160 #[.agg #[.int .i64 11,.int .i64 52],.int .u64 a] w fun e w' => e = .returned (.agg #[.bool (decide (9223372036854775808 ≤ a)),.int .u64 ((pm 52 (a % 9223372036854775808) : Nat) : Int),.int .i64 (pe 52 (-1074) (a % 9223372036854775808))]) ∧ Below w.heap.size w w' := by
 have HS := fun w => hid (size_64 a ha w)
 have HG := fun w => hid (sign_64 a ha w)
 have hneg : ((((if 9223372036854775808 ≤ a then 9223372036854775808 else 0 : Nat) : Int)) != 0) = decide (9223372036854775808 ≤ a) := by split <;> simp [*]
 obtain ⟨s,hs⟩ : ∃ s : Nat,s = a % 9223372036854775808 := ⟨_,rfl⟩
 obtain ⟨g,hg⟩ : ∃ g : Nat,g = (if 9223372036854775808 ≤ a then 9223372036854775808 else 0) := ⟨_,rfl⟩
 obtain ⟨ng,hng⟩ : ∃ ng : Bool,ng = decide (9223372036854775808 ≤ a) := ⟨_,rfl⟩
 have hs2 : s < 9223372036854775808 := by omega
 rw [← hs] at HS ⊢
 rw [← hg] at HG hneg
 rw [← hng] at hneg ⊢
 have hs2H := hid hs2
 clear hs hg hng ha hs2
 go_enter Tryz.func160,Tryz.ntmps160
 go_upto_region 2 with fail
 go_cut [6] (fun s6 wx => ∃ gx : Nat,s6 = .pointer (some ⟨gx,0,none⟩) ∧ Nb gx ng s (-1074) wx ∧ w.heap.size + 1 < gx ∧ Sx 11 52 w wx ∧ Nb (w.heap.size + 1) false 0 0 wx)
 case first =>
  have hS := ((Sx.new 11 52 w).alloc (.cells #[.bool false,.int .u64 0,.int .i64 0] 153)).drew
  have hR := (Nb.new false 0 0 (w.alloc (.cells #[.int .i64 11,.int .i64 52] 114))).drew
  rw [show (w.alloc (.cells #[.int .i64 11,.int .i64 52] 114)).heap.size = w.heap.size + 1 by simp] at hR
  refine wp_region_held_drew (S := Sx 11 52 w) (by kernel_rfl) hS (fun _ => ?_)
  generalize World.drew ((w.alloc (.cells #[.int .i64 11,.int .i64 52] 114)).alloc (.cells #[.bool false,.int .u64 0,.int .i64 0] 153)) = W at *
  refine zt 0 (.agg #[.int .i64 11,.int .i64 52]) rfl ?_ ?_
  ·(intro W hSw; obtain ⟨⟨c0,c1⟩,-⟩ := hSw; go_simp; try (with_reducible rfl))
  try simp only [Act.put,sl2,sl0,sl1]
  refine zt 1 (.int .u64 a) rfl ?_ ?_
  ·(intro W hSw; obtain ⟨⟨c0,c1⟩,-⟩ := hSw; go_simp; try (with_reducible rfl))
  try simp only [Act.put,sl2,sl0,sl1]
  refine zt 4 (.agg #[.int .i64 11,.int .i64 52]) rfl ?_ ?_
  ·(intro W hSw; obtain ⟨⟨c0,c1⟩,-⟩ := hSw; go_simp; try (with_reducible rfl))
  try simp only [Act.put,sl2,sl0,sl1]
  refine zt 5 (.int .u64 a) rfl ?_ ?_
  ·(intro W hSw; obtain ⟨⟨c0,c1⟩,-⟩ := hSw; go_simp; try (with_reducible rfl))
  try simp only [Act.put,sl2,sl0,sl1]
  refine zt 7 (.agg #[.int .i64 11,.int .i64 52]) rfl ?_ ?_
  ·(intro W hSw; obtain ⟨⟨c0,c1⟩,-⟩ := hSw; go_simp; try (with_reducible rfl))
  try simp only [Act.put,sl2,sl0,sl1]
  refine zm [2,10] ?_
  refine zc rfl (fun K hK => ?_) ?_
  ·go_simp
   go_at_call 135
   (with_reducible refine (HG _).out.mono ?_)
   rintro e W1 ⟨rfl,hb⟩
   replace hS := hS.call hb
   replace hR := hR.call hb
   clear hb
   refine hK.out _ _ hS (fun _ => ?_)
   clear hK K
   try simp only [Act.put,sl2,sl0,sl1]
   refine zt 3 (.bool ng) rfl ?_ ?_
   ·(intro W hSw; obtain ⟨⟨c0,c1⟩,-⟩ := hSw; go_simp; try (with_reducible rfl))
   try simp only [Act.put,sl2,sl0,sl1]
   refine zm [6,10] ?_
   refine zc rfl (fun K hK => ?_) ?_
   ·go_simp
    go_at_call 130
    (with_reducible refine (HS _).out.mono ?_)
    rintro e W2 ⟨rfl,hb⟩
    replace hS := hS.call hb
    replace hR := hR.call hb
    clear hb
    refine hK.out _ _ hS (fun _ => ?_)
    clear hK K
    try simp only [Act.put,sl2,sl0,sl1]
    refine zm [8,10] ?_
    refine zc rfl (fun K hK => ?_) ?_
    ·go_simp
     go_at_call 175
     (with_reducible refine (lowest_64 _).mono ?_)
     rintro e W3 ⟨rfl,hb⟩
     replace hS := hS.call hb
     replace hR := hR.call hb
     clear hb
     refine hK.out _ _ hS (fun _ => ?_)
     clear hK K
     try simp only [Act.put,sl2,sl0,sl1]
     refine zt 9 (.agg #[.bool ng,.int .u64 s,.int .i64 (-1074)]) rfl ?_ ?_
     ·(intro W hSw; obtain ⟨⟨c0,c1⟩,-⟩ := hSw; go_simp; try (with_reducible rfl))
     try simp only [Act.put,sl2,sl0,sl1]
     refine zr 10 rfl (fun K hK => ?_)
     go_simp
     have l_Fgx := hS.lt
     have l_hRgx := hR.lt
     have hX := Nb.new false 0 0 W3
     replace hS := hS.alloc (.cells #[.bool false,.int .u64 0,.int .i64 0] 153)
     replace hR := hR.alloc (.cells #[.bool false,.int .u64 0,.int .i64 0] 153)
     generalize World.alloc W3 (.cells #[.bool false,.int .u64 0,.int .i64 0] 153) = W4 at *
     generalize W3.heap.size = gx at *
     refine hK.out _ _ hS (fun _ => ?_)
     clear hK K
     try simp only [Act.put,sl2,sl0,sl1]
     refine zr 11 rfl (fun K hK => ?_)
     obtain ⟨⟨x0,x1,x2⟩,x3,x4,x5⟩ := id hX
     go_simp
     clear x0 x1 x2 x3 x4 x5
     replace hS := hS.set3 (c := gx) (.bool ng) (.int .u64 s) (.int .i64 (-1074)) l_Fgx
     replace hR := ((hR.set (c := gx) (o := 0) (u := .bool ng) (by omega)).set (c := gx) (o := 1) (u := .int .u64 s) (by omega)).set (c := gx) (o := 2) (u := .int .i64 (-1074)) (by omega)
     replace hX := hX.store (ng' := ng) (m' := s) (e' := (-1074))
     generalize ((W4.setCell ⟨gx,0,none⟩ (.bool ng)).setCell ⟨gx,1,none⟩ (.int .u64 s)).setCell ⟨gx,2,none⟩ (.int .i64 (-1074)) = W5 at *
     refine hK.out _ _ hS (fun _ => ?_)
     clear hK K
     try simp only [Act.put,sl2,sl0,sl1]
     refine wpAnyH_done (by kernel_rfl) ?_ _
     go_wp2_with fail
     go_meet
     exact ⟨gx,rfl,hX,l_hRgx,hS,hR⟩
    refine zc rfl (fun K hK => ?_) ?_
    ·go_simp
     have l_Fgx := hS.lt
     have l_hRgx := hR.lt
     have hX := Nb.new false 0 0 W2
     replace hS := hS.alloc (.cells #[.bool false,.int .u64 0,.int .i64 0] 153)
     replace hR := hR.alloc (.cells #[.bool false,.int .u64 0,.int .i64 0] 153)
     generalize World.alloc W2 (.cells #[.bool false,.int .u64 0,.int .i64 0] 153) = W3 at *
     generalize W2.heap.size = gx at *
     refine hK.out _ _ hS (fun _ => ?_)
     clear hK K
     try simp only [Act.put,sl2,sl0,sl1]
     refine zr 8 rfl (fun K hK => ?_)
     go_simp
     go_at_call 175
     (with_reducible refine (lowest_64 _).mono ?_)
     rintro e W4 ⟨rfl,hb⟩
     replace hS := hS.call hb
     replace hR := hR.call hb
     replace hX := hX.call hb
     clear hb
     refine hK.out _ _ hS (fun _ => ?_)
     clear hK K
     try simp only [Act.put,sl2,sl0,sl1]
     refine zt 9 (.agg #[.bool ng,.int .u64 s,.int .i64 (-1074)]) rfl ?_ ?_
     ·(intro W hSw; obtain ⟨⟨c0,c1⟩,-⟩ := hSw; go_simp; try (with_reducible rfl))
     try simp only [Act.put,sl2,sl0,sl1]
     refine zr 11 rfl (fun K hK => ?_)
     obtain ⟨⟨x0,x1,x2⟩,x3,x4,x5⟩ := id hX
     go_simp
     clear x0 x1 x2 x3 x4 x5
     replace hS := hS.set3 (c := gx) (.bool ng) (.int .u64 s) (.int .i64 (-1074)) l_Fgx
     replace hR := ((hR.set (c := gx) (o := 0) (u := .bool ng) (by omega)).set (c := gx) (o := 1) (u := .int .u64 s) (by omega)).set (c := gx) (o := 2) (u := .int .i64 (-1074)) (by omega)
     replace hX := hX.store (ng' := ng) (m' := s) (e' := (-1074))
     generalize ((W4.setCell ⟨gx,0,none⟩ (.bool ng)).setCell ⟨gx,1,none⟩ (.int .u64 s)).setCell ⟨gx,2,none⟩ (.int .i64 (-1074)) = W5 at *
     refine hK.out _ _ hS (fun _ => ?_)
     clear hK K
     try simp only [Act.put,sl2,sl0,sl1]
     refine wpAnyH_done (by kernel_rfl) ?_ _
     go_wp2_with fail
     go_meet
     exact ⟨gx,rfl,hX,l_hRgx,hS,hR⟩
    exact zn
   refine zc rfl (fun K hK => ?_) ?_
   ·go_simp
    have l_Fgx := hS.lt
    have l_hRgx := hR.lt
    have hX := Nb.new false 0 0 W1
    replace hS := hS.alloc (.cells #[.bool false,.int .u64 0,.int .i64 0] 153)
    replace hR := hR.alloc (.cells #[.bool false,.int .u64 0,.int .i64 0] 153)
    generalize World.alloc W1 (.cells #[.bool false,.int .u64 0,.int .i64 0] 153) = W2 at *
    generalize W1.heap.size = gx at *
    refine hK.out _ _ hS (fun _ => ?_)
    clear hK K
    try simp only [Act.put,sl2,sl0,sl1]
    refine zr 6 rfl (fun K hK => ?_)
    go_simp
    go_at_call 130
    (with_reducible refine (HS _).out.mono ?_)
    rintro e W3 ⟨rfl,hb⟩
    replace hS := hS.call hb
    replace hR := hR.call hb
    replace hX := hX.call hb
    clear hb
    refine hK.out _ _ hS (fun _ => ?_)
    clear hK K
    try simp only [Act.put,sl2,sl0,sl1]
    refine zr 8 rfl (fun K hK => ?_)
    go_simp
    go_at_call 175
    (with_reducible refine (lowest_64 _).mono ?_)
    rintro e W4 ⟨rfl,hb⟩
    replace hS := hS.call hb
    replace hR := hR.call hb
    replace hX := hX.call hb
    clear hb
    refine hK.out _ _ hS (fun _ => ?_)
    clear hK K
    try simp only [Act.put,sl2,sl0,sl1]
    refine zt 9 (.agg #[.bool ng,.int .u64 s,.int .i64 (-1074)]) rfl ?_ ?_
    ·(intro W hSw; obtain ⟨⟨c0,c1⟩,-⟩ := hSw; go_simp; try (with_reducible rfl))
    try simp only [Act.put,sl2,sl0,sl1]
    refine zr 11 rfl (fun K hK => ?_)
    obtain ⟨⟨x0,x1,x2⟩,x3,x4,x5⟩ := id hX
    go_simp
    clear x0 x1 x2 x3 x4 x5
    replace hS := hS.set3 (c := gx) (.bool ng) (.int .u64 s) (.int .i64 (-1074)) l_Fgx
    replace hR := ((hR.set (c := gx) (o := 0) (u := .bool ng) (by omega)).set (c := gx) (o := 1) (u := .int .u64 s) (by omega)).set (c := gx) (o := 2) (u := .int .i64 (-1074)) (by omega)
    replace hX := hX.store (ng' := ng) (m' := s) (e' := (-1074))
    generalize ((W4.setCell ⟨gx,0,none⟩ (.bool ng)).setCell ⟨gx,1,none⟩ (.int .u64 s)).setCell ⟨gx,2,none⟩ (.int .i64 (-1074)) = W5 at *
    refine hK.out _ _ hS (fun _ => ?_)
    clear hK K
    try simp only [Act.put,sl2,sl0,sl1]
    refine wpAnyH_done (by kernel_rfl) ?_ _
    go_wp2_with fail
    go_meet
    exact ⟨gx,rfl,hX,l_hRgx,hS,hR⟩
   exact zn
  refine zc rfl (fun K hK => ?_) ?_
  ·go_simp
   have l_Fgx := hS.lt
   have l_hRgx := hR.lt
   have hX := Nb.new false 0 0 W
   replace hS := hS.alloc (.cells #[.bool false,.int .u64 0,.int .i64 0] 153)
   replace hR := hR.alloc (.cells #[.bool false,.int .u64 0,.int .i64 0] 153)
   generalize World.alloc W (.cells #[.bool false,.int .u64 0,.int .i64 0] 153) = W1 at *
   generalize W.heap.size = gx at *
   refine hK.out _ _ hS (fun _ => ?_)
   clear hK K
   try simp only [Act.put,sl2,sl0,sl1]
   refine zr 2 rfl (fun K hK => ?_)
   go_simp
   go_at_call 135
   (with_reducible refine (HG _).out.mono ?_)
   rintro e W2 ⟨rfl,hb⟩
   replace hS := hS.call hb
   replace hR := hR.call hb
   replace hX := hX.call hb
   clear hb
   refine hK.out _ _ hS (fun _ => ?_)
   clear hK K
   try simp only [Act.put,sl2,sl0,sl1]
   refine zt 3 (.bool ng) rfl ?_ ?_
   ·(intro W hSw; obtain ⟨⟨c0,c1⟩,-⟩ := hSw; go_simp; try (with_reducible rfl))
   try simp only [Act.put,sl2,sl0,sl1]
   refine zr 6 rfl (fun K hK => ?_)
   go_simp
   go_at_call 130
   (with_reducible refine (HS _).out.mono ?_)
   rintro e W3 ⟨rfl,hb⟩
   replace hS := hS.call hb
   replace hR := hR.call hb
   replace hX := hX.call hb
   clear hb
   refine hK.out _ _ hS (fun _ => ?_)
   clear hK K
   try simp only [Act.put,sl2,sl0,sl1]
   refine zr 8 rfl (fun K hK => ?_)
   go_simp
   go_at_call 175
   (with_reducible refine (lowest_64 _).mono ?_)
   rintro e W4 ⟨rfl,hb⟩
   replace hS := hS.call hb
   replace hR := hR.call hb
   replace hX := hX.call hb
   clear hb
   refine hK.out _ _ hS (fun _ => ?_)
   clear hK K
   try simp only [Act.put,sl2,sl0,sl1]
   refine zt 9 (.agg #[.bool ng,.int .u64 s,.int .i64 (-1074)]) rfl ?_ ?_
   ·(intro W hSw; obtain ⟨⟨c0,c1⟩,-⟩ := hSw; go_simp; try (with_reducible rfl))
   try simp only [Act.put,sl2,sl0,sl1]
   refine zr 11 rfl (fun K hK => ?_)
   obtain ⟨⟨x0,x1,x2⟩,x3,x4,x5⟩ := id hX
   go_simp
   clear x0 x1 x2 x3 x4 x5
   replace hS := hS.set3 (c := gx) (.bool ng) (.int .u64 s) (.int .i64 (-1074)) l_Fgx
   replace hR := ((hR.set (c := gx) (o := 0) (u := .bool ng) (by omega)).set (c := gx) (o := 1) (u := .int .u64 s) (by omega)).set (c := gx) (o := 2) (u := .int .i64 (-1074)) (by omega)
   replace hX := hX.store (ng' := ng) (m' := s) (e' := (-1074))
   generalize ((W4.setCell ⟨gx,0,none⟩ (.bool ng)).setCell ⟨gx,1,none⟩ (.int .u64 s)).setCell ⟨gx,2,none⟩ (.int .i64 (-1074)) = W5 at *
   refine hK.out _ _ hS (fun _ => ?_)
   clear hK K
   try simp only [Act.put,sl2,sl0,sl1]
   refine wpAnyH_done (by kernel_rfl) ?_ _
   go_wp2_with fail
   go_meet
   exact ⟨gx,rfl,hX,l_hRgx,hS,hR⟩
  exact zn
 case rest =>
  obtain ⟨gx,rfl,hX,hl,hS,hR⟩ := hcut
  obtain ⟨⟨x0,x1,x2⟩,x3,x4,x5⟩ := id hX
  obtain ⟨⟨r0,r1,r2⟩,r3,r4,r5⟩ := id hR
  obtain ⟨c0,c1⟩ := id hS.1
  have hB := hid hS.2
  have hlH := hid hl
  have hne : gx ≠ w.heap.size + 1 := by omega
  have hne2 : w.heap.size + 1 ≠ gx := by omega
  have HR := hid hR
  clear hX hR hS hl HS HG
  by_cases hq : s / 4503599627370496 = 0
  ·have hq2 : (((s : Int) / 4503599627370496) != 0) = false := by simp; omega
   have HM : Hid (((pm 52 s : Nat) : Int) = (s : Int)) := hid (by unfold pm; rw [if_pos (show s / 2 ^ 52 = 0 from hq)])
   have HE : Hid (pe 52 (-1074) s = -1074) := hid (by unfold pe; rw [if_pos (show s / 2 ^ 52 = 0 from hq)])
   clear hq
   go_wp2
   obtain ⟨⟨f0,f1,f2⟩,-⟩ := HR.out.store (ng' := ng) (m' := s) (e' := -1074)
   have hBf := bset (c := w.heap.size + 1) (o := 2) (u := .int .i64 (-1074)) (bset (c := w.heap.size + 1) (o := 1) (u := .int .u64 s) (bset (c := w.heap.size + 1) (o := 0) (u := .bool ng) hB.out (by omega)) (by omega)) (by omega)
   generalize ((wc.setCell ⟨w.heap.size + 1,0,none⟩ (.bool ng)).setCell ⟨w.heap.size + 1,1,none⟩ (.int .u64 s)).setCell ⟨w.heap.size + 1,2,none⟩ (.int .i64 (-1074)) = wf at *
   exact bodyPost_ret (v := .agg #[.bool ng,.int .u64 s,.int .i64 (-1074)]) (by simp [results,Tryz.results160,go_sem,f0,f1,f2]) rfl ⟨by rw [HM.out,HE.out],hBf⟩
  ·have h3 := hs2H.out
   obtain ⟨Q,hQ⟩ : ∃ Q : Int,(s : Int) / 4503599627370496 = Q := ⟨_,rfl⟩
   obtain ⟨M,hM⟩ : ∃ M : Int,(s : Int) % 4503599627370496 + 4503599627370496 = M := ⟨_,rfl⟩
   obtain ⟨X,hX⟩ : ∃ X : Int,(-1074) + (Q - 1) = X := ⟨_,rfl⟩
   have hq2 : (Q != 0) = true := by simp; omega
   have hw1 : wrap64 Q = Q := by unfold wrap64; omega
   have hw2 : wrap64 (Q - 1) = Q - 1 := by unfold wrap64; omega
   have hw3 : wrap64 X = X := by unfold wrap64; omega
   have HM : Hid (((pm 52 s : Nat) : Int) = M) := hid (by unfold pm; rw [if_neg (show ¬ s / 2 ^ 52 = 0 from hq),← hM]; rfl)
   have HE : Hid (pe 52 (-1074) s = X) := hid (by unfold pe; rw [if_neg (show ¬ s / 2 ^ 52 = 0 from hq)]; show (-1074) + ((s / 4503599627370496 - 1 : Nat) : Int) = X; omega)
   clear hq h3
   go_wp2
   obtain ⟨⟨f0,f1,f2⟩,-⟩ := ((HR.out.set (c := gx) (o := 1) (u := .int .u64 M) hne).set (c := gx) (o := 2) (u := .int .i64 X) hne).store (ng' := ng) (m' := M) (e' := X)
   have hBf := bset (c := w.heap.size + 1) (o := 2) (u := .int .i64 X) (bset (c := w.heap.size + 1) (o := 1) (u := .int .u64 M) (bset (c := w.heap.size + 1) (o := 0) (u := .bool ng) (bset (c := gx) (o := 2) (u := .int .i64 X) (bset (c := gx) (o := 1) (u := .int .u64 M) hB.out (by have := hlH.out; omega)) (by have := hlH.out; omega)) (by omega)) (by omega)) (by omega)
   generalize ((((wc.setCell ⟨gx,1,none⟩ (.int .u64 M)).setCell ⟨gx,2,none⟩ (.int .i64 X)).setCell ⟨w.heap.size + 1,0,none⟩ (.bool ng)).setCell ⟨w.heap.size + 1,1,none⟩ (.int .u64 M)).setCell ⟨w.heap.size + 1,2,none⟩ (.int .i64 X) = wf at *
   exact bodyPost_ret (v := .agg #[.bool ng,.int .u64 M,.int .i64 X]) (by simp [results,Tryz.results160,go_sem,f0,f1,f2]) rfl ⟨by rw [HM.out,HE.out],hBf⟩
end Go.Proofs.YtbbmbhcbncenaaaGreatDoor.Fl
