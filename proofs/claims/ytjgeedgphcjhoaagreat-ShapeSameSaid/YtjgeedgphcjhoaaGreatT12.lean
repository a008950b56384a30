/-
  Same1, Same2, Same3: merged, what the law does not reach left out (each text says what it holds where it lies in wip). No condition.
-/
import Derived.Test.YtjgeedgphcjhoaaGreatT03
import Derived.Test.YtjgeedgphcjhoaaGreatT01
set_option linter.unusedSimpArgs false
set_option linter.unusedVariables false
set_option maxRecDepth 100000
namespace Go.Proofs.YtjgeedgphcjhoaaGreat
open Go.RowKit
set_option maxHeartbeats 2000000 in
theorem eq_int (l1 l2 : List Int) (v1 v2 : Value) (B : Nat) (w : World) (h1 : LI B w v1 l1) (h2 : LI B w v2 l2) (hB : B ≤ w.heap.size) : Calls Tryz.prog 163 #[v1,v2] w fun e w' => e = .returned (.bool (l1 == l2)) ∧ Below w.heap.size w w' := by
 obtain ⟨p1,c1,rfl,hq1,hc1⟩ := h1
 obtain ⟨p2,c2,rfl,hq2,hc2⟩ := h2
 have HB := hid hB
 by_cases hl : l1.length = l2.length
 ·obtain ⟨n,hn⟩ : ∃ n,n = l1.length := ⟨_,rfl⟩
  have hn2 : l2.length = n := by omega
  rw [← hn] at hq1 ⊢
  rw [hn2]
  have HC1 := hid hc1
  have HC2 := hid hc2
  have HN1 := hid hn.symm
  have HN2 := hid hn2
  have hd : ((n : Int) != (n : Int)) = false := by simp
  have hn' : (n : Int) < 9223372036854775807 := by omega
  obtain ⟨r,hr⟩ : ∃ r,r = (l1 == l2) := ⟨_,rfl⟩
  rw [← hr]
  have HR := hid hr
  clear hc1 hc2 hq1 hq2 hl hn hn2 hr hB
  go_enter Tryz.func163,Tryz.ntmps163
  go_wp2
  go_loopw [13] (fun vi wr => ∃ i : Nat,i ≤ n ∧ vi = .int .i64 i ∧ Hid (l1.take i = l2.take i) ∧ Hid (Below w.heap.size w wr)) (fun vi _ => n - (intOf vi).toNat)
  case atStart => exact ⟨0,Nat.zero_le _,rfl,rfl,Below.refl _ _⟩
  case round =>
   obtain ⟨i,hi,rfl,HI,HW⟩ := hrel
   by_cases hlt : i < n
   ·have hi1 : i < l1.length := by rw [HN1.out]; exact hlt
    have hi2 : i < l2.length := by rw [HN2.out]; exact hlt
    obtain ⟨g1,o1,rfl,hg1,hx1⟩ := HC1.out (fun e => by rw [e] at hi1; simp at hi1)
    obtain ⟨g2,o2,rfl,hg2,hx2⟩ := HC2.out (fun e => by rw [e] at hi2; simp at hi2)
    obtain ⟨x,hx⟩ : ∃ x,l1[i]? = some x := ⟨_,List.getElem?_eq_getElem hi1⟩
    obtain ⟨y,hy⟩ : ∃ y,l2[i]? = some y := ⟨_,List.getElem?_eq_getElem hi2⟩
    have a1 := hx1 i x hx
    have a2 := hx2 i y hy
    have h1w : g1 < w.heap.size := Nat.lt_of_lt_of_le hg1 HB.out
    have h2w : g2 < w.heap.size := Nat.lt_of_lt_of_le hg2 HB.out
    have HX := hid hx
    have HY := hid hy
    clear hx1 hx2 hx hy hg1 hg2 hi1 hi2
    by_cases hxy : x = y
    ·have hd2 : (x != y) = false := by simp [hxy]
     have HXY := hid hxy
     clear hxy
     go_upto_region 6 with fail
     have hS : Below w.heap.size w wr.drew := HW.out.drew
     refine wp_region_held_drew (S := fun W => Below w.heap.size w W) (by kernel_rfl) hS (fun _ => ?_)
     generalize wr.drew = W at *
     refine zt 0 (.slice (some ⟨g1,o1,none⟩) n c1) rfl ?_ ?_
     ·(intro W hSw; have z1 := (hSw.cell (p := ⟨g1,o1 + i,none⟩) h1w).trans a1; have z2 := (hSw.cell (p := ⟨g2,o2 + i,none⟩) h2w).trans a2; go_simp; try (with_reducible rfl))
     try simp only [Act.put,sl2,sl0,sl1]
     refine zt 1 (.int .i64 i) rfl ?_ ?_
     ·(intro W hSw; have z1 := (hSw.cell (p := ⟨g1,o1 + i,none⟩) h1w).trans a1; have z2 := (hSw.cell (p := ⟨g2,o2 + i,none⟩) h2w).trans a2; go_simp; try (with_reducible rfl))
     try simp only [Act.put,sl2,sl0,sl1]
     refine zt 2 (.pointer (some ⟨g1,o1 + i,none⟩)) rfl ?_ ?_
     ·(intro W hSw; have z1 := (hSw.cell (p := ⟨g1,o1 + i,none⟩) h1w).trans a1; have z2 := (hSw.cell (p := ⟨g2,o2 + i,none⟩) h2w).trans a2; go_simp; try (with_reducible rfl))
     try simp only [Act.put,sl2,sl0,sl1]
     refine zt 3 (.int .i64 x) rfl ?_ ?_
     ·(intro W hSw; have z1 := (hSw.cell (p := ⟨g1,o1 + i,none⟩) h1w).trans a1; have z2 := (hSw.cell (p := ⟨g2,o2 + i,none⟩) h2w).trans a2; go_simp; try (with_reducible rfl))
     try simp only [Act.put,sl2,sl0,sl1]
     refine zt 4 (.slice (some ⟨g2,o2,none⟩) n c2) rfl ?_ ?_
     ·(intro W hSw; have z1 := (hSw.cell (p := ⟨g1,o1 + i,none⟩) h1w).trans a1; have z2 := (hSw.cell (p := ⟨g2,o2 + i,none⟩) h2w).trans a2; go_simp; try (with_reducible rfl))
     try simp only [Act.put,sl2,sl0,sl1]
     refine zt 5 (.int .i64 i) rfl ?_ ?_
     ·(intro W hSw; have z1 := (hSw.cell (p := ⟨g1,o1 + i,none⟩) h1w).trans a1; have z2 := (hSw.cell (p := ⟨g2,o2 + i,none⟩) h2w).trans a2; go_simp; try (with_reducible rfl))
     try simp only [Act.put,sl2,sl0,sl1]
     refine zt 6 (.pointer (some ⟨g2,o2 + i,none⟩)) rfl ?_ ?_
     ·(intro W hSw; have z1 := (hSw.cell (p := ⟨g1,o1 + i,none⟩) h1w).trans a1; have z2 := (hSw.cell (p := ⟨g2,o2 + i,none⟩) h2w).trans a2; go_simp; try (with_reducible rfl))
     try simp only [Act.put,sl2,sl0,sl1]
     refine zt 7 (.int .i64 y) rfl ?_ ?_
     ·(intro W hSw; have z1 := (hSw.cell (p := ⟨g1,o1 + i,none⟩) h1w).trans a1; have z2 := (hSw.cell (p := ⟨g2,o2 + i,none⟩) h2w).trans a2; go_simp; try (with_reducible rfl))
     try simp only [Act.put,sl2,sl0,sl1]
     refine zt 8 (.bool false) rfl ?_ ?_
     ·(intro W hSw; have z1 := (hSw.cell (p := ⟨g1,o1 + i,none⟩) h1w).trans a1; have z2 := (hSw.cell (p := ⟨g2,o2 + i,none⟩) h2w).trans a2; go_simp; try (with_reducible rfl))
     try simp only [Act.put,sl2,sl0,sl1]
     refine wpAnyH_done (by kernel_rfl) ?_ _
     go_wp2_with fail
     go_roundw
     case rel => exact ⟨i + 1,hlt,by go_num,by (show l1.take (i + 1) = l2.take (i + 1)); rw [List.take_add_one,List.take_add_one,HI.out,HX.out,HY.out,HXY.out],hS⟩
     case measure => simp [intOf]; omega
    ·have hd2 : (x != y) = true := by simp [hxy]
     have HE : Hid (r = false) := by
      rw [HR.out]
      refine beq_eq_false_iff_ne.2 fun e => hxy ?_
      have := HX.out
      rw [e,HY.out] at this
      simpa using this.symm
     clear hxy
     go_upto_region 6 with fail
     have hS : Below w.heap.size w wr.drew := HW.out.drew
     refine wp_region_held_drew (S := fun W => Below w.heap.size w W) (by kernel_rfl) hS (fun _ => ?_)
     generalize wr.drew = W at *
     refine zt 0 (.slice (some ⟨g1,o1,none⟩) n c1) rfl ?_ ?_
     ·(intro W hSw; have z1 := (hSw.cell (p := ⟨g1,o1 + i,none⟩) h1w).trans a1; have z2 := (hSw.cell (p := ⟨g2,o2 + i,none⟩) h2w).trans a2; go_simp; try (with_reducible rfl))
     try simp only [Act.put,sl2,sl0,sl1]
     refine zt 1 (.int .i64 i) rfl ?_ ?_
     ·(intro W hSw; have z1 := (hSw.cell (p := ⟨g1,o1 + i,none⟩) h1w).trans a1; have z2 := (hSw.cell (p := ⟨g2,o2 + i,none⟩) h2w).trans a2; go_simp; try (with_reducible rfl))
     try simp only [Act.put,sl2,sl0,sl1]
     refine zt 2 (.pointer (some ⟨g1,o1 + i,none⟩)) rfl ?_ ?_
     ·(intro W hSw; have z1 := (hSw.cell (p := ⟨g1,o1 + i,none⟩) h1w).trans a1; have z2 := (hSw.cell (p := ⟨g2,o2 + i,none⟩) h2w).trans a2; go_simp; try (with_reducible rfl))
     try simp only [Act.put,sl2,sl0,sl1]
     refine zt 3 (.int .i64 x) rfl ?_ ?_
     ·(intro W hSw; have z1 := (hSw.cell (p := ⟨g1,o1 + i,none⟩) h1w).trans a1; have z2 := (hSw.cell (p := ⟨g2,o2 + i,none⟩) h2w).trans a2; go_simp; try (with_reducible rfl))
     try simp only [Act.put,sl2,sl0,sl1]
     refine zt 4 (.slice (some ⟨g2,o2,none⟩) n c2) rfl ?_ ?_
     ·(intro W hSw; have z1 := (hSw.cell (p := ⟨g1,o1 + i,none⟩) h1w).trans a1; have z2 := (hSw.cell (p := ⟨g2,o2 + i,none⟩) h2w).trans a2; go_simp; try (with_reducible rfl))
     try simp only [Act.put,sl2,sl0,sl1]
     refine zt 5 (.int .i64 i) rfl ?_ ?_
     ·(intro W hSw; have z1 := (hSw.cell (p := ⟨g1,o1 + i,none⟩) h1w).trans a1; have z2 := (hSw.cell (p := ⟨g2,o2 + i,none⟩) h2w).trans a2; go_simp; try (with_reducible rfl))
     try simp only [Act.put,sl2,sl0,sl1]
     refine zt 6 (.pointer (some ⟨g2,o2 + i,none⟩)) rfl ?_ ?_
     ·(intro W hSw; have z1 := (hSw.cell (p := ⟨g1,o1 + i,none⟩) h1w).trans a1; have z2 := (hSw.cell (p := ⟨g2,o2 + i,none⟩) h2w).trans a2; go_simp; try (with_reducible rfl))
     try simp only [Act.put,sl2,sl0,sl1]
     refine zt 7 (.int .i64 y) rfl ?_ ?_
     ·(intro W hSw; have z1 := (hSw.cell (p := ⟨g1,o1 + i,none⟩) h1w).trans a1; have z2 := (hSw.cell (p := ⟨g2,o2 + i,none⟩) h2w).trans a2; go_simp; try (with_reducible rfl))
     try simp only [Act.put,sl2,sl0,sl1]
     refine zt 8 (.bool true) rfl ?_ ?_
     ·(intro W hSw; have z1 := (hSw.cell (p := ⟨g1,o1 + i,none⟩) h1w).trans a1; have z2 := (hSw.cell (p := ⟨g2,o2 + i,none⟩) h2w).trans a2; go_simp; try (with_reducible rfl))
     try simp only [Act.put,sl2,sl0,sl1]
     refine wpAnyH_done (by kernel_rfl) ?_ _
     go_wp2_with fail
     go_ret
     exact ⟨by rw [HE.out]; rfl,hS⟩
   ·obtain rfl : i = n := by omega
    have HE : Hid (r = true) := by
     rw [HR.out]
     have := HI.out
     rw [List.take_of_length_le (by rw [HN1.out]; exact Nat.le_refl _),List.take_of_length_le (by rw [HN2.out]; exact Nat.le_refl _)] at this
     exact beq_iff_eq.2 this
    go_wp2
    go_ret
    exact ⟨by rw [HE.out]; rfl,HW.out⟩
 ·have hd : ((l1.length : Int) != (l2.length : Int)) = true := by simp; omega
  have hr : (l1 == l2) = false := beq_eq_false_iff_ne.2 fun e => hl (by rw [e])
  rw [hr]
  generalize l1.length = n1 at *
  generalize l2.length = n2 at *
  clear hc1 hc2 hl
  go_enter Tryz.func163,Tryz.ntmps163
  go_wp2
  go_ret
  exact ⟨rfl,Below.refl _ _⟩
theorem eq_nil_76 (w : World) : Calls Tryz.prog 80 #[.slice none 0 0,.slice none 0 0] w fun e w' => e = .returned (.bool true) ∧ w = w' := by
 go_enter Tryz.func80,Tryz.ntmps80
 go_wp2
 go_loop [13] (fun vi => vi = .int .i64 0) (fun _ => 0)
 case atStart => rfl
 case round =>
  subst hrel
  go_wp2
  go_ret
  exact ⟨rfl,rfl⟩
theorem eq_nil_79 (w : World) : Calls Tryz.prog 83 #[.slice none 0 0,.slice none 0 0] w fun e w' => e = .returned (.bool true) ∧ w = w' := by
 go_enter Tryz.func83,Tryz.ntmps83
 go_wp2
 go_loop [13] (fun vi => vi = .int .i64 0) (fun _ => 0)
 case atStart => rfl
 case round =>
  subst hrel
  go_wp2
  go_ret
  exact ⟨rfl,rfl⟩
theorem eq_nil_80 (w : World) : Calls Tryz.prog 84 #[.slice none 0 0,.slice none 0 0] w fun e w' => e = .returned (.bool true) ∧ w = w' := by
 go_enter Tryz.func84,Tryz.ntmps84
 go_wp2
 go_loop [13] (fun vi => vi = .int .i64 0) (fun _ => 0)
 case atStart => rfl
 case round =>
  subst hrel
  go_wp2
  go_ret
  exact ⟨rfl,rfl⟩
theorem eq_nil_83 (w : World) : Calls Tryz.prog 87 #[.slice none 0 0,.slice none 0 0] w fun e w' => e = .returned (.bool true) ∧ w = w' := by
 go_enter Tryz.func87,Tryz.ntmps87
 go_wp2
 go_loop [13] (fun vi => vi = .int .i64 0) (fun _ => 0)
 case atStart => rfl
 case round =>
  subst hrel
  go_wp2
  go_ret
  exact ⟨rfl,rfl⟩
theorem eqf_nil_81 (k : Nat) (w : World) : Calls Tryz.prog 85 #[.slice none 0 0,.slice none 0 0,.func (.func k) #[] #[]] w fun e w' => e = .returned (.bool true) ∧ w = w' := by
 go_enter Tryz.func85,Tryz.ntmps85
 go_wp2
 go_loop [17] (fun vi => vi = .int .i64 0) (fun _ => 0)
 case atStart => rfl
 case round =>
  subst hrel
  go_wp2
  go_ret
  exact ⟨rfl,rfl⟩
theorem eqf_nil_84 (k : Nat) (w : World) : Calls Tryz.prog 88 #[.slice none 0 0,.slice none 0 0,.func (.func k) #[] #[]] w fun e w' => e = .returned (.bool true) ∧ w = w' := by
 go_enter Tryz.func88,Tryz.ntmps88
 go_wp2
 go_loop [17] (fun vi => vi = .int .i64 0) (fun _ => 0)
 case atStart => rfl
 case round =>
  subst hrel
  go_wp2
  go_ret
  exact ⟨rfl,rfl⟩
theorem eqf_nil_86 (k : Nat) (w : World) : Calls Tryz.prog 90 #[.slice none 0 0,.slice none 0 0,.func (.func k) #[] #[]] w fun e w' => e = .returned (.bool true) ∧ w = w' := by
 go_enter Tryz.func90,Tryz.ntmps90
 go_wp2
 go_loop [17] (fun vi => vi = .int .i64 0) (fun _ => 0)
 case atStart => rfl
 case round =>
  subst hrel
  go_wp2
  go_ret
  exact ⟨rfl,rfl⟩
theorem eqf_nil_132 (k : Nat) (w : World) : Calls Tryz.prog 224 #[.slice none 0 0,.slice none 0 0,.func (.func k) #[] #[]] w fun e w' => e = .returned (.bool true) ∧ w = w' := by
 go_enter Tryz.func224,Tryz.ntmps224
 go_wp2
 go_loop [17] (fun vi => vi = .int .i64 0) (fun _ => 0)
 case atStart => rfl
 case round =>
  subst hrel
  go_wp2
  go_ret
  exact ⟨rfl,rfl⟩
set_option maxHeartbeats 4000000 in
theorem eqf_ft (k : Nat) (eg : ∀ args w,(callFunc k args).run Tryz.prog w = .ok (.enter k args) w) (r : Bool) (g1 g2 d1 d2 : Nat) (ap0 : Option Addr) (an0 ac0 : Nat) (ap1 : Option Addr) (an1 ac1 : Nat) (bp0 : Option Addr) (bn0 bc0 : Nat) (bp1 : Option Addr) (bn1 bc1 : Nat) (w : World) (hg1 : g1 < w.heap.size) (hg2 : g2 < w.heap.size)
  (h1 : w.cell? ⟨g1,0,none⟩ = some (.slice ap0 an0 ac0) ∧ w.cell? ⟨g1,1,none⟩ = some (.slice ap1 an1 ac1)) (h2 : w.cell? ⟨g2,0,none⟩ = some (.slice bp0 bn0 bc0) ∧ w.cell? ⟨g2,1,none⟩ = some (.slice bp1 bn1 bc1))
  (hP : ∀ W,Below w.heap.size w W → Calls Tryz.prog k #[.agg #[.slice ap0 an0 ac0,.slice ap1 an1 ac1],.agg #[.slice bp0 bn0 bc0,.slice bp1 bn1 bc1]] W fun e w' => e = .returned (.bool r) ∧ Below W.heap.size W w') :
  Calls Tryz.prog 78 #[.slice (some ⟨g1,0,none⟩) 1 d1,.slice (some ⟨g2,0,none⟩) 1 d2,.func (.func k) #[] #[]] w fun e w' => e = .returned (.bool r) ∧ Below w.heap.size w w' := by
 have HP := fun W h => hid (hP W h)
 obtain ⟨x0,x1⟩ := h1
 obtain ⟨y0,y1⟩ := h2
 clear hP
 go_enter Tryz.func78,Tryz.ntmps78
 go_wp2
 go_loopw [17] (fun vi wr => (vi = .int .i64 0 ∧ wr = w) ∨ (vi = .int .i64 1 ∧ Hid (r = true ∧ Below w.heap.size w wr))) (fun vi _ => (1 - intOf vi).toNat)
 case atStart => exact .inl ⟨rfl,rfl⟩
 case round =>
  rcases hrel with ⟨rfl,rfl⟩ | ⟨rfl,HI⟩
  ·have HB2 := hid (((Below.refl wr.heap.size wr).alloc (Nat.le_refl _) (.cells #[.slice ap0 an0 ac0,.slice ap1 an1 ac1] 67)).alloc (by rw [size_al]; omega) (.cells #[.slice bp0 bn0 bc0,.slice bp1 bn1 bc1] 67))
   have hq1 : wr.heap.size ≠ g1 := by omega
   have hq2 : wr.heap.size ≠ g2 := by omega
   have z0 := (((Below.refl wr.heap.size wr).alloc (Nat.le_refl _) (.cells #[.slice ap0 an0 ac0,.slice ap1 an1 ac1] 67)).cell (p := ⟨g2,0,none⟩) hg2).trans y0
   have z1 := (((Below.refl wr.heap.size wr).alloc (Nat.le_refl _) (.cells #[.slice ap0 an0 ac0,.slice ap1 an1 ac1] 67)).cell (p := ⟨g2,1,none⟩) hg2).trans y1
   cases r with
   | false =>
    go_wp2_with (go_at_fn k; (with_reducible refine (HP _ HB2.out).out.mono ?_); rintro e w3 ⟨rfl,hb3⟩; have HB3 := hid (HB2.out.trans (hb3.mono HB2.out.size)); clear hb3)
    go_ret
    exact ⟨rfl,HB3.out⟩
   | true =>
    go_wp2_with (go_at_fn k; (with_reducible refine (HP _ HB2.out).out.mono ?_); rintro e w3 ⟨rfl,hb3⟩; have HB3 := hid (HB2.out.trans (hb3.mono HB2.out.size)); clear hb3)
    go_roundw
    case rel => exact .inr ⟨rfl,(by first | exact ⟨rfl,HB3.out⟩ | exact ⟨trivial,HB3.out⟩)⟩
    case measure => simp [intOf]
  ·obtain ⟨rfl,hb⟩ := HI.out
   have HB := hid hb
   clear hb HI
   go_wp2
   go_ret
   exact ⟨rfl,HB.out⟩
set_option maxHeartbeats 4000000 in
theorem eqf_code (k : Nat) (eg : ∀ args w,(callFunc k args).run Tryz.prog w = .ok (.enter k args) w) (r : Bool) (g1 g2 d1 d2 : Nat) (at0 : Int) (ap1 : Option Addr) (an1 ac1 : Nat) (ap2 : Option Addr) (an2 ac2 : Nat) (bt0 : Int) (bp1 : Option Addr) (bn1 bc1 : Nat) (bp2 : Option Addr) (bn2 bc2 : Nat) (w : World) (hg1 : g1 < w.heap.size) (hg2 : g2 < w.heap.size)
  (h1 : w.cell? ⟨g1,0,none⟩ = some (.int .i64 at0) ∧ w.cell? ⟨g1,1,none⟩ = some (.slice ap1 an1 ac1) ∧ w.cell? ⟨g1,2,none⟩ = some (.slice ap2 an2 ac2)) (h2 : w.cell? ⟨g2,0,none⟩ = some (.int .i64 bt0) ∧ w.cell? ⟨g2,1,none⟩ = some (.slice bp1 bn1 bc1) ∧ w.cell? ⟨g2,2,none⟩ = some (.slice bp2 bn2 bc2))
  (hP : ∀ W,Below w.heap.size w W → Calls Tryz.prog k #[.agg #[.int .i64 at0,.slice ap1 an1 ac1,.slice ap2 an2 ac2],.agg #[.int .i64 bt0,.slice bp1 bn1 bc1,.slice bp2 bn2 bc2]] W fun e w' => e = .returned (.bool r) ∧ Below W.heap.size W w') :
  Calls Tryz.prog 81 #[.slice (some ⟨g1,0,none⟩) 1 d1,.slice (some ⟨g2,0,none⟩) 1 d2,.func (.func k) #[] #[]] w fun e w' => e = .returned (.bool r) ∧ Below w.heap.size w w' := by
 have HP := fun W h => hid (hP W h)
 obtain ⟨x0,x1,x2⟩ := h1
 obtain ⟨y0,y1,y2⟩ := h2
 clear hP
 go_enter Tryz.func81,Tryz.ntmps81
 go_wp2
 go_loopw [17] (fun vi wr => (vi = .int .i64 0 ∧ wr = w) ∨ (vi = .int .i64 1 ∧ Hid (r = true ∧ Below w.heap.size w wr))) (fun vi _ => (1 - intOf vi).toNat)
 case atStart => exact .inl ⟨rfl,rfl⟩
 case round =>
  rcases hrel with ⟨rfl,rfl⟩ | ⟨rfl,HI⟩
  ·have HB2 := hid (((Below.refl wr.heap.size wr).alloc (Nat.le_refl _) (.cells #[.int .i64 at0,.slice ap1 an1 ac1,.slice ap2 an2 ac2] 42)).alloc (by rw [size_al]; omega) (.cells #[.int .i64 bt0,.slice bp1 bn1 bc1,.slice bp2 bn2 bc2] 42))
   have hq1 : wr.heap.size ≠ g1 := by omega
   have hq2 : wr.heap.size ≠ g2 := by omega
   have z0 := (((Below.refl wr.heap.size wr).alloc (Nat.le_refl _) (.cells #[.int .i64 at0,.slice ap1 an1 ac1,.slice ap2 an2 ac2] 42)).cell (p := ⟨g2,0,none⟩) hg2).trans y0
   have z1 := (((Below.refl wr.heap.size wr).alloc (Nat.le_refl _) (.cells #[.int .i64 at0,.slice ap1 an1 ac1,.slice ap2 an2 ac2] 42)).cell (p := ⟨g2,1,none⟩) hg2).trans y1
   have z2 := (((Below.refl wr.heap.size wr).alloc (Nat.le_refl _) (.cells #[.int .i64 at0,.slice ap1 an1 ac1,.slice ap2 an2 ac2] 42)).cell (p := ⟨g2,2,none⟩) hg2).trans y2
   cases r with
   | false =>
    go_wp2_with (go_at_fn k; (with_reducible refine (HP _ HB2.out).out.mono ?_); rintro e w3 ⟨rfl,hb3⟩; have HB3 := hid (HB2.out.trans (hb3.mono HB2.out.size)); clear hb3)
    go_ret
    exact ⟨rfl,HB3.out⟩
   | true =>
    go_wp2_with (go_at_fn k; (with_reducible refine (HP _ HB2.out).out.mono ?_); rintro e w3 ⟨rfl,hb3⟩; have HB3 := hid (HB2.out.trans (hb3.mono HB2.out.size)); clear hb3)
    go_roundw
    case rel => exact .inr ⟨rfl,(by first | exact ⟨rfl,HB3.out⟩ | exact ⟨trivial,HB3.out⟩)⟩
    case measure => simp [intOf]
  ·obtain ⟨rfl,hb⟩ := HI.out
   have HB := hid hb
   clear hb HI
   go_wp2
   go_ret
   exact ⟨rfl,HB.out⟩
end Go.Proofs.YtjgeedgphcjhoaaGreat
namespace Go.Proofs.YtjgeedgphcjhoaaGreat
open Go.RowKit
set_option maxHeartbeats 4000000 in
theorem eqf_ins (k : Nat) (eg : ∀ args w,(callFunc k args).run Tryz.prog w = .ok (.enter k args) w) (r : Bool) (g1 g2 d1 d2 : Nat) (at0 : Int) (at1 : Int) (at2 : Int) (at3 : Nat) (at4 : Nat) (ap5 : Option Addr) (an5 ac5 : Nat) (ap6 : Option Addr) (an6 ac6 : Nat) (ap7 : Option Addr) (an7 ac7 : Nat) (at8 : Bool) (bt0 : Int) (bt1 : Int) (bt2 : Int) (bt3 : Nat) (bt4 : Nat) (bp5 : Option Addr) (bn5 bc5 : Nat) (bp6 : Option Addr) (bn6 bc6 : Nat) (bp7 : Option Addr) (bn7 bc7 : Nat) (bt8 : Bool) (w : World) (hg1 : g1 < w.heap.size) (hg2 : g2 < w.heap.size)
  (h1 : w.cell? ⟨g1,0,none⟩ = some (.int .i64 at0) ∧ w.cell? ⟨g1,1,none⟩ = some (.int .i64 at1) ∧ w.cell? ⟨g1,2,none⟩ = some (.int .i64 at2) ∧ w.cell? ⟨g1,3,none⟩ = some (.int .u64 (at3 : Nat)) ∧ w.cell? ⟨g1,4,none⟩ = some (.int .u64 (at4 : Nat)) ∧ w.cell? ⟨g1,5,none⟩ = some (.slice ap5 an5 ac5) ∧ w.cell? ⟨g1,6,none⟩ = some (.slice ap6 an6 ac6) ∧ w.cell? ⟨g1,7,none⟩ = some (.slice ap7 an7 ac7) ∧ w.cell? ⟨g1,8,none⟩ = some (.bool at8)) (h2 : w.cell? ⟨g2,0,none⟩ = some (.int .i64 bt0) ∧ w.cell? ⟨g2,1,none⟩ = some (.int .i64 bt1) ∧ w.cell? ⟨g2,2,none⟩ = some (.int .i64 bt2) ∧ w.cell? ⟨g2,3,none⟩ = some (.int .u64 (bt3 : Nat)) ∧ w.cell? ⟨g2,4,none⟩ = some (.int .u64 (bt4 : Nat)) ∧ w.cell? ⟨g2,5,none⟩ = some (.slice bp5 bn5 bc5) ∧ w.cell? ⟨g2,6,none⟩ = some (.slice bp6 bn6 bc6) ∧ w.cell? ⟨g2,7,none⟩ = some (.slice bp7 bn7 bc7) ∧ w.cell? ⟨g2,8,none⟩ = some (.bool bt8))
  (hP : ∀ W,Below w.heap.size w W → Calls Tryz.prog k #[.agg #[.int .i64 at0,.int .i64 at1,.int .i64 at2,.int .u64 (at3 : Nat),.int .u64 (at4 : Nat),.slice ap5 an5 ac5,.slice ap6 an6 ac6,.slice ap7 an7 ac7,.bool at8],.agg #[.int .i64 bt0,.int .i64 bt1,.int .i64 bt2,.int .u64 (bt3 : Nat),.int .u64 (bt4 : Nat),.slice bp5 bn5 bc5,.slice bp6 bn6 bc6,.slice bp7 bn7 bc7,.bool bt8]] W fun e w' => e = .returned (.bool r) ∧ Below W.heap.size W w') :
  Calls Tryz.prog 224 #[.slice (some ⟨g1,0,none⟩) 1 d1,.slice (some ⟨g2,0,none⟩) 1 d2,.func (.func k) #[] #[]] w fun e w' => e = .returned (.bool r) ∧ Below w.heap.size w w' := by
 have HP := fun W h => hid (hP W h)
 obtain ⟨x0,x1,x2,x3,x4,x5,x6,x7,x8⟩ := h1
 obtain ⟨y0,y1,y2,y3,y4,y5,y6,y7,y8⟩ := h2
 clear hP
 go_enter Tryz.func224,Tryz.ntmps224
 go_wp2
 go_loopw [17] (fun vi wr => (vi = .int .i64 0 ∧ wr = w) ∨ (vi = .int .i64 1 ∧ Hid (r = true ∧ Below w.heap.size w wr))) (fun vi _ => (1 - intOf vi).toNat)
 case atStart => exact .inl ⟨rfl,rfl⟩
 case round =>
  rcases hrel with ⟨rfl,rfl⟩ | ⟨rfl,HI⟩
  ·have HB2 := hid (((Below.refl wr.heap.size wr).alloc (Nat.le_refl _) (.cells #[.int .i64 at0,.int .i64 at1,.int .i64 at2,.int .u64 (at3 : Nat),.int .u64 (at4 : Nat),.slice ap5 an5 ac5,.slice ap6 an6 ac6,.slice ap7 an7 ac7,.bool at8] 39)).alloc (by rw [size_al]; omega) (.cells #[.int .i64 bt0,.int .i64 bt1,.int .i64 bt2,.int .u64 (bt3 : Nat),.int .u64 (bt4 : Nat),.slice bp5 bn5 bc5,.slice bp6 bn6 bc6,.slice bp7 bn7 bc7,.bool bt8] 39))
   have hq1 : wr.heap.size ≠ g1 := by omega
   have hq2 : wr.heap.size ≠ g2 := by omega
   have z0 := (((Below.refl wr.heap.size wr).alloc (Nat.le_refl _) (.cells #[.int .i64 at0,.int .i64 at1,.int .i64 at2,.int .u64 (at3 : Nat),.int .u64 (at4 : Nat),.slice ap5 an5 ac5,.slice ap6 an6 ac6,.slice ap7 an7 ac7,.bool at8] 39)).cell (p := ⟨g2,0,none⟩) hg2).trans y0
   have z1 := (((Below.refl wr.heap.size wr).alloc (Nat.le_refl _) (.cells #[.int .i64 at0,.int .i64 at1,.int .i64 at2,.int .u64 (at3 : Nat),.int .u64 (at4 : Nat),.slice ap5 an5 ac5,.slice ap6 an6 ac6,.slice ap7 an7 ac7,.bool at8] 39)).cell (p := ⟨g2,1,none⟩) hg2).trans y1
   have z2 := (((Below.refl wr.heap.size wr).alloc (Nat.le_refl _) (.cells #[.int .i64 at0,.int .i64 at1,.int .i64 at2,.int .u64 (at3 : Nat),.int .u64 (at4 : Nat),.slice ap5 an5 ac5,.slice ap6 an6 ac6,.slice ap7 an7 ac7,.bool at8] 39)).cell (p := ⟨g2,2,none⟩) hg2).trans y2
   have z3 := (((Below.refl wr.heap.size wr).alloc (Nat.le_refl _) (.cells #[.int .i64 at0,.int .i64 at1,.int .i64 at2,.int .u64 (at3 : Nat),.int .u64 (at4 : Nat),.slice ap5 an5 ac5,.slice ap6 an6 ac6,.slice ap7 an7 ac7,.bool at8] 39)).cell (p := ⟨g2,3,none⟩) hg2).trans y3
   have z4 := (((Below.refl wr.heap.size wr).alloc (Nat.le_refl _) (.cells #[.int .i64 at0,.int .i64 at1,.int .i64 at2,.int .u64 (at3 : Nat),.int .u64 (at4 : Nat),.slice ap5 an5 ac5,.slice ap6 an6 ac6,.slice ap7 an7 ac7,.bool at8] 39)).cell (p := ⟨g2,4,none⟩) hg2).trans y4
   have z5 := (((Below.refl wr.heap.size wr).alloc (Nat.le_refl _) (.cells #[.int .i64 at0,.int .i64 at1,.int .i64 at2,.int .u64 (at3 : Nat),.int .u64 (at4 : Nat),.slice ap5 an5 ac5,.slice ap6 an6 ac6,.slice ap7 an7 ac7,.bool at8] 39)).cell (p := ⟨g2,5,none⟩) hg2).trans y5
   have z6 := (((Below.refl wr.heap.size wr).alloc (Nat.le_refl _) (.cells #[.int .i64 at0,.int .i64 at1,.int .i64 at2,.int .u64 (at3 : Nat),.int .u64 (at4 : Nat),.slice ap5 an5 ac5,.slice ap6 an6 ac6,.slice ap7 an7 ac7,.bool at8] 39)).cell (p := ⟨g2,6,none⟩) hg2).trans y6
   have z7 := (((Below.refl wr.heap.size wr).alloc (Nat.le_refl _) (.cells #[.int .i64 at0,.int .i64 at1,.int .i64 at2,.int .u64 (at3 : Nat),.int .u64 (at4 : Nat),.slice ap5 an5 ac5,.slice ap6 an6 ac6,.slice ap7 an7 ac7,.bool at8] 39)).cell (p := ⟨g2,7,none⟩) hg2).trans y7
   have z8 := (((Below.refl wr.heap.size wr).alloc (Nat.le_refl _) (.cells #[.int .i64 at0,.int .i64 at1,.int .i64 at2,.int .u64 (at3 : Nat),.int .u64 (at4 : Nat),.slice ap5 an5 ac5,.slice ap6 an6 ac6,.slice ap7 an7 ac7,.bool at8] 39)).cell (p := ⟨g2,8,none⟩) hg2).trans y8
   cases r with
   | false =>
    go_wp2_with (go_at_fn k; (with_reducible refine (HP _ HB2.out).out.mono ?_); rintro e w3 ⟨rfl,hb3⟩; have HB3 := hid (HB2.out.trans (hb3.mono HB2.out.size)); clear hb3)
    go_ret
    exact ⟨rfl,HB3.out⟩
   | true =>
    go_wp2_with (go_at_fn k; (with_reducible refine (HP _ HB2.out).out.mono ?_); rintro e w3 ⟨rfl,hb3⟩; have HB3 := hid (HB2.out.trans (hb3.mono HB2.out.size)); clear hb3)
    go_roundw
    case rel => exact .inr ⟨rfl,(by first | exact ⟨rfl,HB3.out⟩ | exact ⟨trivial,HB3.out⟩)⟩
    case measure => simp [intOf]
  ·obtain ⟨rfl,hb⟩ := HI.out
   have HB := hid hb
   clear hb HI
   go_wp2
   go_ret
   exact ⟨rfl,HB.out⟩
end Go.Proofs.YtjgeedgphcjhoaaGreat
namespace Go.Proofs.YtjgeedgphcjhoaaGreat
open Go.RowKit
theorem eq_nil_115 (w : World) : Calls Tryz.prog 163 #[.slice none 0 0,.slice none 0 0] w fun e w' => e = .returned (.bool true) ∧ w = w' := by
 go_enter Tryz.func163,Tryz.ntmps163
 go_wp2
 go_loop [13] (fun vi => vi = .int .i64 0) (fun _ => 0)
 case atStart => rfl
 case round =>
  subst hrel
  go_wp2
  go_ret
  exact ⟨rfl,rfl⟩
theorem sameCode_nil (w : World) : Calls Tryz.prog 164 #[.slice none 0 0,.slice none 0 0] w fun e w' => e = .returned (.bool true) ∧ w = w' := by
 have H := fun W => hid (eqf_nil_132 225 W)
 go_enter Tryz.func164,Tryz.ntmps164
 go_wp2_with (go_at_call 224; (with_reducible refine (H _).out.mono ?_); rintro e w1 ⟨rfl,rfl⟩)
 go_ret
 exact ⟨rfl,rfl⟩
theorem sameCode_of (v1 v2 : Value) (r : Bool) (w : World) (h : Calls Tryz.prog 224 #[v1,v2,.func (.func 225) #[] #[]] w fun e w' => e = .returned (.bool r) ∧ Below w.heap.size w w') :
  Calls Tryz.prog 164 #[v1,v2] w fun e w' => e = .returned (.bool r) ∧ Below w.heap.size w w' := by
 have H := hid h
 clear h
 go_enter Tryz.func164,Tryz.ntmps164
 go_wp2_with (go_at_call 224; (with_reducible refine H.out.mono ?_); rintro e w1 ⟨rfl,hb⟩)
 go_ret
 exact ⟨rfl,hb⟩
set_option maxHeartbeats 4000000 in
theorem sameI (op : Int) (p1 p2 : Option Addr) (n1 c1 n2 c2 : Nat) (r : Bool) (w : World) (hP : ∀ W,Below w.heap.size w W → Calls Tryz.prog 164 #[.slice p1 n1 c1,.slice p2 n2 c2] W fun e w' => e = .returned (.bool r) ∧ Below W.heap.size W w') :
  Calls Tryz.prog 225 #[.agg #[.int .i64 op,.int .i64 0,.int .i64 0,.int .u64 0,.int .u64 0,.slice none 0 0,.slice p1 n1 c1,.slice none 0 0,.bool false],.agg #[.int .i64 op,.int .i64 0,.int .i64 0,.int .u64 0,.int .u64 0,.slice none 0 0,.slice p2 n2 c2,.slice none 0 0,.bool false]] w fun e w' => e = .returned (.bool r) ∧ Below w.heap.size w w' := by
 have HP := fun W h => hid (hP W h)
 have HE := fun W => hid (eq_nil_115 W)
 have HN := fun W => hid (sameCode_nil W)
 have d0 : (op == op) = true := by simp
 have HB0 := hid (((Below.refl w.heap.size w).alloc (Nat.le_refl _) (.cells #[.int .i64 op,.int .i64 0,.int .i64 0,.int .u64 0,.int .u64 0,.slice none 0 0,.slice p1 n1 c1,.slice none 0 0,.bool false] 39)).alloc (by rw [size_al]; omega) (.cells #[.int .i64 op,.int .i64 0,.int .i64 0,.int .u64 0,.int .u64 0,.slice none 0 0,.slice p2 n2 c2,.slice none 0 0,.bool false] 39))
 have HX0 := hid (CA.alloc (CA.new w #[.int .i64 op,.int .i64 0,.int .i64 0,.int .u64 0,.int .u64 0,.slice none 0 0,.slice p1 n1 c1,.slice none 0 0,.bool false] 39) (.cells #[.int .i64 op,.int .i64 0,.int .i64 0,.int .u64 0,.int .u64 0,.slice none 0 0,.slice p2 n2 c2,.slice none 0 0,.bool false] 39))
 have HY0 := hid (CA.new (w.alloc (.cells #[.int .i64 op,.int .i64 0,.int .i64 0,.int .u64 0,.int .u64 0,.slice none 0 0,.slice p1 n1 c1,.slice none 0 0,.bool false] 39)) #[.int .i64 op,.int .i64 0,.int .i64 0,.int .u64 0,.int .u64 0,.slice none 0 0,.slice p2 n2 c2,.slice none 0 0,.bool false] 39)
 rw [size_al] at HY0
 clear hP
 cases r
 all_goals
  go_enter Tryz.func225,Tryz.ntmps225
  go_wp2_with (first
   | (go_at_call 163; (with_reducible refine (HE _).out.mono ?_); rintro e w1 ⟨rfl,rfl⟩)
   | (go_at_call 164; (with_reducible refine (HP _ HB0.out).out.mono ?_); rintro e w2 ⟨rfl,hb2⟩; have HB2 := hid (HB0.out.trans (hb2.mono HB0.out.size)); have HX2 := hid (HX0.out.below hb2 HX0.out.lt); have HY2 := hid (HY0.out.below hb2 (by simp only [size_al]; omega)); have x2_7 := HX2.out.at (k := 7) (v := .slice none 0 0) rfl; have y2_7 := HY2.out.at (k := 7) (v := .slice none 0 0) rfl; clear hb2)
   | (go_at_call 164; (with_reducible refine (HN _).out.mono ?_); rintro e w3 ⟨rfl,rfl⟩))
  go_ret
  exact ⟨rfl,HB2.out⟩
theorem sameF (p1 p2 : Option Addr) (n1 c1 n2 c2 : Nat) (r : Bool) (w : World) (hP : ∀ W,Below w.heap.size w W → Calls Tryz.prog 164 #[.slice p1 n1 c1,.slice p2 n2 c2] W fun e w' => e = .returned (.bool r) ∧ Below W.heap.size W w') :
  Calls Tryz.prog 82 #[.agg #[.int .i64 0,.slice none 0 0,.slice p1 n1 c1],.agg #[.int .i64 0,.slice none 0 0,.slice p2 n2 c2]] w fun e w' => e = .returned (.bool r) ∧ Below w.heap.size w w' := by
 have HP := fun W h => hid (hP W h)
 have HE := fun W => hid (eq_nil_115 W)
 have HB0 := hid (((Below.refl w.heap.size w).alloc (Nat.le_refl _) (.cells #[.int .i64 0,.slice none 0 0,.slice p1 n1 c1] 42)).alloc (by rw [size_al]; omega) (.cells #[.int .i64 0,.slice none 0 0,.slice p2 n2 c2] 42))
 have HX0 := hid (CA.alloc (CA.new w #[.int .i64 0,.slice none 0 0,.slice p1 n1 c1] 42) (.cells #[.int .i64 0,.slice none 0 0,.slice p2 n2 c2] 42))
 have HY0 := hid (CA.new (w.alloc (.cells #[.int .i64 0,.slice none 0 0,.slice p1 n1 c1] 42)) #[.int .i64 0,.slice none 0 0,.slice p2 n2 c2] 42)
 rw [size_al] at HY0
 clear hP
 go_enter Tryz.func82,Tryz.ntmps82
 go_wp2_with (first
  | (go_at_call 163; (with_reducible refine (HE _).out.mono ?_); rintro e w1 ⟨rfl,rfl⟩)
  | (go_at_call 164; (with_reducible refine (HP _ HB0.out).out.mono ?_); rintro e w2 ⟨rfl,hb2⟩; have HB2 := hid (HB0.out.trans (hb2.mono HB0.out.size)); clear hb2))
 go_ret
 exact ⟨by simp,HB2.out⟩
theorem sameT (p1 p2 : Option Addr) (n1 c1 n2 c2 : Nat) (r : Bool) (w : World) (hP : ∀ W,Below w.heap.size w W → Calls Tryz.prog 163 #[.slice p1 n1 c1,.slice p2 n2 c2] W fun e w' => e = .returned (.bool r) ∧ Below W.heap.size W w') :
  Calls Tryz.prog 79 #[.agg #[.slice p1 n1 c1,.slice none 0 0],.agg #[.slice p2 n2 c2,.slice none 0 0]] w fun e w' => e = .returned (.bool r) ∧ Below w.heap.size w w' := by
 have HP := fun W h => hid (hP W h)
 have HE := fun W => hid (eq_nil_115 W)
 have HB0 := hid (((Below.refl w.heap.size w).alloc (Nat.le_refl _) (.cells #[.slice p1 n1 c1,.slice none 0 0] 67)).alloc (by rw [size_al]; omega) (.cells #[.slice p2 n2 c2,.slice none 0 0] 67))
 have HX0 := hid (CA.alloc (CA.new w #[.slice p1 n1 c1,.slice none 0 0] 67) (.cells #[.slice p2 n2 c2,.slice none 0 0] 67))
 have HY0 := hid (CA.new (w.alloc (.cells #[.slice p1 n1 c1,.slice none 0 0] 67)) #[.slice p2 n2 c2,.slice none 0 0] 67)
 rw [size_al] at HY0
 clear hP
 cases r
 all_goals
  go_enter Tryz.func79,Tryz.ntmps79
  go_wp2_with (first
   | (go_at_call 163; (with_reducible refine (HP _ HB0.out).out.mono ?_); rintro e w2 ⟨rfl,hb2⟩; have HB2 := hid (HB0.out.trans (hb2.mono HB0.out.size)); have HX2 := hid (HX0.out.below hb2 HX0.out.lt); have HY2 := hid (HY0.out.below hb2 (by simp only [size_al]; omega)); have x2_1 := HX2.out.at (k := 1) (v := .slice none 0 0) rfl; have y2_1 := HY2.out.at (k := 1) (v := .slice none 0 0) rfl; clear hb2)
   | (go_at_call 163; (with_reducible refine (HE _).out.mono ?_); rintro e w1 ⟨rfl,rfl⟩))
  go_ret
  exact ⟨rfl,HB2.out⟩
set_option maxHeartbeats 16000000 in
theorem Same_says (p1 p2 q1 q2 : Option Addr) (n1 c1 n2 c2 m1 e1 m2 e2 : Nat) (r1 r2 : Bool) (w : World)
  (hP : ∀ W,Below w.heap.size w W → Calls Tryz.prog 78 #[.slice p1 n1 c1,.slice p2 n2 c2,.func (.func 79) #[] #[]] W fun e w' => e = .returned (.bool r1) ∧ Below W.heap.size W w')
  (hQ : r1 = true → ∀ W,Below w.heap.size w W → Calls Tryz.prog 81 #[.slice q1 m1 e1,.slice q2 m2 e2,.func (.func 82) #[] #[]] W fun e w' => e = .returned (.bool r2) ∧ Below W.heap.size W w') :
  Calls Tryz.prog 19 #[.agg #[.slice p1 n1 c1,.slice none 0 0,.slice q1 m1 e1,.slice none 0 0,.slice none 0 0,.slice none 0 0,.slice none 0 0,.int .i64 0,.slice none 0 0,.slice none 0 0,.bool false],.agg #[.slice p2 n2 c2,.slice none 0 0,.slice q2 m2 e2,.slice none 0 0,.slice none 0 0,.slice none 0 0,.slice none 0 0,.int .i64 0,.slice none 0 0,.slice none 0 0,.bool false]] w fun e w' => e = .returned (.bool (r1 && r2)) ∧ Below w.heap.size w w' := by
 have HP := fun W h => hid (hP W h)
 have HN76 := fun W => hid (eq_nil_76 W)
 have HN79 := fun W => hid (eq_nil_79 W)
 have HN80 := fun W => hid (eq_nil_80 W)
 have HN83 := fun W => hid (eq_nil_83 W)
 have HN81 := fun W => hid (eqf_nil_81 86 W)
 have HN84 := fun W => hid (eqf_nil_84 89 W)
 have HN86 := fun W => hid (eqf_nil_86 91 W)
 have HB0 := hid (((Below.refl w.heap.size w).alloc (Nat.le_refl _) (.cells #[.slice p1 n1 c1,.slice none 0 0,.slice q1 m1 e1,.slice none 0 0,.slice none 0 0,.slice none 0 0,.slice none 0 0,.int .i64 0,.slice none 0 0,.slice none 0 0,.bool false] 32)).alloc (by rw [size_al]; omega) (.cells #[.slice p2 n2 c2,.slice none 0 0,.slice q2 m2 e2,.slice none 0 0,.slice none 0 0,.slice none 0 0,.slice none 0 0,.int .i64 0,.slice none 0 0,.slice none 0 0,.bool false] 32))
 have HX0 := hid (CA.alloc (CA.new w #[.slice p1 n1 c1,.slice none 0 0,.slice q1 m1 e1,.slice none 0 0,.slice none 0 0,.slice none 0 0,.slice none 0 0,.int .i64 0,.slice none 0 0,.slice none 0 0,.bool false] 32) (.cells #[.slice p2 n2 c2,.slice none 0 0,.slice q2 m2 e2,.slice none 0 0,.slice none 0 0,.slice none 0 0,.slice none 0 0,.int .i64 0,.slice none 0 0,.slice none 0 0,.bool false] 32))
 have HY0 := hid (CA.new (w.alloc (.cells #[.slice p1 n1 c1,.slice none 0 0,.slice q1 m1 e1,.slice none 0 0,.slice none 0 0,.slice none 0 0,.slice none 0 0,.int .i64 0,.slice none 0 0,.slice none 0 0,.bool false] 32)) #[.slice p2 n2 c2,.slice none 0 0,.slice q2 m2 e2,.slice none 0 0,.slice none 0 0,.slice none 0 0,.slice none 0 0,.int .i64 0,.slice none 0 0,.slice none 0 0,.bool false] 32)
 rw [size_al] at HY0
 clear hP
 cases r1 with
 | false =>
  clear hQ
  go_enter Tryz.func19,Tryz.ntmps19
  go_wp2_with (go_at_call 78; (with_reducible refine (HP _ HB0.out).out.mono ?_); rintro e w1 ⟨rfl,hb1⟩; have HB1 := hid (HB0.out.trans (hb1.mono HB0.out.size)); have HX1 := hid (HX0.out.below hb1 HX0.out.lt); have HY1 := hid (HY0.out.below hb1 (by simp only [size_al]; omega)); have x1_0 := HX1.out.at (k := 0) (v := .slice p1 n1 c1) rfl; have y1_0 := HY1.out.at (k := 0) (v := .slice p2 n2 c2) rfl; have x1_1 := HX1.out.at (k := 1) (v := .slice none 0 0) rfl; have y1_1 := HY1.out.at (k := 1) (v := .slice none 0 0) rfl; have x1_2 := HX1.out.at (k := 2) (v := .slice q1 m1 e1) rfl; have y1_2 := HY1.out.at (k := 2) (v := .slice q2 m2 e2) rfl; have x1_3 := HX1.out.at (k := 3) (v := .slice none 0 0) rfl; have y1_3 := HY1.out.at (k := 3) (v := .slice none 0 0) rfl; have x1_4 := HX1.out.at (k := 4) (v := .slice none 0 0) rfl; have y1_4 := HY1.out.at (k := 4) (v := .slice none 0 0) rfl; have x1_5 := HX1.out.at (k := 5) (v := .slice none 0 0) rfl; have y1_5 := HY1.out.at (k := 5) (v := .slice none 0 0) rfl; have x1_6 := HX1.out.at (k := 6) (v := .slice none 0 0) rfl; have y1_6 := HY1.out.at (k := 6) (v := .slice none 0 0) rfl; have x1_7 := HX1.out.at (k := 7) (v := .int .i64 0) rfl; have y1_7 := HY1.out.at (k := 7) (v := .int .i64 0) rfl; have x1_8 := HX1.out.at (k := 8) (v := .slice none 0 0) rfl; have y1_8 := HY1.out.at (k := 8) (v := .slice none 0 0) rfl; have x1_9 := HX1.out.at (k := 9) (v := .slice none 0 0) rfl; have y1_9 := HY1.out.at (k := 9) (v := .slice none 0 0) rfl; have x1_10 := HX1.out.at (k := 10) (v := .bool false) rfl; have y1_10 := HY1.out.at (k := 10) (v := .bool false) rfl; clear hb1)
  go_ret
  exact ⟨rfl,HB1.out⟩
 | true =>
  have HQ := fun W h => hid (hQ rfl W h)
  clear hQ
  cases r2
  all_goals
   go_enter Tryz.func19,Tryz.ntmps19
   go_wp2_with (first
    | (go_at_call 78; (with_reducible refine (HP _ HB0.out).out.mono ?_); rintro e w1 ⟨rfl,hb1⟩; have HB1 := hid (HB0.out.trans (hb1.mono HB0.out.size)); have HX1 := hid (HX0.out.below hb1 HX0.out.lt); have HY1 := hid (HY0.out.below hb1 (by simp only [size_al]; omega)); have x1_0 := HX1.out.at (k := 0) (v := .slice p1 n1 c1) rfl; have y1_0 := HY1.out.at (k := 0) (v := .slice p2 n2 c2) rfl; have x1_1 := HX1.out.at (k := 1) (v := .slice none 0 0) rfl; have y1_1 := HY1.out.at (k := 1) (v := .slice none 0 0) rfl; have x1_2 := HX1.out.at (k := 2) (v := .slice q1 m1 e1) rfl; have y1_2 := HY1.out.at (k := 2) (v := .slice q2 m2 e2) rfl; have x1_3 := HX1.out.at (k := 3) (v := .slice none 0 0) rfl; have y1_3 := HY1.out.at (k := 3) (v := .slice none 0 0) rfl; have x1_4 := HX1.out.at (k := 4) (v := .slice none 0 0) rfl; have y1_4 := HY1.out.at (k := 4) (v := .slice none 0 0) rfl; have x1_5 := HX1.out.at (k := 5) (v := .slice none 0 0) rfl; have y1_5 := HY1.out.at (k := 5) (v := .slice none 0 0) rfl; have x1_6 := HX1.out.at (k := 6) (v := .slice none 0 0) rfl; have y1_6 := HY1.out.at (k := 6) (v := .slice none 0 0) rfl; have x1_7 := HX1.out.at (k := 7) (v := .int .i64 0) rfl; have y1_7 := HY1.out.at (k := 7) (v := .int .i64 0) rfl; have x1_8 := HX1.out.at (k := 8) (v := .slice none 0 0) rfl; have y1_8 := HY1.out.at (k := 8) (v := .slice none 0 0) rfl; have x1_9 := HX1.out.at (k := 9) (v := .slice none 0 0) rfl; have y1_9 := HY1.out.at (k := 9) (v := .slice none 0 0) rfl; have x1_10 := HX1.out.at (k := 10) (v := .bool false) rfl; have y1_10 := HY1.out.at (k := 10) (v := .bool false) rfl; clear hb1)
    | (go_at_call 81; (with_reducible refine (HQ _ HB1.out).out.mono ?_); rintro e w2 ⟨rfl,hb2⟩; have HB2 := hid (HB1.out.trans (hb2.mono HB1.out.size)); have HX2 := hid (HX1.out.below hb2 HX1.out.lt); have HY2 := hid (HY1.out.below hb2 HY1.out.lt); have x2_0 := HX2.out.at (k := 0) (v := .slice p1 n1 c1) rfl; have y2_0 := HY2.out.at (k := 0) (v := .slice p2 n2 c2) rfl; have x2_1 := HX2.out.at (k := 1) (v := .slice none 0 0) rfl; have y2_1 := HY2.out.at (k := 1) (v := .slice none 0 0) rfl; have x2_2 := HX2.out.at (k := 2) (v := .slice q1 m1 e1) rfl; have y2_2 := HY2.out.at (k := 2) (v := .slice q2 m2 e2) rfl; have x2_3 := HX2.out.at (k := 3) (v := .slice none 0 0) rfl; have y2_3 := HY2.out.at (k := 3) (v := .slice none 0 0) rfl; have x2_4 := HX2.out.at (k := 4) (v := .slice none 0 0) rfl; have y2_4 := HY2.out.at (k := 4) (v := .slice none 0 0) rfl; have x2_5 := HX2.out.at (k := 5) (v := .slice none 0 0) rfl; have y2_5 := HY2.out.at (k := 5) (v := .slice none 0 0) rfl; have x2_6 := HX2.out.at (k := 6) (v := .slice none 0 0) rfl; have y2_6 := HY2.out.at (k := 6) (v := .slice none 0 0) rfl; have x2_7 := HX2.out.at (k := 7) (v := .int .i64 0) rfl; have y2_7 := HY2.out.at (k := 7) (v := .int .i64 0) rfl; have x2_8 := HX2.out.at (k := 8) (v := .slice none 0 0) rfl; have y2_8 := HY2.out.at (k := 8) (v := .slice none 0 0) rfl; have x2_9 := HX2.out.at (k := 9) (v := .slice none 0 0) rfl; have y2_9 := HY2.out.at (k := 9) (v := .slice none 0 0) rfl; have x2_10 := HX2.out.at (k := 10) (v := .bool false) rfl; have y2_10 := HY2.out.at (k := 10) (v := .bool false) rfl; clear hb2)
    | (go_at_call 80; (with_reducible refine (HN76 _).out.mono ?_); rintro e w9 ⟨rfl,rfl⟩)
    | (go_at_call 83; (with_reducible refine (HN79 _).out.mono ?_); rintro e w9 ⟨rfl,rfl⟩)
    | (go_at_call 84; (with_reducible refine (HN80 _).out.mono ?_); rintro e w9 ⟨rfl,rfl⟩)
    | (go_at_call 87; (with_reducible refine (HN83 _).out.mono ?_); rintro e w9 ⟨rfl,rfl⟩)
    | (go_at_call 85; (with_reducible refine (HN81 _).out.mono ?_); rintro e w9 ⟨rfl,rfl⟩)
    | (go_at_call 88; (with_reducible refine (HN84 _).out.mono ?_); rintro e w9 ⟨rfl,rfl⟩)
    | (go_at_call 90; (with_reducible refine (HN86 _).out.mono ?_); rintro e w9 ⟨rfl,rfl⟩))
   go_ret
   exact ⟨rfl,HB2.out⟩
end Go.Proofs.YtjgeedgphcjhoaaGreat
