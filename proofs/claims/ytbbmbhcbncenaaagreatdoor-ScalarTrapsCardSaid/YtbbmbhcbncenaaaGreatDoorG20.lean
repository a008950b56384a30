/-
  FSum64: merged, what the law does not reach left out (each text says what it holds where it lies in wip). No condition.
-/
import Derived.Test.YtbbmbhcbncenaaaGreatDoorG13
import Derived.Test.YtbbmbhcbncenaaaGreatDoorG01
set_option linter.unusedSimpArgs false
set_option linter.unusedVariables false
set_option maxRecDepth 100000
namespace Go.Proofs.YtbbmbhcbncenaaaGreatDoor.Fl
open Go.RowKit
set_option maxRecDepth 20000 in
set_option maxHeartbeats 12800000 in
theorem sum_64 (a b : Nat) (ha : a < 18446744073709551616) (hb : b < 18446744073709551616) (hna : a % 9223372036854775808 ≤ 9218868437227405312) (hnb : b % 9223372036854775808 ≤ 9218868437227405312) (w : World) :
  Calls Tryz.prog 162 #[.agg #[.int .i64 11,.int .i64 52],.int .u64 a,.int .u64 b] w fun r w' => r = .returned (.int .u64 ((sumW Ieee.double 9 9223372036854775808 9218868437227405312 9221120237041090560 52 (-1074) a b : Nat) : Int)) ∧ Below w.heap.size w w' := by
 obtain ⟨R,hR⟩ : ∃ R : Nat,R = sumW Ieee.double 9 9223372036854775808 9218868437227405312 9221120237041090560 52 (-1074) a b := ⟨_,rfl⟩
 rw [← hR]
 have SA := fun w => hid (size_64 a ha w)
 have SBB := fun w => hid (size_64 b hb w)
 obtain ⟨sa,hsa⟩ : ∃ sa : Nat,sa = a % 9223372036854775808 := ⟨_,rfl⟩
 obtain ⟨sb,hsb⟩ : ∃ sb : Nat,sb = b % 9223372036854775808 := ⟨_,rfl⟩
 rw [← hsa] at SA hna
 rw [← hsb] at SBB hnb
 have HRR := hid hR
 have HSA := hid hsa
 have HSB := hid hsb
 have HAB := hid (And.intro ha (And.intro hb (And.intro hna hnb)))
 clear hR hsa hsb ha hb hna hnb
 go_enter Tryz.func162,Tryz.ntmps162
 go_upto_region 1 with fail
 go_cut [18] (fun s18 wx => s18 = .bool (decide (sa < sb)) ∧ Sx 11 52 w wx)
 case first =>
  have hS := Sx.new 11 52 w
  obtain ⟨c0,c1⟩ := id hS.1
  go_region_held3 (fun w' => w'.cell? ⟨w.heap.size,0,none⟩ = some (.int .i64 11) ∧ w'.cell? ⟨w.heap.size,1,none⟩ = some (.int .i64 52) ∧ Sx 11 52 w w')
   (first
    | exact ⟨c0,c1,hS.drew⟩
    | (go_split_ands; exact ⟨bkeep ‹_› hb,bkeep ‹_› hb,Sx.call ‹_› hb⟩))
   (first
    | (go_at_call 130; ((with_reducible refine (SA _).out.mono ?_); rintro e w' ⟨rfl,hb⟩))
    | (go_at_call 130; ((with_reducible refine (SBB _).out.mono ?_); rintro e w' ⟨rfl,hb⟩)))
  all_goals
   (go_wp2_with fail)
   go_meet
   go_split_ands
   exact ⟨by simp,‹_›⟩
 case rest =>
  obtain ⟨rfl,hS⟩ := hcut
  have HS := hid hS
  clear hS SA SBB
  obtain ⟨a1,ha1⟩ : ∃ a1 : Nat,a1 = if sa < sb then b else a := ⟨_,rfl⟩
  obtain ⟨b1,hb1⟩ : ∃ b1 : Nat,b1 = if sa < sb then a else b := ⟨_,rfl⟩
  have HA1 := hid ha1
  have HB1 := hid hb1
  clear ha1 hb1
  go_upto_if 18 with fail
  go_cut [1,2] (fun s1 s2 wx => s1 = .int .u64 a1 ∧ s2 = .int .u64 b1 ∧ Sx 11 52 w wx)
  case first =>
   by_cases hlt : sa < sb
   ·have e1 : a1 = b := by rw [HA1.out,if_pos hlt]
    have e2 : b1 = a := by rw [HB1.out,if_pos hlt]
    rw [show decide (sa < sb) = true by simp [hlt]]
    subst e1 e2
    clear hlt
    go_wp2
    go_meet
    exact ⟨rfl,rfl,HS.out⟩
   ·have e1 : a1 = a := by rw [HA1.out,if_neg hlt]
    have e2 : b1 = b := by rw [HB1.out,if_neg hlt]
    rw [show decide (sa < sb) = false by simp [hlt]]
    subst e1 e2
    clear hlt
    go_wp2
    go_meet
    exact ⟨rfl,rfl,HS.out⟩
  case rest =>
   clear HS
   obtain ⟨rfl,rfl,hS⟩ := hcut
   have HS := hid hS
   obtain ⟨c0,c1⟩ := id hS.1
   clear hS
   have hO : R = sumO Ieee.double 9 9223372036854775808 9218868437227405312 9221120237041090560 52 (-1074) a1 b1 ∧ a1 < 18446744073709551616 ∧ b1 < 18446744073709551616 ∧ a1 % 9223372036854775808 ≤ 9218868437227405312 ∧ b1 % 9223372036854775808 ≤ a1 % 9223372036854775808 := by
    have h1 := HRR.out
    have h2 := HSA.out
    have h3 := HSB.out
    have h4 := HAB.out
    unfold sumW at h1
    rw [← h2,← h3] at h1
    by_cases hlt : sa < sb
    ·rw [if_pos hlt] at h1
     have e1 : a1 = b := by rw [HA1.out,if_pos hlt]
     have e2 : b1 = a := by rw [HB1.out,if_pos hlt]
     rw [e1,e2]
     exact ⟨h1,by omega⟩
    ·rw [if_neg hlt] at h1
     have e1 : a1 = a := by rw [HA1.out,if_neg hlt]
     have e2 : b1 = b := by rw [HB1.out,if_neg hlt]
     rw [e1,e2]
     exact ⟨h1,by omega⟩
   clear HRR HSA HSB HAB HA1 HB1
   obtain ⟨hO,ha1,hb1,hi1,hle⟩ := hO
   have KA := fun w => hid (kind_64 a1 ha1 w)
   have OPP := fun w => hid (opposite_64 a1 ha1 w)
   have PA := fun w => hid (parts_64 a1 ha1 w)
   have PB := fun w => hid (parts_64 b1 hb1 w)
   by_cases hinf : a1 % 9223372036854775808 = 9218868437227405312
   ·rw [hinf] at KA
    have hk : kindOf 9218868437227405312 9218868437227405312 = 3 := rfl
    rw [hk] at KA
    unfold sumO at hO
    rw [if_pos hinf] at hO
    obtain ⟨o,ho⟩ : ∃ o : Nat,o = oppN 9223372036854775808 a1 := ⟨_,rfl⟩
    rw [← ho] at hO
    have OP2 : ∀ W,Hid (Calls Tryz.prog 131 #[.agg #[.int .i64 11,.int .i64 52],.int .u64 a1] W fun e w' => e = .returned (.int .u64 (o : Int)) ∧ Below W.heap.size W w') := fun W => by rw [ho]; exact OPP W
    clear PA PB hinf hk ho OPP hi1 hle ha1 hb1
    by_cases he : b1 = o
    ·rw [if_pos he] at hO
     subst hO he
     go_wp2_with (first
      | (go_at_call 157; ((with_reducible refine (KA _).out.mono ?_); rintro e w1 ⟨rfl,hb⟩; replace HS := hid (HS.out.call hb); have c0 := HS.out.1.1; have c1 := HS.out.1.2))
      | (go_at_call 131; ((with_reducible refine (OP2 _).out.mono ?_); rintro e w1 ⟨rfl,hb⟩; replace HS := hid (HS.out.call hb); have c0 := HS.out.1.1; have c1 := HS.out.1.2))
      | (go_at_call 158; ((with_reducible refine (canonical_64 _).mono ?_); rintro e w1 ⟨rfl,hb⟩; replace HS := hid (HS.out.call hb))))
     go_ret
     exact ⟨rfl,HS.out.2⟩
    ·rw [if_neg he] at hO
     have hne : ((b1 : Int) == (o : Int)) = false := by simp; omega
     subst hO
     clear he
     go_wp2_with (first
      | (go_at_call 157; ((with_reducible refine (KA _).out.mono ?_); rintro e w1 ⟨rfl,hb⟩; replace HS := hid (HS.out.call hb); have c0 := HS.out.1.1; have c1 := HS.out.1.2))
      | (go_at_call 131; ((with_reducible refine (OP2 _).out.mono ?_); rintro e w1 ⟨rfl,hb⟩; replace HS := hid (HS.out.call hb); have c0 := HS.out.1.1; have c1 := HS.out.1.2)))
     go_ret
     exact ⟨rfl,HS.out.2⟩
   ·unfold sumO at hO
    rw [if_neg hinf] at hO
    obtain ⟨k,hk⟩ : ∃ k : Nat,k = kindOf 9218868437227405312 (a1 % 9223372036854775808) := ⟨_,rfl⟩
    have hk3 : ((k : Int) == 3) = false := by
     have : k ≠ 3 := by
      rw [hk]; unfold kindOf
      by_cases h1 : a1 % 9223372036854775808 = 0
      ·rw [if_pos h1]; decide
      ·rw [if_neg h1]
       by_cases h2 : a1 % 9223372036854775808 < 9218868437227405312
       ·rw [if_pos h2]; decide
       ·omega
     simp; omega
    rw [← hk] at KA
    obtain ⟨ap,hap,hge,hmx,hapq⟩ := parts_ord 52 (-1074) hle
    have hsz : a1 % 9223372036854775808 / 2 ^ 52 ≤ 2046 ∧ b1 % 9223372036854775808 / 2 ^ 52 ≤ 2046 := by
     show a1 % 9223372036854775808 / 4503599627370496 ≤ 2046 ∧ b1 % 9223372036854775808 / 4503599627370496 ≤ 2046
     omega
    have he1b := pe_eq 52 (-1074) (a1 % 9223372036854775808)
    have he2b := pe_eq 52 (-1074) (b1 % 9223372036854775808)
    have hm1 := pm_lt 52 (a1 % 9223372036854775808)
    have hm2 := pm_lt 52 (b1 % 9223372036854775808)
    generalize a1 % 9223372036854775808 / 2 ^ 52 = q1 at *
    generalize b1 % 9223372036854775808 / 2 ^ 52 = q2 at *
    obtain ⟨n1,hn1⟩ : ∃ n1 : Bool,n1 = decide (9223372036854775808 ≤ a1) := ⟨_,rfl⟩
    obtain ⟨n2,hn2⟩ : ∃ n2 : Bool,n2 = decide (9223372036854775808 ≤ b1) := ⟨_,rfl⟩
    obtain ⟨m1,hm1e⟩ : ∃ m1 : Nat,m1 = pm 52 (a1 % 9223372036854775808) := ⟨_,rfl⟩
    obtain ⟨m2,hm2e⟩ : ∃ m2 : Nat,m2 = pm 52 (b1 % 9223372036854775808) := ⟨_,rfl⟩
    obtain ⟨e1,he1e⟩ : ∃ e1 : Int,e1 = pe 52 (-1074) (a1 % 9223372036854775808) := ⟨_,rfl⟩
    obtain ⟨e2,he2e⟩ : ∃ e2 : Int,e2 = pe 52 (-1074) (b1 % 9223372036854775808) := ⟨_,rfl⟩
    rw [← hn1,← hm1e,← he1e] at PA
    rw [← hn2,← hm2e,← he2e] at PB
    rw [← hn1,← hn2,← hm1e,← hm2e,← he1e,← he2e] at hO
    rw [← hm1e] at hm1 hge hmx
    rw [← hm2e] at hm2 hge
    rw [← he1e] at he1b hap
    rw [← he2e] at he2b hap
    rw [show (e1 - e2).toNat = ap by omega] at hO
    have HNUM := hid (And.intro hap (And.intro hge (And.intro hmx (And.intro hm1 (And.intro hm2 (And.intro he1b (And.intro he2b (And.intro hsz hapq))))))))
    have HO := hid hO
    clear hO hn1 hn2 hm1e hm2e he1e he2e hap hge hmx hm1 hm2 he1b he2b hsz hapq hinf hk hi1 hle ha1 hb1 OPP
    go_upto_region 7 with (first
      | (go_at_call 157; ((with_reducible refine (KA _).out.mono ?_); rintro e w1 ⟨rfl,hb⟩; replace HS := hid (HS.out.call hb); have c0 := HS.out.1.1; have c1 := HS.out.1.2)))
    rename_i wk _ _
    go_cut [7,8] (fun s7 s8 wx => ∃ gx gy : Nat,s7 = .pointer (some ⟨gx,0,none⟩) ∧ s8 = .pointer (some ⟨gy,0,none⟩) ∧ Nb gx n1 m1 e1 wx ∧ Nb gy n2 m2 e2 wx ∧ w.heap.size < gx ∧ w.heap.size < gy ∧ gx ≠ gy ∧ Sx 11 52 w wx)
    case first =>
     have hS := HS.out.drew
     refine wp_region_held_drew (S := Sx 11 52 w) (by kernel_rfl) hS (fun _ => ?_)
     clear HNUM HO KA hk3 c0 c1 HS hb
     generalize w1.drew = W at *
     refine zt 0 (.agg #[.int .i64 11,.int .i64 52]) rfl ?_ ?_
     ·(intro W hSw; obtain ⟨⟨c0,c1⟩,-⟩ := hSw; go_simp; try (with_reducible rfl))
     try simp only [Act.put,sl2,sl0,sl1]
     refine zt 1 (.int .u64 a1) rfl ?_ ?_
     ·(intro W hSw; obtain ⟨⟨c0,c1⟩,-⟩ := hSw; go_simp; try (with_reducible rfl))
     try simp only [Act.put,sl2,sl0,sl1]
     refine zt 3 (.agg #[.int .i64 11,.int .i64 52]) rfl ?_ ?_
     ·(intro W hSw; obtain ⟨⟨c0,c1⟩,-⟩ := hSw; go_simp; try (with_reducible rfl))
     try simp only [Act.put,sl2,sl0,sl1]
     refine zt 4 (.int .u64 b1) rfl ?_ ?_
     ·(intro W hSw; obtain ⟨⟨c0,c1⟩,-⟩ := hSw; go_simp; try (with_reducible rfl))
     try simp only [Act.put,sl2,sl0,sl1]
     refine zm [2,6,7] ?_
     refine zc rfl (fun K hK => ?_) ?_
     ·go_simp
      go_at_call 160
      (with_reducible refine (PA _).out.mono ?_)
      rintro e W1 ⟨rfl,hb⟩
      replace hS := hS.call hb
      clear hb
      refine hK.out _ _ hS (fun _ => ?_)
      clear hK K
      try simp only [Act.put,sl2,sl0,sl1]
      refine zm [5,6,7] ?_
      refine zc rfl (fun K hK => ?_) ?_
      ·go_simp
       go_at_call 160
       (with_reducible refine (PB _).out.mono ?_)
       rintro e W2 ⟨rfl,hb⟩
       replace hS := hS.call hb
       clear hb
       refine hK.out _ _ hS (fun _ => ?_)
       clear hK K
       try simp only [Act.put,sl2,sl0,sl1]
       refine zm [6,7] ?_
       refine zc rfl (fun K hK => ?_) ?_
       ·go_simp
        have l_Fgx := hS.lt
        have hX := Nb.new false 0 0 W2
        replace hS := hS.alloc (.cells #[.bool false,.int .u64 0,.int .i64 0] 153)
        generalize World.alloc W2 (.cells #[.bool false,.int .u64 0,.int .i64 0] 153) = W3 at *
        generalize W2.heap.size = gx at *
        refine hK.out _ _ hS (fun _ => ?_)
        clear hK K
        try simp only [Act.put,sl2,sl0,sl1]
        refine zr 7 rfl (fun K hK => ?_)
        go_simp
        have l_Fgy := hS.lt
        have l_hXgy := hX.lt
        have hY := Nb.new false 0 0 W3
        replace hS := hS.alloc (.cells #[.bool false,.int .u64 0,.int .i64 0] 153)
        replace hX := hX.alloc (.cells #[.bool false,.int .u64 0,.int .i64 0] 153)
        generalize World.alloc W3 (.cells #[.bool false,.int .u64 0,.int .i64 0] 153) = W4 at *
        generalize W3.heap.size = gy at *
        refine hK.out _ _ hS (fun _ => ?_)
        clear hK K
        try simp only [Act.put,sl2,sl0,sl1]
        refine zr 8 rfl (fun K hK => ?_)
        obtain ⟨⟨x0,x1,x2⟩,x3,x4,x5⟩ := id hX
        go_simp
        clear x0 x1 x2 x3 x4 x5
        replace hS := hS.set3 (c := gx) (.bool n1) (.int .u64 m1) (.int .i64 e1) l_Fgx
        replace hY := hY.set3 (c := gx) (.bool n1) (.int .u64 m1) (.int .i64 e1) (by omega)
        replace hX := hX.store (ng' := n1) (m' := m1) (e' := e1)
        generalize ((W4.setCell ⟨gx,0,none⟩ (.bool n1)).setCell ⟨gx,1,none⟩ (.int .u64 m1)).setCell ⟨gx,2,none⟩ (.int .i64 e1) = W5 at *
        refine hK.out _ _ hS (fun _ => ?_)
        clear hK K
        try simp only [Act.put,sl2,sl0,sl1]
        refine zr 9 rfl (fun K hK => ?_)
        obtain ⟨⟨x0,x1,x2⟩,x3,x4,x5⟩ := id hY
        go_simp
        clear x0 x1 x2 x3 x4 x5
        replace hS := hS.set3 (c := gy) (.bool n2) (.int .u64 m2) (.int .i64 e2) l_Fgy
        replace hX := hX.set3 (c := gy) (.bool n2) (.int .u64 m2) (.int .i64 e2) (by omega)
        replace hY := hY.store (ng' := n2) (m' := m2) (e' := e2)
        generalize ((W5.setCell ⟨gy,0,none⟩ (.bool n2)).setCell ⟨gy,1,none⟩ (.int .u64 m2)).setCell ⟨gy,2,none⟩ (.int .i64 e2) = W6 at *
        refine hK.out _ _ hS (fun _ => ?_)
        clear hK K
        try simp only [Act.put,sl2,sl0,sl1]
        refine wpAnyH_done (by kernel_rfl) ?_ _
        (go_wp2_with fail)
        go_meet
        exact ⟨gx,gy,rfl,rfl,hX,hY,l_Fgx,l_Fgy,by omega,hS⟩
       refine zc rfl (fun K hK => ?_) ?_
       ·go_simp
        have l_Fgy := hS.lt
        have hY := Nb.new false 0 0 W2
        replace hS := hS.alloc (.cells #[.bool false,.int .u64 0,.int .i64 0] 153)
        generalize World.alloc W2 (.cells #[.bool false,.int .u64 0,.int .i64 0] 153) = W3 at *
        generalize W2.heap.size = gy at *
        refine hK.out _ _ hS (fun _ => ?_)
        clear hK K
        try simp only [Act.put,sl2,sl0,sl1]
        refine zr 6 rfl (fun K hK => ?_)
        go_simp
        have l_Fgx := hS.lt
        have l_hYgx := hY.lt
        have hX := Nb.new false 0 0 W3
        replace hS := hS.alloc (.cells #[.bool false,.int .u64 0,.int .i64 0] 153)
        replace hY := hY.alloc (.cells #[.bool false,.int .u64 0,.int .i64 0] 153)
        generalize World.alloc W3 (.cells #[.bool false,.int .u64 0,.int .i64 0] 153) = W4 at *
        generalize W3.heap.size = gx at *
        refine hK.out _ _ hS (fun _ => ?_)
        clear hK K
        try simp only [Act.put,sl2,sl0,sl1]
        refine zr 8 rfl (fun K hK => ?_)
        obtain ⟨⟨x0,x1,x2⟩,x3,x4,x5⟩ := id hX
        go_simp
        clear x0 x1 x2 x3 x4 x5
        replace hS := hS.set3 (c := gx) (.bool n1) (.int .u64 m1) (.int .i64 e1) l_Fgx
        replace hY := hY.set3 (c := gx) (.bool n1) (.int .u64 m1) (.int .i64 e1) (by omega)
        replace hX := hX.store (ng' := n1) (m' := m1) (e' := e1)
        generalize ((W4.setCell ⟨gx,0,none⟩ (.bool n1)).setCell ⟨gx,1,none⟩ (.int .u64 m1)).setCell ⟨gx,2,none⟩ (.int .i64 e1) = W5 at *
        refine hK.out _ _ hS (fun _ => ?_)
        clear hK K
        try simp only [Act.put,sl2,sl0,sl1]
        refine zr 9 rfl (fun K hK => ?_)
        obtain ⟨⟨x0,x1,x2⟩,x3,x4,x5⟩ := id hY
        go_simp
        clear x0 x1 x2 x3 x4 x5
        replace hS := hS.set3 (c := gy) (.bool n2) (.int .u64 m2) (.int .i64 e2) l_Fgy
        replace hX := hX.set3 (c := gy) (.bool n2) (.int .u64 m2) (.int .i64 e2) (by omega)
        replace hY := hY.store (ng' := n2) (m' := m2) (e' := e2)
        generalize ((W5.setCell ⟨gy,0,none⟩ (.bool n2)).setCell ⟨gy,1,none⟩ (.int .u64 m2)).setCell ⟨gy,2,none⟩ (.int .i64 e2) = W6 at *
        refine hK.out _ _ hS (fun _ => ?_)
        clear hK K
        try simp only [Act.put,sl2,sl0,sl1]
        refine wpAnyH_done (by kernel_rfl) ?_ _
        (go_wp2_with fail)
        go_meet
        exact ⟨gx,gy,rfl,rfl,hX,hY,l_Fgx,l_Fgy,by omega,hS⟩
       exact zn
      refine zc rfl (fun K hK => ?_) ?_
      ·go_simp
       have l_Fgx := hS.lt
       have hX := Nb.new false 0 0 W1
       replace hS := hS.alloc (.cells #[.bool false,.int .u64 0,.int .i64 0] 153)
       generalize World.alloc W1 (.cells #[.bool false,.int .u64 0,.int .i64 0] 153) = W2 at *
       generalize W1.heap.size = gx at *
       refine hK.out _ _ hS (fun _ => ?_)
       clear hK K
       try simp only [Act.put,sl2,sl0,sl1]
       refine zm [5,7] ?_
       refine zc rfl (fun K hK => ?_) ?_
       ·go_simp
        go_at_call 160
        (with_reducible refine (PB _).out.mono ?_)
        rintro e W3 ⟨rfl,hb⟩
        replace hS := hS.call hb
        replace hX := hX.call hb
        clear hb
        refine hK.out _ _ hS (fun _ => ?_)
        clear hK K
        try simp only [Act.put,sl2,sl0,sl1]
        refine zr 7 rfl (fun K hK => ?_)
        go_simp
        have l_Fgy := hS.lt
        have l_hXgy := hX.lt
        have hY := Nb.new false 0 0 W3
        replace hS := hS.alloc (.cells #[.bool false,.int .u64 0,.int .i64 0] 153)
        replace hX := hX.alloc (.cells #[.bool false,.int .u64 0,.int .i64 0] 153)
        generalize World.alloc W3 (.cells #[.bool false,.int .u64 0,.int .i64 0] 153) = W4 at *
        generalize W3.heap.size = gy at *
        refine hK.out _ _ hS (fun _ => ?_)
        clear hK K
        try simp only [Act.put,sl2,sl0,sl1]
        refine zr 8 rfl (fun K hK => ?_)
        obtain ⟨⟨x0,x1,x2⟩,x3,x4,x5⟩ := id hX
        go_simp
        clear x0 x1 x2 x3 x4 x5
        replace hS := hS.set3 (c := gx) (.bool n1) (.int .u64 m1) (.int .i64 e1) l_Fgx
        replace hY := hY.set3 (c := gx) (.bool n1) (.int .u64 m1) (.int .i64 e1) (by omega)
        replace hX := hX.store (ng' := n1) (m' := m1) (e' := e1)
        generalize ((W4.setCell ⟨gx,0,none⟩ (.bool n1)).setCell ⟨gx,1,none⟩ (.int .u64 m1)).setCell ⟨gx,2,none⟩ (.int .i64 e1) = W5 at *
        refine hK.out _ _ hS (fun _ => ?_)
        clear hK K
        try simp only [Act.put,sl2,sl0,sl1]
        refine zr 9 rfl (fun K hK => ?_)
        obtain ⟨⟨x0,x1,x2⟩,x3,x4,x5⟩ := id hY
        go_simp
        clear x0 x1 x2 x3 x4 x5
        replace hS := hS.set3 (c := gy) (.bool n2) (.int .u64 m2) (.int .i64 e2) l_Fgy
        replace hX := hX.set3 (c := gy) (.bool n2) (.int .u64 m2) (.int .i64 e2) (by omega)
        replace hY := hY.store (ng' := n2) (m' := m2) (e' := e2)
        generalize ((W5.setCell ⟨gy,0,none⟩ (.bool n2)).setCell ⟨gy,1,none⟩ (.int .u64 m2)).setCell ⟨gy,2,none⟩ (.int .i64 e2) = W6 at *
        refine hK.out _ _ hS (fun _ => ?_)
        clear hK K
        try simp only [Act.put,sl2,sl0,sl1]
        refine wpAnyH_done (by kernel_rfl) ?_ _
        (go_wp2_with fail)
        go_meet
        exact ⟨gx,gy,rfl,rfl,hX,hY,l_Fgx,l_Fgy,by omega,hS⟩
       refine zc rfl (fun K hK => ?_) ?_
       ·go_simp
        have l_Fgy := hS.lt
        have l_hXgy := hX.lt
        have hY := Nb.new false 0 0 W2
        replace hS := hS.alloc (.cells #[.bool false,.int .u64 0,.int .i64 0] 153)
        replace hX := hX.alloc (.cells #[.bool false,.int .u64 0,.int .i64 0] 153)
        generalize World.alloc W2 (.cells #[.bool false,.int .u64 0,.int .i64 0] 153) = W3 at *
        generalize W2.heap.size = gy at *
        refine hK.out _ _ hS (fun _ => ?_)
        clear hK K
        try simp only [Act.put,sl2,sl0,sl1]
        refine zr 5 rfl (fun K hK => ?_)
        go_simp
        go_at_call 160
        (with_reducible refine (PB _).out.mono ?_)
        rintro e W4 ⟨rfl,hb⟩
        replace hS := hS.call hb
        replace hX := hX.call hb
        replace hY := hY.call hb
        clear hb
        refine hK.out _ _ hS (fun _ => ?_)
        clear hK K
        try simp only [Act.put,sl2,sl0,sl1]
        refine zr 8 rfl (fun K hK => ?_)
        obtain ⟨⟨x0,x1,x2⟩,x3,x4,x5⟩ := id hX
        go_simp
        clear x0 x1 x2 x3 x4 x5
        replace hS := hS.set3 (c := gx) (.bool n1) (.int .u64 m1) (.int .i64 e1) l_Fgx
        replace hY := hY.set3 (c := gx) (.bool n1) (.int .u64 m1) (.int .i64 e1) (by omega)
        replace hX := hX.store (ng' := n1) (m' := m1) (e' := e1)
        generalize ((W4.setCell ⟨gx,0,none⟩ (.bool n1)).setCell ⟨gx,1,none⟩ (.int .u64 m1)).setCell ⟨gx,2,none⟩ (.int .i64 e1) = W5 at *
        refine hK.out _ _ hS (fun _ => ?_)
        clear hK K
        try simp only [Act.put,sl2,sl0,sl1]
        refine zr 9 rfl (fun K hK => ?_)
        obtain ⟨⟨x0,x1,x2⟩,x3,x4,x5⟩ := id hY
        go_simp
        clear x0 x1 x2 x3 x4 x5
        replace hS := hS.set3 (c := gy) (.bool n2) (.int .u64 m2) (.int .i64 e2) l_Fgy
        replace hX := hX.set3 (c := gy) (.bool n2) (.int .u64 m2) (.int .i64 e2) (by omega)
        replace hY := hY.store (ng' := n2) (m' := m2) (e' := e2)
        generalize ((W5.setCell ⟨gy,0,none⟩ (.bool n2)).setCell ⟨gy,1,none⟩ (.int .u64 m2)).setCell ⟨gy,2,none⟩ (.int .i64 e2) = W6 at *
        refine hK.out _ _ hS (fun _ => ?_)
        clear hK K
        try simp only [Act.put,sl2,sl0,sl1]
        refine wpAnyH_done (by kernel_rfl) ?_ _
        (go_wp2_with fail)
        go_meet
        exact ⟨gx,gy,rfl,rfl,hX,hY,l_Fgx,l_Fgy,by omega,hS⟩
       exact zn
      refine zc rfl (fun K hK => ?_) ?_
      ·go_simp
       have l_Fgy := hS.lt
       have hY := Nb.new false 0 0 W1
       replace hS := hS.alloc (.cells #[.bool false,.int .u64 0,.int .i64 0] 153)
       generalize World.alloc W1 (.cells #[.bool false,.int .u64 0,.int .i64 0] 153) = W2 at *
       generalize W1.heap.size = gy at *
       refine hK.out _ _ hS (fun _ => ?_)
       clear hK K
       try simp only [Act.put,sl2,sl0,sl1]
       refine zm [5,6] ?_
       refine zc rfl (fun K hK => ?_) ?_
       ·go_simp
        go_at_call 160
        (with_reducible refine (PB _).out.mono ?_)
        rintro e W3 ⟨rfl,hb⟩
        replace hS := hS.call hb
        replace hY := hY.call hb
        clear hb
        refine hK.out _ _ hS (fun _ => ?_)
        clear hK K
        try simp only [Act.put,sl2,sl0,sl1]
        refine zr 6 rfl (fun K hK => ?_)
        go_simp
        have l_Fgx := hS.lt
        have l_hYgx := hY.lt
        have hX := Nb.new false 0 0 W3
        replace hS := hS.alloc (.cells #[.bool false,.int .u64 0,.int .i64 0] 153)
        replace hY := hY.alloc (.cells #[.bool false,.int .u64 0,.int .i64 0] 153)
        generalize World.alloc W3 (.cells #[.bool false,.int .u64 0,.int .i64 0] 153) = W4 at *
        generalize W3.heap.size = gx at *
        refine hK.out _ _ hS (fun _ => ?_)
        clear hK K
        try simp only [Act.put,sl2,sl0,sl1]
        refine zr 8 rfl (fun K hK => ?_)
        obtain ⟨⟨x0,x1,x2⟩,x3,x4,x5⟩ := id hX
        go_simp
        clear x0 x1 x2 x3 x4 x5
        replace hS := hS.set3 (c := gx) (.bool n1) (.int .u64 m1) (.int .i64 e1) l_Fgx
        replace hY := hY.set3 (c := gx) (.bool n1) (.int .u64 m1) (.int .i64 e1) (by omega)
        replace hX := hX.store (ng' := n1) (m' := m1) (e' := e1)
        generalize ((W4.setCell ⟨gx,0,none⟩ (.bool n1)).setCell ⟨gx,1,none⟩ (.int .u64 m1)).setCell ⟨gx,2,none⟩ (.int .i64 e1) = W5 at *
        refine hK.out _ _ hS (fun _ => ?_)
        clear hK K
        try simp only [Act.put,sl2,sl0,sl1]
        refine zr 9 rfl (fun K hK => ?_)
        obtain ⟨⟨x0,x1,x2⟩,x3,x4,x5⟩ := id hY
        go_simp
        clear x0 x1 x2 x3 x4 x5
        replace hS := hS.set3 (c := gy) (.bool n2) (.int .u64 m2) (.int .i64 e2) l_Fgy
        replace hX := hX.set3 (c := gy) (.bool n2) (.int .u64 m2) (.int .i64 e2) (by omega)
        replace hY := hY.store (ng' := n2) (m' := m2) (e' := e2)
        generalize ((W5.setCell ⟨gy,0,none⟩ (.bool n2)).setCell ⟨gy,1,none⟩ (.int .u64 m2)).setCell ⟨gy,2,none⟩ (.int .i64 e2) = W6 at *
        refine hK.out _ _ hS (fun _ => ?_)
        clear hK K
        try simp only [Act.put,sl2,sl0,sl1]
        refine wpAnyH_done (by kernel_rfl) ?_ _
        (go_wp2_with fail)
        go_meet
        exact ⟨gx,gy,rfl,rfl,hX,hY,l_Fgx,l_Fgy,by omega,hS⟩
       refine zc rfl (fun K hK => ?_) ?_
       ·go_simp
        have l_Fgx := hS.lt
        have l_hYgx := hY.lt
        have hX := Nb.new false 0 0 W2
        replace hS := hS.alloc (.cells #[.bool false,.int .u64 0,.int .i64 0] 153)
        replace hY := hY.alloc (.cells #[.bool false,.int .u64 0,.int .i64 0] 153)
        generalize World.alloc W2 (.cells #[.bool false,.int .u64 0,.int .i64 0] 153) = W3 at *
        generalize W2.heap.size = gx at *
        refine hK.out _ _ hS (fun _ => ?_)
        clear hK K
        try simp only [Act.put,sl2,sl0,sl1]
        refine zr 5 rfl (fun K hK => ?_)
        go_simp
        go_at_call 160
        (with_reducible refine (PB _).out.mono ?_)
        rintro e W4 ⟨rfl,hb⟩
        replace hS := hS.call hb
        replace hY := hY.call hb
        replace hX := hX.call hb
        clear hb
        refine hK.out _ _ hS (fun _ => ?_)
        clear hK K
        try simp only [Act.put,sl2,sl0,sl1]
        refine zr 8 rfl (fun K hK => ?_)
        obtain ⟨⟨x0,x1,x2⟩,x3,x4,x5⟩ := id hX
        go_simp
        clear x0 x1 x2 x3 x4 x5
        replace hS := hS.set3 (c := gx) (.bool n1) (.int .u64 m1) (.int .i64 e1) l_Fgx
        replace hY := hY.set3 (c := gx) (.bool n1) (.int .u64 m1) (.int .i64 e1) (by omega)
        replace hX := hX.store (ng' := n1) (m' := m1) (e' := e1)
        generalize ((W4.setCell ⟨gx,0,none⟩ (.bool n1)).setCell ⟨gx,1,none⟩ (.int .u64 m1)).setCell ⟨gx,2,none⟩ (.int .i64 e1) = W5 at *
        refine hK.out _ _ hS (fun _ => ?_)
        clear hK K
        try simp only [Act.put,sl2,sl0,sl1]
        refine zr 9 rfl (fun K hK => ?_)
        obtain ⟨⟨x0,x1,x2⟩,x3,x4,x5⟩ := id hY
        go_simp
        clear x0 x1 x2 x3 x4 x5
        replace hS := hS.set3 (c := gy) (.bool n2) (.int .u64 m2) (.int .i64 e2) l_Fgy
        replace hX := hX.set3 (c := gy) (.bool n2) (.int .u64 m2) (.int .i64 e2) (by omega)
        replace hY := hY.store (ng' := n2) (m' := m2) (e' := e2)
        generalize ((W5.setCell ⟨gy,0,none⟩ (.bool n2)).setCell ⟨gy,1,none⟩ (.int .u64 m2)).setCell ⟨gy,2,none⟩ (.int .i64 e2) = W6 at *
        refine hK.out _ _ hS (fun _ => ?_)
        clear hK K
        try simp only [Act.put,sl2,sl0,sl1]
        refine wpAnyH_done (by kernel_rfl) ?_ _
        (go_wp2_with fail)
        go_meet
        exact ⟨gx,gy,rfl,rfl,hX,hY,l_Fgx,l_Fgy,by omega,hS⟩
       exact zn
      exact zn
     refine zc rfl (fun K hK => ?_) ?_
     ·go_simp
      have l_Fgx := hS.lt
      have hX := Nb.new false 0 0 W
      replace hS := hS.alloc (.cells #[.bool false,.int .u64 0,.int .i64 0] 153)
      generalize World.alloc W (.cells #[.bool false,.int .u64 0,.int .i64 0] 153) = W1 at *
      generalize W.heap.size = gx at *
      refine hK.out _ _ hS (fun _ => ?_)
      clear hK K
      try simp only [Act.put,sl2,sl0,sl1]
      refine zm [2,7] ?_
      refine zc rfl (fun K hK => ?_) ?_
      ·go_simp
       go_at_call 160
       (with_reducible refine (PA _).out.mono ?_)
       rintro e W2 ⟨rfl,hb⟩
       replace hS := hS.call hb
       replace hX := hX.call hb
       clear hb
       refine hK.out _ _ hS (fun _ => ?_)
       clear hK K
       try simp only [Act.put,sl2,sl0,sl1]
       refine zm [5,7] ?_
       refine zc rfl (fun K hK => ?_) ?_
       ·go_simp
        go_at_call 160
        (with_reducible refine (PB _).out.mono ?_)
        rintro e W3 ⟨rfl,hb⟩
        replace hS := hS.call hb
        replace hX := hX.call hb
        clear hb
        refine hK.out _ _ hS (fun _ => ?_)
        clear hK K
        try simp only [Act.put,sl2,sl0,sl1]
        refine zr 7 rfl (fun K hK => ?_)
        go_simp
        have l_Fgy := hS.lt
        have l_hXgy := hX.lt
        have hY := Nb.new false 0 0 W3
        replace hS := hS.alloc (.cells #[.bool false,.int .u64 0,.int .i64 0] 153)
        replace hX := hX.alloc (.cells #[.bool false,.int .u64 0,.int .i64 0] 153)
        generalize World.alloc W3 (.cells #[.bool false,.int .u64 0,.int .i64 0] 153) = W4 at *
        generalize W3.heap.size = gy at *
        refine hK.out _ _ hS (fun _ => ?_)
        clear hK K
        try simp only [Act.put,sl2,sl0,sl1]
        refine zr 8 rfl (fun K hK => ?_)
        obtain ⟨⟨x0,x1,x2⟩,x3,x4,x5⟩ := id hX
        go_simp
        clear x0 x1 x2 x3 x4 x5
        replace hS := hS.set3 (c := gx) (.bool n1) (.int .u64 m1) (.int .i64 e1) l_Fgx
        replace hY := hY.set3 (c := gx) (.bool n1) (.int .u64 m1) (.int .i64 e1) (by omega)
        replace hX := hX.store (ng' := n1) (m' := m1) (e' := e1)
        generalize ((W4.setCell ⟨gx,0,none⟩ (.bool n1)).setCell ⟨gx,1,none⟩ (.int .u64 m1)).setCell ⟨gx,2,none⟩ (.int .i64 e1) = W5 at *
        refine hK.out _ _ hS (fun _ => ?_)
        clear hK K
        try simp only [Act.put,sl2,sl0,sl1]
        refine zr 9 rfl (fun K hK => ?_)
        obtain ⟨⟨x0,x1,x2⟩,x3,x4,x5⟩ := id hY
        go_simp
        clear x0 x1 x2 x3 x4 x5
        replace hS := hS.set3 (c := gy) (.bool n2) (.int .u64 m2) (.int .i64 e2) l_Fgy
        replace hX := hX.set3 (c := gy) (.bool n2) (.int .u64 m2) (.int .i64 e2) (by omega)
        replace hY := hY.store (ng' := n2) (m' := m2) (e' := e2)
        generalize ((W5.setCell ⟨gy,0,none⟩ (.bool n2)).setCell ⟨gy,1,none⟩ (.int .u64 m2)).setCell ⟨gy,2,none⟩ (.int .i64 e2) = W6 at *
        refine hK.out _ _ hS (fun _ => ?_)
        clear hK K
        try simp only [Act.put,sl2,sl0,sl1]
        refine wpAnyH_done (by kernel_rfl) ?_ _
        (go_wp2_with fail)
        go_meet
        exact ⟨gx,gy,rfl,rfl,hX,hY,l_Fgx,l_Fgy,by omega,hS⟩
       refine zc rfl (fun K hK => ?_) ?_
       ·go_simp
        have l_Fgy := hS.lt
        have l_hXgy := hX.lt
        have hY := Nb.new false 0 0 W2
        replace hS := hS.alloc (.cells #[.bool false,.int .u64 0,.int .i64 0] 153)
        replace hX := hX.alloc (.cells #[.bool false,.int .u64 0,.int .i64 0] 153)
        generalize World.alloc W2 (.cells #[.bool false,.int .u64 0,.int .i64 0] 153) = W3 at *
        generalize W2.heap.size = gy at *
        refine hK.out _ _ hS (fun _ => ?_)
        clear hK K
        try simp only [Act.put,sl2,sl0,sl1]
        refine zr 5 rfl (fun K hK => ?_)
        go_simp
        go_at_call 160
        (with_reducible refine (PB _).out.mono ?_)
        rintro e W4 ⟨rfl,hb⟩
        replace hS := hS.call hb
        replace hX := hX.call hb
        replace hY := hY.call hb
        clear hb
        refine hK.out _ _ hS (fun _ => ?_)
        clear hK K
        try simp only [Act.put,sl2,sl0,sl1]
        refine zr 8 rfl (fun K hK => ?_)
        obtain ⟨⟨x0,x1,x2⟩,x3,x4,x5⟩ := id hX
        go_simp
        clear x0 x1 x2 x3 x4 x5
        replace hS := hS.set3 (c := gx) (.bool n1) (.int .u64 m1) (.int .i64 e1) l_Fgx
        replace hY := hY.set3 (c := gx) (.bool n1) (.int .u64 m1) (.int .i64 e1) (by omega)
        replace hX := hX.store (ng' := n1) (m' := m1) (e' := e1)
        generalize ((W4.setCell ⟨gx,0,none⟩ (.bool n1)).setCell ⟨gx,1,none⟩ (.int .u64 m1)).setCell ⟨gx,2,none⟩ (.int .i64 e1) = W5 at *
        refine hK.out _ _ hS (fun _ => ?_)
        clear hK K
        try simp only [Act.put,sl2,sl0,sl1]
        refine zr 9 rfl (fun K hK => ?_)
        obtain ⟨⟨x0,x1,x2⟩,x3,x4,x5⟩ := id hY
        go_simp
        clear x0 x1 x2 x3 x4 x5
        replace hS := hS.set3 (c := gy) (.bool n2) (.int .u64 m2) (.int .i64 e2) l_Fgy
        replace hX := hX.set3 (c := gy) (.bool n2) (.int .u64 m2) (.int .i64 e2) (by omega)
        replace hY := hY.store (ng' := n2) (m' := m2) (e' := e2)
        generalize ((W5.setCell ⟨gy,0,none⟩ (.bool n2)).setCell ⟨gy,1,none⟩ (.int .u64 m2)).setCell ⟨gy,2,none⟩ (.int .i64 e2) = W6 at *
        refine hK.out _ _ hS (fun _ => ?_)
        clear hK K
        try simp only [Act.put,sl2,sl0,sl1]
        refine wpAnyH_done (by kernel_rfl) ?_ _
        (go_wp2_with fail)
        go_meet
        exact ⟨gx,gy,rfl,rfl,hX,hY,l_Fgx,l_Fgy,by omega,hS⟩
       exact zn
      refine zc rfl (fun K hK => ?_) ?_
      ·go_simp
       have l_Fgy := hS.lt
       have l_hXgy := hX.lt
       have hY := Nb.new false 0 0 W1
       replace hS := hS.alloc (.cells #[.bool false,.int .u64 0,.int .i64 0] 153)
       replace hX := hX.alloc (.cells #[.bool false,.int .u64 0,.int .i64 0] 153)
       generalize World.alloc W1 (.cells #[.bool false,.int .u64 0,.int .i64 0] 153) = W2 at *
       generalize W1.heap.size = gy at *
       refine hK.out _ _ hS (fun _ => ?_)
       clear hK K
       try simp only [Act.put,sl2,sl0,sl1]
       refine zr 2 rfl (fun K hK => ?_)
       go_simp
       go_at_call 160
       (with_reducible refine (PA _).out.mono ?_)
       rintro e W3 ⟨rfl,hb⟩
       replace hS := hS.call hb
       replace hX := hX.call hb
       replace hY := hY.call hb
       clear hb
       refine hK.out _ _ hS (fun _ => ?_)
       clear hK K
       try simp only [Act.put,sl2,sl0,sl1]
       refine zr 5 rfl (fun K hK => ?_)
       go_simp
       go_at_call 160
       (with_reducible refine (PB _).out.mono ?_)
       rintro e W4 ⟨rfl,hb⟩
       replace hS := hS.call hb
       replace hX := hX.call hb
       replace hY := hY.call hb
       clear hb
       refine hK.out _ _ hS (fun _ => ?_)
       clear hK K
       try simp only [Act.put,sl2,sl0,sl1]
       refine zr 8 rfl (fun K hK => ?_)
       obtain ⟨⟨x0,x1,x2⟩,x3,x4,x5⟩ := id hX
       go_simp
       clear x0 x1 x2 x3 x4 x5
       replace hS := hS.set3 (c := gx) (.bool n1) (.int .u64 m1) (.int .i64 e1) l_Fgx
       replace hY := hY.set3 (c := gx) (.bool n1) (.int .u64 m1) (.int .i64 e1) (by omega)
       replace hX := hX.store (ng' := n1) (m' := m1) (e' := e1)
       generalize ((W4.setCell ⟨gx,0,none⟩ (.bool n1)).setCell ⟨gx,1,none⟩ (.int .u64 m1)).setCell ⟨gx,2,none⟩ (.int .i64 e1) = W5 at *
       refine hK.out _ _ hS (fun _ => ?_)
       clear hK K
       try simp only [Act.put,sl2,sl0,sl1]
       refine zr 9 rfl (fun K hK => ?_)
       obtain ⟨⟨x0,x1,x2⟩,x3,x4,x5⟩ := id hY
       go_simp
       clear x0 x1 x2 x3 x4 x5
       replace hS := hS.set3 (c := gy) (.bool n2) (.int .u64 m2) (.int .i64 e2) l_Fgy
       replace hX := hX.set3 (c := gy) (.bool n2) (.int .u64 m2) (.int .i64 e2) (by omega)
       replace hY := hY.store (ng' := n2) (m' := m2) (e' := e2)
       generalize ((W5.setCell ⟨gy,0,none⟩ (.bool n2)).setCell ⟨gy,1,none⟩ (.int .u64 m2)).setCell ⟨gy,2,none⟩ (.int .i64 e2) = W6 at *
       refine hK.out _ _ hS (fun _ => ?_)
       clear hK K
       try simp only [Act.put,sl2,sl0,sl1]
       refine wpAnyH_done (by kernel_rfl) ?_ _
       (go_wp2_with fail)
       go_meet
       exact ⟨gx,gy,rfl,rfl,hX,hY,l_Fgx,l_Fgy,by omega,hS⟩
      exact zn
     refine zc rfl (fun K hK => ?_) ?_
     ·go_simp
      have l_Fgy := hS.lt
      have hY := Nb.new false 0 0 W
      replace hS := hS.alloc (.cells #[.bool false,.int .u64 0,.int .i64 0] 153)
      generalize World.alloc W (.cells #[.bool false,.int .u64 0,.int .i64 0] 153) = W1 at *
      generalize W.heap.size = gy at *
      refine hK.out _ _ hS (fun _ => ?_)
      clear hK K
      try simp only [Act.put,sl2,sl0,sl1]
      refine zm [2,6] ?_
      refine zc rfl (fun K hK => ?_) ?_
      ·go_simp
       go_at_call 160
       (with_reducible refine (PA _).out.mono ?_)
       rintro e W2 ⟨rfl,hb⟩
       replace hS := hS.call hb
       replace hY := hY.call hb
       clear hb
       refine hK.out _ _ hS (fun _ => ?_)
       clear hK K
       try simp only [Act.put,sl2,sl0,sl1]
       refine zm [5,6] ?_
       refine zc rfl (fun K hK => ?_) ?_
       ·go_simp
        go_at_call 160
        (with_reducible refine (PB _).out.mono ?_)
        rintro e W3 ⟨rfl,hb⟩
        replace hS := hS.call hb
        replace hY := hY.call hb
        clear hb
        refine hK.out _ _ hS (fun _ => ?_)
        clear hK K
        try simp only [Act.put,sl2,sl0,sl1]
        refine zr 6 rfl (fun K hK => ?_)
        go_simp
        have l_Fgx := hS.lt
        have l_hYgx := hY.lt
        have hX := Nb.new false 0 0 W3
        replace hS := hS.alloc (.cells #[.bool false,.int .u64 0,.int .i64 0] 153)
        replace hY := hY.alloc (.cells #[.bool false,.int .u64 0,.int .i64 0] 153)
        generalize World.alloc W3 (.cells #[.bool false,.int .u64 0,.int .i64 0] 153) = W4 at *
        generalize W3.heap.size = gx at *
        refine hK.out _ _ hS (fun _ => ?_)
        clear hK K
        try simp only [Act.put,sl2,sl0,sl1]
        refine zr 8 rfl (fun K hK => ?_)
        obtain ⟨⟨x0,x1,x2⟩,x3,x4,x5⟩ := id hX
        go_simp
        clear x0 x1 x2 x3 x4 x5
        replace hS := hS.set3 (c := gx) (.bool n1) (.int .u64 m1) (.int .i64 e1) l_Fgx
        replace hY := hY.set3 (c := gx) (.bool n1) (.int .u64 m1) (.int .i64 e1) (by omega)
        replace hX := hX.store (ng' := n1) (m' := m1) (e' := e1)
        generalize ((W4.setCell ⟨gx,0,none⟩ (.bool n1)).setCell ⟨gx,1,none⟩ (.int .u64 m1)).setCell ⟨gx,2,none⟩ (.int .i64 e1) = W5 at *
        refine hK.out _ _ hS (fun _ => ?_)
        clear hK K
        try simp only [Act.put,sl2,sl0,sl1]
        refine zr 9 rfl (fun K hK => ?_)
        obtain ⟨⟨x0,x1,x2⟩,x3,x4,x5⟩ := id hY
        go_simp
        clear x0 x1 x2 x3 x4 x5
        replace hS := hS.set3 (c := gy) (.bool n2) (.int .u64 m2) (.int .i64 e2) l_Fgy
        replace hX := hX.set3 (c := gy) (.bool n2) (.int .u64 m2) (.int .i64 e2) (by omega)
        replace hY := hY.store (ng' := n2) (m' := m2) (e' := e2)
        generalize ((W5.setCell ⟨gy,0,none⟩ (.bool n2)).setCell ⟨gy,1,none⟩ (.int .u64 m2)).setCell ⟨gy,2,none⟩ (.int .i64 e2) = W6 at *
        refine hK.out _ _ hS (fun _ => ?_)
        clear hK K
        try simp only [Act.put,sl2,sl0,sl1]
        refine wpAnyH_done (by kernel_rfl) ?_ _
        (go_wp2_with fail)
        go_meet
        exact ⟨gx,gy,rfl,rfl,hX,hY,l_Fgx,l_Fgy,by omega,hS⟩
       refine zc rfl (fun K hK => ?_) ?_
       ·go_simp
        have l_Fgx := hS.lt
        have l_hYgx := hY.lt
        have hX := Nb.new false 0 0 W2
        replace hS := hS.alloc (.cells #[.bool false,.int .u64 0,.int .i64 0] 153)
        replace hY := hY.alloc (.cells #[.bool false,.int .u64 0,.int .i64 0] 153)
        generalize World.alloc W2 (.cells #[.bool false,.int .u64 0,.int .i64 0] 153) = W3 at *
        generalize W2.heap.size = gx at *
        refine hK.out _ _ hS (fun _ => ?_)
        clear hK K
        try simp only [Act.put,sl2,sl0,sl1]
        refine zr 5 rfl (fun K hK => ?_)
        go_simp
        go_at_call 160
        (with_reducible refine (PB _).out.mono ?_)
        rintro e W4 ⟨rfl,hb⟩
        replace hS := hS.call hb
        replace hY := hY.call hb
        replace hX := hX.call hb
        clear hb
        refine hK.out _ _ hS (fun _ => ?_)
        clear hK K
        try simp only [Act.put,sl2,sl0,sl1]
        refine zr 8 rfl (fun K hK => ?_)
        obtain ⟨⟨x0,x1,x2⟩,x3,x4,x5⟩ := id hX
        go_simp
        clear x0 x1 x2 x3 x4 x5
        replace hS := hS.set3 (c := gx) (.bool n1) (.int .u64 m1) (.int .i64 e1) l_Fgx
        replace hY := hY.set3 (c := gx) (.bool n1) (.int .u64 m1) (.int .i64 e1) (by omega)
        replace hX := hX.store (ng' := n1) (m' := m1) (e' := e1)
        generalize ((W4.setCell ⟨gx,0,none⟩ (.bool n1)).setCell ⟨gx,1,none⟩ (.int .u64 m1)).setCell ⟨gx,2,none⟩ (.int .i64 e1) = W5 at *
        refine hK.out _ _ hS (fun _ => ?_)
        clear hK K
        try simp only [Act.put,sl2,sl0,sl1]
        refine zr 9 rfl (fun K hK => ?_)
        obtain ⟨⟨x0,x1,x2⟩,x3,x4,x5⟩ := id hY
        go_simp
        clear x0 x1 x2 x3 x4 x5
        replace hS := hS.set3 (c := gy) (.bool n2) (.int .u64 m2) (.int .i64 e2) l_Fgy
        replace hX := hX.set3 (c := gy) (.bool n2) (.int .u64 m2) (.int .i64 e2) (by omega)
        replace hY := hY.store (ng' := n2) (m' := m2) (e' := e2)
        generalize ((W5.setCell ⟨gy,0,none⟩ (.bool n2)).setCell ⟨gy,1,none⟩ (.int .u64 m2)).setCell ⟨gy,2,none⟩ (.int .i64 e2) = W6 at *
        refine hK.out _ _ hS (fun _ => ?_)
        clear hK K
        try simp only [Act.put,sl2,sl0,sl1]
        refine wpAnyH_done (by kernel_rfl) ?_ _
        (go_wp2_with fail)
        go_meet
        exact ⟨gx,gy,rfl,rfl,hX,hY,l_Fgx,l_Fgy,by omega,hS⟩
       exact zn
      refine zc rfl (fun K hK => ?_) ?_
      ·go_simp
       have l_Fgx := hS.lt
       have l_hYgx := hY.lt
       have hX := Nb.new false 0 0 W1
       replace hS := hS.alloc (.cells #[.bool false,.int .u64 0,.int .i64 0] 153)
       replace hY := hY.alloc (.cells #[.bool false,.int .u64 0,.int .i64 0] 153)
       generalize World.alloc W1 (.cells #[.bool false,.int .u64 0,.int .i64 0] 153) = W2 at *
       generalize W1.heap.size = gx at *
       refine hK.out _ _ hS (fun _ => ?_)
       clear hK K
       try simp only [Act.put,sl2,sl0,sl1]
       refine zr 2 rfl (fun K hK => ?_)
       go_simp
       go_at_call 160
       (with_reducible refine (PA _).out.mono ?_)
       rintro e W3 ⟨rfl,hb⟩
       replace hS := hS.call hb
       replace hY := hY.call hb
       replace hX := hX.call hb
       clear hb
       refine hK.out _ _ hS (fun _ => ?_)
       clear hK K
       try simp only [Act.put,sl2,sl0,sl1]
       refine zr 5 rfl (fun K hK => ?_)
       go_simp
       go_at_call 160
       (with_reducible refine (PB _).out.mono ?_)
       rintro e W4 ⟨rfl,hb⟩
       replace hS := hS.call hb
       replace hY := hY.call hb
       replace hX := hX.call hb
       clear hb
       refine hK.out _ _ hS (fun _ => ?_)
       clear hK K
       try simp only [Act.put,sl2,sl0,sl1]
       refine zr 8 rfl (fun K hK => ?_)
       obtain ⟨⟨x0,x1,x2⟩,x3,x4,x5⟩ := id hX
       go_simp
       clear x0 x1 x2 x3 x4 x5
       replace hS := hS.set3 (c := gx) (.bool n1) (.int .u64 m1) (.int .i64 e1) l_Fgx
       replace hY := hY.set3 (c := gx) (.bool n1) (.int .u64 m1) (.int .i64 e1) (by omega)
       replace hX := hX.store (ng' := n1) (m' := m1) (e' := e1)
       generalize ((W4.setCell ⟨gx,0,none⟩ (.bool n1)).setCell ⟨gx,1,none⟩ (.int .u64 m1)).setCell ⟨gx,2,none⟩ (.int .i64 e1) = W5 at *
       refine hK.out _ _ hS (fun _ => ?_)
       clear hK K
       try simp only [Act.put,sl2,sl0,sl1]
       refine zr 9 rfl (fun K hK => ?_)
       obtain ⟨⟨x0,x1,x2⟩,x3,x4,x5⟩ := id hY
       go_simp
       clear x0 x1 x2 x3 x4 x5
       replace hS := hS.set3 (c := gy) (.bool n2) (.int .u64 m2) (.int .i64 e2) l_Fgy
       replace hX := hX.set3 (c := gy) (.bool n2) (.int .u64 m2) (.int .i64 e2) (by omega)
       replace hY := hY.store (ng' := n2) (m' := m2) (e' := e2)
       generalize ((W5.setCell ⟨gy,0,none⟩ (.bool n2)).setCell ⟨gy,1,none⟩ (.int .u64 m2)).setCell ⟨gy,2,none⟩ (.int .i64 e2) = W6 at *
       refine hK.out _ _ hS (fun _ => ?_)
       clear hK K
       try simp only [Act.put,sl2,sl0,sl1]
       refine wpAnyH_done (by kernel_rfl) ?_ _
       (go_wp2_with fail)
       go_meet
       exact ⟨gx,gy,rfl,rfl,hX,hY,l_Fgx,l_Fgy,by omega,hS⟩
      exact zn
     exact zn
    case rest =>
     clear HS c0 c1 PA PB KA hk3 hb
     obtain ⟨gx,gy,rfl,rfl,hX,hY,hgx,hgy,hne,hS⟩ := hcut
     have HX := hid hX
     have HY := hid hY
     have HS := hid hS
     have HG := hid (And.intro hgx (And.intro hgy hne))
     obtain ⟨c0,c1⟩ := id hS.1
     obtain ⟨⟨x0,x1,x2⟩,x3,x4,x5⟩ := id hX
     obtain ⟨⟨y0,y1,y2⟩,y3,y4,y5⟩ := id hY
     have hne2 : gy ≠ gx := Ne.symm hne
     obtain ⟨hap,hge,hmx,hm1,hm2,he1b,he2b,hsz,hapq⟩ := HNUM.out
     obtain ⟨X,hXe⟩ : ∃ X : Nat,X = m1 * 2 ^ 9 := ⟨_,rfl⟩
     obtain ⟨Y,hYe⟩ : ∃ Y : Nat,Y = m2 * 2 ^ 9 := ⟨_,rfl⟩
     have HXE := hid hXe
     have HYE := hid hYe
     have hXb : X < 4611686018427387904 := by rw [hXe]; have : m1 < 4503599627370496 * 2 := hm1; omega
     have hYb : Y < 4611686018427387904 := by rw [hYe]; have : m2 < 4503599627370496 * 2 := hm2; omega
     have f1 : (m1 : Int) * 512 = (X : Int) := by rw [hXe,Int.natCast_mul]; rfl
     have f2 : (m2 : Int) * 512 = (Y : Int) := by rw [hYe,Int.natCast_mul]; rfl
     have f3 : IntKind.u64.wrap (X : Int) = (X : Int) := by rw [IntKind.wrap_u64]; omega
     have f4 : IntKind.u64.wrap (Y : Int) = (Y : Int) := by rw [IntKind.wrap_u64]; omega
     have HXB := hid hXb
     have HYB := hid hYb
     have hebd : -1100 ≤ e1 ∧ e1 ≤ 1100 ∧ ap ≤ 2050 := by omega
     have HEB := hid hebd
     have HAP := hid hap
     clear hX hY hS hgx hgy hge hmx hm1 hm2 he1b he2b hsz hapq hXe hYe hap hXb hYb hebd
     go_upto_region 9 with fail
     go_cut [9] (fun s9 wx => s9 = .int .i64 9 ∧ Nb gx n1 X e1 wx ∧ Nb gy n2 Y e2 wx ∧ Sx 11 52 w wx)
     case first =>
      go_region
      all_goals
       (go_wp2_with fail)
       go_meet
       exact ⟨rfl,(HX.out.drew.setm).set hne2,(HY.out.drew.set hne).setm,(HS.out.drew.set HG.out.1).set HG.out.2.1⟩
     case rest =>
      clear HX HY HS c0 c1 x0 x1 x2 x3 x4 x5 y0 y1 y2 y3 y4 y5 f1 f2 f3 f4
      obtain ⟨rfl,hX,hY,hS⟩ := hcut
      have HX := hid hX
      have HY := hid hY
      have HS := hid hS
      obtain ⟨c0,c1⟩ := id hS.1
      obtain ⟨⟨x0,x1,x2⟩,x3,x4,x5⟩ := id hX
      obtain ⟨⟨y0,y1,y2⟩,y3,y4,y5⟩ := id hY
      have g1 : e1 - e2 = (ap : Int) := by have := HAP.out; omega
      have g2 : IntKind.i64.wrap (ap : Int) = (ap : Int) := by have := HEB.out; rw [IntKind.wrap_i64]; omega
      have g3 : wrap64 (ap : Int) = (ap : Int) := by have := HEB.out; unfold wrap64; omega
      clear hX hY hS
      obtain ⟨mo,hmo⟩ : ∃ mo : Bool,mo = decide (Y % 2 ^ ap ≠ 0) := ⟨_,rfl⟩
      have HMO := hid hmo
      clear hmo
      go_upto_region 11 with fail
      go_cut [11] (fun s11 wx => s11 = .bool mo ∧ Nb gx n1 X e1 wx ∧ Nb gy n2 Y e2 wx ∧ Sx 11 52 w wx)
      case first =>
       go_quiet (fail)
       (go_wp2_with fail)
       go_meet
       exact ⟨congrArg Value.bool (by rw [HMO.out]; exact more_bits Y ap (by have := HYB.out; omega)),HX.out,HY.out,HS.out.drewN _⟩
      case rest =>
       clear HX HY HS c0 c1 x0 x1 x2 x3 x4 x5 y0 y1 y2 y3 y4 y5 g1 g2 g3
       obtain ⟨rfl,hX,hY,hS⟩ := hcut
       have HX := hid hX
       have HY := hid hY
       have HS := hid hS
       obtain ⟨c0,c1⟩ := id hS.1
       obtain ⟨⟨x0,x1,x2⟩,x3,x4,x5⟩ := id hX
       obtain ⟨⟨y0,y1,y2⟩,y3,y4,y5⟩ := id hY
       clear hX hY hS
       obtain ⟨e3,he3⟩ : ∃ e3 : Int,e3 = e1 - 9 := ⟨_,rfl⟩
       obtain ⟨Yq,hYq⟩ : ∃ Yq : Nat,Yq = Y / 2 ^ ap := ⟨_,rfl⟩
       have g1 : e1 - 9 = e3 := he3.symm
       have g2 : IntKind.i64.wrap e3 = e3 := by have := HEB.out; rw [IntKind.wrap_i64]; omega
       have g4 : (Y : Int) / 2 ^ min ap 64 = (Yq : Int) := by rw [hYq]; exact shr_minS Y ap (by have := HYB.out; omega)
       have g5 : (0 : Int) ≤ (ap : Int) := by omega
       have HE3 := hid he3
       have HYQ := hid hYq
       clear he3 hYq
       go_upto_region 12 with fail
       go_cut [11] (fun s11 wx => s11 = .bool mo ∧ Nb gx n1 X e3 wx ∧ Nb gy n2 Yq e2 wx ∧ Sx 11 52 w wx)
       case first =>
        go_region
        all_goals
         (go_wp2_with fail)
         go_meet
         exact ⟨rfl,(HX.out.sete.set hne2).drew,((HY.out.set hne).setm).drew,((HS.out.set HG.out.1).set HG.out.2.1).drew⟩
       case rest =>
        clear HX HY HS c0 c1 x0 x1 x2 x3 x4 x5 y0 y1 y2 y3 y4 y5 g1 g2 g4 g5
        obtain ⟨rfl,hX,hY,hS⟩ := hcut
        have HX := hid hX
        have HY := hid hY
        have HS := hid hS
        obtain ⟨c0,c1⟩ := id hS.1
        obtain ⟨⟨x0,x1,x2⟩,x3,x4,x5⟩ := id hX
        obtain ⟨⟨y0,y1,y2⟩,y3,y4,y5⟩ := id hY
        clear hX hY hS
        have hst : mo = true → 2305843009213693952 ≤ X ∧ Yq < 4503599627370496 := fun h => by
         have h1 := HNUM.out
         have h2 := sum_sticky 9 52 (by decide) (by decide) h1.2.2.2.2.1 h1.2.2.1 (by
          have := HMO.out
          rw [h,HYE.out] at this
          simpa using this.symm)
         rw [← HXE.out,← HYE.out,← HYQ.out] at h2
         exact h2
        have hle : Yq ≤ X := by
         have h1 := HNUM.out.2.1
         rw [HYQ.out,HYE.out,HXE.out]
         apply Nat.div_le_of_le_mul
         rw [← Nat.mul_assoc,Nat.mul_comm (2 ^ ap) m1]
         exact Nat.mul_le_mul_right _ h1
        have hO : R = if n1 = n2 then (Ieee.double).word n1 (rungR Ieee.double (X + Yq) e3 mo) else (Ieee.double).word (if X - Yq - mo.toNat = 0 then false else n1) (rungR Ieee.double (X - Yq - mo.toNat) e3 mo) := by
         have h := HO.out
         unfold sumN at h
         simp only [] at h
         rw [← HXE.out,← HYE.out,← HYQ.out] at h
         rw [h,HE3.out,HMO.out]
         rfl
        have hXb := HXB.out
        have hYqb : Yq ≤ X := hle
        have hE : -9223372036854775808 ≤ e3 ∧ e3 ≤ 9223372036854775807 := by have := HEB.out; have := HE3.out; omega
        have HEE := hid hE
        have hgF : gx ≠ w.heap.size := by have := HG.out.1; omega
        have hgF2 : w.heap.size ≠ gx := Ne.symm hgF
        have HST := hid hst
        clear HNUM HO HXE HYE HYQ HMO HE3 HEB HAP HYB HXB hE hle hst
        by_cases hnn : n1 = n2
        ·rw [if_pos hnn] at hO
         subst hnn
         obtain ⟨V,hV⟩ : ∃ V : Nat,V = X + Yq := ⟨_,rfl⟩
         have v1 : (X : Int) + (Yq : Int) = (V : Int) := by omega
         have v2 : IntKind.u64.wrap (V : Int) = (V : Int) := by rw [IntKind.wrap_u64]; omega
         rw [← hV] at hO
         have RC := fun W => hid (round_64 n1 V (by omega) e3 HEE.out.1 HEE.out.2 mo (fun h => by have := HST.out h; omega) W)
         rw [← hO] at RC
         clear hO hV hXb hYqb
         go_wp2_with (go_at_call 161; (with_reducible refine (RC _).out.mono ?_); rintro e w5 ⟨rfl,hb5⟩; have HF := hid (bnext (bset (c := gx) (o := 1) (u := .int .u64 V) HS.out.2 (Nat.le_of_lt HG.out.1)) hb5))
         all_goals
          go_ret
          exact ⟨rfl,HF.out⟩
        ·rw [if_neg hnn] at hO
         have hb0 : (n1 == n2) = false := by simpa using hnn
         obtain ⟨V0,hV0⟩ : ∃ V0 : Nat,V0 = X - Yq := ⟨_,rfl⟩
         have v1 : (X : Int) - (Yq : Int) = (V0 : Int) := by omega
         have v2 : IntKind.u64.wrap (V0 : Int) = (V0 : Int) := by rw [IntKind.wrap_u64]; omega
         rw [← hV0] at hO
         cases mo with
         | true =>
          have hs := HST.out rfl
          obtain ⟨V,hV⟩ : ∃ V : Nat,V = V0 - 1 := ⟨_,rfl⟩
          have v3 : (V0 : Int) - 1 = (V : Int) := by omega
          have v4 : IntKind.u64.wrap (V : Int) = (V : Int) := by rw [IntKind.wrap_u64]; omega
          have v5 : ((V : Int) == 0) = false := by simp; omega
          have hO2 : R = (Ieee.double).word n1 (rungR Ieee.double V e3 true) := by
           rw [hO,show V0 - true.toNat = V by rw [hV]; rfl,if_neg (by omega)]
          have RC := fun W => hid (round_64 n1 V (by omega) e3 HEE.out.1 HEE.out.2 true (fun h => by omega) W)
          rw [← hO2] at RC
          clear hO hO2 hV hV0 hXb hYqb hs hnn
          go_wp2_with (go_at_call 161; (with_reducible refine (RC _).out.mono ?_); rintro e w5 ⟨rfl,hb5⟩; have HF := hid (bnext (bset (c := gx) (o := 1) (u := .int .u64 V) (bset (c := gx) (o := 1) (u := .int .u64 V0) HS.out.2 (Nat.le_of_lt HG.out.1)) (Nat.le_of_lt HG.out.1)) hb5))
          all_goals
           go_ret
           exact ⟨rfl,HF.out⟩
         | false =>
          by_cases hz : V0 = 0
          ·subst hz
           have hO2 : R = (Ieee.double).word false (rungR Ieee.double 0 e3 false) := by rw [hO]; rfl
           have RC : ∀ W : World,Hid (Calls Tryz.prog 161 #[.agg #[.int .i64 11,.int .i64 52],.agg #[.bool false,.int .u64 0,.int .i64 e3],.bool false] W fun r w' => r = .returned (.int .u64 (((Ieee.double).word false (rungR Ieee.double 0 e3 false) : Nat) : Int)) ∧ Below W.heap.size W w') := fun W => hid (round_64 false 0 (by omega) e3 HEE.out.1 HEE.out.2 false (fun h => by cases h) W)
           rw [← hO2] at RC
           clear hO hO2 hV0 hXb hYqb hnn
           go_wp2_with (go_at_call 161; (with_reducible refine (RC _).out.mono ?_); rintro e w5 ⟨rfl,hb5⟩; have HF := hid (bnext (bset (c := gx) (o := 0) (u := .bool false) (bset (c := gx) (o := 1) (u := .int .u64 0) HS.out.2 (Nat.le_of_lt HG.out.1)) (Nat.le_of_lt HG.out.1)) hb5))
           all_goals
            go_ret
            exact ⟨rfl,HF.out⟩
          ·have v5 : ((V0 : Int) == 0) = false := by simp; omega
           have hO2 : R = (Ieee.double).word n1 (rungR Ieee.double V0 e3 false) := by
            rw [hO,show V0 - false.toNat = V0 from rfl,if_neg hz]
           have RC := fun W => hid (round_64 n1 V0 (by omega) e3 HEE.out.1 HEE.out.2 false (fun h => by cases h) W)
           rw [← hO2] at RC
           clear hO hO2 hV0 hXb hYqb hz hnn
           go_wp2_with (go_at_call 161; (with_reducible refine (RC _).out.mono ?_); rintro e w5 ⟨rfl,hb5⟩; have HF := hid (bnext (bset (c := gx) (o := 1) (u := .int .u64 V0) HS.out.2 (Nat.le_of_lt HG.out.1)) hb5))
           all_goals
            go_ret
            exact ⟨rfl,HF.out⟩
end Go.Proofs.YtbbmbhcbncenaaaGreatDoor.Fl
