/-
  FWholeA, FWhole, FFUnA, FFUn: merged, what the law does not reach left out (each text says what it holds where it lies in wip). No condition.
-/
import Derived.Test.YtbbmbhcbncenaaaGreatDoorG10
import Derived.Test.YtbbmbhcbncenaaaGreatDoorG11
import Derived.Test.YtbbmbhcbncenaaaGreatDoorG22
import Derived.Test.YtbbmbhcbncenaaaGreatDoorG13
import Derived.Test.YtbbmbhcbncenaaaGreatDoorG12
import Derived.Test.YtbbmbhcbncenaaaGreatDoorG01
set_option linter.unusedSimpArgs false
set_option linter.unusedVariables false
set_option maxRecDepth 100000
namespace Go.Proofs.YtbbmbhcbncenaaaGreatDoor.Fl
open Go.RowKit
def wholeW (f : Ieee.Format) (SB INF CAN op a : Nat) : Nat := if kindOf INF (a % SB) = 4 then CAN else f.write ((f.read a).integral (wayOf op))
theorem kind_cases {INF s : Nat} : kindOf INF s = 4 ∨ kindOf INF s = 3 ∨ kindOf INF s = 1 ∨ kindOf INF s = 2 := by
 unfold kindOf; split
 ·simp
 ·split
  ·simp
  ·split <;> simp
theorem mask_bits (Y k : Nat) (hk : k ≤ 63) (hY : Y < 18446744073709551616) : bits .and .u64 (Y : Int) (IntKind.u64.wrap (IntKind.u64.wrap (2 ^ k) - 1)) = ((Y % 2 ^ k : Nat) : Int) := by
 have hlt : (2 : Nat) ^ k ≤ 2 ^ 63 := Nat.pow_le_pow_right (by decide) hk
 have h63 : (2 : Nat) ^ 63 = 9223372036854775808 := by decide
 have hp : 0 < 2 ^ k := Nat.two_pow_pos k
 have e1 : IntKind.u64.wrap ((2 : Int) ^ k) = ((2 ^ k : Nat) : Int) := by
  rw [IntKind.wrap_u64,show ((2 : Int) ^ k) = ((2 ^ k : Nat) : Int) by rw [Int.natCast_pow]; rfl]; omega
 have e2 : IntKind.u64.wrap (((2 ^ k : Nat) : Int) - 1) = ((2 ^ k - 1 : Nat) : Int) := by
  rw [IntKind.wrap_u64]; omega
 rw [e1,e2,bits_and_u64_nat _ _ hY (by omega),Nat.and_two_pow_sub_one_eq_mod]
theorem half_bits (k : Nat) (hk : k ≤ 63) : IntKind.u64.wrap ((2 : Int) ^ k) = ((2 ^ k : Nat) : Int) := by
 have hlt : (2 : Nat) ^ k ≤ 2 ^ 63 := Nat.pow_le_pow_right (by decide) hk
 have h63 : (2 : Nat) ^ 63 = 9223372036854775808 := by decide
 have hp : 0 < 2 ^ k := Nat.two_pow_pos k
 rw [IntKind.wrap_u64,show ((2 : Int) ^ k) = ((2 ^ k : Nat) : Int) by rw [Int.natCast_pow]; rfl]; omega
theorem cut4 (n : Bool) (m pl : Nat) : cutUp (wayOf 4) n m pl = (!n && m % 2 ^ pl != 0) := rfl
theorem cut5 (n : Bool) (m pl : Nat) : cutUp (wayOf 5) n m pl = (n && m % 2 ^ pl != 0) := rfl
theorem cut6 (n : Bool) (m pl : Nat) : cutUp (wayOf 6) n m pl = false := rfl
theorem cut7 (n : Bool) (m pl : Nat) (h : 1 ≤ pl) : cutUp (wayOf 7) n m pl = (decide (2 ^ (pl - 1) < m % 2 ^ pl) || (m % 2 ^ pl == 2 ^ (pl - 1) && m / 2 ^ pl % 2 == 1)) := by
 obtain ⟨c,rfl⟩ : ∃ c,pl = c + 1 := ⟨pl - 1,by omega⟩
 show (decide (2 ^ (c + 1) < 2 * (m % 2 ^ (c + 1))) || (2 ^ (c + 1) == 2 * (m % 2 ^ (c + 1)) && m / 2 ^ (c + 1) % 2 == 1)) = _
 have e : (2 : Nat) ^ (c + 1) = 2 * 2 ^ c := by rw [Nat.pow_succ]; omega
 rw [show c + 1 - 1 = c by omega]
 generalize m / 2 ^ (c + 1) % 2 = q
 generalize m % 2 ^ (c + 1) = r
 rw [e]
 generalize 2 ^ c = h
 have e1 : decide (2 * h < 2 * r) = decide (h < r) := decide_eq_decide.2 (by omega)
 have e2 : (2 * h == 2 * r) = (r == h) := Bool.eq_iff_iff.2 (by rw [beq_iff_eq,beq_iff_eq]; omega)
 rw [e1,e2]
set_option maxRecDepth 20000 in
set_option maxHeartbeats 12800000 in
theorem whole_32 (op : Nat) (hop : op = 4 ∨ op = 5 ∨ op = 6 ∨ op = 7) (a : Nat) (ha : a < 4294967296) (w : World) :
  Calls Tryz.prog 133 #[.agg #[.int .i64 8,.int .i64 23],.int .i64 op,.int .u64 a] w fun r w' => r = .returned (.int .u64 ((wholeW Ieee.single 2147483648 2139095040 2143289344 op a : Nat) : Int)) ∧ Below w.heap.size w w' := by
 have KA := fun w => hid (kind_32 a ha w)
 obtain ⟨RR,hRR⟩ : ∃ RR : Nat,RR = wholeW Ieee.single 2147483648 2139095040 2143289344 op a := ⟨_,rfl⟩
 rw [← hRR]
 have hS := Sx.new 8 23 w
 obtain ⟨c0,c1⟩ := id hS.1
 rcases kind_cases (INF := 2139095040) (s := a % 2147483648) with h | h | h
 ·rw [h] at KA
  have hR : RR = 2143289344 := by rw [hRR]; unfold wholeW; rw [if_pos h]
  subst hR
  clear hRR h ha hop
  go_enter Tryz.func133,Tryz.ntmps133
  go_wp2_with (first
   | (go_at_call 157; ((with_reducible refine (KA _).out.mono ?_); rintro e w1 ⟨rfl,hb⟩; replace hS := hS.call hb; have c0 := hS.1.1; have c1 := hS.1.2))
   | (go_at_call 158; ((with_reducible refine (canonical_32 _).mono ?_); rintro e w1 ⟨rfl,hb⟩; replace hS := hS.call hb)))
  go_ret
  exact ⟨rfl,hS.2⟩
 ·rw [h] at KA
  have hR : RR = a := by rw [hRR]; unfold wholeW; rw [if_neg (by rw [h]; decide),whole_inf fmt_single (by omega) h]
  subst hR
  clear hRR h ha hop
  go_enter Tryz.func133,Tryz.ntmps133
  go_wp2_with (first
   | (go_at_call 157; ((with_reducible refine (KA _).out.mono ?_); rintro e w1 ⟨rfl,hb⟩; replace hS := hS.call hb; have c0 := hS.1.1; have c1 := hS.1.2)))
  go_ret
  exact ⟨rfl,hS.2⟩
 ·have PA := fun w => hid (parts_32 a ha w)
  have hR : RR = (Ieee.single).write (((Ieee.single).read a).integral (wayOf op)) := by rw [hRR]; unfold wholeW; rw [if_neg (by omega)]
  have hbig := whole_big fmt_single (a := a) (by omega) h
  have hsmall := fun K pl => whole_small fmt_single (a := a) (by omega) h (K := K) (pl := pl)
  obtain ⟨ka,hka⟩ : ∃ ka : Nat,ka = kindOf 2139095040 (a % 2147483648) := ⟨_,rfl⟩
  rw [← hka] at KA
  have k1 : ((ka : Int) == 4) = false := by simp; omega
  have k2 : ((ka : Int) == 3) = false := by simp; omega
  have hmb := pm_lt 23 (a % 2147483648)
  have heb := pe_eq 23 (-149) (a % 2147483648)
  have hq : a % 2147483648 / 2 ^ 23 ≤ 2048 := by
   have h2 : a % 2147483648 < 2139095040 := by
    rcases h with h | h
    ·rw [kind1.1 h]; decide
    ·exact (kind2.1 h).2
   show a % 2147483648 / 8388608 ≤ 2048; omega
  obtain ⟨n1,hn1⟩ : ∃ n1 : Bool,n1 = decide (2147483648 ≤ a) := ⟨_,rfl⟩
  obtain ⟨m1,hm1⟩ : ∃ m1 : Nat,m1 = pm 23 (a % 2147483648) := ⟨_,rfl⟩
  obtain ⟨e1,he1⟩ : ∃ e1 : Int,e1 = pe 23 (-149) (a % 2147483648) := ⟨_,rfl⟩
  rw [← hn1,← hm1,← he1] at PA
  simp only [← hn1,← hm1,← he1] at hsmall hbig
  rw [← hm1] at hmb
  rw [← he1] at heb
  have hmb2 : m1 < 9007199254740992 := by have : m1 < 8388608 * 2 := hmb; omega
  generalize a % 2147483648 / 2 ^ 23 = q1 at *
  have heb2 : -1100 ≤ e1 ∧ e1 ≤ 2100 := by omega
  have HR := hid hR
  have HSM := hid hsmall
  have HBG := hid hbig
  have HMB := hid hmb2
  have HEB := hid heb2
  clear hRR h ha hbig hsmall hka hmb heb hq hn1 hm1 he1 hR hmb2 heb2
  go_enter Tryz.func133,Tryz.ntmps133
  go_upto_region 5 with (first
   | (go_at_call 157; ((with_reducible refine (KA _).out.mono ?_); rintro e w1 ⟨rfl,hb⟩; replace hS := hS.call hb; have c0 := hS.1.1; have c1 := hS.1.2)))
  go_cut [7] (fun s7 wx => ∃ gx : Nat,s7 = .pointer (some ⟨gx,0,none⟩) ∧ Nb gx n1 m1 e1 wx ∧ w.heap.size < gx ∧ Sx 8 23 w wx)
  case first =>
   go_wp2_with (go_at_call 160; ((with_reducible refine (PA _).out.mono ?_); rintro e w2 ⟨rfl,hb⟩; replace hS := hS.call hb))
   go_meet
   exact ⟨w2.heap.size,rfl,Nb.new n1 m1 e1 w2,hS.lt,hS.alloc _⟩
  case rest =>
   clear hS c0 c1 PA KA k1 k2
   obtain ⟨gx,rfl,hX,hgx,hS⟩ := hcut
   have HX := hid hX
   have HS := hid hS
   have HG := hid hgx
   obtain ⟨c0,c1⟩ := id hS.1
   obtain ⟨⟨x0,x1,x2⟩,x3,x4,x5⟩ := id hX
   clear hX hS hgx
   by_cases he : 0 ≤ e1
   ·have hR2 : RR = a := by rw [HR.out]; exact HBG.out he _
    subst hR2
    have hd : decide (0 ≤ e1) = true := by simp [he]
    go_wp2
    go_ret
    exact ⟨rfl,HS.out.2⟩
   ·obtain ⟨K,hK⟩ : ∃ K : Nat,e1 = -(K : Int) := ⟨(-e1).toNat,by omega⟩
    obtain ⟨pl,hpl⟩ : ∃ pl : Nat,pl = min K 63 := ⟨_,rfl⟩
    have hd : decide (0 ≤ e1) = false := by simp; omega
    have hRs : RR = (Ieee.single).word n1 (rungR Ieee.single (m1 / 2 ^ pl + (cutUp (wayOf op) n1 m1 pl).toNat) 0 false) := by rw [HR.out]; exact HSM.out K pl hK hpl _
    have hpl1 : 1 ≤ pl ∧ pl ≤ 63 := by omega
    have HRS := hid hRs
    have HPL := hid hpl
    have HPL1 := hid hpl1
    have g1 : -e1 = (K : Int) := by omega
    have g2 : wrap64 (K : Int) = (K : Int) := by have := HEB.out; unfold wrap64; omega
    have g3 : IntKind.i64.wrap (K : Int) = (K : Int) := by have := HEB.out; rw [IntKind.wrap_i64]; omega
    clear hRs he hpl hpl1 HR HSM HBG
    have HK := hid hK
    clear hK
    go_upto_region 8 with fail
    go_cut [8] (fun s8 wx => s8 = .int .i64 pl ∧ Nb gx n1 m1 e1 wx ∧ Sx 8 23 w wx)
    case first =>
     by_cases hc : 63 < K
     ·have e63 : pl = 63 := by have := HPL.out; omega
      subst e63
      have g4 : (63 : Int) < (K : Int) := by omega
      go_wp2
      all_goals
       go_meet
       exact ⟨rfl,HX.out,HS.out⟩
     ·have ek : pl = K := by have := HPL.out; omega
      subst ek
      by_cases hc2 : pl = 63
      ·subst hc2
       go_wp2
       all_goals
        go_meet
        exact ⟨rfl,HX.out,HS.out⟩
      ·have g4 : (pl : Int) < 63 := by omega
       go_wp2
       all_goals
        go_meet
        exact ⟨rfl,HX.out,HS.out⟩
    case rest =>
     clear g1 g2 g3 hd HX HS c0 c1 x0 x1 x2 x3 x4 x5
     obtain ⟨rfl,hX,hS⟩ := hcut
     have HX := hid hX
     have HS := hid hS
     obtain ⟨c0,c1⟩ := id hS.1
     obtain ⟨⟨x0,x1,x2⟩,x3,x4,x5⟩ := id hX
     clear hX hS
     obtain ⟨lost,hlost⟩ : ∃ lost : Nat,lost = m1 % 2 ^ pl := ⟨_,rfl⟩
     obtain ⟨half,hhalf⟩ : ∃ half : Nat,half = 2 ^ (pl - 1) := ⟨_,rfl⟩
     obtain ⟨mq,hmq⟩ : ∃ mq : Nat,mq = m1 / 2 ^ pl := ⟨_,rfl⟩
     obtain ⟨pp,hpp⟩ : ∃ pp : Nat,pp = pl - 1 := ⟨_,rfl⟩
     have g1 : (pl : Int) - 1 = (pp : Int) := by have := HPL1.out; omega
     have g2 : IntKind.i64.wrap (pp : Int) = (pp : Int) := by have := HPL1.out; rw [IntKind.wrap_i64]; omega
     have g3 : (0 : Int) ≤ (pl : Int) := by omega
     have g4 : pl ≤ 64 := by have := HPL1.out; omega
     have g5 : (0 : Int) ≤ (pp : Int) := by omega
     have g6 : pp ≤ 64 := by have := HPL1.out; omega
     have HL := hid hlost
     have HH := hid hhalf
     have HQ := hid hmq
     have HPP := hid hpp
     clear hlost hhalf hmq hpp
     go_upto_region 9 with fail
     go_cut [9,10] (fun s9 s10 wx => s9 = .int .u64 lost ∧ s10 = .int .u64 half ∧ Nb gx n1 m1 e1 wx ∧ Sx 8 23 w wx)
     case first =>
      go_quiet (fail)
      (go_wp2_with fail)
      go_meet
      have hh := HPL1.out
      exact ⟨congrArg (Value.int .u64) (by rw [HL.out]; first | exact mask_bits m1 pl hh.2 (by have := HMB.out; omega) | (rw [Nat.min_eq_left (by omega)]; exact mask_bits m1 pl hh.2 (by have := HMB.out; omega))),congrArg (Value.int .u64) (by rw [HH.out,← HPP.out]; first | exact half_bits pp (by have := HPP.out; omega) | (rw [Nat.min_eq_left (by omega)]; exact half_bits pp (by have := HPP.out; omega))),HX.out,HS.out.drewN _⟩
     case rest =>
      clear g1 g2 g5 g6 HX HS c0 c1 x0 x1 x2 x3 x4 x5
      obtain ⟨rfl,rfl,hX,hS⟩ := hcut
      have HX := hid hX
      have HS := hid hS
      obtain ⟨c0,c1⟩ := id hS.1
      obtain ⟨⟨x0,x1,x2⟩,x3,x4,x5⟩ := id hX
      clear hX hS
      have g1 : (m1 : Int) / 2 ^ pl = (mq : Int) := by rw [HQ.out,Int.natCast_ediv,Int.natCast_pow]; rfl
      go_upto_region 10 with fail
      go_cut [9] (fun s9 wx => s9 = .int .u64 lost ∧ Nb gx n1 mq 0 wx ∧ Sx 8 23 w wx)
      case first =>
       go_wp2
       go_meet
       exact ⟨rfl,HX.out.setm.sete,(HS.out.set HG.out).set HG.out⟩
      case rest =>
       clear g1 g3 g4 HX HS c0 c1 x0 x1 x2 x3 x4 x5
       obtain ⟨rfl,hX,hS⟩ := hcut
       have HX := hid hX
       have HS := hid hS
       obtain ⟨c0,c1⟩ := id hS.1
       obtain ⟨⟨x0,x1,x2⟩,x3,x4,x5⟩ := id hX
       clear hX hS
       have hgF : gx ≠ w.heap.size := by have := HG.out; omega
       have hgF2 : w.heap.size ≠ gx := Ne.symm hgF
       have hmq : mq < 9007199254740993 := by have h1 := HMB.out; rw [HQ.out]; exact Nat.lt_of_le_of_lt (Nat.div_le_self _ _) (by omega)
       have v2 : IntKind.u64.wrap ((mq : Int) + 1) = (mq : Int) + 1 := by rw [IntKind.wrap_u64]; omega
       have HMQ := hid hmq
       have R0 : cutUp (wayOf op) n1 m1 pl = false → ∀ W,Hid (Calls Tryz.prog 161 #[.agg #[.int .i64 8,.int .i64 23],.agg #[.bool n1,.int .u64 mq,.int .i64 0],.bool false] W fun r w' => r = .returned (.int .u64 (RR : Int)) ∧ Below W.heap.size W w') := fun h W => by
        have := round_32 n1 mq (by omega) 0 (by decide) (by decide) false (fun h => by cases h) W
        rw [HRS.out,h,← HQ.out]
        exact this
       have R1 : cutUp (wayOf op) n1 m1 pl = true → ∀ W,Hid (Calls Tryz.prog 161 #[.agg #[.int .i64 8,.int .i64 23],.agg #[.bool n1,.int .u64 ((mq : Int) + 1),.int .i64 0],.bool false] W fun r w' => r = .returned (.int .u64 (RR : Int)) ∧ Below W.heap.size W w') := fun h W => by
        have := round_32 n1 (mq + 1) (by omega) 0 (by decide) (by decide) false (fun h => by cases h) W
        rw [HRS.out,h,← HQ.out]
        exact this
       have HR0 := hid R0
       have HR1 := hid R1
       clear R0 R1 hmq HRS
       rcases hop with rfl | rfl | rfl | rfl
       ·have hup := cut4 n1 m1 pl
        rw [← HL.out] at hup
        have HUP := hid hup
        clear hup
        by_cases hl : lost = 0
        ·subst hl
         have RC := HR0.out (by rw [HUP.out]; cases n1 <;> rfl)
         go_wp2_with (go_at_call 161; (with_reducible refine (RC _).out.mono ?_); rintro e w5 ⟨rfl,hb5⟩; have HF := hid (bnext HS.out.2 hb5))
         all_goals
          go_ret
          exact ⟨rfl,HF.out⟩
        ·have hl2 : ((lost : Int) != 0) = true := by simp; omega
         cases n1 with
         | true =>
          have RC := HR0.out (by rw [HUP.out]; rfl)
          clear hl
          go_wp2_with (go_at_call 161; (with_reducible refine (RC _).out.mono ?_); rintro e w5 ⟨rfl,hb5⟩; have HF := hid (bnext HS.out.2 hb5))
          all_goals
           go_ret
           exact ⟨rfl,HF.out⟩
         | false =>
          have RC := HR1.out (by rw [HUP.out]; simp [hl])
          clear hl
          go_wp2_with (go_at_call 161; (with_reducible refine (RC _).out.mono ?_); rintro e w5 ⟨rfl,hb5⟩; have HF := hid (bnext (bset (c := gx) (o := 1) (u := .int .u64 ((mq : Int) + 1)) HS.out.2 (Nat.le_of_lt HG.out)) hb5))
          all_goals
           go_ret
           exact ⟨rfl,HF.out⟩
       ·have hup := cut5 n1 m1 pl
        rw [← HL.out] at hup
        have HUP := hid hup
        clear hup
        by_cases hl : lost = 0
        ·subst hl
         have RC := HR0.out (by rw [HUP.out]; cases n1 <;> rfl)
         go_wp2_with (go_at_call 161; (with_reducible refine (RC _).out.mono ?_); rintro e w5 ⟨rfl,hb5⟩; have HF := hid (bnext HS.out.2 hb5))
         all_goals
          go_ret
          exact ⟨rfl,HF.out⟩
        ·have hl2 : ((lost : Int) != 0) = true := by simp; omega
         cases n1 with
         | true =>
          have RC := HR1.out (by rw [HUP.out]; simp [hl])
          clear hl
          go_wp2_with (go_at_call 161; (with_reducible refine (RC _).out.mono ?_); rintro e w5 ⟨rfl,hb5⟩; have HF := hid (bnext (bset (c := gx) (o := 1) (u := .int .u64 ((mq : Int) + 1)) HS.out.2 (Nat.le_of_lt HG.out)) hb5))
          all_goals
           go_ret
           exact ⟨rfl,HF.out⟩
         | false =>
          have RC := HR0.out (by rw [HUP.out]; rfl)
          clear hl
          go_wp2_with (go_at_call 161; (with_reducible refine (RC _).out.mono ?_); rintro e w5 ⟨rfl,hb5⟩; have HF := hid (bnext HS.out.2 hb5))
          all_goals
           go_ret
           exact ⟨rfl,HF.out⟩
       ·have RC := HR0.out (cut6 n1 m1 pl)
        go_wp2_with (go_at_call 161; (with_reducible refine (RC _).out.mono ?_); rintro e w5 ⟨rfl,hb5⟩; have HF := hid (bnext HS.out.2 hb5))
        all_goals
         go_ret
         exact ⟨rfl,HF.out⟩
       ·have hup := cut7 n1 m1 pl HPL1.out.1
        rw [← HL.out,← HH.out,← HQ.out] at hup
        have HUP := hid hup
        have HAND := hid (bits_and_u64_nat mq 1 (by have := HMQ.out; omega) (by decide))
        clear hup
        rcases Nat.lt_trichotomy lost half with hc | hc | hc
        ·have b1 : decide ((half : Int) < (lost : Int)) = false := by simp; omega
         have b1' : decide (half < lost) = false := by simp; omega
         have b2 : ((lost : Int) == (half : Int)) = false := by simp; omega
         have RC := HR0.out (by
          have b4 : (lost == half) = false := by simp; omega
          rw [HUP.out,b1',b4]; rfl)
         clear hc
         go_wp2_with (go_at_call 161; (with_reducible refine (RC _).out.mono ?_); rintro e w5 ⟨rfl,hb5⟩; have HF := hid (bnext HS.out.2 hb5))
         all_goals
          go_ret
          exact ⟨rfl,HF.out⟩
        ·subst hc
         rcases Nat.mod_two_eq_zero_or_one mq with h2 | h2
         ·have hand : bits .and .u64 (mq : Int) 1 = 0 := by
           have := HAND.out
           rw [Nat.and_one_is_mod,h2] at this
           exact this
          have RC := HR0.out (by rw [HUP.out,h2]; simp)
          clear h2
          go_wp2_with (go_at_call 161; (with_reducible refine (RC _).out.mono ?_); rintro e w5 ⟨rfl,hb5⟩; have HF := hid (bnext HS.out.2 hb5))
          all_goals
           go_ret
           exact ⟨rfl,HF.out⟩
         ·have hand : bits .and .u64 (mq : Int) 1 = 1 := by
           have := HAND.out
           rw [Nat.and_one_is_mod,h2] at this
           exact this
          have RC := HR1.out (by rw [HUP.out,h2]; simp)
          clear h2
          go_wp2_with (go_at_call 161; (with_reducible refine (RC _).out.mono ?_); rintro e w5 ⟨rfl,hb5⟩; have HF := hid (bnext (bset (c := gx) (o := 1) (u := .int .u64 ((mq : Int) + 1)) HS.out.2 (Nat.le_of_lt HG.out)) hb5))
          all_goals
           go_ret
           exact ⟨rfl,HF.out⟩
        ·have b1 : decide ((half : Int) < (lost : Int)) = true := by simp; omega
         have b1' : decide (half < lost) = true := by simp; omega
         have RC := HR1.out (by rw [HUP.out,b1']; rfl)
         clear hc
         go_wp2_with (go_at_call 161; (with_reducible refine (RC _).out.mono ?_); rintro e w5 ⟨rfl,hb5⟩; have HF := hid (bnext (bset (c := gx) (o := 1) (u := .int .u64 ((mq : Int) + 1)) HS.out.2 (Nat.le_of_lt HG.out)) hb5))
         all_goals
          go_ret
          exact ⟨rfl,HF.out⟩
end Go.Proofs.YtbbmbhcbncenaaaGreatDoor.Fl
namespace Go.Proofs.YtbbmbhcbncenaaaGreatDoor.Fl
open Go.RowKit
set_option maxRecDepth 20000 in
set_option maxHeartbeats 12800000 in
theorem whole_64 (op : Nat) (hop : op = 4 ∨ op = 5 ∨ op = 6 ∨ op = 7) (a : Nat) (ha : a < 18446744073709551616) (w : World) :
  Calls Tryz.prog 133 #[.agg #[.int .i64 11,.int .i64 52],.int .i64 op,.int .u64 a] w fun r w' => r = .returned (.int .u64 ((wholeW Ieee.double 9223372036854775808 9218868437227405312 9221120237041090560 op a : Nat) : Int)) ∧ Below w.heap.size w w' := by
 have KA := fun w => hid (kind_64 a ha w)
 obtain ⟨RR,hRR⟩ : ∃ RR : Nat,RR = wholeW Ieee.double 9223372036854775808 9218868437227405312 9221120237041090560 op a := ⟨_,rfl⟩
 rw [← hRR]
 have hS := Sx.new 11 52 w
 obtain ⟨c0,c1⟩ := id hS.1
 rcases kind_cases (INF := 9218868437227405312) (s := a % 9223372036854775808) with h | h | h
 ·rw [h] at KA
  have hR : RR = 9221120237041090560 := by rw [hRR]; unfold wholeW; rw [if_pos h]
  subst hR
  clear hRR h ha hop
  go_enter Tryz.func133,Tryz.ntmps133
  go_wp2_with (first
   | (go_at_call 157; ((with_reducible refine (KA _).out.mono ?_); rintro e w1 ⟨rfl,hb⟩; replace hS := hS.call hb; have c0 := hS.1.1; have c1 := hS.1.2))
   | (go_at_call 158; ((with_reducible refine (canonical_64 _).mono ?_); rintro e w1 ⟨rfl,hb⟩; replace hS := hS.call hb)))
  go_ret
  exact ⟨rfl,hS.2⟩
 ·rw [h] at KA
  have hR : RR = a := by rw [hRR]; unfold wholeW; rw [if_neg (by rw [h]; decide),whole_inf fmt_double (by omega) h]
  subst hR
  clear hRR h ha hop
  go_enter Tryz.func133,Tryz.ntmps133
  go_wp2_with (first
   | (go_at_call 157; ((with_reducible refine (KA _).out.mono ?_); rintro e w1 ⟨rfl,hb⟩; replace hS := hS.call hb; have c0 := hS.1.1; have c1 := hS.1.2)))
  go_ret
  exact ⟨rfl,hS.2⟩
 ·have PA := fun w => hid (parts_64 a ha w)
  have hR : RR = (Ieee.double).write (((Ieee.double).read a).integral (wayOf op)) := by rw [hRR]; unfold wholeW; rw [if_neg (by omega)]
  have hbig := whole_big fmt_double (a := a) (by omega) h
  have hsmall := fun K pl => whole_small fmt_double (a := a) (by omega) h (K := K) (pl := pl)
  obtain ⟨ka,hka⟩ : ∃ ka : Nat,ka = kindOf 9218868437227405312 (a % 9223372036854775808) := ⟨_,rfl⟩
  rw [← hka] at KA
  have k1 : ((ka : Int) == 4) = false := by simp; omega
  have k2 : ((ka : Int) == 3) = false := by simp; omega
  have hmb := pm_lt 52 (a % 9223372036854775808)
  have heb := pe_eq 52 (-1074) (a % 9223372036854775808)
  have hq : a % 9223372036854775808 / 2 ^ 52 ≤ 2048 := by
   have h2 : a % 9223372036854775808 < 9218868437227405312 := by
    rcases h with h | h
    ·rw [kind1.1 h]; decide
    ·exact (kind2.1 h).2
   show a % 9223372036854775808 / 4503599627370496 ≤ 2048; omega
  obtain ⟨n1,hn1⟩ : ∃ n1 : Bool,n1 = decide (9223372036854775808 ≤ a) := ⟨_,rfl⟩
  obtain ⟨m1,hm1⟩ : ∃ m1 : Nat,m1 = pm 52 (a % 9223372036854775808) := ⟨_,rfl⟩
  obtain ⟨e1,he1⟩ : ∃ e1 : Int,e1 = pe 52 (-1074) (a % 9223372036854775808) := ⟨_,rfl⟩
  rw [← hn1,← hm1,← he1] at PA
  simp only [← hn1,← hm1,← he1] at hsmall hbig
  rw [← hm1] at hmb
  rw [← he1] at heb
  have hmb2 : m1 < 9007199254740992 := by have : m1 < 4503599627370496 * 2 := hmb; omega
  generalize a % 9223372036854775808 / 2 ^ 52 = q1 at *
  have heb2 : -1100 ≤ e1 ∧ e1 ≤ 2100 := by omega
  have HR := hid hR
  have HSM := hid hsmall
  have HBG := hid hbig
  have HMB := hid hmb2
  have HEB := hid heb2
  clear hRR h ha hbig hsmall hka hmb heb hq hn1 hm1 he1 hR hmb2 heb2
  go_enter Tryz.func133,Tryz.ntmps133
  go_upto_region 5 with (first
   | (go_at_call 157; ((with_reducible refine (KA _).out.mono ?_); rintro e w1 ⟨rfl,hb⟩; replace hS := hS.call hb; have c0 := hS.1.1; have c1 := hS.1.2)))
  go_cut [7] (fun s7 wx => ∃ gx : Nat,s7 = .pointer (some ⟨gx,0,none⟩) ∧ Nb gx n1 m1 e1 wx ∧ w.heap.size < gx ∧ Sx 11 52 w wx)
  case first =>
   go_wp2_with (go_at_call 160; ((with_reducible refine (PA _).out.mono ?_); rintro e w2 ⟨rfl,hb⟩; replace hS := hS.call hb))
   go_meet
   exact ⟨w2.heap.size,rfl,Nb.new n1 m1 e1 w2,hS.lt,hS.alloc _⟩
  case rest =>
   clear hS c0 c1 PA KA k1 k2
   obtain ⟨gx,rfl,hX,hgx,hS⟩ := hcut
   have HX := hid hX
   have HS := hid hS
   have HG := hid hgx
   obtain ⟨c0,c1⟩ := id hS.1
   obtain ⟨⟨x0,x1,x2⟩,x3,x4,x5⟩ := id hX
   clear hX hS hgx
   by_cases he : 0 ≤ e1
   ·have hR2 : RR = a := by rw [HR.out]; exact HBG.out he _
    subst hR2
    have hd : decide (0 ≤ e1) = true := by simp [he]
    go_wp2
    go_ret
    exact ⟨rfl,HS.out.2⟩
   ·obtain ⟨K,hK⟩ : ∃ K : Nat,e1 = -(K : Int) := ⟨(-e1).toNat,by omega⟩
    obtain ⟨pl,hpl⟩ : ∃ pl : Nat,pl = min K 63 := ⟨_,rfl⟩
    have hd : decide (0 ≤ e1) = false := by simp; omega
    have hRs : RR = (Ieee.double).word n1 (rungR Ieee.double (m1 / 2 ^ pl + (cutUp (wayOf op) n1 m1 pl).toNat) 0 false) := by rw [HR.out]; exact HSM.out K pl hK hpl _
    have hpl1 : 1 ≤ pl ∧ pl ≤ 63 := by omega
    have HRS := hid hRs
    have HPL := hid hpl
    have HPL1 := hid hpl1
    have g1 : -e1 = (K : Int) := by omega
    have g2 : wrap64 (K : Int) = (K : Int) := by have := HEB.out; unfold wrap64; omega
    have g3 : IntKind.i64.wrap (K : Int) = (K : Int) := by have := HEB.out; rw [IntKind.wrap_i64]; omega
    clear hRs he hpl hpl1 HR HSM HBG
    have HK := hid hK
    clear hK
    go_upto_region 8 with fail
    go_cut [8] (fun s8 wx => s8 = .int .i64 pl ∧ Nb gx n1 m1 e1 wx ∧ Sx 11 52 w wx)
    case first =>
     by_cases hc : 63 < K
     ·have e63 : pl = 63 := by have := HPL.out; omega
      subst e63
      have g4 : (63 : Int) < (K : Int) := by omega
      go_wp2
      all_goals
       go_meet
       exact ⟨rfl,HX.out,HS.out⟩
     ·have ek : pl = K := by have := HPL.out; omega
      subst ek
      by_cases hc2 : pl = 63
      ·subst hc2
       go_wp2
       all_goals
        go_meet
        exact ⟨rfl,HX.out,HS.out⟩
      ·have g4 : (pl : Int) < 63 := by omega
       go_wp2
       all_goals
        go_meet
        exact ⟨rfl,HX.out,HS.out⟩
    case rest =>
     clear g1 g2 g3 hd HX HS c0 c1 x0 x1 x2 x3 x4 x5
     obtain ⟨rfl,hX,hS⟩ := hcut
     have HX := hid hX
     have HS := hid hS
     obtain ⟨c0,c1⟩ := id hS.1
     obtain ⟨⟨x0,x1,x2⟩,x3,x4,x5⟩ := id hX
     clear hX hS
     obtain ⟨lost,hlost⟩ : ∃ lost : Nat,lost = m1 % 2 ^ pl := ⟨_,rfl⟩
     obtain ⟨half,hhalf⟩ : ∃ half : Nat,half = 2 ^ (pl - 1) := ⟨_,rfl⟩
     obtain ⟨mq,hmq⟩ : ∃ mq : Nat,mq = m1 / 2 ^ pl := ⟨_,rfl⟩
     obtain ⟨pp,hpp⟩ : ∃ pp : Nat,pp = pl - 1 := ⟨_,rfl⟩
     have g1 : (pl : Int) - 1 = (pp : Int) := by have := HPL1.out; omega
     have g2 : IntKind.i64.wrap (pp : Int) = (pp : Int) := by have := HPL1.out; rw [IntKind.wrap_i64]; omega
     have g3 : (0 : Int) ≤ (pl : Int) := by omega
     have g4 : pl ≤ 64 := by have := HPL1.out; omega
     have g5 : (0 : Int) ≤ (pp : Int) := by omega
     have g6 : pp ≤ 64 := by have := HPL1.out; omega
     have HL := hid hlost
     have HH := hid hhalf
     have HQ := hid hmq
     have HPP := hid hpp
     clear hlost hhalf hmq hpp
     go_upto_region 9 with fail
     go_cut [9,10] (fun s9 s10 wx => s9 = .int .u64 lost ∧ s10 = .int .u64 half ∧ Nb gx n1 m1 e1 wx ∧ Sx 11 52 w wx)
     case first =>
      go_quiet (fail)
      (go_wp2_with fail)
      go_meet
      have hh := HPL1.out
      exact ⟨congrArg (Value.int .u64) (by rw [HL.out]; first | exact mask_bits m1 pl hh.2 (by have := HMB.out; omega) | (rw [Nat.min_eq_left (by omega)]; exact mask_bits m1 pl hh.2 (by have := HMB.out; omega))),congrArg (Value.int .u64) (by rw [HH.out,← HPP.out]; first | exact half_bits pp (by have := HPP.out; omega) | (rw [Nat.min_eq_left (by omega)]; exact half_bits pp (by have := HPP.out; omega))),HX.out,HS.out.drewN _⟩
     case rest =>
      clear g1 g2 g5 g6 HX HS c0 c1 x0 x1 x2 x3 x4 x5
      obtain ⟨rfl,rfl,hX,hS⟩ := hcut
      have HX := hid hX
      have HS := hid hS
      obtain ⟨c0,c1⟩ := id hS.1
      obtain ⟨⟨x0,x1,x2⟩,x3,x4,x5⟩ := id hX
      clear hX hS
      have g1 : (m1 : Int) / 2 ^ pl = (mq : Int) := by rw [HQ.out,Int.natCast_ediv,Int.natCast_pow]; rfl
      go_upto_region 10 with fail
      go_cut [9] (fun s9 wx => s9 = .int .u64 lost ∧ Nb gx n1 mq 0 wx ∧ Sx 11 52 w wx)
      case first =>
       go_wp2
       go_meet
       exact ⟨rfl,HX.out.setm.sete,(HS.out.set HG.out).set HG.out⟩
      case rest =>
       clear g1 g3 g4 HX HS c0 c1 x0 x1 x2 x3 x4 x5
       obtain ⟨rfl,hX,hS⟩ := hcut
       have HX := hid hX
       have HS := hid hS
       obtain ⟨c0,c1⟩ := id hS.1
       obtain ⟨⟨x0,x1,x2⟩,x3,x4,x5⟩ := id hX
       clear hX hS
       have hgF : gx ≠ w.heap.size := by have := HG.out; omega
       have hgF2 : w.heap.size ≠ gx := Ne.symm hgF
       have hmq : mq < 9007199254740993 := by have h1 := HMB.out; rw [HQ.out]; exact Nat.lt_of_le_of_lt (Nat.div_le_self _ _) (by omega)
       have v2 : IntKind.u64.wrap ((mq : Int) + 1) = (mq : Int) + 1 := by rw [IntKind.wrap_u64]; omega
       have HMQ := hid hmq
       have R0 : cutUp (wayOf op) n1 m1 pl = false → ∀ W,Hid (Calls Tryz.prog 161 #[.agg #[.int .i64 11,.int .i64 52],.agg #[.bool n1,.int .u64 mq,.int .i64 0],.bool false] W fun r w' => r = .returned (.int .u64 (RR : Int)) ∧ Below W.heap.size W w') := fun h W => by
        have := round_64 n1 mq (by omega) 0 (by decide) (by decide) false (fun h => by cases h) W
        rw [HRS.out,h,← HQ.out]
        exact this
       have R1 : cutUp (wayOf op) n1 m1 pl = true → ∀ W,Hid (Calls Tryz.prog 161 #[.agg #[.int .i64 11,.int .i64 52],.agg #[.bool n1,.int .u64 ((mq : Int) + 1),.int .i64 0],.bool false] W fun r w' => r = .returned (.int .u64 (RR : Int)) ∧ Below W.heap.size W w') := fun h W => by
        have := round_64 n1 (mq + 1) (by omega) 0 (by decide) (by decide) false (fun h => by cases h) W
        rw [HRS.out,h,← HQ.out]
        exact this
       have HR0 := hid R0
       have HR1 := hid R1
       clear R0 R1 hmq HRS
       rcases hop with rfl | rfl | rfl | rfl
       ·have hup := cut4 n1 m1 pl
        rw [← HL.out] at hup
        have HUP := hid hup
        clear hup
        by_cases hl : lost = 0
        ·subst hl
         have RC := HR0.out (by rw [HUP.out]; cases n1 <;> rfl)
         go_wp2_with (go_at_call 161; (with_reducible refine (RC _).out.mono ?_); rintro e w5 ⟨rfl,hb5⟩; have HF := hid (bnext HS.out.2 hb5))
         all_goals
          go_ret
          exact ⟨rfl,HF.out⟩
        ·have hl2 : ((lost : Int) != 0) = true := by simp; omega
         cases n1 with
         | true =>
          have RC := HR0.out (by rw [HUP.out]; rfl)
          clear hl
          go_wp2_with (go_at_call 161; (with_reducible refine (RC _).out.mono ?_); rintro e w5 ⟨rfl,hb5⟩; have HF := hid (bnext HS.out.2 hb5))
          all_goals
           go_ret
           exact ⟨rfl,HF.out⟩
         | false =>
          have RC := HR1.out (by rw [HUP.out]; simp [hl])
          clear hl
          go_wp2_with (go_at_call 161; (with_reducible refine (RC _).out.mono ?_); rintro e w5 ⟨rfl,hb5⟩; have HF := hid (bnext (bset (c := gx) (o := 1) (u := .int .u64 ((mq : Int) + 1)) HS.out.2 (Nat.le_of_lt HG.out)) hb5))
          all_goals
           go_ret
           exact ⟨rfl,HF.out⟩
       ·have hup := cut5 n1 m1 pl
        rw [← HL.out] at hup
        have HUP := hid hup
        clear hup
        by_cases hl : lost = 0
        ·subst hl
         have RC := HR0.out (by rw [HUP.out]; cases n1 <;> rfl)
         go_wp2_with (go_at_call 161; (with_reducible refine (RC _).out.mono ?_); rintro e w5 ⟨rfl,hb5⟩; have HF := hid (bnext HS.out.2 hb5))
         all_goals
          go_ret
          exact ⟨rfl,HF.out⟩
        ·have hl2 : ((lost : Int) != 0) = true := by simp; omega
         cases n1 with
         | true =>
          have RC := HR1.out (by rw [HUP.out]; simp [hl])
          clear hl
          go_wp2_with (go_at_call 161; (with_reducible refine (RC _).out.mono ?_); rintro e w5 ⟨rfl,hb5⟩; have HF := hid (bnext (bset (c := gx) (o := 1) (u := .int .u64 ((mq : Int) + 1)) HS.out.2 (Nat.le_of_lt HG.out)) hb5))
          all_goals
           go_ret
           exact ⟨rfl,HF.out⟩
         | false =>
          have RC := HR0.out (by rw [HUP.out]; rfl)
          clear hl
          go_wp2_with (go_at_call 161; (with_reducible refine (RC _).out.mono ?_); rintro e w5 ⟨rfl,hb5⟩; have HF := hid (bnext HS.out.2 hb5))
          all_goals
           go_ret
           exact ⟨rfl,HF.out⟩
       ·have RC := HR0.out (cut6 n1 m1 pl)
        go_wp2_with (go_at_call 161; (with_reducible refine (RC _).out.mono ?_); rintro e w5 ⟨rfl,hb5⟩; have HF := hid (bnext HS.out.2 hb5))
        all_goals
         go_ret
         exact ⟨rfl,HF.out⟩
       ·have hup := cut7 n1 m1 pl HPL1.out.1
        rw [← HL.out,← HH.out,← HQ.out] at hup
        have HUP := hid hup
        have HAND := hid (bits_and_u64_nat mq 1 (by have := HMQ.out; omega) (by decide))
        clear hup
        rcases Nat.lt_trichotomy lost half with hc | hc | hc
        ·have b1 : decide ((half : Int) < (lost : Int)) = false := by simp; omega
         have b1' : decide (half < lost) = false := by simp; omega
         have b2 : ((lost : Int) == (half : Int)) = false := by simp; omega
         have RC := HR0.out (by
          have b4 : (lost == half) = false := by simp; omega
          rw [HUP.out,b1',b4]; rfl)
         clear hc
         go_wp2_with (go_at_call 161; (with_reducible refine (RC _).out.mono ?_); rintro e w5 ⟨rfl,hb5⟩; have HF := hid (bnext HS.out.2 hb5))
         all_goals
          go_ret
          exact ⟨rfl,HF.out⟩
        ·subst hc
         rcases Nat.mod_two_eq_zero_or_one mq with h2 | h2
         ·have hand : bits .and .u64 (mq : Int) 1 = 0 := by
           have := HAND.out
           rw [Nat.and_one_is_mod,h2] at this
           exact this
          have RC := HR0.out (by rw [HUP.out,h2]; simp)
          clear h2
          go_wp2_with (go_at_call 161; (with_reducible refine (RC _).out.mono ?_); rintro e w5 ⟨rfl,hb5⟩; have HF := hid (bnext HS.out.2 hb5))
          all_goals
           go_ret
           exact ⟨rfl,HF.out⟩
         ·have hand : bits .and .u64 (mq : Int) 1 = 1 := by
           have := HAND.out
           rw [Nat.and_one_is_mod,h2] at this
           exact this
          have RC := HR1.out (by rw [HUP.out,h2]; simp)
          clear h2
          go_wp2_with (go_at_call 161; (with_reducible refine (RC _).out.mono ?_); rintro e w5 ⟨rfl,hb5⟩; have HF := hid (bnext (bset (c := gx) (o := 1) (u := .int .u64 ((mq : Int) + 1)) HS.out.2 (Nat.le_of_lt HG.out)) hb5))
          all_goals
           go_ret
           exact ⟨rfl,HF.out⟩
        ·have b1 : decide ((half : Int) < (lost : Int)) = true := by simp; omega
         have b1' : decide (half < lost) = true := by simp; omega
         have RC := HR1.out (by rw [HUP.out,b1']; rfl)
         clear hc
         go_wp2_with (go_at_call 161; (with_reducible refine (RC _).out.mono ?_); rintro e w5 ⟨rfl,hb5⟩; have HF := hid (bnext (bset (c := gx) (o := 1) (u := .int .u64 ((mq : Int) + 1)) HS.out.2 (Nat.le_of_lt HG.out)) hb5))
         all_goals
          go_ret
          exact ⟨rfl,HF.out⟩
end Go.Proofs.YtbbmbhcbncenaaaGreatDoor.Fl
namespace Go.Proofs.YtbbmbhcbncenaaaGreatDoor.Fl
open Go.RowKit
def unW (f : Ieee.Format) (SB INF CAN op a : Nat) : Nat :=
 if op = 1 then a % SB else if op = 2 then oppN SB a else if op = 3 then (f.sqrt a).getD CAN else wholeW f SB INF CAN op a
set_option maxHeartbeats 1600000 in
theorem Un_32_7 (a : Nat) (ha : a < 18446744073709551616) (w : World) :
  Calls Tryz.prog 69 #[.int .i64 32,.int .i64 7,.int .u64 a] w fun e w' => e = .returned (.tuple #[.int .u64 ((unW Ieee.single 2147483648 2139095040 2143289344 7 (a % 4294967296) : Nat) : Int),.int .i64 0]) ∧ Below w.heap.size w w' := by
 have CA := fun w => hid (cut_32 a ha w)
 have ha1 : a % 4294967296 < 4294967296 := by omega
 generalize a % 4294967296 = a1 at *
 have CC : ∀ W,Hid (Calls Tryz.prog 133 #[.agg #[.int .i64 8,.int .i64 23],.int .i64 7,.int .u64 a1] W fun r w' => r = .returned (.int .u64 ((unW Ieee.single 2147483648 2139095040 2143289344 7 a1 : Nat) : Int)) ∧ Below W.heap.size W w') := fun W => hid (whole_32 7 (by decide) a1 ha1 W)
 obtain ⟨RR,hRR⟩ : ∃ RR : Nat,RR = unW Ieee.single 2147483648 2139095040 2143289344 7 a1 := ⟨_,rfl⟩
 rw [← hRR] at CC ⊢
 clear ha ha1 hRR
 go_enter Tryz.func69,Tryz.ntmps69
 go_wp2_with (first
  | (go_at_call 120; ((with_reducible refine (formatOf_32 _).mono ?_); rintro e w1 ⟨rfl,hb1⟩))
  | (go_at_call 121; ((with_reducible refine (known_32 _).mono ?_); rintro e w2 ⟨rfl,hb2⟩; have hS := (Sg.new 8 23 hb1).call hb2; have c0 := hS.1.1; have c1 := hS.1.2))
  | (go_at_call 122; ((with_reducible refine (CA _).out.mono ?_); rintro e w3 ⟨rfl,hb3⟩; replace hS := hS.call hb3; clear c0 c1; have c0 := hS.1.1; have c1 := hS.1.2))
  | (go_at_call 133; ((with_reducible refine (CC _).out.mono ?_); rintro e w4 ⟨rfl,hb4⟩; replace hS := hS.call hb4)))
 go_ret2
 exact ⟨rfl,hS.2.2⟩
end Go.Proofs.YtbbmbhcbncenaaaGreatDoor.Fl
namespace Go.Proofs.YtbbmbhcbncenaaaGreatDoor.Fl
open Go.RowKit
set_option maxHeartbeats 1600000 in
theorem Un_32_1 (a : Nat) (ha : a < 18446744073709551616) (w : World) :
  Calls Tryz.prog 69 #[.int .i64 32,.int .i64 1,.int .u64 a] w fun e w' => e = .returned (.tuple #[.int .u64 ((unW Ieee.single 2147483648 2139095040 2143289344 1 (a % 4294967296) : Nat) : Int),.int .i64 0]) ∧ Below w.heap.size w w' := by
 have CA := fun w => hid (cut_32 a ha w)
 have ha1 : a % 4294967296 < 4294967296 := by omega
 generalize a % 4294967296 = a1 at *
 have CC : ∀ W,Hid (Calls Tryz.prog 130 #[.agg #[.int .i64 8,.int .i64 23],.int .u64 a1] W fun r w' => r = .returned (.int .u64 ((unW Ieee.single 2147483648 2139095040 2143289344 1 a1 : Nat) : Int)) ∧ Below W.heap.size W w') := fun W => hid (size_32 a1 ha1 W)
 obtain ⟨RR,hRR⟩ : ∃ RR : Nat,RR = unW Ieee.single 2147483648 2139095040 2143289344 1 a1 := ⟨_,rfl⟩
 rw [← hRR] at CC ⊢
 clear ha ha1 hRR
 go_enter Tryz.func69,Tryz.ntmps69
 go_wp2_with (first
  | (go_at_call 120; ((with_reducible refine (formatOf_32 _).mono ?_); rintro e w1 ⟨rfl,hb1⟩))
  | (go_at_call 121; ((with_reducible refine (known_32 _).mono ?_); rintro e w2 ⟨rfl,hb2⟩; have hS := (Sg.new 8 23 hb1).call hb2; have c0 := hS.1.1; have c1 := hS.1.2))
  | (go_at_call 122; ((with_reducible refine (CA _).out.mono ?_); rintro e w3 ⟨rfl,hb3⟩; replace hS := hS.call hb3; clear c0 c1; have c0 := hS.1.1; have c1 := hS.1.2))
  | (go_at_call 130; ((with_reducible refine (CC _).out.mono ?_); rintro e w4 ⟨rfl,hb4⟩; replace hS := hS.call hb4)))
 go_ret2
 exact ⟨rfl,hS.2.2⟩
set_option maxHeartbeats 1600000 in
theorem Un_32_2 (a : Nat) (ha : a < 18446744073709551616) (w : World) :
  Calls Tryz.prog 69 #[.int .i64 32,.int .i64 2,.int .u64 a] w fun e w' => e = .returned (.tuple #[.int .u64 ((unW Ieee.single 2147483648 2139095040 2143289344 2 (a % 4294967296) : Nat) : Int),.int .i64 0]) ∧ Below w.heap.size w w' := by
 have CA := fun w => hid (cut_32 a ha w)
 have ha1 : a % 4294967296 < 4294967296 := by omega
 generalize a % 4294967296 = a1 at *
 have CC : ∀ W,Hid (Calls Tryz.prog 131 #[.agg #[.int .i64 8,.int .i64 23],.int .u64 a1] W fun r w' => r = .returned (.int .u64 ((unW Ieee.single 2147483648 2139095040 2143289344 2 a1 : Nat) : Int)) ∧ Below W.heap.size W w') := fun W => hid (opposite_32 a1 ha1 W)
 obtain ⟨RR,hRR⟩ : ∃ RR : Nat,RR = unW Ieee.single 2147483648 2139095040 2143289344 2 a1 := ⟨_,rfl⟩
 rw [← hRR] at CC ⊢
 clear ha ha1 hRR
 go_enter Tryz.func69,Tryz.ntmps69
 go_wp2_with (first
  | (go_at_call 120; ((with_reducible refine (formatOf_32 _).mono ?_); rintro e w1 ⟨rfl,hb1⟩))
  | (go_at_call 121; ((with_reducible refine (known_32 _).mono ?_); rintro e w2 ⟨rfl,hb2⟩; have hS := (Sg.new 8 23 hb1).call hb2; have c0 := hS.1.1; have c1 := hS.1.2))
  | (go_at_call 122; ((with_reducible refine (CA _).out.mono ?_); rintro e w3 ⟨rfl,hb3⟩; replace hS := hS.call hb3; clear c0 c1; have c0 := hS.1.1; have c1 := hS.1.2))
  | (go_at_call 131; ((with_reducible refine (CC _).out.mono ?_); rintro e w4 ⟨rfl,hb4⟩; replace hS := hS.call hb4)))
 go_ret2
 exact ⟨rfl,hS.2.2⟩
set_option maxHeartbeats 1600000 in
theorem Un_32_4 (a : Nat) (ha : a < 18446744073709551616) (w : World) :
  Calls Tryz.prog 69 #[.int .i64 32,.int .i64 4,.int .u64 a] w fun e w' => e = .returned (.tuple #[.int .u64 ((unW Ieee.single 2147483648 2139095040 2143289344 4 (a % 4294967296) : Nat) : Int),.int .i64 0]) ∧ Below w.heap.size w w' := by
 have CA := fun w => hid (cut_32 a ha w)
 have ha1 : a % 4294967296 < 4294967296 := by omega
 generalize a % 4294967296 = a1 at *
 have CC : ∀ W,Hid (Calls Tryz.prog 133 #[.agg #[.int .i64 8,.int .i64 23],.int .i64 4,.int .u64 a1] W fun r w' => r = .returned (.int .u64 ((unW Ieee.single 2147483648 2139095040 2143289344 4 a1 : Nat) : Int)) ∧ Below W.heap.size W w') := fun W => hid (whole_32 4 (by decide) a1 ha1 W)
 obtain ⟨RR,hRR⟩ : ∃ RR : Nat,RR = unW Ieee.single 2147483648 2139095040 2143289344 4 a1 := ⟨_,rfl⟩
 rw [← hRR] at CC ⊢
 clear ha ha1 hRR
 go_enter Tryz.func69,Tryz.ntmps69
 go_wp2_with (first
  | (go_at_call 120; ((with_reducible refine (formatOf_32 _).mono ?_); rintro e w1 ⟨rfl,hb1⟩))
  | (go_at_call 121; ((with_reducible refine (known_32 _).mono ?_); rintro e w2 ⟨rfl,hb2⟩; have hS := (Sg.new 8 23 hb1).call hb2; have c0 := hS.1.1; have c1 := hS.1.2))
  | (go_at_call 122; ((with_reducible refine (CA _).out.mono ?_); rintro e w3 ⟨rfl,hb3⟩; replace hS := hS.call hb3; clear c0 c1; have c0 := hS.1.1; have c1 := hS.1.2))
  | (go_at_call 133; ((with_reducible refine (CC _).out.mono ?_); rintro e w4 ⟨rfl,hb4⟩; replace hS := hS.call hb4)))
 go_ret2
 exact ⟨rfl,hS.2.2⟩
set_option maxHeartbeats 1600000 in
theorem Un_32_5 (a : Nat) (ha : a < 18446744073709551616) (w : World) :
  Calls Tryz.prog 69 #[.int .i64 32,.int .i64 5,.int .u64 a] w fun e w' => e = .returned (.tuple #[.int .u64 ((unW Ieee.single 2147483648 2139095040 2143289344 5 (a % 4294967296) : Nat) : Int),.int .i64 0]) ∧ Below w.heap.size w w' := by
 have CA := fun w => hid (cut_32 a ha w)
 have ha1 : a % 4294967296 < 4294967296 := by omega
 generalize a % 4294967296 = a1 at *
 have CC : ∀ W,Hid (Calls Tryz.prog 133 #[.agg #[.int .i64 8,.int .i64 23],.int .i64 5,.int .u64 a1] W fun r w' => r = .returned (.int .u64 ((unW Ieee.single 2147483648 2139095040 2143289344 5 a1 : Nat) : Int)) ∧ Below W.heap.size W w') := fun W => hid (whole_32 5 (by decide) a1 ha1 W)
 obtain ⟨RR,hRR⟩ : ∃ RR : Nat,RR = unW Ieee.single 2147483648 2139095040 2143289344 5 a1 := ⟨_,rfl⟩
 rw [← hRR] at CC ⊢
 clear ha ha1 hRR
 go_enter Tryz.func69,Tryz.ntmps69
 go_wp2_with (first
  | (go_at_call 120; ((with_reducible refine (formatOf_32 _).mono ?_); rintro e w1 ⟨rfl,hb1⟩))
  | (go_at_call 121; ((with_reducible refine (known_32 _).mono ?_); rintro e w2 ⟨rfl,hb2⟩; have hS := (Sg.new 8 23 hb1).call hb2; have c0 := hS.1.1; have c1 := hS.1.2))
  | (go_at_call 122; ((with_reducible refine (CA _).out.mono ?_); rintro e w3 ⟨rfl,hb3⟩; replace hS := hS.call hb3; clear c0 c1; have c0 := hS.1.1; have c1 := hS.1.2))
  | (go_at_call 133; ((with_reducible refine (CC _).out.mono ?_); rintro e w4 ⟨rfl,hb4⟩; replace hS := hS.call hb4)))
 go_ret2
 exact ⟨rfl,hS.2.2⟩
set_option maxHeartbeats 1600000 in
theorem Un_32_6 (a : Nat) (ha : a < 18446744073709551616) (w : World) :
  Calls Tryz.prog 69 #[.int .i64 32,.int .i64 6,.int .u64 a] w fun e w' => e = .returned (.tuple #[.int .u64 ((unW Ieee.single 2147483648 2139095040 2143289344 6 (a % 4294967296) : Nat) : Int),.int .i64 0]) ∧ Below w.heap.size w w' := by
 have CA := fun w => hid (cut_32 a ha w)
 have ha1 : a % 4294967296 < 4294967296 := by omega
 generalize a % 4294967296 = a1 at *
 have CC : ∀ W,Hid (Calls Tryz.prog 133 #[.agg #[.int .i64 8,.int .i64 23],.int .i64 6,.int .u64 a1] W fun r w' => r = .returned (.int .u64 ((unW Ieee.single 2147483648 2139095040 2143289344 6 a1 : Nat) : Int)) ∧ Below W.heap.size W w') := fun W => hid (whole_32 6 (by decide) a1 ha1 W)
 obtain ⟨RR,hRR⟩ : ∃ RR : Nat,RR = unW Ieee.single 2147483648 2139095040 2143289344 6 a1 := ⟨_,rfl⟩
 rw [← hRR] at CC ⊢
 clear ha ha1 hRR
 go_enter Tryz.func69,Tryz.ntmps69
 go_wp2_with (first
  | (go_at_call 120; ((with_reducible refine (formatOf_32 _).mono ?_); rintro e w1 ⟨rfl,hb1⟩))
  | (go_at_call 121; ((with_reducible refine (known_32 _).mono ?_); rintro e w2 ⟨rfl,hb2⟩; have hS := (Sg.new 8 23 hb1).call hb2; have c0 := hS.1.1; have c1 := hS.1.2))
  | (go_at_call 122; ((with_reducible refine (CA _).out.mono ?_); rintro e w3 ⟨rfl,hb3⟩; replace hS := hS.call hb3; clear c0 c1; have c0 := hS.1.1; have c1 := hS.1.2))
  | (go_at_call 133; ((with_reducible refine (CC _).out.mono ?_); rintro e w4 ⟨rfl,hb4⟩; replace hS := hS.call hb4)))
 go_ret2
 exact ⟨rfl,hS.2.2⟩
set_option maxHeartbeats 1600000 in
theorem Un_64_1 (a : Nat) (ha : a < 18446744073709551616) (w : World) :
  Calls Tryz.prog 69 #[.int .i64 64,.int .i64 1,.int .u64 a] w fun e w' => e = .returned (.tuple #[.int .u64 ((unW Ieee.double 9223372036854775808 9218868437227405312 9221120237041090560 1 (a % 18446744073709551616) : Nat) : Int),.int .i64 0]) ∧ Below w.heap.size w w' := by
 have CA := fun w => hid (cut_64 a ha w)
 have ha1 : a % 18446744073709551616 < 18446744073709551616 := by omega
 generalize a % 18446744073709551616 = a1 at *
 have CC : ∀ W,Hid (Calls Tryz.prog 130 #[.agg #[.int .i64 11,.int .i64 52],.int .u64 a1] W fun r w' => r = .returned (.int .u64 ((unW Ieee.double 9223372036854775808 9218868437227405312 9221120237041090560 1 a1 : Nat) : Int)) ∧ Below W.heap.size W w') := fun W => hid (size_64 a1 ha1 W)
 obtain ⟨RR,hRR⟩ : ∃ RR : Nat,RR = unW Ieee.double 9223372036854775808 9218868437227405312 9221120237041090560 1 a1 := ⟨_,rfl⟩
 rw [← hRR] at CC ⊢
 clear ha ha1 hRR
 go_enter Tryz.func69,Tryz.ntmps69
 go_wp2_with (first
  | (go_at_call 120; ((with_reducible refine (formatOf_64 _).mono ?_); rintro e w1 ⟨rfl,hb1⟩))
  | (go_at_call 121; ((with_reducible refine (known_64 _).mono ?_); rintro e w2 ⟨rfl,hb2⟩; have hS := (Sg.new 11 52 hb1).call hb2; have c0 := hS.1.1; have c1 := hS.1.2))
  | (go_at_call 122; ((with_reducible refine (CA _).out.mono ?_); rintro e w3 ⟨rfl,hb3⟩; replace hS := hS.call hb3; clear c0 c1; have c0 := hS.1.1; have c1 := hS.1.2))
  | (go_at_call 130; ((with_reducible refine (CC _).out.mono ?_); rintro e w4 ⟨rfl,hb4⟩; replace hS := hS.call hb4)))
 go_ret2
 exact ⟨rfl,hS.2.2⟩
set_option maxHeartbeats 1600000 in
theorem Un_64_2 (a : Nat) (ha : a < 18446744073709551616) (w : World) :
  Calls Tryz.prog 69 #[.int .i64 64,.int .i64 2,.int .u64 a] w fun e w' => e = .returned (.tuple #[.int .u64 ((unW Ieee.double 9223372036854775808 9218868437227405312 9221120237041090560 2 (a % 18446744073709551616) : Nat) : Int),.int .i64 0]) ∧ Below w.heap.size w w' := by
 have CA := fun w => hid (cut_64 a ha w)
 have ha1 : a % 18446744073709551616 < 18446744073709551616 := by omega
 generalize a % 18446744073709551616 = a1 at *
 have CC : ∀ W,Hid (Calls Tryz.prog 131 #[.agg #[.int .i64 11,.int .i64 52],.int .u64 a1] W fun r w' => r = .returned (.int .u64 ((unW Ieee.double 9223372036854775808 9218868437227405312 9221120237041090560 2 a1 : Nat) : Int)) ∧ Below W.heap.size W w') := fun W => hid (opposite_64 a1 ha1 W)
 obtain ⟨RR,hRR⟩ : ∃ RR : Nat,RR = unW Ieee.double 9223372036854775808 9218868437227405312 9221120237041090560 2 a1 := ⟨_,rfl⟩
 rw [← hRR] at CC ⊢
 clear ha ha1 hRR
 go_enter Tryz.func69,Tryz.ntmps69
 go_wp2_with (first
  | (go_at_call 120; ((with_reducible refine (formatOf_64 _).mono ?_); rintro e w1 ⟨rfl,hb1⟩))
  | (go_at_call 121; ((with_reducible refine (known_64 _).mono ?_); rintro e w2 ⟨rfl,hb2⟩; have hS := (Sg.new 11 52 hb1).call hb2; have c0 := hS.1.1; have c1 := hS.1.2))
  | (go_at_call 122; ((with_reducible refine (CA _).out.mono ?_); rintro e w3 ⟨rfl,hb3⟩; replace hS := hS.call hb3; clear c0 c1; have c0 := hS.1.1; have c1 := hS.1.2))
  | (go_at_call 131; ((with_reducible refine (CC _).out.mono ?_); rintro e w4 ⟨rfl,hb4⟩; replace hS := hS.call hb4)))
 go_ret2
 exact ⟨rfl,hS.2.2⟩
set_option maxHeartbeats 1600000 in
theorem Un_64_4 (a : Nat) (ha : a < 18446744073709551616) (w : World) :
  Calls Tryz.prog 69 #[.int .i64 64,.int .i64 4,.int .u64 a] w fun e w' => e = .returned (.tuple #[.int .u64 ((unW Ieee.double 9223372036854775808 9218868437227405312 9221120237041090560 4 (a % 18446744073709551616) : Nat) : Int),.int .i64 0]) ∧ Below w.heap.size w w' := by
 have CA := fun w => hid (cut_64 a ha w)
 have ha1 : a % 18446744073709551616 < 18446744073709551616 := by omega
 generalize a % 18446744073709551616 = a1 at *
 have CC : ∀ W,Hid (Calls Tryz.prog 133 #[.agg #[.int .i64 11,.int .i64 52],.int .i64 4,.int .u64 a1] W fun r w' => r = .returned (.int .u64 ((unW Ieee.double 9223372036854775808 9218868437227405312 9221120237041090560 4 a1 : Nat) : Int)) ∧ Below W.heap.size W w') := fun W => hid (whole_64 4 (by decide) a1 ha1 W)
 obtain ⟨RR,hRR⟩ : ∃ RR : Nat,RR = unW Ieee.double 9223372036854775808 9218868437227405312 9221120237041090560 4 a1 := ⟨_,rfl⟩
 rw [← hRR] at CC ⊢
 clear ha ha1 hRR
 go_enter Tryz.func69,Tryz.ntmps69
 go_wp2_with (first
  | (go_at_call 120; ((with_reducible refine (formatOf_64 _).mono ?_); rintro e w1 ⟨rfl,hb1⟩))
  | (go_at_call 121; ((with_reducible refine (known_64 _).mono ?_); rintro e w2 ⟨rfl,hb2⟩; have hS := (Sg.new 11 52 hb1).call hb2; have c0 := hS.1.1; have c1 := hS.1.2))
  | (go_at_call 122; ((with_reducible refine (CA _).out.mono ?_); rintro e w3 ⟨rfl,hb3⟩; replace hS := hS.call hb3; clear c0 c1; have c0 := hS.1.1; have c1 := hS.1.2))
  | (go_at_call 133; ((with_reducible refine (CC _).out.mono ?_); rintro e w4 ⟨rfl,hb4⟩; replace hS := hS.call hb4)))
 go_ret2
 exact ⟨rfl,hS.2.2⟩
set_option maxHeartbeats 1600000 in
theorem Un_64_5 (a : Nat) (ha : a < 18446744073709551616) (w : World) :
  Calls Tryz.prog 69 #[.int .i64 64,.int .i64 5,.int .u64 a] w fun e w' => e = .returned (.tuple #[.int .u64 ((unW Ieee.double 9223372036854775808 9218868437227405312 9221120237041090560 5 (a % 18446744073709551616) : Nat) : Int),.int .i64 0]) ∧ Below w.heap.size w w' := by
 have CA := fun w => hid (cut_64 a ha w)
 have ha1 : a % 18446744073709551616 < 18446744073709551616 := by omega
 generalize a % 18446744073709551616 = a1 at *
 have CC : ∀ W,Hid (Calls Tryz.prog 133 #[.agg #[.int .i64 11,.int .i64 52],.int .i64 5,.int .u64 a1] W fun r w' => r = .returned (.int .u64 ((unW Ieee.double 9223372036854775808 9218868437227405312 9221120237041090560 5 a1 : Nat) : Int)) ∧ Below W.heap.size W w') := fun W => hid (whole_64 5 (by decide) a1 ha1 W)
 obtain ⟨RR,hRR⟩ : ∃ RR : Nat,RR = unW Ieee.double 9223372036854775808 9218868437227405312 9221120237041090560 5 a1 := ⟨_,rfl⟩
 rw [← hRR] at CC ⊢
 clear ha ha1 hRR
 go_enter Tryz.func69,Tryz.ntmps69
 go_wp2_with (first
  | (go_at_call 120; ((with_reducible refine (formatOf_64 _).mono ?_); rintro e w1 ⟨rfl,hb1⟩))
  | (go_at_call 121; ((with_reducible refine (known_64 _).mono ?_); rintro e w2 ⟨rfl,hb2⟩; have hS := (Sg.new 11 52 hb1).call hb2; have c0 := hS.1.1; have c1 := hS.1.2))
  | (go_at_call 122; ((with_reducible refine (CA _).out.mono ?_); rintro e w3 ⟨rfl,hb3⟩; replace hS := hS.call hb3; clear c0 c1; have c0 := hS.1.1; have c1 := hS.1.2))
  | (go_at_call 133; ((with_reducible refine (CC _).out.mono ?_); rintro e w4 ⟨rfl,hb4⟩; replace hS := hS.call hb4)))
 go_ret2
 exact ⟨rfl,hS.2.2⟩
set_option maxHeartbeats 1600000 in
theorem Un_64_6 (a : Nat) (ha : a < 18446744073709551616) (w : World) :
  Calls Tryz.prog 69 #[.int .i64 64,.int .i64 6,.int .u64 a] w fun e w' => e = .returned (.tuple #[.int .u64 ((unW Ieee.double 9223372036854775808 9218868437227405312 9221120237041090560 6 (a % 18446744073709551616) : Nat) : Int),.int .i64 0]) ∧ Below w.heap.size w w' := by
 have CA := fun w => hid (cut_64 a ha w)
 have ha1 : a % 18446744073709551616 < 18446744073709551616 := by omega
 generalize a % 18446744073709551616 = a1 at *
 have CC : ∀ W,Hid (Calls Tryz.prog 133 #[.agg #[.int .i64 11,.int .i64 52],.int .i64 6,.int .u64 a1] W fun r w' => r = .returned (.int .u64 ((unW Ieee.double 9223372036854775808 9218868437227405312 9221120237041090560 6 a1 : Nat) : Int)) ∧ Below W.heap.size W w') := fun W => hid (whole_64 6 (by decide) a1 ha1 W)
 obtain ⟨RR,hRR⟩ : ∃ RR : Nat,RR = unW Ieee.double 9223372036854775808 9218868437227405312 9221120237041090560 6 a1 := ⟨_,rfl⟩
 rw [← hRR] at CC ⊢
 clear ha ha1 hRR
 go_enter Tryz.func69,Tryz.ntmps69
 go_wp2_with (first
  | (go_at_call 120; ((with_reducible refine (formatOf_64 _).mono ?_); rintro e w1 ⟨rfl,hb1⟩))
  | (go_at_call 121; ((with_reducible refine (known_64 _).mono ?_); rintro e w2 ⟨rfl,hb2⟩; have hS := (Sg.new 11 52 hb1).call hb2; have c0 := hS.1.1; have c1 := hS.1.2))
  | (go_at_call 122; ((with_reducible refine (CA _).out.mono ?_); rintro e w3 ⟨rfl,hb3⟩; replace hS := hS.call hb3; clear c0 c1; have c0 := hS.1.1; have c1 := hS.1.2))
  | (go_at_call 133; ((with_reducible refine (CC _).out.mono ?_); rintro e w4 ⟨rfl,hb4⟩; replace hS := hS.call hb4)))
 go_ret2
 exact ⟨rfl,hS.2.2⟩
set_option maxHeartbeats 1600000 in
theorem Un_64_7 (a : Nat) (ha : a < 18446744073709551616) (w : World) :
  Calls Tryz.prog 69 #[.int .i64 64,.int .i64 7,.int .u64 a] w fun e w' => e = .returned (.tuple #[.int .u64 ((unW Ieee.double 9223372036854775808 9218868437227405312 9221120237041090560 7 (a % 18446744073709551616) : Nat) : Int),.int .i64 0]) ∧ Below w.heap.size w w' := by
 have CA := fun w => hid (cut_64 a ha w)
 have ha1 : a % 18446744073709551616 < 18446744073709551616 := by omega
 generalize a % 18446744073709551616 = a1 at *
 have CC : ∀ W,Hid (Calls Tryz.prog 133 #[.agg #[.int .i64 11,.int .i64 52],.int .i64 7,.int .u64 a1] W fun r w' => r = .returned (.int .u64 ((unW Ieee.double 9223372036854775808 9218868437227405312 9221120237041090560 7 a1 : Nat) : Int)) ∧ Below W.heap.size W w') := fun W => hid (whole_64 7 (by decide) a1 ha1 W)
 obtain ⟨RR,hRR⟩ : ∃ RR : Nat,RR = unW Ieee.double 9223372036854775808 9218868437227405312 9221120237041090560 7 a1 := ⟨_,rfl⟩
 rw [← hRR] at CC ⊢
 clear ha ha1 hRR
 go_enter Tryz.func69,Tryz.ntmps69
 go_wp2_with (first
  | (go_at_call 120; ((with_reducible refine (formatOf_64 _).mono ?_); rintro e w1 ⟨rfl,hb1⟩))
  | (go_at_call 121; ((with_reducible refine (known_64 _).mono ?_); rintro e w2 ⟨rfl,hb2⟩; have hS := (Sg.new 11 52 hb1).call hb2; have c0 := hS.1.1; have c1 := hS.1.2))
  | (go_at_call 122; ((with_reducible refine (CA _).out.mono ?_); rintro e w3 ⟨rfl,hb3⟩; replace hS := hS.call hb3; clear c0 c1; have c0 := hS.1.1; have c1 := hS.1.2))
  | (go_at_call 133; ((with_reducible refine (CC _).out.mono ?_); rintro e w4 ⟨rfl,hb4⟩; replace hS := hS.call hb4)))
 go_ret2
 exact ⟨rfl,hS.2.2⟩
end Go.Proofs.YtbbmbhcbncenaaaGreatDoor.Fl
