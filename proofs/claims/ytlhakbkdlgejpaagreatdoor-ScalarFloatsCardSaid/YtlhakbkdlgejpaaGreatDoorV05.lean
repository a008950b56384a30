/-
  FRoot, FRoot64, FFUn3, FRWholeM: merged, what the laws do not reach left out (each text says what it holds where it lies in wip). No condition.
-/
import Derived.Test.YtlhakbkdlgejpaaGreatDoorV04
import Derived.Test.YtlhakbkdlgejpaaGreatDoorX23
import Derived.Test.YtlhakbkdlgejpaaGreatDoorX20
import Derived.Test.YtlhakbkdlgejpaaGreatDoorX01
set_option linter.unusedSimpArgs false
set_option linter.unusedVariables false
set_option maxRecDepth 100000
namespace Go.Proofs.YtlhakbkdlgejpaaGreatDoor.Fl
open Go.RowKit
set_option maxRecDepth 20000 in
set_option maxHeartbeats 12800000 in
theorem root_32_fin (a:Nat) (ha:a < 2147483648) (h1:kindOf 2139095040 (a % 2147483648)=2) (w:World) :
  Calls Tryz.prog 184 #[.agg #[.int .i64 8,.int .i64 23],.int .u64 a] w fun r w' => r=.returned (.int .u64 ((((Ieee.single).sqrt a).getD 2143289344:Nat):Int))∧Below w.heap.size w w':=by
 have ha2:a < 4294967296:=by omega
 have KA:=fun w => hid (kind_32 a ha2 w)
 have PA:=fun w => hid (parts_32 a ha2 w)
 have SG:=fun w => hid (sign_32 a ha2 w)
 rw [h1] at KA
 have hsg:(if 2147483648≤a then 2147483648 else 0)=0:=by rw [if_neg (by omega)]
 rw [hsg] at SG
 have hng:decide (2147483648≤a)=false:=decide_eq_false (by omega)
 rw [hng] at PA
 have p1:=(rk2 fmt_single (by omega) h1).2
 have hr2:=(rk2 fmt_single (by omega) h1).1
 rw [hng] at hr2
 have hm1b:=pm_lt 23 (a % 2147483648)
 have he1b:=pe_eq 23 (-149) (a % 2147483648)
 have hq1:a % 2147483648 / 2 ^ 23≤2046:=by show a % 2147483648 / 8388608≤2046;have:=(kind2.1 h1).2;omega
 obtain ⟨RR,hRR⟩:∃ RR:Nat,RR=((Ieee.single).sqrt a).getD 2143289344:=⟨_,rfl⟩
 rw [← hRR]
 unfold Ieee.Format.sqrt at hRR
 rw [hr2] at hRR
 obtain ⟨m1,hm1⟩:∃ m1:Nat,m1=pm 23 (a % 2147483648):=⟨_,rfl⟩
 obtain ⟨e1,he1⟩:∃ e1:Int,e1=pe 23 (-149) (a % 2147483648):=⟨_,rfl⟩
 rw [← hm1,← he1] at PA hRR
 rw [← hm1] at hm1b p1
 rw [← he1] at he1b
 have hm53:m1 < 8388608 * 2:=hm1b
 generalize a % 2147483648 / 2 ^ 23=q1 at *
 have HRR:=hid hRR
 have HM1:Hid (m1 < 18446744073709551616):=hid (by omega)
 have HM:=hid (show m1 < 9007199254740992 by omega)
 have HEB:=hid (show -1100≤e1∧e1≤2100 by omega)
 have HE1:Hid (-4611686018427387904≤e1∧e1≤4611686018427387904):=hid (by have:=HEB.out;omega)
 have HP0:=hid p1
 have hS:=Sx.new 8 23 w
 clear hRR hr2 hng hm1 he1 hm1b hm53 he1b hq1 p1 hsg h1 ha ha2
 obtain ⟨c0,c1⟩:=id hS.1
 go_enter Tryz.func184,Tryz.ntmps184
 go_upto_region 7 with (first
  | (go_at_call 241;((with_reducible refine (KA _).out.mono ?_);rintro e w1 ⟨rfl,hb⟩;replace hS:=hS.call hb;clear c0 c1;obtain ⟨c0,c1⟩:=id hS.1))
  | (go_at_call 189;((with_reducible refine (SG _).out.mono ?_);rintro e w1 ⟨rfl,hb⟩;replace hS:=hS.call hb;clear c0 c1;obtain ⟨c0,c1⟩:=id hS.1)))
 go_cut [5] (fun s5 wx => ∃ (gx j y:Nat) (d:Int),s5=.pointer (some ⟨gx,0,none⟩)∧Nb gx false y d wx∧w.heap.size < gx∧Sx 8 23 w wx∧Hid (NJ m1 e1 j y d))
 case first =>
  go_wp2_with (first
   | (go_at_call 244;((with_reducible refine (PA _).out.mono ?_);rintro e w2 ⟨rfl,hb⟩;replace hS:=hS.call hb;clear c0 c1;obtain ⟨c0,c1⟩:=id hS.1))
   | (go_at_call 243;((with_reducible refine (normal_any false m1 HM1.out e1 HE1.out.1 HE1.out.2 _).mono ?_);rintro e w3 ⟨j,hj,hl,hlt,he,hb3⟩;subst he;replace hS:=hS.call hb3)))
  go_meet
  exact ⟨w3.heap.size,j,m1 * 2 ^ j,e1 - (j:Int),rfl,Nb.new false (m1 * 2 ^ j) (e1 - (j:Int)) w3,hS.lt,hS.alloc _,hid ⟨hj,hl,hlt,rfl,rfl⟩⟩
 case rest =>
  clear hS c0 c1 PA KA SG HM1 HE1
  obtain ⟨gx,j,y,d,rfl,hX,hgx,hS,HN⟩:=hcut
  obtain ⟨hj,hl,hlt,hy,hd⟩:=HN.out
  have hY:=hl HP0.out
  rw [← hy] at hY hlt
  have hj11:11≤j:=by
   rcases Nat.lt_or_ge j 11 with h | h
   ·exfalso
    have h2:(2:Nat) ^ j≤2 ^ 10:=Nat.pow_le_pow_right (by decide) (by omega)
    have h3:m1 * 2 ^ j≤m1 * 2 ^ 10:=Nat.mul_le_mul_left _ h2
    have c:(2:Nat) ^ 10=1024:=by decide
    rw [c] at h3
    have:=HM.out
    omega
   ·exact h
  have hHX:=hid hX
  have HS:=hid hS
  have HG:=hid hgx
  obtain ⟨c0,c1⟩:=id hS.1
  obtain ⟨⟨x0,x1,x2⟩,x3,x4,x5⟩:=id hX
  have HN2:=hid (show y < 18446744073709551616∧9223372036854775808≤y∧-3000≤d∧d≤3000 by have:=HEB.out;omega)
  have HJ:=hid (And.intro hj11 (And.intro hy hd))
  obtain ⟨od,hod⟩:∃ od:Int,od=d % 2:=⟨_,rfl⟩
  have h1:bits .and .i64 d 1=od:=by rw [hod];exact and_one d
  obtain ⟨ob,hob⟩:∃ ob:Bool,(od != 0)=ob:=⟨_,rfl⟩
  have HO:=hid (And.intro hod hob)
  clear hX hgx hS hj hl hlt hy hd hY hj11 HN HP0 hod
  go_upto_region 8 with fail
  go_cut [42] (fun s42 wx => s42=.bool ob∧Nb gx false y d wx∧Sx 8 23 w wx)
  case first =>
   go_wp2
   go_meet
   exact ⟨rfl,hHX.out,HS.out⟩
  case rest =>
  clear hHX HS c0 c1 x0 x1 x2 x3 x4 x5 h1 hob
  obtain ⟨rfl,hX,hS⟩:=hcut
  have hHX:=hid hX
  have HS:=hid hS
  obtain ⟨c0,c1⟩:=id hS.1
  obtain ⟨⟨x0,x1,x2⟩,x3,x4,x5⟩:=id hX
  clear hX hS
  go_upto_if 42 with fail
  go_cut [5] (fun s5 wx => ∃ (N:Nat) (E:Int),s5=.pointer (some ⟨gx,0,none⟩)∧Nb gx false N E wx∧Sx 8 23 w wx∧Hid (4611686018427387904≤N∧N < 18446744073709551616∧E % 2=0∧-3100≤E∧E≤3100∧∃ K:Nat,N * 2 ^ 56=m1 * 2 ^ K∧e1 - (K:Int)=E - 56))
  case first =>
   cases ob with
   | false =>
    go_wp2
    go_meet
    refine ⟨y,d,rfl,hHX.out,HS.out,hid ?_⟩
    obtain ⟨b1,b2,b3,b4⟩:=HN2.out
    obtain ⟨i1,i2,i3⟩:=HJ.out
    obtain ⟨o1,o2⟩:=HO.out
    have o3:od=0:=by simpa using o2
    refine ⟨by omega,b1,by omega,by omega,by omega,j + 56,?_,by omega⟩
    rw [i2,Nat.mul_assoc,← Nat.pow_add]
   | true =>
    obtain ⟨y2,hy2⟩:∃ y2:Nat,y2=y / 2:=⟨_,rfl⟩
    obtain ⟨d2,hd2⟩:∃ d2:Int,d2=d + 1:=⟨_,rfl⟩
    have g2:(y:Int) / 2=(y2:Int):=by omega
    have g3:d + 1=d2:=hd2.symm
    have g4:wrap64 d2=d2:=pwrap_in _ (by have:=HN2.out;omega) (by have:=HN2.out;omega)
    have HO2:=hid (And.intro hy2 hd2)
    clear hy2 hd2
    go_wp2
    go_meet
    refine ⟨y2,d2,rfl,hHX.out.setm.sete,(HS.out.set HG.out).set HG.out,hid ?_⟩
    obtain ⟨b1,b2,b3,b4⟩:=HN2.out
    obtain ⟨i1,i2,i3⟩:=HJ.out
    obtain ⟨o2,o3⟩:=HO2.out
    obtain ⟨o4,o5⟩:=HO.out
    have o6:¬ od=0:=by simpa using o5
    refine ⟨by omega,by omega,by omega,by omega,by omega,j + 55,?_,by omega⟩
    obtain ⟨i,rfl⟩:∃ i,j=i + 1:=⟨j - 1,by omega⟩
    rw [o2,i2,Nat.pow_succ,← Nat.mul_assoc,Nat.mul_div_cancel _ (by decide),Nat.mul_assoc,← Nat.pow_add,show i + 1 + 55=i + 56 by omega]
  case rest =>
   clear HN2 HJ HO hHX HS c0 c1 x0 x1 x2 x3 x4 x5
   obtain ⟨N,E,rfl,hX,hS,HF⟩:=hcut
   have HX:=hid hX
   have HS:=hid hS
   obtain ⟨c0,c1⟩:=id hS.1
   obtain ⟨⟨x0,x1,x2⟩,x3,x4,x5⟩:=id hX
   clear hX hS
   go_upto_region 11 with fail
   go_cut [6,7,8] (fun s6 s7 s8 wx => s6=.int .u64 0∧s7=.int .u64 0∧s8=.int .u64 (N:Int)∧Nb gx false N E wx∧Sx 8 23 w wx)
   case first =>
    go_quiet (fail)
    (go_wp2_with fail)
    go_meet
    exact ⟨rfl,rfl,rfl,HX.out,HS.out.drewN _⟩
   case rest =>
    clear HX HS c0 c1 x0 x1 x2 x3 x4 x5
    obtain ⟨rfl,rfl,rfl,hX,hS⟩:=hcut
    have HX:=hid hX
    have HS:=hid hS
    clear hX hS
    go_wp2
    go_loop [6,7,8,53] (fun vm vr vl vk => ∃ k m r l:Nat,k≤60∧vk=.int .i64 k∧vm=.int .u64 m∧vr=.int .u64 r∧vl=.int .u64 l∧RI N k m r l) (fun _ _ _ vk => 60 - (intOf vk).toNat)
    case atStart => exact ⟨0,0,0,N,by omega,rfl,rfl,rfl,rfl,ri_start N HF.out.2.1⟩
    case round =>
     obtain ⟨k,m,r,l,hk,rfl,rfl,rfl,rfl,hri⟩:=hrel
     by_cases hlt:k < 60
     ·have hk0:decide ((k:Int) < 60)=true:=decide_eq_true (by omega)
      obtain ⟨r4,t,l4,q4,m2,f1,f2,f3,f4,hl4,f5,f6,f7,hm2,f8,hb⟩:=root_loop_math N k m r l hri HF.out.2.1 hlt
      have hst:=ri_step hri
      rw [← hl4,← hm2] at hst
      obtain ⟨R,hR⟩:∃ R:Nat,R=4 * r + l / 4611686018427387904:=⟨_,rfl⟩
      obtain ⟨Q,hQ⟩:∃ Q:Nat,Q=4 * m + 1:=⟨_,rfl⟩
      rw [← hm2] at f8
      obtain ⟨M2,hM2⟩:∃ M2:Nat,M2=m2 + 1:=⟨_,rfl⟩
      rw [← hR] at f3 hst hb
      rw [← hQ] at f6 hst
      rw [← hM2] at f8 hst
      by_cases hc:Q≤R
      ·have hd1:decide ((Q:Int)≤(R:Int))=true:=decide_eq_true (by omega)
       have hd2:decide (Q≤R)=true:=decide_eq_true hc
       obtain ⟨R2,hR2⟩:∃ R2:Nat,R2=R - Q:=⟨_,rfl⟩
       have f9:IntKind.u64.wrap ((R:Int) - (Q:Int))=(R2:Int):=by clear f1 f2 f3 f4 f5 f6 f7 f8 hst;rw [IntKind.wrap_u64];omega
       have HI:=hid (hst.1 hc)
       rw [← hR2] at HI
       clear hst hri hl4 hm2 hR hQ hM2 hR2 hc hb
       go_wp2
       all_goals
        go_round
        case rel => exact ⟨k + 1,M2,R2,l4,by omega,by go_num,rfl,rfl,rfl,HI.out⟩
        case measure => simp [intOf];omega
      ·have hd1:decide ((Q:Int)≤(R:Int))=false:=decide_eq_false (by omega)
       have hd2:decide (Q≤R)=false:=decide_eq_false hc
       have HI:=hid (hst.2 (by omega))
       clear hst hri hl4 hm2 hR hQ hM2 hc hb f8
       go_wp2
       all_goals
        go_round
        case rel => exact ⟨k + 1,m2,R,l4,by omega,by go_num,rfl,rfl,rfl,HI.out⟩
        case measure => simp [intOf];omega
     ·have hk60:k=60:=by omega
      subst hk60
      have hmb:=(ri_bound hri HF.out.2.1 (by decide)).1
      obtain ⟨hre,hsq⟩:=ri_end hri
      obtain ⟨n1,n2,n3,n4,n5,K,n6,n7⟩:=HF.out
      have hmlo:288230376151711744≤m:=by
       rcases Nat.lt_or_ge m 288230376151711744 with h | h
       ·exfalso
        have h2:(m + 1) * (m + 1)≤288230376151711744 * 288230376151711744:=Nat.mul_le_mul (by omega) (by omega)
        have h3:=hsq.2
        have c:(2:Nat) ^ 56=72057594037927936:=by decide
        rw [c] at h3
        omega
       ·exact h
      obtain ⟨mo,hmo⟩:∃ mo:Bool,mo=decide (r ≠ 0):=⟨_,rfl⟩
      have g1:((r:Int) != 0)=mo:=by
       rw [hmo]
       by_cases h:r=0
       ·subst h;rfl
       ·simp [h]
      obtain ⟨h,hh⟩:∃ h:Int,E=2 * h:=⟨E / 2,by omega⟩
      have g2:Int.tdiv E 2=h:=by rw [hh];exact Int.mul_tdiv_cancel_left _ (by decide)
      obtain ⟨e3,he3⟩:∃ e3:Int,e3=h + 32 - 60:=⟨_,rfl⟩
      obtain ⟨e4,he4⟩:∃ e4:Int,e4=h + 32:=⟨_,rfl⟩
      have g3:h + 32=e4:=he4.symm
      have g4:wrap64 h=h:=pwrap_in _ (by omega) (by omega)
      have g5:wrap64 e4=e4:=pwrap_in _ (by omega) (by omega)
      have g6:e4 - 60=e3:=by omega
      have g7:wrap64 e3=e3:=pwrap_in _ (by omega) (by omega)
      have hRf:RR=(Ieee.single).word false (rungR Ieee.single m e3 mo):=by
       rw [HRR.out]
       have hrm:=root_math (f:=Ieee.single) m1 e1 (by intro h0;rw [h0,Nat.zero_mul] at n6;have:0 < N * 2 ^ 56:=Nat.mul_pos (by omega) (by decide);omega) (K:=K) (r:=m) (by omega) (by rw [← n6];exact hsq) (by rw [← n6];exact Nat.le_trans (by decide) (Nat.mul_le_mul_right _ n1))
       rw [hrm]
       have he:(e1 - (K:Int)) / 2=e3:=by omega
       have hb:decide (m * m ≠ m1 * 2 ^ K)=mo:=by
        rw [hmo,← n6,← hre]
        exact decide_eq_decide.2 ⟨fun h1 h2 => h1 (by rw [h2,Nat.add_zero]),fun h1 h2 => h1 (by omega)⟩
       show (Ieee.single).word false (rungR Ieee.single m ((e1 - (K:Int)) / 2) (decide (m * m ≠ m1 * 2 ^ K)))=_
       rw [he,hb]
      have RC:=fun W => hid (round_32 false m (by omega) e3 (by omega) (by omega) mo (fun _ => hmlo) W)
      rw [← hRf] at RC
      obtain ⟨c0,c1⟩:=id HS.out.1
      obtain ⟨⟨x0,x1,x2⟩,-⟩:=id HX.out
      clear hRf hre hsq n1 n2 n3 n4 n5 n6 n7 hmlo hmo hh he3 he4 hmb hri
      go_wp2_with (go_at_call 245;(with_reducible refine (RC _).out.mono ?_);rintro e w5 ⟨rfl,hb5⟩;have HFF:=hid (bnext HS.out.2 hb5))
      go_ret
      exact ⟨rfl,HFF.out⟩
set_option maxRecDepth 20000 in
set_option maxHeartbeats 6400000 in
theorem root_32_walk (a k sg X:Nat) (ha:a < 4294967296) (hk:kindOf 2139095040 (a % 2147483648)=k) (hsg:(if 2147483648≤a then 2147483648 else 0)=sg)
  (hw:(k=1∧X=a) ∨ (k=4∧X=2143289344) ∨ (k ≠ 1∧k ≠ 4∧sg ≠ 0∧X=2143289344) ∨ (k=3∧sg=0∧X=a)) (w:World) :
  Calls Tryz.prog 184 #[.agg #[.int .i64 8,.int .i64 23],.int .u64 a] w fun r w' => r=.returned (.int .u64 (X:Int))∧Below w.heap.size w w':=by
 have KA:=fun w => hid (kind_32 a ha w)
 have SG:=fun w => hid (sign_32 a ha w)
 rw [hk] at KA
 rw [hsg] at SG
 have hS:=Sx.new 8 23 w
 obtain ⟨c0,c1⟩:=id hS.1
 clear hk hsg ha
 rcases hw with ⟨rfl,rfl⟩ | ⟨rfl,rfl⟩ | ⟨h1,h2,h3,rfl⟩ | ⟨rfl,rfl,rfl⟩
 ·go_enter Tryz.func184,Tryz.ntmps184
  go_wp2_with (first
   | (go_at_call 241;((with_reducible refine (KA _).out.mono ?_);rintro e w1 ⟨rfl,hb⟩;replace hS:=hS.call hb;clear c0 c1;obtain ⟨c0,c1⟩:=id hS.1)))
  go_ret
  exact ⟨rfl,hS.2⟩
 ·go_enter Tryz.func184,Tryz.ntmps184
  go_wp2_with (first
   | (go_at_call 241;((with_reducible refine (KA _).out.mono ?_);rintro e w1 ⟨rfl,hb⟩;replace hS:=hS.call hb;clear c0 c1;obtain ⟨c0,c1⟩:=id hS.1))
   | (go_at_call 242;((with_reducible refine (canonical_32 _).mono ?_);rintro e w1 ⟨rfl,hb⟩;replace hS:=hS.call hb)))
  go_ret
  exact ⟨rfl,hS.2⟩
 ·have t1:((k:Int) == 1)=false:=beq_eq_false_iff_ne.2 (by omega)
  have t2:((k:Int) == 4)=false:=beq_eq_false_iff_ne.2 (by omega)
  have t3:((sg:Int) != 0)=true:=bne_iff_ne.2 (by omega)
  clear h1 h2 h3
  go_enter Tryz.func184,Tryz.ntmps184
  go_wp2_with (first
   | (go_at_call 241;((with_reducible refine (KA _).out.mono ?_);rintro e w1 ⟨rfl,hb⟩;replace hS:=hS.call hb;clear c0 c1;obtain ⟨c0,c1⟩:=id hS.1))
   | (go_at_call 189;((with_reducible refine (SG _).out.mono ?_);rintro e w1 ⟨rfl,hb⟩;replace hS:=hS.call hb;clear c0 c1;obtain ⟨c0,c1⟩:=id hS.1))
   | (go_at_call 242;((with_reducible refine (canonical_32 _).mono ?_);rintro e w1 ⟨rfl,hb⟩;replace hS:=hS.call hb)))
  go_ret
  exact ⟨rfl,hS.2⟩
 ·go_enter Tryz.func184,Tryz.ntmps184
  go_wp2_with (first
   | (go_at_call 241;((with_reducible refine (KA _).out.mono ?_);rintro e w1 ⟨rfl,hb⟩;replace hS:=hS.call hb;clear c0 c1;obtain ⟨c0,c1⟩:=id hS.1))
   | (go_at_call 189;((with_reducible refine (SG _).out.mono ?_);rintro e w1 ⟨rfl,hb⟩;replace hS:=hS.call hb;clear c0 c1;obtain ⟨c0,c1⟩:=id hS.1)))
  go_ret
  exact ⟨rfl,hS.2⟩
theorem root_32 (a:Nat) (ha:a < 4294967296) (w:World) :
  Calls Tryz.prog 184 #[.agg #[.int .i64 8,.int .i64 23],.int .u64 a] w fun r w' => r=.returned (.int .u64 ((((Ieee.single).sqrt a).getD 2143289344:Nat):Int))∧Below w.heap.size w w':=by
 have hb2:a < 2 * 2147483648:=by omega
 rcases Nat.lt_or_ge 2139095040 (a % 2147483648) with hn | hn
 ·have hs:=sqrt_nan fmt_single hn
  rw [hs]
  exact root_32_walk a 4 _ _ ha (by rw [kindOf_four];exact hn) rfl (.inr (.inl ⟨rfl,rfl⟩)) w
 ·rcases kind_le hn with h | h | h
  ·rw [sqrt_zero fmt_single hb2 h]
   exact root_32_walk a 1 _ _ ha h rfl (.inl ⟨rfl,rfl⟩) w
  ·by_cases hsg:2147483648≤a
   ·rw [sqrt_neg fmt_single hb2 (.inl h) hsg]
    exact root_32_walk a 2 2147483648 _ ha h (by rw [if_pos hsg]) (.inr (.inr (.inl ⟨by decide,by decide,by decide,rfl⟩))) w
   ·exact root_32_fin a (by omega) h w
  ·by_cases hsg:2147483648≤a
   ·rw [sqrt_neg fmt_single hb2 (.inr h) hsg]
    exact root_32_walk a 3 2147483648 _ ha h (by rw [if_pos hsg]) (.inr (.inr (.inl ⟨by decide,by decide,by decide,rfl⟩))) w
   ·rw [sqrt_inf fmt_single hb2 h hsg]
    exact root_32_walk a 3 0 _ ha h (by rw [if_neg hsg]) (.inr (.inr (.inr ⟨rfl,rfl,rfl⟩))) w
end Go.Proofs.YtlhakbkdlgejpaaGreatDoor.Fl
namespace Go.Proofs.YtlhakbkdlgejpaaGreatDoor.Fl
open Go.RowKit
set_option maxRecDepth 20000 in
set_option maxHeartbeats 12800000 in
theorem root_64_fin (a:Nat) (ha:a < 9223372036854775808) (h1:kindOf 9218868437227405312 (a % 9223372036854775808)=2) (w:World) :
  Calls Tryz.prog 184 #[.agg #[.int .i64 11,.int .i64 52],.int .u64 a] w fun r w' => r=.returned (.int .u64 ((((Ieee.double).sqrt a).getD 9221120237041090560:Nat):Int))∧Below w.heap.size w w':=by
 have ha2:a < 18446744073709551616:=by omega
 have KA:=fun w => hid (kind_64 a ha2 w)
 have PA:=fun w => hid (parts_64 a ha2 w)
 have SG:=fun w => hid (sign_64 a ha2 w)
 rw [h1] at KA
 have hsg:(if 9223372036854775808≤a then 9223372036854775808 else 0)=0:=by rw [if_neg (by omega)]
 rw [hsg] at SG
 have hng:decide (9223372036854775808≤a)=false:=decide_eq_false (by omega)
 rw [hng] at PA
 have p1:=(rk2 fmt_double (by omega) h1).2
 have hr2:=(rk2 fmt_double (by omega) h1).1
 rw [hng] at hr2
 have hm1b:=pm_lt 52 (a % 9223372036854775808)
 have he1b:=pe_eq 52 (-1074) (a % 9223372036854775808)
 have hq1:a % 9223372036854775808 / 2 ^ 52≤2046:=by show a % 9223372036854775808 / 4503599627370496≤2046;have:=(kind2.1 h1).2;omega
 obtain ⟨RR,hRR⟩:∃ RR:Nat,RR=((Ieee.double).sqrt a).getD 9221120237041090560:=⟨_,rfl⟩
 rw [← hRR]
 unfold Ieee.Format.sqrt at hRR
 rw [hr2] at hRR
 obtain ⟨m1,hm1⟩:∃ m1:Nat,m1=pm 52 (a % 9223372036854775808):=⟨_,rfl⟩
 obtain ⟨e1,he1⟩:∃ e1:Int,e1=pe 52 (-1074) (a % 9223372036854775808):=⟨_,rfl⟩
 rw [← hm1,← he1] at PA hRR
 rw [← hm1] at hm1b p1
 rw [← he1] at he1b
 have hm53:m1 < 4503599627370496 * 2:=hm1b
 generalize a % 9223372036854775808 / 2 ^ 52=q1 at *
 have HRR:=hid hRR
 have HM1:Hid (m1 < 18446744073709551616):=hid (by omega)
 have HM:=hid (show m1 < 9007199254740992 by omega)
 have HEB:=hid (show -1100≤e1∧e1≤2100 by omega)
 have HE1:Hid (-4611686018427387904≤e1∧e1≤4611686018427387904):=hid (by have:=HEB.out;omega)
 have HP0:=hid p1
 have hS:=Sx.new 11 52 w
 clear hRR hr2 hng hm1 he1 hm1b hm53 he1b hq1 p1 hsg h1 ha ha2
 obtain ⟨c0,c1⟩:=id hS.1
 go_enter Tryz.func184,Tryz.ntmps184
 go_upto_region 7 with (first
  | (go_at_call 241;((with_reducible refine (KA _).out.mono ?_);rintro e w1 ⟨rfl,hb⟩;replace hS:=hS.call hb;clear c0 c1;obtain ⟨c0,c1⟩:=id hS.1))
  | (go_at_call 189;((with_reducible refine (SG _).out.mono ?_);rintro e w1 ⟨rfl,hb⟩;replace hS:=hS.call hb;clear c0 c1;obtain ⟨c0,c1⟩:=id hS.1)))
 go_cut [5] (fun s5 wx => ∃ (gx j y:Nat) (d:Int),s5=.pointer (some ⟨gx,0,none⟩)∧Nb gx false y d wx∧w.heap.size < gx∧Sx 11 52 w wx∧Hid (NJ m1 e1 j y d))
 case first =>
  go_wp2_with (first
   | (go_at_call 244;((with_reducible refine (PA _).out.mono ?_);rintro e w2 ⟨rfl,hb⟩;replace hS:=hS.call hb;clear c0 c1;obtain ⟨c0,c1⟩:=id hS.1))
   | (go_at_call 243;((with_reducible refine (normal_any false m1 HM1.out e1 HE1.out.1 HE1.out.2 _).mono ?_);rintro e w3 ⟨j,hj,hl,hlt,he,hb3⟩;subst he;replace hS:=hS.call hb3)))
  go_meet
  exact ⟨w3.heap.size,j,m1 * 2 ^ j,e1 - (j:Int),rfl,Nb.new false (m1 * 2 ^ j) (e1 - (j:Int)) w3,hS.lt,hS.alloc _,hid ⟨hj,hl,hlt,rfl,rfl⟩⟩
 case rest =>
  clear hS c0 c1 PA KA SG HM1 HE1
  obtain ⟨gx,j,y,d,rfl,hX,hgx,hS,HN⟩:=hcut
  obtain ⟨hj,hl,hlt,hy,hd⟩:=HN.out
  have hY:=hl HP0.out
  rw [← hy] at hY hlt
  have hj11:11≤j:=by
   rcases Nat.lt_or_ge j 11 with h | h
   ·exfalso
    have h2:(2:Nat) ^ j≤2 ^ 10:=Nat.pow_le_pow_right (by decide) (by omega)
    have h3:m1 * 2 ^ j≤m1 * 2 ^ 10:=Nat.mul_le_mul_left _ h2
    have c:(2:Nat) ^ 10=1024:=by decide
    rw [c] at h3
    have:=HM.out
    omega
   ·exact h
  have hHX:=hid hX
  have HS:=hid hS
  have HG:=hid hgx
  obtain ⟨c0,c1⟩:=id hS.1
  obtain ⟨⟨x0,x1,x2⟩,x3,x4,x5⟩:=id hX
  have HN2:=hid (show y < 18446744073709551616∧9223372036854775808≤y∧-3000≤d∧d≤3000 by have:=HEB.out;omega)
  have HJ:=hid (And.intro hj11 (And.intro hy hd))
  obtain ⟨od,hod⟩:∃ od:Int,od=d % 2:=⟨_,rfl⟩
  have h1:bits .and .i64 d 1=od:=by rw [hod];exact and_one d
  obtain ⟨ob,hob⟩:∃ ob:Bool,(od != 0)=ob:=⟨_,rfl⟩
  have HO:=hid (And.intro hod hob)
  clear hX hgx hS hj hl hlt hy hd hY hj11 HN HP0 hod
  go_upto_region 8 with fail
  go_cut [42] (fun s42 wx => s42=.bool ob∧Nb gx false y d wx∧Sx 11 52 w wx)
  case first =>
   go_wp2
   go_meet
   exact ⟨rfl,hHX.out,HS.out⟩
  case rest =>
  clear hHX HS c0 c1 x0 x1 x2 x3 x4 x5 h1 hob
  obtain ⟨rfl,hX,hS⟩:=hcut
  have hHX:=hid hX
  have HS:=hid hS
  obtain ⟨c0,c1⟩:=id hS.1
  obtain ⟨⟨x0,x1,x2⟩,x3,x4,x5⟩:=id hX
  clear hX hS
  go_upto_if 42 with fail
  go_cut [5] (fun s5 wx => ∃ (N:Nat) (E:Int),s5=.pointer (some ⟨gx,0,none⟩)∧Nb gx false N E wx∧Sx 11 52 w wx∧Hid (4611686018427387904≤N∧N < 18446744073709551616∧E % 2=0∧-3100≤E∧E≤3100∧∃ K:Nat,N * 2 ^ 56=m1 * 2 ^ K∧e1 - (K:Int)=E - 56))
  case first =>
   cases ob with
   | false =>
    go_wp2
    go_meet
    refine ⟨y,d,rfl,hHX.out,HS.out,hid ?_⟩
    obtain ⟨b1,b2,b3,b4⟩:=HN2.out
    obtain ⟨i1,i2,i3⟩:=HJ.out
    obtain ⟨o1,o2⟩:=HO.out
    have o3:od=0:=by simpa using o2
    refine ⟨by omega,b1,by omega,by omega,by omega,j + 56,?_,by omega⟩
    rw [i2,Nat.mul_assoc,← Nat.pow_add]
   | true =>
    obtain ⟨y2,hy2⟩:∃ y2:Nat,y2=y / 2:=⟨_,rfl⟩
    obtain ⟨d2,hd2⟩:∃ d2:Int,d2=d + 1:=⟨_,rfl⟩
    have g2:(y:Int) / 2=(y2:Int):=by omega
    have g3:d + 1=d2:=hd2.symm
    have g4:wrap64 d2=d2:=pwrap_in _ (by have:=HN2.out;omega) (by have:=HN2.out;omega)
    have HO2:=hid (And.intro hy2 hd2)
    clear hy2 hd2
    go_wp2
    go_meet
    refine ⟨y2,d2,rfl,hHX.out.setm.sete,(HS.out.set HG.out).set HG.out,hid ?_⟩
    obtain ⟨b1,b2,b3,b4⟩:=HN2.out
    obtain ⟨i1,i2,i3⟩:=HJ.out
    obtain ⟨o2,o3⟩:=HO2.out
    obtain ⟨o4,o5⟩:=HO.out
    have o6:¬ od=0:=by simpa using o5
    refine ⟨by omega,by omega,by omega,by omega,by omega,j + 55,?_,by omega⟩
    obtain ⟨i,rfl⟩:∃ i,j=i + 1:=⟨j - 1,by omega⟩
    rw [o2,i2,Nat.pow_succ,← Nat.mul_assoc,Nat.mul_div_cancel _ (by decide),Nat.mul_assoc,← Nat.pow_add,show i + 1 + 55=i + 56 by omega]
  case rest =>
   clear HN2 HJ HO hHX HS c0 c1 x0 x1 x2 x3 x4 x5
   obtain ⟨N,E,rfl,hX,hS,HF⟩:=hcut
   have HX:=hid hX
   have HS:=hid hS
   obtain ⟨c0,c1⟩:=id hS.1
   obtain ⟨⟨x0,x1,x2⟩,x3,x4,x5⟩:=id hX
   clear hX hS
   go_upto_region 11 with fail
   go_cut [6,7,8] (fun s6 s7 s8 wx => s6=.int .u64 0∧s7=.int .u64 0∧s8=.int .u64 (N:Int)∧Nb gx false N E wx∧Sx 11 52 w wx)
   case first =>
    go_quiet (fail)
    (go_wp2_with fail)
    go_meet
    exact ⟨rfl,rfl,rfl,HX.out,HS.out.drewN _⟩
   case rest =>
    clear HX HS c0 c1 x0 x1 x2 x3 x4 x5
    obtain ⟨rfl,rfl,rfl,hX,hS⟩:=hcut
    have HX:=hid hX
    have HS:=hid hS
    clear hX hS
    go_wp2
    go_loop [6,7,8,53] (fun vm vr vl vk => ∃ k m r l:Nat,k≤60∧vk=.int .i64 k∧vm=.int .u64 m∧vr=.int .u64 r∧vl=.int .u64 l∧RI N k m r l) (fun _ _ _ vk => 60 - (intOf vk).toNat)
    case atStart => exact ⟨0,0,0,N,by omega,rfl,rfl,rfl,rfl,ri_start N HF.out.2.1⟩
    case round =>
     obtain ⟨k,m,r,l,hk,rfl,rfl,rfl,rfl,hri⟩:=hrel
     by_cases hlt:k < 60
     ·have hk0:decide ((k:Int) < 60)=true:=decide_eq_true (by omega)
      obtain ⟨r4,t,l4,q4,m2,f1,f2,f3,f4,hl4,f5,f6,f7,hm2,f8,hb⟩:=root_loop_math N k m r l hri HF.out.2.1 hlt
      have hst:=ri_step hri
      rw [← hl4,← hm2] at hst
      obtain ⟨R,hR⟩:∃ R:Nat,R=4 * r + l / 4611686018427387904:=⟨_,rfl⟩
      obtain ⟨Q,hQ⟩:∃ Q:Nat,Q=4 * m + 1:=⟨_,rfl⟩
      rw [← hm2] at f8
      obtain ⟨M2,hM2⟩:∃ M2:Nat,M2=m2 + 1:=⟨_,rfl⟩
      rw [← hR] at f3 hst hb
      rw [← hQ] at f6 hst
      rw [← hM2] at f8 hst
      by_cases hc:Q≤R
      ·have hd1:decide ((Q:Int)≤(R:Int))=true:=decide_eq_true (by omega)
       have hd2:decide (Q≤R)=true:=decide_eq_true hc
       obtain ⟨R2,hR2⟩:∃ R2:Nat,R2=R - Q:=⟨_,rfl⟩
       have f9:IntKind.u64.wrap ((R:Int) - (Q:Int))=(R2:Int):=by clear f1 f2 f3 f4 f5 f6 f7 f8 hst;rw [IntKind.wrap_u64];omega
       have HI:=hid (hst.1 hc)
       rw [← hR2] at HI
       clear hst hri hl4 hm2 hR hQ hM2 hR2 hc hb
       go_wp2
       all_goals
        go_round
        case rel => exact ⟨k + 1,M2,R2,l4,by omega,by go_num,rfl,rfl,rfl,HI.out⟩
        case measure => simp [intOf];omega
      ·have hd1:decide ((Q:Int)≤(R:Int))=false:=decide_eq_false (by omega)
       have hd2:decide (Q≤R)=false:=decide_eq_false hc
       have HI:=hid (hst.2 (by omega))
       clear hst hri hl4 hm2 hR hQ hM2 hc hb f8
       go_wp2
       all_goals
        go_round
        case rel => exact ⟨k + 1,m2,R,l4,by omega,by go_num,rfl,rfl,rfl,HI.out⟩
        case measure => simp [intOf];omega
     ·have hk60:k=60:=by omega
      subst hk60
      have hmb:=(ri_bound hri HF.out.2.1 (by decide)).1
      obtain ⟨hre,hsq⟩:=ri_end hri
      obtain ⟨n1,n2,n3,n4,n5,K,n6,n7⟩:=HF.out
      have hmlo:288230376151711744≤m:=by
       rcases Nat.lt_or_ge m 288230376151711744 with h | h
       ·exfalso
        have h2:(m + 1) * (m + 1)≤288230376151711744 * 288230376151711744:=Nat.mul_le_mul (by omega) (by omega)
        have h3:=hsq.2
        have c:(2:Nat) ^ 56=72057594037927936:=by decide
        rw [c] at h3
        omega
       ·exact h
      obtain ⟨mo,hmo⟩:∃ mo:Bool,mo=decide (r ≠ 0):=⟨_,rfl⟩
      have g1:((r:Int) != 0)=mo:=by
       rw [hmo]
       by_cases h:r=0
       ·subst h;rfl
       ·simp [h]
      obtain ⟨h,hh⟩:∃ h:Int,E=2 * h:=⟨E / 2,by omega⟩
      have g2:Int.tdiv E 2=h:=by rw [hh];exact Int.mul_tdiv_cancel_left _ (by decide)
      obtain ⟨e3,he3⟩:∃ e3:Int,e3=h + 32 - 60:=⟨_,rfl⟩
      obtain ⟨e4,he4⟩:∃ e4:Int,e4=h + 32:=⟨_,rfl⟩
      have g3:h + 32=e4:=he4.symm
      have g4:wrap64 h=h:=pwrap_in _ (by omega) (by omega)
      have g5:wrap64 e4=e4:=pwrap_in _ (by omega) (by omega)
      have g6:e4 - 60=e3:=by omega
      have g7:wrap64 e3=e3:=pwrap_in _ (by omega) (by omega)
      have hRf:RR=(Ieee.double).word false (rungR Ieee.double m e3 mo):=by
       rw [HRR.out]
       have hrm:=root_math (f:=Ieee.double) m1 e1 (by intro h0;rw [h0,Nat.zero_mul] at n6;have:0 < N * 2 ^ 56:=Nat.mul_pos (by omega) (by decide);omega) (K:=K) (r:=m) (by omega) (by rw [← n6];exact hsq) (by rw [← n6];exact Nat.le_trans (by decide) (Nat.mul_le_mul_right _ n1))
       rw [hrm]
       have he:(e1 - (K:Int)) / 2=e3:=by omega
       have hb:decide (m * m ≠ m1 * 2 ^ K)=mo:=by
        rw [hmo,← n6,← hre]
        exact decide_eq_decide.2 ⟨fun h1 h2 => h1 (by rw [h2,Nat.add_zero]),fun h1 h2 => h1 (by omega)⟩
       show (Ieee.double).word false (rungR Ieee.double m ((e1 - (K:Int)) / 2) (decide (m * m ≠ m1 * 2 ^ K)))=_
       rw [he,hb]
      have RC:=fun W => hid (round_64 false m (by omega) e3 (by omega) (by omega) mo (fun _ => hmlo) W)
      rw [← hRf] at RC
      obtain ⟨c0,c1⟩:=id HS.out.1
      obtain ⟨⟨x0,x1,x2⟩,-⟩:=id HX.out
      clear hRf hre hsq n1 n2 n3 n4 n5 n6 n7 hmlo hmo hh he3 he4 hmb hri
      go_wp2_with (go_at_call 245;(with_reducible refine (RC _).out.mono ?_);rintro e w5 ⟨rfl,hb5⟩;have HFF:=hid (bnext HS.out.2 hb5))
      go_ret
      exact ⟨rfl,HFF.out⟩
set_option maxRecDepth 20000 in
set_option maxHeartbeats 6400000 in
theorem root_64_walk (a k sg X:Nat) (ha:a < 18446744073709551616) (hk:kindOf 9218868437227405312 (a % 9223372036854775808)=k) (hsg:(if 9223372036854775808≤a then 9223372036854775808 else 0)=sg)
  (hw:(k=1∧X=a) ∨ (k=4∧X=9221120237041090560) ∨ (k ≠ 1∧k ≠ 4∧sg ≠ 0∧X=9221120237041090560) ∨ (k=3∧sg=0∧X=a)) (w:World) :
  Calls Tryz.prog 184 #[.agg #[.int .i64 11,.int .i64 52],.int .u64 a] w fun r w' => r=.returned (.int .u64 (X:Int))∧Below w.heap.size w w':=by
 have KA:=fun w => hid (kind_64 a ha w)
 have SG:=fun w => hid (sign_64 a ha w)
 rw [hk] at KA
 rw [hsg] at SG
 have hS:=Sx.new 11 52 w
 obtain ⟨c0,c1⟩:=id hS.1
 clear hk hsg ha
 rcases hw with ⟨rfl,rfl⟩ | ⟨rfl,rfl⟩ | ⟨h1,h2,h3,rfl⟩ | ⟨rfl,rfl,rfl⟩
 ·go_enter Tryz.func184,Tryz.ntmps184
  go_wp2_with (first
   | (go_at_call 241;((with_reducible refine (KA _).out.mono ?_);rintro e w1 ⟨rfl,hb⟩;replace hS:=hS.call hb;clear c0 c1;obtain ⟨c0,c1⟩:=id hS.1)))
  go_ret
  exact ⟨rfl,hS.2⟩
 ·go_enter Tryz.func184,Tryz.ntmps184
  go_wp2_with (first
   | (go_at_call 241;((with_reducible refine (KA _).out.mono ?_);rintro e w1 ⟨rfl,hb⟩;replace hS:=hS.call hb;clear c0 c1;obtain ⟨c0,c1⟩:=id hS.1))
   | (go_at_call 242;((with_reducible refine (canonical_64 _).mono ?_);rintro e w1 ⟨rfl,hb⟩;replace hS:=hS.call hb)))
  go_ret
  exact ⟨rfl,hS.2⟩
 ·have t1:((k:Int) == 1)=false:=beq_eq_false_iff_ne.2 (by omega)
  have t2:((k:Int) == 4)=false:=beq_eq_false_iff_ne.2 (by omega)
  have t3:((sg:Int) != 0)=true:=bne_iff_ne.2 (by omega)
  clear h1 h2 h3
  go_enter Tryz.func184,Tryz.ntmps184
  go_wp2_with (first
   | (go_at_call 241;((with_reducible refine (KA _).out.mono ?_);rintro e w1 ⟨rfl,hb⟩;replace hS:=hS.call hb;clear c0 c1;obtain ⟨c0,c1⟩:=id hS.1))
   | (go_at_call 189;((with_reducible refine (SG _).out.mono ?_);rintro e w1 ⟨rfl,hb⟩;replace hS:=hS.call hb;clear c0 c1;obtain ⟨c0,c1⟩:=id hS.1))
   | (go_at_call 242;((with_reducible refine (canonical_64 _).mono ?_);rintro e w1 ⟨rfl,hb⟩;replace hS:=hS.call hb)))
  go_ret
  exact ⟨rfl,hS.2⟩
 ·go_enter Tryz.func184,Tryz.ntmps184
  go_wp2_with (first
   | (go_at_call 241;((with_reducible refine (KA _).out.mono ?_);rintro e w1 ⟨rfl,hb⟩;replace hS:=hS.call hb;clear c0 c1;obtain ⟨c0,c1⟩:=id hS.1))
   | (go_at_call 189;((with_reducible refine (SG _).out.mono ?_);rintro e w1 ⟨rfl,hb⟩;replace hS:=hS.call hb;clear c0 c1;obtain ⟨c0,c1⟩:=id hS.1)))
  go_ret
  exact ⟨rfl,hS.2⟩
theorem root_64 (a:Nat) (ha:a < 18446744073709551616) (w:World) :
  Calls Tryz.prog 184 #[.agg #[.int .i64 11,.int .i64 52],.int .u64 a] w fun r w' => r=.returned (.int .u64 ((((Ieee.double).sqrt a).getD 9221120237041090560:Nat):Int))∧Below w.heap.size w w':=by
 have hb2:a < 2 * 9223372036854775808:=by omega
 rcases Nat.lt_or_ge 9218868437227405312 (a % 9223372036854775808) with hn | hn
 ·have hs:=sqrt_nan fmt_double hn
  rw [hs]
  exact root_64_walk a 4 _ _ ha (by rw [kindOf_four];exact hn) rfl (.inr (.inl ⟨rfl,rfl⟩)) w
 ·rcases kind_le hn with h | h | h
  ·rw [sqrt_zero fmt_double hb2 h]
   exact root_64_walk a 1 _ _ ha h rfl (.inl ⟨rfl,rfl⟩) w
  ·by_cases hsg:9223372036854775808≤a
   ·rw [sqrt_neg fmt_double hb2 (.inl h) hsg]
    exact root_64_walk a 2 9223372036854775808 _ ha h (by rw [if_pos hsg]) (.inr (.inr (.inl ⟨by decide,by decide,by decide,rfl⟩))) w
   ·exact root_64_fin a (by omega) h w
  ·by_cases hsg:9223372036854775808≤a
   ·rw [sqrt_neg fmt_double hb2 (.inr h) hsg]
    exact root_64_walk a 3 9223372036854775808 _ ha h (by rw [if_pos hsg]) (.inr (.inr (.inl ⟨by decide,by decide,by decide,rfl⟩))) w
   ·rw [sqrt_inf fmt_double hb2 h hsg]
    exact root_64_walk a 3 0 _ ha h (by rw [if_neg hsg]) (.inr (.inr (.inr ⟨rfl,rfl,rfl⟩))) w
end Go.Proofs.YtlhakbkdlgejpaaGreatDoor.Fl
namespace Go.Proofs.YtlhakbkdlgejpaaGreatDoor.Fl
open Go.RowKit
set_option maxHeartbeats 1600000 in
theorem Un_32_3 (a:Nat) (ha:a < 18446744073709551616) (w:World) :
  Calls Tryz.prog 109 #[.int .i64 32,.int .i64 3,.int .u64 a] w fun e w' => e=.returned (.tuple #[.int .u64 ((unW Ieee.single 2147483648 2139095040 2143289344 3 (a % 4294967296):Nat):Int),.int .i64 0])∧Below w.heap.size w w':=by
 have CA:=fun w => hid (cut_32 a ha w)
 have ha1:a % 4294967296 < 4294967296:=by omega
 generalize a % 4294967296=a1 at *
 have CC:∀ W,Hid (Calls Tryz.prog 184 #[.agg #[.int .i64 8,.int .i64 23],.int .u64 a1] W fun r w' => r=.returned (.int .u64 ((unW Ieee.single 2147483648 2139095040 2143289344 3 a1:Nat):Int))∧Below W.heap.size W w'):=fun W => hid (root_32 a1 ha1 W)
 obtain ⟨RR,hRR⟩:∃ RR:Nat,RR=unW Ieee.single 2147483648 2139095040 2143289344 3 a1:=⟨_,rfl⟩
 rw [← hRR] at CC ⊢
 clear ha ha1 hRR
 go_enter Tryz.func109,Tryz.ntmps109
 go_wp2_with (first
  | (go_at_call 179;((with_reducible refine (formatOf_32 _).mono ?_);rintro e w1 ⟨rfl,hb1⟩))
  | (go_at_call 180;((with_reducible refine (known_32 _).mono ?_);rintro e w2 ⟨rfl,hb2⟩;have hS:=(Sg.new 8 23 hb1).call hb2;have c0:=hS.1.1;have c1:=hS.1.2))
  | (go_at_call 181;((with_reducible refine (CA _).out.mono ?_);rintro e w3 ⟨rfl,hb3⟩;replace hS:=hS.call hb3;clear c0 c1;have c0:=hS.1.1;have c1:=hS.1.2))
  | (go_at_call 184;((with_reducible refine (CC _).out.mono ?_);rintro e w4 ⟨rfl,hb4⟩;replace hS:=hS.call hb4)))
 go_ret2
 exact ⟨rfl,hS.2.2⟩
set_option maxHeartbeats 1600000 in
theorem Un_64_3 (a:Nat) (ha:a < 18446744073709551616) (w:World) :
  Calls Tryz.prog 109 #[.int .i64 64,.int .i64 3,.int .u64 a] w fun e w' => e=.returned (.tuple #[.int .u64 ((unW Ieee.double 9223372036854775808 9218868437227405312 9221120237041090560 3 (a % 18446744073709551616):Nat):Int),.int .i64 0])∧Below w.heap.size w w':=by
 have CA:=fun w => hid (cut_64 a ha w)
 have ha1:a % 18446744073709551616 < 18446744073709551616:=by omega
 generalize a % 18446744073709551616=a1 at *
 have CC:∀ W,Hid (Calls Tryz.prog 184 #[.agg #[.int .i64 11,.int .i64 52],.int .u64 a1] W fun r w' => r=.returned (.int .u64 ((unW Ieee.double 9223372036854775808 9218868437227405312 9221120237041090560 3 a1:Nat):Int))∧Below W.heap.size W w'):=fun W => hid (root_64 a1 ha1 W)
 obtain ⟨RR,hRR⟩:∃ RR:Nat,RR=unW Ieee.double 9223372036854775808 9218868437227405312 9221120237041090560 3 a1:=⟨_,rfl⟩
 rw [← hRR] at CC ⊢
 clear ha ha1 hRR
 go_enter Tryz.func109,Tryz.ntmps109
 go_wp2_with (first
  | (go_at_call 179;((with_reducible refine (formatOf_64 _).mono ?_);rintro e w1 ⟨rfl,hb1⟩))
  | (go_at_call 180;((with_reducible refine (known_64 _).mono ?_);rintro e w2 ⟨rfl,hb2⟩;have hS:=(Sg.new 11 52 hb1).call hb2;have c0:=hS.1.1;have c1:=hS.1.2))
  | (go_at_call 181;((with_reducible refine (CA _).out.mono ?_);rintro e w3 ⟨rfl,hb3⟩;replace hS:=hS.call hb3;clear c0 c1;have c0:=hS.1.1;have c1:=hS.1.2))
  | (go_at_call 184;((with_reducible refine (CC _).out.mono ?_);rintro e w4 ⟨rfl,hb4⟩;replace hS:=hS.call hb4)))
 go_ret2
 exact ⟨rfl,hS.2.2⟩
end Go.Proofs.YtlhakbkdlgejpaaGreatDoor.Fl
namespace Go.Proofs.YtlhakbkdlgejpaaGreatDoor.Fl
open Go.RowKit
section
open Ieee
theorem cut_scale (way:Toward) (s:Bool) (n d k:Nat):way.cut s (n * 2 ^ k) (d + k)=way.cut s n d:=by
 have hp:0 < 2 ^ k:=Nat.two_pow_pos k
 have h1:n * 2 ^ k / 2 ^ (d + k)=n / 2 ^ d:=by rw [Nat.pow_add];exact Nat.mul_div_mul_right _ _ hp
 have h2:n * 2 ^ k % 2 ^ (d + k)=n % 2 ^ d * 2 ^ k:=by rw [Nat.pow_add];exact Nat.mul_mod_mul_right _ _ _
 rw [cut_plain,cut_plain,h1]
 have:cutUp way s (n * 2 ^ k) (d + k)=cutUp way s n d:=by
  unfold cutUp
  rw [h1,h2,Nat.pow_add]
  generalize n % 2 ^ d=r
  generalize 2 ^ d=D
  generalize 2 ^ k=K at *
  cases way
  ·have e1:decide (D * K < 2 * (r * K))=decide (D < 2 * r):=decide_eq_decide.2 (by
    rw [← Nat.mul_assoc];exact Nat.mul_lt_mul_right hp)
   have e2:(D * K == 2 * (r * K))=(D == 2 * r):=by
    rw [← Nat.mul_assoc]
    by_cases h:D=2 * r
    ·subst h;rw [beq_self_eq_true,beq_self_eq_true]
    ·have:¬ D * K=2 * r * K:=fun h2 => h (Nat.eq_of_mul_eq_mul_right hp h2)
     rw [beq_eq_false_iff_ne.2 this,beq_eq_false_iff_ne.2 h]
   show (decide (D * K < 2 * (r * K)) || (D * K == 2 * (r * K) && n / D % 2 == 1))=(decide (D < 2 * r) || (D == 2 * r && n / D % 2 == 1))
   rw [e1,e2]
  ·have e3:(r * K != 0)=(r != 0):=by
    by_cases h:r=0
    ·subst h;rw [Nat.zero_mul]
    ·have:¬ r * K=0:=Nat.mul_ne_zero h (by omega)
     rw [bne_iff_ne.2 this,bne_iff_ne.2 h]
   show (s && (r * K != 0))=(s && (r != 0))
   rw [e3]
  ·have e3:(r * K != 0)=(r != 0):=by
    by_cases h:r=0
    ·subst h;rw [Nat.zero_mul]
    ·have:¬ r * K=0:=Nat.mul_ne_zero h (by omega)
     rw [bne_iff_ne.2 this,bne_iff_ne.2 h]
   show (!s && (r * K != 0))=(!s && (r != 0))
   rw [e3]
  ·rfl
 rw [this]
theorem wide_integral (way:Toward) (s:Bool) (m:Nat) (e:Int):(wideD s m e).integral way=.number s (way.cut s (m <<< e.toNat) (-e).toNat) 0:=by
 unfold wideD
 by_cases h0:m=0
 ·subst h0
  rw [if_pos rfl]
  simp only [Datum.integral,Nat.zero_shiftLeft]
  have hz:∀ d,way.cut s 0 d=0:=fun d => by
   rw [cut_plain,Nat.zero_div]
   have:cutUp way s 0 d=false:=by
    have hp:0 < 2 ^ d:=Nat.two_pow_pos d
    unfold cutUp
    rw [Nat.zero_mod]
    cases way
    ·have:¬ 2 ^ d=0:=by omega
     simp
    ·simp
    ·simp
    ·rfl
   rw [this];rfl
  rw [hz,hz]
 ·rw [if_neg h0]
  generalize 52 - m.log2=k
  simp only [Datum.integral]
  congr 1
  rw [Nat.shiftLeft_eq,Nat.shiftLeft_eq]
  by_cases he:0≤e
  ·obtain ⟨q,rfl⟩:∃ q:Nat,e=(q:Int):=⟨e.toNat,by omega⟩
   rw [show (-(q:Int)).toNat=0 by omega,Int.toNat_natCast]
   by_cases hk:k≤q
   ·rw [show ((q:Int) - (k:Int)).toNat=q - k by omega,show (-((q:Int) - (k:Int))).toNat=0 by omega,Nat.mul_assoc,← Nat.pow_add,show k + (q - k)=q by omega]
   ·rw [show ((q:Int) - (k:Int)).toNat=0 by omega,show (-((q:Int) - (k:Int))).toNat=k - q by omega,Nat.pow_zero,Nat.mul_one]
    have:=cut_scale way s (m * 2 ^ q) 0 (k - q)
    rw [Nat.mul_assoc,← Nat.pow_add,show q + (k - q)=k by omega,Nat.zero_add] at this
    exact this
  ·obtain ⟨q,rfl⟩:∃ q:Nat,e=-(q:Int):=⟨(-e).toNat,by omega⟩
   rw [show (-(q:Int) - (k:Int)).toNat=0 by omega,show (-(-(q:Int) - (k:Int))).toNat=q + k by omega,show (-(q:Int)).toNat=0 by omega,show (-(-(q:Int))).toNat=q by omega,Nat.pow_zero,Nat.mul_one,Nat.mul_one]
   exact cut_scale way s m q k
theorem rne_le (n d:Nat):rne n d≤n + 1:=by
 have:=Nat.div_le_self n (2 ^ d)
 unfold rne
 split <;> (try split) <;> omega
theorem rung_small (M:Nat) (h:M≤16777216):rungOf single M 0 < 2139095040:=by
 unfold rungOf
 by_cases h0:M=0
 ·rw [if_pos h0];decide
 ·rw [if_neg h0]
  have hlog:M.log2 < 25:=log2_lt_of h0 (by omega)
  have hhi:=@Nat.lt_log2_self M
  have hL:lastP single M 0=(M.log2:Int) - 23:=by
   unfold lastP
   show max (0 + (M.log2:Int) - ((23:Nat):Int)) (-149)=_
   omega
  rw [hL]
  generalize M.log2=l at *
  show min (((l:Int) - 23 - (-149)).toNat * 8388608 + rneI M ((l:Int) - 23 - 0)) 2139095040 < 2139095040
  have hr:rneI M ((l:Int) - 23 - 0)≤16777217:=by
   unfold rneI
   by_cases hd:0≤(l:Int) - 23 - 0
   ·rw [if_pos hd]
    exact Nat.le_trans (rne_le _ _) (by omega)
   ·rw [if_neg hd]
    have:M * 2 ^ (-((l:Int) - 23 - 0)).toNat < 2 ^ (l + 1) * 2 ^ (-((l:Int) - 23 - 0)).toNat:=Nat.mul_lt_mul_of_pos_right hhi (Nat.two_pow_pos _)
    rw [← Nat.pow_add,show l + 1 + (-((l:Int) - 23 - 0)).toNat=24 by omega] at this
    have c:(2:Nat) ^ 24=16777216:=by decide
    omega
  have hq:((l:Int) - 23 - (-149)).toNat≤150:=by omega
  omega
theorem demote_num (s:Bool) (m:Nat) (e:Int) (hm:m < 9007199254740992) (he:-1000≤e) (he2:e≤900) (hf:rungOf single m e < 2139095040) :
  floatToFloatBits .f64 (double.write (.number s m e)) .f32=some (single.write (.number s m e)):=by
 have hr:=(read_write_double s m e hm he he2).1
 unfold floatToFloatBits
 rw [if_neg (by decide)]
 show (match double.read (double.write (.number s m e)) with | .nan _ _ => none | .infinity s => some (single.write (.infinity s)) | .number s m e => if (single.read (single.write (.number s m e))).isInfinity then none else some (single.write (.number s m e)))=some (single.write (.number s m e))
 rw [hr]
 have hw:single.write (wideD s m e)=single.write (.number s m e):=by
  unfold wideD
  by_cases h0:m=0
  ·rw [if_pos h0];subst h0
   show single.nearest s 0 (-1074)=single.nearest s 0 e
   have hz:∀ x,rungOf single 0 x=0:=fun x => by unfold rungOf;rw [if_pos rfl]
   rw [nearest_eq,nearest_eq,hz,hz]
  ·rw [if_neg h0]
   show single.nearest _ _ _=single.nearest _ _ _
   rw [nearest_eq,nearest_eq,rungOf_scale]
 have hn:∃ m' e',wideD s m e=.number s m' e':=by unfold wideD;split <;> exact ⟨_,_,rfl⟩
 obtain ⟨m',e',hn⟩:=hn
 rw [hn] at hw ⊢
 simp only []
 rw [hw]
 have hinf:(single.read (single.write (.number s m e))).isInfinity=false:=by
  have hwr:single.write (.number s m e)=single.word s (rungOf single m e):=nearest_eq ..
  rw [hwr]
  have hword:single.word s (rungOf single m e)=(if s then 2147483648 + rungOf single m e else rungOf single m e):=rfl
  rw [hword]
  rw [read_fin (f:=single) fmt_single.sb fmt_single.fr fmt_single.lp (by split <;> omega) (by show (if s=true then 2147483648 + rungOf single m e else rungOf single m e) % 2147483648 < 2139095040;split <;> omega)]
  rfl
 rw [hinf];rfl
theorem conv_whole {c:Nat} (hc:c < 2 * 2147483648) (h:c % 2147483648≤2139095040) (way:Toward) :
  floatToFloatBits .f64 (double.write ((double.read (vS c)).integral way)) .f32=some (single.write ((single.read c).integral way)):=by
 rcases (vS_read hc h).1 with ⟨h1,h2,h3⟩ | ⟨h1,h2,h3⟩
 ·rw [h2,h3,wide_integral]
  show floatToFloatBits .f64 (double.write (.number (decide (2147483648≤c)) (way.cut (decide (2147483648≤c)) (pm 23 (c % 2147483648) <<< (pe 23 (-149) (c % 2147483648)).toNat) (-pe 23 (-149) (c % 2147483648)).toNat) 0)) .f32 =
   some (single.write (.number (decide (2147483648≤c)) (way.cut (decide (2147483648≤c)) (pm 23 (c % 2147483648) <<< (pe 23 (-149) (c % 2147483648)).toNat) (-pe 23 (-149) (c % 2147483648)).toNat) 0))
  have hb:=single_bounds hc h1
  have hm24:pm 23 (c % 2147483648) < 16777216:=pm_lt 23 _
  have hrp:=rungOf_parts fmt_single h1
  generalize decide (2147483648≤c)=s at *
  generalize pm 23 (c % 2147483648)=m at *
  generalize pe 23 (-149) (c % 2147483648)=e at *
  by_cases he:0≤e
  ·obtain ⟨q,rfl⟩:∃ q:Nat,e=(q:Int):=⟨e.toNat,by omega⟩
   have hcut:way.cut s (m <<< ((q:Int)).toNat) (-(q:Int)).toNat=m * 2 ^ q:=by
    rw [Int.toNat_natCast,show (-(q:Int)).toNat=0 by omega,Nat.shiftLeft_eq,cut_plain,Nat.pow_zero,Nat.div_one]
    have:cutUp way s (m * 2 ^ q) 0=false:=by unfold cutUp;cases way <;> simp [Nat.mod_one]
    rw [this];rfl
   have hsc:∀ f:Format,f.write (.number s (m * 2 ^ q) 0)=f.write (.number s m (q:Int)):=fun f => by
    show f.nearest _ _ _=f.nearest _ _ _
    rw [nearest_eq,nearest_eq]
    have:=rungOf_scale f m (q:Int) q
    rw [show (q:Int) - (q:Int)=0 by omega] at this
    rw [this]
   rw [hcut,hsc,hsc]
   exact demote_num s m _ hb.1 hb.2.1 hb.2.2 (by rw [hrp];exact h1)
  ·have hM:way.cut s (m <<< e.toNat) (-e).toNat≤16777216:=by
    rw [cut_plain,show e.toNat=0 by omega,Nat.shiftLeft_zero]
    have h4:=Nat.div_le_self m (2 ^ (-e).toNat)
    have h5:=Bool.toNat_le (cutUp way s m (-e).toNat)
    omega
   generalize way.cut s (m <<< e.toNat) (-e).toNat=M at *
   exact demote_num s M 0 (by omega) (by decide) (by decide) (rung_small M hM)
 ·rw [h2,h3]
  show floatToFloatBits .f64 (double.write (.infinity _)) .f32=some (single.write (.infinity _))
  cases decide (2147483648≤c) <;> decide +kernel
theorem quiet_pos (t:Nat):0 < (t ||| 2 ^ 51) % 2 ^ 52:=by
 rcases Nat.eq_zero_or_pos ((t ||| 2 ^ 51) % 2 ^ 52) with h | h
 ·have h1:((t ||| 2 ^ 51) % 2 ^ 52).testBit 51=true:=by
   rw [Nat.testBit_mod_two_pow,Nat.testBit_or,Nat.testBit_two_pow];simp
  rw [h] at h1;simp at h1
 ·exact h
theorem quiet_nan (s:Bool) (t:Nat):9218868437227405312 < double.write (.nan s (double.quiet t)) % 9223372036854775808:=by
 have h1:=quiet_pos t
 have h2:(t ||| 2 ^ 51) % 2 ^ 52 < 2 ^ 52:=Nat.mod_lt _ (by decide)
 have:double.write (.nan s (double.quiet t))=(if s then 9223372036854775808 + (9218868437227405312 + (t ||| 2 ^ 51) % 2 ^ 52) else 9218868437227405312 + (t ||| 2 ^ 51) % 2 ^ 52):=rfl
 rw [this]
 have c:(2:Nat) ^ 52=4503599627370496:=by decide
 rw [c] at h1 h2 ⊢
 generalize (t ||| 2 ^ 51) % 4503599627370496=r at *
 split <;> omega
end
theorem conv_nan64 (c:Nat) (h:9218868437227405312 < c % 9223372036854775808) (w:World):∃ v:Nat,(convert 159 164 (.float .f64 c)).run Tryz.prog w=.ok (.float .f32 v) w.drew∧2139095040 < v % 2147483648:=by
 obtain ⟨s,t,hr⟩:=read_nan (f:=Ieee.double) (a:=c) (SB:=9223372036854775808) rfl (by decide) h
 have hd:FloatKind.f64.decode c=.nan s t:=hr
 have hu:Tryz.prog.underlying 164=some (.float .f32):=by kernel_rfl
 have hs:Tryz.prog.underlying 159=some (.float .f64):=by kernel_rfl
 refine ⟨Question.cut (.nanConv .f32 c) (w.tape w.drawn (.nanConv .f32 c)),?_,drawn_32 _⟩
 simp [convert,run_underlying hs,run_underlying hu,Conv.floatToFloat,hd,run_choose_drew,Question.forced]
theorem conv_num64 (y r:Nat) (h:floatToFloatBits .f64 y .f32=some r) (w:World):(convert 159 164 (.float .f64 y)).run Tryz.prog w=.ok (.float .f32 r) w :=
 run_convert_float_float w 159 164 .f64 .f32 y r (by kernel_rfl) (by kernel_rfl) h
def toI (q:Question) (way:Ieee.Toward) (v:Nat) (d:Ieee.Datum):Sem Value :=
 match d with
 | .nan s t => if FloatKind.f64.format.quiet t=t then pure (.float .f64 v) else do
   let n ← choose q
   pure (.float .f64 (if n == 1 then v else FloatKind.f64.encode (.nan s (FloatKind.f64.format.quiet t))))
 | d => pure (.float .f64 (FloatKind.f64.encode (d.integral way)))
theorem toI_eq (name:String) (way:Ieee.Toward) (v:Nat):∃ q,q.forced=false∧Extern.MathFloor.toIntegral name way #[.float .f64 v]=toI q way v (FloatKind.f64.decode v):=by refine ⟨_,?_,rfl⟩;rfl
theorem integral_num (name:String) (way:Ieee.Toward) (v:Nat) (hv:v % 9223372036854775808≤9218868437227405312) (w:World) :
  (Extern.MathFloor.toIntegral name way #[.float .f64 v]).run Tryz.prog w=.ok (.float .f64 (Ieee.double.write ((Ieee.double.read v).integral way))) w:=by
 obtain ⟨q,-,h⟩:=toI_eq name way v
 rw [h]
 have hn:∀ s t,Ieee.double.read v ≠ .nan s t:=fun s t h' => by
  unfold Ieee.Format.read at h'
  simp only [] at h'
  split at h'
  ·cases h'
  ·split at h'
   ·cases h'
   ·split at h'
    ·cases h'
    ·rename_i g1 g2 g3
     have g2':¬ v % 9223372036854775808 < 9218868437227405312:=g2
     have g3':¬ v % 9223372036854775808=9218868437227405312:=g3
     omega
 show (toI q way v (Ieee.double.read v)).run Tryz.prog w=_
 cases hd:Ieee.double.read v with
 | nan s t => exact absurd hd (hn s t)
 | number s m e => rfl
 | infinity s => rfl
theorem integral_nan (name:String) (way:Ieee.Toward) (v:Nat) (hv:9218868437227405312 < v % 9223372036854775808) (w:World) :
  ∃ (N:Nat) (w':World),(Extern.MathFloor.toIntegral name way #[.float .f64 v]).run Tryz.prog w=.ok (.float .f64 N) w'∧9218868437227405312 < N % 9223372036854775808∧Below w.heap.size w w':=by
 obtain ⟨s,t,hr⟩:=read_nan (f:=Ieee.double) (a:=v) (SB:=9223372036854775808) rfl (by decide) hv
 obtain ⟨q,hq,h⟩:=toI_eq name way v
 rw [h]
 show ∃ (N:Nat) (w':World),(toI q way v (Ieee.double.read v)).run Tryz.prog w=.ok (.float .f64 N) w'∧_
 rw [hr]
 by_cases hqu:FloatKind.f64.format.quiet t=t
 ·exact ⟨v,w,by unfold toI;simp only [];rw [if_pos hqu];rfl,hv,Below.refl _ _⟩
 ·refine ⟨if (q.cut (w.tape w.drawn q) == 1)=true then v else FloatKind.f64.encode (.nan s (FloatKind.f64.format.quiet t)),w.drew,?_,?_,(Below.refl _ _).drew⟩
  ·unfold toI;simp only [];rw [if_neg hqu]
   simp [run_choose_drew,hq]
  ·split
   ·exact hv
   ·exact quiet_nan s t
end Go.Proofs.YtlhakbkdlgejpaaGreatDoor.Fl
