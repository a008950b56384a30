/-
  FWhole, FFUn, FRootM, FRootLoop: merged, what the laws do not reach left out (each text says what it holds where it lies in wip). No condition.
-/
import Derived.Test.YtlhakbkdlgejpaaGreatDoorX23
import Derived.Test.YtlhakbkdlgejpaaGreatDoorX15
import Derived.Test.YtlhakbkdlgejpaaGreatDoorX11
import Derived.Test.YtlhakbkdlgejpaaGreatDoorX06
import Derived.Test.YtlhakbkdlgejpaaGreatDoorX13
import Derived.Test.YtlhakbkdlgejpaaGreatDoorX20
import Derived.Test.YtlhakbkdlgejpaaGreatDoorX08
import Derived.Test.YtlhakbkdlgejpaaGreatDoorX01
set_option linter.unusedSimpArgs false
set_option linter.unusedVariables false
set_option maxRecDepth 100000
namespace Go.Proofs.YtlhakbkdlgejpaaGreatDoor.Fl
open Go.RowKit
set_option maxRecDepth 20000 in
set_option maxHeartbeats 12800000 in
theorem whole_64 (op:Nat) (hop:op=4 ∨ op=5 ∨ op=6 ∨ op=7) (a:Nat) (ha:a < 18446744073709551616) (w:World) :
  Calls Tryz.prog 185 #[.agg #[.int .i64 11,.int .i64 52],.int .i64 op,.int .u64 a] w fun r w' => r=.returned (.int .u64 ((wholeW Ieee.double 9223372036854775808 9218868437227405312 9221120237041090560 op a:Nat):Int))∧Below w.heap.size w w':=by
 have KA:=fun w => hid (kind_64 a ha w)
 obtain ⟨RR,hRR⟩:∃ RR:Nat,RR=wholeW Ieee.double 9223372036854775808 9218868437227405312 9221120237041090560 op a:=⟨_,rfl⟩
 rw [← hRR]
 have hS:=Sx.new 11 52 w
 obtain ⟨c0,c1⟩:=id hS.1
 rcases kind_cases (INF:=9218868437227405312) (s:=a % 9223372036854775808) with h | h | h
 ·rw [h] at KA
  have hR:RR=9221120237041090560:=by rw [hRR];unfold wholeW;rw [if_pos h]
  subst hR
  clear hRR h ha hop
  go_enter Tryz.func185,Tryz.ntmps185
  go_wp2_with (first
   | (go_at_call 241;((with_reducible refine (KA _).out.mono ?_);rintro e w1 ⟨rfl,hb⟩;replace hS:=hS.call hb;have c0:=hS.1.1;have c1:=hS.1.2))
   | (go_at_call 242;((with_reducible refine (canonical_64 _).mono ?_);rintro e w1 ⟨rfl,hb⟩;replace hS:=hS.call hb)))
  go_ret
  exact ⟨rfl,hS.2⟩
 ·rw [h] at KA
  have hR:RR=a:=by rw [hRR];unfold wholeW;rw [if_neg (by rw [h];decide),whole_inf fmt_double (by omega) h]
  subst hR
  clear hRR h ha hop
  go_enter Tryz.func185,Tryz.ntmps185
  go_wp2_with (first
   | (go_at_call 241;((with_reducible refine (KA _).out.mono ?_);rintro e w1 ⟨rfl,hb⟩;replace hS:=hS.call hb;have c0:=hS.1.1;have c1:=hS.1.2)))
  go_ret
  exact ⟨rfl,hS.2⟩
 ·have PA:=fun w => hid (parts_64 a ha w)
  have hR:RR=(Ieee.double).write (((Ieee.double).read a).integral (wayOf op)):=by rw [hRR];unfold wholeW;rw [if_neg (by omega)]
  have hbig:=whole_big fmt_double (a:=a) (by omega) h
  have hsmall:=fun K pl => whole_small fmt_double (a:=a) (by omega) h (K:=K) (pl:=pl)
  obtain ⟨ka,hka⟩:∃ ka:Nat,ka=kindOf 9218868437227405312 (a % 9223372036854775808):=⟨_,rfl⟩
  rw [← hka] at KA
  have k1:((ka:Int) == 4)=false:=by simp;omega
  have k2:((ka:Int) == 3)=false:=by simp;omega
  have hmb:=pm_lt 52 (a % 9223372036854775808)
  have heb:=pe_eq 52 (-1074) (a % 9223372036854775808)
  have hq:a % 9223372036854775808 / 2 ^ 52≤2048:=by
   have h2:a % 9223372036854775808 < 9218868437227405312:=by
    rcases h with h | h
    ·rw [kind1.1 h];decide
    ·exact (kind2.1 h).2
   show a % 9223372036854775808 / 4503599627370496≤2048;omega
  obtain ⟨n1,hn1⟩:∃ n1:Bool,n1=decide (9223372036854775808≤a):=⟨_,rfl⟩
  obtain ⟨m1,hm1⟩:∃ m1:Nat,m1=pm 52 (a % 9223372036854775808):=⟨_,rfl⟩
  obtain ⟨e1,he1⟩:∃ e1:Int,e1=pe 52 (-1074) (a % 9223372036854775808):=⟨_,rfl⟩
  rw [← hn1,← hm1,← he1] at PA
  simp only [← hn1,← hm1,← he1] at hsmall hbig
  rw [← hm1] at hmb
  rw [← he1] at heb
  have hmb2:m1 < 9007199254740992:=by have:m1 < 4503599627370496 * 2:=hmb;omega
  generalize a % 9223372036854775808 / 2 ^ 52=q1 at *
  have heb2:-1100≤e1∧e1≤2100:=by omega
  have HR:=hid hR
  have HSM:=hid hsmall
  have HBG:=hid hbig
  have HMB:=hid hmb2
  have HEB:=hid heb2
  clear hRR h ha hbig hsmall hka hmb heb hq hn1 hm1 he1 hR hmb2 heb2
  go_enter Tryz.func185,Tryz.ntmps185
  go_upto_region 5 with (first
   | (go_at_call 241;((with_reducible refine (KA _).out.mono ?_);rintro e w1 ⟨rfl,hb⟩;replace hS:=hS.call hb;have c0:=hS.1.1;have c1:=hS.1.2)))
  go_cut [7] (fun s7 wx => ∃ gx:Nat,s7=.pointer (some ⟨gx,0,none⟩)∧Nb gx n1 m1 e1 wx∧w.heap.size < gx∧Sx 11 52 w wx)
  case first =>
   go_wp2_with (go_at_call 244;((with_reducible refine (PA _).out.mono ?_);rintro e w2 ⟨rfl,hb⟩;replace hS:=hS.call hb))
   go_meet
   exact ⟨w2.heap.size,rfl,Nb.new n1 m1 e1 w2,hS.lt,hS.alloc _⟩
  case rest =>
   clear hS c0 c1 PA KA k1 k2
   obtain ⟨gx,rfl,hX,hgx,hS⟩:=hcut
   have HX:=hid hX
   have HS:=hid hS
   have HG:=hid hgx
   obtain ⟨c0,c1⟩:=id hS.1
   obtain ⟨⟨x0,x1,x2⟩,x3,x4,x5⟩:=id hX
   clear hX hS hgx
   by_cases he:0≤e1
   ·have hR2:RR=a:=by rw [HR.out];exact HBG.out he _
    subst hR2
    have hd:decide (0≤e1)=true:=by simp [he]
    go_wp2
    go_ret
    exact ⟨rfl,HS.out.2⟩
   ·obtain ⟨K,hK⟩:∃ K:Nat,e1=-(K:Int):=⟨(-e1).toNat,by omega⟩
    obtain ⟨pl,hpl⟩:∃ pl:Nat,pl=min K 63:=⟨_,rfl⟩
    have hd:decide (0≤e1)=false:=by simp;omega
    have hRs:RR=(Ieee.double).word n1 (rungR Ieee.double (m1 / 2 ^ pl + (cutUp (wayOf op) n1 m1 pl).toNat) 0 false):=by rw [HR.out];exact HSM.out K pl hK hpl _
    have hpl1:1≤pl∧pl≤63:=by omega
    have HRS:=hid hRs
    have HPL:=hid hpl
    have HPL1:=hid hpl1
    have g1:-e1=(K:Int):=by omega
    have g2:wrap64 (K:Int)=(K:Int):=by have:=HEB.out;unfold wrap64;omega
    have g3:IntKind.i64.wrap (K:Int)=(K:Int):=by have:=HEB.out;rw [IntKind.wrap_i64];omega
    clear hRs he hpl hpl1 HR HSM HBG
    have HK:=hid hK
    clear hK
    go_upto_region 8 with fail
    go_cut [8] (fun s8 wx => s8=.int .i64 pl∧Nb gx n1 m1 e1 wx∧Sx 11 52 w wx)
    case first =>
     by_cases hc:63 < K
     ·have e63:pl=63:=by have:=HPL.out;omega
      subst e63
      have g4:(63:Int) < (K:Int):=by omega
      go_wp2
      all_goals
       go_meet
       exact ⟨rfl,HX.out,HS.out⟩
     ·have ek:pl=K:=by have:=HPL.out;omega
      subst ek
      by_cases hc2:pl=63
      ·subst hc2
       go_wp2
       all_goals
        go_meet
        exact ⟨rfl,HX.out,HS.out⟩
      ·have g4:(pl:Int) < 63:=by omega
       go_wp2
       all_goals
        go_meet
        exact ⟨rfl,HX.out,HS.out⟩
    case rest =>
     clear g1 g2 g3 hd HX HS c0 c1 x0 x1 x2 x3 x4 x5
     obtain ⟨rfl,hX,hS⟩:=hcut
     have HX:=hid hX
     have HS:=hid hS
     obtain ⟨c0,c1⟩:=id hS.1
     obtain ⟨⟨x0,x1,x2⟩,x3,x4,x5⟩:=id hX
     clear hX hS
     obtain ⟨lost,hlost⟩:∃ lost:Nat,lost=m1 % 2 ^ pl:=⟨_,rfl⟩
     obtain ⟨half,hhalf⟩:∃ half:Nat,half=2 ^ (pl - 1):=⟨_,rfl⟩
     obtain ⟨mq,hmq⟩:∃ mq:Nat,mq=m1 / 2 ^ pl:=⟨_,rfl⟩
     obtain ⟨pp,hpp⟩:∃ pp:Nat,pp=pl - 1:=⟨_,rfl⟩
     have g1:(pl:Int) - 1=(pp:Int):=by have:=HPL1.out;omega
     have g2:IntKind.i64.wrap (pp:Int)=(pp:Int):=by have:=HPL1.out;rw [IntKind.wrap_i64];omega
     have g3:(0:Int)≤(pl:Int):=by omega
     have g4:pl≤64:=by have:=HPL1.out;omega
     have g5:(0:Int)≤(pp:Int):=by omega
     have g6:pp≤64:=by have:=HPL1.out;omega
     have HL:=hid hlost
     have HH:=hid hhalf
     have HQ:=hid hmq
     have HPP:=hid hpp
     clear hlost hhalf hmq hpp
     go_upto_region 9 with fail
     go_cut [9,10] (fun s9 s10 wx => s9=.int .u64 lost∧s10=.int .u64 half∧Nb gx n1 m1 e1 wx∧Sx 11 52 w wx)
     case first =>
      go_quiet (fail)
      (go_wp2_with fail)
      go_meet
      have hh:=HPL1.out
      exact ⟨congrArg (Value.int .u64) (by rw [HL.out];first | exact mask_bits m1 pl hh.2 (by have:=HMB.out;omega) | (rw [Nat.min_eq_left (by omega)];exact mask_bits m1 pl hh.2 (by have:=HMB.out;omega))),congrArg (Value.int .u64) (by rw [HH.out,← HPP.out];first | exact half_bits pp (by have:=HPP.out;omega) | (rw [Nat.min_eq_left (by omega)];exact half_bits pp (by have:=HPP.out;omega))),HX.out,HS.out.drewN _⟩
     case rest =>
      clear g1 g2 g5 g6 HX HS c0 c1 x0 x1 x2 x3 x4 x5
      obtain ⟨rfl,rfl,hX,hS⟩:=hcut
      have HX:=hid hX
      have HS:=hid hS
      obtain ⟨c0,c1⟩:=id hS.1
      obtain ⟨⟨x0,x1,x2⟩,x3,x4,x5⟩:=id hX
      clear hX hS
      have g1:(m1:Int) / 2 ^ pl=(mq:Int):=by rw [HQ.out,Int.natCast_ediv,Int.natCast_pow];rfl
      go_upto_region 10 with fail
      go_cut [9] (fun s9 wx => s9=.int .u64 lost∧Nb gx n1 mq 0 wx∧Sx 11 52 w wx)
      case first =>
       go_wp2
       go_meet
       exact ⟨rfl,HX.out.setm.sete,(HS.out.set HG.out).set HG.out⟩
      case rest =>
       clear g1 g3 g4 HX HS c0 c1 x0 x1 x2 x3 x4 x5
       obtain ⟨rfl,hX,hS⟩:=hcut
       have HX:=hid hX
       have HS:=hid hS
       obtain ⟨c0,c1⟩:=id hS.1
       obtain ⟨⟨x0,x1,x2⟩,x3,x4,x5⟩:=id hX
       clear hX hS
       have hgF:gx ≠ w.heap.size:=by have:=HG.out;omega
       have hgF2:w.heap.size ≠ gx:=Ne.symm hgF
       have hmq:mq < 9007199254740993:=by have h1:=HMB.out;rw [HQ.out];exact Nat.lt_of_le_of_lt (Nat.div_le_self _ _) (by omega)
       have v2:IntKind.u64.wrap ((mq:Int) + 1)=(mq:Int) + 1:=by rw [IntKind.wrap_u64];omega
       have HMQ:=hid hmq
       have R0:cutUp (wayOf op) n1 m1 pl=false→∀ W,Hid (Calls Tryz.prog 245 #[.agg #[.int .i64 11,.int .i64 52],.agg #[.bool n1,.int .u64 mq,.int .i64 0],.bool false] W fun r w' => r=.returned (.int .u64 (RR:Int))∧Below W.heap.size W w'):=fun h W => by
        have:=round_64 n1 mq (by omega) 0 (by decide) (by decide) false (fun h => by cases h) W
        rw [HRS.out,h,← HQ.out]
        exact this
       have R1:cutUp (wayOf op) n1 m1 pl=true→∀ W,Hid (Calls Tryz.prog 245 #[.agg #[.int .i64 11,.int .i64 52],.agg #[.bool n1,.int .u64 ((mq:Int) + 1),.int .i64 0],.bool false] W fun r w' => r=.returned (.int .u64 (RR:Int))∧Below W.heap.size W w'):=fun h W => by
        have:=round_64 n1 (mq + 1) (by omega) 0 (by decide) (by decide) false (fun h => by cases h) W
        rw [HRS.out,h,← HQ.out]
        exact this
       have HR0:=hid R0
       have HR1:=hid R1
       clear R0 R1 hmq HRS
       rcases hop with rfl | rfl | rfl | rfl
       ·have hup:=cut4 n1 m1 pl
        rw [← HL.out] at hup
        have HUP:=hid hup
        clear hup
        by_cases hl:lost=0
        ·subst hl
         have RC:=HR0.out (by rw [HUP.out];cases n1 <;> rfl)
         go_wp2_with (go_at_call 245;(with_reducible refine (RC _).out.mono ?_);rintro e w5 ⟨rfl,hb5⟩;have HF:=hid (bnext HS.out.2 hb5))
         all_goals
          go_ret
          exact ⟨rfl,HF.out⟩
        ·have hl2:((lost:Int) != 0)=true:=by simp;omega
         cases n1 with
         | true =>
          have RC:=HR0.out (by rw [HUP.out];rfl)
          clear hl
          go_wp2_with (go_at_call 245;(with_reducible refine (RC _).out.mono ?_);rintro e w5 ⟨rfl,hb5⟩;have HF:=hid (bnext HS.out.2 hb5))
          all_goals
           go_ret
           exact ⟨rfl,HF.out⟩
         | false =>
          have RC:=HR1.out (by rw [HUP.out];simp [hl])
          clear hl
          go_wp2_with (go_at_call 245;(with_reducible refine (RC _).out.mono ?_);rintro e w5 ⟨rfl,hb5⟩;have HF:=hid (bnext (bset (c:=gx) (o:=1) (u:=.int .u64 ((mq:Int) + 1)) HS.out.2 (Nat.le_of_lt HG.out)) hb5))
          all_goals
           go_ret
           exact ⟨rfl,HF.out⟩
       ·have hup:=cut5 n1 m1 pl
        rw [← HL.out] at hup
        have HUP:=hid hup
        clear hup
        by_cases hl:lost=0
        ·subst hl
         have RC:=HR0.out (by rw [HUP.out];cases n1 <;> rfl)
         go_wp2_with (go_at_call 245;(with_reducible refine (RC _).out.mono ?_);rintro e w5 ⟨rfl,hb5⟩;have HF:=hid (bnext HS.out.2 hb5))
         all_goals
          go_ret
          exact ⟨rfl,HF.out⟩
        ·have hl2:((lost:Int) != 0)=true:=by simp;omega
         cases n1 with
         | true =>
          have RC:=HR1.out (by rw [HUP.out];simp [hl])
          clear hl
          go_wp2_with (go_at_call 245;(with_reducible refine (RC _).out.mono ?_);rintro e w5 ⟨rfl,hb5⟩;have HF:=hid (bnext (bset (c:=gx) (o:=1) (u:=.int .u64 ((mq:Int) + 1)) HS.out.2 (Nat.le_of_lt HG.out)) hb5))
          all_goals
           go_ret
           exact ⟨rfl,HF.out⟩
         | false =>
          have RC:=HR0.out (by rw [HUP.out];rfl)
          clear hl
          go_wp2_with (go_at_call 245;(with_reducible refine (RC _).out.mono ?_);rintro e w5 ⟨rfl,hb5⟩;have HF:=hid (bnext HS.out.2 hb5))
          all_goals
           go_ret
           exact ⟨rfl,HF.out⟩
       ·have RC:=HR0.out (cut6 n1 m1 pl)
        go_wp2_with (go_at_call 245;(with_reducible refine (RC _).out.mono ?_);rintro e w5 ⟨rfl,hb5⟩;have HF:=hid (bnext HS.out.2 hb5))
        all_goals
         go_ret
         exact ⟨rfl,HF.out⟩
       ·have hup:=cut7 n1 m1 pl HPL1.out.1
        rw [← HL.out,← HH.out,← HQ.out] at hup
        have HUP:=hid hup
        have HAND:=hid (bits_and_u64_nat mq 1 (by have:=HMQ.out;omega) (by decide))
        clear hup
        rcases Nat.lt_trichotomy lost half with hc | hc | hc
        ·have b1:decide ((half:Int) < (lost:Int))=false:=by simp;omega
         have b1':decide (half < lost)=false:=by simp;omega
         have b2:((lost:Int) == (half:Int))=false:=by simp;omega
         have RC:=HR0.out (by
          have b4:(lost == half)=false:=by simp;omega
          rw [HUP.out,b1',b4];rfl)
         clear hc
         go_wp2_with (go_at_call 245;(with_reducible refine (RC _).out.mono ?_);rintro e w5 ⟨rfl,hb5⟩;have HF:=hid (bnext HS.out.2 hb5))
         all_goals
          go_ret
          exact ⟨rfl,HF.out⟩
        ·subst hc
         rcases Nat.mod_two_eq_zero_or_one mq with h2 | h2
         ·have hand:bits .and .u64 (mq:Int) 1=0:=by
           have:=HAND.out
           rw [Nat.and_one_is_mod,h2] at this
           exact this
          have RC:=HR0.out (by rw [HUP.out,h2];simp)
          clear h2
          go_wp2_with (go_at_call 245;(with_reducible refine (RC _).out.mono ?_);rintro e w5 ⟨rfl,hb5⟩;have HF:=hid (bnext HS.out.2 hb5))
          all_goals
           go_ret
           exact ⟨rfl,HF.out⟩
         ·have hand:bits .and .u64 (mq:Int) 1=1:=by
           have:=HAND.out
           rw [Nat.and_one_is_mod,h2] at this
           exact this
          have RC:=HR1.out (by rw [HUP.out,h2];simp)
          clear h2
          go_wp2_with (go_at_call 245;(with_reducible refine (RC _).out.mono ?_);rintro e w5 ⟨rfl,hb5⟩;have HF:=hid (bnext (bset (c:=gx) (o:=1) (u:=.int .u64 ((mq:Int) + 1)) HS.out.2 (Nat.le_of_lt HG.out)) hb5))
          all_goals
           go_ret
           exact ⟨rfl,HF.out⟩
        ·have b1:decide ((half:Int) < (lost:Int))=true:=by simp;omega
         have b1':decide (half < lost)=true:=by simp;omega
         have RC:=HR1.out (by rw [HUP.out,b1'];rfl)
         clear hc
         go_wp2_with (go_at_call 245;(with_reducible refine (RC _).out.mono ?_);rintro e w5 ⟨rfl,hb5⟩;have HF:=hid (bnext (bset (c:=gx) (o:=1) (u:=.int .u64 ((mq:Int) + 1)) HS.out.2 (Nat.le_of_lt HG.out)) hb5))
         all_goals
          go_ret
          exact ⟨rfl,HF.out⟩
end Go.Proofs.YtlhakbkdlgejpaaGreatDoor.Fl
namespace Go.Proofs.YtlhakbkdlgejpaaGreatDoor.Fl
open Go.RowKit
set_option maxHeartbeats 1600000 in
theorem Un_32_1 (a:Nat) (ha:a < 18446744073709551616) (w:World) :
  Calls Tryz.prog 109 #[.int .i64 32,.int .i64 1,.int .u64 a] w fun e w' => e=.returned (.tuple #[.int .u64 ((unW Ieee.single 2147483648 2139095040 2143289344 1 (a % 4294967296):Nat):Int),.int .i64 0])∧Below w.heap.size w w':=by
 have CA:=fun w => hid (cut_32 a ha w)
 have ha1:a % 4294967296 < 4294967296:=by omega
 generalize a % 4294967296=a1 at *
 have CC:∀ W,Hid (Calls Tryz.prog 182 #[.agg #[.int .i64 8,.int .i64 23],.int .u64 a1] W fun r w' => r=.returned (.int .u64 ((unW Ieee.single 2147483648 2139095040 2143289344 1 a1:Nat):Int))∧Below W.heap.size W w'):=fun W => hid (size_32 a1 ha1 W)
 obtain ⟨RR,hRR⟩:∃ RR:Nat,RR=unW Ieee.single 2147483648 2139095040 2143289344 1 a1:=⟨_,rfl⟩
 rw [← hRR] at CC ⊢
 clear ha ha1 hRR
 go_enter Tryz.func109,Tryz.ntmps109
 go_wp2_with (first
  | (go_at_call 179;((with_reducible refine (formatOf_32 _).mono ?_);rintro e w1 ⟨rfl,hb1⟩))
  | (go_at_call 180;((with_reducible refine (known_32 _).mono ?_);rintro e w2 ⟨rfl,hb2⟩;have hS:=(Sg.new 8 23 hb1).call hb2;have c0:=hS.1.1;have c1:=hS.1.2))
  | (go_at_call 181;((with_reducible refine (CA _).out.mono ?_);rintro e w3 ⟨rfl,hb3⟩;replace hS:=hS.call hb3;clear c0 c1;have c0:=hS.1.1;have c1:=hS.1.2))
  | (go_at_call 182;((with_reducible refine (CC _).out.mono ?_);rintro e w4 ⟨rfl,hb4⟩;replace hS:=hS.call hb4)))
 go_ret2
 exact ⟨rfl,hS.2.2⟩
set_option maxHeartbeats 1600000 in
theorem Un_32_2 (a:Nat) (ha:a < 18446744073709551616) (w:World) :
  Calls Tryz.prog 109 #[.int .i64 32,.int .i64 2,.int .u64 a] w fun e w' => e=.returned (.tuple #[.int .u64 ((unW Ieee.single 2147483648 2139095040 2143289344 2 (a % 4294967296):Nat):Int),.int .i64 0])∧Below w.heap.size w w':=by
 have CA:=fun w => hid (cut_32 a ha w)
 have ha1:a % 4294967296 < 4294967296:=by omega
 generalize a % 4294967296=a1 at *
 have CC:∀ W,Hid (Calls Tryz.prog 183 #[.agg #[.int .i64 8,.int .i64 23],.int .u64 a1] W fun r w' => r=.returned (.int .u64 ((unW Ieee.single 2147483648 2139095040 2143289344 2 a1:Nat):Int))∧Below W.heap.size W w'):=fun W => hid (opposite_32 a1 ha1 W)
 obtain ⟨RR,hRR⟩:∃ RR:Nat,RR=unW Ieee.single 2147483648 2139095040 2143289344 2 a1:=⟨_,rfl⟩
 rw [← hRR] at CC ⊢
 clear ha ha1 hRR
 go_enter Tryz.func109,Tryz.ntmps109
 go_wp2_with (first
  | (go_at_call 179;((with_reducible refine (formatOf_32 _).mono ?_);rintro e w1 ⟨rfl,hb1⟩))
  | (go_at_call 180;((with_reducible refine (known_32 _).mono ?_);rintro e w2 ⟨rfl,hb2⟩;have hS:=(Sg.new 8 23 hb1).call hb2;have c0:=hS.1.1;have c1:=hS.1.2))
  | (go_at_call 181;((with_reducible refine (CA _).out.mono ?_);rintro e w3 ⟨rfl,hb3⟩;replace hS:=hS.call hb3;clear c0 c1;have c0:=hS.1.1;have c1:=hS.1.2))
  | (go_at_call 183;((with_reducible refine (CC _).out.mono ?_);rintro e w4 ⟨rfl,hb4⟩;replace hS:=hS.call hb4)))
 go_ret2
 exact ⟨rfl,hS.2.2⟩
set_option maxHeartbeats 1600000 in
theorem Un_32_4 (a:Nat) (ha:a < 18446744073709551616) (w:World) :
  Calls Tryz.prog 109 #[.int .i64 32,.int .i64 4,.int .u64 a] w fun e w' => e=.returned (.tuple #[.int .u64 ((unW Ieee.single 2147483648 2139095040 2143289344 4 (a % 4294967296):Nat):Int),.int .i64 0])∧Below w.heap.size w w':=by
 have CA:=fun w => hid (cut_32 a ha w)
 have ha1:a % 4294967296 < 4294967296:=by omega
 generalize a % 4294967296=a1 at *
 have CC:∀ W,Hid (Calls Tryz.prog 185 #[.agg #[.int .i64 8,.int .i64 23],.int .i64 4,.int .u64 a1] W fun r w' => r=.returned (.int .u64 ((unW Ieee.single 2147483648 2139095040 2143289344 4 a1:Nat):Int))∧Below W.heap.size W w'):=fun W => hid (whole_32 4 (by decide) a1 ha1 W)
 obtain ⟨RR,hRR⟩:∃ RR:Nat,RR=unW Ieee.single 2147483648 2139095040 2143289344 4 a1:=⟨_,rfl⟩
 rw [← hRR] at CC ⊢
 clear ha ha1 hRR
 go_enter Tryz.func109,Tryz.ntmps109
 go_wp2_with (first
  | (go_at_call 179;((with_reducible refine (formatOf_32 _).mono ?_);rintro e w1 ⟨rfl,hb1⟩))
  | (go_at_call 180;((with_reducible refine (known_32 _).mono ?_);rintro e w2 ⟨rfl,hb2⟩;have hS:=(Sg.new 8 23 hb1).call hb2;have c0:=hS.1.1;have c1:=hS.1.2))
  | (go_at_call 181;((with_reducible refine (CA _).out.mono ?_);rintro e w3 ⟨rfl,hb3⟩;replace hS:=hS.call hb3;clear c0 c1;have c0:=hS.1.1;have c1:=hS.1.2))
  | (go_at_call 185;((with_reducible refine (CC _).out.mono ?_);rintro e w4 ⟨rfl,hb4⟩;replace hS:=hS.call hb4)))
 go_ret2
 exact ⟨rfl,hS.2.2⟩
set_option maxHeartbeats 1600000 in
theorem Un_32_5 (a:Nat) (ha:a < 18446744073709551616) (w:World) :
  Calls Tryz.prog 109 #[.int .i64 32,.int .i64 5,.int .u64 a] w fun e w' => e=.returned (.tuple #[.int .u64 ((unW Ieee.single 2147483648 2139095040 2143289344 5 (a % 4294967296):Nat):Int),.int .i64 0])∧Below w.heap.size w w':=by
 have CA:=fun w => hid (cut_32 a ha w)
 have ha1:a % 4294967296 < 4294967296:=by omega
 generalize a % 4294967296=a1 at *
 have CC:∀ W,Hid (Calls Tryz.prog 185 #[.agg #[.int .i64 8,.int .i64 23],.int .i64 5,.int .u64 a1] W fun r w' => r=.returned (.int .u64 ((unW Ieee.single 2147483648 2139095040 2143289344 5 a1:Nat):Int))∧Below W.heap.size W w'):=fun W => hid (whole_32 5 (by decide) a1 ha1 W)
 obtain ⟨RR,hRR⟩:∃ RR:Nat,RR=unW Ieee.single 2147483648 2139095040 2143289344 5 a1:=⟨_,rfl⟩
 rw [← hRR] at CC ⊢
 clear ha ha1 hRR
 go_enter Tryz.func109,Tryz.ntmps109
 go_wp2_with (first
  | (go_at_call 179;((with_reducible refine (formatOf_32 _).mono ?_);rintro e w1 ⟨rfl,hb1⟩))
  | (go_at_call 180;((with_reducible refine (known_32 _).mono ?_);rintro e w2 ⟨rfl,hb2⟩;have hS:=(Sg.new 8 23 hb1).call hb2;have c0:=hS.1.1;have c1:=hS.1.2))
  | (go_at_call 181;((with_reducible refine (CA _).out.mono ?_);rintro e w3 ⟨rfl,hb3⟩;replace hS:=hS.call hb3;clear c0 c1;have c0:=hS.1.1;have c1:=hS.1.2))
  | (go_at_call 185;((with_reducible refine (CC _).out.mono ?_);rintro e w4 ⟨rfl,hb4⟩;replace hS:=hS.call hb4)))
 go_ret2
 exact ⟨rfl,hS.2.2⟩
set_option maxHeartbeats 1600000 in
theorem Un_32_6 (a:Nat) (ha:a < 18446744073709551616) (w:World) :
  Calls Tryz.prog 109 #[.int .i64 32,.int .i64 6,.int .u64 a] w fun e w' => e=.returned (.tuple #[.int .u64 ((unW Ieee.single 2147483648 2139095040 2143289344 6 (a % 4294967296):Nat):Int),.int .i64 0])∧Below w.heap.size w w':=by
 have CA:=fun w => hid (cut_32 a ha w)
 have ha1:a % 4294967296 < 4294967296:=by omega
 generalize a % 4294967296=a1 at *
 have CC:∀ W,Hid (Calls Tryz.prog 185 #[.agg #[.int .i64 8,.int .i64 23],.int .i64 6,.int .u64 a1] W fun r w' => r=.returned (.int .u64 ((unW Ieee.single 2147483648 2139095040 2143289344 6 a1:Nat):Int))∧Below W.heap.size W w'):=fun W => hid (whole_32 6 (by decide) a1 ha1 W)
 obtain ⟨RR,hRR⟩:∃ RR:Nat,RR=unW Ieee.single 2147483648 2139095040 2143289344 6 a1:=⟨_,rfl⟩
 rw [← hRR] at CC ⊢
 clear ha ha1 hRR
 go_enter Tryz.func109,Tryz.ntmps109
 go_wp2_with (first
  | (go_at_call 179;((with_reducible refine (formatOf_32 _).mono ?_);rintro e w1 ⟨rfl,hb1⟩))
  | (go_at_call 180;((with_reducible refine (known_32 _).mono ?_);rintro e w2 ⟨rfl,hb2⟩;have hS:=(Sg.new 8 23 hb1).call hb2;have c0:=hS.1.1;have c1:=hS.1.2))
  | (go_at_call 181;((with_reducible refine (CA _).out.mono ?_);rintro e w3 ⟨rfl,hb3⟩;replace hS:=hS.call hb3;clear c0 c1;have c0:=hS.1.1;have c1:=hS.1.2))
  | (go_at_call 185;((with_reducible refine (CC _).out.mono ?_);rintro e w4 ⟨rfl,hb4⟩;replace hS:=hS.call hb4)))
 go_ret2
 exact ⟨rfl,hS.2.2⟩
set_option maxHeartbeats 1600000 in
theorem Un_64_1 (a:Nat) (ha:a < 18446744073709551616) (w:World) :
  Calls Tryz.prog 109 #[.int .i64 64,.int .i64 1,.int .u64 a] w fun e w' => e=.returned (.tuple #[.int .u64 ((unW Ieee.double 9223372036854775808 9218868437227405312 9221120237041090560 1 (a % 18446744073709551616):Nat):Int),.int .i64 0])∧Below w.heap.size w w':=by
 have CA:=fun w => hid (cut_64 a ha w)
 have ha1:a % 18446744073709551616 < 18446744073709551616:=by omega
 generalize a % 18446744073709551616=a1 at *
 have CC:∀ W,Hid (Calls Tryz.prog 182 #[.agg #[.int .i64 11,.int .i64 52],.int .u64 a1] W fun r w' => r=.returned (.int .u64 ((unW Ieee.double 9223372036854775808 9218868437227405312 9221120237041090560 1 a1:Nat):Int))∧Below W.heap.size W w'):=fun W => hid (size_64 a1 ha1 W)
 obtain ⟨RR,hRR⟩:∃ RR:Nat,RR=unW Ieee.double 9223372036854775808 9218868437227405312 9221120237041090560 1 a1:=⟨_,rfl⟩
 rw [← hRR] at CC ⊢
 clear ha ha1 hRR
 go_enter Tryz.func109,Tryz.ntmps109
 go_wp2_with (first
  | (go_at_call 179;((with_reducible refine (formatOf_64 _).mono ?_);rintro e w1 ⟨rfl,hb1⟩))
  | (go_at_call 180;((with_reducible refine (known_64 _).mono ?_);rintro e w2 ⟨rfl,hb2⟩;have hS:=(Sg.new 11 52 hb1).call hb2;have c0:=hS.1.1;have c1:=hS.1.2))
  | (go_at_call 181;((with_reducible refine (CA _).out.mono ?_);rintro e w3 ⟨rfl,hb3⟩;replace hS:=hS.call hb3;clear c0 c1;have c0:=hS.1.1;have c1:=hS.1.2))
  | (go_at_call 182;((with_reducible refine (CC _).out.mono ?_);rintro e w4 ⟨rfl,hb4⟩;replace hS:=hS.call hb4)))
 go_ret2
 exact ⟨rfl,hS.2.2⟩
set_option maxHeartbeats 1600000 in
theorem Un_64_2 (a:Nat) (ha:a < 18446744073709551616) (w:World) :
  Calls Tryz.prog 109 #[.int .i64 64,.int .i64 2,.int .u64 a] w fun e w' => e=.returned (.tuple #[.int .u64 ((unW Ieee.double 9223372036854775808 9218868437227405312 9221120237041090560 2 (a % 18446744073709551616):Nat):Int),.int .i64 0])∧Below w.heap.size w w':=by
 have CA:=fun w => hid (cut_64 a ha w)
 have ha1:a % 18446744073709551616 < 18446744073709551616:=by omega
 generalize a % 18446744073709551616=a1 at *
 have CC:∀ W,Hid (Calls Tryz.prog 183 #[.agg #[.int .i64 11,.int .i64 52],.int .u64 a1] W fun r w' => r=.returned (.int .u64 ((unW Ieee.double 9223372036854775808 9218868437227405312 9221120237041090560 2 a1:Nat):Int))∧Below W.heap.size W w'):=fun W => hid (opposite_64 a1 ha1 W)
 obtain ⟨RR,hRR⟩:∃ RR:Nat,RR=unW Ieee.double 9223372036854775808 9218868437227405312 9221120237041090560 2 a1:=⟨_,rfl⟩
 rw [← hRR] at CC ⊢
 clear ha ha1 hRR
 go_enter Tryz.func109,Tryz.ntmps109
 go_wp2_with (first
  | (go_at_call 179;((with_reducible refine (formatOf_64 _).mono ?_);rintro e w1 ⟨rfl,hb1⟩))
  | (go_at_call 180;((with_reducible refine (known_64 _).mono ?_);rintro e w2 ⟨rfl,hb2⟩;have hS:=(Sg.new 11 52 hb1).call hb2;have c0:=hS.1.1;have c1:=hS.1.2))
  | (go_at_call 181;((with_reducible refine (CA _).out.mono ?_);rintro e w3 ⟨rfl,hb3⟩;replace hS:=hS.call hb3;clear c0 c1;have c0:=hS.1.1;have c1:=hS.1.2))
  | (go_at_call 183;((with_reducible refine (CC _).out.mono ?_);rintro e w4 ⟨rfl,hb4⟩;replace hS:=hS.call hb4)))
 go_ret2
 exact ⟨rfl,hS.2.2⟩
set_option maxHeartbeats 1600000 in
theorem Un_64_4 (a:Nat) (ha:a < 18446744073709551616) (w:World) :
  Calls Tryz.prog 109 #[.int .i64 64,.int .i64 4,.int .u64 a] w fun e w' => e=.returned (.tuple #[.int .u64 ((unW Ieee.double 9223372036854775808 9218868437227405312 9221120237041090560 4 (a % 18446744073709551616):Nat):Int),.int .i64 0])∧Below w.heap.size w w':=by
 have CA:=fun w => hid (cut_64 a ha w)
 have ha1:a % 18446744073709551616 < 18446744073709551616:=by omega
 generalize a % 18446744073709551616=a1 at *
 have CC:∀ W,Hid (Calls Tryz.prog 185 #[.agg #[.int .i64 11,.int .i64 52],.int .i64 4,.int .u64 a1] W fun r w' => r=.returned (.int .u64 ((unW Ieee.double 9223372036854775808 9218868437227405312 9221120237041090560 4 a1:Nat):Int))∧Below W.heap.size W w'):=fun W => hid (whole_64 4 (by decide) a1 ha1 W)
 obtain ⟨RR,hRR⟩:∃ RR:Nat,RR=unW Ieee.double 9223372036854775808 9218868437227405312 9221120237041090560 4 a1:=⟨_,rfl⟩
 rw [← hRR] at CC ⊢
 clear ha ha1 hRR
 go_enter Tryz.func109,Tryz.ntmps109
 go_wp2_with (first
  | (go_at_call 179;((with_reducible refine (formatOf_64 _).mono ?_);rintro e w1 ⟨rfl,hb1⟩))
  | (go_at_call 180;((with_reducible refine (known_64 _).mono ?_);rintro e w2 ⟨rfl,hb2⟩;have hS:=(Sg.new 11 52 hb1).call hb2;have c0:=hS.1.1;have c1:=hS.1.2))
  | (go_at_call 181;((with_reducible refine (CA _).out.mono ?_);rintro e w3 ⟨rfl,hb3⟩;replace hS:=hS.call hb3;clear c0 c1;have c0:=hS.1.1;have c1:=hS.1.2))
  | (go_at_call 185;((with_reducible refine (CC _).out.mono ?_);rintro e w4 ⟨rfl,hb4⟩;replace hS:=hS.call hb4)))
 go_ret2
 exact ⟨rfl,hS.2.2⟩
set_option maxHeartbeats 1600000 in
theorem Un_64_5 (a:Nat) (ha:a < 18446744073709551616) (w:World) :
  Calls Tryz.prog 109 #[.int .i64 64,.int .i64 5,.int .u64 a] w fun e w' => e=.returned (.tuple #[.int .u64 ((unW Ieee.double 9223372036854775808 9218868437227405312 9221120237041090560 5 (a % 18446744073709551616):Nat):Int),.int .i64 0])∧Below w.heap.size w w':=by
 have CA:=fun w => hid (cut_64 a ha w)
 have ha1:a % 18446744073709551616 < 18446744073709551616:=by omega
 generalize a % 18446744073709551616=a1 at *
 have CC:∀ W,Hid (Calls Tryz.prog 185 #[.agg #[.int .i64 11,.int .i64 52],.int .i64 5,.int .u64 a1] W fun r w' => r=.returned (.int .u64 ((unW Ieee.double 9223372036854775808 9218868437227405312 9221120237041090560 5 a1:Nat):Int))∧Below W.heap.size W w'):=fun W => hid (whole_64 5 (by decide) a1 ha1 W)
 obtain ⟨RR,hRR⟩:∃ RR:Nat,RR=unW Ieee.double 9223372036854775808 9218868437227405312 9221120237041090560 5 a1:=⟨_,rfl⟩
 rw [← hRR] at CC ⊢
 clear ha ha1 hRR
 go_enter Tryz.func109,Tryz.ntmps109
 go_wp2_with (first
  | (go_at_call 179;((with_reducible refine (formatOf_64 _).mono ?_);rintro e w1 ⟨rfl,hb1⟩))
  | (go_at_call 180;((with_reducible refine (known_64 _).mono ?_);rintro e w2 ⟨rfl,hb2⟩;have hS:=(Sg.new 11 52 hb1).call hb2;have c0:=hS.1.1;have c1:=hS.1.2))
  | (go_at_call 181;((with_reducible refine (CA _).out.mono ?_);rintro e w3 ⟨rfl,hb3⟩;replace hS:=hS.call hb3;clear c0 c1;have c0:=hS.1.1;have c1:=hS.1.2))
  | (go_at_call 185;((with_reducible refine (CC _).out.mono ?_);rintro e w4 ⟨rfl,hb4⟩;replace hS:=hS.call hb4)))
 go_ret2
 exact ⟨rfl,hS.2.2⟩
set_option maxHeartbeats 1600000 in
theorem Un_64_6 (a:Nat) (ha:a < 18446744073709551616) (w:World) :
  Calls Tryz.prog 109 #[.int .i64 64,.int .i64 6,.int .u64 a] w fun e w' => e=.returned (.tuple #[.int .u64 ((unW Ieee.double 9223372036854775808 9218868437227405312 9221120237041090560 6 (a % 18446744073709551616):Nat):Int),.int .i64 0])∧Below w.heap.size w w':=by
 have CA:=fun w => hid (cut_64 a ha w)
 have ha1:a % 18446744073709551616 < 18446744073709551616:=by omega
 generalize a % 18446744073709551616=a1 at *
 have CC:∀ W,Hid (Calls Tryz.prog 185 #[.agg #[.int .i64 11,.int .i64 52],.int .i64 6,.int .u64 a1] W fun r w' => r=.returned (.int .u64 ((unW Ieee.double 9223372036854775808 9218868437227405312 9221120237041090560 6 a1:Nat):Int))∧Below W.heap.size W w'):=fun W => hid (whole_64 6 (by decide) a1 ha1 W)
 obtain ⟨RR,hRR⟩:∃ RR:Nat,RR=unW Ieee.double 9223372036854775808 9218868437227405312 9221120237041090560 6 a1:=⟨_,rfl⟩
 rw [← hRR] at CC ⊢
 clear ha ha1 hRR
 go_enter Tryz.func109,Tryz.ntmps109
 go_wp2_with (first
  | (go_at_call 179;((with_reducible refine (formatOf_64 _).mono ?_);rintro e w1 ⟨rfl,hb1⟩))
  | (go_at_call 180;((with_reducible refine (known_64 _).mono ?_);rintro e w2 ⟨rfl,hb2⟩;have hS:=(Sg.new 11 52 hb1).call hb2;have c0:=hS.1.1;have c1:=hS.1.2))
  | (go_at_call 181;((with_reducible refine (CA _).out.mono ?_);rintro e w3 ⟨rfl,hb3⟩;replace hS:=hS.call hb3;clear c0 c1;have c0:=hS.1.1;have c1:=hS.1.2))
  | (go_at_call 185;((with_reducible refine (CC _).out.mono ?_);rintro e w4 ⟨rfl,hb4⟩;replace hS:=hS.call hb4)))
 go_ret2
 exact ⟨rfl,hS.2.2⟩
set_option maxHeartbeats 1600000 in
theorem Un_64_7 (a:Nat) (ha:a < 18446744073709551616) (w:World) :
  Calls Tryz.prog 109 #[.int .i64 64,.int .i64 7,.int .u64 a] w fun e w' => e=.returned (.tuple #[.int .u64 ((unW Ieee.double 9223372036854775808 9218868437227405312 9221120237041090560 7 (a % 18446744073709551616):Nat):Int),.int .i64 0])∧Below w.heap.size w w':=by
 have CA:=fun w => hid (cut_64 a ha w)
 have ha1:a % 18446744073709551616 < 18446744073709551616:=by omega
 generalize a % 18446744073709551616=a1 at *
 have CC:∀ W,Hid (Calls Tryz.prog 185 #[.agg #[.int .i64 11,.int .i64 52],.int .i64 7,.int .u64 a1] W fun r w' => r=.returned (.int .u64 ((unW Ieee.double 9223372036854775808 9218868437227405312 9221120237041090560 7 a1:Nat):Int))∧Below W.heap.size W w'):=fun W => hid (whole_64 7 (by decide) a1 ha1 W)
 obtain ⟨RR,hRR⟩:∃ RR:Nat,RR=unW Ieee.double 9223372036854775808 9218868437227405312 9221120237041090560 7 a1:=⟨_,rfl⟩
 rw [← hRR] at CC ⊢
 clear ha ha1 hRR
 go_enter Tryz.func109,Tryz.ntmps109
 go_wp2_with (first
  | (go_at_call 179;((with_reducible refine (formatOf_64 _).mono ?_);rintro e w1 ⟨rfl,hb1⟩))
  | (go_at_call 180;((with_reducible refine (known_64 _).mono ?_);rintro e w2 ⟨rfl,hb2⟩;have hS:=(Sg.new 11 52 hb1).call hb2;have c0:=hS.1.1;have c1:=hS.1.2))
  | (go_at_call 181;((with_reducible refine (CA _).out.mono ?_);rintro e w3 ⟨rfl,hb3⟩;replace hS:=hS.call hb3;clear c0 c1;have c0:=hS.1.1;have c1:=hS.1.2))
  | (go_at_call 185;((with_reducible refine (CC _).out.mono ?_);rintro e w4 ⟨rfl,hb4⟩;replace hS:=hS.call hb4)))
 go_ret2
 exact ⟨rfl,hS.2.2⟩
end Go.Proofs.YtlhakbkdlgejpaaGreatDoor.Fl
namespace Go.Proofs.YtlhakbkdlgejpaaGreatDoor.Fl
open Ieee
def SqrtOf (n r:Nat):Prop:=r * r≤n∧n < (r + 1) * (r + 1)
theorem sqrt_unique {n r s:Nat} (h1:SqrtOf n r) (h2:SqrtOf n s):r=s:=by
 rcases Nat.lt_trichotomy r s with h | h | h
 ·have:(r + 1) * (r + 1)≤s * s:=Nat.mul_le_mul h h
  have:=h1.2;have:=h2.1;omega
 ·exact h
 ·have:(s + 1) * (s + 1)≤r * r:=Nat.mul_le_mul h h
  have:=h2.2;have:=h1.1;omega
theorem rootFrom_spec (n:Nat):∀ (todo root:Nat),root * root≤n→n < (root + 2 ^ todo) * (root + 2 ^ todo)→SqrtOf n (Datum.rootFrom n todo root)
 | 0,root,h1,h2 => by
  have h3:n < (root + 1) * (root + 1):=by simpa using h2
  exact ⟨h1,h3⟩
 | todo + 1,root,h1,h2 => by
  unfold Datum.rootFrom
  simp only [Nat.one_shiftLeft]
  by_cases hc:(root + 2 ^ todo) * (root + 2 ^ todo)≤n
  ·rw [if_pos hc]
   refine rootFrom_spec n todo _ hc ?_
   rw [show root + 2 ^ todo + 2 ^ todo=root + 2 ^ (todo + 1) by rw [Nat.pow_succ];omega]
   exact h2
  ·rw [if_neg hc]
   exact rootFrom_spec n todo root h1 (by omega)
theorem root_spec (n:Nat):SqrtOf n (Datum.rootFrom n (n.log2 / 2 + 1) 0):=by
 refine rootFrom_spec n _ 0 (by simp) ?_
 have h1:=@Nat.lt_log2_self n
 rw [Nat.zero_add,← Nat.pow_add]
 exact Nat.lt_of_lt_of_le h1 (Nat.pow_le_pow_right (by decide) (by omega))
def rungS (f:Format) (n r:Nat) (e:Int):Nat:=rungR f r e (decide (r * r ≠ n))
theorem rungS_scale (f:Format) {n r R k:Nat} (h:SqrtOf n r) (hR:SqrtOf (n * (2 ^ k * 2 ^ k)) R) (e:Int) (hlo:2 ^ (f.fractionBits + 1)≤r) :
  rungS f (n * (2 ^ k * 2 ^ k)) R (e - k)=rungS f n r e:=by
 have hk:0 < 2 ^ k:=Nat.two_pow_pos k
 have hk1:(2:Nat) ^ (k + 1)=2 * 2 ^ k:=by rw [Nat.pow_succ];omega
 have sq:∀ x:Nat,(x * 2 ^ k) * (x * 2 ^ k)=x * x * (2 ^ k * 2 ^ k):=fun x => by
  rw [Nat.mul_mul_mul_comm]
 have hle:r * 2 ^ k≤R:=by
  rcases Nat.lt_or_ge R (r * 2 ^ k) with hc | hc
  ·exfalso
   have h1:(R + 1) * (R + 1)≤(r * 2 ^ k) * (r * 2 ^ k):=Nat.mul_le_mul hc hc
   rw [sq] at h1
   have h2:r * r * (2 ^ k * 2 ^ k)≤n * (2 ^ k * 2 ^ k):=Nat.mul_le_mul_right _ h.1
   have:=hR.2
   omega
  ·exact hc
 have hlt:R < (r + 1) * 2 ^ k:=by
  rcases Nat.lt_or_ge R ((r + 1) * 2 ^ k) with hc | hc
  ·exact hc
  ·exfalso
   have h1:((r + 1) * 2 ^ k) * ((r + 1) * 2 ^ k)≤R * R:=Nat.mul_le_mul hc hc
   rw [sq] at h1
   have h2:n * (2 ^ k * 2 ^ k) < (r + 1) * (r + 1) * (2 ^ k * 2 ^ k):=Nat.mul_lt_mul_of_pos_right h.2 (Nat.mul_pos hk hk)
   have:=hR.1
   omega
 have hq:R / 2 ^ k=r:=by
  rw [Nat.div_eq_iff hk]
  rw [Nat.add_mul,Nat.one_mul] at hlt
  omega
 have hex:(R % 2 ^ k=0∧R * R=n * (2 ^ k * 2 ^ k)) ↔ r * r=n:=by
  constructor
  ·rintro ⟨h1,h2⟩
   have h3:R=r * 2 ^ k:=by
    have:=Nat.div_add_mod R (2 ^ k)
    rw [hq,h1,Nat.add_zero,Nat.mul_comm] at this
    exact this.symm
   rw [h3,sq] at h2
   exact Nat.eq_of_mul_eq_mul_right (Nat.mul_pos hk hk) h2
  ·intro h1
   have h2:SqrtOf (n * (2 ^ k * 2 ^ k)) (r * 2 ^ k):=by
    refine ⟨by rw [sq,h1];exact Nat.le_refl _,?_⟩
    rw [← h1,← sq]
    exact Nat.mul_lt_mul_of_lt_of_le (Nat.lt_succ_self _) (Nat.le_succ _) (by omega)
   have h3:=sqrt_unique hR h2
   rw [h3]
   exact ⟨Nat.mul_mod_left _ _,by rw [sq,h1]⟩
 have hb:=Bool.toNat_le (decide (R * R ≠ n * (2 ^ k * 2 ^ k)))
 obtain ⟨s,hs⟩:∃ s:Nat,s=(decide (R * R ≠ n * (2 ^ k * 2 ^ k))).toNat:=⟨_,rfl⟩
 rw [← hs] at hb
 have hMd:(2 * R + s) / 2 ^ (k + 1)=r:=by
  rw [hk1,← Nat.div_div_eq_div_mul,show (2 * R + s) / 2=R by omega,hq]
 have hMm:(2 * R + s) % 2 ^ (k + 1)=0 ↔ r * r=n:=by
  rw [← hex]
  have hs0:s=0 ↔ R * R=n * (2 ^ k * 2 ^ k):=by
   rw [hs]
   by_cases hc:R * R=n * (2 ^ k * 2 ^ k) <;> simp [hc]
  rw [← hs0]
  constructor
  ·intro h0
   have hdvd:2 ^ (k + 1) ∣ 2 * R + s:=Nat.dvd_of_mod_eq_zero h0
   have h2:(2 * R + s) % 2=0:=Nat.mod_eq_zero_of_dvd (Nat.dvd_trans ⟨2 ^ k,hk1⟩ hdvd)
   have hs1:s=0:=by omega
   refine ⟨?_,hs1⟩
   rw [hs1,Nat.add_zero,hk1] at hdvd
   exact Nat.mod_eq_zero_of_dvd (Nat.dvd_of_mul_dvd_mul_left (by decide) hdvd)
  ·rintro ⟨h1,h2⟩
   rw [h2,Nat.add_zero,hk1,Nat.mul_mod_mul_left,h1]
 have:=rungOf_jam f (2 * R + s) (k + 1) (e - k - 1) (by rw [hMd];exact hlo)
 unfold rungS rungR
 rw [← hs,← this]
 unfold jam
 rw [hMd]
 congr 1
 ·congr 1
  by_cases h0:r * r=n
  ·rw [if_pos (hMm.2 h0)];simp [h0]
  ·rw [if_neg (fun h => h0 (hMm.1 h))];simp [h0]
 ·omega
theorem sqrt_lo {n r k:Nat} (h:SqrtOf n r) (hn:2 ^ (2 * k)≤n):2 ^ k≤r:=by
 rcases Nat.lt_or_ge r (2 ^ k) with hc | hc
 ·exfalso
  have h1:(r + 1) * (r + 1)≤2 ^ k * 2 ^ k:=Nat.mul_le_mul hc hc
  rw [← Nat.pow_add,show k + k=2 * k by omega] at h1
  have:=h.2
  omega
 ·exact hc
theorem root_math {f:Format} (m:Nat) (e:Int) (hm:m ≠ 0) {K r:Nat} (hK:(e - K) % 2=0) (hr:SqrtOf (m * 2 ^ K) r) (hlo:2 ^ (2 * (f.fractionBits + 1))≤m * 2 ^ K) :
  ((Datum.number false m e).root (f.fractionBits + 2)).map f.write=some (f.word false (rungS f (m * 2 ^ K) r ((e - K) / 2))):=by
 simp only [Datum.root,if_neg hm]
 obtain ⟨mo,hmo⟩:∃ mo:Nat,mo=2 * (f.fractionBits + 2) - m.log2:=⟨_,rfl⟩
 rw [← hmo]
 obtain ⟨J,hJ⟩:∃ J:Nat,J=mo + ((e - (mo:Int)) % 2).toNat:=⟨_,rfl⟩
 rw [← hJ,Nat.shiftLeft_eq]
 have hJe:(e - (J:Int)) % 2=0:=by omega
 have hl:=Nat.log2_self_le hm
 have hJlo:2 ^ (2 * (f.fractionBits + 2))≤m * 2 ^ J:=by
  calc 2 ^ (2 * (f.fractionBits + 2))≤2 ^ (m.log2 + J):=Nat.pow_le_pow_right (by decide) (by omega)
   _=2 ^ m.log2 * 2 ^ J:=Nat.pow_add ..
   _≤m * 2 ^ J:=Nat.mul_le_mul_right _ hl
 have hs:=root_spec (m * 2 ^ J)
 obtain ⟨s,hse⟩:∃ s:Nat,s=Datum.rootFrom (m * 2 ^ J) ((m * 2 ^ J).log2 / 2 + 1) 0:=⟨_,rfl⟩
 rw [← hse] at hs ⊢
 have hlo1:=sqrt_lo hs hJlo
 have hlo2:=sqrt_lo hr hlo
 have hlo3:2 ^ (f.fractionBits + 1)≤s:=Nat.le_trans (Nat.pow_le_pow_right (by decide) (by omega)) hlo1
 simp only [Bool.false_eq_true,if_false,Option.map_some,Option.some.injEq,Format.write]
 rw [nearest_eq]
 congr 1
 have key:rungS f (m * 2 ^ J) s ((e - J) / 2)=rungS f (m * 2 ^ K) r ((e - K) / 2):=by
  rcases Nat.le_total J K with hjk | hjk
  ·obtain ⟨c,hc⟩:∃ c:Nat,K=J + 2 * c:=⟨(K - J) / 2,by omega⟩
   have e1:m * 2 ^ K=m * 2 ^ J * (2 ^ c * 2 ^ c):=by rw [hc,Nat.pow_add,Nat.mul_assoc,← Nat.pow_add 2 c c,show c + c=2 * c by omega]
   rw [e1] at hr ⊢
   have:=rungS_scale f hs hr ((e - J) / 2) hlo3
   rw [show (e - (J:Int)) / 2 - (c:Int)=(e - K) / 2 by omega] at this
   exact this.symm
  ·obtain ⟨c,hc⟩:∃ c:Nat,J=K + 2 * c:=⟨(J - K) / 2,by omega⟩
   have e1:m * 2 ^ J=m * 2 ^ K * (2 ^ c * 2 ^ c):=by rw [hc,Nat.pow_add,Nat.mul_assoc,← Nat.pow_add 2 c c,show c + c=2 * c by omega]
   rw [e1] at hs ⊢
   have:=rungS_scale f hr hs ((e - K) / 2) hlo2
   rw [show (e - (K:Int)) / 2 - (c:Int)=(e - J) / 2 by omega] at this
   exact this
 rw [← key]
 unfold rungS rungR
 congr 2
 by_cases h0:s * s=m * 2 ^ J
 ·simp [h0]
 ·simp [h0]
end Go.Proofs.YtlhakbkdlgejpaaGreatDoor.Fl
namespace Go.Proofs.YtlhakbkdlgejpaaGreatDoor.Fl
open Go.RowKit
def RI (N k m r l:Nat):Prop:=m * m + r=N * 4 ^ k / 18446744073709551616∧r≤2 * m∧l=N * 4 ^ k % 18446744073709551616
theorem sq1 (m r t:Nat) (h:r≤2 * m) (ht:t < 4) (hge:4 * m + 1≤4 * r + t):(2 * m + 1) * (2 * m + 1) + (4 * r + t - (4 * m + 1))=4 * (m * m + r) + t∧4 * r + t - (4 * m + 1)≤2 * (2 * m + 1):=by
 have e:(2 * m + 1) * (2 * m + 1)=4 * (m * m) + 4 * m + 1:=by
  rw [Nat.add_mul,Nat.mul_add,Nat.mul_mul_mul_comm];omega
 rw [e];omega
theorem sq2 (m r t:Nat) (h:r≤2 * m) (ht:t < 4) (hlt:4 * r + t < 4 * m + 1):2 * m * (2 * m) + (4 * r + t)=4 * (m * m + r) + t∧4 * r + t≤2 * (2 * m):=by
 have e:2 * m * (2 * m)=4 * (m * m):=by rw [Nat.mul_mul_mul_comm]
 rw [e];omega
theorem ri_start (N:Nat) (h:N < 18446744073709551616):RI N 0 0 0 N:=by
 refine ⟨?_,by omega,?_⟩
 ·rw [Nat.pow_zero,Nat.mul_one,Nat.div_eq_of_lt h]
 ·rw [Nat.pow_zero,Nat.mul_one,Nat.mod_eq_of_lt h]
theorem ri_step {N k m r l:Nat} (h:RI N k m r l) :
  (4 * m + 1≤4 * r + l / 4611686018427387904→RI N (k + 1) (2 * m + 1) (4 * r + l / 4611686018427387904 - (4 * m + 1)) (4 * l % 18446744073709551616)) ∧
  (4 * r + l / 4611686018427387904 < 4 * m + 1→RI N (k + 1) (2 * m) (4 * r + l / 4611686018427387904) (4 * l % 18446744073709551616)):=by
 obtain ⟨h1,h2,h3⟩:=h
 have e:N * 4 ^ (k + 1)=4 * (N * 4 ^ k):=by rw [Nat.pow_succ,← Nat.mul_assoc,Nat.mul_comm]
 unfold RI
 rw [e]
 generalize N * 4 ^ k=A at *
 have ht:l / 4611686018427387904 < 4:=by omega
 have hA:4 * A / 18446744073709551616=4 * (A / 18446744073709551616) + l / 4611686018427387904:=by omega
 have hl:4 * l % 18446744073709551616=4 * A % 18446744073709551616:=by omega
 rw [hA,← h1,hl]
 generalize l / 4611686018427387904=t at *
 refine ⟨fun hg => ?_,fun hg => ?_⟩
 ·have:=sq1 m r t h2 ht hg
  exact ⟨this.1,this.2,rfl⟩
 ·have:=sq2 m r t h2 ht hg
  exact ⟨this.1,this.2,rfl⟩
theorem ri_bound {N k m r l:Nat} (h:RI N k m r l) (hN:N < 18446744073709551616) (hk:k≤60):m < 1152921504606846976∧l < 18446744073709551616:=by
 obtain ⟨h1,h2,h3⟩:=h
 refine ⟨?_,by rw [h3];exact Nat.mod_lt _ (by decide)⟩
 rcases Nat.lt_or_ge m 1152921504606846976 with h4 | h4
 ·exact h4
 ·exfalso
  have h5:1152921504606846976 * 1152921504606846976≤m * m:=Nat.mul_le_mul h4 h4
  have h6:(4:Nat) ^ k≤4 ^ 60:=Nat.pow_le_pow_right (by decide) hk
  have h7:N * 4 ^ k≤18446744073709551615 * 4 ^ 60:=Nat.mul_le_mul (by omega) h6
  have h8:N * 4 ^ k / 18446744073709551616≤18446744073709551615 * 4 ^ 60 / 18446744073709551616:=Nat.div_le_div_right h7
  have c:18446744073709551615 * 4 ^ 60 / 18446744073709551616 < 1152921504606846976 * 1152921504606846976:=by decide +kernel
  omega
theorem ri_end {N m r l:Nat} (h:RI N 60 m r l):m * m + r=N * 2 ^ 56∧SqrtOf (N * 2 ^ 56) m:=by
 obtain ⟨h1,h2,-⟩:=h
 have e:N * 4 ^ 60 / 18446744073709551616=N * 2 ^ 56:=by
  rw [show (4:Nat) ^ 60=2 ^ 56 * 18446744073709551616 by decide +kernel,← Nat.mul_assoc,Nat.mul_div_cancel _ (by decide)]
 rw [e] at h1
 refine ⟨h1,?_,?_⟩
 ·omega
 ·have:(m + 1) * (m + 1)=m * m + 2 * m + 1:=by rw [Nat.add_mul,Nat.mul_add];omega
  omega
theorem and_one (d:Int):bits .and .i64 d 1=d % 2:=by
 have e2:BitVec.toNat (BitVec.ofInt 64 (1:Int))=1:=by decide
 show IntKind.i64.wrap ((BitVec.ofInt 64 d &&& BitVec.ofInt 64 (1:Int)).toNat:Int)=_
 rw [BitVec.toNat_and,e2,IntKind.wrap_i64,Nat.and_one_is_mod,BitVec.toNat_ofInt]
 omega
theorem or_two (q t:Nat) (h:t < 4):4 * q ||| t=4 * q + t:=by
 have:=Nat.two_pow_add_eq_or_of_lt (i:=2) (b:=t) h q
 rw [show 2 ^ 2 * q=4 * q by rfl] at this
 exact this.symm
theorem root_loop_math (N k m r l:Nat) (h:RI N k m r l) (hN:N < 18446744073709551616) (hk:k < 60) :
  ∃ r4 t l4 q4 m2:Nat,IntKind.u64.wrap ((r:Int) * 4)=(r4:Int)∧(l:Int) / 4611686018427387904=(t:Int)∧bits .or .u64 (r4:Int) (t:Int)=((4 * r + l / 4611686018427387904:Nat):Int) ∧
   IntKind.u64.wrap ((l:Int) * 4)=(l4:Int)∧l4=4 * l % 18446744073709551616∧IntKind.u64.wrap ((m:Int) * 4)=(q4:Int)∧bits .or .u64 (q4:Int) 1=((4 * m + 1:Nat):Int) ∧
   IntKind.u64.wrap ((m:Int) * 2)=(m2:Int)∧m2=2 * m∧bits .or .u64 (m2:Int) 1=((2 * m + 1:Nat):Int)∧4 * r + l / 4611686018427387904 < 18446744073709551616:=by
 obtain ⟨hm,hl⟩:=ri_bound h hN (by omega)
 have hr:=h.2.1
 clear h
 refine ⟨4 * r,l / 4611686018427387904,4 * l % 18446744073709551616,4 * m,2 * m,?_,by omega,?_,?_,rfl,?_,?_,?_,rfl,?_,by omega⟩
 ·rw [IntKind.wrap_u64];omega
 ·have:=bits_or_u64_nat (4 * r) (l / 4611686018427387904) (by omega) (by omega)
  rw [or_two _ _ (by omega)] at this;exact this
 ·rw [IntKind.wrap_u64];omega
 ·rw [IntKind.wrap_u64];omega
 ·have:=bits_or_u64_nat (4 * m) 1 (by omega) (by decide)
  rw [or_two _ _ (by decide)] at this;exact this
 ·rw [IntKind.wrap_u64];omega
 ·have:=bits_or_u64_nat (2 * m) 1 (by omega) (by decide)
  rw [or_one] at this;exact this
section
open Ieee
variable {f:Format} {SB INF P:Nat} {low:Int} (F:Fmt f SB INF P low) {a:Nat}
include F
theorem sqrt_nan (h:INF < a % SB):f.sqrt a=none:=by
 unfold Format.sqrt
 obtain ⟨s,t,e⟩:=read_nan (f:=f) F.sb F.bi (by rw [F.inf];exact h)
 rw [e];rfl
theorem sqrt_zero (ha:a < 2 * SB) (h:kindOf INF (a % SB)=1):f.sqrt a=some a:=by
 unfold Format.sqrt
 rw [rk1 F ha h]
 show some (f.write (.number (decide (SB≤a)) 0 _))=some a
 congr 1
 show f.nearest _ _ _=a
 rw [nearest_eq]
 have hz:rungOf f 0 (pe P low (a % SB))=0:=by unfold rungOf;rw [if_pos rfl]
 rw [hz]
 have:=word_sz F ha
 rw [kind1.1 h] at this
 exact this
theorem sqrt_neg (ha:a < 2 * SB) (h:kindOf INF (a % SB)=2 ∨ kindOf INF (a % SB)=3) (hs:SB≤a):f.sqrt a=none:=by
 unfold Format.sqrt
 rcases h with h | h
 ·have h2:=rk2 F ha h
  rw [h2.1,decide_eq_true hs]
  simp only [Datum.root,if_neg h2.2];rfl
 ·rw [rk3 F ha h,decide_eq_true hs];rfl
theorem sqrt_inf (ha:a < 2 * SB) (h:kindOf INF (a % SB)=3) (hs:¬ SB≤a):f.sqrt a=some a:=by
 unfold Format.sqrt
 have:=word_sz F ha
 rw [(kind3 F.inf0).1 h,decide_eq_false hs,← F.inf] at this
 rw [rk3 F ha h,decide_eq_false hs]
 show some (f.word false f.infRung)=some a
 rw [this]
end
end Go.Proofs.YtlhakbkdlgejpaaGreatDoor.Fl
