/-
  LRefValid, ImpB, MayEq, Expr, Asks, DataEq: merged, what the law does not reach left out (each text says what it holds where it lies in wip). No condition.
-/
import Derived.Test.YtjgeedgphcjhoaaGreatS09
import Derived.Test.YtjgeedgphcjhoaaGreatS08
import Derived.Test.YtjgeedgphcjhoaaGreatS05
import Derived.Test.YtjgeedgphcjhoaaGreatS01
set_option linter.unusedSimpArgs false
set_option linter.unusedVariables false
set_option maxRecDepth 100000
set_option maxHeartbeats 64000000
namespace Go.Proofs.YtjgeedgphcjhoaaGreat
open Go.RowKit
open Value renaming int → I,bool → G,string → Qs
open IntKind renaming i64 → J
open Ending renaming returned → Qr
open Obj renaming cells → Qc
open _root_.Go.Proofs.Tryz renaming prog → QP
open Nat renaming le_trans → Qk,zero_le → Qz
open Below renaming refl → QB
theorem refValid_any (s:ByteArray) (w:World) (hs:s.size≤4611686018427387904) :
  Calls QP 155 #[Qs s] w fun e w'=>e=Qr (G (vfrom s s.size 0))∧w=w':=by
 go_enter Tryz.func155,Tryz.ntmps155
 go_wp2
 go_loop [3] (fun vi=>∃pos fuel:Nat,vi=I J pos∧pos≤s.size∧s.size≤pos+fuel∧vfrom s s.size 0=vfrom s fuel pos) (fun vi=>s.size-(intOf vi).toNat)
 case atStart=>exact ⟨0,s.size,rfl,Qz _,by omega,rfl⟩
 obtain ⟨pos,fuel,rfl,hps,hfu,hv⟩:=hrel
 have HV:=hid hv
 clear hv
 by_cases hp:pos<s.size
 ·obtain ⟨f,rfl⟩:∃f,fuel=f+1:=⟨fuel-1,by omega⟩
  have hbl:=byt_lt s pos
  have hbe:=byt_eq s pos hp
  by_cases h0:byt s pos<128
  ·have HE:=hid (vfrom_one (f:=f) hp h0)
   generalize byt s pos=b at *
   go_wp2
   go_loop [4,7] (fun vc vk=>vc=I J b∧vk=I J 1) (fun _ _=>0)
   case atStart=>exact ⟨rfl,rfl⟩
   obtain ⟨rfl,rfl⟩:=hrel
   go_wp2
   refine ⟨⟨pos+1,f,by go_num,by omega,by omega,by rw[HV.out,HE.out]⟩,by simp[intOf];omega⟩
  by_cases h1:(128≤byt s pos∧byt s pos<192)∨248≤byt s pos
  ·have HE:=hid (vfrom_bad (f:=f) hp (dec_none h1))
   generalize byt s pos=b at *
   rcases h1 with ⟨h1,h2⟩|h1
   all_goals
    go_wp2
    go_ret
    exact ⟨by rw[HV.out,HE.out];rfl,rfl⟩
  by_cases hn2:192≤byt s pos∧byt s pos<224
  ·obtain ⟨c0,hc0⟩:∃c0,byt s pos=c0+192:=⟨byt s pos-192,by omega⟩
   have hc32:c0<32:=by omega
   have hk:Kind (byt s pos) 2 c0:=.inl ⟨rfl,hc0,hc32⟩
   have HK:=hid hk
   have HC:=hid hc0
   obtain ⟨b,hb⟩:∃b:Nat,b=c0+192:=⟨_,rfl⟩
   rw[hc0,←hb]at hbe
   have hb1:192≤b:=by omega
   have hb2:b<224:=by omega
   have hcb:(b:Int)-192=(c0:Int):=by omega
   have HB:=hid hb
   clear hk hn2 hbl hc0 hb h0 h1
   by_cases hlong:pos+2≤s.size
   ·have hcell0:(c0:Int)=((cvv s pos c0 0:Nat):Int):=rfl
    go_wp2
    clear hcb
    go_loop [4,7] (fun vc vk=>∃k c:Nat,1≤k∧k≤2∧vk=I J k∧vc=I J c∧Hid (c=cvv s pos c0 (k-1))∧Hid (∀j,1≤j→j<k→128≤byt s (pos+j)∧byt s (pos+j)≤191)) (fun _ vk=>2-(intOf vk).toNat)
    case atStart=>exact ⟨1,c0,by omega,by omega,rfl,rfl,hid rfl,hid (fun j a b=>by omega)⟩
    obtain ⟨k,c,hk1,hk2,rfl,rfl,hc,hall⟩:=hrel
    have hcs:c≤10000000:=by rw[hc.out];exact cvv_small s pos c0 (k-1) (by omega) (by omega)
    by_cases hkn:k<2
    ·have hpk:pos+k<s.size:=by omega
     have hbe2:=byt_eq s (pos+k) hpk
     have hbl2:=byt_lt s (pos+k)
     obtain ⟨d,hd⟩:∃d,d=byt s (pos+k):=⟨_,rfl⟩
     rw[←hd]at hbe2 hbl2
     have HD:=hid hd
     clear hd
     by_cases hlo:d<128
     ·have HE:=hid (vfrom_bad (f:=f) hp (dec_bad HK.out (fun h=>by have:=(h.2.1 k hk1 hkn).1;rw[←HD.out]at this;omega)))
      have hd1:decide ((d:Int)<128)=true:=by simp;omega
      go_wp2
      go_ret
      exact ⟨by rw[HV.out,HE.out];rfl,rfl⟩
     by_cases hhi:191<d
     ·have HE:=hid (vfrom_bad (f:=f) hp (dec_bad HK.out (fun h=>by have:=(h.2.1 k hk1 hkn).2;rw[←HD.out]at this;omega)))
      have hd1:decide ((d:Int)<128)=false:=by simp;omega
      have hd2:decide (191<(d:Int))=true:=by simp;omega
      go_wp2
      go_ret
      exact ⟨by rw[HV.out,HE.out];rfl,rfl⟩
     have hd1:decide ((d:Int)<128)=false:=by simp;omega
     have hd2:decide (191<(d:Int))=false:=by simp;omega
     go_wp2
     go_round
     case rel =>
      refine ⟨k+1,c*64+(d-128),by omega,by omega,by go_num,by go_num,?_,hid ?_⟩
      ·obtain ⟨q,rfl⟩:∃q,k=q+1:=⟨k-1,by omega⟩
       have h1:=hc.out
       rw[Nat.add_sub_cancel]at h1
       refine hid ?_
       rw[Nat.add_sub_cancel]
       show _=cvv s pos c0 q*64+(byt s (pos+(q+1))-128)
       rw[←h1,HD.out]
      intro j a b
      by_cases hj:j=k
      ·subst hj;rw[←HD.out];omega
      exact hall.out j a (by omega)
     case measure=>simp[intOf];omega
    obtain rfl:k=2:=by omega
    by_cases hl:c<128
    ·have HE:=hid (vfrom_bad (f:=f) hp (dec_bad HK.out (fun h=>by have:=h.2.2.1;rw[←hc.out,least_2]at this;omega)))
     have hd1:decide ((c:Int)<128)=true:=by simp;omega
     go_wp2
     go_ret
     exact ⟨by rw[HV.out,HE.out];rfl,rfl⟩
    have hl1:decide ((c:Int)<128)=false:=by simp;omega
    by_cases hm:1114111<c
    ·have HE:=hid (vfrom_bad (f:=f) hp (dec_bad HK.out (fun h=>by have:=h.2.2.2.1;rw[←hc.out]at this;omega)))
     have hd1:decide (1114111<(c:Int))=true:=by simp;omega
     go_wp2
     go_ret
     exact ⟨by rw[HV.out,HE.out];rfl,rfl⟩
    have hm1:decide (1114111<(c:Int))=false:=by simp;omega
    by_cases hs1:55295<c
    ·have hs2:decide (55295<(c:Int))=true:=by simp;omega
     by_cases hs3:c<57344
     ·have HE:=hid (vfrom_bad (f:=f) hp (dec_bad HK.out (fun h=>h.2.2.2.2 (by rw[←hc.out];exact ⟨hs1,hs3⟩))))
      have hd1:decide ((c:Int)<57344)=true:=by simp;omega
      go_wp2
      go_ret
      exact ⟨by rw[HV.out,HE.out];rfl,rfl⟩
     have HE:=hid (vfrom_good (f:=f) hp (dec_good HK.out ⟨hlong,hall.out,by rw[←hc.out,least_2];omega,by rw[←hc.out];omega,by rw[←hc.out];omega⟩) (by decide))
     have hd1:decide ((c:Int)<57344)=false:=by simp;omega
     go_wp2
     refine ⟨⟨pos+2,f,by go_num,by omega,by omega,by rw[HV.out,HE.out]⟩,by simp[intOf];omega⟩
    have HE:=hid (vfrom_good (f:=f) hp (dec_good HK.out ⟨hlong,hall.out,by rw[←hc.out,least_2];omega,by rw[←hc.out];omega,by rw[←hc.out];omega⟩) (by decide))
    have hs2:decide (55295<(c:Int))=false:=by simp;omega
    go_wp2
    refine ⟨⟨pos+2,f,by go_num,by omega,by omega,by rw[HV.out,HE.out]⟩,by simp[intOf];omega⟩
   have HE:=hid (vfrom_bad (f:=f) hp (dec_bad HK.out (fun h=>hlong h.1)))
   go_wp2
   go_ret
   exact ⟨by rw[HV.out,HE.out];rfl,rfl⟩
  by_cases hn3:224≤byt s pos∧byt s pos<240
  ·obtain ⟨c0,hc0⟩:∃c0,byt s pos=c0+224:=⟨byt s pos-224,by omega⟩
   have hc32:c0<16:=by omega
   have hk:Kind (byt s pos) 3 c0:=.inr (.inl ⟨rfl,hc0,hc32⟩)
   have HK:=hid hk
   have HC:=hid hc0
   obtain ⟨b,hb⟩:∃b:Nat,b=c0+224:=⟨_,rfl⟩
   rw[hc0,←hb]at hbe
   have hb1:224≤b:=by omega
   have hb2:b<240:=by omega
   have hcb:(b:Int)-224=(c0:Int):=by omega
   have HB:=hid hb
   clear hk hn3 hbl hc0 hb h0 h1 hn2
   by_cases hlong:pos+3≤s.size
   ·have hcell0:(c0:Int)=((cvv s pos c0 0:Nat):Int):=rfl
    go_wp2
    clear hcb
    go_loop [4,7] (fun vc vk=>∃k c:Nat,1≤k∧k≤3∧vk=I J k∧vc=I J c∧Hid (c=cvv s pos c0 (k-1))∧Hid (∀j,1≤j→j<k→128≤byt s (pos+j)∧byt s (pos+j)≤191)) (fun _ vk=>3-(intOf vk).toNat)
    case atStart=>exact ⟨1,c0,by omega,by omega,rfl,rfl,hid rfl,hid (fun j a b=>by omega)⟩
    obtain ⟨k,c,hk1,hk2,rfl,rfl,hc,hall⟩:=hrel
    have hcs:c≤10000000:=by rw[hc.out];exact cvv_small s pos c0 (k-1) (by omega) (by omega)
    by_cases hkn:k<3
    ·have hpk:pos+k<s.size:=by omega
     have hbe2:=byt_eq s (pos+k) hpk
     have hbl2:=byt_lt s (pos+k)
     obtain ⟨d,hd⟩:∃d,d=byt s (pos+k):=⟨_,rfl⟩
     rw[←hd]at hbe2 hbl2
     have HD:=hid hd
     clear hd
     by_cases hlo:d<128
     ·have HE:=hid (vfrom_bad (f:=f) hp (dec_bad HK.out (fun h=>by have:=(h.2.1 k hk1 hkn).1;rw[←HD.out]at this;omega)))
      have hd1:decide ((d:Int)<128)=true:=by simp;omega
      go_wp2
      go_ret
      exact ⟨by rw[HV.out,HE.out];rfl,rfl⟩
     by_cases hhi:191<d
     ·have HE:=hid (vfrom_bad (f:=f) hp (dec_bad HK.out (fun h=>by have:=(h.2.1 k hk1 hkn).2;rw[←HD.out]at this;omega)))
      have hd1:decide ((d:Int)<128)=false:=by simp;omega
      have hd2:decide (191<(d:Int))=true:=by simp;omega
      go_wp2
      go_ret
      exact ⟨by rw[HV.out,HE.out];rfl,rfl⟩
     have hd1:decide ((d:Int)<128)=false:=by simp;omega
     have hd2:decide (191<(d:Int))=false:=by simp;omega
     go_wp2
     go_round
     case rel =>
      refine ⟨k+1,c*64+(d-128),by omega,by omega,by go_num,by go_num,?_,hid ?_⟩
      ·obtain ⟨q,rfl⟩:∃q,k=q+1:=⟨k-1,by omega⟩
       have h1:=hc.out
       rw[Nat.add_sub_cancel]at h1
       refine hid ?_
       rw[Nat.add_sub_cancel]
       show _=cvv s pos c0 q*64+(byt s (pos+(q+1))-128)
       rw[←h1,HD.out]
      intro j a b
      by_cases hj:j=k
      ·subst hj;rw[←HD.out];omega
      exact hall.out j a (by omega)
     case measure=>simp[intOf];omega
    obtain rfl:k=3:=by omega
    by_cases hl:c<2048
    ·have HE:=hid (vfrom_bad (f:=f) hp (dec_bad HK.out (fun h=>by have:=h.2.2.1;rw[←hc.out,least_3]at this;omega)))
     have hd1:decide ((c:Int)<2048)=true:=by simp;omega
     go_wp2
     go_ret
     exact ⟨by rw[HV.out,HE.out];rfl,rfl⟩
    have hl1:decide ((c:Int)<2048)=false:=by simp;omega
    by_cases hm:1114111<c
    ·have HE:=hid (vfrom_bad (f:=f) hp (dec_bad HK.out (fun h=>by have:=h.2.2.2.1;rw[←hc.out]at this;omega)))
     have hd1:decide (1114111<(c:Int))=true:=by simp;omega
     go_wp2
     go_ret
     exact ⟨by rw[HV.out,HE.out];rfl,rfl⟩
    have hm1:decide (1114111<(c:Int))=false:=by simp;omega
    by_cases hs1:55295<c
    ·have hs2:decide (55295<(c:Int))=true:=by simp;omega
     by_cases hs3:c<57344
     ·have HE:=hid (vfrom_bad (f:=f) hp (dec_bad HK.out (fun h=>h.2.2.2.2 (by rw[←hc.out];exact ⟨hs1,hs3⟩))))
      have hd1:decide ((c:Int)<57344)=true:=by simp;omega
      go_wp2
      go_ret
      exact ⟨by rw[HV.out,HE.out];rfl,rfl⟩
     have HE:=hid (vfrom_good (f:=f) hp (dec_good HK.out ⟨hlong,hall.out,by rw[←hc.out,least_3];omega,by rw[←hc.out];omega,by rw[←hc.out];omega⟩) (by decide))
     have hd1:decide ((c:Int)<57344)=false:=by simp;omega
     go_wp2
     refine ⟨⟨pos+3,f,by go_num,by omega,by omega,by rw[HV.out,HE.out]⟩,by simp[intOf];omega⟩
    have HE:=hid (vfrom_good (f:=f) hp (dec_good HK.out ⟨hlong,hall.out,by rw[←hc.out,least_3];omega,by rw[←hc.out];omega,by rw[←hc.out];omega⟩) (by decide))
    have hs2:decide (55295<(c:Int))=false:=by simp;omega
    go_wp2
    refine ⟨⟨pos+3,f,by go_num,by omega,by omega,by rw[HV.out,HE.out]⟩,by simp[intOf];omega⟩
   have HE:=hid (vfrom_bad (f:=f) hp (dec_bad HK.out (fun h=>hlong h.1)))
   go_wp2
   go_ret
   exact ⟨by rw[HV.out,HE.out];rfl,rfl⟩
  by_cases hn4:240≤byt s pos∧byt s pos<248
  ·obtain ⟨c0,hc0⟩:∃c0,byt s pos=c0+240:=⟨byt s pos-240,by omega⟩
   have hc32:c0<8:=by omega
   have hk:Kind (byt s pos) 4 c0:=.inr (.inr ⟨rfl,hc0,hc32⟩)
   have HK:=hid hk
   have HC:=hid hc0
   obtain ⟨b,hb⟩:∃b:Nat,b=c0+240:=⟨_,rfl⟩
   rw[hc0,←hb]at hbe
   have hb1:240≤b:=by omega
   have hb2:b<248:=by omega
   have hcb:(b:Int)-240=(c0:Int):=by omega
   have HB:=hid hb
   clear hk hn4 hbl hc0 hb h0 h1 hn2 hn3
   by_cases hlong:pos+4≤s.size
   ·have hcell0:(c0:Int)=((cvv s pos c0 0:Nat):Int):=rfl
    go_wp2
    clear hcb
    go_loop [4,7] (fun vc vk=>∃k c:Nat,1≤k∧k≤4∧vk=I J k∧vc=I J c∧Hid (c=cvv s pos c0 (k-1))∧Hid (∀j,1≤j→j<k→128≤byt s (pos+j)∧byt s (pos+j)≤191)) (fun _ vk=>4-(intOf vk).toNat)
    case atStart=>exact ⟨1,c0,by omega,by omega,rfl,rfl,hid rfl,hid (fun j a b=>by omega)⟩
    obtain ⟨k,c,hk1,hk2,rfl,rfl,hc,hall⟩:=hrel
    have hcs:c≤10000000:=by rw[hc.out];exact cvv_small s pos c0 (k-1) (by omega) (by omega)
    by_cases hkn:k<4
    ·have hpk:pos+k<s.size:=by omega
     have hbe2:=byt_eq s (pos+k) hpk
     have hbl2:=byt_lt s (pos+k)
     obtain ⟨d,hd⟩:∃d,d=byt s (pos+k):=⟨_,rfl⟩
     rw[←hd]at hbe2 hbl2
     have HD:=hid hd
     clear hd
     by_cases hlo:d<128
     ·have HE:=hid (vfrom_bad (f:=f) hp (dec_bad HK.out (fun h=>by have:=(h.2.1 k hk1 hkn).1;rw[←HD.out]at this;omega)))
      have hd1:decide ((d:Int)<128)=true:=by simp;omega
      go_wp2
      go_ret
      exact ⟨by rw[HV.out,HE.out];rfl,rfl⟩
     by_cases hhi:191<d
     ·have HE:=hid (vfrom_bad (f:=f) hp (dec_bad HK.out (fun h=>by have:=(h.2.1 k hk1 hkn).2;rw[←HD.out]at this;omega)))
      have hd1:decide ((d:Int)<128)=false:=by simp;omega
      have hd2:decide (191<(d:Int))=true:=by simp;omega
      go_wp2
      go_ret
      exact ⟨by rw[HV.out,HE.out];rfl,rfl⟩
     have hd1:decide ((d:Int)<128)=false:=by simp;omega
     have hd2:decide (191<(d:Int))=false:=by simp;omega
     go_wp2
     go_round
     case rel =>
      refine ⟨k+1,c*64+(d-128),by omega,by omega,by go_num,by go_num,?_,hid ?_⟩
      ·obtain ⟨q,rfl⟩:∃q,k=q+1:=⟨k-1,by omega⟩
       have h1:=hc.out
       rw[Nat.add_sub_cancel]at h1
       refine hid ?_
       rw[Nat.add_sub_cancel]
       show _=cvv s pos c0 q*64+(byt s (pos+(q+1))-128)
       rw[←h1,HD.out]
      intro j a b
      by_cases hj:j=k
      ·subst hj;rw[←HD.out];omega
      exact hall.out j a (by omega)
     case measure=>simp[intOf];omega
    obtain rfl:k=4:=by omega
    by_cases hl:c<65536
    ·have HE:=hid (vfrom_bad (f:=f) hp (dec_bad HK.out (fun h=>by have:=h.2.2.1;rw[←hc.out,least_4]at this;omega)))
     have hd1:decide ((c:Int)<65536)=true:=by simp;omega
     go_wp2
     go_ret
     exact ⟨by rw[HV.out,HE.out];rfl,rfl⟩
    have hl1:decide ((c:Int)<65536)=false:=by simp;omega
    by_cases hm:1114111<c
    ·have HE:=hid (vfrom_bad (f:=f) hp (dec_bad HK.out (fun h=>by have:=h.2.2.2.1;rw[←hc.out]at this;omega)))
     have hd1:decide (1114111<(c:Int))=true:=by simp;omega
     go_wp2
     go_ret
     exact ⟨by rw[HV.out,HE.out];rfl,rfl⟩
    have hm1:decide (1114111<(c:Int))=false:=by simp;omega
    by_cases hs1:55295<c
    ·have hs2:decide (55295<(c:Int))=true:=by simp;omega
     by_cases hs3:c<57344
     ·have HE:=hid (vfrom_bad (f:=f) hp (dec_bad HK.out (fun h=>h.2.2.2.2 (by rw[←hc.out];exact ⟨hs1,hs3⟩))))
      have hd1:decide ((c:Int)<57344)=true:=by simp;omega
      go_wp2
      go_ret
      exact ⟨by rw[HV.out,HE.out];rfl,rfl⟩
     have HE:=hid (vfrom_good (f:=f) hp (dec_good HK.out ⟨hlong,hall.out,by rw[←hc.out,least_4];omega,by rw[←hc.out];omega,by rw[←hc.out];omega⟩) (by decide))
     have hd1:decide ((c:Int)<57344)=false:=by simp;omega
     go_wp2
     refine ⟨⟨pos+4,f,by go_num,by omega,by omega,by rw[HV.out,HE.out]⟩,by simp[intOf];omega⟩
    have HE:=hid (vfrom_good (f:=f) hp (dec_good HK.out ⟨hlong,hall.out,by rw[←hc.out,least_4];omega,by rw[←hc.out];omega,by rw[←hc.out];omega⟩) (by decide))
    have hs2:decide (55295<(c:Int))=false:=by simp;omega
    go_wp2
    refine ⟨⟨pos+4,f,by go_num,by omega,by omega,by rw[HV.out,HE.out]⟩,by simp[intOf];omega⟩
   have HE:=hid (vfrom_bad (f:=f) hp (dec_bad HK.out (fun h=>hlong h.1)))
   go_wp2
   go_ret
   exact ⟨by rw[HV.out,HE.out];rfl,rfl⟩
  omega
 have HE:=hid (vfrom_end s fuel pos hp)
 go_wp2
 go_ret
 exact ⟨by rw[HV.out,HE.out];rfl,rfl⟩
theorem isImport_any (s1 s2:ByteArray) (kd ty tr tmn tmx:Int) (th:Bool) (mmn mmx:Int) (mh:Bool) (gt:Int) (gm:Bool) (w:World) (g1:s1.size≤4611686018427387904) (g2:s2.size≤4611686018427387904) :
  Calls QP 33 #[.agg #[Qs s1,Qs s2,I J kd,I J ty,I J tr,I J tmn,I J tmx,G th,I J mmn,I J mmx,G mh,I J gt,G gm]] w fun e w'=>e=Qr (G (impP kd ty tr tmn tmx th mmn mmx mh gt gm (vfrom s1 s1.size 0&&vfrom s2 s2.size 0)))∧Below w.heap.size w w' :=
 isImport_says s1 s2 kd ty tr tmn tmx th mmn mmx mh gt gm _ _ w (fun W=>Valid_any s1 W (by omega)) (fun W=>Valid_any s2 W (by omega))
theorem refValid_below (s:ByteArray) (w:World) (g:s.size≤4611686018427387904) :
  Calls QP 155 #[Qs s] w fun e w'=>e=Qr (G (vfrom s s.size 0))∧Below w.heap.size w w':=by
 refine (refValid_any s w g).mono ?_
 rintro e w' ⟨rfl,rfl⟩
 exact ⟨rfl,QB _ _⟩
theorem imported_any (s1 s2:ByteArray) (kd ty tr tmn tmx:Int) (th:Bool) (mmn mmx:Int) (mh:Bool) (gt:Int) (gm:Bool) (w:World) (g1:s1.size≤4611686018427387904) (g2:s2.size≤4611686018427387904) :
  Calls QP 51 #[.agg #[Qs s1,Qs s2,I J kd,I J ty,I J tr,I J tmn,I J tmx,G th,I J mmn,I J mmx,G mh,I J gt,G gm]] w fun e w'=>e=Qr (G (impR kd ty tr tmn tmx th mmn mmx mh gt gm (vfrom s1 s1.size 0&&vfrom s2 s2.size 0)))∧Below w.heap.size w w' :=
 imported_says s1 s2 kd ty tr tmn tmx th mmn mmx mh gt gm _ w (fun W=>Rnames_says s1 s2 _ _ W (fun W'=>refValid_below s1 W' g1) (fun W'=>refValid_below s2 W' g2))
theorem place_eq (mode of top:Int) (off:Bool) (no:Nat) (h0:-9223372036854775808≤of) (h1:of<9223372036854775808) (ht:0≤top) :
  placeB mode of off no top=(placeR mode of off no&&decide (0≤mode)&&decide (mode≤top)):=by
 unfold placeB placeR
 rw[idx_eq of h0 h1]
 by_cases m:mode=0
 ·subst m
  rw[if_pos rfl,if_pos rfl,decide_eq_true (Int.le_refl 0),decide_eq_true ht,Bool.and_true,Bool.and_true]
 rw[if_neg m,if_neg m]
 rw[show decide (0<mode)=decide (0≤mode) from decide_eq_decide.2 ⟨fun h=>by omega,fun h=>by omega⟩]
 generalize decide (0≤mode)=a
 generalize decide (mode≤top)=b
 generalize ((of==0)&&((no:Int)==0))=c
 cases a<;>cases b<;>cases c<;>rfl
theorem export_eq (k ix:Int) (v:Bool) (h0:-9223372036854775808≤ix) (h1:ix<9223372036854775808) :
  (kindB k&&(idxB ix&&v))=(v&&idxR ix&&decide (0≤k)&&decide (k≤3)):=by
 rw[idx_eq ix h0 h1]
 rw[show kindB k=(decide (0≤k)&&decide (k≤3)) from by
  rw[Bool.eq_iff_iff]
  simp only[kindB,Bool.or_eq_true,Bool.and_eq_true,beq_iff_eq,decide_eq_true_eq]
  omega]
 generalize decide (0≤k)=a
 generalize decide (k≤3)=b
 generalize idxR ix=c
 cases a<;>cases b<;>cases c<;>cases v<;>rfl
theorem if_chain (b1 b2 b3 r:Bool):(if b1=true then (if b2=true then (if b3=true then (r,()) else (false,())) else (false,())) else (false,()))=(b1&&b2&&b3&&r,()):=by
 cases b1<;>cases b2<;>cases b3<;>rfl
theorem code_ev:∀(f:Fo) (d:Int),1≤d→d≤501→evF codeSt f d ()=((onesB f&&decide (d-1+(f.nst:Int)≤500)),())
 |.nil,d,h,h2=>by
  refine Prod.ext (Bool.eq_iff_iff.2 ?_) rfl
  simp[evF,onesB,Fo.nst]
  omega
 |.cons op a b n hh l ot body els rest,d,h,h2=>by
  have hX:(Fo.cons op a b n hh l ot body els rest).nst=max (max body.nst els.nst+1) rest.nst:=rfl
  generalize (Fo.cons op a b n hh l ot body els rest).nst=X at *
  by_cases hd:d≤500
  ·rw[evF_cons codeSt op a b n hh l ot body els rest d () (decide (d≤500)&&insB op a b n hh l ot body.len els.len) () rfl _ _ (code_ev body (d+1) (by omega) (by omega)) _ _ (code_ev els (d+1) (by omega) (by omega)),code_ev rest d h h2]
   refine (if_chain _ _ _ _).trans ?_
   rw[show decide (d≤500)=true by simpa using hd]
   refine Prod.ext (Bool.eq_iff_iff.2 ?_) rfl
   simp only[onesB,Bool.true_and,Bool.and_eq_true,decide_eq_true_eq]
   constructor
   ·rintro ⟨⟨⟨h1,h2,h3⟩,h4,h5⟩,h6,h7⟩
    exact ⟨⟨⟨⟨h1,h2⟩,h4⟩,h6⟩,by omega⟩
   rintro ⟨⟨⟨⟨h1,h2⟩,h4⟩,h6⟩,h⟩
   exact ⟨⟨⟨h1,h2,by omega⟩,h4,by omega⟩,h6,by omega⟩
  have:d=501:=by omega
  subst this
  rw[evF_cons codeSt op a b n hh l ot body els rest 501 () false () (by simp[codeSt]) _ _ rfl _ _ rfl]
  refine Prod.ext (Bool.eq_iff_iff.2 ?_) rfl
  simp only[onesB,Bool.and_eq_true,decide_eq_true_eq]
  constructor
  ·intro h;simp at h
  rintro ⟨_,h⟩;exact absurd h (by omega)
theorem code_eq (f:Fo):codeB f=(onesB f&&decide ((f.nst:Int)≤500)):=by
 unfold codeB
 rw[code_ev f 1 (by decide) (by decide)]
 simp
theorem Expr_says (f:Fo) (v:Value) (B:Nat) (w:World) (hn:f.cnt<9223372036854775806) (hr:Rng f) (hB:B≤w.heap.size) (hs:SA B w v f):Calls QP 26 #[v] w fun e w'=>e=Qr (G (codeB f))∧Below w.heap.size w w':=by
 rw[code_eq]
 have HO:=hid (ones_says B (f.cnt+1) f ⟨Nat.lt_succ_self _,hn⟩ hr v w hB hs)
 have HN:=fun W (hW:Below w.heap.size w W)=>hid (RNest_says B W trivial (f.cnt+1) f ⟨Nat.lt_succ_self _,hn⟩ v (SA.below hs (hW.mono hB)))
 obtain ⟨x,hx⟩:∃x,x=f.nst:=⟨_,rfl⟩
 rw[←hx]at HN ⊢
 generalize onesB f=r at *
 obtain ⟨p,c,g0,o0,rfl,hp,hfa⟩:=hs
 generalize f.len=m at *
 clear hp hfa hr hn hx
 cases r
 ·go_enter Tryz.func26,Tryz.ntmps26
  go_wp2_with (first|(go_at_call 137;(with_reducible refine HO.out.mono ?_);rintro e w1 ⟨rfl,hb⟩))
  go_ret
  exact ⟨rfl,hb⟩
 go_enter Tryz.func26,Tryz.ntmps26
 go_wp2_with (first|(go_at_call 137;(with_reducible refine HO.out.mono ?_);rintro e w1 ⟨rfl,hb⟩)|(go_at_call 138;(with_reducible refine (HN _ hb).out.mono ?_);rintro e w2 ⟨rfl,rfl⟩))
 go_ret
 exact ⟨rfl,hb⟩
noncomputable def askI (op:Int):Bool:=knB (lineL op)&&((lineL op).2.1==17||(lineL op).2.1==18)
noncomputable def asksB:Fo→Bool
 |.nil=>false
 |.cons op _ _ _ _ _ _ body els rest=>askI op||asksB body||asksB els||asksB rest
theorem Asks_says (B:Nat):∀(N:Nat) (f:Fo),f.cnt<N∧f.cnt<9223372036854775806→∀(v:Value) (w:World),B≤w.heap.size→SA B w v f →
  Calls QP 53 #[v] w fun e w'=>e=Qr (G (asksB f))∧Below w.heap.size w w':=by
 intro N
 induction N with
 |zero=>intro f h;omega
 |succ N ih =>
  intro f hf v w hB hs
  obtain ⟨p,c,g0,o0,rfl,hp,hfa⟩:=hs
  have hcl:=nst_cnt f
  obtain ⟨m,hm⟩:∃m,m=f.len:=⟨_,rfl⟩
  rw[←hm]at hp ⊢
  have HIH:=hid ih
  have HP:=hid hp
  have HBB:=hid hB
  have hm62:(m:Int)<9223372036854775807:=by omega
  obtain ⟨R,hR⟩:∃R,R=asksB f:=⟨_,rfl⟩
  rw[←hR]
  have HS:Hid (0+f.len=m∧f.cnt<N+1∧FA B w f g0 (o0+0*9)∧R=asksB f∧f.cnt<9223372036854775806∧Below w.heap.size w w):=⟨by rw[hm];omega,hf.1,by simpa using hfa,hR,hf.2,QB _ _⟩
  clear ih hp hR hm hfa hf hcl hB
  go_enter Tryz.func53,Tryz.ntmps53
  go_wp2
  go_loopw [3] (fun vi wr=>∃(i:Nat) (fi:Fo),i≤m∧vi=I J i∧Hid (i+fi.len=m∧fi.cnt<N+1∧FA B w fi g0 (o0+i*9)∧R=asksB fi∧fi.cnt<9223372036854775806∧Below w.heap.size w wr)) (fun vi _=>m-(intOf vi).toNat)
  case atStart=>exact ⟨0,f,Qz _,rfl,HS⟩
  obtain ⟨i,fi,him,rfl,HI⟩:=hrel
  cases fi with
  |nil =>
   have hi:i=m:=HI.out.1
   subst hi
   have HE:Hid (R=false):=HI.out.2.2.2.1
   have HW:=hid HI.out.2.2.2.2.2
   go_wp2
   go_ret
   exact ⟨by rw[HE.out];rfl,HW.out⟩
  |cons op a b nn h l ot body els rest =>
   obtain ⟨hg,⟨vl,vb,ve,x0,x1,x2,x3,x4,x5,x6,x7,x8,hl,hbo,hel⟩,hrest⟩:=HI.out.2.2.1
   have hlt:i<m:=by have:=HI.out.1;simp only[Fo.len]at this;omega
   obtain rfl:=HP.out (by omega)
   have hcn:=HI.out.2.1
   simp only[Fo.cnt]at hcn
   have h62:=HI.out.2.2.2.2.1
   simp only[Fo.cnt]at h62
   have HBO:=hid hbo
   have HEL:=hid hel
   have KB:=fun (W:World) (hW:Below w.heap.size w W)=>hid (HIH.out body ⟨by omega,by omega⟩ vb W (Qk HBB.out hW.size) (SA.below HBO.out (hW.mono HBB.out)))
   have KE:=fun (W:World) (hW:Below w.heap.size w W)=>hid (HIH.out els ⟨by omega,by omega⟩ ve W (Qk HBB.out hW.size) (SA.below HEL.out (hW.mono HBB.out)))
   have hR:=HI.out.2.2.2.1
   simp only[asksB]at hR
   have HLE:=hid (show i+1+rest.len=m∧rest.cnt<N+1∧rest.cnt<9223372036854775806 by have h1:=HI.out.1;simp only[Fo.len]at h1;omega)
   have HRS:=hid (show FA B w rest g0 (o0+(i+1)*9) by (have h9:o0+(i+1)*9=o0+i*9+9:=by omega);rw[h9];exact hrest)
   have HGW:=hid (Nat.lt_of_lt_of_le hg HBB.out)
   have hS0:=HI.out.2.2.2.2.2
   obtain ⟨o,nm,k,tk,lv,fx,hof⟩:∃o nm k tk lv fx,ofL op=(o,nm,k,tk,lv,fx):=⟨_,_,_,_,_,_,rfl⟩
   have hk:=fun W=>Of_says op W
   rw[hof]at hk
   have HK:=fun W=>hid (show Calls QP 153 #[I J op] W fun e w'=>e=Qr (.agg #[I J o,Qs (str nm),I J k,Qs (str tk),Qs (str lv),G fx])∧Below W.heap.size W w' from hk W)
   obtain ⟨g1,g2⟩:=agree_two op hof
   unfold askI at hR
   rw[g1,g2]at hR
   obtain ⟨qo,dqo⟩:∃x,decide (0≤o)=x:=⟨_,rfl⟩
   obtain ⟨k7,dk7⟩:∃x,(k==17)=x:=⟨_,rfl⟩
   obtain ⟨k8,dk8⟩:∃x,(k==18)=x:=⟨_,rfl⟩
   rw[dqo,dk7,dk8]at hR
   have HR:=hid hR
   generalize asksB body=q2 at *
   generalize asksB els=q3 at *
   clear hR hl hbo hel hrest HI hg hcn h62 hk hof g1 g2
   have HX:=hid (And.intro x0 (And.intro x6 x7))
   clear x0 x1 x2 x3 x4 x5 x6 x7 x8
   obtain ⟨x0,x6,x7⟩:=HX.out;have z0:=(hS0.cell (p:=⟨g0,o0+i*9,none⟩) HGW.out).trans x0;have z6:=(hS0.cell (p:=⟨g0,o0+i*9+6,none⟩) HGW.out).trans x6;have z7:=(hS0.cell (p:=⟨g0,o0+i*9+7,none⟩) HGW.out).trans x7;clear x0 x6 x7
   go_upto_region 5 with (go_at_call 153;(with_reducible refine (HK _).out.mono ?_);rintro e W1 ⟨rfl,hb⟩;have hS1:=hS0.trans (hb.mono hS0.size);clear hb;clear z0 z6 z7)
   have hS2:=hS1.alloc hS1.size (Qc #[I J o,Qs (str nm),I J k,Qs (str tk),Qs (str lv),G fx] 172)
   have HR2:=hid (CA.new W1 #[I J o,Qs (str nm),I J k,Qs (str tk),Qs (str lv),G fx] 172)
   generalize W1.alloc (Qc #[I J o,Qs (str nm),I J k,Qs (str tk),Qs (str lv),G fx] 172)=W2 at *
   obtain ⟨gr,hgr⟩:∃g,g=W1.heap.size:=⟨_,rfl⟩
   rw[←hgr]at HR2 ⊢
   clear hgr hS1
   obtain ⟨x0,x6,x7⟩:=HX.out;have u0:=(hS2.cell (p:=⟨g0,o0+i*9,none⟩) HGW.out).trans x0;have u6:=(hS2.cell (p:=⟨g0,o0+i*9+6,none⟩) HGW.out).trans x6;have u7:=(hS2.cell (p:=⟨g0,o0+i*9+7,none⟩) HGW.out).trans x7;clear x0 x6 x7
   cases qo with
   |false =>
    cases q2 with
    |true =>
     go_wp2_with (first
     |(go_at_call 53;(with_reducible refine (KB _ hS2).out.mono ?_);rintro e W3 ⟨rfl,hb⟩;have hS3:=hS2.trans (hb.mono hS2.size);have HR3:=Qe HR2 hb;clear hb;clear u0 u6 u7;obtain ⟨x0,x6,x7⟩:=HX.out;have s0:=(hS3.cell (p:=⟨g0,o0+i*9,none⟩) HGW.out).trans x0;have s6:=(hS3.cell (p:=⟨g0,o0+i*9+6,none⟩) HGW.out).trans x6;have s7:=(hS3.cell (p:=⟨g0,o0+i*9+7,none⟩) HGW.out).trans x7;clear x0 x6 x7)
     |(go_at_call 53;(with_reducible refine (KE _ hS3).out.mono ?_);rintro e W4 ⟨rfl,hb⟩;have hS4:=hS3.trans (hb.mono hS3.size);have HR4:=Qe HR3 hb;clear hb;clear s0 s6 s7;have r0:=HR4.out.at (k:=0) (v:=I J o) rfl;have r2:=HR4.out.at (k:=2) (v:=I J k) rfl))
     go_ret
     exact ⟨by rw[HR.out];simp,hS4⟩
    |false =>
     cases q3 with
     |true =>
      go_wp2_with (first
     |(go_at_call 53;(with_reducible refine (KB _ hS2).out.mono ?_);rintro e W3 ⟨rfl,hb⟩;have hS3:=hS2.trans (hb.mono hS2.size);have HR3:=Qe HR2 hb;clear hb;clear u0 u6 u7;obtain ⟨x0,x6,x7⟩:=HX.out;have s0:=(hS3.cell (p:=⟨g0,o0+i*9,none⟩) HGW.out).trans x0;have s6:=(hS3.cell (p:=⟨g0,o0+i*9+6,none⟩) HGW.out).trans x6;have s7:=(hS3.cell (p:=⟨g0,o0+i*9+7,none⟩) HGW.out).trans x7;clear x0 x6 x7)
     |(go_at_call 53;(with_reducible refine (KE _ hS3).out.mono ?_);rintro e W4 ⟨rfl,hb⟩;have hS4:=hS3.trans (hb.mono hS3.size);have HR4:=Qe HR3 hb;clear hb;clear s0 s6 s7;have r0:=HR4.out.at (k:=0) (v:=I J o) rfl;have r2:=HR4.out.at (k:=2) (v:=I J k) rfl))
      go_ret
      exact ⟨by rw[HR.out];simp,hS4⟩
     |false =>
      have HF:Hid (R=asksB rest):=by have:=HR.out;(show R=asksB rest);simpa using this
      go_wp2_with (first
     |(go_at_call 53;(with_reducible refine (KB _ hS2).out.mono ?_);rintro e W3 ⟨rfl,hb⟩;have hS3:=hS2.trans (hb.mono hS2.size);have HR3:=Qe HR2 hb;clear hb;clear u0 u6 u7;obtain ⟨x0,x6,x7⟩:=HX.out;have s0:=(hS3.cell (p:=⟨g0,o0+i*9,none⟩) HGW.out).trans x0;have s6:=(hS3.cell (p:=⟨g0,o0+i*9+6,none⟩) HGW.out).trans x6;have s7:=(hS3.cell (p:=⟨g0,o0+i*9+7,none⟩) HGW.out).trans x7;clear x0 x6 x7)
     |(go_at_call 53;(with_reducible refine (KE _ hS3).out.mono ?_);rintro e W4 ⟨rfl,hb⟩;have hS4:=hS3.trans (hb.mono hS3.size);have HR4:=Qe HR3 hb;clear hb;clear s0 s6 s7;have r0:=HR4.out.at (k:=0) (v:=I J o) rfl;have r2:=HR4.out.at (k:=2) (v:=I J k) rfl))
      go_roundw
      case rel=>exact ⟨i+1,rest,hlt,by go_num,HLE.out.1,HLE.out.2.1,HRS.out,HF.out,HLE.out.2.2,hS4⟩
      case measure=>simp[intOf];omega
   |true =>
    cases k7 with
    |true =>
     go_wp2_with (first
     |(go_at_call 53;(with_reducible refine (KB _ hS2).out.mono ?_);rintro e W3 ⟨rfl,hb⟩;have hS3:=hS2.trans (hb.mono hS2.size);have HR3:=Qe HR2 hb;clear hb;clear u0 u6 u7;obtain ⟨x0,x6,x7⟩:=HX.out;have s0:=(hS3.cell (p:=⟨g0,o0+i*9,none⟩) HGW.out).trans x0;have s6:=(hS3.cell (p:=⟨g0,o0+i*9+6,none⟩) HGW.out).trans x6;have s7:=(hS3.cell (p:=⟨g0,o0+i*9+7,none⟩) HGW.out).trans x7;clear x0 x6 x7)
     |(go_at_call 53;(with_reducible refine (KE _ hS3).out.mono ?_);rintro e W4 ⟨rfl,hb⟩;have hS4:=hS3.trans (hb.mono hS3.size);have HR4:=Qe HR3 hb;clear hb;clear s0 s6 s7;have r0:=HR4.out.at (k:=0) (v:=I J o) rfl;have r2:=HR4.out.at (k:=2) (v:=I J k) rfl))
     go_ret
     exact ⟨by rw[HR.out];simp,hS4⟩
    |false =>
     cases k8 with
     |true =>
      go_wp2_with (first
     |(go_at_call 53;(with_reducible refine (KB _ hS2).out.mono ?_);rintro e W3 ⟨rfl,hb⟩;have hS3:=hS2.trans (hb.mono hS2.size);have HR3:=Qe HR2 hb;clear hb;clear u0 u6 u7;obtain ⟨x0,x6,x7⟩:=HX.out;have s0:=(hS3.cell (p:=⟨g0,o0+i*9,none⟩) HGW.out).trans x0;have s6:=(hS3.cell (p:=⟨g0,o0+i*9+6,none⟩) HGW.out).trans x6;have s7:=(hS3.cell (p:=⟨g0,o0+i*9+7,none⟩) HGW.out).trans x7;clear x0 x6 x7)
     |(go_at_call 53;(with_reducible refine (KE _ hS3).out.mono ?_);rintro e W4 ⟨rfl,hb⟩;have hS4:=hS3.trans (hb.mono hS3.size);have HR4:=Qe HR3 hb;clear hb;clear s0 s6 s7;have r0:=HR4.out.at (k:=0) (v:=I J o) rfl;have r2:=HR4.out.at (k:=2) (v:=I J k) rfl))
      go_ret
      exact ⟨by rw[HR.out];simp,hS4⟩
     |false =>
      cases q2 with
      |true =>
       go_wp2_with (first
     |(go_at_call 53;(with_reducible refine (KB _ hS2).out.mono ?_);rintro e W3 ⟨rfl,hb⟩;have hS3:=hS2.trans (hb.mono hS2.size);have HR3:=Qe HR2 hb;clear hb;clear u0 u6 u7;obtain ⟨x0,x6,x7⟩:=HX.out;have s0:=(hS3.cell (p:=⟨g0,o0+i*9,none⟩) HGW.out).trans x0;have s6:=(hS3.cell (p:=⟨g0,o0+i*9+6,none⟩) HGW.out).trans x6;have s7:=(hS3.cell (p:=⟨g0,o0+i*9+7,none⟩) HGW.out).trans x7;clear x0 x6 x7)
     |(go_at_call 53;(with_reducible refine (KE _ hS3).out.mono ?_);rintro e W4 ⟨rfl,hb⟩;have hS4:=hS3.trans (hb.mono hS3.size);have HR4:=Qe HR3 hb;clear hb;clear s0 s6 s7;have r0:=HR4.out.at (k:=0) (v:=I J o) rfl;have r2:=HR4.out.at (k:=2) (v:=I J k) rfl))
       go_ret
       exact ⟨by rw[HR.out];simp,hS4⟩
      |false =>
       cases q3 with
       |true =>
        go_wp2_with (first
     |(go_at_call 53;(with_reducible refine (KB _ hS2).out.mono ?_);rintro e W3 ⟨rfl,hb⟩;have hS3:=hS2.trans (hb.mono hS2.size);have HR3:=Qe HR2 hb;clear hb;clear u0 u6 u7;obtain ⟨x0,x6,x7⟩:=HX.out;have s0:=(hS3.cell (p:=⟨g0,o0+i*9,none⟩) HGW.out).trans x0;have s6:=(hS3.cell (p:=⟨g0,o0+i*9+6,none⟩) HGW.out).trans x6;have s7:=(hS3.cell (p:=⟨g0,o0+i*9+7,none⟩) HGW.out).trans x7;clear x0 x6 x7)
     |(go_at_call 53;(with_reducible refine (KE _ hS3).out.mono ?_);rintro e W4 ⟨rfl,hb⟩;have hS4:=hS3.trans (hb.mono hS3.size);have HR4:=Qe HR3 hb;clear hb;clear s0 s6 s7;have r0:=HR4.out.at (k:=0) (v:=I J o) rfl;have r2:=HR4.out.at (k:=2) (v:=I J k) rfl))
        go_ret
        exact ⟨by rw[HR.out];simp,hS4⟩
       |false =>
        have HF:Hid (R=asksB rest):=by have:=HR.out;(show R=asksB rest);simpa using this
        go_wp2_with (first
     |(go_at_call 53;(with_reducible refine (KB _ hS2).out.mono ?_);rintro e W3 ⟨rfl,hb⟩;have hS3:=hS2.trans (hb.mono hS2.size);have HR3:=Qe HR2 hb;clear hb;clear u0 u6 u7;obtain ⟨x0,x6,x7⟩:=HX.out;have s0:=(hS3.cell (p:=⟨g0,o0+i*9,none⟩) HGW.out).trans x0;have s6:=(hS3.cell (p:=⟨g0,o0+i*9+6,none⟩) HGW.out).trans x6;have s7:=(hS3.cell (p:=⟨g0,o0+i*9+7,none⟩) HGW.out).trans x7;clear x0 x6 x7)
     |(go_at_call 53;(with_reducible refine (KE _ hS3).out.mono ?_);rintro e W4 ⟨rfl,hb⟩;have hS4:=hS3.trans (hb.mono hS3.size);have HR4:=Qe HR3 hb;clear hb;clear s0 s6 s7;have r0:=HR4.out.at (k:=0) (v:=I J o) rfl;have r2:=HR4.out.at (k:=2) (v:=I J k) rfl))
        go_roundw
        case rel=>exact ⟨i+1,rest,hlt,by go_num,HLE.out.1,HLE.out.2.1,HRS.out,HF.out,HLE.out.2.2,hS4⟩
        case measure=>simp[intOf];omega
noncomputable def okLine (op:Int):Bool:=knB (lineL op)||!((lineL op).2.1==17||(lineL op).2.1==18)
theorem ok_lines:(rangeOps.all okLine)=true:=by kernel_rfl
theorem ok_line (op:Int):okLine op=true:=by
 by_cases h:op∈rangeOps
 ·exact List.all_eq_true.1 ok_lines op h
 unfold okLine
 rw[lineL_out op h]
 kernel_rfl
theorem ask_eq (op:Int):askI op=((lineL op).2.1==17||(lineL op).2.1==18):=by
 have h:=ok_line op
 unfold okLine at h
 unfold askI
 generalize knB (lineL op)=k at *
 generalize ((lineL op).2.1==17||(lineL op).2.1==18)=q at *
 cases k<;>cases q<;>simp at h ⊢
theorem data_ev:∀(f:Fo) (d:Int),evF dataSt f d ()=(!asksB f,())
 |.nil,d=>rfl
 |.cons op a b n hh l ot body els rest,d=>by
  rw[evF_cons dataSt op a b n hh l ot body els rest d () (!askI op) () (by unfold dataSt;rw[ask_eq];simp[bne]) _ _ (data_ev body (d+1)) _ _ (data_ev els (d+1)),data_ev rest d]
  refine (if_chain _ _ _ _).trans ?_
  simp only[asksB]
  cases askI op<;>cases asksB body<;>cases asksB els<;>cases asksB rest<;>rfl
theorem data_eq (f:Fo):dataB f=!asksB f:=by
 unfold dataB
 rw[data_ev f 1]
end Go.Proofs.YtjgeedgphcjhoaaGreat
