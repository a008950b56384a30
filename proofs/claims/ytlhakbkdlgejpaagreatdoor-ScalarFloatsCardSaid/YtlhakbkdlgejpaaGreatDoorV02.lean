/-
  SRef: merged, what the laws do not reach left out (each text says what it holds where it lies in wip). No condition.
-/
import Derived.Test.YtlhakbkdlgejpaaGreatDoorV01
import Derived.Test.YtlhakbkdlgejpaaGreatDoorX01
set_option linter.unusedSimpArgs false
set_option linter.unusedVariables false
set_option maxRecDepth 100000
namespace Go.Proofs.YtlhakbkdlgejpaaGreatDoor.Sc
open Go.RowKit
def clA (a:Av):Av:=(a.1,cutT a.1 a.2.1,0,false)
theorem cl_next (l:List Av) (i:Nat) (a:Av) (h:l[i]?=some a):(l.take (i + 1)).flatMap (fun a => avc (clA a))=(l.take i).flatMap (fun a => avc (clA a)) ++ [.int .i64 a.1,.int .u64 (cutT a.1 a.2.1:Nat),.int .u64 0,.bool false]:=by
 rw [List.take_add_one,h,List.flatMap_append]
 simp [avc,clA]
theorem len_two {l:List Av} (h:l.length=2):∃ a b,l=[a,b]:=by
 match l,h with
 | [a,b],_ => exact ⟨a,b,rfl⟩
def t0 (l:List Av):Int:=(l.headD (0,0,0,false)).1
set_option maxHeartbeats 8000000 in
theorem RDo_says (op:Int) (hN:(69≤op∧op≤196) ∨ (64512≤op∧op≤64519)) (ro:Int) (nm:List UInt8) (im:Int) (tk lv:List UInt8) (fx:Bool) (hr:ofL op=(ro,nm,im,tk,lv,fx)) (hro:0≤ro) (h4:4≤nm.length) (hn3:nm.length≤1000) (htk:tk.length≤100) (hlv:lv.length≤100)
  (l:List Av) (hT:tyL tk=l.map (·.1)) (hl1:1≤l.length) (hl2:l.length≤2) (hty:∀ (j:Nat) (a:Av),l[j]?=some a→a.1 ≠ 123) (t:Int) (hlv2:tyL lv=[t]) (ht:t ≠ 123)
  (va:Value) (w:World) (ha:AR w va l) (x:Nat) (e2:Nat)
  (HR:Ans 91 #[.string (str (nm.take 1)),.int .i64 (bitsT (t0 l):Nat),.int .i64 t,.string (str (nm.drop 4)),.int .u64 (opn l 0:Nat),.int .u64 (opn l 1:Nat)] (.tuple #[.int .u64 x,.int .i64 e2])) :
  Calls Tryz.prog 51 #[.int .i64 op,.slice none 0 0,va] w fun e w' => e=.returned (.tuple #[doV t x e2,.int .i64 e2])∧Below w.heap.size w w':=by
 have HO:=fun W => hid (Of_says op W)
 rw [hr] at HO
 have HNM:=fun W => hid (RNum_says op hN ro nm im tk lv fx hr hro W)
 have HT1:=fun W => hid (reftypes_says tk htk W)
 have HT2:=fun W => hid (reftypes_says lv hlv W)
 rw [hlv2] at HT2
 have HRR:=fun W => hid (HR W)
 have HCX:∀ W:World,Hid (Calls Tryz.prog 90 #[.agg #[.int .i64 t,.int .u64 x,.int .u64 0,.bool false]] W fun e w' => e=.returned (.agg #[.int .i64 t,.int .u64 (cutT t x:Nat),.int .u64 0,.bool false])∧Below W.heap.size W w'):=fun W => Clean_says t ht x 0 false W
 have HBT:=fun W => hid (Bits_says (t0 l) W)
 have HCL:∀ (j:Nat) (a:Av),l[j]?=some a→∀ W,Hid (Calls Tryz.prog 90 #[.agg #[.int .i64 a.1,.int .u64 a.2.1,.int .u64 a.2.2.1,.bool a.2.2.2]] W fun e w' => e=.returned (vv a.1 (cutT a.1 a.2.1) 0 false)∧Below W.heap.size W w'):=fun j a hj W => Clean_says a.1 (hty j a hj) a.2.1 a.2.2.1 a.2.2.2 W
 have HNX:=hid (cl_next l)
 have HT:=hid hT
 have hlen:(tyL tk).length=l.length:=by rw [hT,List.length_map]
 have hk1:(str nm).extract 0 1=str (nm.take 1):=cut_str nm 1
 have hk4:(str nm).extract 4 (str nm).size=str (nm.drop 4):=by rw [str_size,ext_str nm 4 nm.length h4,List.take_of_length_le (by rw [List.length_drop];omega)]
 have hsz:(str nm).size=nm.length:=str_size nm
 obtain ⟨ga,ca,rfl,hga,hca,hata⟩:=ha
 have HA:=hid hata
 obtain ⟨n,hn⟩:∃ n,n=l.length:=⟨_,rfl⟩
 rw [← hn] at hca hl1 hl2 hlen ⊢
 have HNN:=hid hn
 have hop:decide (64768≤op)=false:=by simp;omega
 have hop2:decide (op < 64768)=true:=by simp;omega
 have hnn:((n:Int) != (n:Int))=false:=by simp
 have HD0:Hid (doV t x 0=vv t (cutT t x) 0 false):=rfl
 have HDE:Hid (e2 ≠ 0→doV t x e2=vv 0 0 0 false):=fun h => if_neg h
 unfold rwV at HO
 unfold vv at HCL HD0 HDE
 generalize cutT t x=CT at *
 generalize hta:tyL tk=ta at *
 obtain ⟨sn,hsn⟩:∃ s,s=str nm:=⟨_,rfl⟩
 obtain ⟨k1,hk1e⟩:∃ s,s=str (nm.take 1):=⟨_,rfl⟩
 obtain ⟨k4,hk4e⟩:∃ s,s=str (nm.drop 4):=⟨_,rfl⟩
 rw [← hsn] at HO hk1 hk4 hsz
 rw [← hk1e] at HRR hk1
 rw [← hk4e] at HRR hk4
 generalize str tk=stk at *
 generalize str lv=slv at *
 have hs1:4≤sn.size:=by omega
 have hbA:((sn.size:Int) < 1)=False:=by simp;omega
 have hbB:((sn.size:Int) < 4)=False:=by simp;omega
 have hs2:sn.size≤1000:=by omega
 clear hr hlv2 HR hT hata hn hro hN htk hlv hty ht hsn hk1e hk4e hn3 h4 hsz hta
 go_enter Tryz.func51,Tryz.ntmps51
 go_upto_region 6 with (first
  | (go_at_call 23;refine (HO _).out.mono ?_;rintro e w1 ⟨rfl,hb1⟩;have HX1:=hid (below_new hb1);clear hb1)
  | (go_at_call 25;(with_reducible refine (HT1 _).out.mono ?_);rintro e w2 ⟨v2,rfl,ho2,hb2⟩;rw [hlen] at ho2;obtain ⟨g2,c2,rfl⟩:=owned_at ho2 hl1;have HO2:=hid ho2;have HX2:=hid (below_new hb2);clear hb2 ho2)
  | (go_at_call 89;(with_reducible refine (HNM _).out.mono ?_);rintro e w3 ⟨rfl,hb3⟩;have HO3:=hid (own_below HO2.out hb3 (Nat.le_refl _));have HX3:=hid (And.intro (HX2.out.1.call hb3) (HX2.out.2.trans (hb3.mono HX2.out.2.size)));clear hb3))
 have hg2:g2 < w3.heap.size:=(HO3.out.lt g2 rfl).2
 have HTC:Hid (∀ j a,l[j]?=some a→w3.cell? ⟨g2,j,none⟩=some (.int .i64 a.1)):=fun j a hj => by
  have hjl:j < l.length:=(List.getElem?_eq_some_iff.1 hj).1
  rw [HO3.out.cellAt j (by rw [HNN.out];omega),HT.out]
  simp [ic,hj]
 have HB3:Hid (Below w.heap.size w w3):=HX1.out.2.trans (HX3.out.2.mono HX1.out.2.size)
 have HR3:Hid (CA w.heap.size #[.int .i64 0,.int .u64 0,.int .u64 0,.bool false] 24 w3):=HX1.out.1.call HX3.out.2
 have HXR:=hid HX3.out.1
 generalize w1.heap.size=g8 at *
 clear HX1 HX2 HX3 HO2 HO3 HT hlen HO HT1 HNM
 go_wp2
 go_loopw [11,12] (fun vl vi wr => ∃ i:Nat,i≤n∧vi=.int .i64 i∧Hid (wr.ownsRow w3.heap.size 24 4 vl i ((l.take i).flatMap (fun a => avc (clA a))))∧Hid (Below w3.heap.size w3 wr)) (fun _ vi _ => n - (intOf vi).toNat)
 case atStart => exact ⟨0,Nat.zero_le _,rfl,World.ownsRow_nil _ _ _ _,Below.refl _ _⟩
 case round =>
  obtain ⟨i,hin,rfl,HOW,HB⟩:=hrel
  by_cases hlt:i < n
  ·obtain ⟨a,hja⟩:∃ a,l[i]?=some a:=⟨l[i]'(by rw [← HNN.out];exact hlt),by simp [← HNN.out,hlt]⟩
   obtain ⟨h0,h1,h2,h3⟩:=HA.out i _ hja
   have ht0:=HTC.out i _ hja
   have HCC:=HCL i a hja
   have HNE:=hid (HNX.out i a hja)
   have q0:=(HB.out.cell (p:=⟨ga,i * 4,none⟩) (Nat.lt_of_lt_of_le hga HB3.out.size)).trans ((HB3.out.cell (p:=⟨ga,i * 4,none⟩) hga).trans h0)
   have q1:=(HB.out.cell (p:=⟨ga,i * 4 + 1,none⟩) (Nat.lt_of_lt_of_le hga HB3.out.size)).trans ((HB3.out.cell (p:=⟨ga,i * 4 + 1,none⟩) hga).trans h1)
   have q2:=(HB.out.cell (p:=⟨ga,i * 4 + 2,none⟩) (Nat.lt_of_lt_of_le hga HB3.out.size)).trans ((HB3.out.cell (p:=⟨ga,i * 4 + 2,none⟩) hga).trans h2)
   have q3:=(HB.out.cell (p:=⟨ga,i * 4 + 3,none⟩) (Nat.lt_of_lt_of_le hga HB3.out.size)).trans ((HB3.out.cell (p:=⟨ga,i * 4 + 3,none⟩) hga).trans h3)
   have qt:=(HB.out.cell (p:=⟨g2,i,none⟩) hg2).trans ht0
   obtain ⟨t1,lo1,hi1,nl1⟩:=a
   simp only [] at q0 q1 q2 q3 qt HCC HNE
   have ett:(t1 != t1)=false:=by simp
   generalize cutT t1 lo1=y at *
   clear h0 h1 h2 h3 ht0 hja
   go_wp2
   go_region
   go_wp2_with (first
    | (go_at_call 90;(with_reducible refine (HCC _).out.mono ?_);rintro e w5 ⟨rfl,hb5⟩;have HB5:=hid (Below.trans (by first | exact HB.out | exact HB.out.drew) (hb5.mono (by first | exact HB.out.size | exact HB.out.drew.size)));have HOW5:=hid (own_below (by first | exact HOW.out | exact HOW.out.drew) hb5 (Nat.le_refl _));clear hb5)
    | (at_builtin;refine append_val rfl _ _ rfl w3.heap.size _ _ _ t1 (y:Nat) 0 false HOW5.out HB5.out.size (by omega) rfl rfl ?_;intro v' w6 hown' hnx6 hsz6))
   go_roundw
   case rel => exact ⟨i + 1,hlt,by go_num,by rw [HNE.out];exact hown',HB5.out.trans hnx6⟩
   case measure => simp [intOf];omega
  ·obtain rfl:i=n:=by omega
   have hXr:=HXR.out.call HB.out
   have HRr:=hid (HR3.out.call HB.out)
   have HBr:=hid (HB3.out.trans (HB.out.mono HB3.out.size))
   have hg2r:g2 < wr.heap.size:=Nat.lt_of_lt_of_le hg2 HB.out.size
   have HTCr:Hid (∀ j a,l[j]?=some a→wr.cell? ⟨g2,j,none⟩=some (.int .i64 a.1)):=fun j a hj => (HB.out.cell (p:=⟨g2,j,none⟩) hg2).trans (HTC.out j a hj)
   have hg8:g8 < wr.heap.size:=hXr.lt
   obtain ⟨b,hb⟩:∃ b:Nat,b=opn l 1:=⟨_,rfl⟩
   obtain ⟨a0,ha0⟩:∃ b:Nat,b=opn l 0:=⟨_,rfl⟩
   obtain ⟨tt,htt⟩:∃ b:Int,b=t0 l:=⟨_,rfl⟩
   rw [← hb,← ha0,← htt] at HRR
   rw [← htt] at HBT
   have HAL:Hid (∃ gl cl,u11=.slice (some ⟨gl,0,none⟩) i cl∧gl < wr.heap.size∧wr.cell? ⟨gl,1,none⟩=some (.int .u64 (a0:Nat))∧(i=2→wr.cell? ⟨gl,5,none⟩=some (.int .u64 (b:Nat)))∧(i=1→b=0)):=by
    have ho:=HOW.out
    rcases (show i=1 ∨ i=2 by omega) with rfl | rfl
    ·obtain ⟨a,rfl⟩:=List.length_eq_one_iff.1 HNN.out.symm
     obtain ⟨gl,cl,e,hlt,_,hat⟩:=AR.of1 (a:=clA a) (by simpa using ho)
     exact ⟨gl,cl,e,hlt,by have:=(hat 0 (clA a) rfl).2.1;rw [ha0];simpa [clA,opn] using this,fun h => by omega,fun _ => by rw [hb];rfl⟩
    ·obtain ⟨a,a',rfl⟩:=len_two HNN.out.symm
     obtain ⟨gl,cl,e,hlt,_,hat⟩:=AR.of2 (a:=clA a) (b:=clA a') (by simpa using ho)
     exact ⟨gl,cl,e,hlt,by have:=(hat 0 (clA a) rfl).2.1;rw [ha0];simpa [clA,opn] using this,fun _ => by have:=(hat 1 (clA a') rfl).2.1;rw [hb];simpa [clA,opn] using this,fun h => by omega⟩
   have hT0:wr.cell? ⟨g2,0,none⟩=some (.int .i64 tt):=by
    have:=HNN.out
    cases l with
    | nil => simp at this;omega
    | cons a l => rw [HTCr.out 0 a rfl,htt];rfl
   obtain ⟨gl,cl,rfl,hgl,q1,q5,qb⟩:=HAL.out
   have c0:=hXr.at (k:=0) (v:=.int .i64 ro) rfl
   have c1:=hXr.at (k:=1) (v:=.string sn) rfl
   have c2':=hXr.at (k:=2) (v:=.int .i64 im) rfl
   have c3:=hXr.at (k:=3) (v:=.string stk) rfl
   have c4:=hXr.at (k:=4) (v:=.string slv) rfl
   have c5:=hXr.at (k:=5) (v:=.bool fx) rfl
   have Q1:=hid q1
   have C1:=hid c1
   have C4:=hid c4
   have TT0:=hid hT0
   have hi12:(i=1∧((i:Int) == 2)=false∧b=0) ∨ (i=2∧((i:Int) == 2)=true∧wr.cell? ⟨gl,5,none⟩=some (.int .u64 (b:Nat))):=by
    rcases (show i=1 ∨ i=2 by omega) with rfl | rfl
    ·exact .inl ⟨rfl,rfl,qb rfl⟩
    ·exact .inr ⟨rfl,rfl,q5 rfl⟩
   clear HOW HB HA HCL HNX HNN HTC HTCr HAL hXr q5 qb hb ha0 htt hin hlt
   have HI12:=hid hi12
   clear hi12
   rcases HI12.out with ⟨rfl,dI,rfl⟩ | ⟨rfl,dI,q5⟩
   ·have HRR1:∀ W:World,Hid (Calls Tryz.prog 91 #[.string k1,.int .i64 (bitsT tt:Nat),.int .i64 t,.string k4,.int .u64 (a0:Nat),.int .u64 0] W fun e w' => e=.returned (.tuple #[.int .u64 x,.int .i64 e2])∧Below W.heap.size W w'):=HRR
    clear HRR
    have HRR:=HRR1
    clear HRR1
    go_upto_region 18 with fail
    skip
    have hS:Below wr.heap.size wr wr.drew:=(Below.refl _ _).drew
    clear q1 c0 c1 c2' c3 c4 c5 hT0
    refine wp_region_held_drew (S:=fun W => Below wr.heap.size wr W) (by kernel_rfl) hS (fun _ => ?_)
    generalize wr.drew=W at *
    refine zt 0 (.pointer (some ⟨g8,1,none⟩)) rfl ?_ ?_
    ·(intro W hSw;have x1:=(hSw.cell (p:=⟨g8,1,none⟩) hg8).trans C1.out;have x4:=(hSw.cell (p:=⟨g8,4,none⟩) hg8).trans C4.out;have y1:=(hSw.cell (p:=⟨gl,1,none⟩) hgl).trans Q1.out;have z0:=(hSw.cell (p:=⟨g2,0,none⟩) hg2r).trans TT0.out;go_simp;try (with_reducible rfl))
    try simp only [Act.put,sl2,sl0,sl1]
    refine zt 1 (.string sn) rfl ?_ ?_
    ·(intro W hSw;have x1:=(hSw.cell (p:=⟨g8,1,none⟩) hg8).trans C1.out;have x4:=(hSw.cell (p:=⟨g8,4,none⟩) hg8).trans C4.out;have y1:=(hSw.cell (p:=⟨gl,1,none⟩) hgl).trans Q1.out;have z0:=(hSw.cell (p:=⟨g2,0,none⟩) hg2r).trans TT0.out;go_simp;try (with_reducible rfl))
    try simp only [Act.put,sl2,sl0,sl1]
    refine zt 2 (.string k1) rfl ?_ ?_
    ·(intro W hSw;have x1:=(hSw.cell (p:=⟨g8,1,none⟩) hg8).trans C1.out;have x4:=(hSw.cell (p:=⟨g8,4,none⟩) hg8).trans C4.out;have y1:=(hSw.cell (p:=⟨gl,1,none⟩) hgl).trans Q1.out;have z0:=(hSw.cell (p:=⟨g2,0,none⟩) hg2r).trans TT0.out;go_simp;try (with_reducible rfl))
    try simp only [Act.put,sl2,sl0,sl1]
    refine zt 3 (.slice (some ⟨g2,0,none⟩) 1 c2) rfl ?_ ?_
    ·(intro W hSw;have x1:=(hSw.cell (p:=⟨g8,1,none⟩) hg8).trans C1.out;have x4:=(hSw.cell (p:=⟨g8,4,none⟩) hg8).trans C4.out;have y1:=(hSw.cell (p:=⟨gl,1,none⟩) hgl).trans Q1.out;have z0:=(hSw.cell (p:=⟨g2,0,none⟩) hg2r).trans TT0.out;go_simp;try (with_reducible rfl))
    try simp only [Act.put,sl2,sl0,sl1]
    refine zt 4 (.pointer (some ⟨g2,0,none⟩)) rfl ?_ ?_
    ·(intro W hSw;have x1:=(hSw.cell (p:=⟨g8,1,none⟩) hg8).trans C1.out;have x4:=(hSw.cell (p:=⟨g8,4,none⟩) hg8).trans C4.out;have y1:=(hSw.cell (p:=⟨gl,1,none⟩) hgl).trans Q1.out;have z0:=(hSw.cell (p:=⟨g2,0,none⟩) hg2r).trans TT0.out;go_simp;try (with_reducible rfl))
    try simp only [Act.put,sl2,sl0,sl1]
    refine zt 5 (.int .i64 tt) rfl ?_ ?_
    ·(intro W hSw;have x1:=(hSw.cell (p:=⟨g8,1,none⟩) hg8).trans C1.out;have x4:=(hSw.cell (p:=⟨g8,4,none⟩) hg8).trans C4.out;have y1:=(hSw.cell (p:=⟨gl,1,none⟩) hgl).trans Q1.out;have z0:=(hSw.cell (p:=⟨g2,0,none⟩) hg2r).trans TT0.out;go_simp;try (with_reducible rfl))
    try simp only [Act.put,sl2,sl0,sl1]
    refine zt 7 (.pointer (some ⟨g8,4,none⟩)) rfl ?_ ?_
    ·(intro W hSw;have x1:=(hSw.cell (p:=⟨g8,1,none⟩) hg8).trans C1.out;have x4:=(hSw.cell (p:=⟨g8,4,none⟩) hg8).trans C4.out;have y1:=(hSw.cell (p:=⟨gl,1,none⟩) hgl).trans Q1.out;have z0:=(hSw.cell (p:=⟨g2,0,none⟩) hg2r).trans TT0.out;go_simp;try (with_reducible rfl))
    try simp only [Act.put,sl2,sl0,sl1]
    refine zt 8 (.string slv) rfl ?_ ?_
    ·(intro W hSw;have x1:=(hSw.cell (p:=⟨g8,1,none⟩) hg8).trans C1.out;have x4:=(hSw.cell (p:=⟨g8,4,none⟩) hg8).trans C4.out;have y1:=(hSw.cell (p:=⟨gl,1,none⟩) hgl).trans Q1.out;have z0:=(hSw.cell (p:=⟨g2,0,none⟩) hg2r).trans TT0.out;go_simp;try (with_reducible rfl))
    try simp only [Act.put,sl2,sl0,sl1]
    refine zt 12 (.pointer (some ⟨g8,1,none⟩)) rfl ?_ ?_
    ·(intro W hSw;have x1:=(hSw.cell (p:=⟨g8,1,none⟩) hg8).trans C1.out;have x4:=(hSw.cell (p:=⟨g8,4,none⟩) hg8).trans C4.out;have y1:=(hSw.cell (p:=⟨gl,1,none⟩) hgl).trans Q1.out;have z0:=(hSw.cell (p:=⟨g2,0,none⟩) hg2r).trans TT0.out;go_simp;try (with_reducible rfl))
    try simp only [Act.put,sl2,sl0,sl1]
    refine zt 13 (.string sn) rfl ?_ ?_
    ·(intro W hSw;have x1:=(hSw.cell (p:=⟨g8,1,none⟩) hg8).trans C1.out;have x4:=(hSw.cell (p:=⟨g8,4,none⟩) hg8).trans C4.out;have y1:=(hSw.cell (p:=⟨gl,1,none⟩) hgl).trans Q1.out;have z0:=(hSw.cell (p:=⟨g2,0,none⟩) hg2r).trans TT0.out;go_simp;try (with_reducible rfl))
    try simp only [Act.put,sl2,sl0,sl1]
    refine zt 14 (.string k4) rfl ?_ ?_
    ·(intro W hSw;have x1:=(hSw.cell (p:=⟨g8,1,none⟩) hg8).trans C1.out;have x4:=(hSw.cell (p:=⟨g8,4,none⟩) hg8).trans C4.out;have y1:=(hSw.cell (p:=⟨gl,1,none⟩) hgl).trans Q1.out;have z0:=(hSw.cell (p:=⟨g2,0,none⟩) hg2r).trans TT0.out;go_simp;try (with_reducible rfl))
    try simp only [Act.put,sl2,sl0,sl1]
    refine zt 15 (.slice (some ⟨gl,0,none⟩) 1 cl) rfl ?_ ?_
    ·(intro W hSw;have x1:=(hSw.cell (p:=⟨g8,1,none⟩) hg8).trans C1.out;have x4:=(hSw.cell (p:=⟨g8,4,none⟩) hg8).trans C4.out;have y1:=(hSw.cell (p:=⟨gl,1,none⟩) hgl).trans Q1.out;have z0:=(hSw.cell (p:=⟨g2,0,none⟩) hg2r).trans TT0.out;go_simp;try (with_reducible rfl))
    try simp only [Act.put,sl2,sl0,sl1]
    refine zt 16 (.pointer (some ⟨gl,0,none⟩)) rfl ?_ ?_
    ·(intro W hSw;have x1:=(hSw.cell (p:=⟨g8,1,none⟩) hg8).trans C1.out;have x4:=(hSw.cell (p:=⟨g8,4,none⟩) hg8).trans C4.out;have y1:=(hSw.cell (p:=⟨gl,1,none⟩) hgl).trans Q1.out;have z0:=(hSw.cell (p:=⟨g2,0,none⟩) hg2r).trans TT0.out;go_simp;try (with_reducible rfl))
    try simp only [Act.put,sl2,sl0,sl1]
    refine zt 17 (.pointer (some ⟨gl,1,none⟩)) rfl ?_ ?_
    ·(intro W hSw;have x1:=(hSw.cell (p:=⟨g8,1,none⟩) hg8).trans C1.out;have x4:=(hSw.cell (p:=⟨g8,4,none⟩) hg8).trans C4.out;have y1:=(hSw.cell (p:=⟨gl,1,none⟩) hgl).trans Q1.out;have z0:=(hSw.cell (p:=⟨g2,0,none⟩) hg2r).trans TT0.out;go_simp;try (with_reducible rfl))
    try simp only [Act.put,sl2,sl0,sl1]
    refine zt 18 (.int .u64 (a0:Nat)) rfl ?_ ?_
    ·(intro W hSw;have x1:=(hSw.cell (p:=⟨g8,1,none⟩) hg8).trans C1.out;have x4:=(hSw.cell (p:=⟨g8,4,none⟩) hg8).trans C4.out;have y1:=(hSw.cell (p:=⟨gl,1,none⟩) hgl).trans Q1.out;have z0:=(hSw.cell (p:=⟨g2,0,none⟩) hg2r).trans TT0.out;go_simp;try (with_reducible rfl))
    try simp only [Act.put,sl2,sl0,sl1]
    refine zt 19 (.int .u64 0) rfl ?_ ?_
    ·(intro W hSw;have x1:=(hSw.cell (p:=⟨g8,1,none⟩) hg8).trans C1.out;have x4:=(hSw.cell (p:=⟨g8,4,none⟩) hg8).trans C4.out;have y1:=(hSw.cell (p:=⟨gl,1,none⟩) hgl).trans Q1.out;have z0:=(hSw.cell (p:=⟨g2,0,none⟩) hg2r).trans TT0.out;go_simp;try (with_reducible rfl))
    try simp only [Act.put,sl2,sl0,sl1]
    refine zr 6 rfl (fun K hK => ?_)
    go_simp
    go_at_call 92
    (with_reducible refine (HBT _).out.mono ?_)
    rintro e W1 ⟨rfl,rfl⟩
    refine hK.out _ _ hS (fun _ => ?_)
    clear hK K
    try simp only [Act.put,sl2,sl0,sl1]
    refine zr 9 rfl (fun K hK => ?_)
    go_simp
    go_at_call 25
    (with_reducible refine (HT2 _).out.mono ?_)
    rintro e W2 ⟨v3,rfl,ho3,hb3⟩
    have HS2:=hid (hS.trans (hb3.mono hS.size))
    obtain ⟨g3,c3,rfl⟩:∃ g cap,v3=.slice (some ⟨g,0,none⟩) 1 cap:=owned_at ho3 (Nat.le_refl _)
    have K3:=hid (show W2.cell? ⟨g3,0,none⟩=some (.int .i64 t) from ho3.cellAt 0 (by decide))
    clear ho3 hb3 hS
    have hS:=HS2.out
    clear HS2
    refine hK.out _ _ hS (fun _ => ?_)
    clear hK K
    try simp only [Act.put,sl2,sl0,sl1]
    refine zt 10 (.pointer (some ⟨g3,0,none⟩)) rfl ?_ ?_
    ·(intro W hSw;have x1:=(hSw.cell (p:=⟨g8,1,none⟩) hg8).trans C1.out;have x4:=(hSw.cell (p:=⟨g8,4,none⟩) hg8).trans C4.out;have y1:=(hSw.cell (p:=⟨gl,1,none⟩) hgl).trans Q1.out;have z0:=(hSw.cell (p:=⟨g2,0,none⟩) hg2r).trans TT0.out;go_simp;try (with_reducible rfl))
    try simp only [Act.put,sl2,sl0,sl1]
    refine zr 11 rfl (fun K hK => ?_)
    have z9:=K3.out
    go_simp
    clear z9
    refine hK.out _ _ hS (fun _ => ?_)
    clear hK K
    try simp only [Act.put,sl2,sl0,sl1]
    refine zr 20 rfl (fun K hK => ?_)
    go_simp
    go_at_call 91
    (with_reducible refine (HRR _).out.mono ?_)
    rintro e W3 ⟨rfl,hb⟩
    have HS3:=hid (hS.trans (hb.mono hS.size))
    clear hb hS
    have hS:=HS3.out
    clear HS3
    refine hK.out _ _ hS (fun _ => ?_)
    clear hK K
    try simp only [Act.put,sl2,sl0,sl1]
    refine zt 21 (.tuple #[.int .u64 x,.int .i64 e2]) rfl ?_ ?_
    ·(intro W hSw;have x1:=(hSw.cell (p:=⟨g8,1,none⟩) hg8).trans C1.out;have x4:=(hSw.cell (p:=⟨g8,4,none⟩) hg8).trans C4.out;have y1:=(hSw.cell (p:=⟨gl,1,none⟩) hgl).trans Q1.out;have z0:=(hSw.cell (p:=⟨g2,0,none⟩) hg2r).trans TT0.out;go_simp;try (with_reducible rfl))
    try simp only [Act.put,sl2,sl0,sl1]
    refine zt 22 (.int .u64 (x:Nat)) rfl ?_ ?_
    ·(intro W hSw;have x1:=(hSw.cell (p:=⟨g8,1,none⟩) hg8).trans C1.out;have x4:=(hSw.cell (p:=⟨g8,4,none⟩) hg8).trans C4.out;have y1:=(hSw.cell (p:=⟨gl,1,none⟩) hgl).trans Q1.out;have z0:=(hSw.cell (p:=⟨g2,0,none⟩) hg2r).trans TT0.out;go_simp;try (with_reducible rfl))
    try simp only [Act.put,sl2,sl0,sl1]
    refine zt 24 (.int .u64 (x:Nat)) rfl ?_ ?_
    ·(intro W hSw;have x1:=(hSw.cell (p:=⟨g8,1,none⟩) hg8).trans C1.out;have x4:=(hSw.cell (p:=⟨g8,4,none⟩) hg8).trans C4.out;have y1:=(hSw.cell (p:=⟨gl,1,none⟩) hgl).trans Q1.out;have z0:=(hSw.cell (p:=⟨g2,0,none⟩) hg2r).trans TT0.out;go_simp;try (with_reducible rfl))
    try simp only [Act.put,sl2,sl0,sl1]
    refine zt 23 (.int .i64 (e2:Nat)) rfl ?_ ?_
    ·(intro W hSw;have x1:=(hSw.cell (p:=⟨g8,1,none⟩) hg8).trans C1.out;have x4:=(hSw.cell (p:=⟨g8,4,none⟩) hg8).trans C4.out;have y1:=(hSw.cell (p:=⟨gl,1,none⟩) hgl).trans Q1.out;have z0:=(hSw.cell (p:=⟨g2,0,none⟩) hg2r).trans TT0.out;go_simp;try (with_reducible rfl))
    try simp only [Act.put,sl2,sl0,sl1]
    refine zt 25 (.int .i64 (e2:Nat)) rfl ?_ ?_
    ·(intro W hSw;have x1:=(hSw.cell (p:=⟨g8,1,none⟩) hg8).trans C1.out;have x4:=(hSw.cell (p:=⟨g8,4,none⟩) hg8).trans C4.out;have y1:=(hSw.cell (p:=⟨gl,1,none⟩) hgl).trans Q1.out;have z0:=(hSw.cell (p:=⟨g2,0,none⟩) hg2r).trans TT0.out;go_simp;try (with_reducible rfl))
    try simp only [Act.put,sl2,sl0,sl1]
    refine wpAnyH_done (by kernel_rfl) ?_ _
    have HRF:=hid (HRr.out.call hS)
    have HBF:=hid (HBr.out.trans (hS.mono HBr.out.size))
    have c4:=(hS.cell (p:=⟨g8,4,none⟩) hg8).trans C4.out
    by_cases hez:e2=0
    ·subst hez
     have dz:(((0:Nat):Int) != 0)=false:=rfl
     go_wp2_with (first
      | (go_at_call 25;(with_reducible refine (HT2 _).out.mono ?_);rintro e W5 ⟨v5,rfl,ho5,hb5⟩;have HR5:=hid (HRF.out.call hb5);have HB5:=hid (HBF.out.trans (hb5.mono HBF.out.size));obtain ⟨g5,c5,rfl⟩:∃ g cap,v5=.slice (some ⟨g,0,none⟩) 1 cap:=owned_at ho5 (Nat.le_refl _);have k5:W5.cell? ⟨g5,0,none⟩=some (.int .i64 t):=ho5.cellAt 0 (by decide);clear ho5 hb5 c4)
      | (go_at_call 90;(with_reducible refine (HCX _).out.mono ?_);rintro e W6 ⟨rfl,hb6⟩;have HR6:=hid (HR5.out.call hb6);have HB6:=hid (HB5.out.trans (hb6.mono HB5.out.size));clear hb6 k5;have r0:=HR6.out.at (k:=0) (v:=.int .i64 0) rfl;have r1:=HR6.out.at (k:=1) (v:=.int .u64 0) rfl;have r2:=HR6.out.at (k:=2) (v:=.int .u64 0) rfl;have r3:=HR6.out.at (k:=3) (v:=.bool false) rfl;have f0:=HR6.out.free 0;have f1:=HR6.out.free 1;have f2:=HR6.out.free 2;have f3:=HR6.out.free 3))
     have hB7:=(((HB6.out.setCell (p:=⟨w.heap.size,0,none⟩) (Nat.le_refl _) (.int .i64 t)).setCell (p:=⟨w.heap.size,1,none⟩) (Nat.le_refl _) (.int .u64 (CT:Nat))).setCell (p:=⟨w.heap.size,2,none⟩) (Nat.le_refl _) (.int .u64 0)).setCell (p:=⟨w.heap.size,3,none⟩) (Nat.le_refl _) (.bool false)
     exact bodyPost_ret (v:=.tuple #[.agg #[.int .i64 t,.int .u64 (CT:Nat),.int .u64 0,.bool false],.int .i64 0]) (by simp [results,Tryz.results51,go_sem,r0,r1,r2,r3]) rfl ⟨by rw [HD0.out];rfl,hB7⟩
    ·have dz:((e2:Int) != 0)=true:=by simp;omega
     have r0:=HRF.out.at (k:=0) (v:=.int .i64 0) rfl
     have r1:=HRF.out.at (k:=1) (v:=.int .u64 0) rfl
     have r2:=HRF.out.at (k:=2) (v:=.int .u64 0) rfl
     have r3:=HRF.out.at (k:=3) (v:=.bool false) rfl
     have f0:=HRF.out.free 0
     have f1:=HRF.out.free 1
     have f2:=HRF.out.free 2
     have f3:=HRF.out.free 3
     clear c4
     go_wp2_with fail
     have hB6:=(((HBF.out.setCell (p:=⟨w.heap.size,0,none⟩) (Nat.le_refl _) (.int .i64 0)).setCell (p:=⟨w.heap.size,1,none⟩) (Nat.le_refl _) (.int .u64 0)).setCell (p:=⟨w.heap.size,2,none⟩) (Nat.le_refl _) (.int .u64 0)).setCell (p:=⟨w.heap.size,3,none⟩) (Nat.le_refl _) (.bool false)
     exact bodyPost_ret (v:=.tuple #[.agg #[.int .i64 0,.int .u64 0,.int .u64 0,.bool false],.int .i64 e2]) (by simp [results,Tryz.results51,go_sem,r0,r1,r2,r3]) rfl ⟨by rw [HDE.out hez];rfl,hB6⟩
   ·go_upto_region 18 with fail
    clear q5
    have hS:Below wr.heap.size wr wr.drew:=(Below.refl _ _).drew
    clear q1 c0 c1 c2' c3 c4 c5 hT0
    refine wp_region_held_drew (S:=fun W => Below wr.heap.size wr W) (by kernel_rfl) hS (fun _ => ?_)
    generalize wr.drew=W at *
    refine zt 0 (.pointer (some ⟨g8,1,none⟩)) rfl ?_ ?_
    ·(intro W hSw;have x1:=(hSw.cell (p:=⟨g8,1,none⟩) hg8).trans C1.out;have x4:=(hSw.cell (p:=⟨g8,4,none⟩) hg8).trans C4.out;have y1:=(hSw.cell (p:=⟨gl,1,none⟩) hgl).trans Q1.out;have z0:=(hSw.cell (p:=⟨g2,0,none⟩) hg2r).trans TT0.out;go_simp;try (with_reducible rfl))
    try simp only [Act.put,sl2,sl0,sl1]
    refine zt 1 (.string sn) rfl ?_ ?_
    ·(intro W hSw;have x1:=(hSw.cell (p:=⟨g8,1,none⟩) hg8).trans C1.out;have x4:=(hSw.cell (p:=⟨g8,4,none⟩) hg8).trans C4.out;have y1:=(hSw.cell (p:=⟨gl,1,none⟩) hgl).trans Q1.out;have z0:=(hSw.cell (p:=⟨g2,0,none⟩) hg2r).trans TT0.out;go_simp;try (with_reducible rfl))
    try simp only [Act.put,sl2,sl0,sl1]
    refine zt 2 (.string k1) rfl ?_ ?_
    ·(intro W hSw;have x1:=(hSw.cell (p:=⟨g8,1,none⟩) hg8).trans C1.out;have x4:=(hSw.cell (p:=⟨g8,4,none⟩) hg8).trans C4.out;have y1:=(hSw.cell (p:=⟨gl,1,none⟩) hgl).trans Q1.out;have z0:=(hSw.cell (p:=⟨g2,0,none⟩) hg2r).trans TT0.out;go_simp;try (with_reducible rfl))
    try simp only [Act.put,sl2,sl0,sl1]
    refine zt 3 (.slice (some ⟨g2,0,none⟩) 2 c2) rfl ?_ ?_
    ·(intro W hSw;have x1:=(hSw.cell (p:=⟨g8,1,none⟩) hg8).trans C1.out;have x4:=(hSw.cell (p:=⟨g8,4,none⟩) hg8).trans C4.out;have y1:=(hSw.cell (p:=⟨gl,1,none⟩) hgl).trans Q1.out;have z0:=(hSw.cell (p:=⟨g2,0,none⟩) hg2r).trans TT0.out;go_simp;try (with_reducible rfl))
    try simp only [Act.put,sl2,sl0,sl1]
    refine zt 4 (.pointer (some ⟨g2,0,none⟩)) rfl ?_ ?_
    ·(intro W hSw;have x1:=(hSw.cell (p:=⟨g8,1,none⟩) hg8).trans C1.out;have x4:=(hSw.cell (p:=⟨g8,4,none⟩) hg8).trans C4.out;have y1:=(hSw.cell (p:=⟨gl,1,none⟩) hgl).trans Q1.out;have z0:=(hSw.cell (p:=⟨g2,0,none⟩) hg2r).trans TT0.out;go_simp;try (with_reducible rfl))
    try simp only [Act.put,sl2,sl0,sl1]
    refine zt 5 (.int .i64 tt) rfl ?_ ?_
    ·(intro W hSw;have x1:=(hSw.cell (p:=⟨g8,1,none⟩) hg8).trans C1.out;have x4:=(hSw.cell (p:=⟨g8,4,none⟩) hg8).trans C4.out;have y1:=(hSw.cell (p:=⟨gl,1,none⟩) hgl).trans Q1.out;have z0:=(hSw.cell (p:=⟨g2,0,none⟩) hg2r).trans TT0.out;go_simp;try (with_reducible rfl))
    try simp only [Act.put,sl2,sl0,sl1]
    refine zt 7 (.pointer (some ⟨g8,4,none⟩)) rfl ?_ ?_
    ·(intro W hSw;have x1:=(hSw.cell (p:=⟨g8,1,none⟩) hg8).trans C1.out;have x4:=(hSw.cell (p:=⟨g8,4,none⟩) hg8).trans C4.out;have y1:=(hSw.cell (p:=⟨gl,1,none⟩) hgl).trans Q1.out;have z0:=(hSw.cell (p:=⟨g2,0,none⟩) hg2r).trans TT0.out;go_simp;try (with_reducible rfl))
    try simp only [Act.put,sl2,sl0,sl1]
    refine zt 8 (.string slv) rfl ?_ ?_
    ·(intro W hSw;have x1:=(hSw.cell (p:=⟨g8,1,none⟩) hg8).trans C1.out;have x4:=(hSw.cell (p:=⟨g8,4,none⟩) hg8).trans C4.out;have y1:=(hSw.cell (p:=⟨gl,1,none⟩) hgl).trans Q1.out;have z0:=(hSw.cell (p:=⟨g2,0,none⟩) hg2r).trans TT0.out;go_simp;try (with_reducible rfl))
    try simp only [Act.put,sl2,sl0,sl1]
    refine zt 12 (.pointer (some ⟨g8,1,none⟩)) rfl ?_ ?_
    ·(intro W hSw;have x1:=(hSw.cell (p:=⟨g8,1,none⟩) hg8).trans C1.out;have x4:=(hSw.cell (p:=⟨g8,4,none⟩) hg8).trans C4.out;have y1:=(hSw.cell (p:=⟨gl,1,none⟩) hgl).trans Q1.out;have z0:=(hSw.cell (p:=⟨g2,0,none⟩) hg2r).trans TT0.out;go_simp;try (with_reducible rfl))
    try simp only [Act.put,sl2,sl0,sl1]
    refine zt 13 (.string sn) rfl ?_ ?_
    ·(intro W hSw;have x1:=(hSw.cell (p:=⟨g8,1,none⟩) hg8).trans C1.out;have x4:=(hSw.cell (p:=⟨g8,4,none⟩) hg8).trans C4.out;have y1:=(hSw.cell (p:=⟨gl,1,none⟩) hgl).trans Q1.out;have z0:=(hSw.cell (p:=⟨g2,0,none⟩) hg2r).trans TT0.out;go_simp;try (with_reducible rfl))
    try simp only [Act.put,sl2,sl0,sl1]
    refine zt 14 (.string k4) rfl ?_ ?_
    ·(intro W hSw;have x1:=(hSw.cell (p:=⟨g8,1,none⟩) hg8).trans C1.out;have x4:=(hSw.cell (p:=⟨g8,4,none⟩) hg8).trans C4.out;have y1:=(hSw.cell (p:=⟨gl,1,none⟩) hgl).trans Q1.out;have z0:=(hSw.cell (p:=⟨g2,0,none⟩) hg2r).trans TT0.out;go_simp;try (with_reducible rfl))
    try simp only [Act.put,sl2,sl0,sl1]
    refine zt 15 (.slice (some ⟨gl,0,none⟩) 2 cl) rfl ?_ ?_
    ·(intro W hSw;have x1:=(hSw.cell (p:=⟨g8,1,none⟩) hg8).trans C1.out;have x4:=(hSw.cell (p:=⟨g8,4,none⟩) hg8).trans C4.out;have y1:=(hSw.cell (p:=⟨gl,1,none⟩) hgl).trans Q1.out;have z0:=(hSw.cell (p:=⟨g2,0,none⟩) hg2r).trans TT0.out;go_simp;try (with_reducible rfl))
    try simp only [Act.put,sl2,sl0,sl1]
    refine zt 16 (.pointer (some ⟨gl,0,none⟩)) rfl ?_ ?_
    ·(intro W hSw;have x1:=(hSw.cell (p:=⟨g8,1,none⟩) hg8).trans C1.out;have x4:=(hSw.cell (p:=⟨g8,4,none⟩) hg8).trans C4.out;have y1:=(hSw.cell (p:=⟨gl,1,none⟩) hgl).trans Q1.out;have z0:=(hSw.cell (p:=⟨g2,0,none⟩) hg2r).trans TT0.out;go_simp;try (with_reducible rfl))
    try simp only [Act.put,sl2,sl0,sl1]
    refine zt 17 (.pointer (some ⟨gl,1,none⟩)) rfl ?_ ?_
    ·(intro W hSw;have x1:=(hSw.cell (p:=⟨g8,1,none⟩) hg8).trans C1.out;have x4:=(hSw.cell (p:=⟨g8,4,none⟩) hg8).trans C4.out;have y1:=(hSw.cell (p:=⟨gl,1,none⟩) hgl).trans Q1.out;have z0:=(hSw.cell (p:=⟨g2,0,none⟩) hg2r).trans TT0.out;go_simp;try (with_reducible rfl))
    try simp only [Act.put,sl2,sl0,sl1]
    refine zt 18 (.int .u64 (a0:Nat)) rfl ?_ ?_
    ·(intro W hSw;have x1:=(hSw.cell (p:=⟨g8,1,none⟩) hg8).trans C1.out;have x4:=(hSw.cell (p:=⟨g8,4,none⟩) hg8).trans C4.out;have y1:=(hSw.cell (p:=⟨gl,1,none⟩) hgl).trans Q1.out;have z0:=(hSw.cell (p:=⟨g2,0,none⟩) hg2r).trans TT0.out;go_simp;try (with_reducible rfl))
    try simp only [Act.put,sl2,sl0,sl1]
    refine zt 19 (.int .u64 (b:Nat)) rfl ?_ ?_
    ·(intro W hSw;have x1:=(hSw.cell (p:=⟨g8,1,none⟩) hg8).trans C1.out;have x4:=(hSw.cell (p:=⟨g8,4,none⟩) hg8).trans C4.out;have y1:=(hSw.cell (p:=⟨gl,1,none⟩) hgl).trans Q1.out;have z0:=(hSw.cell (p:=⟨g2,0,none⟩) hg2r).trans TT0.out;go_simp;try (with_reducible rfl))
    try simp only [Act.put,sl2,sl0,sl1]
    refine zr 6 rfl (fun K hK => ?_)
    go_simp
    go_at_call 92
    (with_reducible refine (HBT _).out.mono ?_)
    rintro e W1 ⟨rfl,rfl⟩
    refine hK.out _ _ hS (fun _ => ?_)
    clear hK K
    try simp only [Act.put,sl2,sl0,sl1]
    refine zr 9 rfl (fun K hK => ?_)
    go_simp
    go_at_call 25
    (with_reducible refine (HT2 _).out.mono ?_)
    rintro e W2 ⟨v3,rfl,ho3,hb3⟩
    have HS2:=hid (hS.trans (hb3.mono hS.size))
    obtain ⟨g3,c3,rfl⟩:∃ g cap,v3=.slice (some ⟨g,0,none⟩) 1 cap:=owned_at ho3 (Nat.le_refl _)
    have K3:=hid (show W2.cell? ⟨g3,0,none⟩=some (.int .i64 t) from ho3.cellAt 0 (by decide))
    clear ho3 hb3 hS
    have hS:=HS2.out
    clear HS2
    refine hK.out _ _ hS (fun _ => ?_)
    clear hK K
    try simp only [Act.put,sl2,sl0,sl1]
    refine zt 10 (.pointer (some ⟨g3,0,none⟩)) rfl ?_ ?_
    ·(intro W hSw;have x1:=(hSw.cell (p:=⟨g8,1,none⟩) hg8).trans C1.out;have x4:=(hSw.cell (p:=⟨g8,4,none⟩) hg8).trans C4.out;have y1:=(hSw.cell (p:=⟨gl,1,none⟩) hgl).trans Q1.out;have z0:=(hSw.cell (p:=⟨g2,0,none⟩) hg2r).trans TT0.out;go_simp;try (with_reducible rfl))
    try simp only [Act.put,sl2,sl0,sl1]
    refine zr 11 rfl (fun K hK => ?_)
    have z9:=K3.out
    go_simp
    clear z9
    refine hK.out _ _ hS (fun _ => ?_)
    clear hK K
    try simp only [Act.put,sl2,sl0,sl1]
    refine zr 20 rfl (fun K hK => ?_)
    go_simp
    go_at_call 91
    (with_reducible refine (HRR _).out.mono ?_)
    rintro e W3 ⟨rfl,hb⟩
    have HS3:=hid (hS.trans (hb.mono hS.size))
    clear hb hS
    have hS:=HS3.out
    clear HS3
    refine hK.out _ _ hS (fun _ => ?_)
    clear hK K
    try simp only [Act.put,sl2,sl0,sl1]
    refine zt 21 (.tuple #[.int .u64 x,.int .i64 e2]) rfl ?_ ?_
    ·(intro W hSw;have x1:=(hSw.cell (p:=⟨g8,1,none⟩) hg8).trans C1.out;have x4:=(hSw.cell (p:=⟨g8,4,none⟩) hg8).trans C4.out;have y1:=(hSw.cell (p:=⟨gl,1,none⟩) hgl).trans Q1.out;have z0:=(hSw.cell (p:=⟨g2,0,none⟩) hg2r).trans TT0.out;go_simp;try (with_reducible rfl))
    try simp only [Act.put,sl2,sl0,sl1]
    refine zt 22 (.int .u64 (x:Nat)) rfl ?_ ?_
    ·(intro W hSw;have x1:=(hSw.cell (p:=⟨g8,1,none⟩) hg8).trans C1.out;have x4:=(hSw.cell (p:=⟨g8,4,none⟩) hg8).trans C4.out;have y1:=(hSw.cell (p:=⟨gl,1,none⟩) hgl).trans Q1.out;have z0:=(hSw.cell (p:=⟨g2,0,none⟩) hg2r).trans TT0.out;go_simp;try (with_reducible rfl))
    try simp only [Act.put,sl2,sl0,sl1]
    refine zt 24 (.int .u64 (x:Nat)) rfl ?_ ?_
    ·(intro W hSw;have x1:=(hSw.cell (p:=⟨g8,1,none⟩) hg8).trans C1.out;have x4:=(hSw.cell (p:=⟨g8,4,none⟩) hg8).trans C4.out;have y1:=(hSw.cell (p:=⟨gl,1,none⟩) hgl).trans Q1.out;have z0:=(hSw.cell (p:=⟨g2,0,none⟩) hg2r).trans TT0.out;go_simp;try (with_reducible rfl))
    try simp only [Act.put,sl2,sl0,sl1]
    refine zt 23 (.int .i64 (e2:Nat)) rfl ?_ ?_
    ·(intro W hSw;have x1:=(hSw.cell (p:=⟨g8,1,none⟩) hg8).trans C1.out;have x4:=(hSw.cell (p:=⟨g8,4,none⟩) hg8).trans C4.out;have y1:=(hSw.cell (p:=⟨gl,1,none⟩) hgl).trans Q1.out;have z0:=(hSw.cell (p:=⟨g2,0,none⟩) hg2r).trans TT0.out;go_simp;try (with_reducible rfl))
    try simp only [Act.put,sl2,sl0,sl1]
    refine zt 25 (.int .i64 (e2:Nat)) rfl ?_ ?_
    ·(intro W hSw;have x1:=(hSw.cell (p:=⟨g8,1,none⟩) hg8).trans C1.out;have x4:=(hSw.cell (p:=⟨g8,4,none⟩) hg8).trans C4.out;have y1:=(hSw.cell (p:=⟨gl,1,none⟩) hgl).trans Q1.out;have z0:=(hSw.cell (p:=⟨g2,0,none⟩) hg2r).trans TT0.out;go_simp;try (with_reducible rfl))
    try simp only [Act.put,sl2,sl0,sl1]
    refine wpAnyH_done (by kernel_rfl) ?_ _
    have HRF:=hid (HRr.out.call hS)
    have HBF:=hid (HBr.out.trans (hS.mono HBr.out.size))
    have c4:=(hS.cell (p:=⟨g8,4,none⟩) hg8).trans C4.out
    by_cases hez:e2=0
    ·subst hez
     have dz:(((0:Nat):Int) != 0)=false:=rfl
     go_wp2_with (first
      | (go_at_call 25;(with_reducible refine (HT2 _).out.mono ?_);rintro e W5 ⟨v5,rfl,ho5,hb5⟩;have HR5:=hid (HRF.out.call hb5);have HB5:=hid (HBF.out.trans (hb5.mono HBF.out.size));obtain ⟨g5,c5,rfl⟩:∃ g cap,v5=.slice (some ⟨g,0,none⟩) 1 cap:=owned_at ho5 (Nat.le_refl _);have k5:W5.cell? ⟨g5,0,none⟩=some (.int .i64 t):=ho5.cellAt 0 (by decide);clear ho5 hb5 c4)
      | (go_at_call 90;(with_reducible refine (HCX _).out.mono ?_);rintro e W6 ⟨rfl,hb6⟩;have HR6:=hid (HR5.out.call hb6);have HB6:=hid (HB5.out.trans (hb6.mono HB5.out.size));clear hb6 k5;have r0:=HR6.out.at (k:=0) (v:=.int .i64 0) rfl;have r1:=HR6.out.at (k:=1) (v:=.int .u64 0) rfl;have r2:=HR6.out.at (k:=2) (v:=.int .u64 0) rfl;have r3:=HR6.out.at (k:=3) (v:=.bool false) rfl;have f0:=HR6.out.free 0;have f1:=HR6.out.free 1;have f2:=HR6.out.free 2;have f3:=HR6.out.free 3))
     have hB7:=(((HB6.out.setCell (p:=⟨w.heap.size,0,none⟩) (Nat.le_refl _) (.int .i64 t)).setCell (p:=⟨w.heap.size,1,none⟩) (Nat.le_refl _) (.int .u64 (CT:Nat))).setCell (p:=⟨w.heap.size,2,none⟩) (Nat.le_refl _) (.int .u64 0)).setCell (p:=⟨w.heap.size,3,none⟩) (Nat.le_refl _) (.bool false)
     exact bodyPost_ret (v:=.tuple #[.agg #[.int .i64 t,.int .u64 (CT:Nat),.int .u64 0,.bool false],.int .i64 0]) (by simp [results,Tryz.results51,go_sem,r0,r1,r2,r3]) rfl ⟨by rw [HD0.out];rfl,hB7⟩
    ·have dz:((e2:Int) != 0)=true:=by simp;omega
     have r0:=HRF.out.at (k:=0) (v:=.int .i64 0) rfl
     have r1:=HRF.out.at (k:=1) (v:=.int .u64 0) rfl
     have r2:=HRF.out.at (k:=2) (v:=.int .u64 0) rfl
     have r3:=HRF.out.at (k:=3) (v:=.bool false) rfl
     have f0:=HRF.out.free 0
     have f1:=HRF.out.free 1
     have f2:=HRF.out.free 2
     have f3:=HRF.out.free 3
     clear c4
     go_wp2_with fail
     have hB6:=(((HBF.out.setCell (p:=⟨w.heap.size,0,none⟩) (Nat.le_refl _) (.int .i64 0)).setCell (p:=⟨w.heap.size,1,none⟩) (Nat.le_refl _) (.int .u64 0)).setCell (p:=⟨w.heap.size,2,none⟩) (Nat.le_refl _) (.int .u64 0)).setCell (p:=⟨w.heap.size,3,none⟩) (Nat.le_refl _) (.bool false)
     exact bodyPost_ret (v:=.tuple #[.agg #[.int .i64 0,.int .u64 0,.int .u64 0,.bool false],.int .i64 e2]) (by simp [results,Tryz.results51,go_sem,r0,r1,r2,r3]) rfl ⟨by rw [HDE.out hez];rfl,hB6⟩
end Go.Proofs.YtlhakbkdlgejpaaGreatDoor.Sc
