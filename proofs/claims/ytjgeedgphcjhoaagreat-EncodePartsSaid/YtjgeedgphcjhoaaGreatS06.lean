/-
  EMath, OpenN, MDat, All, MayG1, MayG2: merged, what the law does not reach left out (each text says what it holds where it lies in wip). No condition.
-/
import Derived.Test.YtjgeedgphcjhoaaGreatS05
import Derived.Test.YtjgeedgphcjhoaaGreatS01
import Derived.Test.YtjgeedgphcjhoaaGreatS02
set_option linter.unusedSimpArgs false
set_option linter.unusedVariables false
set_option maxRecDepth 100000
set_option maxHeartbeats 64000000
namespace Go.Proofs.YtjgeedgphcjhoaaGreat
open Go.RowKit
theorem ca11 {g : Nat} {T : TypeId} {W : World} {v0 v1 v2 v3 v4 v5 v6 v7 v8 v9 v10 : Value} (h : CA g #[v0, v1, v2, v3, v4, v5, v6, v7, v8, v9, v10] T W) : W.cell? ⟨g, 0, none⟩ = some v0 ∧ W.cell? ⟨g, 1, none⟩ = some v1 ∧ W.cell? ⟨g, 2, none⟩ = some v2 ∧ W.cell? ⟨g, 3, none⟩ = some v3 ∧ W.cell? ⟨g, 4, none⟩ = some v4 ∧ W.cell? ⟨g, 5, none⟩ = some v5 ∧ W.cell? ⟨g, 6, none⟩ = some v6 ∧ W.cell? ⟨g, 7, none⟩ = some v7 ∧ W.cell? ⟨g, 8, none⟩ = some v8 ∧ W.cell? ⟨g, 9, none⟩ = some v9 ∧ W.cell? ⟨g, 10, none⟩ = some v10 := ⟨h.at rfl, h.at rfl, h.at rfl, h.at rfl, h.at rfl, h.at rfl, h.at rfl, h.at rfl, h.at rfl, h.at rfl, h.at rfl⟩
theorem ca13 {g : Nat} {T : TypeId} {W : World} {v0 v1 v2 v3 v4 v5 v6 v7 v8 v9 v10 v11 v12 : Value} (h : CA g #[v0, v1, v2, v3, v4, v5, v6, v7, v8, v9, v10, v11, v12] T W) : W.cell? ⟨g, 0, none⟩ = some v0 ∧ W.cell? ⟨g, 1, none⟩ = some v1 ∧ W.cell? ⟨g, 2, none⟩ = some v2 ∧ W.cell? ⟨g, 3, none⟩ = some v3 ∧ W.cell? ⟨g, 4, none⟩ = some v4 ∧ W.cell? ⟨g, 5, none⟩ = some v5 ∧ W.cell? ⟨g, 6, none⟩ = some v6 ∧ W.cell? ⟨g, 7, none⟩ = some v7 ∧ W.cell? ⟨g, 8, none⟩ = some v8 ∧ W.cell? ⟨g, 9, none⟩ = some v9 ∧ W.cell? ⟨g, 10, none⟩ = some v10 ∧ W.cell? ⟨g, 11, none⟩ = some v11 ∧ W.cell? ⟨g, 12, none⟩ = some v12 := ⟨h.at rfl, h.at rfl, h.at rfl, h.at rfl, h.at rfl, h.at rfl, h.at rfl, h.at rfl, h.at rfl, h.at rfl, h.at rfl, h.at rfl, h.at rfl⟩
open Value renaming int → I,slice → V,bool → G,string → Qs
open IntKind renaming i64 → J,u64 → O
open Ending renaming returned → Qr
open Obj renaming cells → Qc
open _root_.Go.Proofs.Tryz renaming prog → QP
open Nat renaming le_refl → Ql,zero_le → Qz
open List renaming length_append → QA,length_cons → QC,length_map → QM,range → QR
open Below renaming refl → QB
def byI (n:Int):UInt8:=(n%256).toNat.toUInt8
def uI (n:Int):List UInt8:=ulist (n%18446744073709551616).toNat
def lowL:Nat→Nat→List UInt8
 |0,_=>[]
 |k+1,v=>(v%256).toUInt8::lowL k (v / 256)
def opL (op:Int):List UInt8:=if 64768≤op then 253::uI (op-64768) else if 64512≤op then 252::uI (op-64512) else [byI op]
def sgnN (b:Nat) (n:Nat):Int:=if n%2^b<2^(b-1) then ((n%2^b:Nat):Int) else ((n%2^b:Nat):Int)-((2^b:Nat):Int)
def blL (a b:Int):List UInt8:=if a=1 then [byI b] else if a=2 then slist b else [64]
def usL:List Int→List UInt8
 | []=>[]
 |x::l=>uI x++usL l
def behL (k a b:Int) (n h:Nat) (l:List Int) (ot:Bool) (eb ee:List UInt8):List UInt8 :=
 if k=0 then []
 else if k=1 then blL a b++eb++(if ot=true then 5::ee else [])++[11]
 else if k=3 then uI l.length++usL l++uI a
 else if k=5∨k=10∨k=20∨k=22 then uI a++uI b
 else if k=26 then uI a++uI b++l.map byI
 else if k=6 then uI l.length++l.map byI
 else if k=11 then [0]
 else if k=19 then [0,0]
 else if k=17 then uI a++[0]
 else if k=12 then slist (sgnN 32 n)
 else if k=13 then slist (sgnN 64 n)
 else if k=14 then lowL 4 n
 else if k=15 then lowL 8 n
 else if k=23 then lowL 8 n++lowL 8 h
 else if k=16∨k=25 then [byI a]
 else if k=24 then l.map byI
 else uI a
noncomputable def Fo.enc:Fo→List UInt8
 |.nil=>[]
 |.cons op a b n h l ot body els rest=>opL op++behL (lineL op).2.1 a b n h l ot body.enc els.enc++rest.enc
theorem uI_len (n:Int):(uI n).length≤10:=ulist_length64 (by omega)
theorem lowL_len (v:Nat):∀(k:Nat) (v:Nat),(lowL k v).length=k
 |0,_=>rfl
 |k+1,v=>by rw[lowL,QC,lowL_len v k]
theorem usL_len:∀l:List Int,(usL l).length≤10*l.length
 | []=>Ql _
 |x::l=>by
  have:=usL_len l
  have:=uI_len x
  simp only[usL,QA,QC]
  omega
theorem usL_snoc:∀(l:List Int) (x:Int),usL (l++[x])=usL l++uI x
 | [],x=>by simp[usL]
 |y::l,x=>by simp[usL,usL_snoc l x]
theorem opL_len (op:Int):(opL op).length≤11:=by
 unfold opL
 have h1:=uI_len (op-64768)
 have h2:=uI_len (op-64512)
 split
 ·simp only[QC];omega
 split
 ·simp only[QC];omega
 simp
theorem sgnN_in (b n:Nat) (hb:b=32∨b=64):-9223372036854775808≤sgnN b n∧sgnN b n≤9223372036854775807:=by
 unfold sgnN
 rcases hb with rfl|rfl
 ·split<;>omega
 split<;>omega
theorem slist_len (x:Int) (h:-9223372036854775808≤x∧x≤9223372036854775807):(slist x).length≤10:=slist_length64 h.1 h.2
def i64C (a:Int):Prop:=-9223372036854775808≤a∧a<9223372036854775808
theorem ite_len {c:Prop} [Decidable c] {x y:List UInt8} {n:Nat} (hx:c→x.length≤n) (hy:¬c→y.length≤n):(if c then x else y).length≤n:=by
 by_cases h:c
 ·rw[if_pos h];exact hx h
 rw[if_neg h];exact hy h
theorem behL_len (k a b:Int) (n h:Nat) (l:List Int) (ot:Bool) (eb ee:List UInt8) (hb:i64C b):(behL k a b n h l ot eb ee).length≤40+10*l.length+eb.length+ee.length:=by
 have h1:=uI_len a
 have h2:=uI_len b
 have h3:=uI_len l.length
 have h4:=usL_len l
 have h5:(l.map byI).length=l.length:=QM _
 have h6:=slist_len _ (sgnN_in 32 n (.inl rfl))
 have h7:=slist_len _ (sgnN_in 64 n (.inr rfl))
 have h8:=lowL_len 0 4 n
 have h9:=lowL_len 0 8 n
 have h10:=lowL_len 0 8 h
 have h11:=slist_len b ⟨hb.1,by have:=hb.2;omega⟩
 have h12:(blL a b).length≤10:=by
  unfold blL
  split
  ·simp
  split
  ·exact h11
  simp
 have h13:(if ot=true then 5::ee else []).length≤ee.length+1:=ite_len (fun _=>by simp) (fun _=>by simp)
 unfold behL
 repeat' (refine ite_len (fun _=>?_) (fun _=>?_))
 all_goals try simp only[QA,QC,List.length_nil]
 all_goals omega
section
open Go.ChangeShapes Go.WideShapes Go.ChangeAt
def RN:Fo→Prop
 |.nil=>True
 |.cons _ a b n h l _ body els rest=>i64B a∧i64B b∧(∀x∈l,i64B x)∧RN body∧RN els∧RN rest∧n<18446744073709551616∧h<18446744073709551616
theorem RN.rng:∀ {f:Fo},RN f→Rng f
 |.nil,_=>trivial
 |.cons _ _ _ _ _ _ _ _ _ _,h=>⟨h.1,h.2.1,h.2.2.1,RN.rng h.2.2.2.1,RN.rng h.2.2.2.2.1,RN.rng h.2.2.2.2.2.1⟩
section
variable {H:Type} {enc:TypeId × Value→H} {W:World} {sp:Nat→Bool} {held:Bool}
theorem open_listN {fuel:Nat} {v:Value} {x:DataW H × List MemPlace} (h:DataW.trod enc QP W 0 sp held fuel 36 [v]=some x) (hw:WB 36 x.1):∃l p c,v=V p l.length c∧LI W.heap.size W v l∧∀x∈l,i64B x:=by
 rcases DataW.trod_slice Tryz.underlying36 h with ⟨hc,rfl⟩|⟨a,len,cap,elems,rest,n,rfl,hc,rfl,hb,hl,hm,he,hat,_,_⟩
 ·obtain rfl:v=V none 0 0:=by simpa using hc
  exact ⟨[],none,0,rfl,LI.nil _ _ _ _,fun x hx=>absurd hx (by simp)⟩
 obtain rfl:v=V (some a) len cap:=by simpa using hc
 obtain ⟨hs,hel⟩:=wb_slice Tryz.underlying36 hw
 rw[by3]at hs
 simp only[QM]at hs
 have hall:∀i,i<len→∃z:Int,W.cell? (a.add i)=some (I J z)∧i64B z:=by
  intro i hi
  have h1:=hat i hi
  rw[c3,Nat.mul_one]at h1
  obtain ⟨y,hy⟩:∃y,elems[i]?=some y:=⟨_,List.getElem?_eq_getElem (by omega)⟩
  rw[hy]at h1
  obtain ⟨cs,hcs,htr⟩:=Option.bind_eq_some_iff.1 h1
  obtain ⟨_,hlen,hcell⟩:=World.cells?_some hcs
  obtain ⟨z,rfl,_,wz⟩:=DataW.trod_int Tryz.underlying3 htr
  have:=hcell 0 (by decide)
  have bz:=bounds_i64 wz
  refine ⟨z,?_,⟨bz.1,by omega⟩⟩
  rw[add_zero']at this
  simpa using this
 obtain ⟨f,hf⟩:∃f:Nat→Int,∀i,i<len→W.cell? (a.add i)=some (I J (f i))∧i64B (f i):=⟨fun i=>if h:i<len then Classical.choose (hall i h) else 0,fun i hi=>by simp only[hi,dif_pos];exact Classical.choose_spec (hall i hi)⟩
 refine ⟨(QR len).map f,some a,cap,by simp,⟨some a,cap,by simp,by simp[reachBytes]at hs ⊢;omega,fun hne=>?_⟩,fun x hx=>by
  obtain ⟨i,hi,rfl⟩:=List.mem_map.1 hx
  exact (hf i (List.mem_range.1 hi)).2⟩
 have hpos:0<len:=by
  rcases Nat.eq_zero_or_pos len with h0|h0
  ·subst h0;simp at hne
  exact h0
 have hsp:=spot_none (hf 0 hpos).1
 refine ⟨a.block,a.off,by cases a;simp_all,?_,fun j x hj=>?_⟩
 ·have hlt:=World.block_lt_of_cell? _ _ (cell_plain hsp (hf 0 hpos).1)
  exact hlt
 have hjl:j<len:=by
  have:=(List.getElem?_eq_some_iff.1 hj).1
  simpa using this
 simp[List.getElem?_map,List.getElem?_range hjl]at hj
 rw[←hj]
 exact cell_plain hsp (hf j hjl).1
theorem open_nodeN {n:Nat} {cs:List Value} {y:DataW H × List MemPlace} (h:DataW.trod enc QP W 0 sp held n 39 cs=some y) (hw:WB 39 y.1)
  (hrec:∀m,m<n→∀v z,DataW.trod enc QP W 0 sp held m 37 [v]=some z→WB 37 z.1→∃f,SA W.heap.size W v f∧f.len<9223372036854775807∧(Lens f∧RN f)) :
  ∃(op a b:Int) (nn hh:Nat) (l:List Int) (ot:Bool) (body els:Fo) (vl vb ve:Value),cs=[I J op,I J a,I J b,I O (nn:Nat),I O (hh:Nat),vl,vb,ve,G ot]∧nn<18446744073709551616∧hh<18446744073709551616 ∧
   LI W.heap.size W vl l∧SA W.heap.size W vb body∧SA W.heap.size W ve els∧body.len<9223372036854775807∧els.len<9223372036854775807∧(Lens body∧RN body)∧(Lens els∧RN els)∧i64B a∧i64B b∧∀x∈l,i64B x:=by
 obtain ⟨f0,f1,f2,f3,f4,f5,f6,f7,f8,hu,⟨t0,t1,t2,t3,t4,t5,t6,t7,t8⟩,⟨o0,o1,o2,o3,o4,o5,o6,o7,o8⟩⟩:=fields39
 obtain ⟨xs,m,rfl,hx,hl,hlen,hat⟩:=DataW.trod_struct hu h
 rw[c39]at hl
 obtain ⟨k0,k1,k2,k3,k4,k5,k6,k7,k8,rfl⟩:∃k0 k1 k2 k3 k4 k5 k6 k7 k8,cs=[k0,k1,k2,k3,k4,k5,k6,k7,k8]:=by
  match cs,hl with
  | [_,_,_,_,_,_,_,_,_],_=>exact ⟨_,_,_,_,_,_,_,_,_,rfl⟩
 obtain ⟨y0,y1,y2,y3,y4,y5,y6,y7,y8,rfl⟩:∃y0 y1 y2 y3 y4 y5 y6 y7 y8,xs=[y0,y1,y2,y3,y4,y5,y6,y7,y8]:=by
  match xs,hlen with
  | [_,_,_,_,_,_,_,_,_],_=>exact ⟨_,_,_,_,_,_,_,_,_,rfl⟩
 have h0:=hat 0 f0 rfl
 have h1:=hat 1 f1 rfl
 have h2:=hat 2 f2 rfl
 have h3:=hat 3 f3 rfl
 have h4:=hat 4 f4 rfl
 have h5:=hat 5 f5 rfl
 have h6:=hat 6 f6 rfl
 have h7:=hat 7 f7 rfl
 have h8:=hat 8 f8 rfl
 rw[t0,o0,c3]at h0
 rw[t1,o1,c3]at h1
 rw[t2,o2,c3]at h2
 rw[t3,o3,c35]at h3
 rw[t4,o4,c35]at h4
 rw[t5,o5,c36]at h5
 rw[t6,o6,c37]at h6
 rw[t7,o7,c37]at h7
 rw[t8,o8,c4]at h8
 obtain ⟨z0,e0,_,_⟩:=DataW.trod_int Tryz.underlying3 h0
 obtain ⟨z1,e1,_,w1⟩:=DataW.trod_int Tryz.underlying3 h1
 obtain ⟨z2,e2,_,w2⟩:=DataW.trod_int Tryz.underlying3 h2
 obtain ⟨z3,e3,_,w3⟩:=DataW.trod_int Tryz.underlying35 h3
 obtain ⟨z4,e4,_,w4⟩:=DataW.trod_int Tryz.underlying35 h4
 obtain ⟨z8,e8,_⟩:=DataW.trod_bool Tryz.underlying4 h8
 obtain rfl:k0=I J z0:=by simpa using e0
 obtain rfl:k1=I J z1:=by simpa using e1
 obtain rfl:k2=I J z2:=by simpa using e2
 obtain rfl:k3=I O z3:=by simpa using e3
 obtain rfl:k4=I O z4:=by simpa using e4
 obtain rfl:k8=G z8:=by simpa using e8
 obtain ⟨b1,b2⟩:=bounds_u64 w3
 obtain ⟨b3,b4⟩:=bounds_u64 w4
 obtain ⟨n3,rfl⟩:=Int.eq_ofNat_of_zero_le b1
 obtain ⟨n4,rfl⟩:=Int.eq_ofNat_of_zero_le b3
 rw[hx]at hw
 have q5:=wb_part hu hw 5 f5 y5.1 rfl rfl
 have q6:=wb_part hu hw 6 f6 y6.1 rfl rfl
 have q7:=wb_part hu hw 7 f7 y7.1 rfl rfl
 rw[t5]at q5
 rw[t6]at q6
 rw[t7]at q7
 obtain ⟨l,p5,c5,e5,hl5,r5⟩:=open_listN (v:=k5) h5 q5
 obtain ⟨fb,sb,lb,nb⟩:=hrec m (Nat.lt_succ_self _) k6 y6 h6 q6
 obtain ⟨fe,se,le,ne⟩:=hrec m (Nat.lt_succ_self _) k7 y7 h7 q7
 exact ⟨z0,z1,z2,n3,n4,l,z8,fb,fe,k5,k6,k7,rfl,by omega,by omega,hl5,sb,se,lb,le,nb,ne,⟨(bounds_i64 w1).1,by have:=(bounds_i64 w1).2;omega⟩,⟨(bounds_i64 w2).1,by have:=(bounds_i64 w2).2;omega⟩,r5⟩
theorem open_codeN:∀(fuel:Nat) (v:Value) (x:DataW H × List MemPlace),DataW.trod enc QP W 0 sp held fuel 37 [v]=some x→WB 37 x.1→∃f,SA W.heap.size W v f∧f.len<9223372036854775807∧(Lens f∧RN f):=by
 intro fuel
 induction fuel using Nat.strongRecOn with
 |ind fuel ih =>
  intro v x h hw
  rcases DataW.trod_slice Tryz.underlying37 h with ⟨hc,rfl⟩|⟨a,len,cap,elems,rest,n,rfl,hc,rfl,hb,hl,hm,he,hat,_,_⟩
  ·obtain rfl:v=V none 0 0:=by simpa using hc
   exact ⟨.nil,SA.nil _ _ _ _,by decide,trivial,trivial⟩
  obtain rfl:v=V (some a) len cap:=by simpa using hc
  obtain ⟨hs,hel⟩:=wb_slice Tryz.underlying37 hw
  simp only[QM]at hs
  have hlen:len<9223372036854775807:=by
   have h8:=by39
   have:(elems.length+rest.length)*8≤reachBytes:=Nat.le_trans (Nat.mul_le_mul_left _ h8) hs
   simp[reachBytes]at this
   omega
  have hnode:∀i,i<len→∃cs,(∀k,k<9→W.cell? ((a.add (i*9)).add k)=cs[k]?)∧∃(op a b:Int) (nn hh:Nat) (l:List Int) (ot:Bool) (body els:Fo) (vl vb ve:Value),cs=[I J op,I J a,I J b,I O (nn:Nat),I O (hh:Nat),vl,vb,ve,G ot]∧nn<18446744073709551616∧hh<18446744073709551616 ∧
    LI W.heap.size W vl l∧SA W.heap.size W vb body∧SA W.heap.size W ve els∧body.len<9223372036854775807∧els.len<9223372036854775807∧(Lens body∧RN body)∧(Lens els∧RN els)∧i64B a∧i64B b∧∀x∈l,i64B x:=by
   intro i hi
   have h1:=hat i hi
   rw[c39]at h1
   obtain ⟨y,hy⟩:∃y,elems[i]?=some y:=⟨_,List.getElem?_eq_getElem (by omega)⟩
   rw[hy]at h1
   obtain ⟨cs,hcs,htr⟩:=Option.bind_eq_some_iff.1 h1
   obtain ⟨_,_,hcell⟩:=World.cells?_some hcs
   exact ⟨cs,hcell,open_nodeN htr (hel y.1 (List.mem_map.2 ⟨y,List.mem_of_getElem? hy,rfl⟩)) (fun m hm v z hv hz=>ih m (by omega) v z hv hz)⟩
  rcases Nat.eq_zero_or_pos len with h0|hpos
  ·subst h0
   exact ⟨.nil,SA.nil _ _ _ _,by decide,trivial,trivial⟩
  have hsp:a.spot=none:=by
   obtain ⟨cs,hcell,op,_,_,_,_,_,_,_,_,_,_,_,rfl,_⟩:=hnode 0 hpos
   have:=hcell 0 (by decide)
   rw[Nat.zero_mul]at this
   rw[add_zero']at this
   exact spot_none (by simpa using this)
  have key:∀m,m≤len→∃f:Fo,f.len=m∧FA W.heap.size W f a.block (a.off+(len-m)*9)∧(Lens f∧RN f):=by
   intro m
   induction m with
   |zero=>exact fun _=>⟨.nil,rfl,trivial,trivial,trivial⟩
   |succ m ihm =>
    intro hm1
    obtain ⟨fr,hfl,hfa,hln⟩:=ihm (by omega)
    obtain ⟨cs,hcell,op,x1,x2,nn,hh,l,ot,body,els,vl,vb,ve,rfl,n1,n2,hL,hB,hE,lb,le,nb,ne,r1,r2,rl⟩:=hnode (len-(m+1)) (by omega)
    have hc:∀k v,k<9→[Value.int .i64 op,I J x1,I J x2,I O (nn:Nat),I O (hh:Nat),vl,vb,ve,G ot][k]?=some v→W.cell? ⟨a.block,a.off+(len-(m+1))*9+k,none⟩=some v:=by
     intro k v hk hv
     have h1:=(hcell k hk).trans hv
     have hs2:(a.add ((len-(m+1))*9)).spot=none:=by
      unfold Addr.add
      split
      ·exact hsp
      rfl
     have h2:=cell_plain hs2 h1
     have e1:(a.add ((len-(m+1))*9)).block=a.block:=by unfold Addr.add;split<;>rfl
     have e2:(a.add ((len-(m+1))*9)).off=a.off+(len-(m+1))*9:=by
      unfold Addr.add
      split
      ·omega
      rfl
     rw[e1,e2]at h2
     exact h2
    have hg:=World.block_lt_of_cell? _ _ (hc 0 _ (by decide) rfl)
    have ho:a.off+(len-(m+1))*9+9=a.off+(len-m)*9:=by omega
    refine ⟨.cons op x1 x2 nn hh l ot body els fr,by simp only[Fo.len];omega,⟨hg,⟨vl,vb,ve,hc 0 _ (by decide) rfl,hc 1 _ (by decide) rfl,hc 2 _ (by decide) rfl,hc 3 _ (by decide) rfl,hc 4 _ (by decide) rfl,hc 5 _ (by decide) rfl,hc 6 _ (by decide) rfl,hc 7 _ (by decide) rfl,hc 8 _ (by decide) rfl,hL,hB,hE⟩,by rw[ho];exact hfa⟩,⟨lb,le,nb.1,ne.1,hln.1⟩,⟨r1,r2,rl,nb.2,ne.2,hln.2,n1,n2⟩⟩
  obtain ⟨f,hfl,hfa,hln⟩:=key len (Ql _)
  rw[Nat.sub_self,Nat.zero_mul,Nat.add_zero]at hfa
  exact ⟨f,⟨some a,cap,a.block,a.off,by rw[hfl],fun _=>by cases a;simp_all,hfa⟩,by omega,hln⟩
end
end
def LO (B:Nat) (w:World) (p:Option Addr) (c:Nat) (l:List Int):Prop:=LI B w (V p l.length c) l∧∀x∈l,i64B x
def CO (B:Nat) (w:World) (p:Option Addr) (c:Nat) (f:Fo):Prop:=SA B w (V p f.len c) f∧f.len<9223372036854775807∧Lens f∧RN f
def YO (B:Nat) (w:World) (p:Option Addr) (c:Nat) (l:List UInt8):Prop:=l.length≤reachBytes∧(l≠[]→∃g o,p=some ⟨g,o,none⟩∧g<B∧∀j x,l[j]?=some x→w.cell? ⟨g,o+j,none⟩=some (.int .u8 (x.toNat:Nat)))
def RowM (B:Nat) (w:World) (p:Option Addr) (n b o N:Nat) (cs:Nat→List Value):Prop:=n<9223372036854775807∧(n≠0→p=some ⟨b,o,none⟩∧b<B)∧∀i,i<n→∀k v,(cs i)[k]?=some v→w.cell? ⟨b,o+i*N+k,none⟩=some v
def KO (B:Nat) (w:World) (p:Option Addr) (n b o:Nat) (g:Nat→Fo) (q:Nat→Option Addr) (d:Nat→Nat):Prop:=RowM B w p n b o 1 (fun i=>[V (q i) (g i).len (d i)])∧∀i,i<n→CO B w (q i) (d i) (g i)
theorem LO.below {B:Nat} {w w':World} {p:Option Addr} {c:Nat} {l:List Int} (h:LO B w p c l) (hb:Below B w w'):LO B w' p c l:=⟨h.1.below hb,h.2⟩
theorem LO.mono {B B':Nat} {w:World} {p:Option Addr} {c:Nat} {l:List Int} (h:LO B w p c l) (hb:B≤B'):LO B' w p c l:=⟨h.1.mono hb,h.2⟩
theorem CO.below {B:Nat} {w w':World} {p:Option Addr} {c:Nat} {f:Fo} (h:CO B w p c f) (hb:Below B w w'):CO B w' p c f:=⟨h.1.below hb,h.2⟩
theorem CO.mono {B B':Nat} {w:World} {p:Option Addr} {c:Nat} {f:Fo} (h:CO B w p c f) (hb:B≤B'):CO B' w p c f:=⟨h.1.mono hb,h.2⟩
theorem YO.below {B:Nat} {w w':World} {p:Option Addr} {c:Nat} {l:List UInt8} (h:YO B w p c l) (hb:Below B w w'):YO B w' p c l:=by
 refine ⟨h.1,fun hn=>?_⟩
 obtain ⟨g,o,e,hg,hc⟩:=h.2 hn
 exact ⟨g,o,e,hg,fun j x hj=>by rw[hb.cell (p:=⟨g,o+j,none⟩) hg];exact hc j x hj⟩
theorem YO.mono {B B':Nat} {w:World} {p:Option Addr} {c:Nat} {l:List UInt8} (h:YO B w p c l) (hb:B≤B'):YO B' w p c l:=by
 refine ⟨h.1,fun hn=>?_⟩
 obtain ⟨g,o,e,hg,hc⟩:=h.2 hn
 exact ⟨g,o,e,Nat.lt_of_lt_of_le hg hb,hc⟩
theorem RowM.below {B:Nat} {w w':World} {p:Option Addr} {n b o N:Nat} {cs:Nat→List Value} (h:RowM B w p n b o N cs) (hb:Below B w w'):RowM B w' p n b o N cs :=
 ⟨h.1,h.2.1,fun i hi k v hk=>(hb.cell (p:=⟨b,o+i*N+k,none⟩) (h.2.1 (by omega)).2).trans (h.2.2 i hi k v hk)⟩
theorem RowM.mono {B B':Nat} {w:World} {p:Option Addr} {n b o N:Nat} {cs:Nat→List Value} (h:RowM B w p n b o N cs) (hb:B≤B'):RowM B' w p n b o N cs :=
 ⟨h.1,fun hn=>⟨(h.2.1 hn).1,Nat.lt_of_lt_of_le (h.2.1 hn).2 hb⟩,h.2.2⟩
theorem KO.below {B:Nat} {w w':World} {p:Option Addr} {n b o:Nat} {g:Nat→Fo} {q:Nat→Option Addr} {d:Nat→Nat} (h:KO B w p n b o g q d) (hb:Below B w w'):KO B w' p n b o g q d:=⟨h.1.below hb,fun i hi=>(h.2 i hi).below hb⟩
theorem KO.mono {B B':Nat} {w:World} {p:Option Addr} {n b o:Nat} {g:Nat→Fo} {q:Nat→Option Addr} {d:Nat→Nat} (h:KO B w p n b o g q d) (hb:B≤B'):KO B' w p n b o g q d:=⟨h.1.mono hb,fun i hi=>(h.2 i hi).mono hb⟩
structure ETyp where
 a:List Int
 pa:Option Addr
 ca:Nat
 b:List Int
 pb:Option Addr
 cb:Nat
def ETyp.cs (e:ETyp):List Value:=[V e.pa e.a.length e.ca,V e.pb e.b.length e.cb]
structure ETyp.ok (B:Nat) (w:World) (e:ETyp):Prop where
 h0:LO B w e.pa e.ca e.a
 h1:LO B w e.pb e.cb e.b
theorem ETyp.ok.below {B:Nat} {w w':World} {e:ETyp} (h:ETyp.ok B w e) (hb:Below B w w'):ETyp.ok B w' e:=⟨h.h0.below hb,h.h1.below hb⟩
theorem ETyp.ok.mono {B B':Nat} {w:World} {e:ETyp} (h:ETyp.ok B w e) (hb:B≤B'):ETyp.ok B' w e:=⟨h.h0.mono hb,h.h1.mono hb⟩
structure EImp where
 s0:ByteArray
 s1:ByteArray
 kd:Int
 ty:Int
 tr:Int
 tmn:Int
 tmx:Int
 th:Bool
 mmn:Int
 mmx:Int
 mh:Bool
 gt:Int
 gm:Bool
def EImp.cs (e:EImp):List Value:=[Qs e.s0,Qs e.s1,I J e.kd,I J e.ty,I J e.tr,I J e.tmn,I J e.tmx,G e.th,I J e.mmn,I J e.mmx,G e.mh,I J e.gt,G e.gm]
structure EImp.ok (B:Nat) (w:World) (e:EImp):Prop where
 h0:e.s0.size≤reachBytes
 h1:e.s1.size≤reachBytes
 h2:i64B e.kd
 h3:i64B e.ty
 h4:i64B e.tr
 h5:i64B e.tmn
 h6:i64B e.tmx
 h7:i64B e.mmn
 h8:i64B e.mmx
 h9:i64B e.gt
theorem EImp.ok.below {B:Nat} {w w':World} {e:EImp} (h:EImp.ok B w e) (hb:Below B w w'):EImp.ok B w' e:=⟨h.h0,h.h1,h.h2,h.h3,h.h4,h.h5,h.h6,h.h7,h.h8,h.h9⟩
theorem EImp.ok.mono {B B':Nat} {w:World} {e:EImp} (h:EImp.ok B w e) (hb:B≤B'):EImp.ok B' w e:=⟨h.h0,h.h1,h.h2,h.h3,h.h4,h.h5,h.h6,h.h7,h.h8,h.h9⟩
structure EFun where
 ty:Int
 l:List Int
 pl:Option Addr
 cl:Nat
 f:Fo
 pf:Option Addr
 cf:Nat
def EFun.cs (e:EFun):List Value:=[I J e.ty,V e.pl e.l.length e.cl,V e.pf e.f.len e.cf]
structure EFun.ok (B:Nat) (w:World) (e:EFun):Prop where
 h0:i64B e.ty
 h1:LO B w e.pl e.cl e.l
 h2:CO B w e.pf e.cf e.f
theorem EFun.ok.below {B:Nat} {w w':World} {e:EFun} (h:EFun.ok B w e) (hb:Below B w w'):EFun.ok B w' e:=⟨h.h0,h.h1.below hb,h.h2.below hb⟩
theorem EFun.ok.mono {B B':Nat} {w:World} {e:EFun} (h:EFun.ok B w e) (hb:B≤B'):EFun.ok B' w e:=⟨h.h0,h.h1.mono hb,h.h2.mono hb⟩
structure ETab where
 r:Int
 mn:Int
 mx:Int
 h:Bool
def ETab.cs (e:ETab):List Value:=[I J e.r,I J e.mn,I J e.mx,G e.h]
structure ETab.ok (B:Nat) (w:World) (e:ETab):Prop where
 h0:i64B e.r
 h1:i64B e.mn
 h2:i64B e.mx
theorem ETab.ok.below {B:Nat} {w w':World} {e:ETab} (h:ETab.ok B w e) (hb:Below B w w'):ETab.ok B w' e:=⟨h.h0,h.h1,h.h2⟩
theorem ETab.ok.mono {B B':Nat} {w:World} {e:ETab} (h:ETab.ok B w e) (hb:B≤B'):ETab.ok B' w e:=⟨h.h0,h.h1,h.h2⟩
structure ELim where
 mn:Int
 mx:Int
 h:Bool
def ELim.cs (e:ELim):List Value:=[I J e.mn,I J e.mx,G e.h]
structure ELim.ok (B:Nat) (w:World) (e:ELim):Prop where
 h0:i64B e.mn
 h1:i64B e.mx
theorem ELim.ok.below {B:Nat} {w w':World} {e:ELim} (h:ELim.ok B w e) (hb:Below B w w'):ELim.ok B w' e:=⟨h.h0,h.h1⟩
theorem ELim.ok.mono {B B':Nat} {w:World} {e:ELim} (h:ELim.ok B w e) (hb:B≤B'):ELim.ok B' w e:=⟨h.h0,h.h1⟩
structure EGlo where
 t:Int
 m:Bool
 f:Fo
 pf:Option Addr
 cf:Nat
def EGlo.cs (e:EGlo):List Value:=[I J e.t,G e.m,V e.pf e.f.len e.cf]
structure EGlo.ok (B:Nat) (w:World) (e:EGlo):Prop where
 h0:i64B e.t
 h1:CO B w e.pf e.cf e.f
theorem EGlo.ok.below {B:Nat} {w w':World} {e:EGlo} (h:EGlo.ok B w e) (hb:Below B w w'):EGlo.ok B w' e:=⟨h.h0,h.h1.below hb⟩
theorem EGlo.ok.mono {B B':Nat} {w:World} {e:EGlo} (h:EGlo.ok B w e) (hb:B≤B'):EGlo.ok B' w e:=⟨h.h0,h.h1.mono hb⟩
structure EExp where
 s:ByteArray
 k:Int
 ix:Int
def EExp.cs (e:EExp):List Value:=[Qs e.s,I J e.k,I J e.ix]
structure EExp.ok (B:Nat) (w:World) (e:EExp):Prop where
 h0:e.s.size≤reachBytes
 h1:i64B e.k
 h2:i64B e.ix
theorem EExp.ok.below {B:Nat} {w w':World} {e:EExp} (h:EExp.ok B w e) (hb:Below B w w'):EExp.ok B w' e:=⟨h.h0,h.h1,h.h2⟩
theorem EExp.ok.mono {B B':Nat} {w:World} {e:EExp} (h:EExp.ok B w e) (hb:B≤B'):EExp.ok B' w e:=⟨h.h0,h.h1,h.h2⟩
structure EElm where
 r:Int
 m:Int
 t:Int
 f:Fo
 pf:Option Addr
 cf:Nat
 ng:Nat
 pg:Option Addr
 cg:Nat
 bg:Nat
 og:Nat
 g:Nat→Fo
 qg:Nat→Option Addr
 dg:Nat→Nat
def EElm.cs (e:EElm):List Value:=[I J e.r,I J e.m,I J e.t,V e.pf e.f.len e.cf,V e.pg e.ng e.cg]
structure EElm.ok (B:Nat) (w:World) (e:EElm):Prop where
 h0:i64B e.r
 h1:i64B e.m
 h2:i64B e.t
 h3:CO B w e.pf e.cf e.f
 h4:KO B w e.pg e.ng e.bg e.og e.g e.qg e.dg
theorem EElm.ok.below {B:Nat} {w w':World} {e:EElm} (h:EElm.ok B w e) (hb:Below B w w'):EElm.ok B w' e:=⟨h.h0,h.h1,h.h2,h.h3.below hb,h.h4.below hb⟩
theorem EElm.ok.mono {B B':Nat} {w:World} {e:EElm} (h:EElm.ok B w e) (hb:B≤B'):EElm.ok B' w e:=⟨h.h0,h.h1,h.h2,h.h3.mono hb,h.h4.mono hb⟩
structure EDat where
 m:Int
 t:Int
 f:Fo
 pf:Option Addr
 cf:Nat
 b:List UInt8
 pb:Option Addr
 cb:Nat
def EDat.cs (e:EDat):List Value:=[I J e.m,I J e.t,V e.pf e.f.len e.cf,V e.pb e.b.length e.cb]
structure EDat.ok (B:Nat) (w:World) (e:EDat):Prop where
 h0:i64B e.m
 h1:i64B e.t
 h2:CO B w e.pf e.cf e.f
 h3:YO B w e.pb e.cb e.b
theorem EDat.ok.below {B:Nat} {w w':World} {e:EDat} (h:EDat.ok B w e) (hb:Below B w w'):EDat.ok B w' e:=⟨h.h0,h.h1,h.h2.below hb,h.h3.below hb⟩
theorem EDat.ok.mono {B B':Nat} {w:World} {e:EDat} (h:EDat.ok B w e) (hb:B≤B'):EDat.ok B' w e:=⟨h.h0,h.h1,h.h2.mono hb,h.h3.mono hb⟩
structure MD where
 tp:Option Addr
 tn:Nat
 tc:Nat
 tg:Nat
 tw:Nat
 t:Nat→ETyp
 imp:Option Addr
 imn:Nat
 imc:Nat
 img:Nat
 imw:Nat
 im:Nat→EImp
 fp:Option Addr
 fn:Nat
 fc:Nat
 fg:Nat
 fw:Nat
 f:Nat→EFun
 tbp:Option Addr
 tbn:Nat
 tbc:Nat
 tbg:Nat
 tbw:Nat
 tb:Nat→ETab
 mp:Option Addr
 mn:Nat
 mc:Nat
 mg:Nat
 mw:Nat
 m:Nat→ELim
 gp:Option Addr
 gn:Nat
 gc:Nat
 gg:Nat
 gw:Nat
 g:Nat→EGlo
 xp:Option Addr
 xn:Nat
 xc:Nat
 xg:Nat
 xw:Nat
 x:Nat→EExp
 ep:Option Addr
 en:Nat
 ec:Nat
 eg:Nat
 ew:Nat
 e:Nat→EElm
 dp:Option Addr
 dn:Nat
 dc:Nat
 dg:Nat
 dw:Nat
 d:Nat→EDat
 st:Int
 cnt:Bool
def MD.val (M:MD):Value:=.agg #[V M.tp M.tn M.tc,V M.imp M.imn M.imc,V M.fp M.fn M.fc,V M.tbp M.tbn M.tbc,V M.mp M.mn M.mc,V M.gp M.gn M.gc,V M.xp M.xn M.xc,I J M.st,V M.ep M.en M.ec,V M.dp M.dn M.dc,G M.cnt]
structure MD.ok (B:Nat) (w:World) (M:MD):Prop where
 tr:RowM B w M.tp M.tn M.tg M.tw 2 (fun i=>(M.t i).cs)
 tz:∀i,i<M.tn→(M.t i).ok B w
 imr:RowM B w M.imp M.imn M.img M.imw 13 (fun i=>(M.im i).cs)
 imz:∀i,i<M.imn→(M.im i).ok B w
 fr:RowM B w M.fp M.fn M.fg M.fw 3 (fun i=>(M.f i).cs)
 fz:∀i,i<M.fn→(M.f i).ok B w
 tbr:RowM B w M.tbp M.tbn M.tbg M.tbw 4 (fun i=>(M.tb i).cs)
 tbz:∀i,i<M.tbn→(M.tb i).ok B w
 mr:RowM B w M.mp M.mn M.mg M.mw 3 (fun i=>(M.m i).cs)
 mz:∀i,i<M.mn→(M.m i).ok B w
 gr:RowM B w M.gp M.gn M.gg M.gw 3 (fun i=>(M.g i).cs)
 gz:∀i,i<M.gn→(M.g i).ok B w
 xr:RowM B w M.xp M.xn M.xg M.xw 3 (fun i=>(M.x i).cs)
 xz:∀i,i<M.xn→(M.x i).ok B w
 er:RowM B w M.ep M.en M.eg M.ew 5 (fun i=>(M.e i).cs)
 ez:∀i,i<M.en→(M.e i).ok B w
 dr:RowM B w M.dp M.dn M.dg M.dw 4 (fun i=>(M.d i).cs)
 dz:∀i,i<M.dn→(M.d i).ok B w
 stk:i64B M.st
theorem MD.ok.below {B:Nat} {w w':World} {M:MD} (h:MD.ok B w M) (hb:Below B w w'):MD.ok B w' M:=⟨h.tr.below hb,fun i hi=>(h.tz i hi).below hb,h.imr.below hb,fun i hi=>(h.imz i hi).below hb,h.fr.below hb,fun i hi=>(h.fz i hi).below hb,h.tbr.below hb,fun i hi=>(h.tbz i hi).below hb,h.mr.below hb,fun i hi=>(h.mz i hi).below hb,h.gr.below hb,fun i hi=>(h.gz i hi).below hb,h.xr.below hb,fun i hi=>(h.xz i hi).below hb,h.er.below hb,fun i hi=>(h.ez i hi).below hb,h.dr.below hb,fun i hi=>(h.dz i hi).below hb,h.stk⟩
theorem MD.ok.mono {B B':Nat} {w:World} {M:MD} (h:MD.ok B w M) (hb:B≤B'):MD.ok B' w M:=⟨h.tr.mono hb,fun i hi=>(h.tz i hi).mono hb,h.imr.mono hb,fun i hi=>(h.imz i hi).mono hb,h.fr.mono hb,fun i hi=>(h.fz i hi).mono hb,h.tbr.mono hb,fun i hi=>(h.tbz i hi).mono hb,h.mr.mono hb,fun i hi=>(h.mz i hi).mono hb,h.gr.mono hb,fun i hi=>(h.gz i hi).mono hb,h.xr.mono hb,fun i hi=>(h.xz i hi).mono hb,h.er.mono hb,fun i hi=>(h.ez i hi).mono hb,h.dr.mono hb,fun i hi=>(h.dz i hi).mono hb,h.stk⟩
theorem all_ft (k:Nat) (eg:∀args w,(callFunc k args).run QP w=.ok (.enter k args) w) (P:Nat→Bool) (n g o c:Nat) (p0:Nat→Option Addr) (n0 c0:Nat→Nat) (p1:Nat→Option Addr) (n1 c1:Nat→Nat) (w:World) (hg:g<w.heap.size) (hn:n<9223372036854775807)
  (hx:∀i,i<n→w.cell? ⟨g,o+i*2,none⟩=some (V (p0 i) (n0 i) (c0 i))∧w.cell? ⟨g,o+i*2+1,none⟩=some (V (p1 i) (n1 i) (c1 i))) (hP:∀i,i<n→∀W,Below w.heap.size w W→Calls QP k #[.agg #[V (p0 i) (n0 i) (c0 i),V (p1 i) (n1 i) (c1 i)]] W fun e w'=>e=Qr (G (P i))∧Below W.heap.size W w') :
  Calls QP 30 #[V (some ⟨g,o,none⟩) n c,.func (.func k) #[] #[]] w fun e w'=>e=Qr (G ((QR n).all P))∧Below w.heap.size w w':=by
 have HP:=hid hP
 have HXX:=hid hx
 have hn':(n:Int)<9223372036854775807:=by omega
 obtain ⟨r,hr⟩:∃r,r=(QR n).all P:=⟨_,rfl⟩
 rw[←hr]
 have HR:=hid hr
 clear hP hx hr hn
 go_enter Tryz.func30,Tryz.ntmps30
 go_wp2
 go_loopw [9] (fun vi wr=>∃i:Nat,i≤n∧vi=I J i∧Hid (∀j,j<i→P j=true)∧Hid (Below w.heap.size w wr)) (fun vi _=>n-(intOf vi).toNat)
 case atStart=>exact ⟨0,Qz _,rfl,fun j hj=>absurd hj (Nat.not_lt_zero _),QB _ _⟩
 obtain ⟨i,hi,rfl,HI,HB⟩:=hrel
 by_cases hlt:i<n
 ·obtain ⟨z0,z1⟩:=HXX.out i hlt
  have hPi:=fun W h=>hid (HP.out i hlt W h)
  have x0:=(HB.out.cell (p:=⟨g,o+i*2,none⟩) hg).trans z0
  have x1:=(HB.out.cell (p:=⟨g,o+i*2+1,none⟩) hg).trans z1
  clear z0 z1
  obtain ⟨b,hb⟩:∃b,b=P i:=⟨_,rfl⟩
  rw[←hb]at hPi
  have HBP:=hid hb
  clear hb
  generalize p0 i=q0 at *
  generalize n0 i=m0 at *
  generalize c0 i=d0 at *
  generalize p1 i=q1 at *
  generalize n1 i=m1 at *
  generalize c1 i=d1 at *
  have HB1:=hid (HB.out.alloc HB.out.size (Qc #[V q0 m0 d0,V q1 m1 d1] 67))
  cases b with
  |false =>
   have HE:Hid (r=false):=by
    rw[HR.out]
    exact List.all_eq_false.2 ⟨i,List.mem_range.2 hlt,by rw[←HBP.out];decide⟩
   go_wp2_with (go_at_fn k;(with_reducible refine (hPi _ HB1.out).out.mono ?_);rintro e w2 ⟨rfl,hb2⟩;have HB2:=Qd HB1 hb2;clear hb2)
   go_ret
   exact ⟨by rw[HE.out];rfl,HB2.out⟩
  |true =>
   go_wp2_with (go_at_fn k;(with_reducible refine (hPi _ HB1.out).out.mono ?_);rintro e w2 ⟨rfl,hb2⟩;have HB2:=Qd HB1 hb2;clear hb2)
   go_roundw
   case rel =>
    refine ⟨i+1,hlt,by go_num,fun j hj=>?_,HB2.out⟩
    by_cases hji:j=i
    ·rw[hji];exact HBP.out.symm
    exact HI.out j (by omega)
   case measure=>simp[intOf];omega
 obtain rfl:i=n:=by omega
 have HE:Hid (r=true):=by
  rw[HR.out]
  exact List.all_eq_true.2 fun j hj=>HI.out j (List.mem_range.1 hj)
 go_wp2
 go_ret
 exact ⟨by rw[HE.out];rfl,HB.out⟩
theorem all_code (k:Nat) (eg:∀args w,(callFunc k args).run QP w=.ok (.enter k args) w) (P:Nat→Bool) (n g o c:Nat) (t0:Nat→Int) (p1:Nat→Option Addr) (n1 c1:Nat→Nat) (p2:Nat→Option Addr) (n2 c2:Nat→Nat) (w:World) (hg:g<w.heap.size) (hn:n<9223372036854775807)
  (hx:∀i,i<n→w.cell? ⟨g,o+i*3,none⟩=some (I J (t0 i))∧w.cell? ⟨g,o+i*3+1,none⟩=some (V (p1 i) (n1 i) (c1 i))∧w.cell? ⟨g,o+i*3+2,none⟩=some (V (p2 i) (n2 i) (c2 i))) (hP:∀i,i<n→∀W,Below w.heap.size w W→Calls QP k #[.agg #[I J (t0 i),V (p1 i) (n1 i) (c1 i),V (p2 i) (n2 i) (c2 i)]] W fun e w'=>e=Qr (G (P i))∧Below W.heap.size W w') :
  Calls QP 34 #[V (some ⟨g,o,none⟩) n c,.func (.func k) #[] #[]] w fun e w'=>e=Qr (G ((QR n).all P))∧Below w.heap.size w w':=by
 have HP:=hid hP
 have HXX:=hid hx
 have hn':(n:Int)<9223372036854775807:=by omega
 obtain ⟨r,hr⟩:∃r,r=(QR n).all P:=⟨_,rfl⟩
 rw[←hr]
 have HR:=hid hr
 clear hP hx hr hn
 go_enter Tryz.func34,Tryz.ntmps34
 go_wp2
 go_loopw [9] (fun vi wr=>∃i:Nat,i≤n∧vi=I J i∧Hid (∀j,j<i→P j=true)∧Hid (Below w.heap.size w wr)) (fun vi _=>n-(intOf vi).toNat)
 case atStart=>exact ⟨0,Qz _,rfl,fun j hj=>absurd hj (Nat.not_lt_zero _),QB _ _⟩
 obtain ⟨i,hi,rfl,HI,HB⟩:=hrel
 by_cases hlt:i<n
 ·obtain ⟨z0,z1,z2⟩:=HXX.out i hlt
  have hPi:=fun W h=>hid (HP.out i hlt W h)
  have x0:=(HB.out.cell (p:=⟨g,o+i*3,none⟩) hg).trans z0
  have x1:=(HB.out.cell (p:=⟨g,o+i*3+1,none⟩) hg).trans z1
  have x2:=(HB.out.cell (p:=⟨g,o+i*3+2,none⟩) hg).trans z2
  clear z0 z1 z2
  obtain ⟨b,hb⟩:∃b,b=P i:=⟨_,rfl⟩
  rw[←hb]at hPi
  have HBP:=hid hb
  clear hb
  generalize t0 i=s0 at *
  generalize p1 i=q1 at *
  generalize n1 i=m1 at *
  generalize c1 i=d1 at *
  generalize p2 i=q2 at *
  generalize n2 i=m2 at *
  generalize c2 i=d2 at *
  have HB1:=hid (HB.out.alloc HB.out.size (Qc #[I J s0,V q1 m1 d1,V q2 m2 d2] 42))
  cases b with
  |false =>
   have HE:Hid (r=false):=by
    rw[HR.out]
    exact List.all_eq_false.2 ⟨i,List.mem_range.2 hlt,by rw[←HBP.out];decide⟩
   go_wp2_with (go_at_fn k;(with_reducible refine (hPi _ HB1.out).out.mono ?_);rintro e w2 ⟨rfl,hb2⟩;have HB2:=Qd HB1 hb2;clear hb2)
   go_ret
   exact ⟨by rw[HE.out];rfl,HB2.out⟩
  |true =>
   go_wp2_with (go_at_fn k;(with_reducible refine (hPi _ HB1.out).out.mono ?_);rintro e w2 ⟨rfl,hb2⟩;have HB2:=Qd HB1 hb2;clear hb2)
   go_roundw
   case rel =>
    refine ⟨i+1,hlt,by go_num,fun j hj=>?_,HB2.out⟩
    by_cases hji:j=i
    ·rw[hji];exact HBP.out.symm
    exact HI.out j (by omega)
   case measure=>simp[intOf];omega
 obtain rfl:i=n:=by omega
 have HE:Hid (r=true):=by
  rw[HR.out]
  exact List.all_eq_true.2 fun j hj=>HI.out j (List.mem_range.1 hj)
 go_wp2
 go_ret
 exact ⟨by rw[HE.out];rfl,HB.out⟩
theorem all_nil_22 (k:Nat) (p:Option Addr) (c:Nat) (w:World):Calls QP 30 #[V p 0 c,.func (.func k) #[] #[]] w fun e w'=>e=Qr (G true)∧w=w':=by
 go_enter Tryz.func30,Tryz.ntmps30
 go_wp2
 go_loop [9] (fun vi=>vi=I J 0) (fun _=>0)
 case atStart=>rfl
 subst hrel
 go_wp2
 go_ret
 exact ⟨rfl,rfl⟩
theorem all_nil_24 (k:Nat) (p:Option Addr) (c:Nat) (w:World):Calls QP 32 #[V p 0 c,.func (.func k) #[] #[]] w fun e w'=>e=Qr (G true)∧w=w':=by
 go_enter Tryz.func32,Tryz.ntmps32
 go_wp2
 go_loop [9] (fun vi=>vi=I J 0) (fun _=>0)
 case atStart=>rfl
 subst hrel
 go_wp2
 go_ret
 exact ⟨rfl,rfl⟩
theorem all_nil_26 (k:Nat) (p:Option Addr) (c:Nat) (w:World):Calls QP 34 #[V p 0 c,.func (.func k) #[] #[]] w fun e w'=>e=Qr (G true)∧w=w':=by
 go_enter Tryz.func34,Tryz.ntmps34
 go_wp2
 go_loop [9] (fun vi=>vi=I J 0) (fun _=>0)
 case atStart=>rfl
 subst hrel
 go_wp2
 go_ret
 exact ⟨rfl,rfl⟩
theorem all_nil_28 (k:Nat) (p:Option Addr) (c:Nat) (w:World):Calls QP 36 #[V p 0 c,.func (.func k) #[] #[]] w fun e w'=>e=Qr (G true)∧w=w':=by
 go_enter Tryz.func36,Tryz.ntmps36
 go_wp2
 go_loop [9] (fun vi=>vi=I J 0) (fun _=>0)
 case atStart=>rfl
 subst hrel
 go_wp2
 go_ret
 exact ⟨rfl,rfl⟩
theorem all_nil_30 (k:Nat) (p:Option Addr) (c:Nat) (w:World):Calls QP 38 #[V p 0 c,.func (.func k) #[] #[]] w fun e w'=>e=Qr (G true)∧w=w':=by
 go_enter Tryz.func38,Tryz.ntmps38
 go_wp2
 go_loop [9] (fun vi=>vi=I J 0) (fun _=>0)
 case atStart=>rfl
 subst hrel
 go_wp2
 go_ret
 exact ⟨rfl,rfl⟩
theorem all_nil_32 (k:Nat) (p:Option Addr) (c:Nat) (w:World):Calls QP 40 #[V p 0 c,.func (.func k) #[] #[]] w fun e w'=>e=Qr (G true)∧w=w':=by
 go_enter Tryz.func40,Tryz.ntmps40
 go_wp2
 go_loop [9] (fun vi=>vi=I J 0) (fun _=>0)
 case atStart=>rfl
 subst hrel
 go_wp2
 go_ret
 exact ⟨rfl,rfl⟩
theorem all_nil_34 (k:Nat) (p:Option Addr) (c:Nat) (w:World):Calls QP 42 #[V p 0 c,.func (.func k) #[] #[]] w fun e w'=>e=Qr (G true)∧w=w':=by
 go_enter Tryz.func42,Tryz.ntmps42
 go_wp2
 go_loop [9] (fun vi=>vi=I J 0) (fun _=>0)
 case atStart=>rfl
 subst hrel
 go_wp2
 go_ret
 exact ⟨rfl,rfl⟩
theorem all_nil_37 (k:Nat) (p:Option Addr) (c:Nat) (w:World):Calls QP 45 #[V p 0 c,.func (.func k) #[] #[]] w fun e w'=>e=Qr (G true)∧w=w':=by
 go_enter Tryz.func45,Tryz.ntmps45
 go_wp2
 go_loop [9] (fun vi=>vi=I J 0) (fun _=>0)
 case atStart=>rfl
 subst hrel
 go_wp2
 go_ret
 exact ⟨rfl,rfl⟩
theorem all_nil_39 (k:Nat) (p:Option Addr) (c:Nat) (w:World):Calls QP 47 #[V p 0 c,.func (.func k) #[] #[]] w fun e w'=>e=Qr (G true)∧w=w':=by
 go_enter Tryz.func47,Tryz.ntmps47
 go_wp2
 go_loop [9] (fun vi=>vi=I J 0) (fun _=>0)
 case atStart=>rfl
 subst hrel
 go_wp2
 go_ret
 exact ⟨rfl,rfl⟩
theorem MayG_0 (tp imp fp tbp mp gp xp ep dp:Option Addr) (tn tc imn imc fn fc tbn tbc mn mc gn gc xn xc en ec dn dc:Nat) (tb imb fb tbb mb gb xb sb eb db qb cnt:Bool) (st:Int) (w:World)
  (ht:∀W,Below w.heap.size w W→Calls QP 30 #[V tp tn tc,.func (.func 31) #[] #[]] W fun e w'=>e=Qr (G false)∧Below W.heap.size W w')
  (him:∀W,Below w.heap.size w W→Calls QP 32 #[V imp imn imc,.func (.func 33) #[] #[]] W fun e w'=>e=Qr (G imb)∧Below W.heap.size W w')
  (hf:∀W,Below w.heap.size w W→Calls QP 34 #[V fp fn fc,.func (.func 35) #[] #[]] W fun e w'=>e=Qr (G fb)∧Below W.heap.size W w')
  (htb:∀W,Below w.heap.size w W→Calls QP 36 #[V tbp tbn tbc,.func (.func 37) #[] #[]] W fun e w'=>e=Qr (G tbb)∧Below W.heap.size W w')
  (hm:∀W,Below w.heap.size w W→Calls QP 38 #[V mp mn mc,.func (.func 39) #[] #[]] W fun e w'=>e=Qr (G mb)∧Below W.heap.size W w')
  (hg:∀W,Below w.heap.size w W→Calls QP 40 #[V gp gn gc,.func (.func 41) #[] #[]] W fun e w'=>e=Qr (G gb)∧Below W.heap.size W w')
  (hx:∀W,Below w.heap.size w W→Calls QP 42 #[V xp xn xc,.func (.func 43) #[] #[]] W fun e w'=>e=Qr (G xb)∧Below W.heap.size W w')
  (hs:∀W,Calls QP 44 #[I J st] W fun e w'=>e=Qr (G sb)∧W=w')
  (he:∀W,Below w.heap.size w W→Calls QP 45 #[V ep en ec,.func (.func 46) #[] #[]] W fun e w'=>e=Qr (G eb)∧Below W.heap.size W w')
  (hd:∀W,Below w.heap.size w W→Calls QP 47 #[V dp dn dc,.func (.func 48) #[] #[]] W fun e w'=>e=Qr (G db)∧Below W.heap.size W w')
  (hq:∀W,Below w.heap.size w W→Calls QP 34 #[V fp fn fc,.func (.func 49) #[] #[]] W fun e w'=>e=Qr (G qb)∧Below W.heap.size W w') :
  Calls QP 15 #[.agg #[V tp tn tc,V imp imn imc,V fp fn fc,V tbp tbn tbc,V mp mn mc,V gp gn gc,V xp xn xc,I J st,V ep en ec,V dp dn dc,G cnt]] w fun e w'=>e=Qr (G false)∧Below w.heap.size w w':=by
 have Ht:=fun W h=>hid (ht W h)
 have Him:=fun W h=>hid (him W h)
 have Hf:=fun W h=>hid (hf W h)
 have Htb:=fun W h=>hid (htb W h)
 have Hm:=fun W h=>hid (hm W h)
 have Hg:=fun W h=>hid (hg W h)
 have Hx:=fun W h=>hid (hx W h)
 have HS:=fun W=>hid (hs W)
 have He:=fun W h=>hid (he W h)
 have Hd:=fun W h=>hid (hd W h)
 have HQ:=fun W h=>hid (hq W h)
 have HBX:=hid ((QB w.heap.size w).alloc (Ql _) (Qc #[V tp tn tc,V imp imn imc,V fp fn fc,V tbp tbn tbc,V mp mn mc,V gp gn gc,V xp xn xc,I J st,V ep en ec,V dp dn dc,G cnt] 32))
 have HX:=hid (CA.new w #[V tp tn tc,V imp imn imc,V fp fn fc,V tbp tbn tbc,V mp mn mc,V gp gn gc,V xp xn xc,I J st,V ep en ec,V dp dn dc,G cnt] 32)
 obtain ⟨x0,x1,x2,x3,x4,x5,x6,x7,x8,x9,x10⟩:=ca11 HX.out
 clear ht him hf htb hm hg hx hs he hd hq
 go_enter Tryz.func15,Tryz.ntmps15
 go_wp2_with (first
  |(go_at_call 30;(with_reducible refine (Ht _ HBX.out).out.mono ?_);rintro e w10 ⟨rfl,hb⟩;have HB0:=Qd HBX hb;have HX0:=Qe HX hb;clear x0 x1 x2 x3 x4 x5 x6 x7 x8 x9 x10;obtain ⟨x0,x1,x2,x3,x4,x5,x6,x7,x8,x9,x10⟩:=ca11 HX0.out;clear hb))
 go_ret
 exact ⟨rfl,HB0.out⟩
theorem MayG_1 (tp imp fp tbp mp gp xp ep dp:Option Addr) (tn tc imn imc fn fc tbn tbc mn mc gn gc xn xc en ec dn dc:Nat) (tb imb fb tbb mb gb xb sb eb db qb cnt:Bool) (st:Int) (w:World)
  (ht:∀W,Below w.heap.size w W→Calls QP 30 #[V tp tn tc,.func (.func 31) #[] #[]] W fun e w'=>e=Qr (G true)∧Below W.heap.size W w')
  (him:∀W,Below w.heap.size w W→Calls QP 32 #[V imp imn imc,.func (.func 33) #[] #[]] W fun e w'=>e=Qr (G false)∧Below W.heap.size W w')
  (hf:∀W,Below w.heap.size w W→Calls QP 34 #[V fp fn fc,.func (.func 35) #[] #[]] W fun e w'=>e=Qr (G fb)∧Below W.heap.size W w')
  (htb:∀W,Below w.heap.size w W→Calls QP 36 #[V tbp tbn tbc,.func (.func 37) #[] #[]] W fun e w'=>e=Qr (G tbb)∧Below W.heap.size W w')
  (hm:∀W,Below w.heap.size w W→Calls QP 38 #[V mp mn mc,.func (.func 39) #[] #[]] W fun e w'=>e=Qr (G mb)∧Below W.heap.size W w')
  (hg:∀W,Below w.heap.size w W→Calls QP 40 #[V gp gn gc,.func (.func 41) #[] #[]] W fun e w'=>e=Qr (G gb)∧Below W.heap.size W w')
  (hx:∀W,Below w.heap.size w W→Calls QP 42 #[V xp xn xc,.func (.func 43) #[] #[]] W fun e w'=>e=Qr (G xb)∧Below W.heap.size W w')
  (hs:∀W,Calls QP 44 #[I J st] W fun e w'=>e=Qr (G sb)∧W=w')
  (he:∀W,Below w.heap.size w W→Calls QP 45 #[V ep en ec,.func (.func 46) #[] #[]] W fun e w'=>e=Qr (G eb)∧Below W.heap.size W w')
  (hd:∀W,Below w.heap.size w W→Calls QP 47 #[V dp dn dc,.func (.func 48) #[] #[]] W fun e w'=>e=Qr (G db)∧Below W.heap.size W w')
  (hq:∀W,Below w.heap.size w W→Calls QP 34 #[V fp fn fc,.func (.func 49) #[] #[]] W fun e w'=>e=Qr (G qb)∧Below W.heap.size W w') :
  Calls QP 15 #[.agg #[V tp tn tc,V imp imn imc,V fp fn fc,V tbp tbn tbc,V mp mn mc,V gp gn gc,V xp xn xc,I J st,V ep en ec,V dp dn dc,G cnt]] w fun e w'=>e=Qr (G false)∧Below w.heap.size w w':=by
 have Ht:=fun W h=>hid (ht W h)
 have Him:=fun W h=>hid (him W h)
 have Hf:=fun W h=>hid (hf W h)
 have Htb:=fun W h=>hid (htb W h)
 have Hm:=fun W h=>hid (hm W h)
 have Hg:=fun W h=>hid (hg W h)
 have Hx:=fun W h=>hid (hx W h)
 have HS:=fun W=>hid (hs W)
 have He:=fun W h=>hid (he W h)
 have Hd:=fun W h=>hid (hd W h)
 have HQ:=fun W h=>hid (hq W h)
 have HBX:=hid ((QB w.heap.size w).alloc (Ql _) (Qc #[V tp tn tc,V imp imn imc,V fp fn fc,V tbp tbn tbc,V mp mn mc,V gp gn gc,V xp xn xc,I J st,V ep en ec,V dp dn dc,G cnt] 32))
 have HX:=hid (CA.new w #[V tp tn tc,V imp imn imc,V fp fn fc,V tbp tbn tbc,V mp mn mc,V gp gn gc,V xp xn xc,I J st,V ep en ec,V dp dn dc,G cnt] 32)
 obtain ⟨x0,x1,x2,x3,x4,x5,x6,x7,x8,x9,x10⟩:=ca11 HX.out
 clear ht him hf htb hm hg hx hs he hd hq
 go_enter Tryz.func15,Tryz.ntmps15
 go_wp2_with (first
  |(go_at_call 30;(with_reducible refine (Ht _ HBX.out).out.mono ?_);rintro e w10 ⟨rfl,hb⟩;have HB0:=Qd HBX hb;have HX0:=Qe HX hb;clear x0 x1 x2 x3 x4 x5 x6 x7 x8 x9 x10;obtain ⟨x0,x1,x2,x3,x4,x5,x6,x7,x8,x9,x10⟩:=ca11 HX0.out;clear hb)
  |(go_at_call 32;(with_reducible refine (Him _ HB0.out).out.mono ?_);rintro e w11 ⟨rfl,hb⟩;have HB1:=Qd HB0 hb;have HX1:=Qe HX0 hb;clear x0 x1 x2 x3 x4 x5 x6 x7 x8 x9 x10;obtain ⟨x0,x1,x2,x3,x4,x5,x6,x7,x8,x9,x10⟩:=ca11 HX1.out;clear hb))
 go_ret
 exact ⟨rfl,HB1.out⟩
theorem MayG_2 (tp imp fp tbp mp gp xp ep dp:Option Addr) (tn tc imn imc fn fc tbn tbc mn mc gn gc xn xc en ec dn dc:Nat) (tb imb fb tbb mb gb xb sb eb db qb cnt:Bool) (st:Int) (w:World)
  (ht:∀W,Below w.heap.size w W→Calls QP 30 #[V tp tn tc,.func (.func 31) #[] #[]] W fun e w'=>e=Qr (G true)∧Below W.heap.size W w')
  (him:∀W,Below w.heap.size w W→Calls QP 32 #[V imp imn imc,.func (.func 33) #[] #[]] W fun e w'=>e=Qr (G true)∧Below W.heap.size W w')
  (hf:∀W,Below w.heap.size w W→Calls QP 34 #[V fp fn fc,.func (.func 35) #[] #[]] W fun e w'=>e=Qr (G false)∧Below W.heap.size W w')
  (htb:∀W,Below w.heap.size w W→Calls QP 36 #[V tbp tbn tbc,.func (.func 37) #[] #[]] W fun e w'=>e=Qr (G tbb)∧Below W.heap.size W w')
  (hm:∀W,Below w.heap.size w W→Calls QP 38 #[V mp mn mc,.func (.func 39) #[] #[]] W fun e w'=>e=Qr (G mb)∧Below W.heap.size W w')
  (hg:∀W,Below w.heap.size w W→Calls QP 40 #[V gp gn gc,.func (.func 41) #[] #[]] W fun e w'=>e=Qr (G gb)∧Below W.heap.size W w')
  (hx:∀W,Below w.heap.size w W→Calls QP 42 #[V xp xn xc,.func (.func 43) #[] #[]] W fun e w'=>e=Qr (G xb)∧Below W.heap.size W w')
  (hs:∀W,Calls QP 44 #[I J st] W fun e w'=>e=Qr (G sb)∧W=w')
  (he:∀W,Below w.heap.size w W→Calls QP 45 #[V ep en ec,.func (.func 46) #[] #[]] W fun e w'=>e=Qr (G eb)∧Below W.heap.size W w')
  (hd:∀W,Below w.heap.size w W→Calls QP 47 #[V dp dn dc,.func (.func 48) #[] #[]] W fun e w'=>e=Qr (G db)∧Below W.heap.size W w')
  (hq:∀W,Below w.heap.size w W→Calls QP 34 #[V fp fn fc,.func (.func 49) #[] #[]] W fun e w'=>e=Qr (G qb)∧Below W.heap.size W w') :
  Calls QP 15 #[.agg #[V tp tn tc,V imp imn imc,V fp fn fc,V tbp tbn tbc,V mp mn mc,V gp gn gc,V xp xn xc,I J st,V ep en ec,V dp dn dc,G cnt]] w fun e w'=>e=Qr (G false)∧Below w.heap.size w w':=by
 have Ht:=fun W h=>hid (ht W h)
 have Him:=fun W h=>hid (him W h)
 have Hf:=fun W h=>hid (hf W h)
 have Htb:=fun W h=>hid (htb W h)
 have Hm:=fun W h=>hid (hm W h)
 have Hg:=fun W h=>hid (hg W h)
 have Hx:=fun W h=>hid (hx W h)
 have HS:=fun W=>hid (hs W)
 have He:=fun W h=>hid (he W h)
 have Hd:=fun W h=>hid (hd W h)
 have HQ:=fun W h=>hid (hq W h)
 have HBX:=hid ((QB w.heap.size w).alloc (Ql _) (Qc #[V tp tn tc,V imp imn imc,V fp fn fc,V tbp tbn tbc,V mp mn mc,V gp gn gc,V xp xn xc,I J st,V ep en ec,V dp dn dc,G cnt] 32))
 have HX:=hid (CA.new w #[V tp tn tc,V imp imn imc,V fp fn fc,V tbp tbn tbc,V mp mn mc,V gp gn gc,V xp xn xc,I J st,V ep en ec,V dp dn dc,G cnt] 32)
 obtain ⟨x0,x1,x2,x3,x4,x5,x6,x7,x8,x9,x10⟩:=ca11 HX.out
 clear ht him hf htb hm hg hx hs he hd hq
 go_enter Tryz.func15,Tryz.ntmps15
 go_wp2_with (first
  |(go_at_call 30;(with_reducible refine (Ht _ HBX.out).out.mono ?_);rintro e w10 ⟨rfl,hb⟩;have HB0:=Qd HBX hb;have HX0:=Qe HX hb;clear x0 x1 x2 x3 x4 x5 x6 x7 x8 x9 x10;obtain ⟨x0,x1,x2,x3,x4,x5,x6,x7,x8,x9,x10⟩:=ca11 HX0.out;clear hb)
  |(go_at_call 32;(with_reducible refine (Him _ HB0.out).out.mono ?_);rintro e w11 ⟨rfl,hb⟩;have HB1:=Qd HB0 hb;have HX1:=Qe HX0 hb;clear x0 x1 x2 x3 x4 x5 x6 x7 x8 x9 x10;obtain ⟨x0,x1,x2,x3,x4,x5,x6,x7,x8,x9,x10⟩:=ca11 HX1.out;clear hb)
  |(go_at_call 34;(with_reducible refine (Hf _ HB1.out).out.mono ?_);rintro e w12 ⟨rfl,hb⟩;have HB2:=Qd HB1 hb;have HX2:=Qe HX1 hb;clear x0 x1 x2 x3 x4 x5 x6 x7 x8 x9 x10;obtain ⟨x0,x1,x2,x3,x4,x5,x6,x7,x8,x9,x10⟩:=ca11 HX2.out;clear hb))
 go_ret
 exact ⟨rfl,HB2.out⟩
theorem MayG_3 (tp imp fp tbp mp gp xp ep dp:Option Addr) (tn tc imn imc fn fc tbn tbc mn mc gn gc xn xc en ec dn dc:Nat) (tb imb fb tbb mb gb xb sb eb db qb cnt:Bool) (st:Int) (w:World)
  (ht:∀W,Below w.heap.size w W→Calls QP 30 #[V tp tn tc,.func (.func 31) #[] #[]] W fun e w'=>e=Qr (G true)∧Below W.heap.size W w')
  (him:∀W,Below w.heap.size w W→Calls QP 32 #[V imp imn imc,.func (.func 33) #[] #[]] W fun e w'=>e=Qr (G true)∧Below W.heap.size W w')
  (hf:∀W,Below w.heap.size w W→Calls QP 34 #[V fp fn fc,.func (.func 35) #[] #[]] W fun e w'=>e=Qr (G true)∧Below W.heap.size W w')
  (htb:∀W,Below w.heap.size w W→Calls QP 36 #[V tbp tbn tbc,.func (.func 37) #[] #[]] W fun e w'=>e=Qr (G false)∧Below W.heap.size W w')
  (hm:∀W,Below w.heap.size w W→Calls QP 38 #[V mp mn mc,.func (.func 39) #[] #[]] W fun e w'=>e=Qr (G mb)∧Below W.heap.size W w')
  (hg:∀W,Below w.heap.size w W→Calls QP 40 #[V gp gn gc,.func (.func 41) #[] #[]] W fun e w'=>e=Qr (G gb)∧Below W.heap.size W w')
  (hx:∀W,Below w.heap.size w W→Calls QP 42 #[V xp xn xc,.func (.func 43) #[] #[]] W fun e w'=>e=Qr (G xb)∧Below W.heap.size W w')
  (hs:∀W,Calls QP 44 #[I J st] W fun e w'=>e=Qr (G sb)∧W=w')
  (he:∀W,Below w.heap.size w W→Calls QP 45 #[V ep en ec,.func (.func 46) #[] #[]] W fun e w'=>e=Qr (G eb)∧Below W.heap.size W w')
  (hd:∀W,Below w.heap.size w W→Calls QP 47 #[V dp dn dc,.func (.func 48) #[] #[]] W fun e w'=>e=Qr (G db)∧Below W.heap.size W w')
  (hq:∀W,Below w.heap.size w W→Calls QP 34 #[V fp fn fc,.func (.func 49) #[] #[]] W fun e w'=>e=Qr (G qb)∧Below W.heap.size W w') :
  Calls QP 15 #[.agg #[V tp tn tc,V imp imn imc,V fp fn fc,V tbp tbn tbc,V mp mn mc,V gp gn gc,V xp xn xc,I J st,V ep en ec,V dp dn dc,G cnt]] w fun e w'=>e=Qr (G false)∧Below w.heap.size w w':=by
 have Ht:=fun W h=>hid (ht W h)
 have Him:=fun W h=>hid (him W h)
 have Hf:=fun W h=>hid (hf W h)
 have Htb:=fun W h=>hid (htb W h)
 have Hm:=fun W h=>hid (hm W h)
 have Hg:=fun W h=>hid (hg W h)
 have Hx:=fun W h=>hid (hx W h)
 have HS:=fun W=>hid (hs W)
 have He:=fun W h=>hid (he W h)
 have Hd:=fun W h=>hid (hd W h)
 have HQ:=fun W h=>hid (hq W h)
 have HBX:=hid ((QB w.heap.size w).alloc (Ql _) (Qc #[V tp tn tc,V imp imn imc,V fp fn fc,V tbp tbn tbc,V mp mn mc,V gp gn gc,V xp xn xc,I J st,V ep en ec,V dp dn dc,G cnt] 32))
 have HX:=hid (CA.new w #[V tp tn tc,V imp imn imc,V fp fn fc,V tbp tbn tbc,V mp mn mc,V gp gn gc,V xp xn xc,I J st,V ep en ec,V dp dn dc,G cnt] 32)
 obtain ⟨x0,x1,x2,x3,x4,x5,x6,x7,x8,x9,x10⟩:=ca11 HX.out
 clear ht him hf htb hm hg hx hs he hd hq
 go_enter Tryz.func15,Tryz.ntmps15
 go_wp2_with (first
  |(go_at_call 30;(with_reducible refine (Ht _ HBX.out).out.mono ?_);rintro e w10 ⟨rfl,hb⟩;have HB0:=Qd HBX hb;have HX0:=Qe HX hb;clear x0 x1 x2 x3 x4 x5 x6 x7 x8 x9 x10;obtain ⟨x0,x1,x2,x3,x4,x5,x6,x7,x8,x9,x10⟩:=ca11 HX0.out;clear hb)
  |(go_at_call 32;(with_reducible refine (Him _ HB0.out).out.mono ?_);rintro e w11 ⟨rfl,hb⟩;have HB1:=Qd HB0 hb;have HX1:=Qe HX0 hb;clear x0 x1 x2 x3 x4 x5 x6 x7 x8 x9 x10;obtain ⟨x0,x1,x2,x3,x4,x5,x6,x7,x8,x9,x10⟩:=ca11 HX1.out;clear hb)
  |(go_at_call 34;(with_reducible refine (Hf _ HB1.out).out.mono ?_);rintro e w12 ⟨rfl,hb⟩;have HB2:=Qd HB1 hb;have HX2:=Qe HX1 hb;clear x0 x1 x2 x3 x4 x5 x6 x7 x8 x9 x10;obtain ⟨x0,x1,x2,x3,x4,x5,x6,x7,x8,x9,x10⟩:=ca11 HX2.out;clear hb)
  |(go_at_call 36;(with_reducible refine (Htb _ HB2.out).out.mono ?_);rintro e w13 ⟨rfl,hb⟩;have HB3:=Qd HB2 hb;have HX3:=Qe HX2 hb;clear x0 x1 x2 x3 x4 x5 x6 x7 x8 x9 x10;obtain ⟨x0,x1,x2,x3,x4,x5,x6,x7,x8,x9,x10⟩:=ca11 HX3.out;clear hb))
 go_ret
 exact ⟨rfl,HB3.out⟩
theorem MayG_4 (tp imp fp tbp mp gp xp ep dp:Option Addr) (tn tc imn imc fn fc tbn tbc mn mc gn gc xn xc en ec dn dc:Nat) (tb imb fb tbb mb gb xb sb eb db qb cnt:Bool) (st:Int) (w:World)
  (ht:∀W,Below w.heap.size w W→Calls QP 30 #[V tp tn tc,.func (.func 31) #[] #[]] W fun e w'=>e=Qr (G true)∧Below W.heap.size W w')
  (him:∀W,Below w.heap.size w W→Calls QP 32 #[V imp imn imc,.func (.func 33) #[] #[]] W fun e w'=>e=Qr (G true)∧Below W.heap.size W w')
  (hf:∀W,Below w.heap.size w W→Calls QP 34 #[V fp fn fc,.func (.func 35) #[] #[]] W fun e w'=>e=Qr (G true)∧Below W.heap.size W w')
  (htb:∀W,Below w.heap.size w W→Calls QP 36 #[V tbp tbn tbc,.func (.func 37) #[] #[]] W fun e w'=>e=Qr (G true)∧Below W.heap.size W w')
  (hm:∀W,Below w.heap.size w W→Calls QP 38 #[V mp mn mc,.func (.func 39) #[] #[]] W fun e w'=>e=Qr (G false)∧Below W.heap.size W w')
  (hg:∀W,Below w.heap.size w W→Calls QP 40 #[V gp gn gc,.func (.func 41) #[] #[]] W fun e w'=>e=Qr (G gb)∧Below W.heap.size W w')
  (hx:∀W,Below w.heap.size w W→Calls QP 42 #[V xp xn xc,.func (.func 43) #[] #[]] W fun e w'=>e=Qr (G xb)∧Below W.heap.size W w')
  (hs:∀W,Calls QP 44 #[I J st] W fun e w'=>e=Qr (G sb)∧W=w')
  (he:∀W,Below w.heap.size w W→Calls QP 45 #[V ep en ec,.func (.func 46) #[] #[]] W fun e w'=>e=Qr (G eb)∧Below W.heap.size W w')
  (hd:∀W,Below w.heap.size w W→Calls QP 47 #[V dp dn dc,.func (.func 48) #[] #[]] W fun e w'=>e=Qr (G db)∧Below W.heap.size W w')
  (hq:∀W,Below w.heap.size w W→Calls QP 34 #[V fp fn fc,.func (.func 49) #[] #[]] W fun e w'=>e=Qr (G qb)∧Below W.heap.size W w') :
  Calls QP 15 #[.agg #[V tp tn tc,V imp imn imc,V fp fn fc,V tbp tbn tbc,V mp mn mc,V gp gn gc,V xp xn xc,I J st,V ep en ec,V dp dn dc,G cnt]] w fun e w'=>e=Qr (G false)∧Below w.heap.size w w':=by
 have Ht:=fun W h=>hid (ht W h)
 have Him:=fun W h=>hid (him W h)
 have Hf:=fun W h=>hid (hf W h)
 have Htb:=fun W h=>hid (htb W h)
 have Hm:=fun W h=>hid (hm W h)
 have Hg:=fun W h=>hid (hg W h)
 have Hx:=fun W h=>hid (hx W h)
 have HS:=fun W=>hid (hs W)
 have He:=fun W h=>hid (he W h)
 have Hd:=fun W h=>hid (hd W h)
 have HQ:=fun W h=>hid (hq W h)
 have HBX:=hid ((QB w.heap.size w).alloc (Ql _) (Qc #[V tp tn tc,V imp imn imc,V fp fn fc,V tbp tbn tbc,V mp mn mc,V gp gn gc,V xp xn xc,I J st,V ep en ec,V dp dn dc,G cnt] 32))
 have HX:=hid (CA.new w #[V tp tn tc,V imp imn imc,V fp fn fc,V tbp tbn tbc,V mp mn mc,V gp gn gc,V xp xn xc,I J st,V ep en ec,V dp dn dc,G cnt] 32)
 obtain ⟨x0,x1,x2,x3,x4,x5,x6,x7,x8,x9,x10⟩:=ca11 HX.out
 clear ht him hf htb hm hg hx hs he hd hq
 go_enter Tryz.func15,Tryz.ntmps15
 go_wp2_with (first
  |(go_at_call 30;(with_reducible refine (Ht _ HBX.out).out.mono ?_);rintro e w10 ⟨rfl,hb⟩;have HB0:=Qd HBX hb;have HX0:=Qe HX hb;clear x0 x1 x2 x3 x4 x5 x6 x7 x8 x9 x10;obtain ⟨x0,x1,x2,x3,x4,x5,x6,x7,x8,x9,x10⟩:=ca11 HX0.out;clear hb)
  |(go_at_call 32;(with_reducible refine (Him _ HB0.out).out.mono ?_);rintro e w11 ⟨rfl,hb⟩;have HB1:=Qd HB0 hb;have HX1:=Qe HX0 hb;clear x0 x1 x2 x3 x4 x5 x6 x7 x8 x9 x10;obtain ⟨x0,x1,x2,x3,x4,x5,x6,x7,x8,x9,x10⟩:=ca11 HX1.out;clear hb)
  |(go_at_call 34;(with_reducible refine (Hf _ HB1.out).out.mono ?_);rintro e w12 ⟨rfl,hb⟩;have HB2:=Qd HB1 hb;have HX2:=Qe HX1 hb;clear x0 x1 x2 x3 x4 x5 x6 x7 x8 x9 x10;obtain ⟨x0,x1,x2,x3,x4,x5,x6,x7,x8,x9,x10⟩:=ca11 HX2.out;clear hb)
  |(go_at_call 36;(with_reducible refine (Htb _ HB2.out).out.mono ?_);rintro e w13 ⟨rfl,hb⟩;have HB3:=Qd HB2 hb;have HX3:=Qe HX2 hb;clear x0 x1 x2 x3 x4 x5 x6 x7 x8 x9 x10;obtain ⟨x0,x1,x2,x3,x4,x5,x6,x7,x8,x9,x10⟩:=ca11 HX3.out;clear hb)
  |(go_at_call 38;(with_reducible refine (Hm _ HB3.out).out.mono ?_);rintro e w14 ⟨rfl,hb⟩;have HB4:=Qd HB3 hb;have HX4:=Qe HX3 hb;clear x0 x1 x2 x3 x4 x5 x6 x7 x8 x9 x10;obtain ⟨x0,x1,x2,x3,x4,x5,x6,x7,x8,x9,x10⟩:=ca11 HX4.out;clear hb))
 go_ret
 exact ⟨rfl,HB4.out⟩
theorem MayG_5 (tp imp fp tbp mp gp xp ep dp:Option Addr) (tn tc imn imc fn fc tbn tbc mn mc gn gc xn xc en ec dn dc:Nat) (tb imb fb tbb mb gb xb sb eb db qb cnt:Bool) (st:Int) (w:World)
  (ht:∀W,Below w.heap.size w W→Calls QP 30 #[V tp tn tc,.func (.func 31) #[] #[]] W fun e w'=>e=Qr (G true)∧Below W.heap.size W w')
  (him:∀W,Below w.heap.size w W→Calls QP 32 #[V imp imn imc,.func (.func 33) #[] #[]] W fun e w'=>e=Qr (G true)∧Below W.heap.size W w')
  (hf:∀W,Below w.heap.size w W→Calls QP 34 #[V fp fn fc,.func (.func 35) #[] #[]] W fun e w'=>e=Qr (G true)∧Below W.heap.size W w')
  (htb:∀W,Below w.heap.size w W→Calls QP 36 #[V tbp tbn tbc,.func (.func 37) #[] #[]] W fun e w'=>e=Qr (G true)∧Below W.heap.size W w')
  (hm:∀W,Below w.heap.size w W→Calls QP 38 #[V mp mn mc,.func (.func 39) #[] #[]] W fun e w'=>e=Qr (G true)∧Below W.heap.size W w')
  (hg:∀W,Below w.heap.size w W→Calls QP 40 #[V gp gn gc,.func (.func 41) #[] #[]] W fun e w'=>e=Qr (G false)∧Below W.heap.size W w')
  (hx:∀W,Below w.heap.size w W→Calls QP 42 #[V xp xn xc,.func (.func 43) #[] #[]] W fun e w'=>e=Qr (G xb)∧Below W.heap.size W w')
  (hs:∀W,Calls QP 44 #[I J st] W fun e w'=>e=Qr (G sb)∧W=w')
  (he:∀W,Below w.heap.size w W→Calls QP 45 #[V ep en ec,.func (.func 46) #[] #[]] W fun e w'=>e=Qr (G eb)∧Below W.heap.size W w')
  (hd:∀W,Below w.heap.size w W→Calls QP 47 #[V dp dn dc,.func (.func 48) #[] #[]] W fun e w'=>e=Qr (G db)∧Below W.heap.size W w')
  (hq:∀W,Below w.heap.size w W→Calls QP 34 #[V fp fn fc,.func (.func 49) #[] #[]] W fun e w'=>e=Qr (G qb)∧Below W.heap.size W w') :
  Calls QP 15 #[.agg #[V tp tn tc,V imp imn imc,V fp fn fc,V tbp tbn tbc,V mp mn mc,V gp gn gc,V xp xn xc,I J st,V ep en ec,V dp dn dc,G cnt]] w fun e w'=>e=Qr (G false)∧Below w.heap.size w w':=by
 have Ht:=fun W h=>hid (ht W h)
 have Him:=fun W h=>hid (him W h)
 have Hf:=fun W h=>hid (hf W h)
 have Htb:=fun W h=>hid (htb W h)
 have Hm:=fun W h=>hid (hm W h)
 have Hg:=fun W h=>hid (hg W h)
 have Hx:=fun W h=>hid (hx W h)
 have HS:=fun W=>hid (hs W)
 have He:=fun W h=>hid (he W h)
 have Hd:=fun W h=>hid (hd W h)
 have HQ:=fun W h=>hid (hq W h)
 have HBX:=hid ((QB w.heap.size w).alloc (Ql _) (Qc #[V tp tn tc,V imp imn imc,V fp fn fc,V tbp tbn tbc,V mp mn mc,V gp gn gc,V xp xn xc,I J st,V ep en ec,V dp dn dc,G cnt] 32))
 have HX:=hid (CA.new w #[V tp tn tc,V imp imn imc,V fp fn fc,V tbp tbn tbc,V mp mn mc,V gp gn gc,V xp xn xc,I J st,V ep en ec,V dp dn dc,G cnt] 32)
 obtain ⟨x0,x1,x2,x3,x4,x5,x6,x7,x8,x9,x10⟩:=ca11 HX.out
 clear ht him hf htb hm hg hx hs he hd hq
 go_enter Tryz.func15,Tryz.ntmps15
 go_wp2_with (first
  |(go_at_call 30;(with_reducible refine (Ht _ HBX.out).out.mono ?_);rintro e w10 ⟨rfl,hb⟩;have HB0:=Qd HBX hb;have HX0:=Qe HX hb;clear x0 x1 x2 x3 x4 x5 x6 x7 x8 x9 x10;obtain ⟨x0,x1,x2,x3,x4,x5,x6,x7,x8,x9,x10⟩:=ca11 HX0.out;clear hb)
  |(go_at_call 32;(with_reducible refine (Him _ HB0.out).out.mono ?_);rintro e w11 ⟨rfl,hb⟩;have HB1:=Qd HB0 hb;have HX1:=Qe HX0 hb;clear x0 x1 x2 x3 x4 x5 x6 x7 x8 x9 x10;obtain ⟨x0,x1,x2,x3,x4,x5,x6,x7,x8,x9,x10⟩:=ca11 HX1.out;clear hb)
  |(go_at_call 34;(with_reducible refine (Hf _ HB1.out).out.mono ?_);rintro e w12 ⟨rfl,hb⟩;have HB2:=Qd HB1 hb;have HX2:=Qe HX1 hb;clear x0 x1 x2 x3 x4 x5 x6 x7 x8 x9 x10;obtain ⟨x0,x1,x2,x3,x4,x5,x6,x7,x8,x9,x10⟩:=ca11 HX2.out;clear hb)
  |(go_at_call 36;(with_reducible refine (Htb _ HB2.out).out.mono ?_);rintro e w13 ⟨rfl,hb⟩;have HB3:=Qd HB2 hb;have HX3:=Qe HX2 hb;clear x0 x1 x2 x3 x4 x5 x6 x7 x8 x9 x10;obtain ⟨x0,x1,x2,x3,x4,x5,x6,x7,x8,x9,x10⟩:=ca11 HX3.out;clear hb)
  |(go_at_call 38;(with_reducible refine (Hm _ HB3.out).out.mono ?_);rintro e w14 ⟨rfl,hb⟩;have HB4:=Qd HB3 hb;have HX4:=Qe HX3 hb;clear x0 x1 x2 x3 x4 x5 x6 x7 x8 x9 x10;obtain ⟨x0,x1,x2,x3,x4,x5,x6,x7,x8,x9,x10⟩:=ca11 HX4.out;clear hb)
  |(go_at_call 40;(with_reducible refine (Hg _ HB4.out).out.mono ?_);rintro e w15 ⟨rfl,hb⟩;have HB5:=Qd HB4 hb;have HX5:=Qe HX4 hb;clear x0 x1 x2 x3 x4 x5 x6 x7 x8 x9 x10;obtain ⟨x0,x1,x2,x3,x4,x5,x6,x7,x8,x9,x10⟩:=ca11 HX5.out;clear hb))
 go_ret
 exact ⟨rfl,HB5.out⟩
end Go.Proofs.YtjgeedgphcjhoaaGreat
