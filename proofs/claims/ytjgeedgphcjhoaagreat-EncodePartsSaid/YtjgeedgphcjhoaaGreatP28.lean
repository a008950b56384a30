/-
  What reads as a module is a module in memory. Condition: no list is longer than a machine holds.
-/
import Derived.Test.YtjgeedgphcjhoaaGreatS06
import Derived.Test.YtjgeedgphcjhoaaGreatS01
import Derived.ShutString
set_option linter.unusedSimpArgs false
set_option linter.unusedVariables false
set_option maxRecDepth 100000
set_option maxHeartbeats 64000000
namespace Go.Proofs.YtjgeedgphcjhoaaGreat
open Go.RowKit
open Value renaming int → I,slice → V
open IntKind renaming i64 → J
open _root_.Go.Proofs.Tryz renaming prog → QP
open Nat renaming zero_le → Qz
section
open Go.ChangeShapes Go.WideShapes Go.ChangeAt
theorem pick {α:Type} (d:α) {n:Nat} {P:Nat→α→Prop} (h:∀i,i<n→∃a,P i a):∃f:Nat→α,∀i,i<n→P i (f i) :=
 ⟨fun i=>if h':i<n then Classical.choose (h i h') else d,fun i hi=>by simp only[hi,dif_pos];exact Classical.choose_spec (h i hi)⟩
theorem c52:Tryz.prog.cellsOf 52=1:=by kernel_rfl
theorem c60:Tryz.prog.cellsOf 60=1:=by kernel_rfl
theorem c62:Tryz.prog.cellsOf 62=5:=by kernel_rfl
theorem c64:Tryz.prog.cellsOf 64=4:=by kernel_rfl
theorem byp37:1≤Tryz.prog.bytesOf 37:=by
 have:decide (1≤Tryz.prog.bytesOf 37)=true:=by kernel_rfl
 exact of_decide_eq_true this
theorem byp5:1≤Tryz.prog.bytesOf 5:=by
 have:decide (1≤Tryz.prog.bytesOf 5)=true:=by kernel_rfl
 exact of_decide_eq_true this
theorem c5':Tryz.prog.cellsOf 5=1:=by kernel_rfl
section
variable {H:Type} {enc:TypeId × Value→H} {W:World} {sp:Nat→Bool} {held:Bool}
theorem open_rows {fuel N:Nat} {T E:TypeId} {v:Value} {x:DataW H × List MemPlace} (hu:Tryz.prog.underlying T=some (.slice E)) (hN:Tryz.prog.cellsOf E=N) (hN0:0<N) (hby:1≤Tryz.prog.bytesOf E)
  (h:DataW.trod enc QP W 0 sp held fuel T [v]=some x) (hw:WB T x.1) :
  ∃p n c b o,v=V p n c∧n≤reachBytes∧(n≠0→p=some ⟨b,o,none⟩∧b<W.heap.size)∧∀i,i<n→∃cs m y,m<fuel∧DataW.trod enc QP W 0 sp held m E cs=some y∧WB E y.1∧cs.length=N∧∀k z,cs[k]?=some z→W.cell? ⟨b,o+i*N+k,none⟩=some z:=by
 rcases DataW.trod_slice hu h with ⟨hc,rfl⟩|⟨a,len,cap,elems,rest,n,rfl,hc,rfl,hb,hl,hm,he,hat,_,_⟩
 ·obtain rfl:v=V none 0 0:=by simpa using hc
  exact ⟨none,0,0,0,0,rfl,Qz _,fun h=>absurd rfl h,fun i hi=>absurd hi (by omega)⟩
 ·obtain rfl:v=V (some a) len cap:=by simpa using hc
  obtain ⟨hs,hel⟩:=wb_slice hu hw
  simp only[List.length_map]at hs
  have hlen:len≤reachBytes:=by
   have h1:(elems.length+rest.length)*1≤(elems.length+rest.length)*Tryz.prog.bytesOf E:=Nat.mul_le_mul_left _ hby
   omega
  have hnode:∀i,i<len→∃cs y,DataW.trod enc QP W 0 sp held n E cs=some y∧WB E y.1∧cs.length=N∧∀k,k<N→W.cell? ((a.add (i*N)).add k)=cs[k]?:=by
   intro i hi
   have h1:=hat i hi
   rw[hN]at h1
   obtain ⟨y,hy⟩:∃y,elems[i]?=some y:=⟨_,List.getElem?_eq_getElem (by omega)⟩
   rw[hy]at h1
   obtain ⟨cs,hcs,htr⟩:=Option.bind_eq_some_iff.1 h1
   obtain ⟨_,hlen,hcell⟩:=World.cells?_some hcs
   exact ⟨cs,y,htr,hel y.1 (List.mem_map.2 ⟨y,List.mem_of_getElem? hy,rfl⟩),hlen,hcell⟩
  rcases Nat.eq_zero_or_pos len with h0|hpos
  ·subst h0
   exact ⟨some a,0,cap,0,0,rfl,Qz _,fun h=>absurd rfl h,fun i hi=>absurd hi (by omega)⟩
  ·obtain ⟨cs0,y0,_,_,hl0,hc0⟩:=hnode 0 hpos
   have hc00:=hc0 0 hN0
   rw[Nat.zero_mul,add_zero',List.getElem?_eq_getElem (show 0<cs0.length by rw[hl0];exact hN0)]at hc00
   have hsp:a.spot=none:=spot_none hc00
   have hlt:a.block<W.heap.size:=by
    have h2:(⟨a.block,a.off+0,none⟩:Addr).block<W.heap.size:=World.block_lt_of_cell? _ _ (cell_plain hsp hc00)
    exact h2
   refine ⟨some a,len,cap,a.block,a.off,rfl,hlen,fun _=>⟨by cases a;simp_all,hlt⟩,fun i hi=>?_⟩
   obtain ⟨cs,y,h1,h2,h3,h4⟩:=hnode i hi
   refine ⟨cs,n,y,Nat.lt_succ_self _,h1,h2,h3,fun k z hz=>?_⟩
   have hk:k<N:=by have:=(List.getElem?_eq_some_iff.1 hz).1;omega
   have h5:=(h4 k hk).trans hz
   have hs2:(a.add (i*N)).spot=none:=by
    unfold Addr.add
    split
    ·exact hsp
    ·rfl
   have h6:=cell_plain hs2 h5
   have e1:(a.add (i*N)).block=a.block:=by unfold Addr.add;split<;>rfl
   have e2:(a.add (i*N)).off=a.off+i*N:=by
    unfold Addr.add
    split
    ·omega
    ·rfl
   rw[e1,e2]at h6
   exact h6
theorem open_I {n:Nat} {v:Value} {y:DataW H × List MemPlace} (h:DataW.trod enc QP W 0 sp held n 3 [v]=some y):∃z:Int,v=I J z∧i64B z:=by
 obtain ⟨z,e,_,wz⟩:=DataW.trod_int Tryz.underlying3 h
 have bz:=bounds_i64 wz
 exact ⟨z,by simpa using e,⟨bz.1,by have:=bz.2;omega⟩⟩
theorem open_L {n:Nat} {v:Value} {y:DataW H × List MemPlace} (h:DataW.trod enc QP W 0 sp held n 36 [v]=some y) (hw:WB 36 y.1):∃l p c,v=V p (List.length l) c∧LO W.heap.size W p c l:=by
 obtain ⟨l,p,c,rfl,h1,h2⟩:=open_listN h hw
 exact ⟨l,p,c,rfl,h1,h2⟩
theorem open_C {n:Nat} {v:Value} {y:DataW H × List MemPlace} (h:DataW.trod enc QP W 0 sp held n 37 [v]=some y) (hw:WB 37 y.1):∃f p c,v=V p (Fo.len f) c∧CO W.heap.size W p c f:=by
 obtain ⟨f,hs,h1,h2,h3⟩:=open_codeN n v y h hw
 obtain ⟨p,c,g',o',rfl,e2,e3⟩:=id hs
 exact ⟨f,p,c,rfl,hs,h1,h2,h3⟩
theorem open_Y {n:Nat} {v:Value} {y:DataW H × List MemPlace} (h:DataW.trod enc QP W 0 sp held n 52 [v]=some y) (hw:WB 52 y.1):∃l p c,v=V p (List.length l) c∧YO W.heap.size W p c l:=by
 obtain ⟨p,len,c,b,o,rfl,hn,hp,hi⟩:=open_rows Tryz.underlying52 c5' (by decide) byp5 h hw
 have hq:∀i,i<len→∃x:UInt8,W.cell? ⟨b,o+i,none⟩=some (.int .u8 (x.toNat:Nat)):=by
  intro i hl
  obtain ⟨cs,m,y,_,htr,_,hc,hz⟩:=hi i hl
  obtain ⟨z,rfl,_,wz⟩:=DataW.trod_int Tryz.underlying5 htr
  have bz:=bounds_u8 wz
  refine ⟨z.toNat.toUInt8,?_⟩
  have:=hz 0 _ rfl
  rw[Nat.mul_one]at this
  rw[show ((z.toNat.toUInt8.toNat:Nat):Int)=z by
   have:z.toNat.toUInt8.toNat=z.toNat:=by
    show (UInt8.ofNat z.toNat).toNat=_
    rw[UInt8.toNat_ofNat']
    have:=bz.1;have:=bz.2
    omega
   rw[this]
   have:=bz.1
   omega]
  exact this
 obtain ⟨f,hf⟩:=pick 0 hq
 refine ⟨(List.range len).map f,p,c,by simp,by simpa using hn,fun hne=>?_⟩
 have hpos:len≠0:=by
  rintro rfl
  simp at hne
 obtain ⟨e,hb⟩:=hp hpos
 refine ⟨b,o,e,hb,fun j x hj=>?_⟩
 have hjl:j<len:=by
  have:=(List.getElem?_eq_some_iff.1 hj).1
  simpa using this
 simp[List.getElem?_map,List.getElem?_range hjl]at hj
 rw[←hj]
 exact hf j hjl
theorem open_K {n:Nat} {v:Value} {y:DataW H × List MemPlace} (h:DataW.trod enc QP W 0 sp held n 60 [v]=some y) (hw:WB 60 y.1):∃(len:Nat) (p:Option Addr) (c b o:Nat) (g:Nat→Fo) (q:Nat→Option Addr) (d:Nat→Nat),v=V p len c∧KO W.heap.size W p len b o g q d:=by
 obtain ⟨p,len,c,b,o,rfl,hn,hp,hi⟩:=open_rows Tryz.underlying60 c37 (by decide) byp37 h hw
 have hq:∀i,i<len→∃x:Fo × Option Addr × Nat,W.cell? ⟨b,o+i*1+0,none⟩=some (V x.2.1 x.1.len x.2.2)∧CO W.heap.size W x.2.1 x.2.2 x.1:=by
  intro i hl
  obtain ⟨cs,m,y,_,htr,hwy,hc,hz⟩:=hi i hl
  obtain ⟨u,rfl⟩:∃u,cs=[u]:=by
   match cs,hc with
   | [_],_=>exact ⟨_,rfl⟩
  obtain ⟨f,q,d,rfl,hf⟩:=open_C htr hwy
  exact ⟨⟨f,q,d⟩,hz 0 _ rfl,hf⟩
 obtain ⟨f,hf⟩:=pick (.nil,none,0) hq
 refine ⟨len,p,c,b,o,fun i=>(f i).1,fun i=>(f i).2.1,fun i=>(f i).2.2,rfl,⟨by simp[reachBytes]at hn ⊢;omega,hp,fun i hi k z hk=>?_⟩,fun i hi=>(hf i hi).2⟩
 match k,hk with
 |0,hk =>
  obtain rfl:=Option.some.inj hk
  exact (hf i hi).1
 |k+1,hk=>simp at hk
theorem fields62:∃f0 f1 f2 f3 f4:Field,Tryz.prog.underlying 62=some (.struct #[f0,f1,f2,f3,f4])∧(f0.type=3∧f1.type=3∧f2.type=3∧f3.type=37∧f4.type=60)∧(f0.offset=0∧f1.offset=1∧f2.offset=2∧f3.offset=3∧f4.offset=4) :=
 ⟨_,_,_,_,_,Tryz.underlying62,⟨rfl,rfl,rfl,rfl,rfl⟩,⟨rfl,rfl,rfl,rfl,rfl⟩⟩
theorem open_62 {n:Nat} {cs:List Value} {y:DataW H × List MemPlace} (h:DataW.trod enc QP W 0 sp held n 62 cs=some y) (hw:WB 62 y.1):∃(r:Int) (m:Int) (t:Int) (f:Fo) (pf:Option Addr) (cf:Nat) (ng:Nat) (pg:Option Addr) (cg:Nat) (bg:Nat) (og:Nat) (g:Nat→Fo) (qg:Nat→Option Addr) (dg:Nat→Nat),cs=[I J r,I J m,I J t,V pf f.len cf,V pg ng cg]∧i64B r∧i64B m∧i64B t∧CO W.heap.size W pf cf f∧KO W.heap.size W pg ng bg og g qg dg:=by
 obtain ⟨f0,f1,f2,f3,f4,hu,⟨t0,t1,t2,t3,t4⟩,⟨o0,o1,o2,o3,o4⟩⟩:=fields62
 obtain ⟨xs,m,rfl,hx,hl,hlen,hat⟩:=DataW.trod_struct hu h
 rw[c62]at hl
 obtain ⟨k0,k1,k2,k3,k4,rfl⟩:∃k0 k1 k2 k3 k4,cs=[k0,k1,k2,k3,k4]:=by
  match cs,hl with
  | [_,_,_,_,_],_=>exact ⟨_,_,_,_,_,rfl⟩
 obtain ⟨y0,y1,y2,y3,y4,rfl⟩:∃y0 y1 y2 y3 y4,xs=[y0,y1,y2,y3,y4]:=by
  match xs,hlen with
  | [_,_,_,_,_],_=>exact ⟨_,_,_,_,_,rfl⟩
 rw[hx]at hw
 have h0:=hat 0 f0 rfl
 rw[t0,o0,c3]at h0
 have q0:=wb_part hu hw 0 f0 y0.1 rfl rfl
 rw[t0]at q0
 obtain ⟨v0_,e0,g0⟩:=open_I (v:=k0) h0
 subst e0
 have h1:=hat 1 f1 rfl
 rw[t1,o1,c3]at h1
 have q1:=wb_part hu hw 1 f1 y1.1 rfl rfl
 rw[t1]at q1
 obtain ⟨v1_,e1,g1⟩:=open_I (v:=k1) h1
 subst e1
 have h2:=hat 2 f2 rfl
 rw[t2,o2,c3]at h2
 have q2:=wb_part hu hw 2 f2 y2.1 rfl rfl
 rw[t2]at q2
 obtain ⟨v2_,e2,g2⟩:=open_I (v:=k2) h2
 subst e2
 have h3:=hat 3 f3 rfl
 rw[t3,o3,c37]at h3
 have q3:=wb_part hu hw 3 f3 y3.1 rfl rfl
 rw[t3]at q3
 obtain ⟨v3_,pv3_,cv3_,e3,g3⟩:=open_C (v:=k3) h3 q3
 subst e3
 have h4:=hat 4 f4 rfl
 rw[t4,o4,c60]at h4
 have q4:=wb_part hu hw 4 f4 y4.1 rfl rfl
 rw[t4]at q4
 obtain ⟨nv4_,pv4_,cv4_,bv4_,ov4_,v4_,qv4_,dv4_,e4,g4⟩:=open_K (v:=k4) h4 q4
 subst e4
 exact ⟨v0_,v1_,v2_,v3_,pv3_,cv3_,nv4_,pv4_,cv4_,bv4_,ov4_,v4_,qv4_,dv4_,rfl,g0,g1,g2,g3,g4⟩
theorem fields64:∃f0 f1 f2 f3:Field,Tryz.prog.underlying 64=some (.struct #[f0,f1,f2,f3])∧(f0.type=3∧f1.type=3∧f2.type=37∧f3.type=52)∧(f0.offset=0∧f1.offset=1∧f2.offset=2∧f3.offset=3) :=
 ⟨_,_,_,_,Tryz.underlying64,⟨rfl,rfl,rfl,rfl⟩,⟨rfl,rfl,rfl,rfl⟩⟩
theorem open_64 {n:Nat} {cs:List Value} {y:DataW H × List MemPlace} (h:DataW.trod enc QP W 0 sp held n 64 cs=some y) (hw:WB 64 y.1):∃(m:Int) (t:Int) (f:Fo) (pf:Option Addr) (cf:Nat) (b:List UInt8) (pb:Option Addr) (cb:Nat),cs=[I J m,I J t,V pf f.len cf,V pb b.length cb]∧i64B m∧i64B t∧CO W.heap.size W pf cf f∧YO W.heap.size W pb cb b:=by
 obtain ⟨f0,f1,f2,f3,hu,⟨t0,t1,t2,t3⟩,⟨o0,o1,o2,o3⟩⟩:=fields64
 obtain ⟨xs,m,rfl,hx,hl,hlen,hat⟩:=DataW.trod_struct hu h
 rw[c64]at hl
 obtain ⟨k0,k1,k2,k3,rfl⟩:∃k0 k1 k2 k3,cs=[k0,k1,k2,k3]:=by
  match cs,hl with
  | [_,_,_,_],_=>exact ⟨_,_,_,_,rfl⟩
 obtain ⟨y0,y1,y2,y3,rfl⟩:∃y0 y1 y2 y3,xs=[y0,y1,y2,y3]:=by
  match xs,hlen with
  | [_,_,_,_],_=>exact ⟨_,_,_,_,rfl⟩
 rw[hx]at hw
 have h0:=hat 0 f0 rfl
 rw[t0,o0,c3]at h0
 have q0:=wb_part hu hw 0 f0 y0.1 rfl rfl
 rw[t0]at q0
 obtain ⟨v0_,e0,g0⟩:=open_I (v:=k0) h0
 subst e0
 have h1:=hat 1 f1 rfl
 rw[t1,o1,c3]at h1
 have q1:=wb_part hu hw 1 f1 y1.1 rfl rfl
 rw[t1]at q1
 obtain ⟨v1_,e1,g1⟩:=open_I (v:=k1) h1
 subst e1
 have h2:=hat 2 f2 rfl
 rw[t2,o2,c37]at h2
 have q2:=wb_part hu hw 2 f2 y2.1 rfl rfl
 rw[t2]at q2
 obtain ⟨v2_,pv2_,cv2_,e2,g2⟩:=open_C (v:=k2) h2 q2
 subst e2
 have h3:=hat 3 f3 rfl
 rw[t3,o3,c52]at h3
 have q3:=wb_part hu hw 3 f3 y3.1 rfl rfl
 rw[t3]at q3
 obtain ⟨v3_,pv3_,cv3_,e3,g3⟩:=open_Y (v:=k3) h3 q3
 subst e3
 exact ⟨v0_,v1_,v2_,pv2_,cv2_,v3_,pv3_,cv3_,rfl,g0,g1,g2,g3⟩
end
end
end Go.Proofs.YtjgeedgphcjhoaaGreat
