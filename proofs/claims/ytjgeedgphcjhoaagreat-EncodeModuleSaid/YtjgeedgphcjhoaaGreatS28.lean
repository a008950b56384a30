/-
  MOpen: merged, what the law does not reach left out (each text says what it holds where it lies in wip). No condition.
-/
import Derived.Test.YtjgeedgphcjhoaaGreatS06
import Derived.ShutString
import Derived.Test.YtjgeedgphcjhoaaGreatS01
set_option linter.unusedSimpArgs false
set_option linter.unusedVariables false
set_option maxRecDepth 100000
set_option maxHeartbeats 64000000
namespace Go.Proofs.YtjgeedgphcjhoaaGreat
open Go.RowKit
open Value renaming int → I,slice → V,bool → G,string → Qs
open IntKind renaming i64 → J
open _root_.Go.Proofs.Tryz renaming prog → QP
open Nat renaming zero_le → Qz
section
open Go.ChangeShapes Go.WideShapes Go.ChangeAt
theorem pick {α:Type} (d:α) {n:Nat} {P:Nat→α→Prop} (h:∀i,i<n→∃a,P i a):∃f:Nat→α,∀i,i<n→P i (f i) :=
 ⟨fun i=>if h':i<n then Classical.choose (h i h') else d,fun i hi=>by simp only[hi,dif_pos];exact Classical.choose_spec (h i hi)⟩
theorem c9:Tryz.prog.cellsOf 9=1:=by kernel_rfl
theorem c22:Tryz.prog.cellsOf 22=1:=by kernel_rfl
theorem c23:Tryz.prog.cellsOf 23=1:=by kernel_rfl
theorem c24:Tryz.prog.cellsOf 24=1:=by kernel_rfl
theorem c25:Tryz.prog.cellsOf 25=1:=by kernel_rfl
theorem c26:Tryz.prog.cellsOf 26=1:=by kernel_rfl
theorem c27:Tryz.prog.cellsOf 27=1:=by kernel_rfl
theorem c28:Tryz.prog.cellsOf 28=1:=by kernel_rfl
theorem c29:Tryz.prog.cellsOf 29=1:=by kernel_rfl
theorem c30:Tryz.prog.cellsOf 30=1:=by kernel_rfl
theorem c32:Tryz.prog.cellsOf 32=11:=by kernel_rfl
theorem c42:Tryz.prog.cellsOf 42=3:=by kernel_rfl
theorem c44:Tryz.prog.cellsOf 44=2:=by kernel_rfl
theorem c46:Tryz.prog.cellsOf 46=3:=by kernel_rfl
theorem c52:Tryz.prog.cellsOf 52=1:=by kernel_rfl
theorem c60:Tryz.prog.cellsOf 60=1:=by kernel_rfl
theorem c62:Tryz.prog.cellsOf 62=5:=by kernel_rfl
theorem c64:Tryz.prog.cellsOf 64=4:=by kernel_rfl
theorem c67:Tryz.prog.cellsOf 67=2:=by kernel_rfl
theorem c70:Tryz.prog.cellsOf 70=3:=by kernel_rfl
theorem c72:Tryz.prog.cellsOf 72=4:=by kernel_rfl
theorem c74:Tryz.prog.cellsOf 74=13:=by kernel_rfl
theorem c76:Tryz.prog.cellsOf 76=3:=by kernel_rfl
theorem byp67:1≤Tryz.prog.bytesOf 67:=by
 have:decide (1≤Tryz.prog.bytesOf 67)=true:=by kernel_rfl
 exact of_decide_eq_true this
theorem byp74:1≤Tryz.prog.bytesOf 74:=by
 have:decide (1≤Tryz.prog.bytesOf 74)=true:=by kernel_rfl
 exact of_decide_eq_true this
theorem byp42:1≤Tryz.prog.bytesOf 42:=by
 have:decide (1≤Tryz.prog.bytesOf 42)=true:=by kernel_rfl
 exact of_decide_eq_true this
theorem byp72:1≤Tryz.prog.bytesOf 72:=by
 have:decide (1≤Tryz.prog.bytesOf 72)=true:=by kernel_rfl
 exact of_decide_eq_true this
theorem byp70:1≤Tryz.prog.bytesOf 70:=by
 have:decide (1≤Tryz.prog.bytesOf 70)=true:=by kernel_rfl
 exact of_decide_eq_true this
theorem byp46:1≤Tryz.prog.bytesOf 46:=by
 have:decide (1≤Tryz.prog.bytesOf 46)=true:=by kernel_rfl
 exact of_decide_eq_true this
theorem byp76:1≤Tryz.prog.bytesOf 76:=by
 have:decide (1≤Tryz.prog.bytesOf 76)=true:=by kernel_rfl
 exact of_decide_eq_true this
theorem byp62:1≤Tryz.prog.bytesOf 62:=by
 have:decide (1≤Tryz.prog.bytesOf 62)=true:=by kernel_rfl
 exact of_decide_eq_true this
theorem byp64:1≤Tryz.prog.bytesOf 64:=by
 have:decide (1≤Tryz.prog.bytesOf 64)=true:=by kernel_rfl
 exact of_decide_eq_true this
theorem byp37:1≤Tryz.prog.bytesOf 37:=by
 have:decide (1≤Tryz.prog.bytesOf 37)=true:=by kernel_rfl
 exact of_decide_eq_true this
theorem byp5:1≤Tryz.prog.bytesOf 5:=by
 have:decide (1≤Tryz.prog.bytesOf 5)=true:=by kernel_rfl
 exact of_decide_eq_true this
theorem c5':Tryz.prog.cellsOf 5=1:=by kernel_rfl
section
variable {H:Type} {enc:TypeId × Value→H} {W:World} {sp:Nat→Bool} {held:Bool}
theorem open_rows {fuel N:Nat} {T E:TypeId} {v:Value} {x:DataW H × List MemPlace} (hu:Tryz.prog.underlying T=some (.slice E)) (hN:Tryz.prog.cellsOf E=N) (hN0:0<N) (hby:1≤Tryz.prog.bytesOf E)
  (h:DataW.trod enc QP W 0 sp held fuel T [v]=some x) (hw:WB T x.1) :
  ∃p n c b o,v=V p n c∧n≤reachBytes∧(n≠0→p=some ⟨b,o,none⟩∧b<W.heap.size)∧∀i,i<n→∃cs m y,m<fuel∧DataW.trod enc QP W 0 sp held m E cs=some y∧WB E y.1∧cs.length=N∧∀k z,cs[k]?=some z→W.cell? ⟨b,o+i*N+k,none⟩=some z:=by
 rcases DataW.trod_slice hu h with ⟨hc,rfl⟩|⟨a,len,cap,elems,rest,n,rfl,hc,rfl,hb,hl,hm,he,hat,_,_⟩
 ·obtain rfl:v=V none 0 0:=by simpa using hc
  exact ⟨none,0,0,0,0,rfl,Qz _,fun h=>absurd rfl h,fun i hi=>absurd hi (by omega)⟩
 obtain rfl:v=V (some a) len cap:=by simpa using hc
 obtain ⟨hs,hel⟩:=wb_slice hu hw
 simp only[List.length_map]at hs
 have hlen:len≤reachBytes:=by
  have h1:(elems.length+rest.length)*1≤(elems.length+rest.length)*Tryz.prog.bytesOf E:=Nat.mul_le_mul_left _ hby
  omega
 have hnode:∀i,i<len→∃cs y,DataW.trod enc QP W 0 sp held n E cs=some y∧WB E y.1∧cs.length=N∧∀k,k<N→W.cell? ((a.add (i*N)).add k)=cs[k]?:=by
  intro i hi
  have h1:=hat i hi
  rw[hN]at h1
  obtain ⟨y,hy⟩:∃y,elems[i]?=some y:=⟨_,List.getElem?_eq_getElem (by omega)⟩
  rw[hy]at h1
  obtain ⟨cs,hcs,htr⟩:=Option.bind_eq_some_iff.1 h1
  obtain ⟨_,hlen,hcell⟩:=World.cells?_some hcs
  exact ⟨cs,y,htr,hel y.1 (List.mem_map.2 ⟨y,List.mem_of_getElem? hy,rfl⟩),hlen,hcell⟩
 rcases Nat.eq_zero_or_pos len with h0|hpos
 ·subst h0
  exact ⟨some a,0,cap,0,0,rfl,Qz _,fun h=>absurd rfl h,fun i hi=>absurd hi (by omega)⟩
 obtain ⟨cs0,y0,_,_,hl0,hc0⟩:=hnode 0 hpos
 have hc00:=hc0 0 hN0
 rw[Nat.zero_mul,add_zero',List.getElem?_eq_getElem (show 0<cs0.length by rw[hl0];exact hN0)]at hc00
 have hsp:a.spot=none:=spot_none hc00
 have hlt:a.block<W.heap.size:=by
  have h2:(⟨a.block,a.off+0,none⟩:Addr).block<W.heap.size:=World.block_lt_of_cell? _ _ (cell_plain hsp hc00)
  exact h2
 refine ⟨some a,len,cap,a.block,a.off,rfl,hlen,fun _=>⟨by cases a;simp_all,hlt⟩,fun i hi=>?_⟩
 obtain ⟨cs,y,h1,h2,h3,h4⟩:=hnode i hi
 refine ⟨cs,n,y,Nat.lt_succ_self _,h1,h2,h3,fun k z hz=>?_⟩
 have hk:k<N:=by have:=(List.getElem?_eq_some_iff.1 hz).1;omega
 have h5:=(h4 k hk).trans hz
 have hs2:(a.add (i*N)).spot=none:=by
  unfold Addr.add
  split
  ·exact hsp
  rfl
 have h6:=cell_plain hs2 h5
 have e1:(a.add (i*N)).block=a.block:=by unfold Addr.add;split<;>rfl
 have e2:(a.add (i*N)).off=a.off+i*N:=by
  unfold Addr.add
  split
  ·omega
  rfl
 rw[e1,e2]at h6
 exact h6
theorem open_I {n:Nat} {v:Value} {y:DataW H × List MemPlace} (h:DataW.trod enc QP W 0 sp held n 3 [v]=some y):∃z:Int,v=I J z∧i64B z:=by
 obtain ⟨z,e,_,wz⟩:=DataW.trod_int Tryz.underlying3 h
 have bz:=bounds_i64 wz
 exact ⟨z,by simpa using e,⟨bz.1,by have:=bz.2;omega⟩⟩
theorem open_B {n:Nat} {v:Value} {y:DataW H × List MemPlace} (h:DataW.trod enc QP W 0 sp held n 4 [v]=some y):∃z:Bool,v=G z:=by
 obtain ⟨z,e,_⟩:=DataW.trod_bool Tryz.underlying4 h
 exact ⟨z,by simpa using e⟩
theorem open_S {n:Nat} {v:Value} {y:DataW H × List MemPlace} (h:DataW.trod enc QP W 0 sp held n 9 [v]=some y) (hw:WB 9 y.1):∃s:ByteArray,v=Qs s∧s.size≤reachBytes:=by
 obtain ⟨s,e,hy,_⟩:=DataW.trod_string Tryz.underlying9 h
 refine ⟨s,by simpa using e,?_⟩
 rw[hy]at hw
 have:=hw s.data.toList.length (by simp[DataW.weights])
 simpa using this
theorem open_L {n:Nat} {v:Value} {y:DataW H × List MemPlace} (h:DataW.trod enc QP W 0 sp held n 36 [v]=some y) (hw:WB 36 y.1):∃l p c,v=V p (List.length l) c∧LO W.heap.size W p c l:=by
 obtain ⟨l,p,c,rfl,h1,h2⟩:=open_listN h hw
 exact ⟨l,p,c,rfl,h1,h2⟩
theorem open_C {n:Nat} {v:Value} {y:DataW H × List MemPlace} (h:DataW.trod enc QP W 0 sp held n 37 [v]=some y) (hw:WB 37 y.1):∃f p c,v=V p (Fo.len f) c∧CO W.heap.size W p c f:=by
 obtain ⟨f,hs,h1,h2,h3⟩:=open_codeN n v y h hw
 obtain ⟨p,c,g',o',rfl,e2,e3⟩:=id hs
 exact ⟨f,p,c,rfl,hs,h1,h2,h3⟩
theorem open_Y {n:Nat} {v:Value} {y:DataW H × List MemPlace} (h:DataW.trod enc QP W 0 sp held n 52 [v]=some y) (hw:WB 52 y.1):∃l p c,v=V p (List.length l) c∧YO W.heap.size W p c l:=by
 obtain ⟨p,len,c,b,o,rfl,hn,hp,hi⟩:=open_rows Tryz.underlying52 c5' (by decide) byp5 h hw
 have hq:∀i,i<len→∃x:UInt8,W.cell? ⟨b,o+i,none⟩=some (.int .u8 (x.toNat:Nat)):=by
  intro i hl
  obtain ⟨cs,m,y,_,htr,_,hc,hz⟩:=hi i hl
  obtain ⟨z,rfl,_,wz⟩:=DataW.trod_int Tryz.underlying5 htr
  have bz:=bounds_u8 wz
  refine ⟨z.toNat.toUInt8,?_⟩
  have:=hz 0 _ rfl
  rw[Nat.mul_one]at this
  rw[show ((z.toNat.toUInt8.toNat:Nat):Int)=z by
   have:z.toNat.toUInt8.toNat=z.toNat:=by
    show (UInt8.ofNat z.toNat).toNat=_
    rw[UInt8.toNat_ofNat']
    have:=bz.1;have:=bz.2
    omega
   rw[this]
   have:=bz.1
   omega]
  exact this
 obtain ⟨f,hf⟩:=pick 0 hq
 refine ⟨(List.range len).map f,p,c,by simp,by simpa using hn,fun hne=>?_⟩
 have hpos:len≠0:=by
  rintro rfl
  simp at hne
 obtain ⟨e,hb⟩:=hp hpos
 refine ⟨b,o,e,hb,fun j x hj=>?_⟩
 have hjl:j<len:=by
  have:=(List.getElem?_eq_some_iff.1 hj).1
  simpa using this
 simp[List.getElem?_map,List.getElem?_range hjl]at hj
 rw[←hj]
 exact hf j hjl
theorem open_K {n:Nat} {v:Value} {y:DataW H × List MemPlace} (h:DataW.trod enc QP W 0 sp held n 60 [v]=some y) (hw:WB 60 y.1):∃(len:Nat) (p:Option Addr) (c b o:Nat) (g:Nat→Fo) (q:Nat→Option Addr) (d:Nat→Nat),v=V p len c∧KO W.heap.size W p len b o g q d:=by
 obtain ⟨p,len,c,b,o,rfl,hn,hp,hi⟩:=open_rows Tryz.underlying60 c37 (by decide) byp37 h hw
 have hq:∀i,i<len→∃x:Fo × Option Addr × Nat,W.cell? ⟨b,o+i*1+0,none⟩=some (V x.2.1 x.1.len x.2.2)∧CO W.heap.size W x.2.1 x.2.2 x.1:=by
  intro i hl
  obtain ⟨cs,m,y,_,htr,hwy,hc,hz⟩:=hi i hl
  obtain ⟨u,rfl⟩:∃u,cs=[u]:=by
   match cs,hc with
   | [_],_=>exact ⟨_,rfl⟩
  obtain ⟨f,q,d,rfl,hf⟩:=open_C htr hwy
  exact ⟨⟨f,q,d⟩,hz 0 _ rfl,hf⟩
 obtain ⟨f,hf⟩:=pick (.nil,none,0) hq
 refine ⟨len,p,c,b,o,fun i=>(f i).1,fun i=>(f i).2.1,fun i=>(f i).2.2,rfl,⟨by simp[reachBytes]at hn ⊢;omega,hp,fun i hi k z hk=>?_⟩,fun i hi=>(hf i hi).2⟩
 match k,hk with
 |0,hk =>
  obtain rfl:=Option.some.inj hk
  exact (hf i hi).1
 |k+1,hk=>simp at hk
theorem fields70:∃f0 f1 f2:Field,Tryz.prog.underlying 70=some (.struct #[f0,f1,f2])∧(f0.type=3∧f1.type=3∧f2.type=4)∧(f0.offset=0∧f1.offset=1∧f2.offset=2) :=
 ⟨_,_,_,Tryz.underlying70,⟨rfl,rfl,rfl⟩,⟨rfl,rfl,rfl⟩⟩
theorem open_70 {n:Nat} {cs:List Value} {y:DataW H × List MemPlace} (h:DataW.trod enc QP W 0 sp held n 70 cs=some y) (hw:WB 70 y.1):∃(x0:Int) (x1:Int) (x2:Bool),cs=[I J x0,I J x1,G x2]∧i64B x0∧i64B x1:=by
 obtain ⟨f0,f1,f2,hu,⟨t0,t1,t2⟩,⟨o0,o1,o2⟩⟩:=fields70
 obtain ⟨xs,m,rfl,hx,hl,hlen,hat⟩:=DataW.trod_struct hu h
 rw[c70]at hl
 obtain ⟨k0,k1,k2,rfl⟩:∃k0 k1 k2,cs=[k0,k1,k2]:=by
  match cs,hl with
  | [_,_,_],_=>exact ⟨_,_,_,rfl⟩
 obtain ⟨y0,y1,y2,rfl⟩:∃y0 y1 y2,xs=[y0,y1,y2]:=by
  match xs,hlen with
  | [_,_,_],_=>exact ⟨_,_,_,rfl⟩
 rw[hx]at hw
 have h0:=hat 0 f0 rfl
 rw[t0,o0,c3]at h0
 have q0:=wb_part hu hw 0 f0 y0.1 rfl rfl
 rw[t0]at q0
 obtain ⟨v0_,e0,g0⟩:=open_I (v:=k0) h0
 subst e0
 have h1:=hat 1 f1 rfl
 rw[t1,o1,c3]at h1
 have q1:=wb_part hu hw 1 f1 y1.1 rfl rfl
 rw[t1]at q1
 obtain ⟨v1_,e1,g1⟩:=open_I (v:=k1) h1
 subst e1
 have h2:=hat 2 f2 rfl
 rw[t2,o2,c4]at h2
 have q2:=wb_part hu hw 2 f2 y2.1 rfl rfl
 rw[t2]at q2
 obtain ⟨v2_,e2⟩:=open_B (v:=k2) h2
 subst e2
 exact ⟨v0_,v1_,v2_,rfl,g0,g1⟩
theorem fields44:∃f0 f1:Field,Tryz.prog.underlying 44=some (.struct #[f0,f1])∧(f0.type=3∧f1.type=4)∧(f0.offset=0∧f1.offset=1) :=
 ⟨_,_,Tryz.underlying44,⟨rfl,rfl⟩,⟨rfl,rfl⟩⟩
theorem open_44 {n:Nat} {cs:List Value} {y:DataW H × List MemPlace} (h:DataW.trod enc QP W 0 sp held n 44 cs=some y) (hw:WB 44 y.1):∃(x0:Int) (x1:Bool),cs=[I J x0,G x1]∧i64B x0:=by
 obtain ⟨f0,f1,hu,⟨t0,t1⟩,⟨o0,o1⟩⟩:=fields44
 obtain ⟨xs,m,rfl,hx,hl,hlen,hat⟩:=DataW.trod_struct hu h
 rw[c44]at hl
 obtain ⟨k0,k1,rfl⟩:∃k0 k1,cs=[k0,k1]:=by
  match cs,hl with
  | [_,_],_=>exact ⟨_,_,rfl⟩
 obtain ⟨y0,y1,rfl⟩:∃y0 y1,xs=[y0,y1]:=by
  match xs,hlen with
  | [_,_],_=>exact ⟨_,_,rfl⟩
 rw[hx]at hw
 have h0:=hat 0 f0 rfl
 rw[t0,o0,c3]at h0
 have q0:=wb_part hu hw 0 f0 y0.1 rfl rfl
 rw[t0]at q0
 obtain ⟨v0_,e0,g0⟩:=open_I (v:=k0) h0
 subst e0
 have h1:=hat 1 f1 rfl
 rw[t1,o1,c4]at h1
 have q1:=wb_part hu hw 1 f1 y1.1 rfl rfl
 rw[t1]at q1
 obtain ⟨v1_,e1⟩:=open_B (v:=k1) h1
 subst e1
 exact ⟨v0_,v1_,rfl,g0⟩
theorem fields72:∃f0 f1:Field,Tryz.prog.underlying 72=some (.struct #[f0,f1])∧(f0.type=3∧f1.type=70)∧(f0.offset=0∧f1.offset=1) :=
 ⟨_,_,Tryz.underlying72,⟨rfl,rfl⟩,⟨rfl,rfl⟩⟩
theorem open_72 {n:Nat} {cs:List Value} {y:DataW H × List MemPlace} (h:DataW.trod enc QP W 0 sp held n 72 cs=some y) (hw:WB 72 y.1):∃(x0:Int) (x1:Int) (x2:Int) (x3:Bool),cs=[I J x0,I J x1,I J x2,G x3]∧i64B x0∧i64B x1∧i64B x2:=by
 obtain ⟨f0,f1,hu,⟨t0,t1⟩,⟨o0,o1⟩⟩:=fields72
 obtain ⟨xs,m,rfl,hx,hl,hlen,hat⟩:=DataW.trod_struct hu h
 rw[c72]at hl
 obtain ⟨k0,k1,k2,k3,rfl⟩:∃k0 k1 k2 k3,cs=[k0,k1,k2,k3]:=by
  match cs,hl with
  | [_,_,_,_],_=>exact ⟨_,_,_,_,rfl⟩
 obtain ⟨y0,y1,rfl⟩:∃y0 y1,xs=[y0,y1]:=by
  match xs,hlen with
  | [_,_],_=>exact ⟨_,_,rfl⟩
 rw[hx]at hw
 have h0:=hat 0 f0 rfl
 rw[t0,o0,c3]at h0
 have q0:=wb_part hu hw 0 f0 y0.1 rfl rfl
 rw[t0]at q0
 obtain ⟨v0_,e0,g0⟩:=open_I (v:=k0) h0
 subst e0
 have h1:=hat 1 f1 rfl
 rw[t1,o1,c70]at h1
 have q1:=wb_part hu hw 1 f1 y1.1 rfl rfl
 rw[t1]at q1
 obtain ⟨v1_0_,v1_1_,v1_2_,e1,g1_0,g1_1⟩:=open_70 h1 q1
 obtain ⟨rfl,rfl,rfl⟩:k1=I J v1_0_∧k2=I J v1_1_∧k3=G v1_2_:=by simpa using e1
 exact ⟨v0_,v1_0_,v1_1_,v1_2_,rfl,g0,g1_0,g1_1⟩
theorem fields67:∃f0 f1:Field,Tryz.prog.underlying 67=some (.struct #[f0,f1])∧(f0.type=36∧f1.type=36)∧(f0.offset=0∧f1.offset=1) :=
 ⟨_,_,Tryz.underlying67,⟨rfl,rfl⟩,⟨rfl,rfl⟩⟩
theorem open_67 {n:Nat} {cs:List Value} {y:DataW H × List MemPlace} (h:DataW.trod enc QP W 0 sp held n 67 cs=some y) (hw:WB 67 y.1):∃(a:List Int) (pa:Option Addr) (ca:Nat) (b:List Int) (pb:Option Addr) (cb:Nat),cs=[V pa a.length ca,V pb b.length cb]∧LO W.heap.size W pa ca a∧LO W.heap.size W pb cb b:=by
 obtain ⟨f0,f1,hu,⟨t0,t1⟩,⟨o0,o1⟩⟩:=fields67
 obtain ⟨xs,m,rfl,hx,hl,hlen,hat⟩:=DataW.trod_struct hu h
 rw[c67]at hl
 obtain ⟨k0,k1,rfl⟩:∃k0 k1,cs=[k0,k1]:=by
  match cs,hl with
  | [_,_],_=>exact ⟨_,_,rfl⟩
 obtain ⟨y0,y1,rfl⟩:∃y0 y1,xs=[y0,y1]:=by
  match xs,hlen with
  | [_,_],_=>exact ⟨_,_,rfl⟩
 rw[hx]at hw
 have h0:=hat 0 f0 rfl
 rw[t0,o0,c36]at h0
 have q0:=wb_part hu hw 0 f0 y0.1 rfl rfl
 rw[t0]at q0
 obtain ⟨v0_,pv0_,cv0_,e0,g0⟩:=open_L (v:=k0) h0 q0
 subst e0
 have h1:=hat 1 f1 rfl
 rw[t1,o1,c36]at h1
 have q1:=wb_part hu hw 1 f1 y1.1 rfl rfl
 rw[t1]at q1
 obtain ⟨v1_,pv1_,cv1_,e1,g1⟩:=open_L (v:=k1) h1 q1
 subst e1
 exact ⟨v0_,pv0_,cv0_,v1_,pv1_,cv1_,rfl,g0,g1⟩
theorem open_rowTyp {fuel:Nat} {v:Value} {y:DataW H × List MemPlace} (h:DataW.trod enc QP W 0 sp held fuel 22 [v]=some y) (hw:WB 22 y.1):∃(p:Option Addr) (n c b o:Nat) (E:Nat→ETyp),v=V p n c∧RowM W.heap.size W p n b o 2 (fun i=>(E i).cs)∧∀i,i<n→(E i).ok W.heap.size W:=by
 obtain ⟨p,len,c,b,o,rfl,hn,hp,hi⟩:=open_rows Tryz.underlying22 c67 (by decide) byp67 h hw
 have hq:∀i,i<len→∃x:ETyp,(∀k z,x.cs[k]?=some z→W.cell? ⟨b,o+i*2+k,none⟩=some z)∧x.ok W.heap.size W:=by
  intro i hl
  obtain ⟨cs,m,y,_,htr,hwy,hc,hz⟩:=hi i hl
  obtain ⟨a,pa,ca,b,pb,cb,e,g0,g1⟩:=open_67 htr hwy
  subst e
  exact ⟨⟨a,pa,ca,b,pb,cb⟩,hz,⟨g0,g1⟩⟩
 obtain ⟨f,hf⟩:=pick ⟨[],none,0,[],none,0⟩ hq
 exact ⟨p,len,c,b,o,f,rfl,⟨by simp[reachBytes]at hn ⊢;omega,hp,fun i hi=>(hf i hi).1⟩,fun i hi=>(hf i hi).2⟩
theorem fields74:∃f0 f1 f2 f3 f4 f5 f6:Field,Tryz.prog.underlying 74=some (.struct #[f0,f1,f2,f3,f4,f5,f6])∧(f0.type=9∧f1.type=9∧f2.type=3∧f3.type=3∧f4.type=72∧f5.type=70∧f6.type=44)∧(f0.offset=0∧f1.offset=1∧f2.offset=2∧f3.offset=3∧f4.offset=4∧f5.offset=8∧f6.offset=11) :=
 ⟨_,_,_,_,_,_,_,Tryz.underlying74,⟨rfl,rfl,rfl,rfl,rfl,rfl,rfl⟩,⟨rfl,rfl,rfl,rfl,rfl,rfl,rfl⟩⟩
theorem open_74 {n:Nat} {cs:List Value} {y:DataW H × List MemPlace} (h:DataW.trod enc QP W 0 sp held n 74 cs=some y) (hw:WB 74 y.1):∃(s0:ByteArray) (s1:ByteArray) (kd:Int) (ty:Int) (tr:Int) (tmn:Int) (tmx:Int) (th:Bool) (mmn:Int) (mmx:Int) (mh:Bool) (gt:Int) (gm:Bool),cs=[Qs s0,Qs s1,I J kd,I J ty,I J tr,I J tmn,I J tmx,G th,I J mmn,I J mmx,G mh,I J gt,G gm]∧s0.size≤reachBytes∧s1.size≤reachBytes∧i64B kd∧i64B ty∧i64B tr∧i64B tmn∧i64B tmx∧i64B mmn∧i64B mmx∧i64B gt:=by
 obtain ⟨f0,f1,f2,f3,f4,f5,f6,hu,⟨t0,t1,t2,t3,t4,t5,t6⟩,⟨o0,o1,o2,o3,o4,o5,o6⟩⟩:=fields74
 obtain ⟨xs,m,rfl,hx,hl,hlen,hat⟩:=DataW.trod_struct hu h
 rw[c74]at hl
 obtain ⟨k0,k1,k2,k3,k4,k5,k6,k7,k8,k9,k10,k11,k12,rfl⟩:∃k0 k1 k2 k3 k4 k5 k6 k7 k8 k9 k10 k11 k12,cs=[k0,k1,k2,k3,k4,k5,k6,k7,k8,k9,k10,k11,k12]:=by
  match cs,hl with
  | [_,_,_,_,_,_,_,_,_,_,_,_,_],_=>exact ⟨_,_,_,_,_,_,_,_,_,_,_,_,_,rfl⟩
 obtain ⟨y0,y1,y2,y3,y4,y5,y6,rfl⟩:∃y0 y1 y2 y3 y4 y5 y6,xs=[y0,y1,y2,y3,y4,y5,y6]:=by
  match xs,hlen with
  | [_,_,_,_,_,_,_],_=>exact ⟨_,_,_,_,_,_,_,rfl⟩
 rw[hx]at hw
 have h0:=hat 0 f0 rfl
 rw[t0,o0,c9]at h0
 have q0:=wb_part hu hw 0 f0 y0.1 rfl rfl
 rw[t0]at q0
 obtain ⟨v0_,e0,g0⟩:=open_S (v:=k0) h0 q0
 subst e0
 have h1:=hat 1 f1 rfl
 rw[t1,o1,c9]at h1
 have q1:=wb_part hu hw 1 f1 y1.1 rfl rfl
 rw[t1]at q1
 obtain ⟨v1_,e1,g1⟩:=open_S (v:=k1) h1 q1
 subst e1
 have h2:=hat 2 f2 rfl
 rw[t2,o2,c3]at h2
 have q2:=wb_part hu hw 2 f2 y2.1 rfl rfl
 rw[t2]at q2
 obtain ⟨v2_,e2,g2⟩:=open_I (v:=k2) h2
 subst e2
 have h3:=hat 3 f3 rfl
 rw[t3,o3,c3]at h3
 have q3:=wb_part hu hw 3 f3 y3.1 rfl rfl
 rw[t3]at q3
 obtain ⟨v3_,e3,g3⟩:=open_I (v:=k3) h3
 subst e3
 have h4:=hat 4 f4 rfl
 rw[t4,o4,c72]at h4
 have q4:=wb_part hu hw 4 f4 y4.1 rfl rfl
 rw[t4]at q4
 obtain ⟨v4_0_,v4_1_,v4_2_,v4_3_,e4,g4_0,g4_1,g4_2⟩:=open_72 h4 q4
 obtain ⟨rfl,rfl,rfl,rfl⟩:k4=I J v4_0_∧k5=I J v4_1_∧k6=I J v4_2_∧k7=G v4_3_:=by simpa using e4
 have h5:=hat 5 f5 rfl
 rw[t5,o5,c70]at h5
 have q5:=wb_part hu hw 5 f5 y5.1 rfl rfl
 rw[t5]at q5
 obtain ⟨v5_0_,v5_1_,v5_2_,e5,g5_0,g5_1⟩:=open_70 h5 q5
 obtain ⟨rfl,rfl,rfl⟩:k8=I J v5_0_∧k9=I J v5_1_∧k10=G v5_2_:=by simpa using e5
 have h6:=hat 6 f6 rfl
 rw[t6,o6,c44]at h6
 have q6:=wb_part hu hw 6 f6 y6.1 rfl rfl
 rw[t6]at q6
 obtain ⟨v6_0_,v6_1_,e6,g6_0⟩:=open_44 h6 q6
 obtain ⟨rfl,rfl⟩:k11=I J v6_0_∧k12=G v6_1_:=by simpa using e6
 exact ⟨v0_,v1_,v2_,v3_,v4_0_,v4_1_,v4_2_,v4_3_,v5_0_,v5_1_,v5_2_,v6_0_,v6_1_,rfl,g0,g1,g2,g3,g4_0,g4_1,g4_2,g5_0,g5_1,g6_0⟩
theorem open_rowImp {fuel:Nat} {v:Value} {y:DataW H × List MemPlace} (h:DataW.trod enc QP W 0 sp held fuel 23 [v]=some y) (hw:WB 23 y.1):∃(p:Option Addr) (n c b o:Nat) (E:Nat→EImp),v=V p n c∧RowM W.heap.size W p n b o 13 (fun i=>(E i).cs)∧∀i,i<n→(E i).ok W.heap.size W:=by
 obtain ⟨p,len,c,b,o,rfl,hn,hp,hi⟩:=open_rows Tryz.underlying23 c74 (by decide) byp74 h hw
 have hq:∀i,i<len→∃x:EImp,(∀k z,x.cs[k]?=some z→W.cell? ⟨b,o+i*13+k,none⟩=some z)∧x.ok W.heap.size W:=by
  intro i hl
  obtain ⟨cs,m,y,_,htr,hwy,hc,hz⟩:=hi i hl
  obtain ⟨s0,s1,kd,ty,tr,tmn,tmx,th,mmn,mmx,mh,gt,gm,e,g0,g1,g2,g3,g4,g5,g6,g8,g9,g11⟩:=open_74 htr hwy
  subst e
  exact ⟨⟨s0,s1,kd,ty,tr,tmn,tmx,th,mmn,mmx,mh,gt,gm⟩,hz,⟨g0,g1,g2,g3,g4,g5,g6,g8,g9,g11⟩⟩
 obtain ⟨f,hf⟩:=pick ⟨⟨#[]⟩,⟨#[]⟩,0,0,0,0,0,false,0,0,false,0,false⟩ hq
 exact ⟨p,len,c,b,o,f,rfl,⟨by simp[reachBytes]at hn ⊢;omega,hp,fun i hi=>(hf i hi).1⟩,fun i hi=>(hf i hi).2⟩
theorem fields42:∃f0 f1 f2:Field,Tryz.prog.underlying 42=some (.struct #[f0,f1,f2])∧(f0.type=3∧f1.type=36∧f2.type=37)∧(f0.offset=0∧f1.offset=1∧f2.offset=2) :=
 ⟨_,_,_,Tryz.underlying42,⟨rfl,rfl,rfl⟩,⟨rfl,rfl,rfl⟩⟩
theorem open_42 {n:Nat} {cs:List Value} {y:DataW H × List MemPlace} (h:DataW.trod enc QP W 0 sp held n 42 cs=some y) (hw:WB 42 y.1):∃(ty:Int) (l:List Int) (pl:Option Addr) (cl:Nat) (f:Fo) (pf:Option Addr) (cf:Nat),cs=[I J ty,V pl l.length cl,V pf f.len cf]∧i64B ty∧LO W.heap.size W pl cl l∧CO W.heap.size W pf cf f:=by
 obtain ⟨f0,f1,f2,hu,⟨t0,t1,t2⟩,⟨o0,o1,o2⟩⟩:=fields42
 obtain ⟨xs,m,rfl,hx,hl,hlen,hat⟩:=DataW.trod_struct hu h
 rw[c42]at hl
 obtain ⟨k0,k1,k2,rfl⟩:∃k0 k1 k2,cs=[k0,k1,k2]:=by
  match cs,hl with
  | [_,_,_],_=>exact ⟨_,_,_,rfl⟩
 obtain ⟨y0,y1,y2,rfl⟩:∃y0 y1 y2,xs=[y0,y1,y2]:=by
  match xs,hlen with
  | [_,_,_],_=>exact ⟨_,_,_,rfl⟩
 rw[hx]at hw
 have h0:=hat 0 f0 rfl
 rw[t0,o0,c3]at h0
 have q0:=wb_part hu hw 0 f0 y0.1 rfl rfl
 rw[t0]at q0
 obtain ⟨v0_,e0,g0⟩:=open_I (v:=k0) h0
 subst e0
 have h1:=hat 1 f1 rfl
 rw[t1,o1,c36]at h1
 have q1:=wb_part hu hw 1 f1 y1.1 rfl rfl
 rw[t1]at q1
 obtain ⟨v1_,pv1_,cv1_,e1,g1⟩:=open_L (v:=k1) h1 q1
 subst e1
 have h2:=hat 2 f2 rfl
 rw[t2,o2,c37]at h2
 have q2:=wb_part hu hw 2 f2 y2.1 rfl rfl
 rw[t2]at q2
 obtain ⟨v2_,pv2_,cv2_,e2,g2⟩:=open_C (v:=k2) h2 q2
 subst e2
 exact ⟨v0_,v1_,pv1_,cv1_,v2_,pv2_,cv2_,rfl,g0,g1,g2⟩
theorem open_rowFun {fuel:Nat} {v:Value} {y:DataW H × List MemPlace} (h:DataW.trod enc QP W 0 sp held fuel 24 [v]=some y) (hw:WB 24 y.1):∃(p:Option Addr) (n c b o:Nat) (E:Nat→EFun),v=V p n c∧RowM W.heap.size W p n b o 3 (fun i=>(E i).cs)∧∀i,i<n→(E i).ok W.heap.size W:=by
 obtain ⟨p,len,c,b,o,rfl,hn,hp,hi⟩:=open_rows Tryz.underlying24 c42 (by decide) byp42 h hw
 have hq:∀i,i<len→∃x:EFun,(∀k z,x.cs[k]?=some z→W.cell? ⟨b,o+i*3+k,none⟩=some z)∧x.ok W.heap.size W:=by
  intro i hl
  obtain ⟨cs,m,y,_,htr,hwy,hc,hz⟩:=hi i hl
  obtain ⟨ty,l,pl,cl,f,pf,cf,e,g0,g1,g2⟩:=open_42 htr hwy
  subst e
  exact ⟨⟨ty,l,pl,cl,f,pf,cf⟩,hz,⟨g0,g1,g2⟩⟩
 obtain ⟨f,hf⟩:=pick ⟨0,[],none,0,.nil,none,0⟩ hq
 exact ⟨p,len,c,b,o,f,rfl,⟨by simp[reachBytes]at hn ⊢;omega,hp,fun i hi=>(hf i hi).1⟩,fun i hi=>(hf i hi).2⟩
theorem open_rowTab {fuel:Nat} {v:Value} {y:DataW H × List MemPlace} (h:DataW.trod enc QP W 0 sp held fuel 25 [v]=some y) (hw:WB 25 y.1):∃(p:Option Addr) (n c b o:Nat) (E:Nat→ETab),v=V p n c∧RowM W.heap.size W p n b o 4 (fun i=>(E i).cs)∧∀i,i<n→(E i).ok W.heap.size W:=by
 obtain ⟨p,len,c,b,o,rfl,hn,hp,hi⟩:=open_rows Tryz.underlying25 c72 (by decide) byp72 h hw
 have hq:∀i,i<len→∃x:ETab,(∀k z,x.cs[k]?=some z→W.cell? ⟨b,o+i*4+k,none⟩=some z)∧x.ok W.heap.size W:=by
  intro i hl
  obtain ⟨cs,m,y,_,htr,hwy,hc,hz⟩:=hi i hl
  obtain ⟨r,mn,mx,h,e,g0,g1,g2⟩:=open_72 htr hwy
  subst e
  exact ⟨⟨r,mn,mx,h⟩,hz,⟨g0,g1,g2⟩⟩
 obtain ⟨f,hf⟩:=pick ⟨0,0,0,false⟩ hq
 exact ⟨p,len,c,b,o,f,rfl,⟨by simp[reachBytes]at hn ⊢;omega,hp,fun i hi=>(hf i hi).1⟩,fun i hi=>(hf i hi).2⟩
theorem open_rowLim {fuel:Nat} {v:Value} {y:DataW H × List MemPlace} (h:DataW.trod enc QP W 0 sp held fuel 26 [v]=some y) (hw:WB 26 y.1):∃(p:Option Addr) (n c b o:Nat) (E:Nat→ELim),v=V p n c∧RowM W.heap.size W p n b o 3 (fun i=>(E i).cs)∧∀i,i<n→(E i).ok W.heap.size W:=by
 obtain ⟨p,len,c,b,o,rfl,hn,hp,hi⟩:=open_rows Tryz.underlying26 c70 (by decide) byp70 h hw
 have hq:∀i,i<len→∃x:ELim,(∀k z,x.cs[k]?=some z→W.cell? ⟨b,o+i*3+k,none⟩=some z)∧x.ok W.heap.size W:=by
  intro i hl
  obtain ⟨cs,m,y,_,htr,hwy,hc,hz⟩:=hi i hl
  obtain ⟨mn,mx,h,e,g0,g1⟩:=open_70 htr hwy
  subst e
  exact ⟨⟨mn,mx,h⟩,hz,⟨g0,g1⟩⟩
 obtain ⟨f,hf⟩:=pick ⟨0,0,false⟩ hq
 exact ⟨p,len,c,b,o,f,rfl,⟨by simp[reachBytes]at hn ⊢;omega,hp,fun i hi=>(hf i hi).1⟩,fun i hi=>(hf i hi).2⟩
theorem fields46:∃f0 f1:Field,Tryz.prog.underlying 46=some (.struct #[f0,f1])∧(f0.type=44∧f1.type=37)∧(f0.offset=0∧f1.offset=2) :=
 ⟨_,_,Tryz.underlying46,⟨rfl,rfl⟩,⟨rfl,rfl⟩⟩
theorem open_46 {n:Nat} {cs:List Value} {y:DataW H × List MemPlace} (h:DataW.trod enc QP W 0 sp held n 46 cs=some y) (hw:WB 46 y.1):∃(t:Int) (m:Bool) (f:Fo) (pf:Option Addr) (cf:Nat),cs=[I J t,G m,V pf f.len cf]∧i64B t∧CO W.heap.size W pf cf f:=by
 obtain ⟨f0,f1,hu,⟨t0,t1⟩,⟨o0,o1⟩⟩:=fields46
 obtain ⟨xs,m,rfl,hx,hl,hlen,hat⟩:=DataW.trod_struct hu h
 rw[c46]at hl
 obtain ⟨k0,k1,k2,rfl⟩:∃k0 k1 k2,cs=[k0,k1,k2]:=by
  match cs,hl with
  | [_,_,_],_=>exact ⟨_,_,_,rfl⟩
 obtain ⟨y0,y1,rfl⟩:∃y0 y1,xs=[y0,y1]:=by
  match xs,hlen with
  | [_,_],_=>exact ⟨_,_,rfl⟩
 rw[hx]at hw
 have h0:=hat 0 f0 rfl
 rw[t0,o0,c44]at h0
 have q0:=wb_part hu hw 0 f0 y0.1 rfl rfl
 rw[t0]at q0
 obtain ⟨v0_0_,v0_1_,e0,g0_0⟩:=open_44 h0 q0
 obtain ⟨rfl,rfl⟩:k0=I J v0_0_∧k1=G v0_1_:=by simpa using e0
 have h1:=hat 1 f1 rfl
 rw[t1,o1,c37]at h1
 have q1:=wb_part hu hw 1 f1 y1.1 rfl rfl
 rw[t1]at q1
 obtain ⟨v1_,pv1_,cv1_,e1,g1⟩:=open_C (v:=k2) h1 q1
 subst e1
 exact ⟨v0_0_,v0_1_,v1_,pv1_,cv1_,rfl,g0_0,g1⟩
theorem open_rowGlo {fuel:Nat} {v:Value} {y:DataW H × List MemPlace} (h:DataW.trod enc QP W 0 sp held fuel 27 [v]=some y) (hw:WB 27 y.1):∃(p:Option Addr) (n c b o:Nat) (E:Nat→EGlo),v=V p n c∧RowM W.heap.size W p n b o 3 (fun i=>(E i).cs)∧∀i,i<n→(E i).ok W.heap.size W:=by
 obtain ⟨p,len,c,b,o,rfl,hn,hp,hi⟩:=open_rows Tryz.underlying27 c46 (by decide) byp46 h hw
 have hq:∀i,i<len→∃x:EGlo,(∀k z,x.cs[k]?=some z→W.cell? ⟨b,o+i*3+k,none⟩=some z)∧x.ok W.heap.size W:=by
  intro i hl
  obtain ⟨cs,m,y,_,htr,hwy,hc,hz⟩:=hi i hl
  obtain ⟨t,m,f,pf,cf,e,g0,g2⟩:=open_46 htr hwy
  subst e
  exact ⟨⟨t,m,f,pf,cf⟩,hz,⟨g0,g2⟩⟩
 obtain ⟨f,hf⟩:=pick ⟨0,false,.nil,none,0⟩ hq
 exact ⟨p,len,c,b,o,f,rfl,⟨by simp[reachBytes]at hn ⊢;omega,hp,fun i hi=>(hf i hi).1⟩,fun i hi=>(hf i hi).2⟩
theorem fields76:∃f0 f1 f2:Field,Tryz.prog.underlying 76=some (.struct #[f0,f1,f2])∧(f0.type=9∧f1.type=3∧f2.type=3)∧(f0.offset=0∧f1.offset=1∧f2.offset=2) :=
 ⟨_,_,_,Tryz.underlying76,⟨rfl,rfl,rfl⟩,⟨rfl,rfl,rfl⟩⟩
theorem open_76 {n:Nat} {cs:List Value} {y:DataW H × List MemPlace} (h:DataW.trod enc QP W 0 sp held n 76 cs=some y) (hw:WB 76 y.1):∃(s:ByteArray) (k:Int) (ix:Int),cs=[Qs s,I J k,I J ix]∧s.size≤reachBytes∧i64B k∧i64B ix:=by
 obtain ⟨f0,f1,f2,hu,⟨t0,t1,t2⟩,⟨o0,o1,o2⟩⟩:=fields76
 obtain ⟨xs,m,rfl,hx,hl,hlen,hat⟩:=DataW.trod_struct hu h
 rw[c76]at hl
 obtain ⟨k0,k1,k2,rfl⟩:∃k0 k1 k2,cs=[k0,k1,k2]:=by
  match cs,hl with
  | [_,_,_],_=>exact ⟨_,_,_,rfl⟩
 obtain ⟨y0,y1,y2,rfl⟩:∃y0 y1 y2,xs=[y0,y1,y2]:=by
  match xs,hlen with
  | [_,_,_],_=>exact ⟨_,_,_,rfl⟩
 rw[hx]at hw
 have h0:=hat 0 f0 rfl
 rw[t0,o0,c9]at h0
 have q0:=wb_part hu hw 0 f0 y0.1 rfl rfl
 rw[t0]at q0
 obtain ⟨v0_,e0,g0⟩:=open_S (v:=k0) h0 q0
 subst e0
 have h1:=hat 1 f1 rfl
 rw[t1,o1,c3]at h1
 have q1:=wb_part hu hw 1 f1 y1.1 rfl rfl
 rw[t1]at q1
 obtain ⟨v1_,e1,g1⟩:=open_I (v:=k1) h1
 subst e1
 have h2:=hat 2 f2 rfl
 rw[t2,o2,c3]at h2
 have q2:=wb_part hu hw 2 f2 y2.1 rfl rfl
 rw[t2]at q2
 obtain ⟨v2_,e2,g2⟩:=open_I (v:=k2) h2
 subst e2
 exact ⟨v0_,v1_,v2_,rfl,g0,g1,g2⟩
theorem open_rowExp {fuel:Nat} {v:Value} {y:DataW H × List MemPlace} (h:DataW.trod enc QP W 0 sp held fuel 28 [v]=some y) (hw:WB 28 y.1):∃(p:Option Addr) (n c b o:Nat) (E:Nat→EExp),v=V p n c∧RowM W.heap.size W p n b o 3 (fun i=>(E i).cs)∧∀i,i<n→(E i).ok W.heap.size W:=by
 obtain ⟨p,len,c,b,o,rfl,hn,hp,hi⟩:=open_rows Tryz.underlying28 c76 (by decide) byp76 h hw
 have hq:∀i,i<len→∃x:EExp,(∀k z,x.cs[k]?=some z→W.cell? ⟨b,o+i*3+k,none⟩=some z)∧x.ok W.heap.size W:=by
  intro i hl
  obtain ⟨cs,m,y,_,htr,hwy,hc,hz⟩:=hi i hl
  obtain ⟨s,k,ix,e,g0,g1,g2⟩:=open_76 htr hwy
  subst e
  exact ⟨⟨s,k,ix⟩,hz,⟨g0,g1,g2⟩⟩
 obtain ⟨f,hf⟩:=pick ⟨⟨#[]⟩,0,0⟩ hq
 exact ⟨p,len,c,b,o,f,rfl,⟨by simp[reachBytes]at hn ⊢;omega,hp,fun i hi=>(hf i hi).1⟩,fun i hi=>(hf i hi).2⟩
theorem fields62:∃f0 f1 f2 f3 f4:Field,Tryz.prog.underlying 62=some (.struct #[f0,f1,f2,f3,f4])∧(f0.type=3∧f1.type=3∧f2.type=3∧f3.type=37∧f4.type=60)∧(f0.offset=0∧f1.offset=1∧f2.offset=2∧f3.offset=3∧f4.offset=4) :=
 ⟨_,_,_,_,_,Tryz.underlying62,⟨rfl,rfl,rfl,rfl,rfl⟩,⟨rfl,rfl,rfl,rfl,rfl⟩⟩
theorem open_62 {n:Nat} {cs:List Value} {y:DataW H × List MemPlace} (h:DataW.trod enc QP W 0 sp held n 62 cs=some y) (hw:WB 62 y.1):∃(r:Int) (m:Int) (t:Int) (f:Fo) (pf:Option Addr) (cf:Nat) (ng:Nat) (pg:Option Addr) (cg:Nat) (bg:Nat) (og:Nat) (g:Nat→Fo) (qg:Nat→Option Addr) (dg:Nat→Nat),cs=[I J r,I J m,I J t,V pf f.len cf,V pg ng cg]∧i64B r∧i64B m∧i64B t∧CO W.heap.size W pf cf f∧KO W.heap.size W pg ng bg og g qg dg:=by
 obtain ⟨f0,f1,f2,f3,f4,hu,⟨t0,t1,t2,t3,t4⟩,⟨o0,o1,o2,o3,o4⟩⟩:=fields62
 obtain ⟨xs,m,rfl,hx,hl,hlen,hat⟩:=DataW.trod_struct hu h
 rw[c62]at hl
 obtain ⟨k0,k1,k2,k3,k4,rfl⟩:∃k0 k1 k2 k3 k4,cs=[k0,k1,k2,k3,k4]:=by
  match cs,hl with
  | [_,_,_,_,_],_=>exact ⟨_,_,_,_,_,rfl⟩
 obtain ⟨y0,y1,y2,y3,y4,rfl⟩:∃y0 y1 y2 y3 y4,xs=[y0,y1,y2,y3,y4]:=by
  match xs,hlen with
  | [_,_,_,_,_],_=>exact ⟨_,_,_,_,_,rfl⟩
 rw[hx]at hw
 have h0:=hat 0 f0 rfl
 rw[t0,o0,c3]at h0
 have q0:=wb_part hu hw 0 f0 y0.1 rfl rfl
 rw[t0]at q0
 obtain ⟨v0_,e0,g0⟩:=open_I (v:=k0) h0
 subst e0
 have h1:=hat 1 f1 rfl
 rw[t1,o1,c3]at h1
 have q1:=wb_part hu hw 1 f1 y1.1 rfl rfl
 rw[t1]at q1
 obtain ⟨v1_,e1,g1⟩:=open_I (v:=k1) h1
 subst e1
 have h2:=hat 2 f2 rfl
 rw[t2,o2,c3]at h2
 have q2:=wb_part hu hw 2 f2 y2.1 rfl rfl
 rw[t2]at q2
 obtain ⟨v2_,e2,g2⟩:=open_I (v:=k2) h2
 subst e2
 have h3:=hat 3 f3 rfl
 rw[t3,o3,c37]at h3
 have q3:=wb_part hu hw 3 f3 y3.1 rfl rfl
 rw[t3]at q3
 obtain ⟨v3_,pv3_,cv3_,e3,g3⟩:=open_C (v:=k3) h3 q3
 subst e3
 have h4:=hat 4 f4 rfl
 rw[t4,o4,c60]at h4
 have q4:=wb_part hu hw 4 f4 y4.1 rfl rfl
 rw[t4]at q4
 obtain ⟨nv4_,pv4_,cv4_,bv4_,ov4_,v4_,qv4_,dv4_,e4,g4⟩:=open_K (v:=k4) h4 q4
 subst e4
 exact ⟨v0_,v1_,v2_,v3_,pv3_,cv3_,nv4_,pv4_,cv4_,bv4_,ov4_,v4_,qv4_,dv4_,rfl,g0,g1,g2,g3,g4⟩
theorem open_rowElm {fuel:Nat} {v:Value} {y:DataW H × List MemPlace} (h:DataW.trod enc QP W 0 sp held fuel 29 [v]=some y) (hw:WB 29 y.1):∃(p:Option Addr) (n c b o:Nat) (E:Nat→EElm),v=V p n c∧RowM W.heap.size W p n b o 5 (fun i=>(E i).cs)∧∀i,i<n→(E i).ok W.heap.size W:=by
 obtain ⟨p,len,c,b,o,rfl,hn,hp,hi⟩:=open_rows Tryz.underlying29 c62 (by decide) byp62 h hw
 have hq:∀i,i<len→∃x:EElm,(∀k z,x.cs[k]?=some z→W.cell? ⟨b,o+i*5+k,none⟩=some z)∧x.ok W.heap.size W:=by
  intro i hl
  obtain ⟨cs,m,y,_,htr,hwy,hc,hz⟩:=hi i hl
  obtain ⟨r,m,t,f,pf,cf,ng,pg,cg,bg,og,g,qg,dg,e,g0,g1,g2,g3,g4⟩:=open_62 htr hwy
  subst e
  exact ⟨⟨r,m,t,f,pf,cf,ng,pg,cg,bg,og,g,qg,dg⟩,hz,⟨g0,g1,g2,g3,g4⟩⟩
 obtain ⟨f,hf⟩:=pick ⟨0,0,0,.nil,none,0,0,none,0,0,0,fun _=>.nil,fun _=>none,fun _=>0⟩ hq
 exact ⟨p,len,c,b,o,f,rfl,⟨by simp[reachBytes]at hn ⊢;omega,hp,fun i hi=>(hf i hi).1⟩,fun i hi=>(hf i hi).2⟩
theorem fields64:∃f0 f1 f2 f3:Field,Tryz.prog.underlying 64=some (.struct #[f0,f1,f2,f3])∧(f0.type=3∧f1.type=3∧f2.type=37∧f3.type=52)∧(f0.offset=0∧f1.offset=1∧f2.offset=2∧f3.offset=3) :=
 ⟨_,_,_,_,Tryz.underlying64,⟨rfl,rfl,rfl,rfl⟩,⟨rfl,rfl,rfl,rfl⟩⟩
theorem open_64 {n:Nat} {cs:List Value} {y:DataW H × List MemPlace} (h:DataW.trod enc QP W 0 sp held n 64 cs=some y) (hw:WB 64 y.1):∃(m:Int) (t:Int) (f:Fo) (pf:Option Addr) (cf:Nat) (b:List UInt8) (pb:Option Addr) (cb:Nat),cs=[I J m,I J t,V pf f.len cf,V pb b.length cb]∧i64B m∧i64B t∧CO W.heap.size W pf cf f∧YO W.heap.size W pb cb b:=by
 obtain ⟨f0,f1,f2,f3,hu,⟨t0,t1,t2,t3⟩,⟨o0,o1,o2,o3⟩⟩:=fields64
 obtain ⟨xs,m,rfl,hx,hl,hlen,hat⟩:=DataW.trod_struct hu h
 rw[c64]at hl
 obtain ⟨k0,k1,k2,k3,rfl⟩:∃k0 k1 k2 k3,cs=[k0,k1,k2,k3]:=by
  match cs,hl with
  | [_,_,_,_],_=>exact ⟨_,_,_,_,rfl⟩
 obtain ⟨y0,y1,y2,y3,rfl⟩:∃y0 y1 y2 y3,xs=[y0,y1,y2,y3]:=by
  match xs,hlen with
  | [_,_,_,_],_=>exact ⟨_,_,_,_,rfl⟩
 rw[hx]at hw
 have h0:=hat 0 f0 rfl
 rw[t0,o0,c3]at h0
 have q0:=wb_part hu hw 0 f0 y0.1 rfl rfl
 rw[t0]at q0
 obtain ⟨v0_,e0,g0⟩:=open_I (v:=k0) h0
 subst e0
 have h1:=hat 1 f1 rfl
 rw[t1,o1,c3]at h1
 have q1:=wb_part hu hw 1 f1 y1.1 rfl rfl
 rw[t1]at q1
 obtain ⟨v1_,e1,g1⟩:=open_I (v:=k1) h1
 subst e1
 have h2:=hat 2 f2 rfl
 rw[t2,o2,c37]at h2
 have q2:=wb_part hu hw 2 f2 y2.1 rfl rfl
 rw[t2]at q2
 obtain ⟨v2_,pv2_,cv2_,e2,g2⟩:=open_C (v:=k2) h2 q2
 subst e2
 have h3:=hat 3 f3 rfl
 rw[t3,o3,c52]at h3
 have q3:=wb_part hu hw 3 f3 y3.1 rfl rfl
 rw[t3]at q3
 obtain ⟨v3_,pv3_,cv3_,e3,g3⟩:=open_Y (v:=k3) h3 q3
 subst e3
 exact ⟨v0_,v1_,v2_,pv2_,cv2_,v3_,pv3_,cv3_,rfl,g0,g1,g2,g3⟩
theorem open_rowDat {fuel:Nat} {v:Value} {y:DataW H × List MemPlace} (h:DataW.trod enc QP W 0 sp held fuel 30 [v]=some y) (hw:WB 30 y.1):∃(p:Option Addr) (n c b o:Nat) (E:Nat→EDat),v=V p n c∧RowM W.heap.size W p n b o 4 (fun i=>(E i).cs)∧∀i,i<n→(E i).ok W.heap.size W:=by
 obtain ⟨p,len,c,b,o,rfl,hn,hp,hi⟩:=open_rows Tryz.underlying30 c64 (by decide) byp64 h hw
 have hq:∀i,i<len→∃x:EDat,(∀k z,x.cs[k]?=some z→W.cell? ⟨b,o+i*4+k,none⟩=some z)∧x.ok W.heap.size W:=by
  intro i hl
  obtain ⟨cs,m,y,_,htr,hwy,hc,hz⟩:=hi i hl
  obtain ⟨m,t,f,pf,cf,b,pb,cb,e,g0,g1,g2,g3⟩:=open_64 htr hwy
  subst e
  exact ⟨⟨m,t,f,pf,cf,b,pb,cb⟩,hz,⟨g0,g1,g2,g3⟩⟩
 obtain ⟨f,hf⟩:=pick ⟨0,0,.nil,none,0,[],none,0⟩ hq
 exact ⟨p,len,c,b,o,f,rfl,⟨by simp[reachBytes]at hn ⊢;omega,hp,fun i hi=>(hf i hi).1⟩,fun i hi=>(hf i hi).2⟩
theorem fields32:∃f0 f1 f2 f3 f4 f5 f6 f7 f8 f9 f10:Field,Tryz.prog.underlying 32=some (.struct #[f0,f1,f2,f3,f4,f5,f6,f7,f8,f9,f10])∧(f0.type=22∧f1.type=23∧f2.type=24∧f3.type=25∧f4.type=26∧f5.type=27∧f6.type=28∧f7.type=3∧f8.type=29∧f9.type=30∧f10.type=4)∧(f0.offset=0∧f1.offset=1∧f2.offset=2∧f3.offset=3∧f4.offset=4∧f5.offset=5∧f6.offset=6∧f7.offset=7∧f8.offset=8∧f9.offset=9∧f10.offset=10) :=
 ⟨_,_,_,_,_,_,_,_,_,_,_,Tryz.underlying32,⟨rfl,rfl,rfl,rfl,rfl,rfl,rfl,rfl,rfl,rfl,rfl⟩,⟨rfl,rfl,rfl,rfl,rfl,rfl,rfl,rfl,rfl,rfl,rfl⟩⟩
theorem open_32 {n:Nat} {cs:List Value} {y:DataW H × List MemPlace} (h:DataW.trod enc QP W 0 sp held n 32 cs=some y) (hw:WB 32 y.1):∃M:MD,cs.toArray=#[V M.tp M.tn M.tc,V M.imp M.imn M.imc,V M.fp M.fn M.fc,V M.tbp M.tbn M.tbc,V M.mp M.mn M.mc,V M.gp M.gn M.gc,V M.xp M.xn M.xc,I J M.st,V M.ep M.en M.ec,V M.dp M.dn M.dc,G M.cnt]∧M.ok W.heap.size W:=by
 obtain ⟨f0,f1,f2,f3,f4,f5,f6,f7,f8,f9,f10,hu,⟨t0,t1,t2,t3,t4,t5,t6,t7,t8,t9,t10⟩,⟨o0,o1,o2,o3,o4,o5,o6,o7,o8,o9,o10⟩⟩:=fields32
 obtain ⟨xs,m,rfl,hx,hl,hlen,hat⟩:=DataW.trod_struct hu h
 rw[c32]at hl
 obtain ⟨k0,k1,k2,k3,k4,k5,k6,k7,k8,k9,k10,rfl⟩:∃k0 k1 k2 k3 k4 k5 k6 k7 k8 k9 k10,cs=[k0,k1,k2,k3,k4,k5,k6,k7,k8,k9,k10]:=by
  match cs,hl with
  | [_,_,_,_,_,_,_,_,_,_,_],_=>exact ⟨_,_,_,_,_,_,_,_,_,_,_,rfl⟩
 obtain ⟨y0,y1,y2,y3,y4,y5,y6,y7,y8,y9,y10,rfl⟩:∃y0 y1 y2 y3 y4 y5 y6 y7 y8 y9 y10,xs=[y0,y1,y2,y3,y4,y5,y6,y7,y8,y9,y10]:=by
  match xs,hlen with
  | [_,_,_,_,_,_,_,_,_,_,_],_=>exact ⟨_,_,_,_,_,_,_,_,_,_,_,rfl⟩
 rw[hx]at hw
 have h0:=hat 0 f0 rfl
 rw[t0,o0,c22]at h0
 have q0:=wb_part hu hw 0 f0 y0.1 rfl rfl
 rw[t0]at q0
 obtain ⟨p0,n0,u0,b0,z0,E0,e0,r0,g0⟩:=open_rowTyp (v:=k0) h0 q0
 subst e0
 have h1:=hat 1 f1 rfl
 rw[t1,o1,c23]at h1
 have q1:=wb_part hu hw 1 f1 y1.1 rfl rfl
 rw[t1]at q1
 obtain ⟨p1,n1,u1,b1,z1,E1,e1,r1,g1⟩:=open_rowImp (v:=k1) h1 q1
 subst e1
 have h2:=hat 2 f2 rfl
 rw[t2,o2,c24]at h2
 have q2:=wb_part hu hw 2 f2 y2.1 rfl rfl
 rw[t2]at q2
 obtain ⟨p2,n2,u2,b2,z2,E2,e2,r2,g2⟩:=open_rowFun (v:=k2) h2 q2
 subst e2
 have h3:=hat 3 f3 rfl
 rw[t3,o3,c25]at h3
 have q3:=wb_part hu hw 3 f3 y3.1 rfl rfl
 rw[t3]at q3
 obtain ⟨p3,n3,u3,b3,z3,E3,e3,r3,g3⟩:=open_rowTab (v:=k3) h3 q3
 subst e3
 have h4:=hat 4 f4 rfl
 rw[t4,o4,c26]at h4
 have q4:=wb_part hu hw 4 f4 y4.1 rfl rfl
 rw[t4]at q4
 obtain ⟨p4,n4,u4,b4,z4,E4,e4,r4,g4⟩:=open_rowLim (v:=k4) h4 q4
 subst e4
 have h5:=hat 5 f5 rfl
 rw[t5,o5,c27]at h5
 have q5:=wb_part hu hw 5 f5 y5.1 rfl rfl
 rw[t5]at q5
 obtain ⟨p5,n5,u5,b5,z5,E5,e5,r5,g5⟩:=open_rowGlo (v:=k5) h5 q5
 subst e5
 have h6:=hat 6 f6 rfl
 rw[t6,o6,c28]at h6
 have q6:=wb_part hu hw 6 f6 y6.1 rfl rfl
 rw[t6]at q6
 obtain ⟨p6,n6,u6,b6,z6,E6,e6,r6,g6⟩:=open_rowExp (v:=k6) h6 q6
 subst e6
 have h7:=hat 7 f7 rfl
 rw[t7,o7,c3]at h7
 have q7:=wb_part hu hw 7 f7 y7.1 rfl rfl
 rw[t7]at q7
 obtain ⟨st,e7,gst⟩:=open_I (v:=k7) h7
 subst e7
 have h8:=hat 8 f8 rfl
 rw[t8,o8,c29]at h8
 have q8:=wb_part hu hw 8 f8 y8.1 rfl rfl
 rw[t8]at q8
 obtain ⟨p8,n8,u8,b8,z8,E8,e8,r8,g8⟩:=open_rowElm (v:=k8) h8 q8
 subst e8
 have h9:=hat 9 f9 rfl
 rw[t9,o9,c30]at h9
 have q9:=wb_part hu hw 9 f9 y9.1 rfl rfl
 rw[t9]at q9
 obtain ⟨p9,n9,u9,b9,z9,E9,e9,r9,g9⟩:=open_rowDat (v:=k9) h9 q9
 subst e9
 have h10:=hat 10 f10 rfl
 rw[t10,o10,c4]at h10
 have q10:=wb_part hu hw 10 f10 y10.1 rfl rfl
 rw[t10]at q10
 obtain ⟨cnt,e10⟩:=open_B (v:=k10) h10
 subst e10
 exact ⟨⟨p0,n0,u0,b0,z0,E0,p1,n1,u1,b1,z1,E1,p2,n2,u2,b2,z2,E2,p3,n3,u3,b3,z3,E3,p4,n4,u4,b4,z4,E4,p5,n5,u5,b5,z5,E5,p6,n6,u6,b6,z6,E6,p8,n8,u8,b8,z8,E8,p9,n9,u9,b9,z9,E9,st,cnt⟩,rfl,⟨r0,g0,r1,g1,r2,g2,r3,g3,r4,g4,r5,g5,r6,g6,r8,g8,r9,g9,gst⟩⟩
end
end
end Go.Proofs.YtjgeedgphcjhoaaGreat
