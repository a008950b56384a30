/-
  WU, WOp, WTypes, WIns1, WIns2: merged, what the law does not reach left out (each text says what it holds where it lies in wip). No condition.
-/
import Derived.Test.YtjgeedgphcjhoaaGreatS12
import Derived.Deep.RegionHeld3
import Derived.Shelf.Abstract
import Derived.Test.YtjgeedgphcjhoaaGreatS01
set_option linter.unusedSimpArgs false
set_option linter.unusedVariables false
set_option maxRecDepth 100000
set_option maxHeartbeats 64000000
namespace Go.Proofs.YtjgeedgphcjhoaaGreat
open Go.RowKit
open Value renaming int → I,slice → V,bool → G,pointer → Qp
open IntKind renaming i64 → J,u64 → O
open Ending renaming returned → Qr
open Obj renaming cells → Qc
open _root_.Go.Proofs.Tryz renaming prog → QP
open Nat renaming le_trans → Qk,zero_le → Qz
open List renaming length_append → QA,length_cons → QC,length_nil → QN,length_map → QM,append_assoc → QS
open Act renaming put → Qu
open Lib renaming byteCells → QY
theorem step_append_own {ops:Array Oper} {o:Oper} {a:Act} {w:World} {K:Act→World→Prop} {Q:Exit→Act→World→Prop} {E:Prop} (hgd:o.guard=none) (s x:Operand)
  (ho:o.op=.call { callee:=.builtin .append,args:=#[s,x],argTypes:=#[52,52] }) (base:Nat) (v:Value) (n:Nat) (xs:List Value) (hs:a.eval s=v) (hown:w.ownsRow base 5 1 v n xs)
  (ad:Addr) (m c:Nat) (news:List Value) (hx:a.eval x=V (some ad) m c) (hl:news.length=m) (hnews:∀j u,news[j]?=some u→w.cell? (ad.add j)=some u) (h1:∀u∈news,u.oneCell'=true)
  (hbytes:n+m≤140737488355328) (hbase:base≤w.heap.size)
  (h:∀v' w',w'.ownsRow base 5 1 v' (n+m) (xs++news)→w.grownBy w' v.ownBlock→(∀j,v'.ownBlock=some j→v.ownBlock=some j∨w.heap.size≤j)→K (a.put o.dst v') w') :
  if Region.wanted o (yielded ops a.tmps)=true then Oper.wp QP o a w K Q else E:=by
 have hw:Region.wanted o (yielded ops a.tmps)=true:=by simp[Region.wanted,hgd]
 rw[if_pos hw]
 obtain ⟨v',w',hrun,r1,r2,r3⟩:=run_app5 w base o.type v n xs hown ad m c news hl hnews h1 hbytes hbase
 unfold Oper.wp
 simp[execOp,ho,resolve,invoke,builtin,hs,hx,hrun,Result.andThen]
 exact h _ _ r1 r2 r3
theorem own_cells {w:World} {base g n c:Nat} {y:List UInt8} (h:w.ownsRow base 5 1 (V (some ⟨g,0,none⟩) n c) n (QY y)):∀j u,(QY y)[j]?=some u→w.cell? ((⟨g,0,none⟩:Addr).add j)=some u:=by
 intro j u hj
 have hl:=h.1
 have hlt:j<n:=by have:=(List.getElem?_eq_some_iff.1 hj).1;omega
 rw[addr_add,Nat.zero_add,h.cellAt j (by omega),hj]
theorem own_at {w:World} {base n:Nat} {v:Value} {xs:List Value} (h:w.ownsRow base 5 1 v n xs) (hn:1≤n):∃g c,v=V (some ⟨g,0,none⟩) n c:=by
 rcases h.2 with ⟨_,h2⟩|⟨g,cap,cur,h1,_⟩
 ·omega
 exact ⟨g,cap,h1⟩
theorem u_of (B g:Nat) (bs:List UInt8) (n:Int) (x:Nat) (hx:IntKind.u64.wrap n=(x:Int)) (y:List UInt8) (m:Nat) (hm:m=y.length) (w:World) (hB:B≤w.heap.size) (hw:WR B g bs w) (hn:bs.length+m≤140737488355000)
  (HU:∀W,Hid (Calls QP 177 #[V none 0 0,I O (x:Nat)] W fun e w'=>∃g2 c2,e=Qr (V (some ⟨g2,0,none⟩) m c2)∧w'.ownsRow W.heap.size 5 1 (V (some ⟨g2,0,none⟩) m c2) m (QY y)∧Below W.heap.size W w')) :
  Calls QP 105 #[Qp (some ⟨g,0,none⟩),I J n] w fun e w'=>e=Qr (.tuple #[])∧WR B g (bs++y) w'∧FR B g w w':=by
 obtain ⟨i0,hi,hz0,hz1,hz2⟩:=info_parts info5
 have HGA:=hid hw.lt
 obtain ⟨hBg,u,hc,ho⟩:=hw
 obtain ⟨pu,nu,cu,rfl⟩:=own_slice ho
 have HN1:=hid (show bs.length+m≤maxLen by unfold maxLen;omega)
 have HN2:=hid (show (bs.length+m)*1≤140737488355328 by omega)
 have HBG:=hid hBg
 have HBW:=hid hB
 have HM:=hid hm
 have HC0:=hid hc
 have HO0:=hid ho
 clear hBg hc ho hm hn hB
 go_enter Tryz.func105,Tryz.ntmps105
 go_upto_region 0 with fail
 have hS:FR B g w w.drew:=(FR.refl B g w).drew
 have HC:Hid (CA g #[V pu nu cu] 137 w.drew):=HC0
 have HO:Hid (w.drew.ownsRow B 5 1 (V pu nu cu) bs.length (QY bs)):=HO0
 clear HC0 HO0
 refine wp_region_held_drew (S:=fun W=>FR B g w W) (by kernel_rfl) hS (fun _=>?_)
 generalize w.drew=W at *
 refine zt 0 (Qp (some ⟨g,0,none⟩)) rfl ?_ ?_
 ·(intro W hSw;skip;go_simp;try (with_reducible rfl))
 try simp only[Qu,sl2,sl0,sl1]
 refine zt 1 (Qp (some ⟨g,0,none⟩)) rfl ?_ ?_
 ·(intro W hSw;skip;go_simp;try (with_reducible rfl))
 try simp only[Qu,sl2,sl0,sl1]
 refine zt 2 (Qp (some ⟨g,0,none⟩)) rfl ?_ ?_
 ·(intro W hSw;skip;go_simp;try (with_reducible rfl))
 try simp only[Qu,sl2,sl0,sl1]
 refine zt 3 (Qp (some ⟨g,0,none⟩)) rfl ?_ ?_
 ·(intro W hSw;skip;go_simp;try (with_reducible rfl))
 try simp only[Qu,sl2,sl0,sl1]
 refine zt 5 (I J n) rfl ?_ ?_
 ·(intro W hSw;skip;go_simp;try (with_reducible rfl))
 try simp only[Qu,sl2,sl0,sl1]
 refine zt 6 (I O (x:Nat)) rfl ?_ ?_
 ·(intro W hSw;skip;go_simp;try (with_reducible rfl))
 try simp only[Qu,sl2,sl0,sl1]
 refine zm [4,7] ?_
 refine zc rfl (fun K hK=>?_) ?_
 ·have z0:=HC.out.at (k:=0) (v:=V pu nu cu) rfl
  go_simp
  clear z0
  refine hK.out _ _ hS (fun _=>?_)
  clear hK K
  try simp only[Qu,sl2,sl0,sl1]
  refine zr 7 rfl (fun K hK=>?_)
  go_simp
  go_at_call 177
  (with_reducible refine (HU W).out.mono ?_)
  rintro e W1 ⟨g2,c2,rfl,ho2,hb⟩
  replace HO:=hid (own_kept HO.out hb)
  replace HC:=Qe HC hb
  replace hS:=hS.trans (FR.of hb)
  have HO2:=hid ho2
  clear hb ho2
  refine hK.out _ _ hS (fun _=>?_)
  clear hK K
  try simp only[Qu,sl2,sl0,sl1]
  refine zr 8 rfl (fun K hK=>?_)
  refine step_append_own rfl (.tmp 8) (.tmp 11) rfl B (V pu nu cu) bs.length (QY bs) rfl HO.out ⟨g2,0,none⟩ m c2 (QY y) rfl (by rw[Lib.byteCells_length,HM.out]) (own_cells HO2.out) (byteCells_one y) (by have:=HN2.out;omega) (Qk HBW.out hS.size) ?_
  intro v3 W2 ho3 hg3 hwh
  have HPV:=hid (own_put hS HGA.out (HC.out.at (v:=V pu nu cu) rfl) hwh)
  replace hS:=hS.trans (FR.grown (g:=g) HO.out hg3 (HC.out.at rfl) (Lib.ownBlock_ne HO.out HC.out (by decide)))
  replace HC:=hid (WR.set_row HC.out HO.out hg3)
  clear hwh
  clear HO HO2
  obtain ⟨p3,n3,c3,rfl⟩:=own_slice ho3
  have HO3:=hid ho3
  clear ho3 hg3
  refine hK.out _ _ hS (fun _=>?_)
  clear hK K
  try simp only[Qu,sl2,sl0,sl1]
  refine zt 9 (Qp (some ⟨g,0,none⟩)) rfl ?_ ?_
  ·(intro W hSw;skip;go_simp;try (with_reducible rfl))
  try simp only[Qu,sl2,sl0,sl1]
  refine zt 10 (Qp (some ⟨g,0,none⟩)) rfl ?_ ?_
  ·(intro W hSw;skip;go_simp;try (with_reducible rfl))
  try simp only[Qu,sl2,sl0,sl1]
  refine zr 11 rfl (fun K hK=>?_)
  have z0:=HC.out.at (k:=0) (v:=V pu nu cu) rfl
  have z1:=HC.out.free 0
  go_simp
  clear z0 z1
  have HWR:=hid (WR.put (bs:=bs++y) (Qk HBG.out hS.size) HC.out (by rw[QA,←HM.out,Lib.byteCells_append];exact HO3.out))
  replace hS:=hS.put (HC.out.at (v:=V pu nu cu) rfl) (V p3 n3 c3) HPV.out
  clear HC HO3
  generalize W2.setCell ⟨g,0,none⟩ (V p3 n3 c3)=W3 at *
  refine hK.out _ _ hS (fun _=>?_)
  clear hK K
  try simp only[Qu,sl2,sl0,sl1]
  refine wpAnyH_done (by kernel_rfl) ?_ _
  have HF:=hid hS
  clear hS
  go_wp2
  (first|go_end0|refine bodyPost_ret (results_none rfl _ _ _) rfl ?_)
  exact ⟨rfl,HWR.out,HF.out⟩
 refine zc rfl (fun K hK=>?_) ?_
 ·go_simp
  go_at_call 177
  (with_reducible refine (HU W).out.mono ?_)
  rintro e W1 ⟨g2,c2,rfl,ho2,hb⟩
  replace HO:=hid (own_kept HO.out hb)
  replace HC:=Qe HC hb
  replace hS:=hS.trans (FR.of hb)
  have HO2:=hid ho2
  clear hb ho2
  refine hK.out _ _ hS (fun _=>?_)
  clear hK K
  try simp only[Qu,sl2,sl0,sl1]
  refine zr 4 rfl (fun K hK=>?_)
  have z0:=HC.out.at (k:=0) (v:=V pu nu cu) rfl
  go_simp
  clear z0
  refine hK.out _ _ hS (fun _=>?_)
  clear hK K
  try simp only[Qu,sl2,sl0,sl1]
  refine zr 8 rfl (fun K hK=>?_)
  refine step_append_own rfl (.tmp 8) (.tmp 11) rfl B (V pu nu cu) bs.length (QY bs) rfl HO.out ⟨g2,0,none⟩ m c2 (QY y) rfl (by rw[Lib.byteCells_length,HM.out]) (own_cells HO2.out) (byteCells_one y) (by have:=HN2.out;omega) (Qk HBW.out hS.size) ?_
  intro v3 W2 ho3 hg3 hwh
  have HPV:=hid (own_put hS HGA.out (HC.out.at (v:=V pu nu cu) rfl) hwh)
  replace hS:=hS.trans (FR.grown (g:=g) HO.out hg3 (HC.out.at rfl) (Lib.ownBlock_ne HO.out HC.out (by decide)))
  replace HC:=hid (WR.set_row HC.out HO.out hg3)
  clear hwh
  clear HO HO2
  obtain ⟨p3,n3,c3,rfl⟩:=own_slice ho3
  have HO3:=hid ho3
  clear ho3 hg3
  refine hK.out _ _ hS (fun _=>?_)
  clear hK K
  try simp only[Qu,sl2,sl0,sl1]
  refine zt 9 (Qp (some ⟨g,0,none⟩)) rfl ?_ ?_
  ·(intro W hSw;skip;go_simp;try (with_reducible rfl))
  try simp only[Qu,sl2,sl0,sl1]
  refine zt 10 (Qp (some ⟨g,0,none⟩)) rfl ?_ ?_
  ·(intro W hSw;skip;go_simp;try (with_reducible rfl))
  try simp only[Qu,sl2,sl0,sl1]
  refine zr 11 rfl (fun K hK=>?_)
  have z0:=HC.out.at (k:=0) (v:=V pu nu cu) rfl
  have z1:=HC.out.free 0
  go_simp
  clear z0 z1
  have HWR:=hid (WR.put (bs:=bs++y) (Qk HBG.out hS.size) HC.out (by rw[QA,←HM.out,Lib.byteCells_append];exact HO3.out))
  replace hS:=hS.put (HC.out.at (v:=V pu nu cu) rfl) (V p3 n3 c3) HPV.out
  clear HC HO3
  generalize W2.setCell ⟨g,0,none⟩ (V p3 n3 c3)=W3 at *
  refine hK.out _ _ hS (fun _=>?_)
  clear hK K
  try simp only[Qu,sl2,sl0,sl1]
  refine wpAnyH_done (by kernel_rfl) ?_ _
  have HF:=hid hS
  clear hS
  go_wp2
  (first|go_end0|refine bodyPost_ret (results_none rfl _ _ _) rfl ?_)
  exact ⟨rfl,HWR.out,HF.out⟩
 exact zn
theorem s_of (B g:Nat) (bs:List UInt8) (n:Int) (x:Unit)  (y:List UInt8) (m:Nat) (hm:m=y.length) (w:World) (hB:B≤w.heap.size) (hw:WR B g bs w) (hn:bs.length+m≤140737488355000)
  (HU:∀W,Hid (Calls QP 267 #[V none 0 0,I J n] W fun e w'=>∃g2 c2,e=Qr (V (some ⟨g2,0,none⟩) m c2)∧w'.ownsRow W.heap.size 5 1 (V (some ⟨g2,0,none⟩) m c2) m (QY y)∧Below W.heap.size W w')) :
  Calls QP 243 #[Qp (some ⟨g,0,none⟩),I J n] w fun e w'=>e=Qr (.tuple #[])∧WR B g (bs++y) w'∧FR B g w w':=by
 obtain ⟨i0,hi,hz0,hz1,hz2⟩:=info_parts info5
 have HGA:=hid hw.lt
 obtain ⟨hBg,u,hc,ho⟩:=hw
 obtain ⟨pu,nu,cu,rfl⟩:=own_slice ho
 have HN1:=hid (show bs.length+m≤maxLen by unfold maxLen;omega)
 have HN2:=hid (show (bs.length+m)*1≤140737488355328 by omega)
 have HBG:=hid hBg
 have HBW:=hid hB
 have HM:=hid hm
 have HC0:=hid hc
 have HO0:=hid ho
 clear hBg hc ho hm hn hB
 go_enter Tryz.func243,Tryz.ntmps243
 go_upto_region 0 with fail
 have hS:FR B g w w.drew:=(FR.refl B g w).drew
 have HC:Hid (CA g #[V pu nu cu] 137 w.drew):=HC0
 have HO:Hid (w.drew.ownsRow B 5 1 (V pu nu cu) bs.length (QY bs)):=HO0
 clear HC0 HO0
 refine wp_region_held_drew (S:=fun W=>FR B g w W) (by kernel_rfl) hS (fun _=>?_)
 generalize w.drew=W at *
 refine zt 0 (Qp (some ⟨g,0,none⟩)) rfl ?_ ?_
 ·(intro W hSw;skip;go_simp;try (with_reducible rfl))
 try simp only[Qu,sl2,sl0,sl1]
 refine zt 1 (Qp (some ⟨g,0,none⟩)) rfl ?_ ?_
 ·(intro W hSw;skip;go_simp;try (with_reducible rfl))
 try simp only[Qu,sl2,sl0,sl1]
 refine zt 2 (Qp (some ⟨g,0,none⟩)) rfl ?_ ?_
 ·(intro W hSw;skip;go_simp;try (with_reducible rfl))
 try simp only[Qu,sl2,sl0,sl1]
 refine zt 3 (Qp (some ⟨g,0,none⟩)) rfl ?_ ?_
 ·(intro W hSw;skip;go_simp;try (with_reducible rfl))
 try simp only[Qu,sl2,sl0,sl1]
 refine zt 5 (I J n) rfl ?_ ?_
 ·(intro W hSw;skip;go_simp;try (with_reducible rfl))
 try simp only[Qu,sl2,sl0,sl1]
 refine zm [4,6] ?_
 refine zc rfl (fun K hK=>?_) ?_
 ·have z0:=HC.out.at (k:=0) (v:=V pu nu cu) rfl
  go_simp
  clear z0
  refine hK.out _ _ hS (fun _=>?_)
  clear hK K
  try simp only[Qu,sl2,sl0,sl1]
  refine zr 6 rfl (fun K hK=>?_)
  go_simp
  go_at_call 267
  (with_reducible refine (HU W).out.mono ?_)
  rintro e W1 ⟨g2,c2,rfl,ho2,hb⟩
  replace HO:=hid (own_kept HO.out hb)
  replace HC:=Qe HC hb
  replace hS:=hS.trans (FR.of hb)
  have HO2:=hid ho2
  clear hb ho2
  refine hK.out _ _ hS (fun _=>?_)
  clear hK K
  try simp only[Qu,sl2,sl0,sl1]
  refine zr 7 rfl (fun K hK=>?_)
  refine step_append_own rfl (.tmp 8) (.tmp 10) rfl B (V pu nu cu) bs.length (QY bs) rfl HO.out ⟨g2,0,none⟩ m c2 (QY y) rfl (by rw[Lib.byteCells_length,HM.out]) (own_cells HO2.out) (byteCells_one y) (by have:=HN2.out;omega) (Qk HBW.out hS.size) ?_
  intro v3 W2 ho3 hg3 hwh
  have HPV:=hid (own_put hS HGA.out (HC.out.at (v:=V pu nu cu) rfl) hwh)
  replace hS:=hS.trans (FR.grown (g:=g) HO.out hg3 (HC.out.at rfl) (Lib.ownBlock_ne HO.out HC.out (by decide)))
  replace HC:=hid (WR.set_row HC.out HO.out hg3)
  clear hwh
  clear HO HO2
  obtain ⟨p3,n3,c3,rfl⟩:=own_slice ho3
  have HO3:=hid ho3
  clear ho3 hg3
  refine hK.out _ _ hS (fun _=>?_)
  clear hK K
  try simp only[Qu,sl2,sl0,sl1]
  refine zt 8 (Qp (some ⟨g,0,none⟩)) rfl ?_ ?_
  ·(intro W hSw;skip;go_simp;try (with_reducible rfl))
  try simp only[Qu,sl2,sl0,sl1]
  refine zt 9 (Qp (some ⟨g,0,none⟩)) rfl ?_ ?_
  ·(intro W hSw;skip;go_simp;try (with_reducible rfl))
  try simp only[Qu,sl2,sl0,sl1]
  refine zr 10 rfl (fun K hK=>?_)
  have z0:=HC.out.at (k:=0) (v:=V pu nu cu) rfl
  have z1:=HC.out.free 0
  go_simp
  clear z0 z1
  have HWR:=hid (WR.put (bs:=bs++y) (Qk HBG.out hS.size) HC.out (by rw[QA,←HM.out,Lib.byteCells_append];exact HO3.out))
  replace hS:=hS.put (HC.out.at (v:=V pu nu cu) rfl) (V p3 n3 c3) HPV.out
  clear HC HO3
  generalize W2.setCell ⟨g,0,none⟩ (V p3 n3 c3)=W3 at *
  refine hK.out _ _ hS (fun _=>?_)
  clear hK K
  try simp only[Qu,sl2,sl0,sl1]
  refine wpAnyH_done (by kernel_rfl) ?_ _
  have HF:=hid hS
  clear hS
  go_wp2
  (first|go_end0|refine bodyPost_ret (results_none rfl _ _ _) rfl ?_)
  exact ⟨rfl,HWR.out,HF.out⟩
 refine zc rfl (fun K hK=>?_) ?_
 ·go_simp
  go_at_call 267
  (with_reducible refine (HU W).out.mono ?_)
  rintro e W1 ⟨g2,c2,rfl,ho2,hb⟩
  replace HO:=hid (own_kept HO.out hb)
  replace HC:=Qe HC hb
  replace hS:=hS.trans (FR.of hb)
  have HO2:=hid ho2
  clear hb ho2
  refine hK.out _ _ hS (fun _=>?_)
  clear hK K
  try simp only[Qu,sl2,sl0,sl1]
  refine zr 4 rfl (fun K hK=>?_)
  have z0:=HC.out.at (k:=0) (v:=V pu nu cu) rfl
  go_simp
  clear z0
  refine hK.out _ _ hS (fun _=>?_)
  clear hK K
  try simp only[Qu,sl2,sl0,sl1]
  refine zr 7 rfl (fun K hK=>?_)
  refine step_append_own rfl (.tmp 8) (.tmp 10) rfl B (V pu nu cu) bs.length (QY bs) rfl HO.out ⟨g2,0,none⟩ m c2 (QY y) rfl (by rw[Lib.byteCells_length,HM.out]) (own_cells HO2.out) (byteCells_one y) (by have:=HN2.out;omega) (Qk HBW.out hS.size) ?_
  intro v3 W2 ho3 hg3 hwh
  have HPV:=hid (own_put hS HGA.out (HC.out.at (v:=V pu nu cu) rfl) hwh)
  replace hS:=hS.trans (FR.grown (g:=g) HO.out hg3 (HC.out.at rfl) (Lib.ownBlock_ne HO.out HC.out (by decide)))
  replace HC:=hid (WR.set_row HC.out HO.out hg3)
  clear hwh
  clear HO HO2
  obtain ⟨p3,n3,c3,rfl⟩:=own_slice ho3
  have HO3:=hid ho3
  clear ho3 hg3
  refine hK.out _ _ hS (fun _=>?_)
  clear hK K
  try simp only[Qu,sl2,sl0,sl1]
  refine zt 8 (Qp (some ⟨g,0,none⟩)) rfl ?_ ?_
  ·(intro W hSw;skip;go_simp;try (with_reducible rfl))
  try simp only[Qu,sl2,sl0,sl1]
  refine zt 9 (Qp (some ⟨g,0,none⟩)) rfl ?_ ?_
  ·(intro W hSw;skip;go_simp;try (with_reducible rfl))
  try simp only[Qu,sl2,sl0,sl1]
  refine zr 10 rfl (fun K hK=>?_)
  have z0:=HC.out.at (k:=0) (v:=V pu nu cu) rfl
  have z1:=HC.out.free 0
  go_simp
  clear z0 z1
  have HWR:=hid (WR.put (bs:=bs++y) (Qk HBG.out hS.size) HC.out (by rw[QA,←HM.out,Lib.byteCells_append];exact HO3.out))
  replace hS:=hS.put (HC.out.at (v:=V pu nu cu) rfl) (V p3 n3 c3) HPV.out
  clear HC HO3
  generalize W2.setCell ⟨g,0,none⟩ (V p3 n3 c3)=W3 at *
  refine hK.out _ _ hS (fun _=>?_)
  clear hK K
  try simp only[Qu,sl2,sl0,sl1]
  refine wpAnyH_done (by kernel_rfl) ?_ _
  have HF:=hid hS
  clear hS
  go_wp2
  (first|go_end0|refine bodyPost_ret (results_none rfl _ _ _) rfl ?_)
  exact ⟨rfl,HWR.out,HF.out⟩
 exact zn
theorem u_says (B g:Nat) (bs:List UInt8) (n:Int) (w:World) (hB:B≤w.heap.size) (hw:WR B g bs w) (hn:bs.length+10≤140737488355000) :
  Calls QP 105 #[Qp (some ⟨g,0,none⟩),I J n] w fun e w'=>e=Qr (.tuple #[])∧WR B g (bs++uI n) w'∧FR B g w w':=by
 obtain ⟨x,hx⟩:∃x:Nat,x=(n%18446744073709551616).toNat:=⟨_,rfl⟩
 have hl:=ulist_length64 (x:=x) (by omega)
 have hp:=ulist_pos x
 refine u_of B g bs n x (by rw[show IntKind.u64.wrap n=n%18446744073709551616 from rfl];omega) (uI n) (uI n).length rfl w hB hw (by have:=uI_len n;omega) (fun W=>?_)
 refine (U_in 0 (V none 0 0) [] x (by omega) W (.inl (.inl ⟨rfl,rfl⟩)) (Qz _) (by simp)).mono ?_
 rintro e w' ⟨v,rfl,ho,hb⟩
 rw[List.nil_append,hx]at ho
 rw[hx]at hp
 obtain ⟨g2,c2,rfl⟩:=own_at ho hp
 exact ⟨g2,c2,rfl,ho,hb⟩
theorem s_says (B g:Nat) (bs:List UInt8) (n:Int) (h0:-9223372036854775808≤n) (h1:n≤9223372036854775807) (w:World) (hB:B≤w.heap.size) (hw:WR B g bs w) (hn:bs.length+10≤140737488355000) :
  Calls QP 243 #[Qp (some ⟨g,0,none⟩),I J n] w fun e w'=>e=Qr (.tuple #[])∧WR B g (bs++slist n) w'∧FR B g w w':=by
 have hl:=slist_length64 h0 h1
 have hp:=slist_pos n
 refine s_of B g bs n () (slist n) (slist n).length rfl w hB hw (by omega) (fun W=>?_)
 refine (S_in 0 (V none 0 0) [] n h0 h1 W (.inl (.inl ⟨rfl,rfl⟩)) (Qz _) (by simp)).mono ?_
 rintro e w' ⟨v,rfl,ho,hb⟩
 rw[List.nil_append]at ho
 obtain ⟨g2,c2,rfl⟩:=own_at ho hp
 exact ⟨g2,c2,rfl,ho,hb⟩
theorem WR.base {B g:Nat} {bs:List UInt8} {w:World} (h:WR B g bs w):B≤w.heap.size:=h.1
theorem op_says (B g:Nat) (bs:List UInt8) (op:Int) (h0:0≤op) (h1:op<65024) (w:World) (hw:WR B g bs w) (hn:bs.length+20≤140737488355000) :
  Calls QP 240 #[Qp (some ⟨g,0,none⟩),I J op] w fun e w'=>e=Qr (.tuple #[])∧WR B g (bs++opL op) w'∧FR B g w w':=by
 have HW:=hid hw
 have HBW:=hid hw.1
 have HGA:=hid hw.lt
 have HN:=hid hn
 have HN1:=fun x:Int=>hid (show bs.length+[x].length≤140737488355000 by simp;omega)
 have HN2:=fun x:Int=>hid (show (bs++List.map byI [x]).length+10≤140737488355000 by simp;omega)
 unfold opL
 by_cases c1:64768≤op
 ·rw[if_pos c1]
  clear hw hn h0
  go_enter Tryz.func240,Tryz.ntmps240
  go_wp2_with (first
   |(go_at_call 169;(with_reducible refine (bytes_says B g bs [253] _ _ (HW.out.alloc _) (LT.one 253 1 HW.out.lt) (HN1 _).out).mono ?_);rintro e w1 ⟨rfl,hw1,hf1⟩;have HW1:=hid hw1;have HF1:=hid (((FR.refl B g w).alloc _).trans hf1);clear hw1 hf1)
   |(go_at_call 105;(with_reducible refine (u_says B g _ (op-64768) _ HW1.out.base HW1.out (HN2 _).out).mono ?_);rintro e w2 ⟨rfl,hw2,hf2⟩;have HW2:=hid hw2;have HF2:=hid (HF1.out.trans hf2);clear hw2 hf2))
  (first|go_end0|refine bodyPost_ret (results_none rfl _ _ _) rfl ?_)
  exact ⟨rfl,by have:=HW2.out;rw[QS]at this;exact this,HF2.out⟩
 rw[if_neg c1]
 by_cases c2:64512≤op
 ·rw[if_pos c2]
  clear hw hn h0
  go_enter Tryz.func240,Tryz.ntmps240
  go_wp2_with (first
   |(go_at_call 169;(with_reducible refine (bytes_says B g bs [252] _ _ (HW.out.alloc _) (LT.one 252 1 HW.out.lt) (HN1 _).out).mono ?_);rintro e w1 ⟨rfl,hw1,hf1⟩;have HW1:=hid hw1;have HF1:=hid (((FR.refl B g w).alloc _).trans hf1);clear hw1 hf1)
   |(go_at_call 105;(with_reducible refine (u_says B g _ (op-64512) _ HW1.out.base HW1.out (HN2 _).out).mono ?_);rintro e w2 ⟨rfl,hw2,hf2⟩;have HW2:=hid hw2;have HF2:=hid (HF1.out.trans hf2);clear hw2 hf2))
  (first|go_end0|refine bodyPost_ret (results_none rfl _ _ _) rfl ?_)
  exact ⟨rfl,by have:=HW2.out;rw[QS]at this;exact this,HF2.out⟩
 rw[if_neg c2]
 clear hw hn
 go_enter Tryz.func240,Tryz.ntmps240
 go_wp2_with (first
  |(go_at_call 169;(with_reducible refine (bytes_says B g bs [op] _ _ (HW.out.alloc _) (LT.one op 1 HW.out.lt) (HN1 _).out).mono ?_);rintro e w1 ⟨rfl,hw1,hf1⟩;have HW1:=hid hw1;have HF1:=hid (((FR.refl B g w).alloc _).trans hf1);clear hw1 hf1))
 (first|go_end0|refine bodyPost_ret (results_none rfl _ _ _) rfl ?_)
 exact ⟨rfl,HW1.out,HF1.out⟩
theorem byI_cast (q:Nat):byI ((q:Nat):Int)=(q%256).toUInt8:=by
 unfold byI
 congr 1
theorem little_any (B g:Nat) (bs:List UInt8) (k v:Nat) (hk:k≤100) (hv:v<18446744073709551616) (w:World) (hw:WR B g bs w) (hn:bs.length+120≤140737488355000) :
  Calls QP 245 #[Qp (some ⟨g,0,none⟩),I J k,I O (v:Nat)] w fun e w'=>e=Qr (.tuple #[])∧WR B g (bs++lowL k v) w'∧FR B g w w':=by
 have HW:=hid hw
 have HBW:=hid hw.1
 have HGA:=hid hw.lt
 have HN:=hid hn
 have HV:=hid hv
 clear hw hn
 go_enter Tryz.func245,Tryz.ntmps245
 go_wp2
 go_loopw [2,7] (fun vn vi wr=>∃(i q:Nat) (pre:List UInt8),i≤k∧vi=I J i∧vn=I O (q:Nat)∧q<18446744073709551616∧Hid (pre.length=i∧lowL k v=pre++lowL (k-i) q)∧Hid (WR B g (bs++pre) wr)∧Hid (FR B g w wr)) (fun _ vi _=>k-(intOf vi).toNat)
 case atStart=>exact ⟨0,v,[],Qz _,rfl,rfl,HV.out,⟨rfl,rfl⟩,by simpa using HW,FR.refl _ _ _⟩
 obtain ⟨i,q,pre,hi,rfl,rfl,hq,HS,HR,HF⟩:=hrel
 by_cases hlt:i<k
 ·obtain ⟨hBg,u,hc,ho⟩:=HR.out
  obtain ⟨pu,nu,cu,rfl⟩:=own_slice ho
  have y0:=hc.at (k:=0) (v:=V pu nu cu) rfl
  have HC:=hid hc
  have HO:=hid ho
  have HBG:=hid hBg
  have HLE:Hid ((bs++pre).length+1≤140737488355328):=by
   have:=HN.out
   have:=HS.out.1
   simp only[Hid,QA]
   omega
  have HNX:Hid (lowL k v=(pre++[byI q])++lowL (k-(i+1)) (q / 256)):=by
   have:=HS.out.2
   obtain ⟨j,hj⟩:∃j,k-i=j+1:=⟨k-i-1,by omega⟩
   rw[hj,lowL]at this
   rw[show k-(i+1)=j by omega,byI_cast]
   simpa[Hid]using this
  clear hc ho hBg hi
  go_wp2_with (at_builtin;refine append_byteF rfl _ _ rfl B g _ _ q w HBG.out HC.out HO.out HLE.out HGA.out HF.out _ rfl rfl rfl ?_;intro v2 w2 ho2 hc2 hf2 hf3;have HF3:=hid hf3;clear hf3;obtain ⟨p2,m2,c2,rfl⟩:=own_slice ho2;have y1:=hc2.at (k:=0) (v:=V pu nu cu) rfl;have y2:=hc2.free 0;have HO2:=hid ho2;have HC2:=hid hc2;have HF2:=hid hf2;clear ho2 hc2 hf2)
  go_roundw
  case rel =>
   refine ⟨i+1,q / 256,pre++[byI q],hlt,by go_num,by go_num,by omega,hid ⟨by simp[HS.out.1],HNX.out⟩,?_,HF3⟩
   rw[←QS]
   exact WR.put (Qk HBW.out HF2.out.size) HC2.out HO2.out
  case measure=>simp[intOf];omega
 obtain rfl:i=k:=by omega
 go_wp2
 (first|go_end0|refine bodyPost_ret (results_none rfl _ _ _) rfl ?_)
 refine ⟨rfl,?_,HF.out⟩
 have:=HR.out
 rw[HS.out.2,Nat.sub_self,lowL,List.append_nil]
 exact this
theorem little_4 (B g:Nat) (bs:List UInt8) (v:Nat) (hv:v<18446744073709551616) (w:World) (hw:WR B g bs w) (hn:bs.length+120≤140737488355000) :
  Calls QP 245 #[Qp (some ⟨g,0,none⟩),I J 4,I O (v:Nat)] w fun e w'=>e=Qr (.tuple #[])∧WR B g (bs++lowL 4 v) w'∧FR B g w w':=little_any B g bs 4 v (by omega) hv w hw hn
theorem little_8 (B g:Nat) (bs:List UInt8) (v:Nat) (hv:v<18446744073709551616) (w:World) (hw:WR B g bs w) (hn:bs.length+120≤140737488355000) :
  Calls QP 245 #[Qp (some ⟨g,0,none⟩),I J 8,I O (v:Nat)] w fun e w'=>e=Qr (.tuple #[])∧WR B g (bs++lowL 8 v) w'∧FR B g w w':=little_any B g bs 8 v (by omega) hv w hw hn
def flL (F:Int→List UInt8):List Int→List UInt8
 | []=>[]
 |x::l=>F x++flL F l
theorem flL_snoc (F:Int→List UInt8):∀(l:List Int) (x:Int),flL F (l++[x])=flL F l++F x
 | [],x=>by simp[flL]
 |y::l,x=>by simp[flL,flL_snoc F l x]
theorem flL_len (F:Int→List UInt8) (hF:∀x,(F x).length≤10):∀l:List Int,(flL F l).length≤10*l.length
 | []=>Nat.le_refl _
 |x::l=>by
  have:=flL_len F hF l
  have:=hF x
  simp only[flL,QA,QC]
  omega
theorem flL_us:∀l,flL uI l=usL l
 | []=>rfl
 |x::l=>by rw[flL,usL,flL_us l]
theorem flL_by:∀l,flL (fun x=>[byI x]) l=l.map byI
 | []=>rfl
 |x::l=>by rw[flL,flL_by l];rfl
theorem list_int (B g b:Nat) (k:Nat) (eg:∀args w,(callFunc k args).run QP w=.ok (.enter k args) w) (F:Int→List UInt8) (hF:∀x,(F x).length≤10) (bs:List UInt8) (l:List Int) (v:Value) (w:World) (hbg:b≠g) (hb:CA b #[Qp (some ⟨g,0,none⟩)] 135 w)
  (hk:∀bs x W,WR B g bs W→CA b #[Qp (some ⟨g,0,none⟩)] 135 W→bs.length+20≤140737488355000→Calls QP k #[I J x,Qp (some ⟨b,0,none⟩)] W fun e w'=>e=Qr (.tuple #[])∧WR B g (bs++F x) w'∧FR B g W w')
  (hw:WR B g bs w) (hl:LT B g w v l) (hn:bs.length+40+10*l.length≤140737488355000) :
  Calls QP 226 #[Qp (some ⟨g,0,none⟩),v,.func (.func k) #[] #[Qp (some ⟨b,0,none⟩)]] w fun e w'=>e=Qr (.tuple #[])∧WR B g (bs++uI l.length++flL F l) w'∧FR B g w w':=by
 obtain ⟨p,c,rfl,hq,hl2⟩:=id hl
 obtain ⟨n,hnl⟩:∃n,n=l.length:=⟨_,rfl⟩
 have HNL:=hid hnl
 rw[←hnl]at hq ⊢
 have HP:=hid hl2
 have HW:=hid hw
 have HBW:=hid hw.1
 have HGA:=hid hw.lt
 have HN:=hid hn
 have HN1:=hid (show bs.length+10≤140737488355000 by omega)
 have hn62:(n:Int)<9223372036854775807:=by omega
 have HK:=hid hk
 have HB:=hid hb
 have HBG:=hid hbg
 have HFL:=hid hF
 have HUL:=hid (uI_len n)
 clear hl2 hl hw hn hnl hq hk hb hbg hF
 go_enter Tryz.func226,Tryz.ntmps226
 go_upto_region 1 with (go_at_call 105;(with_reducible refine (u_says B g bs n _ HW.out.base HW.out HN1.out).mono ?_);rintro e w1 ⟨rfl,hw1,hf1⟩;have HW1:=hid hw1;have HF1:=hid hf1;clear hw1 hf1)
 go_wp2
 go_loopw [14] (fun vi wr=>∃i:Nat,i≤n∧vi=I J i∧Hid (WR B g (bs++uI n++flL F (l.take i)) wr)∧Hid (FR B g w wr)) (fun vi _=>n-(intOf vi).toNat)
 case atStart=>exact ⟨0,Qz _,rfl,by simpa[flL]using HW1,HF1⟩
 obtain ⟨i,hi,rfl,HR,HF⟩:=hrel
 by_cases hlt:i<n
 ·have hll:i<l.length:=by rw[←HNL.out];exact hlt
  obtain ⟨x,hx⟩:∃x,l[i]?=some x:=⟨l[i],List.getElem?_eq_getElem hll⟩
  obtain ⟨kb,o,rfl,hkn,hcell⟩:=HP.out (by intro e;rw[e]at hll;simp at hll)
  have z0:=hcell i x hx
  rw[←World.cell?_of_block (HF.out.block kb hkn)]at z0
  have HX:Hid (flL F (l.take (i+1))=flL F (l.take i)++F x):=by
   rw[List.take_add_one,hx]
   exact flL_snoc F _ x
  have HLE:Hid ((bs++uI n++flL F (l.take i)).length+20≤140737488355000):=by
   have h1:=HN.out
   have h2:=flL_len F HFL.out (l.take i)
   have h3:=HUL.out
   simp only[Hid,QA,List.length_take]at h2 ⊢
   omega
  have HKX:=fun W h1 h2=>hid (HK.out _ x W h1 h2 HLE.out)
  have HBR:=hid (HB.out.fr HF.out (by decide) HBG.out)
  clear hcell hx hkn hll hi
  go_wp2_with (go_at_fn k;(with_reducible refine (HKX _ HR.out HBR.out).out.mono ?_);rintro e w2 ⟨rfl,hw2,hf2⟩;have HW2:=hid hw2;have HF2:=hid (HF.out.trans hf2);clear hw2 hf2)
  go_roundw
  case rel =>
   refine ⟨i+1,hlt,by go_num,?_,HF2⟩
   rw[HX.out,←QS]
   exact HW2
  case measure=>simp[intOf];omega
 obtain rfl:i=n:=by omega
 go_wp2
 (first|go_end0|refine bodyPost_ret (results_none rfl _ _ _) rfl ?_)
 refine ⟨rfl,?_,HF.out⟩
 have:=HR.out
 rw[HNL.out,List.take_length,←HNL.out]at this
 exact this
theorem cl_types (B g b:Nat) (hbg:b≠g) (bs:List UInt8) (x:Int) (W:World) (hw:WR B g bs W) (hb:CA b #[Qp (some ⟨g,0,none⟩)] 135 W) (hn:bs.length+20≤140737488355000) :
  Calls QP 227 #[I J x,Qp (some ⟨b,0,none⟩)] W fun e w'=>e=Qr (.tuple #[])∧WR B g (bs++[byI x]) w'∧FR B g W w':=by
 have y0:=hb.at (k:=0) (v:=Qp (some ⟨g,0,none⟩)) rfl
 have HW:=hid hw
 have HN1:=fun x:Int=>hid (show bs.length+[x].length≤140737488355000 by simp;omega)
 clear hw hb hn hbg
 go_enter Tryz.func227,Tryz.ntmps227
 go_wp2_with (go_at_call 169;(with_reducible refine (bytes_says B g bs [x] _ _ (HW.out.alloc _) (LT.one x 1 HW.out.lt) (HN1 _).out).mono ?_);rintro e w1 ⟨rfl,hw1,hf1⟩;have HW1:=hid hw1;have HF1:=hid (((FR.refl B g W).alloc _).trans hf1);clear hw1 hf1)
 (first|go_end0|refine bodyPost_ret (results_none rfl _ _ _) rfl ?_)
 exact ⟨rfl,HW1.out,HF1.out⟩
theorem cl_indices (B g b:Nat) (hbg:b≠g) (bs:List UInt8) (x:Int) (W:World) (hw:WR B g bs W) (hb:CA b #[Qp (some ⟨g,0,none⟩)] 135 W) (hn:bs.length+20≤140737488355000) :
  Calls QP 266 #[I J x,Qp (some ⟨b,0,none⟩)] W fun e w'=>e=Qr (.tuple #[])∧WR B g (bs++uI x) w'∧FR B g W w':=by
 have y0:=hb.at (k:=0) (v:=Qp (some ⟨g,0,none⟩)) rfl
 have HW:=hid hw
 have HN1:=hid (show bs.length+10≤140737488355000 by omega)
 clear hw hb hn hbg
 go_enter Tryz.func266,Tryz.ntmps266
 go_wp2_with (go_at_call 105;(with_reducible refine (u_says B g bs x _ HW.out.base HW.out HN1.out).mono ?_);rintro e w1 ⟨rfl,hw1,hf1⟩;have HW1:=hid hw1;have HF1:=hid hf1;clear hw1 hf1)
 (first|go_end0|refine bodyPost_ret (results_none rfl _ _ _) rfl ?_)
 exact ⟨rfl,HW1.out,HF1.out⟩
theorem wtypes_says (B g:Nat) (bs:List UInt8) (l:List Int) (v:Value) (w:World) (hw:WR B g bs w) (hl:LT B g w v l) (hn:bs.length+40+10*l.length≤140737488355000) :
  Calls QP 170 #[Qp (some ⟨g,0,none⟩),v] w fun e w'=>e=Qr (.tuple #[])∧WR B g (bs++(uI l.length++l.map byI)) w'∧FR B g w w':=by
 have hmf:∀(fn:Fn) (first cap:Array Value) (w:World),(Instr.makeFunc fn first cap).run QP w=.ok (.func fn first cap) w:=fun _ _ _ _=>rfl
 have hbg:w.heap.size≠g:=by have:=hw.lt;omega
 have hc0:=CA.new w #[Qp (some ⟨g,0,none⟩)] 135
 have y0:=hc0.at (k:=0) (v:=Qp (some ⟨g,0,none⟩)) rfl
 have HF0:=hid ((FR.refl B g w).alloc (Qc #[Qp (some ⟨g,0,none⟩)] 135))
 have HL:=hid (list_int B g w.heap.size 227 (fun _ _=>rfl) (fun x=>[byI x]) (fun _=>by simp) bs l v _ hbg hc0 (fun bs x W h1 h2 h3=>cl_types B g _ hbg bs x W h1 h2 h3) (hw.alloc (Qc #[Qp (some ⟨g,0,none⟩)] 135)) (hl.fr HF0.out) hn)
 obtain ⟨p,c,rfl,_,_⟩:=hl
 rw[flL_by]at HL
 clear hw hc0 hn
 go_enter Tryz.func170,Tryz.ntmps170
 go_wp2_with (go_at_call 226;(with_reducible refine HL.out.mono ?_);rintro e w1 ⟨rfl,hw1,hf1⟩;have HW1:=hid hw1;have HF1:=hid (HF0.out.trans hf1);clear hw1 hf1)
 (first|go_end0|refine bodyPost_ret (results_none rfl _ _ _) rfl ?_)
 exact ⟨rfl,by rw[←QS];exact HW1.out,HF1.out⟩
theorem indices_says (B g:Nat) (bs:List UInt8) (l:List Int) (v:Value) (w:World) (hw:WR B g bs w) (hl:LT B g w v l) (hn:bs.length+40+10*l.length≤140737488355000) :
  Calls QP 242 #[Qp (some ⟨g,0,none⟩),v] w fun e w'=>e=Qr (.tuple #[])∧WR B g (bs++(uI l.length++usL l)) w'∧FR B g w w':=by
 have hmf:∀(fn:Fn) (first cap:Array Value) (w:World),(Instr.makeFunc fn first cap).run QP w=.ok (.func fn first cap) w:=fun _ _ _ _=>rfl
 have hbg:w.heap.size≠g:=by have:=hw.lt;omega
 have hc0:=CA.new w #[Qp (some ⟨g,0,none⟩)] 135
 have y0:=hc0.at (k:=0) (v:=Qp (some ⟨g,0,none⟩)) rfl
 have HF0:=hid ((FR.refl B g w).alloc (Qc #[Qp (some ⟨g,0,none⟩)] 135))
 have HL:=hid (list_int B g w.heap.size 266 (fun _ _=>rfl) uI uI_len bs l v _ hbg hc0 (fun bs x W h1 h2 h3=>cl_indices B g _ hbg bs x W h1 h2 h3) (hw.alloc (Qc #[Qp (some ⟨g,0,none⟩)] 135)) (hl.fr HF0.out) hn)
 obtain ⟨p,c,rfl,_,_⟩:=hl
 rw[flL_us]at HL
 clear hw hc0 hn
 go_enter Tryz.func242,Tryz.ntmps242
 go_wp2_with (go_at_call 226;(with_reducible refine HL.out.mono ?_);rintro e w1 ⟨rfl,hw1,hf1⟩;have HW1:=hid hw1;have HF1:=hid (HF0.out.trans hf1);clear hw1 hf1)
 (first|go_end0|refine bodyPost_ret (results_none rfl _ _ _) rfl ?_)
 exact ⟨rfl,by rw[←QS];exact HW1.out,HF1.out⟩
theorem known_32 (w:World):Calls QP 268 #[I J 32] w fun e w'=>e=Qr (G true)∧w=w':=by
 go_enter Tryz.func268,Tryz.ntmps268
 go_wp2
 go_ret
 exact ⟨rfl,rfl⟩
theorem known_64 (w:World):Calls QP 268 #[I J 64] w fun e w'=>e=Qr (G true)∧w=w':=by
 go_enter Tryz.func268,Tryz.ntmps268
 go_wp2
 go_ret
 exact ⟨rfl,rfl⟩
theorem ret_int {k:IntKind} {a b:Int} (h:a=b):Ending.returned (.int k a)=Qr (.int k b):=by rw[h]
theorem Signed_32 (a:Nat) (ha:a<18446744073709551616) (w:World):Calls QP 244 #[I J 32,I O (a:Nat)] w fun e w'=>e=Qr (I J (sgnN 32 a))∧w=w':=by
 have HK:=fun W=>hid (known_32 W)
 have ha0:0≤(a:Int):=by omega
 have ha1:(a:Int)<18446744073709551616:=by omega
 go_enter Tryz.func244,Tryz.ntmps244
 go_wp2_with (go_at_call 268;(with_reducible refine (HK _).out.mono ?_);rintro e w' ⟨rfl,rfl⟩)
 go_ret
 exact ⟨ret_int (by simp only[sgnN,IntKind.wrap_u64,wrap64];simp;omega),rfl⟩
theorem Signed_64 (a:Nat) (ha:a<18446744073709551616) (w:World):Calls QP 244 #[I J 64,I O (a:Nat)] w fun e w'=>e=Qr (I J (sgnN 64 a))∧w=w':=by
 have HK:=fun W=>hid (known_64 W)
 have ha0:0≤(a:Int):=by omega
 have ha1:(a:Int)<18446744073709551616:=by omega
 go_enter Tryz.func244,Tryz.ntmps244
 go_wp2_with (go_at_call 268;(with_reducible refine (HK _).out.mono ?_);rintro e w' ⟨rfl,rfl⟩)
 go_ret
 exact ⟨ret_int (by simp only[sgnN,wrap64];simp;omega),rfl⟩
theorem instr_0 (B g:Nat) (bs:List UInt8) (op a b:Int) (n h:Nat) (l:List Int) (pl pb pe:Option Addr) (nl cl nb cb ne ce:Nat) (ot:Bool) (w:World) (hw:WR B g bs w) (h0:0≤op) (h1:op<65024) (hnn:n<18446744073709551616) (hh:h<18446744073709551616)
  (hi:∀W,Calls QP 152 #[I J op] W fun e w'=>e=Qr (I J 0)∧Below W.heap.size W w') (hl:LT B g w (V pl nl cl) l) (hn:bs.length+300+20*l.length≤140737488355000) :
  Calls QP 230 #[Qp (some ⟨g,0,none⟩),.agg #[I J op,I J a,I J b,I O n,I O h,V pl nl cl,V pb nb cb,V pe ne ce,G ot]] w fun e w'=>e=Qr (.tuple #[])∧WR B g (bs++opL op) w'∧FR B g w w':=by
 have HI:=fun W=>hid (hi W)
 have HW:=hid hw
 have HLT:=hid hl
 have Hn:=hid hnn
 have Hh:=hid hh
 have HS32:=hid (sgnN_in 32 n (.inl rfl))
 have HS64:=hid (sgnN_in 64 n (.inr rfl))
 have H0:=hid h0
 have H1:=hid h1
 have q1:=opL_len op
 have q2:=uI_len a
 have q3:=uI_len b
 have q4:=usL_len l
 have q5:=uI_len l.length
 have q6:=lowL_len 0 8 n
 have HN:=hid (show bs.length+20≤140737488355000 by omega)
 have hxg:w.heap.size≠g:=by have:=hw.lt;omega
 have HXG:=hid hxg
 have hx0:=CA.new w #[I J op,I J a,I J b,I O n,I O h,V pl nl cl,V pb nb cb,V pe ne ce,G ot] 39
 have HX0:=hid hx0
 obtain ⟨y0,y1,y2,y3,y4,y5,y6,y7,y8⟩:=ca9 HX0.out
 clear hw hl hn hi q1 q2 q3 q4 q5 q6 hxg hx0 h0 h1 hnn hh
 go_enter Tryz.func230,Tryz.ntmps230
 go_wp2_with (first
  |(go_at_call 240;(with_reducible refine (op_says B g bs op H0.out H1.out _ (HW.out.alloc _) HN.out).mono ?_);rintro e w1 ⟨rfl,hw1,hf1⟩;have HW1:=hid hw1;have HF1:=hid (((FR.refl B g w).alloc _).trans hf1);have HX1:=hid (HX0.out.fr hf1 (by decide) HXG.out);obtain ⟨y0,y1,y2,y3,y4,y5,y6,y7,y8⟩:=ca9 HX1.out;clear hw1 hf1)
  |(go_at_call 152;(with_reducible refine (HI _).out.mono ?_);rintro e w2 ⟨rfl,hb⟩;have HWW1:=hid (HW1.out.call hb);have HFF1:=hid (HF1.out.trans (FR.of hb));have HXX1:=Qe HX1 hb;obtain ⟨y0,y1,y2,y3,y4,y5,y6,y7,y8⟩:=ca9 HXX1.out;clear hb))
 (first|go_end0|refine bodyPost_ret (results_none rfl _ _ _) rfl ?_)
 exact ⟨rfl,HWW1.out,HFF1.out⟩
theorem instr_2 (K:Int) (hK:K=2∨K=4∨K=7∨K=8∨K=9∨K=18∨K=21) (B g:Nat) (bs:List UInt8) (op a b:Int) (n h:Nat) (l:List Int) (pl pb pe:Option Addr) (nl cl nb cb ne ce:Nat) (ot:Bool) (w:World) (hw:WR B g bs w) (h0:0≤op) (h1:op<65024) (hnn:n<18446744073709551616) (hh:h<18446744073709551616)
  (hi:∀W,Calls QP 152 #[I J op] W fun e w'=>e=Qr (I J K)∧Below W.heap.size W w') (hl:LT B g w (V pl nl cl) l) (hn:bs.length+300+20*l.length≤140737488355000) :
  Calls QP 230 #[Qp (some ⟨g,0,none⟩),.agg #[I J op,I J a,I J b,I O n,I O h,V pl nl cl,V pb nb cb,V pe ne ce,G ot]] w fun e w'=>e=Qr (.tuple #[])∧WR B g (bs++opL op++uI a) w'∧FR B g w w':=by
 rcases hK with rfl|rfl|rfl|rfl|rfl|rfl|rfl
 all_goals
  have HI:=fun W=>hid (hi W)
  have HW:=hid hw
  have HLT:=hid hl
  have Hn:=hid hnn
  have Hh:=hid hh
  have HS32:=hid (sgnN_in 32 n (.inl rfl))
  have HS64:=hid (sgnN_in 64 n (.inr rfl))
  have H0:=hid h0
  have H1:=hid h1
  have q1:=opL_len op
  have q2:=uI_len a
  have q3:=uI_len b
  have q4:=usL_len l
  have q5:=uI_len l.length
  have q6:=lowL_len 0 8 n
  have HN:=hid (show bs.length+20≤140737488355000 by omega)
  have HN1:=hid (show (bs++opL op).length+10≤140737488355000 by simp only[QA,QM,QC,QN]at *;omega)
  have hxg:w.heap.size≠g:=by have:=hw.lt;omega
  have HXG:=hid hxg
  have hx0:=CA.new w #[I J op,I J a,I J b,I O n,I O h,V pl nl cl,V pb nb cb,V pe ne ce,G ot] 39
  have HX0:=hid hx0
  obtain ⟨y0,y1,y2,y3,y4,y5,y6,y7,y8⟩:=ca9 HX0.out
  clear hw hl hn hi q1 q2 q3 q4 q5 q6 hxg hx0 h0 h1 hnn hh
  go_enter Tryz.func230,Tryz.ntmps230
  go_wp2_with (first
   |(go_at_call 240;(with_reducible refine (op_says B g bs op H0.out H1.out _ (HW.out.alloc _) HN.out).mono ?_);rintro e w1 ⟨rfl,hw1,hf1⟩;have HW1:=hid hw1;have HF1:=hid (((FR.refl B g w).alloc _).trans hf1);have HX1:=hid (HX0.out.fr hf1 (by decide) HXG.out);obtain ⟨y0,y1,y2,y3,y4,y5,y6,y7,y8⟩:=ca9 HX1.out;clear hw1 hf1)
   |(go_at_call 152;(with_reducible refine (HI _).out.mono ?_);rintro e w2 ⟨rfl,hb⟩;have HWW1:=hid (HW1.out.call hb);have HFF1:=hid (HF1.out.trans (FR.of hb));have HXX1:=Qe HX1 hb;obtain ⟨y0,y1,y2,y3,y4,y5,y6,y7,y8⟩:=ca9 HXX1.out;clear hb)
   |(go_at_call 105;(with_reducible refine (u_says B g _ a _ HWW1.out.base HWW1.out HN1.out).mono ?_);rintro e w5 ⟨rfl,hw',hf⟩;have HV2:=hid hw';have HG2:=hid (HFF1.out.trans hf);have HY2:=hid (HXX1.out.fr hf (by decide) HXG.out);obtain ⟨y0,y1,y2,y3,y4,y5,y6,y7,y8⟩:=ca9 HY2.out;clear hw' hf))
  (first|go_end0|refine bodyPost_ret (results_none rfl _ _ _) rfl ?_)
  exact ⟨rfl,HV2.out,HG2.out⟩
theorem instr_3 (B g:Nat) (bs:List UInt8) (op a b:Int) (n h:Nat) (l:List Int) (pl pb pe:Option Addr) (nl cl nb cb ne ce:Nat) (ot:Bool) (w:World) (hw:WR B g bs w) (h0:0≤op) (h1:op<65024) (hnn:n<18446744073709551616) (hh:h<18446744073709551616)
  (hi:∀W,Calls QP 152 #[I J op] W fun e w'=>e=Qr (I J 3)∧Below W.heap.size W w') (hl:LT B g w (V pl nl cl) l) (hn:bs.length+300+20*l.length≤140737488355000) :
  Calls QP 230 #[Qp (some ⟨g,0,none⟩),.agg #[I J op,I J a,I J b,I O n,I O h,V pl nl cl,V pb nb cb,V pe ne ce,G ot]] w fun e w'=>e=Qr (.tuple #[])∧WR B g (bs++opL op++(uI l.length++usL l)++uI a) w'∧FR B g w w':=by
 have HI:=fun W=>hid (hi W)
 have HW:=hid hw
 have HLT:=hid hl
 have Hn:=hid hnn
 have Hh:=hid hh
 have HS32:=hid (sgnN_in 32 n (.inl rfl))
 have HS64:=hid (sgnN_in 64 n (.inr rfl))
 have H0:=hid h0
 have H1:=hid h1
 have q1:=opL_len op
 have q2:=uI_len a
 have q3:=uI_len b
 have q4:=usL_len l
 have q5:=uI_len l.length
 have q6:=lowL_len 0 8 n
 have HN:=hid (show bs.length+20≤140737488355000 by omega)
 have HN1:=hid (show (bs++opL op).length+40+10*l.length≤140737488355000 by simp only[QA,QM,QC,QN]at *;omega)
 have HN2:=hid (show (bs++opL op++(uI l.length++usL l)).length+10≤140737488355000 by simp only[QA,QM,QC,QN]at *;omega)
 have hxg:w.heap.size≠g:=by have:=hw.lt;omega
 have HXG:=hid hxg
 have hx0:=CA.new w #[I J op,I J a,I J b,I O n,I O h,V pl nl cl,V pb nb cb,V pe ne ce,G ot] 39
 have HX0:=hid hx0
 obtain ⟨y0,y1,y2,y3,y4,y5,y6,y7,y8⟩:=ca9 HX0.out
 clear hw hl hn hi q1 q2 q3 q4 q5 q6 hxg hx0 h0 h1 hnn hh
 go_enter Tryz.func230,Tryz.ntmps230
 go_wp2_with (first
  |(go_at_call 240;(with_reducible refine (op_says B g bs op H0.out H1.out _ (HW.out.alloc _) HN.out).mono ?_);rintro e w1 ⟨rfl,hw1,hf1⟩;have HW1:=hid hw1;have HF1:=hid (((FR.refl B g w).alloc _).trans hf1);have HX1:=hid (HX0.out.fr hf1 (by decide) HXG.out);obtain ⟨y0,y1,y2,y3,y4,y5,y6,y7,y8⟩:=ca9 HX1.out;clear hw1 hf1)
  |(go_at_call 152;(with_reducible refine (HI _).out.mono ?_);rintro e w2 ⟨rfl,hb⟩;have HWW1:=hid (HW1.out.call hb);have HFF1:=hid (HF1.out.trans (FR.of hb));have HXX1:=Qe HX1 hb;obtain ⟨y0,y1,y2,y3,y4,y5,y6,y7,y8⟩:=ca9 HXX1.out;clear hb)
  |(go_at_call 242;(with_reducible refine (indices_says B g _ l _ _ HWW1.out (HLT.out.fr HFF1.out) HN1.out).mono ?_);rintro e w5 ⟨rfl,hw',hf⟩;have HV2:=hid hw';have HG2:=hid (HFF1.out.trans hf);have HY2:=hid (HXX1.out.fr hf (by decide) HXG.out);obtain ⟨y0,y1,y2,y3,y4,y5,y6,y7,y8⟩:=ca9 HY2.out;clear hw' hf)
  |(go_at_call 105;(with_reducible refine (u_says B g _ a _ HV2.out.base HV2.out HN2.out).mono ?_);rintro e w6 ⟨rfl,hw',hf⟩;have HV3:=hid hw';have HG3:=hid (HG2.out.trans hf);have HY3:=hid (HY2.out.fr hf (by decide) HXG.out);obtain ⟨y0,y1,y2,y3,y4,y5,y6,y7,y8⟩:=ca9 HY3.out;clear hw' hf))
 (first|go_end0|refine bodyPost_ret (results_none rfl _ _ _) rfl ?_)
 exact ⟨rfl,HV3.out,HG3.out⟩
theorem instr_5 (K:Int) (hK:K=5∨K=10∨K=20∨K=22) (B g:Nat) (bs:List UInt8) (op a b:Int) (n h:Nat) (l:List Int) (pl pb pe:Option Addr) (nl cl nb cb ne ce:Nat) (ot:Bool) (w:World) (hw:WR B g bs w) (h0:0≤op) (h1:op<65024) (hnn:n<18446744073709551616) (hh:h<18446744073709551616)
  (hi:∀W,Calls QP 152 #[I J op] W fun e w'=>e=Qr (I J K)∧Below W.heap.size W w') (hl:LT B g w (V pl nl cl) l) (hn:bs.length+300+20*l.length≤140737488355000) :
  Calls QP 230 #[Qp (some ⟨g,0,none⟩),.agg #[I J op,I J a,I J b,I O n,I O h,V pl nl cl,V pb nb cb,V pe ne ce,G ot]] w fun e w'=>e=Qr (.tuple #[])∧WR B g (bs++opL op++uI a++uI b) w'∧FR B g w w':=by
 rcases hK with rfl|rfl|rfl|rfl
 all_goals
  have HI:=fun W=>hid (hi W)
  have HW:=hid hw
  have HLT:=hid hl
  have Hn:=hid hnn
  have Hh:=hid hh
  have HS32:=hid (sgnN_in 32 n (.inl rfl))
  have HS64:=hid (sgnN_in 64 n (.inr rfl))
  have H0:=hid h0
  have H1:=hid h1
  have q1:=opL_len op
  have q2:=uI_len a
  have q3:=uI_len b
  have q4:=usL_len l
  have q5:=uI_len l.length
  have q6:=lowL_len 0 8 n
  have HN:=hid (show bs.length+20≤140737488355000 by omega)
  have HN1:=hid (show (bs++opL op).length+10≤140737488355000 by simp only[QA,QM,QC,QN]at *;omega)
  have HN2:=hid (show (bs++opL op++uI a).length+10≤140737488355000 by simp only[QA,QM,QC,QN]at *;omega)
  have hxg:w.heap.size≠g:=by have:=hw.lt;omega
  have HXG:=hid hxg
  have hx0:=CA.new w #[I J op,I J a,I J b,I O n,I O h,V pl nl cl,V pb nb cb,V pe ne ce,G ot] 39
  have HX0:=hid hx0
  obtain ⟨y0,y1,y2,y3,y4,y5,y6,y7,y8⟩:=ca9 HX0.out
  clear hw hl hn hi q1 q2 q3 q4 q5 q6 hxg hx0 h0 h1 hnn hh
  go_enter Tryz.func230,Tryz.ntmps230
  go_wp2_with (first
   |(go_at_call 240;(with_reducible refine (op_says B g bs op H0.out H1.out _ (HW.out.alloc _) HN.out).mono ?_);rintro e w1 ⟨rfl,hw1,hf1⟩;have HW1:=hid hw1;have HF1:=hid (((FR.refl B g w).alloc _).trans hf1);have HX1:=hid (HX0.out.fr hf1 (by decide) HXG.out);obtain ⟨y0,y1,y2,y3,y4,y5,y6,y7,y8⟩:=ca9 HX1.out;clear hw1 hf1)
   |(go_at_call 152;(with_reducible refine (HI _).out.mono ?_);rintro e w2 ⟨rfl,hb⟩;have HWW1:=hid (HW1.out.call hb);have HFF1:=hid (HF1.out.trans (FR.of hb));have HXX1:=Qe HX1 hb;obtain ⟨y0,y1,y2,y3,y4,y5,y6,y7,y8⟩:=ca9 HXX1.out;clear hb)
   |(go_at_call 105;(with_reducible refine (u_says B g _ a _ HWW1.out.base HWW1.out HN1.out).mono ?_);rintro e w5 ⟨rfl,hw',hf⟩;have HV2:=hid hw';have HG2:=hid (HFF1.out.trans hf);have HY2:=hid (HXX1.out.fr hf (by decide) HXG.out);obtain ⟨y0,y1,y2,y3,y4,y5,y6,y7,y8⟩:=ca9 HY2.out;clear hw' hf)
   |(go_at_call 105;(with_reducible refine (u_says B g _ b _ HV2.out.base HV2.out HN2.out).mono ?_);rintro e w6 ⟨rfl,hw',hf⟩;have HV3:=hid hw';have HG3:=hid (HG2.out.trans hf);have HY3:=hid (HY2.out.fr hf (by decide) HXG.out);obtain ⟨y0,y1,y2,y3,y4,y5,y6,y7,y8⟩:=ca9 HY3.out;clear hw' hf))
  (first|go_end0|refine bodyPost_ret (results_none rfl _ _ _) rfl ?_)
  exact ⟨rfl,HV3.out,HG3.out⟩
theorem instr_6 (B g:Nat) (bs:List UInt8) (op a b:Int) (n h:Nat) (l:List Int) (pl pb pe:Option Addr) (nl cl nb cb ne ce:Nat) (ot:Bool) (w:World) (hw:WR B g bs w) (h0:0≤op) (h1:op<65024) (hnn:n<18446744073709551616) (hh:h<18446744073709551616)
  (hi:∀W,Calls QP 152 #[I J op] W fun e w'=>e=Qr (I J 6)∧Below W.heap.size W w') (hl:LT B g w (V pl nl cl) l) (hn:bs.length+300+20*l.length≤140737488355000) :
  Calls QP 230 #[Qp (some ⟨g,0,none⟩),.agg #[I J op,I J a,I J b,I O n,I O h,V pl nl cl,V pb nb cb,V pe ne ce,G ot]] w fun e w'=>e=Qr (.tuple #[])∧WR B g (bs++opL op++(uI l.length++List.map byI l)) w'∧FR B g w w':=by
 have HI:=fun W=>hid (hi W)
 have HW:=hid hw
 have HLT:=hid hl
 have Hn:=hid hnn
 have Hh:=hid hh
 have HS32:=hid (sgnN_in 32 n (.inl rfl))
 have HS64:=hid (sgnN_in 64 n (.inr rfl))
 have H0:=hid h0
 have H1:=hid h1
 have q1:=opL_len op
 have q2:=uI_len a
 have q3:=uI_len b
 have q4:=usL_len l
 have q5:=uI_len l.length
 have q6:=lowL_len 0 8 n
 have HN:=hid (show bs.length+20≤140737488355000 by omega)
 have HN1:=hid (show (bs++opL op).length+40+10*l.length≤140737488355000 by simp only[QA,QM,QC,QN]at *;omega)
 have hxg:w.heap.size≠g:=by have:=hw.lt;omega
 have HXG:=hid hxg
 have hx0:=CA.new w #[I J op,I J a,I J b,I O n,I O h,V pl nl cl,V pb nb cb,V pe ne ce,G ot] 39
 have HX0:=hid hx0
 obtain ⟨y0,y1,y2,y3,y4,y5,y6,y7,y8⟩:=ca9 HX0.out
 clear hw hl hn hi q1 q2 q3 q4 q5 q6 hxg hx0 h0 h1 hnn hh
 go_enter Tryz.func230,Tryz.ntmps230
 go_wp2_with (first
  |(go_at_call 240;(with_reducible refine (op_says B g bs op H0.out H1.out _ (HW.out.alloc _) HN.out).mono ?_);rintro e w1 ⟨rfl,hw1,hf1⟩;have HW1:=hid hw1;have HF1:=hid (((FR.refl B g w).alloc _).trans hf1);have HX1:=hid (HX0.out.fr hf1 (by decide) HXG.out);obtain ⟨y0,y1,y2,y3,y4,y5,y6,y7,y8⟩:=ca9 HX1.out;clear hw1 hf1)
  |(go_at_call 152;(with_reducible refine (HI _).out.mono ?_);rintro e w2 ⟨rfl,hb⟩;have HWW1:=hid (HW1.out.call hb);have HFF1:=hid (HF1.out.trans (FR.of hb));have HXX1:=Qe HX1 hb;obtain ⟨y0,y1,y2,y3,y4,y5,y6,y7,y8⟩:=ca9 HXX1.out;clear hb)
  |(go_at_call 170;(with_reducible refine (wtypes_says B g _ l _ _ HWW1.out (HLT.out.fr HFF1.out) HN1.out).mono ?_);rintro e w5 ⟨rfl,hw',hf⟩;have HV2:=hid hw';have HG2:=hid (HFF1.out.trans hf);have HY2:=hid (HXX1.out.fr hf (by decide) HXG.out);obtain ⟨y0,y1,y2,y3,y4,y5,y6,y7,y8⟩:=ca9 HY2.out;clear hw' hf))
 (first|go_end0|refine bodyPost_ret (results_none rfl _ _ _) rfl ?_)
 exact ⟨rfl,HV2.out,HG2.out⟩
theorem instr_11 (B g:Nat) (bs:List UInt8) (op a b:Int) (n h:Nat) (l:List Int) (pl pb pe:Option Addr) (nl cl nb cb ne ce:Nat) (ot:Bool) (w:World) (hw:WR B g bs w) (h0:0≤op) (h1:op<65024) (hnn:n<18446744073709551616) (hh:h<18446744073709551616)
  (hi:∀W,Calls QP 152 #[I J op] W fun e w'=>e=Qr (I J 11)∧Below W.heap.size W w') (hl:LT B g w (V pl nl cl) l) (hn:bs.length+300+20*l.length≤140737488355000) :
  Calls QP 230 #[Qp (some ⟨g,0,none⟩),.agg #[I J op,I J a,I J b,I O n,I O h,V pl nl cl,V pb nb cb,V pe ne ce,G ot]] w fun e w'=>e=Qr (.tuple #[])∧WR B g (bs++opL op++List.map byI [0]) w'∧FR B g w w':=by
 have HI:=fun W=>hid (hi W)
 have HW:=hid hw
 have HLT:=hid hl
 have Hn:=hid hnn
 have Hh:=hid hh
 have HS32:=hid (sgnN_in 32 n (.inl rfl))
 have HS64:=hid (sgnN_in 64 n (.inr rfl))
 have H0:=hid h0
 have H1:=hid h1
 have q1:=opL_len op
 have q2:=uI_len a
 have q3:=uI_len b
 have q4:=usL_len l
 have q5:=uI_len l.length
 have q6:=lowL_len 0 8 n
 have HN:=hid (show bs.length+20≤140737488355000 by omega)
 have HN1:=hid (show (bs++opL op).length+([0]:List Int).length≤140737488355000 by simp only[QA,QM,QC,QN]at *;omega)
 have hxg:w.heap.size≠g:=by have:=hw.lt;omega
 have HXG:=hid hxg
 have hx0:=CA.new w #[I J op,I J a,I J b,I O n,I O h,V pl nl cl,V pb nb cb,V pe ne ce,G ot] 39
 have HX0:=hid hx0
 obtain ⟨y0,y1,y2,y3,y4,y5,y6,y7,y8⟩:=ca9 HX0.out
 clear hw hl hn hi q1 q2 q3 q4 q5 q6 hxg hx0 h0 h1 hnn hh
 go_enter Tryz.func230,Tryz.ntmps230
 go_wp2_with (first
  |(go_at_call 240;(with_reducible refine (op_says B g bs op H0.out H1.out _ (HW.out.alloc _) HN.out).mono ?_);rintro e w1 ⟨rfl,hw1,hf1⟩;have HW1:=hid hw1;have HF1:=hid (((FR.refl B g w).alloc _).trans hf1);have HX1:=hid (HX0.out.fr hf1 (by decide) HXG.out);obtain ⟨y0,y1,y2,y3,y4,y5,y6,y7,y8⟩:=ca9 HX1.out;clear hw1 hf1)
  |(go_at_call 152;(with_reducible refine (HI _).out.mono ?_);rintro e w2 ⟨rfl,hb⟩;have HWW1:=hid (HW1.out.call hb);have HFF1:=hid (HF1.out.trans (FR.of hb));have HXX1:=Qe HX1 hb;obtain ⟨y0,y1,y2,y3,y4,y5,y6,y7,y8⟩:=ca9 HXX1.out;clear hb)
  |(go_at_call 169;(with_reducible refine (bytes_says B g _ [0] _ _ (HWW1.out.alloc _) (LT.one 0 1 HWW1.out.lt) HN1.out).mono ?_);rintro e w5 ⟨rfl,hw',hf⟩;have HV2:=hid hw';have HG2:=hid ((HFF1.out.alloc _).trans hf);have HY2:=hid ((HXX1.out.alloc _).fr hf (by decide) HXG.out);obtain ⟨y0,y1,y2,y3,y4,y5,y6,y7,y8⟩:=ca9 HY2.out;clear hw' hf))
 (first|go_end0|refine bodyPost_ret (results_none rfl _ _ _) rfl ?_)
 exact ⟨rfl,HV2.out,HG2.out⟩
theorem instr_12 (B g:Nat) (bs:List UInt8) (op a b:Int) (n h:Nat) (l:List Int) (pl pb pe:Option Addr) (nl cl nb cb ne ce:Nat) (ot:Bool) (w:World) (hw:WR B g bs w) (h0:0≤op) (h1:op<65024) (hnn:n<18446744073709551616) (hh:h<18446744073709551616)
  (hi:∀W,Calls QP 152 #[I J op] W fun e w'=>e=Qr (I J 12)∧Below W.heap.size W w') (hl:LT B g w (V pl nl cl) l) (hn:bs.length+300+20*l.length≤140737488355000) :
  Calls QP 230 #[Qp (some ⟨g,0,none⟩),.agg #[I J op,I J a,I J b,I O n,I O h,V pl nl cl,V pb nb cb,V pe ne ce,G ot]] w fun e w'=>e=Qr (.tuple #[])∧WR B g (bs++opL op++slist (sgnN 32 n)) w'∧FR B g w w':=by
 have HI:=fun W=>hid (hi W)
 have HW:=hid hw
 have HLT:=hid hl
 have Hn:=hid hnn
 have Hh:=hid hh
 have HS32:=hid (sgnN_in 32 n (.inl rfl))
 have HS64:=hid (sgnN_in 64 n (.inr rfl))
 have H0:=hid h0
 have H1:=hid h1
 have q1:=opL_len op
 have q2:=uI_len a
 have q3:=uI_len b
 have q4:=usL_len l
 have q5:=uI_len l.length
 have q6:=lowL_len 0 8 n
 have HN:=hid (show bs.length+20≤140737488355000 by omega)
 have HN1:=hid (show (bs++opL op).length+10≤140737488355000 by simp only[QA,QM,QC,QN]at *;omega)
 have hxg:w.heap.size≠g:=by have:=hw.lt;omega
 have HXG:=hid hxg
 have hx0:=CA.new w #[I J op,I J a,I J b,I O n,I O h,V pl nl cl,V pb nb cb,V pe ne ce,G ot] 39
 have HX0:=hid hx0
 obtain ⟨y0,y1,y2,y3,y4,y5,y6,y7,y8⟩:=ca9 HX0.out
 clear hw hl hn hi q1 q2 q3 q4 q5 q6 hxg hx0 h0 h1 hnn hh
 go_enter Tryz.func230,Tryz.ntmps230
 go_wp2_with (first
  |(go_at_call 240;(with_reducible refine (op_says B g bs op H0.out H1.out _ (HW.out.alloc _) HN.out).mono ?_);rintro e w1 ⟨rfl,hw1,hf1⟩;have HW1:=hid hw1;have HF1:=hid (((FR.refl B g w).alloc _).trans hf1);have HX1:=hid (HX0.out.fr hf1 (by decide) HXG.out);obtain ⟨y0,y1,y2,y3,y4,y5,y6,y7,y8⟩:=ca9 HX1.out;clear hw1 hf1)
  |(go_at_call 152;(with_reducible refine (HI _).out.mono ?_);rintro e w2 ⟨rfl,hb⟩;have HWW1:=hid (HW1.out.call hb);have HFF1:=hid (HF1.out.trans (FR.of hb));have HXX1:=Qe HX1 hb;obtain ⟨y0,y1,y2,y3,y4,y5,y6,y7,y8⟩:=ca9 HXX1.out;clear hb)
  |(go_at_call 244;(with_reducible refine (Signed_32 n Hn.out _).mono ?_);rintro e w3 ⟨rfl,rfl⟩)
  |(go_at_call 243;(with_reducible refine (s_says B g _ (sgnN 32 n) (HS32.out).1 (HS32.out).2 _ HWW1.out.base HWW1.out HN1.out).mono ?_);rintro e w5 ⟨rfl,hw',hf⟩;have HV2:=hid hw';have HG2:=hid (HFF1.out.trans hf);have HY2:=hid (HXX1.out.fr hf (by decide) HXG.out);obtain ⟨y0,y1,y2,y3,y4,y5,y6,y7,y8⟩:=ca9 HY2.out;clear hw' hf))
 (first|go_end0|refine bodyPost_ret (results_none rfl _ _ _) rfl ?_)
 exact ⟨rfl,HV2.out,HG2.out⟩
theorem instr_13 (B g:Nat) (bs:List UInt8) (op a b:Int) (n h:Nat) (l:List Int) (pl pb pe:Option Addr) (nl cl nb cb ne ce:Nat) (ot:Bool) (w:World) (hw:WR B g bs w) (h0:0≤op) (h1:op<65024) (hnn:n<18446744073709551616) (hh:h<18446744073709551616)
  (hi:∀W,Calls QP 152 #[I J op] W fun e w'=>e=Qr (I J 13)∧Below W.heap.size W w') (hl:LT B g w (V pl nl cl) l) (hn:bs.length+300+20*l.length≤140737488355000) :
  Calls QP 230 #[Qp (some ⟨g,0,none⟩),.agg #[I J op,I J a,I J b,I O n,I O h,V pl nl cl,V pb nb cb,V pe ne ce,G ot]] w fun e w'=>e=Qr (.tuple #[])∧WR B g (bs++opL op++slist (sgnN 64 n)) w'∧FR B g w w':=by
 have HI:=fun W=>hid (hi W)
 have HW:=hid hw
 have HLT:=hid hl
 have Hn:=hid hnn
 have Hh:=hid hh
 have HS32:=hid (sgnN_in 32 n (.inl rfl))
 have HS64:=hid (sgnN_in 64 n (.inr rfl))
 have H0:=hid h0
 have H1:=hid h1
 have q1:=opL_len op
 have q2:=uI_len a
 have q3:=uI_len b
 have q4:=usL_len l
 have q5:=uI_len l.length
 have q6:=lowL_len 0 8 n
 have HN:=hid (show bs.length+20≤140737488355000 by omega)
 have HN1:=hid (show (bs++opL op).length+10≤140737488355000 by simp only[QA,QM,QC,QN]at *;omega)
 have hxg:w.heap.size≠g:=by have:=hw.lt;omega
 have HXG:=hid hxg
 have hx0:=CA.new w #[I J op,I J a,I J b,I O n,I O h,V pl nl cl,V pb nb cb,V pe ne ce,G ot] 39
 have HX0:=hid hx0
 obtain ⟨y0,y1,y2,y3,y4,y5,y6,y7,y8⟩:=ca9 HX0.out
 clear hw hl hn hi q1 q2 q3 q4 q5 q6 hxg hx0 h0 h1 hnn hh
 go_enter Tryz.func230,Tryz.ntmps230
 go_wp2_with (first
  |(go_at_call 240;(with_reducible refine (op_says B g bs op H0.out H1.out _ (HW.out.alloc _) HN.out).mono ?_);rintro e w1 ⟨rfl,hw1,hf1⟩;have HW1:=hid hw1;have HF1:=hid (((FR.refl B g w).alloc _).trans hf1);have HX1:=hid (HX0.out.fr hf1 (by decide) HXG.out);obtain ⟨y0,y1,y2,y3,y4,y5,y6,y7,y8⟩:=ca9 HX1.out;clear hw1 hf1)
  |(go_at_call 152;(with_reducible refine (HI _).out.mono ?_);rintro e w2 ⟨rfl,hb⟩;have HWW1:=hid (HW1.out.call hb);have HFF1:=hid (HF1.out.trans (FR.of hb));have HXX1:=Qe HX1 hb;obtain ⟨y0,y1,y2,y3,y4,y5,y6,y7,y8⟩:=ca9 HXX1.out;clear hb)
  |(go_at_call 244;(with_reducible refine (Signed_64 n Hn.out _).mono ?_);rintro e w3 ⟨rfl,rfl⟩)
  |(go_at_call 243;(with_reducible refine (s_says B g _ (sgnN 64 n) (HS64.out).1 (HS64.out).2 _ HWW1.out.base HWW1.out HN1.out).mono ?_);rintro e w5 ⟨rfl,hw',hf⟩;have HV2:=hid hw';have HG2:=hid (HFF1.out.trans hf);have HY2:=hid (HXX1.out.fr hf (by decide) HXG.out);obtain ⟨y0,y1,y2,y3,y4,y5,y6,y7,y8⟩:=ca9 HY2.out;clear hw' hf))
 (first|go_end0|refine bodyPost_ret (results_none rfl _ _ _) rfl ?_)
 exact ⟨rfl,HV2.out,HG2.out⟩
end Go.Proofs.YtjgeedgphcjhoaaGreat
