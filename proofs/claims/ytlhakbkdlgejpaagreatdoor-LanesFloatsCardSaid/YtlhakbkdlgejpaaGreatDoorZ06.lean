/-
  LRVec, LRDone, LRDo, LRLane: merged, what the laws do not reach left out (each text says what it holds where it lies in wip). No condition.
-/
import Derived.Test.YtlhakbkdlgejpaaGreatDoorZ01
import Derived.Test.YtlhakbkdlgejpaaGreatDoorX04
import Derived.Deep.DeepCutAuto
import Derived.Deep.RegionHeld3
import Derived.Test.YtlhakbkdlgejpaaGreatDoorZ05
import Derived.Test.YtlhakbkdlgejpaaGreatDoorZ02
import Derived.Test.YtlhakbkdlgejpaaGreatDoorZ04
import Derived.Deep.QuietTactic
import Derived.BigQuiet
import Derived.Test.YtlhakbkdlgejpaaGreatDoorX01
set_option linter.unusedSimpArgs false
set_option linter.unusedVariables false
set_option maxRecDepth 100000
namespace Go.Proofs.YtlhakbkdlgejpaaGreatDoor
open Go.RowKit
def VS (w:World) (x y:Nat) (W:World):Prop :=
 Below w.heap.size w W∧CA w.heap.size #[.int .i64 0,.int .u64 0,.int .u64 0,.bool false] 24 W∧CA (w.heap.size + 1) #[.int .i64 123,.int .u64 x,.int .u64 y,.bool false] 24 W
theorem VS.call {w:World} {x y:Nat} {W W':World} (h:VS w x y W) (hb:W=W'):VS w x y W':=hb ▸ h
theorem VS.drew {w:World} {x y:Nat} {W:World} (h:VS w x y W):VS w x y W.drew:=⟨h.1.drew,h.2.1,h.2.2⟩
theorem VS.lo {w:World} {x y x':Nat} {W:World} (h:VS w x y W):VS w x' y (W.setCell ⟨w.heap.size + 1,1,none⟩ (.int .u64 (x':Nat))) :=
 ⟨h.1.setCell (Nat.le_succ _) _,h.2.1.far (by omega) _,h.2.2.set _⟩
theorem VS.hi {w:World} {x y y':Nat} {W:World} (h:VS w x y W):VS w x y' (W.setCell ⟨w.heap.size + 1,2,none⟩ (.int .u64 (y':Nat))) :=
 ⟨h.1.setCell (Nat.le_succ _) _,h.2.1.far (by omega) _,h.2.2.set _⟩
theorem VS.start (w:World):VS w 0 0 ((w.alloc (.cells #[.int .i64 0,.int .u64 0,.int .u64 0,.bool false] 24)).alloc (.cells #[.int .i64 123,.int .u64 0,.int .u64 0,.bool false] 24)):=by
 refine ⟨((Below.refl _ _).alloc (Nat.le_refl _) _).alloc (by simp) _,(CA.new w _ _).alloc _,?_⟩
 have:=CA.new (w.alloc (.cells #[.int .i64 0,.int .u64 0,.int .u64 0,.bool false] 24)) #[.int .i64 123,.int .u64 0,.int .u64 0,.bool false] 24
 simpa using this
def tailF (n q m:Nat) (F:Nat→Nat):Nat:=packF n (q - m) (fun j => F (m + j))
theorem tailF_next {n q m:Nat} (F:Nat→Nat) (h:m < q):tailF n q m F=tailF n q (m + 1) F * 2 ^ n + F m % 2 ^ n:=by
 unfold tailF
 rw [show q - m=(q - (m + 1)) + 1 by omega,packF_front,Nat.add_zero,Nat.add_comm,Nat.mul_comm]
 congr 2
 exact packF_congr n _ _ _ (fun i _ => by rw [show m + (i + 1)=m + 1 + i by omega])
theorem tailF_lt {n q m:Nat} (hq:n * q=64) (F:Nat→Nat) (h:m < q) (k:Nat) (hk:k≤n):tailF n q (m + 1) F * 2 ^ k < 18446744073709551616:=by
 have h1:=packF_lt n (q - (m + 1)) (fun j => F (m + 1 + j))
 have h2:tailF n q (m + 1) F * 2 ^ k < 2 ^ (n * (q - (m + 1))) * 2 ^ n :=
  Nat.lt_of_lt_of_le (Nat.mul_lt_mul_of_pos_right h1 (Nat.two_pow_pos k)) (Nat.mul_le_mul_left _ (Nat.pow_le_pow_right (by decide) hk))
 rw [← Nat.pow_add] at h2
 refine Nat.lt_of_lt_of_le h2 ?_
 show _≤2 ^ 64
 refine Nat.pow_le_pow_right (by decide) ?_
 rw [← hq,show n * (q - (m + 1)) + n=n * (q - (m + 1) + 1) by rw [Nat.mul_add,Nat.mul_one]]
 exact Nat.mul_le_mul_left _ (by omega)
theorem tailF_sum {n q m:Nat} (hq:n * q=64) (F:Nat→Nat) (h:m < q):tailF n q m F < 18446744073709551616:=by
 have h1:=packF_lt n (q - m) (fun j => F (m + j))
 refine Nat.lt_of_lt_of_le h1 ?_
 show _≤2 ^ 64
 refine Nat.pow_le_pow_right (by decide) ?_
 rw [← hq]
 exact Nat.mul_le_mul_left _ (by omega)
theorem dbl {x k y:Nat} (e:y=x * 2 ^ (k + 1)) (h:y < 18446744073709551616):IntKind.u64.wrap (((x * 2 ^ k:Nat):Int) * 2)=(y:Int):=by
 have:((x * 2 ^ k:Nat):Int) * 2=(y:Int):=by rw [e,Nat.pow_succ,← Nat.mul_assoc];simp
 rw [this]
 exact wrap_nat h
theorem addc {x z y:Nat} (e:y=x + z) (h:y < 18446744073709551616):IntKind.u64.wrap ((x:Int) + (z:Int))=(y:Int):=by
 rw [e,← wrap_nat (show x + z < 18446744073709551616 by omega)]
 simp
set_option maxHeartbeats 4000000 in
theorem RVector_says (n:Nat) (hn:Okn n) (v:Value) (c:Nat) (hc:cnt n≤c) (hc2:c≤1000) (F:Nat→Nat) (w:World) (hr:RowAt w v c F) (hF:∀ i,i < cnt n→F i < 18446744073709551616) :
  Calls Tryz.prog 129 #[.int .i64 n,v] w fun e w' => e=.returned (vv 123 (loF n F) (hiF n F) false)∧Below w.heap.size w w':=by
 have HCU:=fun (a:Nat) (ha:a < 18446744073709551616) W => hid (Cut_any n hn a ha W)
 obtain ⟨g,o,cap,rfl,hg,hcap,hat⟩:=hr
 have hlf:loF n F=tailF n (64 / n) 0 F:=by unfold loF tailF;rw [Nat.sub_zero];congr 1;funext j;rw [Nat.zero_add]
 have hhf:hiF n F=tailF n (64 / n) 0 (fun i => F (i + 64 / n)):=by unfold hiF tailF;rw [Nat.sub_zero];congr 1;funext j;rw [Nat.zero_add]
 have hn8:=hn.le
 have hn0:0 < (n:Int):=by omega
 have hq:n * (64 / n)=64:=hn.half
 have hq2:cnt n=2 * (64 / n):=by rcases hn.cases with ⟨_,h,h'⟩ | ⟨_,h,h'⟩ | ⟨_,h,h'⟩ | ⟨_,h,h'⟩ <;> omega
 have hq8:64 / n≤8:=by rcases hn.cases with ⟨_,h,_⟩ | ⟨_,h,_⟩ | ⟨_,h,_⟩ | ⟨_,h,_⟩ <;> omega
 have hqi:(64:Int) / (n:Int)=((64 / n:Nat):Int):=by simp
 rw [hlf,hhf]
 obtain ⟨q,hqe⟩:∃ q,q=64 / n:=⟨_,rfl⟩
 rw [← hqe] at hq hq2 hq8 hqi ⊢
 have hqc:2 * q≤c:=by omega
 have HQ:=hid hq
 have HAT:=hid hat
 have HF:Hid (∀ i,i < 2 * q→F i < 18446744073709551616):=fun i hi => hF i (by omega)
 obtain ⟨G,hG⟩:∃ G:Nat→Nat,G=fun i => F (i + q):=⟨_,rfl⟩
 rw [← hG]
 have HG:Hid (∀ i,G i=F (i + q)):=fun i => by rw [hG]
 clear hqe hq hat hF hlf hhf hn hc hG hq2
 unfold vv
 go_enter Tryz.func129,Tryz.ntmps129
 go_wp2
 rw [hqi]
 clear hqi
 go_loopw [7] (fun vi wr => ∃ m:Nat,m≤q∧vi=.int .i64 ((m:Int) - 1)∧Hid (VS w (tailF n q m F) (tailF n q m G) wr)) (fun vi _ => (intOf vi + 1).toNat)
 case atStart =>
  refine ⟨q,Nat.le_refl _,rfl,?_⟩
  have e:∀ H:Nat→Nat,tailF n q q H=0:=fun H => by unfold tailF;rw [Nat.sub_self];rfl
  rw [e,e]
  exact VS.start w
 case round =>
  obtain ⟨m,hm,rfl,HJ⟩:=hrel
  cases m with
  | zero =>
   obtain ⟨hB,hR,hV⟩:=HJ.out
   have e:(((0:Nat):Int) - 1)=-1:=by decide
   rw [e]
   have r0:=hR.at (k:=0) (v:=.int .i64 0) rfl
   have r1:=hR.at (k:=1) (v:=.int .u64 0) rfl
   have r2:=hR.at (k:=2) (v:=.int .u64 0) rfl
   have r3:=hR.at (k:=3) (v:=.bool false) rfl
   have f0:=hR.free 0
   have f1:=hR.free 1
   have f2:=hR.free 2
   have f3:=hR.free 3
   have v0:=hV.at (k:=0) (v:=.int .i64 123) rfl
   have v1:=hV.at (k:=1) (v:=.int .u64 (tailF n q 0 F:Nat)) rfl
   have v2:=hV.at (k:=2) (v:=.int .u64 (tailF n q 0 G:Nat)) rfl
   have v3:=hV.at (k:=3) (v:=.bool false) rfl
   have HBB:=hid hB
   clear HJ hR hV
   go_wp2
   refine bodyPost_ret (v:=.agg #[.int .i64 123,.int .u64 (tailF n q 0 F:Nat),.int .u64 (tailF n q 0 G:Nat),.bool false]) ?_ rfl ⟨rfl,(((hB.setCell (p:=⟨w.heap.size,0,none⟩) (Nat.le_refl _) _).setCell (p:=⟨w.heap.size,1,none⟩) (Nat.le_refl _) _).setCell (p:=⟨w.heap.size,2,none⟩) (Nat.le_refl _) _).setCell (p:=⟨w.heap.size,3,none⟩) (Nat.le_refl _) _⟩
   simp [results,Tryz.results129,go_sem,r0,r1,r2,r3]
  | succ m =>
   have e:(((m + 1:Nat):Int) - 1)=(m:Int):=by omega
   rw [e]
   have hmq:m < q:=by omega
   have hmc:m < c:=by omega
   obtain ⟨t,ht⟩:∃ t,t=m + q:=⟨_,rfl⟩
   have htc:t < c:=by omega
   have HWI:=hid (show IntKind.i64.wrap ((m:Int) + (q:Int))=(t:Int) from by rw [ht,IntKind.wrap_i64];omega)
   have HLX:=hid (tailF_lt HQ.out F hmq)
   have HLY:=hid (tailF_lt HQ.out G hmq)
   have HNX:Hid (tailF n q m F=tailF n q (m + 1) F * 2 ^ n + F m % 2 ^ n):=tailF_next F hmq
   have HNY:Hid (tailF n q m G=tailF n q (m + 1) G * 2 ^ n + F t % 2 ^ n):=by show tailF n q m G=_;rw [tailF_next G hmq,HG.out m,ht]
   have HSX:=hid (tailF_sum HQ.out F hmq)
   have HSY:=hid (tailF_sum HQ.out G hmq)
   have hcl:=(HAT.out m (by omega)).1
   have hch:=(HAT.out t htc).1
   have HFl:=hid (HF.out m (by omega))
   have HFh:=hid (HF.out t (by omega))
   obtain ⟨x,hx⟩:∃ x,x=tailF n q (m + 1) F:=⟨_,rfl⟩
   obtain ⟨y,hy⟩:∃ y,y=tailF n q (m + 1) G:=⟨_,rfl⟩
   obtain ⟨x2,hx2⟩:∃ x,x=tailF n q m F:=⟨_,rfl⟩
   obtain ⟨y2,hy2⟩:∃ y,y=tailF n q m G:=⟨_,rfl⟩
   rw [← hx] at HJ HLX HNX
   rw [← hy] at HJ HLY HNY
   rw [← hx2] at HNX HSX
   rw [← hy2] at HNY HSY
   have HX2:=hid hx2
   have HY2:=hid hy2
   clear hx hy hx2 hy2 e ht
   go_wp2
   go_loopw [8] (fun vk wr => ∃ k:Nat,k≤n∧vk=.int .i64 (k:Int)∧Hid (VS w (x * 2 ^ k) (y * 2 ^ k) wr)) (fun vk _ => n - (intOf vk).toNat)
   case atStart => exact ⟨0,Nat.zero_le _,rfl,by rw [Nat.pow_zero,Nat.mul_one,Nat.mul_one];exact HJ⟩
   case round =>
    obtain ⟨k,hk,rfl,HK⟩:=hrel
    by_cases hkn:k < n
    ·obtain ⟨x',hx'⟩:∃ x',x'=x * 2 ^ (k + 1):=⟨_,rfl⟩
     obtain ⟨y',hy'⟩:∃ y',y'=y * 2 ^ (k + 1):=⟨_,rfl⟩
     have d1:=dbl hx' (by rw [hx'];exact HLX.out (k + 1) hkn)
     have d2:=dbl hy' (by rw [hy'];exact HLY.out (k + 1) hkn)
     obtain ⟨x0,hx0⟩:∃ x0,x0=x * 2 ^ k:=⟨_,rfl⟩
     obtain ⟨y0,hy0⟩:∃ y0,y0=y * 2 ^ k:=⟨_,rfl⟩
     rw [← hx0] at d1 HK
     rw [← hy0] at d2 HK
     have v1:=HK.out.2.2.at (k:=1) (v:=.int .u64 x0) rfl
     have v2:=HK.out.2.2.at (k:=2) (v:=.int .u64 y0) rfl
     have g1:=HK.out.2.2.free 1
     have g2:=HK.out.2.2.free 2
     have HN:=hid ((VS.lo (x':=x') HK.out).hi (y':=y'))
     have HE:=hid (And.intro hx' hy')
     clear hx' hy' hx0 hy0
     go_wp2
     go_roundw
     case rel => exact ⟨k + 1,hkn,by go_num,by rw [← HE.out.1,← HE.out.2];exact HN⟩
     case measure => simp [intOf];omega
    ·obtain rfl:k=n:=by omega
     obtain ⟨x0,hx0⟩:∃ x0,x0=x * 2 ^ k:=⟨_,rfl⟩
     obtain ⟨y0,hy0⟩:∃ y0,y0=y * 2 ^ k:=⟨_,rfl⟩
     rw [← hx0] at HK HNX
     rw [← hy0] at HK HNY
     have HUl:=fun W => HCU (F m) HFl.out W
     have HUh:=fun W => HCU (F t) HFh.out W
     have ax:=addc HNX.out HSX.out
     have ay:=addc HNY.out HSY.out
     obtain ⟨zl,hzl⟩:∃ z,z=F m % 2 ^ k:=⟨_,rfl⟩
     obtain ⟨zh,hzh⟩:∃ z,z=F t % 2 ^ k:=⟨_,rfl⟩
     rw [← hzl] at HUl ax
     rw [← hzh] at HUh ay
     clear hzl hzh hx0 hy0 hkn HLX HLY
     have HKD:=HK
     go_upto_region 11 with fail
     have HJW:=HK.out.drew
     have hS:=HJW.1
     clear HK HKD HJ
     refine wp_region_held_drew (S:=Below w.heap.size w) (by kernel_rfl) hS (fun _ => ?_)
     generalize wr.drew=W at *
     refine zt 0 (.pointer (some ⟨w.heap.size + 1,1,none⟩)) rfl ?_ ?_
     ·(intro W hSw;have wi:=HWI.out;have y1:=(hSw.cell (p:=⟨g,o + (m),none⟩) hg).trans hcl;go_simp;try (with_reducible rfl))
     try simp only [Act.put,sl2,sl0,sl1]
     refine zt 2 (.int .i64 k) rfl ?_ ?_
     ·(intro W hSw;have wi:=HWI.out;have y1:=(hSw.cell (p:=⟨g,o + (m),none⟩) hg).trans hcl;go_simp;try (with_reducible rfl))
     try simp only [Act.put,sl2,sl0,sl1]
     refine zt 3 (.slice (some ⟨g,o,none⟩) c cap) rfl ?_ ?_
     ·(intro W hSw;have wi:=HWI.out;have y1:=(hSw.cell (p:=⟨g,o + (m),none⟩) hg).trans hcl;go_simp;try (with_reducible rfl))
     try simp only [Act.put,sl2,sl0,sl1]
     refine zt 4 (.int .i64 m) rfl ?_ ?_
     ·(intro W hSw;have wi:=HWI.out;have y1:=(hSw.cell (p:=⟨g,o + (m),none⟩) hg).trans hcl;go_simp;try (with_reducible rfl))
     try simp only [Act.put,sl2,sl0,sl1]
     refine zt 5 (.pointer (some ⟨g,o + m,none⟩)) rfl ?_ ?_
     ·(intro W hSw;have wi:=HWI.out;have y1:=(hSw.cell (p:=⟨g,o + (m),none⟩) hg).trans hcl;go_simp;try (with_reducible rfl))
     try simp only [Act.put,sl2,sl0,sl1]
     refine zt 6 (.int .u64 (F m:Nat)) rfl ?_ ?_
     ·(intro W hSw;have wi:=HWI.out;have y1:=(hSw.cell (p:=⟨g,o + (m),none⟩) hg).trans hcl;go_simp;try (with_reducible rfl))
     try simp only [Act.put,sl2,sl0,sl1]
     refine zm [1,7] ?_
     refine zc rfl (fun K hK => ?_) ?_
     ·have z1:=HJW.2.2.at (k:=1) (v:=.int .u64 x0) rfl
      go_simp
      clear z1
      refine hK.out _ _ hS (fun _ => ?_)
      clear hK K
      try simp only [Act.put,sl2,sl0,sl1]
      refine zr 7 rfl (fun K hK => ?_)
      go_simp
      go_at_call 81
      (with_reducible refine (HUl _).out.mono ?_)
      rintro e W111 ⟨rfl,hb⟩
      replace hS:Below w.heap.size w W111:=hb ▸ hS
      replace HJW:=VS.call HJW hb
      clear hb
      refine hK.out _ _ hS (fun _ => ?_)
      clear hK K
      try simp only [Act.put,sl2,sl0,sl1]
      refine zt 8 (.int .u64 x2) rfl ?_ ?_
      ·(intro W hSw;have wi:=HWI.out;have y1:=(hSw.cell (p:=⟨g,o + (m),none⟩) hg).trans hcl;go_simp;try (with_reducible rfl))
      try simp only [Act.put,sl2,sl0,sl1]
      refine zt 9 (.pointer (some ⟨w.heap.size + 1,1,none⟩)) rfl ?_ ?_
      ·(intro W hSw;have wi:=HWI.out;have y1:=(hSw.cell (p:=⟨g,o + (m),none⟩) hg).trans hcl;go_simp;try (with_reducible rfl))
      try simp only [Act.put,sl2,sl0,sl1]
      refine zr 10 rfl (fun K hK => ?_)
      have z1:=HJW.2.2.at (k:=1) (v:=.int .u64 x0) rfl
      have z2:=HJW.2.2.free 1
      go_simp
      clear z1 z2
      replace HJW:=VS.lo (x':=x2) HJW
      have hS2:=HJW.1
      clear hS
      have hS:=hS2
      clear hS2
      generalize W111.setCell ⟨w.heap.size + 1,1,none⟩ (.int .u64 (x2:Nat))=V11 at *
      refine hK.out _ _ hS (fun _ => ?_)
      clear hK K
      try simp only [Act.put,sl2,sl0,sl1]
      refine wpAnyH_done (by kernel_rfl) ?_ _
      go_upto_region 12 with fail
      replace HJW:=HJW.drew
      clear hS
      have hS:=HJW.1
      refine wp_region_held_drew (S:=Below w.heap.size w) (by kernel_rfl) hS (fun _ => ?_)
      generalize V11.drew=W at *
      refine zt 0 (.pointer (some ⟨w.heap.size + 1,2,none⟩)) rfl ?_ ?_
      ·(intro W hSw;have wi:=HWI.out;have y1:=(hSw.cell (p:=⟨g,o + (t),none⟩) hg).trans hch;go_simp;try (with_reducible rfl))
      try simp only [Act.put,sl2,sl0,sl1]
      refine zt 2 (.int .i64 k) rfl ?_ ?_
      ·(intro W hSw;have wi:=HWI.out;have y1:=(hSw.cell (p:=⟨g,o + (t),none⟩) hg).trans hch;go_simp;try (with_reducible rfl))
      try simp only [Act.put,sl2,sl0,sl1]
      refine zt 3 (.slice (some ⟨g,o,none⟩) c cap) rfl ?_ ?_
      ·(intro W hSw;have wi:=HWI.out;have y1:=(hSw.cell (p:=⟨g,o + (t),none⟩) hg).trans hch;go_simp;try (with_reducible rfl))
      try simp only [Act.put,sl2,sl0,sl1]
      refine zt 4 (.int .i64 m) rfl ?_ ?_
      ·(intro W hSw;have wi:=HWI.out;have y1:=(hSw.cell (p:=⟨g,o + (t),none⟩) hg).trans hch;go_simp;try (with_reducible rfl))
      try simp only [Act.put,sl2,sl0,sl1]
      refine zt 5 (.int .i64 q) rfl ?_ ?_
      ·(intro W hSw;have wi:=HWI.out;have y1:=(hSw.cell (p:=⟨g,o + (t),none⟩) hg).trans hch;go_simp;try (with_reducible rfl))
      try simp only [Act.put,sl2,sl0,sl1]
      refine zt 6 (.int .i64 (t:Int)) rfl ?_ ?_
      ·(intro W hSw;have wi:=HWI.out;have y1:=(hSw.cell (p:=⟨g,o + (t),none⟩) hg).trans hch;go_simp;try (with_reducible rfl))
      try simp only [Act.put,sl2,sl0,sl1]
      refine zt 7 (.pointer (some ⟨g,o + t,none⟩)) rfl ?_ ?_
      ·(intro W hSw;have wi:=HWI.out;have y1:=(hSw.cell (p:=⟨g,o + (t),none⟩) hg).trans hch;go_simp;try (with_reducible rfl))
      try simp only [Act.put,sl2,sl0,sl1]
      refine zt 8 (.int .u64 (F t:Nat)) rfl ?_ ?_
      ·(intro W hSw;have wi:=HWI.out;have y1:=(hSw.cell (p:=⟨g,o + (t),none⟩) hg).trans hch;go_simp;try (with_reducible rfl))
      try simp only [Act.put,sl2,sl0,sl1]
      refine zm [1,9] ?_
      refine zc rfl (fun K hK => ?_) ?_
      ·have z1:=HJW.2.2.at (k:=2) (v:=.int .u64 y0) rfl
       go_simp
       clear z1
       refine hK.out _ _ hS (fun _ => ?_)
       clear hK K
       try simp only [Act.put,sl2,sl0,sl1]
       refine zr 9 rfl (fun K hK => ?_)
       go_simp
       go_at_call 81
       (with_reducible refine (HUh _).out.mono ?_)
       rintro e W121 ⟨rfl,hb⟩
       replace hS:Below w.heap.size w W121:=hb ▸ hS
       replace HJW:=VS.call HJW hb
       clear hb
       refine hK.out _ _ hS (fun _ => ?_)
       clear hK K
       try simp only [Act.put,sl2,sl0,sl1]
       refine zt 10 (.int .u64 y2) rfl ?_ ?_
       ·(intro W hSw;have wi:=HWI.out;have y1:=(hSw.cell (p:=⟨g,o + (t),none⟩) hg).trans hch;go_simp;try (with_reducible rfl))
       try simp only [Act.put,sl2,sl0,sl1]
       refine zt 11 (.pointer (some ⟨w.heap.size + 1,2,none⟩)) rfl ?_ ?_
       ·(intro W hSw;have wi:=HWI.out;have y1:=(hSw.cell (p:=⟨g,o + (t),none⟩) hg).trans hch;go_simp;try (with_reducible rfl))
       try simp only [Act.put,sl2,sl0,sl1]
       refine zr 12 rfl (fun K hK => ?_)
       have z1:=HJW.2.2.at (k:=2) (v:=.int .u64 y0) rfl
       have z2:=HJW.2.2.free 2
       go_simp
       clear z1 z2
       replace HJW:=VS.hi (y':=y2) HJW
       have hS2:=HJW.1
       clear hS
       have hS:=hS2
       clear hS2
       generalize W121.setCell ⟨w.heap.size + 1,2,none⟩ (.int .u64 (y2:Nat))=V12 at *
       refine hK.out _ _ hS (fun _ => ?_)
       clear hK K
       try simp only [Act.put,sl2,sl0,sl1]
       refine wpAnyH_done (by kernel_rfl) ?_ _
       go_wp2_with fail
       go_roundw
       case rel => exact ⟨m,by omega,by go_num,by rw [← HX2.out,← HY2.out];exact HJW⟩
       case measure => (simp [intOf])
      refine zc rfl (fun K hK => ?_) ?_
      ·go_simp
       go_at_call 81
       (with_reducible refine (HUh _).out.mono ?_)
       rintro e W121 ⟨rfl,hb⟩
       replace hS:Below w.heap.size w W121:=hb ▸ hS
       replace HJW:=VS.call HJW hb
       clear hb
       refine hK.out _ _ hS (fun _ => ?_)
       clear hK K
       try simp only [Act.put,sl2,sl0,sl1]
       refine zr 1 rfl (fun K hK => ?_)
       have z1:=HJW.2.2.at (k:=2) (v:=.int .u64 y0) rfl
       go_simp
       clear z1
       refine hK.out _ _ hS (fun _ => ?_)
       clear hK K
       try simp only [Act.put,sl2,sl0,sl1]
       refine zt 10 (.int .u64 y2) rfl ?_ ?_
       ·(intro W hSw;have wi:=HWI.out;have y1:=(hSw.cell (p:=⟨g,o + (t),none⟩) hg).trans hch;go_simp;try (with_reducible rfl))
       try simp only [Act.put,sl2,sl0,sl1]
       refine zt 11 (.pointer (some ⟨w.heap.size + 1,2,none⟩)) rfl ?_ ?_
       ·(intro W hSw;have wi:=HWI.out;have y1:=(hSw.cell (p:=⟨g,o + (t),none⟩) hg).trans hch;go_simp;try (with_reducible rfl))
       try simp only [Act.put,sl2,sl0,sl1]
       refine zr 12 rfl (fun K hK => ?_)
       have z1:=HJW.2.2.at (k:=2) (v:=.int .u64 y0) rfl
       have z2:=HJW.2.2.free 2
       go_simp
       clear z1 z2
       replace HJW:=VS.hi (y':=y2) HJW
       have hS2:=HJW.1
       clear hS
       have hS:=hS2
       clear hS2
       generalize W121.setCell ⟨w.heap.size + 1,2,none⟩ (.int .u64 (y2:Nat))=V12 at *
       refine hK.out _ _ hS (fun _ => ?_)
       clear hK K
       try simp only [Act.put,sl2,sl0,sl1]
       refine wpAnyH_done (by kernel_rfl) ?_ _
       go_wp2_with fail
       go_roundw
       case rel => exact ⟨m,by omega,by go_num,by rw [← HX2.out,← HY2.out];exact HJW⟩
       case measure => (simp [intOf])
      exact zn
     refine zc rfl (fun K hK => ?_) ?_
     ·go_simp
      go_at_call 81
      (with_reducible refine (HUl _).out.mono ?_)
      rintro e W111 ⟨rfl,hb⟩
      replace hS:Below w.heap.size w W111:=hb ▸ hS
      replace HJW:=VS.call HJW hb
      clear hb
      refine hK.out _ _ hS (fun _ => ?_)
      clear hK K
      try simp only [Act.put,sl2,sl0,sl1]
      refine zr 1 rfl (fun K hK => ?_)
      have z1:=HJW.2.2.at (k:=1) (v:=.int .u64 x0) rfl
      go_simp
      clear z1
      refine hK.out _ _ hS (fun _ => ?_)
      clear hK K
      try simp only [Act.put,sl2,sl0,sl1]
      refine zt 8 (.int .u64 x2) rfl ?_ ?_
      ·(intro W hSw;have wi:=HWI.out;have y1:=(hSw.cell (p:=⟨g,o + (m),none⟩) hg).trans hcl;go_simp;try (with_reducible rfl))
      try simp only [Act.put,sl2,sl0,sl1]
      refine zt 9 (.pointer (some ⟨w.heap.size + 1,1,none⟩)) rfl ?_ ?_
      ·(intro W hSw;have wi:=HWI.out;have y1:=(hSw.cell (p:=⟨g,o + (m),none⟩) hg).trans hcl;go_simp;try (with_reducible rfl))
      try simp only [Act.put,sl2,sl0,sl1]
      refine zr 10 rfl (fun K hK => ?_)
      have z1:=HJW.2.2.at (k:=1) (v:=.int .u64 x0) rfl
      have z2:=HJW.2.2.free 1
      go_simp
      clear z1 z2
      replace HJW:=VS.lo (x':=x2) HJW
      have hS2:=HJW.1
      clear hS
      have hS:=hS2
      clear hS2
      generalize W111.setCell ⟨w.heap.size + 1,1,none⟩ (.int .u64 (x2:Nat))=V11 at *
      refine hK.out _ _ hS (fun _ => ?_)
      clear hK K
      try simp only [Act.put,sl2,sl0,sl1]
      refine wpAnyH_done (by kernel_rfl) ?_ _
      go_upto_region 12 with fail
      replace HJW:=HJW.drew
      clear hS
      have hS:=HJW.1
      refine wp_region_held_drew (S:=Below w.heap.size w) (by kernel_rfl) hS (fun _ => ?_)
      generalize V11.drew=W at *
      refine zt 0 (.pointer (some ⟨w.heap.size + 1,2,none⟩)) rfl ?_ ?_
      ·(intro W hSw;have wi:=HWI.out;have y1:=(hSw.cell (p:=⟨g,o + (t),none⟩) hg).trans hch;go_simp;try (with_reducible rfl))
      try simp only [Act.put,sl2,sl0,sl1]
      refine zt 2 (.int .i64 k) rfl ?_ ?_
      ·(intro W hSw;have wi:=HWI.out;have y1:=(hSw.cell (p:=⟨g,o + (t),none⟩) hg).trans hch;go_simp;try (with_reducible rfl))
      try simp only [Act.put,sl2,sl0,sl1]
      refine zt 3 (.slice (some ⟨g,o,none⟩) c cap) rfl ?_ ?_
      ·(intro W hSw;have wi:=HWI.out;have y1:=(hSw.cell (p:=⟨g,o + (t),none⟩) hg).trans hch;go_simp;try (with_reducible rfl))
      try simp only [Act.put,sl2,sl0,sl1]
      refine zt 4 (.int .i64 m) rfl ?_ ?_
      ·(intro W hSw;have wi:=HWI.out;have y1:=(hSw.cell (p:=⟨g,o + (t),none⟩) hg).trans hch;go_simp;try (with_reducible rfl))
      try simp only [Act.put,sl2,sl0,sl1]
      refine zt 5 (.int .i64 q) rfl ?_ ?_
      ·(intro W hSw;have wi:=HWI.out;have y1:=(hSw.cell (p:=⟨g,o + (t),none⟩) hg).trans hch;go_simp;try (with_reducible rfl))
      try simp only [Act.put,sl2,sl0,sl1]
      refine zt 6 (.int .i64 (t:Int)) rfl ?_ ?_
      ·(intro W hSw;have wi:=HWI.out;have y1:=(hSw.cell (p:=⟨g,o + (t),none⟩) hg).trans hch;go_simp;try (with_reducible rfl))
      try simp only [Act.put,sl2,sl0,sl1]
      refine zt 7 (.pointer (some ⟨g,o + t,none⟩)) rfl ?_ ?_
      ·(intro W hSw;have wi:=HWI.out;have y1:=(hSw.cell (p:=⟨g,o + (t),none⟩) hg).trans hch;go_simp;try (with_reducible rfl))
      try simp only [Act.put,sl2,sl0,sl1]
      refine zt 8 (.int .u64 (F t:Nat)) rfl ?_ ?_
      ·(intro W hSw;have wi:=HWI.out;have y1:=(hSw.cell (p:=⟨g,o + (t),none⟩) hg).trans hch;go_simp;try (with_reducible rfl))
      try simp only [Act.put,sl2,sl0,sl1]
      refine zm [1,9] ?_
      refine zc rfl (fun K hK => ?_) ?_
      ·have z1:=HJW.2.2.at (k:=2) (v:=.int .u64 y0) rfl
       go_simp
       clear z1
       refine hK.out _ _ hS (fun _ => ?_)
       clear hK K
       try simp only [Act.put,sl2,sl0,sl1]
       refine zr 9 rfl (fun K hK => ?_)
       go_simp
       go_at_call 81
       (with_reducible refine (HUh _).out.mono ?_)
       rintro e W121 ⟨rfl,hb⟩
       replace hS:Below w.heap.size w W121:=hb ▸ hS
       replace HJW:=VS.call HJW hb
       clear hb
       refine hK.out _ _ hS (fun _ => ?_)
       clear hK K
       try simp only [Act.put,sl2,sl0,sl1]
       refine zt 10 (.int .u64 y2) rfl ?_ ?_
       ·(intro W hSw;have wi:=HWI.out;have y1:=(hSw.cell (p:=⟨g,o + (t),none⟩) hg).trans hch;go_simp;try (with_reducible rfl))
       try simp only [Act.put,sl2,sl0,sl1]
       refine zt 11 (.pointer (some ⟨w.heap.size + 1,2,none⟩)) rfl ?_ ?_
       ·(intro W hSw;have wi:=HWI.out;have y1:=(hSw.cell (p:=⟨g,o + (t),none⟩) hg).trans hch;go_simp;try (with_reducible rfl))
       try simp only [Act.put,sl2,sl0,sl1]
       refine zr 12 rfl (fun K hK => ?_)
       have z1:=HJW.2.2.at (k:=2) (v:=.int .u64 y0) rfl
       have z2:=HJW.2.2.free 2
       go_simp
       clear z1 z2
       replace HJW:=VS.hi (y':=y2) HJW
       have hS2:=HJW.1
       clear hS
       have hS:=hS2
       clear hS2
       generalize W121.setCell ⟨w.heap.size + 1,2,none⟩ (.int .u64 (y2:Nat))=V12 at *
       refine hK.out _ _ hS (fun _ => ?_)
       clear hK K
       try simp only [Act.put,sl2,sl0,sl1]
       refine wpAnyH_done (by kernel_rfl) ?_ _
       go_wp2_with fail
       go_roundw
       case rel => exact ⟨m,by omega,by go_num,by rw [← HX2.out,← HY2.out];exact HJW⟩
       case measure => (simp [intOf])
      refine zc rfl (fun K hK => ?_) ?_
      ·go_simp
       go_at_call 81
       (with_reducible refine (HUh _).out.mono ?_)
       rintro e W121 ⟨rfl,hb⟩
       replace hS:Below w.heap.size w W121:=hb ▸ hS
       replace HJW:=VS.call HJW hb
       clear hb
       refine hK.out _ _ hS (fun _ => ?_)
       clear hK K
       try simp only [Act.put,sl2,sl0,sl1]
       refine zr 1 rfl (fun K hK => ?_)
       have z1:=HJW.2.2.at (k:=2) (v:=.int .u64 y0) rfl
       go_simp
       clear z1
       refine hK.out _ _ hS (fun _ => ?_)
       clear hK K
       try simp only [Act.put,sl2,sl0,sl1]
       refine zt 10 (.int .u64 y2) rfl ?_ ?_
       ·(intro W hSw;have wi:=HWI.out;have y1:=(hSw.cell (p:=⟨g,o + (t),none⟩) hg).trans hch;go_simp;try (with_reducible rfl))
       try simp only [Act.put,sl2,sl0,sl1]
       refine zt 11 (.pointer (some ⟨w.heap.size + 1,2,none⟩)) rfl ?_ ?_
       ·(intro W hSw;have wi:=HWI.out;have y1:=(hSw.cell (p:=⟨g,o + (t),none⟩) hg).trans hch;go_simp;try (with_reducible rfl))
       try simp only [Act.put,sl2,sl0,sl1]
       refine zr 12 rfl (fun K hK => ?_)
       have z1:=HJW.2.2.at (k:=2) (v:=.int .u64 y0) rfl
       have z2:=HJW.2.2.free 2
       go_simp
       clear z1 z2
       replace HJW:=VS.hi (y':=y2) HJW
       have hS2:=HJW.1
       clear hS
       have hS:=hS2
       clear hS2
       generalize W121.setCell ⟨w.heap.size + 1,2,none⟩ (.int .u64 (y2:Nat))=V12 at *
       refine hK.out _ _ hS (fun _ => ?_)
       clear hK K
       try simp only [Act.put,sl2,sl0,sl1]
       refine wpAnyH_done (by kernel_rfl) ?_ _
       go_wp2_with fail
       go_roundw
       case rel => exact ⟨m,by omega,by go_num,by rw [← HX2.out,← HY2.out];exact HJW⟩
       case measure => (simp [intOf])
      exact zn
     exact zn
end Go.Proofs.YtlhakbkdlgejpaaGreatDoor
namespace Go.Proofs.YtlhakbkdlgejpaaGreatDoor
open Go.RowKit
def noSh:Nat→List UInt8→Bool
 | 0,l => l == []
 | m + 1,l => (l == []) || ((biL (headC l 95) == 0) && noSh m (tailC l 95))
def strSz:Value→Nat
 | .string s => s.size
 | _ => 0
theorem tailC_lt (l:List UInt8) (c:UInt8) (h:l ≠ []):(tailC l c).length < l.length:=by
 have h0:0 < l.length:=List.length_pos_iff.2 h
 unfold tailC
 split
 ·rw [List.length_drop];omega
 ·simpa using h0
set_option maxHeartbeats 2000000 in
theorem source_none (v:List UInt8) (hl:v.length≤1000) (m:Nat) (hv:noSh m v=true) (w:World):Calls Tryz.prog 128 #[.string (str v)] w fun e w' => e=.returned (.tuple #[.string ⟨#[]⟩,.bool false])∧Below w.heap.size w w':=by
 have HV:=hid hv
 have HL:=hid hl
 obtain ⟨s,hs⟩:∃ s,s=str v:=⟨_,rfl⟩
 have HS:=hid hs
 rw [← hs]
 clear hv hl hs
 go_enter Tryz.func128,Tryz.ntmps128
 go_wp2
 go_loopw [4,5,6] (fun v4 v5 v6 wr => v4=.string ⟨#[]⟩∧v5=.bool false∧(∃ s,v6=.string s∧Hid (∃ r m,s=str r∧noSh m r=true∧r.length≤1000))∧Hid (Below w.heap.size w wr)) (fun _ _ v6 _ => strSz v6)
 case atStart => exact ⟨rfl,rfl,⟨s,rfl,v,m,HS.out,HV.out,HL.out⟩,Below.refl _ _⟩
 case round =>
  obtain ⟨rfl,rfl,⟨s,rfl,HR⟩,HB⟩:=hrel
  obtain ⟨r,m,hs,hn,hrl⟩:=HR.out
  by_cases h0:r=[]
  ·have q:s.toList.isEmpty=true:=by rw [hs,str_list,h0];rfl
   clear hs hn hrl HR h0
   go_wp2
   go_ret2
   exact ⟨rfl,HB.out⟩
  ·have q:s.toList.isEmpty=false:=by rw [hs,str_list];simpa using h0
   cases m with
   | zero => exfalso;simp [noSh] at hn;exact h0 hn
   | succ m =>
    have h1:biL (headC r 95)=0∧noSh m (tailC r 95)=true:=by
     simp only [noSh,Bool.or_eq_true,Bool.and_eq_true,beq_iff_eq] at hn
     rcases hn with h | h
     ·exact absurd h h0
     ·exact h
    have HC:=fun W => hid (RCut_says r hrl 95 95 rfl W)
    rw [← hs] at HC
    have HBI:=fun W => hid (RBits_says (headC r 95) W)
    rw [h1.1] at HBI
    have ht:=tailC_lt r 95 h0
    have HT:Hid (∃ r' m',str (tailC r 95)=str r'∧noSh m' r'=true∧r'.length≤1000):=⟨tailC r 95,m,rfl,h1.2,by omega⟩
    have HSZ:Hid ((str (tailC r 95)).size < s.size):=by show (str (tailC r 95)).size < s.size;rw [hs,str_size,str_size];exact ht
    generalize str (tailC r 95)=s2 at *
    generalize str (headC r 95)=s1 at *
    clear hs hn hrl HR h0 h1 ht
    go_wp2_with (first
     | (go_at_call 122;refine (HC _).out.mono ?_;rintro e w1 ⟨rfl,hb⟩;have HB1:=hid (HB.out.trans (hb.mono HB.out.size));clear hb)
     | (go_at_call 123;refine (HBI _).out.mono ?_;rintro e w2 ⟨rfl,rfl⟩))
    go_roundw
    case rel => exact ⟨rfl,rfl,⟨s2,rfl,HT⟩,HB1⟩
    case measure => exact HSZ.out
set_option maxHeartbeats 4000000 in
theorem RDone_two (r:Rw) (sh what:List UInt8) (hsh:headC r.2.1 46=sh) (hwhat:tailC r.2.1 46=what) (hnl:r.2.1.length≤1000) (n:Nat) (hn:Okn n) (hbi:biL sh=n) (him:(r.2.2.1 == 25)=false) (him2:(r.2.2.1 == 24)=false)
  (hw0:(what == [115,112,108,97,116])=false) (hw1:(what == [115,119,105,122,122,108,101])=false) (hw2:(what == [97,108,108,95,116,114,117,101])=false) (hw3:(what == [98,105,116,109,97,115,107])=false)
  (m:Nat) (hns:noSh m what=true) (fb:Int) (fl:Bool) (hfl:(fb == 102)=fl) (hix:∀ W,(Instr.index 9 (.string (str sh)) (.int .i64 0)).run Tryz.prog W=.ok (.int .u8 fb) W)
  (vi va:Value) (lo hi:Nat) (nl:Bool) (lo2 hi2:Nat) (nl2:Bool) (hlo2:lo2 < 18446744073709551616) (hhi2:hi2 < 18446744073709551616) (hlo:lo < 18446744073709551616) (hhi:hi < 18446744073709551616) (w:World) (ha:AR w va ([(123,lo,hi,nl),(123,lo2,hi2,nl2)])) (f:Nat→Nat→Nat)
  (HLane:∀ (a b:Nat) (W:World),a < 18446744073709551616→b < 18446744073709551616→Calls Tryz.prog 131 #[.int .i64 n,.bool fl,.string (str what),.int .u64 a,.int .u64 b] W fun e w' => e=.returned (.int .u64 (f a b:Nat))∧Below W.heap.size W w')
  (hf:∀ i,i < cnt n→f (splitF n lo hi i) (splitF n lo2 hi2 i) < 18446744073709551616) :
  Calls Tryz.prog 80 #[rwV r,vi,va] w fun e w' => e=.returned (vv 123 (loF n (fun i => f (splitF n lo hi i) (splitF n lo2 hi2 i))) (hiF n (fun i => f (splitF n lo hi i) (splitF n lo2 hi2 i))) false)∧Below w.heap.size w w':=by
 obtain ⟨i0,hi0,hz0,hz1,hz2⟩:=info_parts info22
 obtain ⟨ro,nm,im,tk,lv,fx⟩:=r
 simp only [] at hsh hwhat hnl him him2
 have HCT:=fun W => hid (RCut_says nm hnl 46 46 rfl W)
 rw [hsh,hwhat] at HCT
 have HBI:=fun W => hid (RBits_says sh W)
 rw [hbi] at HBI
 have hwl:what.length≤1000:=by
  rw [← hwhat];unfold tailC;split
  ·rw [List.length_drop];omega
  ·simp
 have HSO:=fun W => hid (source_none what hwl m hns W)
 have HSP:=fun W => hid (RSplit_says n hn 123 lo hi nl hlo hhi W)
 have HSP2:=fun W => hid (RSplit_says n hn 123 lo2 hi2 nl2 hlo2 hhi2 W)
 have hc1:1≤cnt n:=by rcases hn.cases with ⟨_,_,h⟩ | ⟨_,_,h⟩ | ⟨_,_,h⟩ | ⟨_,_,h⟩ <;> omega
 have hc16:cnt n≤16:=by rcases hn.cases with ⟨_,_,h⟩ | ⟨_,_,h⟩ | ⟨_,_,h⟩ | ⟨_,_,h⟩ <;> omega
 have HVC:=fun v (F:Nat→Nat) W (h:RowAt W v (cnt n) F) hF => hid (RVector_says n hn v (cnt n) (Nat.le_refl _) (by omega) F W h hF)
 have hn0:((n:Int) == 0)=false:=by have:=hn.le;simp;omega
 have q0:((str what).toList == [115,112,108,97,116])=false:=by rw [str_list];exact hw0
 have q1:((str what).toList == [115,119,105,122,122,108,101])=false:=by rw [str_list];exact hw1
 have q2:((str what).toList == [97,108,108,95,116,114,117,101])=false:=by rw [str_list];exact hw2
 have q3:((str what).toList == [98,105,116,109,97,115,107])=false:=by rw [str_list];exact hw3
 have HFL:=hid hfl
 obtain ⟨ga,ca,rfl,hga,hca,hata⟩:=ha
 obtain ⟨a0,a1,a2,a3⟩:=hata 0 (123,lo,hi,nl) rfl
 obtain ⟨b0,b1,b2,b3⟩:=hata 1 (123,lo2,hi2,nl2) rfl
 simp only [Nat.zero_mul,Nat.zero_add] at a0 a1 a2 a3 b0 b1 b2 b3
 have hF0:Hid (∀ i,splitF n lo hi i < 18446744073709551616):=fun i => splitF_u64 hn lo hi i
 have hG0:Hid (∀ i,splitF n lo2 hi2 i < 18446744073709551616):=fun i => splitF_u64 hn lo2 hi2 i
 obtain ⟨G,hGe⟩:∃ G,G=splitF n lo2 hi2:=⟨_,rfl⟩
 obtain ⟨F,hFe⟩:∃ F,F=splitF n lo hi:=⟨_,rfl⟩
 obtain ⟨R,hRe⟩:∃ R:Nat→Nat,R=fun i => f (splitF n lo hi i) (splitF n lo2 hi2 i):=⟨_,rfl⟩
 have hR:∀ i,R i=f (F i) (G i):=fun i => by rw [hRe,hFe,hGe]
 have HRF:Hid (∀ i,i < cnt n→R i < 18446744073709551616):=fun i hi => by rw [hRe];exact hf i hi
 rw [← hRe]
 rw [← hFe] at HSP hF0
 rw [← hGe] at HSP2 hG0
 have HLR:∀ (i:Nat) (W:World),Hid (Calls Tryz.prog 131 #[.int .i64 n,.bool fl,.string (str what),.int .u64 (F i:Nat),.int .u64 ((G i:Nat))] W fun e w' => e=.returned (.int .u64 (R i:Nat))∧Below W.heap.size W w'):=fun i W => hid (by
  rw [hR i]
  exact HLane (F i) (G i) W (hF0.out i) (hG0.out i))
 unfold vv at HSP HVC HSP2 ⊢
 unfold rwV
 simp only [List.length_cons,List.length_nil] at hca ⊢
 obtain ⟨c,hce⟩:∃ c,c=cnt n:=⟨_,rfl⟩
 rw [← hce] at HSP HVC hc1 hc16 HRF HSP2
 generalize str what=sw at *
 generalize str sh=ss at *
 generalize str nm=sn at *
 clear hsh hwhat hbi hns hfl hlo hhi hata HLane hf hFe hRe hR hw0 hw1 hw2 hw3 hn hnl hwl hce hGe hlo2 hhi2
 go_enter Tryz.func80,Tryz.ntmps80
 go_upto_region 13 with (first
  | (go_at_call 122;refine (HCT _).out.mono ?_;rintro e w1 ⟨rfl,hb1⟩;have hX1:=(And.intro ((CA.new _ _ 24).call hb1) (((((Below.refl w.heap.size w).alloc (Nat.le_refl _) _).alloc (by first | omega | (simp <;> omega)) _)).trans (hb1.mono (by first | omega | (simp <;> omega)))));have HX1:=hid hX1;have a0':=(hX1.2.cell (p:=⟨ga,0,none⟩) hga).trans a0;have a1':=(hX1.2.cell (p:=⟨ga,1,none⟩) hga).trans a1;have a2':=(hX1.2.cell (p:=⟨ga,2,none⟩) hga).trans a2;have a3':=(hX1.2.cell (p:=⟨ga,3,none⟩) hga).trans a3;have hbx:=(((CA.new w _ 36).alloc _).call hb1).at (k:=2) (v:=.int .i64 im) rfl;clear hb1 hX1)
  | (go_at_call 123;refine (HBI _).out.mono ?_;rintro e w2 ⟨rfl,rfl⟩)
  | (go_at_call 126;(with_reducible refine (HSP _).out.mono ?_);rintro e w3 ⟨v3,rfl,ho3,hb3⟩;have HR3:=hid (RowAt.of_own ho3 hc1);have HX3:=hid (And.intro (HX1.out.1.call hb3) (HX1.out.2.trans (hb3.mono HX1.out.2.size)));clear hb3 ho3)
  | (go_at_call 128;refine (HSO _).out.mono ?_;rintro e w4 ⟨rfl,hb4⟩;have HR4:=hid (HR3.out.call hb4);have HX4:=hid (And.intro (HX3.out.1.call hb4) (HX3.out.2.trans (hb4.mono HX3.out.2.size)));clear hb4))
 obtain ⟨g3,o3,cap3,rfl,hg3,hcap3,hat3⟩:=HR4.out
 have HA3:=hid hat3
 have hB4:=HX4.out.2
 have hR4:CA (w.heap.size + 1) #[.int .i64 0,.int .u64 0,.int .u64 0,.bool false] 24 w4:=by have:=HX4.out.1;rw [size_al] at this;exact this
 have hnb:w.heap.size + 1 < w4.heap.size:=hR4.lt
 have b0':=(hB4.cell (p:=⟨ga,4,none⟩) hga).trans b0
 have b1':=(hB4.cell (p:=⟨ga,5,none⟩) hga).trans b1
 have b2':=(hB4.cell (p:=⟨ga,6,none⟩) hga).trans b2
 have b3':=(hB4.cell (p:=⟨ga,7,none⟩) hga).trans b3
 have hga4:ga < w4.heap.size:=Nat.lt_of_lt_of_le hga hB4.size
 clear hat3 HR4 HX3 HX1 HR3
 go_wp2_with (at_make;refine wpList_make_full _ rfl _ _ 40 rfl w4.heap.size 22 i0 (.int .u64 0) 1 Tryz.underlying40 hi0 hz0 hz1 .i64 .i64 _ _ c rfl rfl rfl rfl (by rw [hz2];omega) (by unfold maxLen;omega) (Nat.le_refl _) ?_;intro w5 hown5 hgrow5)
 have HS5:=hid (EInv.start (F:=R) hown5 hgrow5)
 clear hown5 hgrow5
 go_loopw [14] (fun vi wr => ∃ i:Nat,i≤c∧vi=.int .i64 i∧Hid (EInv w4 w4.heap.size c R i wr)) (fun vi _ => c - (intOf vi).toNat)
 case atStart => exact ⟨0,Nat.zero_le _,rfl,HS5⟩
 case round =>
  obtain ⟨i,hin,rfl,HI⟩:=hrel
  by_cases hlt:i < c
  ·have HLT:=hid hlt
   have d0:=(HI.out.2.1.cell (p:=⟨ga,4,none⟩) hga4).trans b0'
   have d1:=(HI.out.2.1.cell (p:=⟨ga,5,none⟩) hga4).trans b1'
   have d2:=(HI.out.2.1.cell (p:=⟨ga,6,none⟩) hga4).trans b2'
   have d3:=(HI.out.2.1.cell (p:=⟨ga,7,none⟩) hga4).trans b3'
   go_upto_region 22 with (go_at_call 126;(with_reducible refine (HSP2 _).out.mono ?_);rintro e w6 ⟨v6,rfl,ho6,hb6⟩;obtain ⟨g6,o6,cap6,rfl,hg6,hcap6,hat6⟩:=RowAt.of_own ho6 hc1;have k6:=(hat6 i hlt).1;have HI6:=hid (HI.out.call hb6);clear hat6 ho6 hb6)
   have HJW:=HI6.out.drew
   have hS:=HJW.2.1
   refine wp_region_held_drew (S:=Below w4.heap.size w4) (by kernel_rfl) hS (fun _ => ?_)
   generalize w6.drew=W at *
   refine zt 0 (.slice (some ⟨w4.heap.size,0,none⟩) c c) rfl ?_ ?_
   ·(intro W hSw;have x1:=(hSw.cell (p:=⟨g3,o3 + i,none⟩) hg3).trans (HA3.out i hlt).1;have hff:=HFL.out;go_simp;try (with_reducible rfl))
   try simp only [Act.put,sl2,sl0,sl1]
   refine zt 1 (.int .i64 i) rfl ?_ ?_
   ·(intro W hSw;have x1:=(hSw.cell (p:=⟨g3,o3 + i,none⟩) hg3).trans (HA3.out i hlt).1;have hff:=HFL.out;go_simp;try (with_reducible rfl))
   try simp only [Act.put,sl2,sl0,sl1]
   refine zt 2 (.int .i64 n) rfl ?_ ?_
   ·(intro W hSw;have x1:=(hSw.cell (p:=⟨g3,o3 + i,none⟩) hg3).trans (HA3.out i hlt).1;have hff:=HFL.out;go_simp;try (with_reducible rfl))
   try simp only [Act.put,sl2,sl0,sl1]
   refine zt 3 (.string ss) rfl ?_ ?_
   ·(intro W hSw;have x1:=(hSw.cell (p:=⟨g3,o3 + i,none⟩) hg3).trans (HA3.out i hlt).1;have hff:=HFL.out;go_simp;try (with_reducible rfl))
   try simp only [Act.put,sl2,sl0,sl1]
   refine zt 4 (.int .u8 fb) rfl ?_ ?_
   ·(intro W hSw;have x1:=(hSw.cell (p:=⟨g3,o3 + i,none⟩) hg3).trans (HA3.out i hlt).1;have hff:=HFL.out;go_simp;try (with_reducible rfl))
   try simp only [Act.put,sl2,sl0,sl1]
   refine zt 5 (.bool fl) rfl ?_ ?_
   ·(intro W hSw;have x1:=(hSw.cell (p:=⟨g3,o3 + i,none⟩) hg3).trans (HA3.out i hlt).1;have hff:=HFL.out;go_simp;try (with_reducible rfl))
   try simp only [Act.put,sl2,sl0,sl1]
   refine zt 6 (.string sw) rfl ?_ ?_
   ·(intro W hSw;have x1:=(hSw.cell (p:=⟨g3,o3 + i,none⟩) hg3).trans (HA3.out i hlt).1;have hff:=HFL.out;go_simp;try (with_reducible rfl))
   try simp only [Act.put,sl2,sl0,sl1]
   refine zt 7 (.slice (some ⟨g3,o3,none⟩) c cap3) rfl ?_ ?_
   ·(intro W hSw;have x1:=(hSw.cell (p:=⟨g3,o3 + i,none⟩) hg3).trans (HA3.out i hlt).1;have hff:=HFL.out;go_simp;try (with_reducible rfl))
   try simp only [Act.put,sl2,sl0,sl1]
   refine zt 8 (.int .i64 i) rfl ?_ ?_
   ·(intro W hSw;have x1:=(hSw.cell (p:=⟨g3,o3 + i,none⟩) hg3).trans (HA3.out i hlt).1;have hff:=HFL.out;go_simp;try (with_reducible rfl))
   try simp only [Act.put,sl2,sl0,sl1]
   refine zt 9 (.pointer (some ⟨g3,o3 + i,none⟩)) rfl ?_ ?_
   ·(intro W hSw;have x1:=(hSw.cell (p:=⟨g3,o3 + i,none⟩) hg3).trans (HA3.out i hlt).1;have hff:=HFL.out;go_simp;try (with_reducible rfl))
   try simp only [Act.put,sl2,sl0,sl1]
   refine zt 10 (.int .u64 (F i:Nat)) rfl ?_ ?_
   ·(intro W hSw;have x1:=(hSw.cell (p:=⟨g3,o3 + i,none⟩) hg3).trans (HA3.out i hlt).1;have hff:=HFL.out;go_simp;try (with_reducible rfl))
   try simp only [Act.put,sl2,sl0,sl1]
   refine zt 11 (.int .u64 (G i:Nat)) rfl ?_ ?_
   ·(intro W hSw;have x1:=(hSw.cell (p:=⟨g3,o3 + i,none⟩) hg3).trans (HA3.out i hlt).1;have hff:=HFL.out;go_simp;try (with_reducible rfl))
   try simp only [Act.put,sl2,sl0,sl1]
   refine zr 12 rfl (fun K hK => ?_)
   go_simp
   go_at_call 131
   (with_reducible refine (HLR i _).out.mono ?_)
   rintro e W1 ⟨rfl,hb⟩
   replace hS:=hS.trans (hb.mono hS.size)
   replace HJW:=HJW.call hb
   clear hb
   refine hK.out _ _ hS (fun _ => ?_)
   clear hK K
   try simp only [Act.put,sl2,sl0,sl1]
   refine zt 13 (.pointer (some ⟨w4.heap.size,i,none⟩)) rfl ?_ ?_
   ·(intro W hSw;have x1:=(hSw.cell (p:=⟨g3,o3 + i,none⟩) hg3).trans (HA3.out i hlt).1;have hff:=HFL.out;go_simp;try (with_reducible rfl))
   try simp only [Act.put,sl2,sl0,sl1]
   refine zr 14 rfl (fun K hK => ?_)
   obtain ⟨z0,z1⟩:=HJW.cells hlt
   go_simp
   clear z0 z1
   replace HJW:=HJW.next
   refine hK.out _ _ HJW.2.1 (fun _ => ?_)
   clear hK K
   try simp only [Act.put,sl2,sl0,sl1]
   refine wpAnyH_done (by kernel_rfl) ?_ _
   go_wp2_with fail
   go_roundw
   case rel => exact ⟨i + 1,HLT.out,by go_num,HJW⟩
   case measure => (simp [intOf];have:=HLT.out;omega)
  ·obtain rfl:i=c:=by omega
   have HE:=hid (HI.out.end (Nat.le_refl _))
   have HVR:=HVC _ R wr (RowAt.of_own HE.out.1 hc1) HRF.out
   have hR0:=hR4.below HE.out.2 hnb
   have HB9:=hid (hB4.trans (HE.out.2.mono hB4.size))
   clear HVC HI
   go_wp2_with (go_at_call 129;refine HVR.out.mono ?_;rintro e w9 ⟨rfl,hb9⟩;have HC9:=hid (hR0.call hb9);have HB10:=hid (HB9.out.trans (hb9.mono HB9.out.size));have r0:=(hR0.call hb9).at (k:=0) (v:=.int .i64 0) rfl;have r1:=(hR0.call hb9).at (k:=1) (v:=.int .u64 0) rfl;have r2:=(hR0.call hb9).at (k:=2) (v:=.int .u64 0) rfl;have r3:=(hR0.call hb9).at (k:=3) (v:=.bool false) rfl;have f0:=(hR0.call hb9).free 0;have f1:=(hR0.call hb9).free 1;have f2:=(hR0.call hb9).free 2;have f3:=(hR0.call hb9).free 3;clear hb9)
   refine bodyPost_ret (v:=.agg #[.int .i64 123,.int .u64 (loF n R:Nat),.int .u64 (hiF n R:Nat),.bool false]) ?_ rfl ⟨rfl,(((HB10.out.setCell (p:=⟨w.heap.size + 1,0,none⟩) (Nat.le_succ _) _).setCell (p:=⟨w.heap.size + 1,1,none⟩) (Nat.le_succ _) _).setCell (p:=⟨w.heap.size + 1,2,none⟩) (Nat.le_succ _) _).setCell (p:=⟨w.heap.size + 1,3,none⟩) (Nat.le_succ _) _⟩
   simp [results,Tryz.results80,go_sem,r0,r1,r2,r3]
end Go.Proofs.YtlhakbkdlgejpaaGreatDoor
namespace Go.Proofs.YtlhakbkdlgejpaaGreatDoor
open Go.RowKit
set_option maxHeartbeats 4000000 in
theorem RDo_vec (op:Int) (h64:64768≤op) (ro:Int) (nm:List UInt8) (tk lv:List UInt8) (fx:Bool) (hr:ofL op=(ro,nm,0,tk,lv,fx)) (hro:0≤ro) (htk:tk.length≤100) (hlv:lv.length≤100) (hlv2:tyL lv=[123])
  (l:List Av) (hT:tyL tk=l.map (·.1)) (hl1:1≤l.length) (hl:l.length≤10) (va:Value) (w:World) (ha:AR w va l) (lo hi:Nat)
  (HD:∀ W,Below w.heap.size w W→Calls Tryz.prog 80 #[rwV (ro,nm,0,tk,lv,fx),.slice none 0 0,va] W fun e w' => e=.returned (vv 123 lo hi false)∧Below W.heap.size W w') :
  Calls Tryz.prog 38 #[.int .i64 op,.slice none 0 0,va] w fun e w' => e=.returned (.tuple #[vv 123 lo hi false,.int .i64 0])∧Below w.heap.size w w':=by
 have HO:=fun W => hid (Of_says op W)
 rw [hr] at HO
 have HT1:=fun W => hid (reftypes_says tk htk W)
 have HT2:=fun W => hid (reftypes_says lv hlv W)
 rw [hlv2] at HT2
 have HDD:=fun W h => hid (HD W h)
 have HT:=hid hT
 have hlen:(tyL tk).length=l.length:=by rw [hT,List.length_map]
 obtain ⟨ga,ca,rfl,hga,hca,hata⟩:=ha
 have HA:=hid hata
 obtain ⟨n,hn⟩:∃ n,n=l.length:=⟨_,rfl⟩
 rw [← hn] at hca hl1 hl hlen ⊢
 rw [← hn] at HDD
 have HN:=hid hn
 have hop:¬ (op < 64768):=by omega
 have hro2:¬ (ro < 0):=by omega
 unfold vv at HDD ⊢
 unfold rwV at HO HDD
 generalize tyL tk=ta at *
 clear hr hlv2 HD hT hata hn h64 hro
 go_enter Tryz.func38,Tryz.ntmps38
 go_upto_region 9 with (first
  | (go_at_call 23;refine (HO _).out.mono ?_;rintro e w1 ⟨rfl,hb1⟩;have HX1:=hid (below_new hb1);clear hb1)
  | (go_at_call 25;(with_reducible refine (HT1 _).out.mono ?_);rintro e w2 ⟨v2,rfl,ho2,hb2⟩;have HO2:=hid ho2;have HX2:=hid (below_new hb2);have m0:=HX2.out.1.at (k:=0) (v:=.int .i64 ro) rfl;have m1:=HX2.out.1.at (k:=1) (v:=.string (str nm)) rfl;have m2:=HX2.out.1.at (k:=2) (v:=.int .i64 0) rfl;have m3:=HX2.out.1.at (k:=3) (v:=.string (str tk)) rfl;have m4:=HX2.out.1.at (k:=4) (v:=.string (str lv)) rfl;have m5:=HX2.out.1.at (k:=5) (v:=.bool fx) rfl;clear hb2 ho2)
  | (go_at_call 25;(with_reducible refine (HT2 _).out.mono ?_);rintro e w3 ⟨v3,rfl,ho3,hb3⟩;have HO3:=hid ho3;have HO2':=hid (own_below HO2.out hb3 (Nat.le_refl _));have HX3:=hid (And.intro (HX2.out.1.call hb3) (HX2.out.2.trans (hb3.mono HX2.out.2.size)));clear m0 m1 m2 m3 m4 m5;have p0:=HX3.out.1.at (k:=0) (v:=.int .i64 ro) rfl;have p1:=HX3.out.1.at (k:=1) (v:=.string (str nm)) rfl;have p2:=HX3.out.1.at (k:=2) (v:=.int .i64 0) rfl;have p3:=HX3.out.1.at (k:=3) (v:=.string (str tk)) rfl;have p4:=HX3.out.1.at (k:=4) (v:=.string (str lv)) rfl;have p5:=HX3.out.1.at (k:=5) (v:=.bool fx) rfl;clear hb3 ho3))
 obtain ⟨g2,c2,rfl⟩:=owned_at HO2'.out (by omega)
 obtain ⟨g3,c3,rfl⟩:∃ g cap,v3=.slice (some ⟨g,0,none⟩) 1 cap:=owned_at HO3.out (Nat.le_refl _)
 have k3:w3.cell? ⟨g3,0,none⟩=some (.int .i64 123):=HO3.out.cellAt 0 (by decide)
 have hg3:g3 < w3.heap.size:=(HO3.out.lt g3 rfl).2
 have hg2:g2 < w3.heap.size:=(HO2'.out.lt g2 rfl).2
 have HTC:Hid (∀ j a,l[j]?=some a→w3.cell? ⟨g2,j,none⟩=some (.int .i64 a.1)):=fun j a hj => by
  have hjl:j < l.length:=(List.getElem?_eq_some_iff.1 hj).1
  rw [HO2'.out.cellAt j (by rw [hlen,HN.out];omega),HT.out]
  simp [ic,hj]
 have hB3:Below w.heap.size w w3:=HX1.out.2.trans (HX3.out.2.mono HX1.out.2.size)
 have hR3:CA w.heap.size #[.int .i64 0,.int .u64 0,.int .u64 0,.bool false] 24 w3:=HX1.out.1.call HX3.out.2
 have HXR:=hid HX3.out.1
 have HB3:=hid hB3
 have HR3:=hid hR3
 have hwg:w.heap.size < w1.heap.size:=HX1.out.1.lt
 generalize w1.heap.size=g8 at *
 rw [hlen]
 have hz:((0:Nat):Int)=0:=rfl
 clear HX1 HX2 HX3 HO2 HO2' HO3 HT hlen hB3 hR3
 go_wp2
 go_loopw [12] (fun vi wr => vi=.int .i64 0∧wr=w3) (fun _ _ => 1)
 case atStart => exact ⟨rfl,rfl⟩
 case round =>
  obtain ⟨rfl,rfl⟩:=hrel
  go_wp2
  go_loopw [13] (fun vi ws => ∃ i:Nat,i≤n∧vi=.int .i64 i∧Hid (Below wr.heap.size wr ws)) (fun vi _ => n - (intOf vi).toNat)
  case atStart => exact ⟨0,Nat.zero_le _,rfl,Below.refl _ _⟩
  case round =>
   obtain ⟨i,hin,rfl,HB⟩:=hrel
   by_cases hlt:i < n
   ·obtain ⟨a,hja⟩:∃ a,l[i]?=some a:=⟨l[i]'(by rw [← HN.out];exact hlt),by simp [← HN.out,hlt]⟩
    obtain ⟨h0,_,_,_⟩:=HA.out i a hja
    have ht0:=HTC.out i a hja
    have e0:=(HB.out.cell (p:=⟨ga,i * 4,none⟩) (Nat.lt_of_lt_of_le hga HB3.out.size)).trans ((HB3.out.cell (p:=⟨ga,i * 4,none⟩) hga).trans h0)
    have e1:=(HB.out.cell (p:=⟨g2,i,none⟩) hg2).trans ht0
    generalize a.1=t at *
    have ett:(t != t)=false:=by simp
    clear h0 ht0 hja
    go_wp2
    go_region
    go_wp2
    go_roundw
    case rel => exact ⟨i + 1,by omega,by go_num,HB.out.drew⟩
    case measure => simp [intOf];omega
   ·obtain rfl:i=n:=by omega
    have hXs:=HXR.out.call HB.out
    have hRs:=HR3.out.call HB.out
    have hBs:=HB3.out.trans (HB.out.mono HB3.out.size)
    have HDW:=HDD wr hBs
    have s0:=hXs.at (k:=0) (v:=.int .i64 ro) rfl
    have s1:=hXs.at (k:=1) (v:=.string (str nm)) rfl
    have s2:=hXs.at (k:=2) (v:=.int .i64 0) rfl
    have s3:=hXs.at (k:=3) (v:=.string (str tk)) rfl
    have s4:=hXs.at (k:=4) (v:=.string (str lv)) rfl
    have s5:=hXs.at (k:=5) (v:=.bool fx) rfl
    have k3':=(HB.out.cell (p:=⟨g3,0,none⟩) hg3).trans k3
    have HRs:=hid hRs
    have HBs:=hid hBs
    have hg3s:g3 < wr.heap.size:=Nat.lt_of_lt_of_le hg3 HB.out.size
    clear hXs hRs hBs
    go_wp2_with (go_at_call 80;refine HDW.out.mono ?_;rintro e w9 ⟨rfl,hb9⟩;have HR9:=hid (HRs.out.call hb9);have HB9:=hid (HBs.out.trans (hb9.mono HBs.out.size));have k9:∀ o,(w9.alloc o).cell? ⟨g3,0,none⟩=some (.int .i64 123):=fun o => by { rw [((Below.refl _ w9).alloc (Nat.le_refl _) o).cell (p:=⟨g3,0,none⟩) (Nat.lt_of_lt_of_le hg3s hb9.size),hb9.cell (p:=⟨g3,0,none⟩) hg3s];exact k3' };have r0:=fun o => (HR9.out.alloc o).at (k:=0) (v:=.int .i64 0) rfl;have r1:=fun o => (HR9.out.alloc o).at (k:=1) (v:=.int .u64 0) rfl;have r2:=fun o => (HR9.out.alloc o).at (k:=2) (v:=.int .u64 0) rfl;have r3:=fun o => (HR9.out.alloc o).at (k:=3) (v:=.bool false) rfl;have f0:=fun o => (HR9.out.alloc o).free 0;have f1:=fun o => (HR9.out.alloc o).free 1;have f2:=fun o => (HR9.out.alloc o).free 2;have f3:=fun o => (HR9.out.alloc o).free 3;clear hb9)
    have hBF:Below w.heap.size w _:=((((HB9.out.alloc HB9.out.size (.cells #[.int .i64 123,.int .u64 (lo:Nat),.int .u64 (hi:Nat),.bool false] 24)).setCell (p:=⟨w.heap.size,0,none⟩) (Nat.le_refl _) (.int .i64 123)).setCell (p:=⟨w.heap.size,1,none⟩) (Nat.le_refl _) (.int .u64 (lo:Nat))).setCell (p:=⟨w.heap.size,2,none⟩) (Nat.le_refl _) (.int .u64 (hi:Nat))).setCell (p:=⟨w.heap.size,3,none⟩) (Nat.le_refl _) (.bool false)
    refine bodyPost_ret (v:=.tuple #[.agg #[.int .i64 123,.int .u64 (lo:Nat),.int .u64 (hi:Nat),.bool false],.int .i64 0]) ?_ rfl ⟨rfl,hBF⟩
    simp [results,Tryz.results38,go_sem,r0,r1,r2,r3]
end Go.Proofs.YtlhakbkdlgejpaaGreatDoor
namespace Go.Proofs.YtlhakbkdlgejpaaGreatDoor
open Go.RowKit
def RELI:List (List UInt8):=[[],[101,113],[110,101],[108,116,95,115],[108,116,95,117],[103,116,95,115],[103,116,95,117],[108,101,95,115],[108,101,95,117],[103,101,95,115],[103,101,95,117]]
def BINI:List (List UInt8):=[[],[97,100,100],[115,117,98],[109,117,108],[],[],[],[],[],[],[],[115,104,108],[115,104,114,95,115],[115,104,114,95,117],[],[],[97,100,100,95,115,97,116,95,115],[97,100,100,95,115,97,116,95,117],[115,117,98,95,115,97,116,95,115],[115,117,98,95,115,97,116,95,117],[109,105,110,95,115],[109,105,110,95,117],[109,97,120,95,115],[109,97,120,95,117],[97,118,103,114,95,117],[113,49,53,109,117,108,114,95,115,97,116,95,115]]
theorem place_at (v:List UInt8) (L:List (List UInt8)) (hL:L.length≤30) (cs:Array Value) (hcs:cs=(sc L).toArray) (n:Nat) (hn:n=L.length) (k:Int) (hk:plL L v 0=k) :
  ∀ (W:World),Calls Tryz.prog 195 #[.string (str v),.slice (some ⟨W.heap.size,0,none⟩) n n] (W.alloc (.cells cs 9)) fun e w' => e=.returned (.int .i64 k)∧(W.alloc (.cells cs 9))=w':=fun W => by
 subst hcs
 rw [← hk]
 exact RPlace_says v L hL _ n hn _ (CA.new W _ 9)
end Go.Proofs.YtlhakbkdlgejpaaGreatDoor
