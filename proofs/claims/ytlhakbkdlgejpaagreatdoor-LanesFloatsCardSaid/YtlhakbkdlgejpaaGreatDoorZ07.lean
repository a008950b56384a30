/-
  LOps, LAgree, LAgree2, LAwakeB, LAwakeC, LFLane, LFBase, LFMath, LFBin, LawFloats: merged, what the laws do not reach left out (each text says what it holds where it lies in wip). No condition.
-/
import Derived.Test.YtlhakbkdlgejpaaGreatDoorZ05
import Derived.Test.YtlhakbkdlgejpaaGreatDoorZ06
import Derived.Deep.DeepCutAuto
import Derived.Deep.RegionHeld3
import Derived.Test.YtlhakbkdlgejpaaGreatDoorZ03
import Derived.Test.YtlhakbkdlgejpaaGreatDoorX16
import Derived.Test.YtlhakbkdlgejpaaGreatDoorX23
import Derived.Test.YtlhakbkdlgejpaaGreatDoorX19
import Derived.Test.YtlhakbkdlgejpaaGreatDoorX21
import Derived.Test.YtlhakbkdlgejpaaGreatDoorX22
import Derived.Test.YtlhakbkdlgejpaaGreatDoorX01
set_option linter.unusedSimpArgs false
set_option linter.unusedVariables false
set_option maxRecDepth 100000
namespace Go.Proofs.YtlhakbkdlgejpaaGreatDoor
open Go.RowKit
noncomputable def nmL (op:Int):List UInt8:=(lineL op).1.toList
noncomputable def chkC (two:Bool) (op:Int):Bool :=
 knB (lineL op) && decide (64768≤op) && decide (op < 65024) && ((lineL op).2.1 == 0) && (laL op == (if two then [123,123] else [123])) && (lbL op == [123]) && eachV (verbL (nmL op)) && decide ((nmL op).length≤1000) && ((xsL (nmL op)).2 == 0) &&
 decide (Okn (toL (nmL op)).2.toNat) && ((toL (nmL op)).2 == (((toL (nmL op)).2.toNat:Nat):Int)) && !(verbL (nmL op) == [110,111,116]) && !(verbL (nmL op) == [97,110,100,110,111,116]) &&
 decide (0≤(ofL op).1) && ((ofL op).2.1 == nmL op) && ((ofL op).2.2.1 == 0) && decide ((ofL op).2.2.2.1.length≤100) && decide ((ofL op).2.2.2.2.1.length≤100) && (tyL (ofL op).2.2.2.1 == (if two then [123,123] else [123])) && (tyL (ofL op).2.2.2.2.1 == [123]) &&
 (biL (headC (nmL op) 46) == (toL (nmL op)).2) && !(tailC (nmL op) 46 == [115,112,108,97,116]) && !(tailC (nmL op) 46 == [115,119,105,122,122,108,101]) && !(tailC (nmL op) 46 == [97,108,108,95,116,114,117,101]) && !(tailC (nmL op) 46 == [98,105,116,109,97,115,107]) && noSh 10 (tailC (nmL op) 46)
noncomputable def chkI (op:Int):Bool:=((toL (nmL op)).1 == false) && ((headC (nmL op) 46).headD 0 == 105) && decide (1≤(headC (nmL op) 46).length)
noncomputable def chkBin (op:Int):Bool:=chkC true op && chkI op && (swL IU (verbL (nmL op)) == 0) && (swL (IR (sgL (nmL op))) (verbL (nmL op)) == 0) && (plL RELI (tailC (nmL op) 46) 0 == -1) && (plL BINI (tailC (nmL op) 46) 0 == swL (IB (sgL (nmL op))) (verbL (nmL op))) &&
 !(tailC (nmL op) 46 == [97,98,115]) && !(tailC (nmL op) 46 == [110,101,103]) && !(tailC (nmL op) 46 == [112,111,112,99,110,116])
end Go.Proofs.YtlhakbkdlgejpaaGreatDoor
namespace Go.Proofs.YtlhakbkdlgejpaaGreatDoor
open Go.RowKit
theorem toN_lt (n:Nat) (z:Int):toN n z < 2 ^ n:=by
 unfold toN
 have h:(0:Int) < ((2 ^ n:Nat):Int):=by exact_mod_cast Nat.two_pow_pos n
 have h1:=Int.emod_nonneg z (Int.ne_of_gt h)
 have h2:=Int.emod_lt_of_pos z h
 omega
theorem divR_lt {n:Nat} (op a b:Nat) (ha:a < 2 ^ n) (hb:b < 2 ^ n):(divR n op a b).1 < 2 ^ n:=by
 have h0:=Nat.two_pow_pos n
 have ht:=toN_lt n
 have h1:a / b < 2 ^ n:=Nat.lt_of_le_of_lt (Nat.div_le_self _ _) ha
 have h2:a % b < 2 ^ n:=Nat.lt_of_le_of_lt (Nat.mod_le _ _) ha
 have h3:=ht ((sg n a).tmod (sg n b))
 have h4:=ht ((sg n a).tdiv (sg n b))
 unfold divR
 generalize toN n ((sg n a).tmod (sg n b))=t1 at *
 generalize toN n ((sg n a).tdiv (sg n b))=t2 at *
 generalize a / b=t3 at *
 generalize a % b=t4 at *
 by_cases c0:b=0
 ·rw [if_pos c0];exact h0
 rw [if_neg c0]
 by_cases c1:op=5
 ·rw [if_pos c1];exact h1
 rw [if_neg c1]
 by_cases c2:op=7
 ·rw [if_pos c2];exact h2
 rw [if_neg c2]
 by_cases c3:op=6
 ·rw [if_pos c3];exact h3
 rw [if_neg c3]
 by_cases c4:a=2 ^ (n - 1)∧b=2 ^ n - 1
 ·rw [if_pos c4];exact h0
 rw [if_neg c4];exact h4
theorem shiftR_lt {n:Nat} (op a k:Nat) (ha:a < 2 ^ n):shiftR n op a k < 2 ^ n:=by
 have h0:=Nat.two_pow_pos n
 have hm:∀ x:Nat,x % 2 ^ n < 2 ^ n:=fun x => Nat.mod_lt _ h0
 have ht:=toN_lt n
 unfold shiftR
 by_cases c0:op=11
 ·rw [if_pos c0];exact hm _
 rw [if_neg c0]
 by_cases c1:op=12
 ·rw [if_pos c1];exact ht _
 rw [if_neg c1]
 by_cases c2:op=13
 ·rw [if_pos c2];exact Nat.lt_of_le_of_lt (Nat.div_le_self _ _) ha
 rw [if_neg c2]
 by_cases c3:op=14
 ·rw [if_pos c3];exact hm _
 rw [if_neg c3];exact hm _
theorem satR_lt {n:Nat} (op a b:Nat) (ha:a < 2 ^ n) (hb:b < 2 ^ n):satR n op a b < 2 ^ n:=by
 have h0:=Nat.two_pow_pos n
 have ht:=toN_lt n
 unfold satR
 by_cases c0:op=16
 ·rw [if_pos c0];exact ht _
 rw [if_neg c0]
 by_cases c1:op=18
 ·rw [if_pos c1];exact ht _
 rw [if_neg c1]
 by_cases c2:op=17
 ·rw [if_pos c2]
  by_cases c3:2 ^ n - 1 < a + b
  ·rw [if_pos c3];omega
  ·rw [if_neg c3];omega
 rw [if_neg c2];omega
theorem mmR_lt {n:Nat} (op a b:Nat) (ha:a < 2 ^ n) (hb:b < 2 ^ n):mmR n op a b < 2 ^ n:=by
 unfold mmR
 by_cases c0:op=20
 ·rw [if_pos c0];split <;> assumption
 rw [if_neg c0]
 by_cases c1:op=22
 ·rw [if_pos c1];split <;> assumption
 rw [if_neg c1]
 by_cases c2:op=21
 ·rw [if_pos c2];split <;> assumption
 rw [if_neg c2];split <;> assumption
theorem binR_lt {n:Nat} (hn:Okn n) (op a b:Nat) (ha:a < 2 ^ n) (hb:b < 2 ^ n):(binR n op a b).1 < 2 ^ n:=by
 have h0:=Nat.two_pow_pos n
 have hm:∀ x:Nat,x % 2 ^ n < 2 ^ n:=fun x => Nat.mod_lt _ h0
 have ht:=toN_lt n
 unfold binR
 by_cases c1:op=1
 ·rw [if_pos c1];exact hm _
 rw [if_neg c1]
 by_cases c2:op=2
 ·rw [if_pos c2];exact hm _
 rw [if_neg c2]
 by_cases c3:op=3
 ·rw [if_pos c3];exact hm _
 rw [if_neg c3]
 by_cases c4:op≤7
 ·rw [if_pos c4];exact divR_lt _ _ _ ha hb
 rw [if_neg c4]
 by_cases c5:op=8
 ·rw [if_pos c5];exact Nat.and_lt_two_pow _ hb
 rw [if_neg c5]
 by_cases c6:op=9
 ·rw [if_pos c6];exact Nat.or_lt_two_pow ha hb
 rw [if_neg c6]
 by_cases c7:op=10
 ·rw [if_pos c7];exact Nat.xor_lt_two_pow ha hb
 rw [if_neg c7]
 by_cases c8:op≤15
 ·rw [if_pos c8];exact shiftR_lt _ _ _ ha
 rw [if_neg c8]
 by_cases c9:op≤19
 ·rw [if_pos c9];exact satR_lt _ _ _ ha hb
 rw [if_neg c9]
 by_cases c10:op≤23
 ·rw [if_pos c10];exact mmR_lt _ _ _ ha hb
 rw [if_neg c10]
 by_cases c11:op=24
 ·rw [if_pos c11];show (a + b + 1) / 2 < 2 ^ n;omega
 rw [if_neg c11];exact ht _
theorem binA_lt (n:Nat) (hn:Okn n) (k:Int) (x y:Nat):(binA n k x y).1 < 18446744073709551616:=by
 have h64:2 ^ n≤18446744073709551616:=(pow_lt64 hn).2.2.1
 unfold binA
 split
 ·exact Nat.lt_of_lt_of_le (binR_lt (by simpa using hn) _ _ _ (Nat.mod_lt _ (Nat.two_pow_pos _)) (Nat.mod_lt _ (Nat.two_pow_pos _))) h64
 ·decide
theorem ix_str (b:UInt8) (t:List UInt8) (W:World):(Instr.index 9 (.string (str (b :: t))) (.int .i64 0)).run Tryz.prog W=.ok (.int .u8 b.toNat) W:=by
 simp [Instr.index,asIntOf,run_underlying Tryz.underlying9,str]
 rfl
end Go.Proofs.YtlhakbkdlgejpaaGreatDoor
namespace Go.Proofs.YtlhakbkdlgejpaaGreatDoor
open Go.RowKit
structure PC (two:Bool) (op:Int) (n:Nat) (vb:List UInt8) (sg:Bool) (sh what nm:List UInt8) (ro:Int) (tk lv:List UInt8) (fx:Bool):Prop where
 kn:knB (lineL op)=true
 lo:64768≤op
 hi:op < 65024
 im:(lineL op).2.1=0
 la:laL op=(if two then [123,123] else [123])
 lb:lbL op=[123]
 ea:eachV vb=true
 len:nm.length≤1000
 xs:((xsL nm).2 == 0)=true
 okn:Okn n
 n0:(vb == [110,111,116])=false
 n1:(vb == [97,110,100,110,111,116])=false
 ro0:0≤ro
 of:ofL op=(ro,nm,0,tk,lv,fx)
 tk1:tk.length≤100
 lv1:lv.length≤100
 tk2:tyL tk=(if two then [123,123] else [123])
 lv2:tyL lv=[123]
 bi:biL sh=n
 w0:(what == [115,112,108,97,116])=false
 w1:(what == [115,119,105,122,122,108,101])=false
 w2:(what == [97,108,108,95,116,114,117,101])=false
 w3:(what == [98,105,116,109,97,115,107])=false
 ns:noSh 10 what=true
 par:parV nm=insV vb false n false n sg
 nm1:(lineL op).1=str nm
 shE:headC nm 46=sh
 whE:tailC nm 46=what
 ix:∀ W,(Instr.index 9 (.string (str sh)) (.int .i64 0)).run Tryz.prog W=.ok (.int .u8 105) W
theorem PC_of (two:Bool) (op:Int) (h:chkC two op=true) (h':chkI op=true) :
  ∃ n ro tk lv fx,PC two op n (verbL (nmL op)) (sgL (nmL op)) (headC (nmL op) 46) (tailC (nmL op) 46) (nmL op) ro tk lv fx:=by
 unfold chkC at h
 unfold chkI at h'
 have e1:(lineL op).1=str (nmL op):=(list_str _).symm
 generalize nmL op=nm at *
 obtain ⟨⟨ro,nm',im,tk,lv,fx⟩,hr⟩:∃ r,ofL op=r:=⟨_,rfl⟩
 rw [hr] at h
 obtain ⟨n,hn⟩:∃ n,n=(toL nm).2.toNat:=⟨_,rfl⟩
 rw [← hn] at h
 simp only [Bool.and_eq_true,decide_eq_true_eq,beq_iff_eq,Bool.not_eq_true'] at h h'
 obtain ⟨⟨⟨⟨⟨⟨⟨⟨⟨⟨⟨⟨⟨⟨⟨⟨⟨⟨⟨⟨⟨⟨⟨⟨⟨a1,a2⟩,a3⟩,a4⟩,a5⟩,a6⟩,a7⟩,a8⟩,a9⟩,a10⟩,a11⟩,a12⟩,a13⟩,b1⟩,b2⟩,b3⟩,b4⟩,b5⟩,b6⟩,b7⟩,c1⟩,c2⟩,c3⟩,c4⟩,c5⟩,c6⟩:=h
 obtain ⟨⟨d1,d2⟩,d3⟩:=h'
 subst b2
 subst b3
 have x0:((xsL nm').2 == 0)=true:=by rw [a9];rfl
 refine ⟨n,ro,tk,lv,fx,a1,a2,a3,a4,a5,a6,a7,a8,x0,a10,a12,a13,b1,hr,b4,b5,b6,b7,by rw [c1,a11],c2,c3,c4,c5,c6,?_,e1,rfl,rfl,?_⟩
 ·unfold parV
  have hf:fromL nm'=toL nm':=by unfold fromL;rw [if_pos x0]
  rw [hf,d1,a11]
 ·cases hc:headC nm' 46 with
  | nil => rw [hc] at d3;simp at d3
  | cons b t =>
   rw [hc] at d2
   obtain rfl:b=105:=d2
   exact fun W => ix_str 105 t W
end Go.Proofs.YtlhakbkdlgejpaaGreatDoor
namespace Go.Proofs.YtlhakbkdlgejpaaGreatDoor
open Go.RowKit
theorem Two_add:Two 108 8 1 (fun x y => (binA 8 1 x y).1):=fun x y W hx hy => by
 have hh:Okn ((8:Int)).toNat:=.inl rfl
 have H:=Bin_1 8 (.inl rfl) x y hx hy W
 have e:binA 8 1 x y=binR 8 1 (x % 2 ^ 8) (y % 2 ^ 8):=by rw [binA,if_pos ⟨hh,by decide,by decide,fun h => by cases h⟩];rfl
 show Calls Tryz.prog 108 _ _ fun e w' => (∃ c:Int,e=.returned (.tuple #[.int .u64 ((binA 8 1 x y).1:Nat),.int .i64 c]))∧_
 rw [e]
 exact H.mono fun e w' ⟨he,hw⟩ => ⟨⟨_,he⟩,hw ▸ Below.refl _ _⟩
theorem bin64878:chkBin 64878=true:=by kernel_rfl
theorem name64878:nmL 64878=[105,56,120,49,54,46,97,100,100]:=by kernel_rfl
theorem Do_awake (w:World) (hg:Glob w) (va:Value) (ha:AR w va [(123,14468034567615334600,14468034567615334600,false),(123,100,56,false)]) :
  Calls Tryz.prog 20 #[.int .i64 64878,.slice none 0 0,va] w fun e w' => e=.returned (.tuple #[vv 123 14468034567615334444 14468034567615334400 false,.int .i64 0])∧Below w.heap.size w w':=by
 have h:=bin64878
 unfold chkBin at h
 simp only [Bool.and_eq_true,Bool.not_eq_true'] at h
 obtain ⟨⟨⟨⟨⟨⟨⟨⟨hc,hi⟩,u0⟩,u1⟩,u2⟩,u3⟩,v0⟩,v1⟩,v2⟩:=h
 obtain ⟨n,ro,tk,lv,fx,P⟩:=PC_of true 64878 hc hi
 have hbi:=P.bi
 rw [name64878] at P u0 u1 u3 hbi
 have hn:n=8:=by
  have e:biL (headC [105,56,120,49,54,46,97,100,100] 46)=8:=by decide +kernel
  rw [e] at hbi;omega
 subst hn
 have e1:verbL [105,56,120,49,54,46,97,100,100]=[97,100,100]:=by decide +kernel
 have e2:sgL [105,56,120,49,54,46,97,100,100]=false:=by decide +kernel
 rw [e1,e2] at P
 have H:=Do_each2 64878 [105,56,120,49,54,46,97,100,100] [97,100,100] 8 P.okn false false 0 false P.nm1 P.par P.len (fun hx => by rw [P.xs] at hx;cases hx) P.lo P.kn P.im P.la P.lb P.ea (fun x y => (binA 8 1 x y).1)
  (fun W => operation_bin_i [97,100,100] false 8 8 false 1 (by decide +kernel) (by decide +kernel) (by decide +kernel) _ Two_add P.n0 P.n1 W) (fun x y _ _ => binA_lt 8 P.okn 1 x y) 14468034567615334600 14468034567615334600 100 56 false false (by decide) (by decide) (by decide) (by decide) w hg va ha
 have x1:loF 8 (fun i => (binA 8 1 (splitF 8 14468034567615334600 14468034567615334600 i) (splitF 8 100 56 i)).1)=14468034567615334444:=by decide +kernel
 have x2:hiF 8 (fun i => (binA 8 1 (splitF 8 14468034567615334600 14468034567615334600 i) (splitF 8 100 56 i)).1)=14468034567615334400:=by decide +kernel
 rw [x1,x2] at H
 exact H
end Go.Proofs.YtlhakbkdlgejpaaGreatDoor
namespace Go.Proofs.YtlhakbkdlgejpaaGreatDoor
open Go.RowKit
theorem and_1023 (a:Int):∃ K:Nat,K≤1023∧bits .and .i64 a 1023=(K:Int):=by
 refine ⟨(BitVec.ofInt 64 a).toNat &&& 1023,Nat.and_le_right,?_⟩
 have hle:(BitVec.ofInt 64 a).toNat &&& 1023≤1023:=Nat.and_le_right
 have e2:BitVec.toNat (BitVec.ofInt 64 1023)=1023:=by decide
 show IntKind.i64.wrap ((BitVec.ofInt 64 a &&& BitVec.ofInt 64 1023).toNat:Int)=_
 rw [BitVec.toNat_and,e2,IntKind.wrap_i64]
 generalize (BitVec.ofInt 64 a).toNat &&& 1023=q at *
 omega
theorem row16 (w:World):RowAt (w.alloc (.cells #[.int .u64 200,.int .u64 200,.int .u64 200,.int .u64 200,.int .u64 200,.int .u64 200,.int .u64 200,.int .u64 200,.int .u64 200,.int .u64 200,.int .u64 200,.int .u64 200,.int .u64 200,.int .u64 200,.int .u64 200,.int .u64 200] 22)) (.slice (some ⟨w.heap.size,0,none⟩) 16 16) 16 (fun _ => 200):=by
 have h:=CA.new w #[.int .u64 200,.int .u64 200,.int .u64 200,.int .u64 200,.int .u64 200,.int .u64 200,.int .u64 200,.int .u64 200,.int .u64 200,.int .u64 200,.int .u64 200,.int .u64 200,.int .u64 200,.int .u64 200,.int .u64 200,.int .u64 200] 22
 refine ⟨_,0,16,rfl,h.lt,Nat.le_refl _,fun j hj => ?_⟩
 rw [Nat.zero_add]
 refine ⟨h.at (k:=j) ?_,h.free j⟩
 rcases (show j=0 ∨ j=1 ∨ j=2 ∨ j=3 ∨ j=4 ∨ j=5 ∨ j=6 ∨ j=7 ∨ j=8 ∨ j=9 ∨ j=10 ∨ j=11 ∨ j=12 ∨ j=13 ∨ j=14 ∨ j=15 by omega) with rfl | rfl | rfl | rfl | rfl | rfl | rfl | rfl | rfl | rfl | rfl | rfl | rfl | rfl | rfl | rfl <;> rfl
theorem ar_two (w:World) (alo ahi blo bhi:Nat) (T:TypeId):AR (w.alloc (.cells #[.int .i64 123,.int .u64 (alo:Nat),.int .u64 (ahi:Nat),.bool false,.int .i64 123,.int .u64 (blo:Nat),.int .u64 (bhi:Nat),.bool false] T)) (.slice (some ⟨w.heap.size,0,none⟩) 2 2) [(123,alo,ahi,false),(123,blo,bhi,false)]:=by
 have h:=CA.new w #[.int .i64 123,.int .u64 (alo:Nat),.int .u64 (ahi:Nat),.bool false,.int .i64 123,.int .u64 (blo:Nat),.int .u64 (bhi:Nat),.bool false] T
 refine ⟨_,2,rfl,h.lt,Nat.le_refl _,fun j c hj => ?_⟩
 match j,hj with
 | 0,hj =>
  obtain rfl:(123,alo,ahi,false)=c:=by simpa using hj
  exact ⟨h.at (k:=0) rfl,h.at (k:=1) rfl,h.at (k:=2) rfl,h.at (k:=3) rfl⟩
 | 1,hj =>
  obtain rfl:(123,blo,bhi,false)=c:=by simpa using hj
  exact ⟨h.at (k:=4) rfl,h.at (k:=5) rfl,h.at (k:=6) rfl,h.at (k:=7) rfl⟩
 | j + 2,hj => simp at hj
set_option maxHeartbeats 4000000 in
theorem awake_says (w:World) (hg:Glob w):Calls Tryz.prog 19 #[] w fun e w' => e=.returned (.bool true)∧Below w.heap.size w w':=by
 have HS:∀ W,Hid (Calls Tryz.prog 28 #[.int .i64 32,.agg #[.int .i64 0,.int .u64 4294967297,.int .u64 3,.bool false]] W (LPost W 4 (splitF 32 4294967297 3))):=fun W => hid (Split_says 32 (by right;right;left;rfl) 0 4294967297 3 false (by decide) (by decide) W)
 have hJ1:loF 8 (fun _ => 200)=14468034567615334600:=by decide +kernel
 have hJ2:hiF 8 (fun _ => 200)=14468034567615334600:=by decide +kernel
 have HJ:∀ W v,RowAt W v 16 (fun _ => 200)→Hid (Calls Tryz.prog 29 #[.int .i64 8,v] W fun e w' => e=.returned (.tuple #[.agg #[.int .i64 123,.int .u64 14468034567615334600,.int .u64 14468034567615334600,.bool false],.int .i64 0])∧Below W.heap.size W w'):=fun W v h => by
  have H:=Join_says 8 (by left;rfl) v (fun _ => 200) W h (fun _ _ => by decide)
  rw [hJ1,hJ2] at H
  exact hid H
 have HD:∀ W,Glob W→∀ va,AR W va [(123,14468034567615334600,14468034567615334600,false),(123,100,56,false)]→Hid (Calls Tryz.prog 20 #[.int .i64 64878,.slice none 0 0,va] W fun e w' => e=.returned (.tuple #[.agg #[.int .i64 123,.int .u64 14468034567615334444,.int .u64 14468034567615334400,.bool false],.int .i64 0])∧Below W.heap.size W w'):=fun W h va ha => hid (Do_awake W h va ha)
 have HL:∀ vi va W,Hid (Calls Tryz.prog 20 #[.int .i64 106,vi,va] W fun e w' => e=.returned (.tuple #[.agg #[.int .i64 0,.int .u64 0,.int .u64 0,.bool false],.int .i64 1])∧Below W.heap.size W w'):=fun vi va W => hid (Do_low 106 (by decide) vi va W)
 have HG:=hid hg
 clear hJ1 hJ2 hg
 go_enter Tryz.func19,Tryz.ntmps19
 go_upto_region 2 with (go_at_call 28;(with_reducible refine (HS _).out.mono ?_);rintro e w1 ⟨v1,rfl,ho1,hb1⟩;have HO1:=hid ho1;have HB1:=hid hb1;clear ho1 hb1)
 obtain ⟨g1,c1,rfl⟩:∃ g cap,v1=.slice (some ⟨g,0,none⟩) 4 cap:=owned_at HO1.out (by decide)
 have k0:w1.cell? ⟨g1,0,none⟩=some (.int .u64 1):=HO1.out.cellAt 0 (by decide)
 have k2:w1.cell? ⟨g1,2,none⟩=some (.int .u64 3):=HO1.out.cellAt 2 (by decide)
 have hg1:g1 < w1.heap.size:=(HO1.out.lt g1 rfl).2
 clear HO1 HS
 have HJ1:=HJ _ _ (row16 w1)
 clear HJ
 go_upto_region 3 with (go_at_call 29;(with_reducible refine HJ1.out.mono ?_);rintro e w2 ⟨rfl,hb2⟩;have HN2:=hid (below_new hb2);clear hb2)
 have hB2:Below w.heap.size w w2:=HB1.out.trans (HN2.out.2.mono HB1.out.size)
 have k02:=(HN2.out.2.cell (p:=⟨g1,0,none⟩) hg1).trans k0
 have k22:=(HN2.out.2.cell (p:=⟨g1,2,none⟩) hg1).trans k2
 have hg2:g1 < w2.heap.size:=Nat.lt_of_lt_of_le hg1 HN2.out.2.size
 have HG3:=hid (HG.out.next (hB2.alloc hB2.size (.cells #[.int .i64 123,.int .u64 14468034567615334600,.int .u64 14468034567615334600,.bool false] 24)))
 have HB3:=hid (hB2.alloc hB2.size (.cells #[.int .i64 123,.int .u64 14468034567615334600,.int .u64 14468034567615334600,.bool false] 24))
 have hC3:=CA.new w2 #[.int .i64 123,.int .u64 14468034567615334600,.int .u64 14468034567615334600,.bool false] 24
 have k03:=(((Below.refl _ w2).alloc (Nat.le_refl _) (.cells #[.int .i64 123,.int .u64 14468034567615334600,.int .u64 14468034567615334600,.bool false] 24)).cell (p:=⟨g1,0,none⟩) hg2).trans k02
 have k23:=(((Below.refl _ w2).alloc (Nat.le_refl _) (.cells #[.int .i64 123,.int .u64 14468034567615334600,.int .u64 14468034567615334600,.bool false] 24)).cell (p:=⟨g1,2,none⟩) hg2).trans k22
 have hg3:g1 < (w2.alloc (.cells #[.int .i64 123,.int .u64 14468034567615334600,.int .u64 14468034567615334600,.bool false] 24)).heap.size:=by rw [size_al];omega
 generalize w2.alloc (.cells #[.int .i64 123,.int .u64 14468034567615334600,.int .u64 14468034567615334600,.bool false] 24)=W3 at *
 generalize w2.heap.size=g2 at *
 clear k0 k2 k02 k22 hg1 hg2 HN2 hB2 HJ1 HB1
 have a0:=hC3.at (k:=0) (v:=.int .i64 123) rfl
 have a1:=hC3.at (k:=1) (v:=.int .u64 14468034567615334600) rfl
 have a2:=hC3.at (k:=2) (v:=.int .u64 14468034567615334600) rfl
 have a3:=hC3.at (k:=3) (v:=.bool false) rfl
 have HD1:=HD _ (HG.out.next (HB3.out.alloc HB3.out.size (.cells #[.int .i64 123,.int .u64 14468034567615334600,.int .u64 14468034567615334600,.bool false,.int .i64 123,.int .u64 100,.int .u64 56,.bool false] 24))) _ (ar_two W3 14468034567615334600 14468034567615334600 100 56 24)
 have HBB:=hid (HB3.out.alloc HB3.out.size (.cells #[.int .i64 123,.int .u64 14468034567615334600,.int .u64 14468034567615334600,.bool false,.int .i64 123,.int .u64 100,.int .u64 56,.bool false] 24))
 have kk:=fun o => (((Below.refl _ W3).alloc (Nat.le_refl _) o).cell (p:=⟨g1,0,none⟩) hg3).trans k03
 have kk2:=fun o => (((Below.refl _ W3).alloc (Nat.le_refl _) o).cell (p:=⟨g1,2,none⟩) hg3).trans k23
 have hsz3:∀ o,g1 < (W3.alloc o).heap.size:=fun o => by rw [size_al];omega
 clear HD
 go_upto_region 4 with (go_at_call 20;(with_reducible refine HD1.out.mono ?_);rintro e w4 ⟨rfl,hb4⟩;have HN4:=hid hb4;clear hb4)
 have HB4:=hid (HBB.out.trans (HN4.out.mono HBB.out.size))
 have p0:=(HN4.out.cell (p:=⟨g1,0,none⟩) (hsz3 _)).trans (kk _)
 have p2:=(HN4.out.cell (p:=⟨g1,2,none⟩) (hsz3 _)).trans (kk2 _)
 have hg4:g1 < w4.heap.size:=Nat.lt_of_lt_of_le (hsz3 _) HN4.out.size
 have HB5:=hid (HB4.out.alloc HB4.out.size (.cells #[.int .i64 123,.int .u64 14468034567615334444,.int .u64 14468034567615334400,.bool false] 24))
 have HC5:=hid (CA.new w4 #[.int .i64 123,.int .u64 14468034567615334444,.int .u64 14468034567615334400,.bool false] 24)
 have q0:=(((Below.refl _ w4).alloc (Nat.le_refl _) (.cells #[.int .i64 123,.int .u64 14468034567615334444,.int .u64 14468034567615334400,.bool false] 24)).cell (p:=⟨g1,0,none⟩) hg4).trans p0
 have q2:=(((Below.refl _ w4).alloc (Nat.le_refl _) (.cells #[.int .i64 123,.int .u64 14468034567615334444,.int .u64 14468034567615334400,.bool false] 24)).cell (p:=⟨g1,2,none⟩) hg4).trans p2
 have hg5:g1 < (w4.alloc (.cells #[.int .i64 123,.int .u64 14468034567615334444,.int .u64 14468034567615334400,.bool false] 24)).heap.size:=by rw [size_al];omega
 clear kk kk2 hsz3 HD1 HN4 HBB p0 p2 hg4 k03 k23 a0 a1 a2 a3 hC3 hg3 HB3 HG3
 generalize w4.alloc (.cells #[.int .i64 123,.int .u64 14468034567615334444,.int .u64 14468034567615334400,.bool false] 24)=W5 at *
 generalize w4.heap.size=g4 at *
 clear HB4
 have HL1:=HL (.slice none 0 0) (.slice none 0 0) W5
 clear HL
 go_upto_region 5 with (go_at_call 20;(with_reducible refine HL1.out.mono ?_);rintro e w6 ⟨rfl,hb6⟩;have HN6:=hid hb6;clear hb6)
 have HB6:=hid (HB5.out.trans (HN6.out.mono HB5.out.size))
 have HB7:=hid (HB6.out.alloc HB6.out.size (.cells #[.int .i64 0,.int .u64 0,.int .u64 0,.bool false] 24))
 have HC7:=hid ((HC5.out.call HN6.out).alloc (.cells #[.int .i64 0,.int .u64 0,.int .u64 0,.bool false] 24))
 have r0:=(((Below.refl _ w6).alloc (Nat.le_refl _) (.cells #[.int .i64 0,.int .u64 0,.int .u64 0,.bool false] 24)).cell (p:=⟨g1,0,none⟩) (Nat.lt_of_lt_of_le hg5 HN6.out.size)).trans ((HN6.out.cell (p:=⟨g1,0,none⟩) hg5).trans q0)
 have r2:=(((Below.refl _ w6).alloc (Nat.le_refl _) (.cells #[.int .i64 0,.int .u64 0,.int .u64 0,.bool false] 24)).cell (p:=⟨g1,2,none⟩) (Nat.lt_of_lt_of_le hg5 HN6.out.size)).trans ((HN6.out.cell (p:=⟨g1,2,none⟩) hg5).trans q2)
 clear q0 q2 hg5 HB6 HB5 HC5 HL1 HN6
 generalize w6.alloc (.cells #[.int .i64 0,.int .u64 0,.int .u64 0,.bool false] 24)=W7 at *
 have t0:=HC7.out.at (k:=0) (v:=.int .i64 123) rfl
 have t1:=HC7.out.at (k:=1) (v:=.int .u64 14468034567615334444) rfl
 have t2:=HC7.out.at (k:=2) (v:=.int .u64 14468034567615334400) rfl
 clear HG HC7
 go_upto_region 6 with fail
 go_wp2
 go_ret
 exact ⟨rfl,HB7.out⟩
end Go.Proofs.YtlhakbkdlgejpaaGreatDoor
namespace Go.Proofs.YtlhakbkdlgejpaaGreatDoor
open Go.RowKit
def FBINL:List (List UInt8):=[[],[97,100,100],[115,117,98],[109,117,108],[100,105,118],[109,105,110],[109,97,120],[45],[112,109,105,110],[112,109,97,120]]
theorem place_f (v:List UInt8) (L:List (List UInt8)) (hL:L.length≤30) (cs:Array Value) (hcs:cs=(sc L).toArray) (n:Nat) (hn:n=L.length) (k:Int) (hk:plL L v 0=k) :
  ∀ (W:World),Calls Tryz.prog 195 #[.string (str v),.slice (some ⟨W.heap.size,0,none⟩) n n] (W.alloc (.cells cs 9)) fun e w' => e=.returned (.int .i64 k)∧(W.alloc (.cells cs 9))=w':=fun W => by
 subst hcs
 rw [← hk]
 exact RPlace_says v L hL _ n hn _ (CA.new W _ 9)
set_option maxHeartbeats 4000000 in
theorem RLaneF_bin (n:Nat) (v:List UInt8) (k:Nat) (hk:plL FBINL v 0=k) (hk1:1≤k) (r:Nat) (a b:Nat)
  (HB:∀ W,Calls Tryz.prog 148 #[.int .i64 n,.int .i64 k,.int .u64 a,.int .u64 b] W fun e w' => e=.returned (.tuple #[.int .u64 r,.int .i64 0])∧Below W.heap.size W w') (w:World) :
  Calls Tryz.prog 131 #[.int .i64 n,.bool true,.string (str v),.int .u64 a,.int .u64 b] w fun e w' => e=.returned (.int .u64 r)∧Below w.heap.size w w':=by
 have HP1:=fun W => hid (place_f v FBINL (by decide) #[.string ⟨#[]⟩,.string ⟨#[97,100,100]⟩,.string ⟨#[115,117,98]⟩,.string ⟨#[109,117,108]⟩,.string ⟨#[100,105,118]⟩,.string ⟨#[109,105,110]⟩,.string ⟨#[109,97,120]⟩,.string ⟨#[45]⟩,.string ⟨#[112,109,105,110]⟩,.string ⟨#[112,109,97,120]⟩] rfl 10 rfl k hk W)
 have HBB:=fun W => hid (HB W)
 have hgt:decide ((k:Int) > 0)=true:=decide_eq_true (by omega)
 have hgt':decide ((0:Int) < (k:Int))=true:=decide_eq_true (by omega)
 generalize str v=s at *
 clear hk HB
 go_enter Tryz.func131,Tryz.ntmps131
 go_wp2_with (first
  | (go_at_call 195;(with_reducible refine (HP1 _).out.mono ?_);rintro e w1 ⟨rfl,rfl⟩)
  | (go_at_call 148;refine (HBB _).out.mono ?_;rintro e w2 ⟨rfl,hb2⟩;have HB2:=hid (((Below.refl _ w).alloc (Nat.le_refl _) _).trans (hb2.mono (by simp)));clear hb2))
 go_ret
 exact ⟨rfl,HB2.out⟩
end Go.Proofs.YtlhakbkdlgejpaaGreatDoor
namespace Go.Proofs.YtlhakbkdlgejpaaGreatDoor
open Go.RowKit
noncomputable def chkFl (op:Int):Bool:=((toL (nmL op)).1 == true) && ((headC (nmL op) 46).headD 0 == 102) && decide (1≤(headC (nmL op) 46).length)
noncomputable def n3264 (op:Int):Bool:=((toL (nmL op)).2 == 32) || ((toL (nmL op)).2 == 64)
structure PCF (two:Bool) (op:Int) (n:Nat) (vb:List UInt8) (sg:Bool) (sh what nm:List UInt8) (ro:Int) (tk lv:List UInt8) (fx:Bool):Prop where
 kn:knB (lineL op)=true
 lo:64768≤op
 hi:op < 65024
 im:(lineL op).2.1=0
 la:laL op=(if two then [123,123] else [123])
 lb:lbL op=[123]
 ea:eachV vb=true
 len:nm.length≤1000
 xs:((xsL nm).2 == 0)=true
 okn:Okn n
 n0:(vb == [110,111,116])=false
 n1:(vb == [97,110,100,110,111,116])=false
 ro0:0≤ro
 of:ofL op=(ro,nm,0,tk,lv,fx)
 tk1:tk.length≤100
 lv1:lv.length≤100
 tk2:tyL tk=(if two then [123,123] else [123])
 lv2:tyL lv=[123]
 bi:biL sh=n
 w0:(what == [115,112,108,97,116])=false
 w1:(what == [115,119,105,122,122,108,101])=false
 w2:(what == [97,108,108,95,116,114,117,101])=false
 w3:(what == [98,105,116,109,97,115,107])=false
 ns:noSh 10 what=true
 par:parV nm=insV vb true n true n sg
 nm1:(lineL op).1=str nm
 shE:headC nm 46=sh
 whE:tailC nm 46=what
 ix:∀ W,(Instr.index 9 (.string (str sh)) (.int .i64 0)).run Tryz.prog W=.ok (.int .u8 102) W
theorem PCF_of (two:Bool) (op:Int) (h:chkC two op=true) (h':chkFl op=true) :
  ∃ n ro tk lv fx,PCF two op n (verbL (nmL op)) (sgL (nmL op)) (headC (nmL op) 46) (tailC (nmL op) 46) (nmL op) ro tk lv fx:=by
 unfold chkC at h
 unfold chkFl at h'
 have e1:(lineL op).1=str (nmL op):=(list_str _).symm
 generalize nmL op=nm at *
 obtain ⟨⟨ro,nm',im,tk,lv,fx⟩,hr⟩:∃ r,ofL op=r:=⟨_,rfl⟩
 rw [hr] at h
 obtain ⟨n,hn⟩:∃ n,n=(toL nm).2.toNat:=⟨_,rfl⟩
 rw [← hn] at h
 simp only [Bool.and_eq_true,decide_eq_true_eq,beq_iff_eq,Bool.not_eq_true'] at h h'
 obtain ⟨⟨⟨⟨⟨⟨⟨⟨⟨⟨⟨⟨⟨⟨⟨⟨⟨⟨⟨⟨⟨⟨⟨⟨⟨a1,a2⟩,a3⟩,a4⟩,a5⟩,a6⟩,a7⟩,a8⟩,a9⟩,a10⟩,a11⟩,a12⟩,a13⟩,b1⟩,b2⟩,b3⟩,b4⟩,b5⟩,b6⟩,b7⟩,c1⟩,c2⟩,c3⟩,c4⟩,c5⟩,c6⟩:=h
 obtain ⟨⟨d1,d2⟩,d3⟩:=h'
 subst b2
 subst b3
 have x0:((xsL nm').2 == 0)=true:=by rw [a9];rfl
 refine ⟨n,ro,tk,lv,fx,a1,a2,a3,a4,a5,a6,a7,a8,x0,a10,a12,a13,b1,hr,b4,b5,b6,b7,by rw [c1,a11],c2,c3,c4,c5,c6,?_,e1,rfl,rfl,?_⟩
 ·unfold parV
  have hf:fromL nm'=toL nm':=by unfold fromL;rw [if_pos x0]
  rw [hf,d1,a11]
 ·cases hc:headC nm' 46 with
  | nil => rw [hc] at d3;simp at d3
  | cons b t =>
   rw [hc] at d2
   obtain rfl:b=102:=d2
   exact fun W => ix_str 102 t W
theorem PCF_n (two:Bool) (op:Int) (h:n3264 op=true) (n:Nat) (hn:biL (headC (nmL op) 46)=n) (hc:chkC two op=true):n=32 ∨ n=64:=by
 have e:biL (headC (nmL op) 46)=(toL (nmL op)).2:=by
  unfold chkC at hc
  simp only [Bool.and_eq_true,decide_eq_true_eq,beq_iff_eq,Bool.not_eq_true'] at hc
  obtain ⟨⟨⟨⟨⟨⟨c0,c1⟩,c2⟩,c3⟩,c4⟩,c5⟩,c6⟩:=hc
  exact c1
 unfold n3264 at h
 rw [← e,hn] at h
 simp only [Bool.or_eq_true,beq_iff_eq] at h
 omega
end Go.Proofs.YtlhakbkdlgejpaaGreatDoor
namespace Go.Proofs.YtlhakbkdlgejpaaGreatDoor.Fl
open Go.RowKit
open Ieee
structure Wd (f:Format) (SB:Nat):Prop where
 sb:f.signWeight=SB
 room:f.infRung + f.binade≤SB
theorem wd_single:Wd single 2147483648:=⟨rfl,by decide⟩
theorem wd_double:Wd double 9223372036854775808:=⟨rfl,by decide⟩
theorem binade_pos (f:Format):0 < f.binade:=Nat.two_pow_pos _
theorem word_lt {f:Format} {SB:Nat} (h:Wd f SB) (s:Bool) (r:Nat) (hr:r < SB):f.word s r < 2 * SB:=by
 unfold Format.word
 rw [h.sb]
 split <;> omega
theorem rung_le (f:Format) (n:Nat) (e:Int):rungOf f n e≤f.infRung:=by
 unfold rungOf
 split
 ·exact Nat.zero_le _
 ·exact Nat.min_le_right _ _
theorem wordR_lt {f:Format} {SB:Nat} (h:Wd f SB) (s:Bool) (n:Nat) (e:Int) (b:Bool):f.word s (rungR f n e b) < 2 * SB:=by
 have h1:=h.room
 have h2:=binade_pos f
 have h3:rungR f n e b≤f.infRung:=rung_le f _ _
 exact word_lt h s _ (by omega)
theorem write_lt {f:Format} {SB:Nat} (h:Wd f SB) (d:Datum):f.write d < 2 * SB:=by
 have h1:=h.room
 have h2:=binade_pos f
 cases d with
 | number s m p =>
  show f.nearest s m p < _
  rw [nearest_eq]
  have h3:=rung_le f m p
  exact word_lt h s _ (by omega)
 | infinity s => exact word_lt h s _ (by omega)
 | nan s t => exact word_lt h s _ (by have:=Nat.mod_lt t h2;omega)
theorem map_lt {f:Format} {SB CAN:Nat} (h:Wd f SB) (o:Option Datum) (hc:CAN < 2 * SB):(o.map f.write).getD CAN < 2 * SB:=by
 cases o with
 | none => exact hc
 | some d => exact write_lt h d
theorem sumN_lt {f:Format} {SB:Nat} (h:Wd f SB) (room:Nat) (sx sy:Bool) (mx my:Nat) (ex:Int) (ap:Nat):sumN f room sx sy mx my ex ap < 2 * SB:=by
 unfold sumN
 dsimp only
 split
 ·exact wordR_lt h _ _ _ _
 ·exact wordR_lt h _ _ _ _
theorem sumO_lt {f:Format} {SB INF CAN P:Nat} {low:Int} (h:Wd f SB) (hc:CAN < 2 * SB) (room a b:Nat) (ha:a < 2 * SB):sumO f room SB INF CAN P low a b < 2 * SB:=by
 unfold sumO
 split
 ·split
  ·exact hc
  ·exact ha
 ·exact sumN_lt h _ _ _ _ _ _ _
theorem sumW_lt {f:Format} {SB INF CAN P:Nat} {low:Int} (h:Wd f SB) (hc:CAN < 2 * SB) (room a b:Nat) (ha:a < 2 * SB) (hb:b < 2 * SB):sumW f room SB INF CAN P low a b < 2 * SB:=by
 unfold sumW
 split
 ·exact sumO_lt h hc _ _ _ hb
 ·exact sumO_lt h hc _ _ _ ha
theorem oppN_lt {SB a:Nat} (ha:a < 2 * SB):oppN SB a < 2 * SB:=by
 unfold oppN
 split <;> omega
theorem binW_lt {f:Format} {SB INF CAN P:Nat} {low:Int} (h:Wd f SB) (hc:CAN < 2 * SB) (k:Nat) (hk:SB=2 ^ k) (room op a b:Nat) (ha:a < 2 * SB) (hb:b < 2 * SB):binW f room SB INF CAN P low op a b < 2 * SB:=by
 have hp:2 * SB=2 ^ (k + 1):=by rw [hk,Nat.pow_succ];omega
 have hs:0 < SB:=by rw [hk];exact Nat.two_pow_pos k
 have ha2:a < 2 ^ (k + 1):=by rw [← hp];exact ha
 have hb2:b < 2 ^ (k + 1):=by rw [← hp];exact hb
 have ho:a ||| b < 2 * SB:=by rw [hp];exact Nat.or_lt_two_pow ha2 hb2
 have hn:a &&& b < 2 * SB:=by rw [hp];exact Nat.and_lt_two_pow a hb2
 clear ha2 hb2
 unfold binW
 by_cases c0:op≤6∧nanW SB INF a b=true
 ·rw [if_pos c0];exact hc
 rw [if_neg c0]
 by_cases c1:op=1
 ·rw [if_pos c1];exact sumW_lt h hc _ _ _ ha hb
 rw [if_neg c1]
 by_cases c2:op=2
 ·rw [if_pos c2];exact sumW_lt h hc _ _ _ ha (oppN_lt hb)
 rw [if_neg c2]
 by_cases c3:op=3
 ·rw [if_pos c3];exact map_lt h _ hc
 rw [if_neg c3]
 by_cases c4:op=4
 ·rw [if_pos c4];exact map_lt h _ hc
 rw [if_neg c4]
 by_cases c5:op=5
 ·rw [if_pos c5];split
  ·exact hb
  ·split <;> assumption
 rw [if_neg c5]
 by_cases c6:op=6
 ·rw [if_pos c6];split
  ·exact hb
  ·split <;> assumption
 rw [if_neg c6]
 by_cases c7:op=7
 ·rw [if_pos c7]
  have:=Nat.mod_lt a hs
  split <;> omega
 rw [if_neg c7]
 by_cases c8:op=8
 ·rw [if_pos c8];split <;> assumption
 rw [if_neg c8];split <;> assumption
end Go.Proofs.YtlhakbkdlgejpaaGreatDoor.Fl
namespace Go.Proofs.YtlhakbkdlgejpaaGreatDoor
open Go.RowKit
noncomputable def chkFBin (op:Int):Bool:=chkC true op && chkFl op && n3264 op && (swL FU (verbL (nmL op)) == 0) && (swL FR (verbL (nmL op)) == 0) && decide (1≤swL FB (verbL (nmL op))) && decide (swL FB (verbL (nmL op))≤9) && !(swL FB (verbL (nmL op)) == 7) && (plL FBINL (tailC (nmL op) 46) 0 == swL FB (verbL (nmL op)))
def fB32 (q:Int) (x y:Nat):Nat:=Fl.binW Ieee.single 38 2147483648 2139095040 2143289344 23 (-149) q.toNat (x % 4294967296) (y % 4294967296)
def fB64 (q:Int) (x y:Nat):Nat:=Fl.binW Ieee.double 9 9223372036854775808 9218868437227405312 9221120237041090560 52 (-1074) q.toNat (x % 18446744073709551616) (y % 18446744073709551616)
def RBinF (n:Nat) (q:Int) (f:Nat→Nat→Nat):Prop:=∀ (x y:Nat) (W:World),x < 18446744073709551616→y < 18446744073709551616 →
 Calls Tryz.prog 148 #[.int .i64 n,.int .i64 q,.int .u64 x,.int .u64 y] W fun e w' => e=.returned (.tuple #[.int .u64 (f x y:Nat),.int .i64 0])∧Below W.heap.size W w'
theorem pFB32 (q:Int) (h:q=1 ∨ q=2 ∨ q=3 ∨ q=4 ∨ q=5 ∨ q=6 ∨ q=8 ∨ q=9):Two 111 (32:Nat) q (fB32 q):=fun x y W hx hy => by
 rcases h with rfl | rfl | rfl | rfl | rfl | rfl | rfl | rfl
 ·exact (Fl.Bin_32_1 x y hx hy W).mono fun e w' ⟨he,hb⟩ => ⟨⟨_,he⟩,hb⟩
 ·exact (Fl.Bin_32_2 x y hx hy W).mono fun e w' ⟨he,hb⟩ => ⟨⟨_,he⟩,hb⟩
 ·exact (Fl.Bin_32_3 x y hx hy W).mono fun e w' ⟨he,hb⟩ => ⟨⟨_,he⟩,hb⟩
 ·exact (Fl.Bin_32_4 x y hx hy W).mono fun e w' ⟨he,hb⟩ => ⟨⟨_,he⟩,hb⟩
 ·exact (Fl.Bin_32_5 x y hx hy W).mono fun e w' ⟨he,hb⟩ => ⟨⟨_,he⟩,hb⟩
 ·exact (Fl.Bin_32_6 x y hx hy W).mono fun e w' ⟨he,hb⟩ => ⟨⟨_,he⟩,hb⟩
 ·exact (Fl.Bin_32_8 x y hx hy W).mono fun e w' ⟨he,hb⟩ => ⟨⟨_,he⟩,hb⟩
 ·exact (Fl.Bin_32_9 x y hx hy W).mono fun e w' ⟨he,hb⟩ => ⟨⟨_,he⟩,hb⟩
theorem rFB32 (q:Int) (h:q=1 ∨ q=2 ∨ q=3 ∨ q=4 ∨ q=5 ∨ q=6 ∨ q=8 ∨ q=9):RBinF 32 q (fB32 q):=fun x y W hx hy => by
 rcases h with rfl | rfl | rfl | rfl | rfl | rfl | rfl | rfl
 ·exact (Fl.RBin_32_1 x y hx hy W).mono fun e w' ⟨he,hb⟩ => ⟨he,hb⟩
 ·exact (Fl.RBin_32_2 x y hx hy W).mono fun e w' ⟨he,hb⟩ => ⟨he,hb⟩
 ·exact (Fl.RBin_32_3 x y hx hy W).mono fun e w' ⟨he,hb⟩ => ⟨he,hb⟩
 ·exact (Fl.RBin_32_4 x y hx hy W).mono fun e w' ⟨he,hb⟩ => ⟨he,hb⟩
 ·exact (Fl.RBin_32_5 x y hx hy W).mono fun e w' ⟨he,hb⟩ => ⟨he,hb⟩
 ·exact (Fl.RBin_32_6 x y hx hy W).mono fun e w' ⟨he,hb⟩ => ⟨he,hb⟩
 ·exact (Fl.RBin_32_8 x y hx hy W).mono fun e w' ⟨he,hb⟩ => ⟨he,hb⟩
 ·exact (Fl.RBin_32_9 x y hx hy W).mono fun e w' ⟨he,hb⟩ => ⟨he,hb⟩
theorem pFB64 (q:Int) (h:q=1 ∨ q=2 ∨ q=3 ∨ q=4 ∨ q=5 ∨ q=6 ∨ q=8 ∨ q=9):Two 111 (64:Nat) q (fB64 q):=fun x y W hx hy => by
 rcases h with rfl | rfl | rfl | rfl | rfl | rfl | rfl | rfl
 ·exact (Fl.Bin_64_1 x y hx hy W).mono fun e w' ⟨he,hb⟩ => ⟨⟨_,he⟩,hb⟩
 ·exact (Fl.Bin_64_2 x y hx hy W).mono fun e w' ⟨he,hb⟩ => ⟨⟨_,he⟩,hb⟩
 ·exact (Fl.Bin_64_3 x y hx hy W).mono fun e w' ⟨he,hb⟩ => ⟨⟨_,he⟩,hb⟩
 ·exact (Fl.Bin_64_4 x y hx hy W).mono fun e w' ⟨he,hb⟩ => ⟨⟨_,he⟩,hb⟩
 ·exact (Fl.Bin_64_5 x y hx hy W).mono fun e w' ⟨he,hb⟩ => ⟨⟨_,he⟩,hb⟩
 ·exact (Fl.Bin_64_6 x y hx hy W).mono fun e w' ⟨he,hb⟩ => ⟨⟨_,he⟩,hb⟩
 ·exact (Fl.Bin_64_8 x y hx hy W).mono fun e w' ⟨he,hb⟩ => ⟨⟨_,he⟩,hb⟩
 ·exact (Fl.Bin_64_9 x y hx hy W).mono fun e w' ⟨he,hb⟩ => ⟨⟨_,he⟩,hb⟩
theorem rFB64 (q:Int) (h:q=1 ∨ q=2 ∨ q=3 ∨ q=4 ∨ q=5 ∨ q=6 ∨ q=8 ∨ q=9):RBinF 64 q (fB64 q):=fun x y W hx hy => by
 rcases h with rfl | rfl | rfl | rfl | rfl | rfl | rfl | rfl
 ·exact (Fl.RBin_64_1 x y hx hy W).mono fun e w' ⟨he,hb⟩ => ⟨he,hb⟩
 ·exact (Fl.RBin_64_2 x y hx hy W).mono fun e w' ⟨he,hb⟩ => ⟨he,hb⟩
 ·exact (Fl.RBin_64_3 x y hx hy W).mono fun e w' ⟨he,hb⟩ => ⟨he,hb⟩
 ·exact (Fl.RBin_64_4 x y hx hy W).mono fun e w' ⟨he,hb⟩ => ⟨he,hb⟩
 ·exact (Fl.RBin_64_5 x y hx hy W).mono fun e w' ⟨he,hb⟩ => ⟨he,hb⟩
 ·exact (Fl.RBin_64_6 x y hx hy W).mono fun e w' ⟨he,hb⟩ => ⟨he,hb⟩
 ·exact (Fl.RBin_64_8 x y hx hy W).mono fun e w' ⟨he,hb⟩ => ⟨he,hb⟩
 ·exact (Fl.RBin_64_9 x y hx hy W).mono fun e w' ⟨he,hb⟩ => ⟨he,hb⟩
theorem fB32_lt (q:Int) (x y:Nat):fB32 q x y < 18446744073709551616 :=
 Nat.lt_trans (Fl.binW_lt Fl.wd_single (by decide) 31 (by decide) _ _ _ _ (Nat.mod_lt x (by decide)) (Nat.mod_lt y (by decide))) (by decide)
theorem fB64_lt (q:Int) (x y:Nat):fB64 q x y < 18446744073709551616 :=
 Fl.binW_lt Fl.wd_double (by decide) 63 (by decide) _ _ _ _ (Nat.mod_lt x (by decide)) (Nat.mod_lt y (by decide))
theorem agree_fbin (op:Int) (h:chkFBin op=true) (alo ahi blo bhi:Nat) (anl bnl:Bool) (h1:alo < 18446744073709551616) (h2:ahi < 18446744073709551616) (h3:blo < 18446744073709551616) (h4:bhi < 18446744073709551616) (w:World) (hg:Glob w) :
  ∃ lo hi,(∀ W va,Below w.heap.size w W→AR W va [(123,alo,ahi,anl),(123,blo,bhi,bnl)]→Calls Tryz.prog 20 #[.int .i64 op,.slice none 0 0,va] W fun e w' => e=.returned (.tuple #[vv 123 lo hi false,.int .i64 0])∧Below W.heap.size W w') ∧
   (∀ W va,Below w.heap.size w W→AR W va [(123,alo,ahi,anl),(123,blo,bhi,bnl)]→Calls Tryz.prog 38 #[.int .i64 op,.slice none 0 0,va] W fun e w' => e=.returned (.tuple #[vv 123 lo hi false,.int .i64 0])∧Below W.heap.size W w'):=by
 unfold chkFBin at h
 simp only [Bool.and_eq_true,Bool.not_eq_true',decide_eq_true_eq] at h
 obtain ⟨⟨⟨⟨⟨⟨⟨⟨hc,hi⟩,hn⟩,u0⟩,u1⟩,u2⟩,u3⟩,u4⟩,v0⟩:=h
 obtain ⟨n,ro,tk,lv,fx,P⟩:=PCF_of true op hc hi
 have hn:=PCF_n true op hn n P.bi hc
 generalize nmL op=nm at *
 generalize verbL nm=vb at *
 generalize sgL nm=sg at *
 generalize headC nm 46=sh at *
 generalize tailC nm 46=what at *
 generalize hs:swL FB vb=q at *
 have u0:=eq_of_beq u0
 have u1:=eq_of_beq u1
 have v0:=eq_of_beq v0
 have u4:q ≠ 7:=by simpa using u4
 have hq:q=1 ∨ q=2 ∨ q=3 ∨ q=4 ∨ q=5 ∨ q=6 ∨ q=8 ∨ q=9:=by omega
 obtain ⟨f,HP,HR,hf⟩:∃ f:Nat→Nat→Nat,Two 111 n q f∧RBinF n q f∧∀ x y,f x y < 18446744073709551616:=by
  rcases hn with rfl | rfl
  ·exact ⟨_,pFB32 q hq,rFB32 q hq,fB32_lt q⟩
  ·exact ⟨_,pFB64 q hq,rFB64 q hq,fB64_lt q⟩
 clear hq
 refine ⟨_,_,fun W va hb ha => Do_each2 op nm vb n P.okn true true 0 sg P.nm1 P.par P.len (fun hx => by rw [P.xs] at hx;cases hx) P.lo P.kn P.im P.la P.lb P.ea f
  (fun W => operation_bin_f vb true n n sg q u0 u1 hs _ HP P.n0 P.n1 W) (fun x y _ _ => hf x y) alo ahi blo bhi anl bnl h1 h2 h3 h4 W (hg.next hb) va ha,fun W va hb ha => ?_⟩
 obtain ⟨k,rfl⟩:∃ k:Nat,q=(k:Int):=⟨q.toNat,by omega⟩
 refine RDo_vec op P.lo ro nm tk lv fx P.of P.ro0 P.tk1 P.lv1 P.lv2 [(123,alo,ahi,anl),(123,blo,bhi,bnl)] P.tk2 (by simp) (by simp) va W ha _ _ fun W' hb' => ?_
 exact RDone_two (ro,nm,0,tk,lv,fx) sh what P.shE P.whE P.len n P.okn P.bi rfl rfl P.w0 P.w1 P.w2 P.w3 10 P.ns 102 true rfl P.ix (.slice none 0 0) va alo ahi anl blo bhi bnl h3 h4 h1 h2 W' (ha.call hb') f
  (fun a b W ha hb => RLaneF_bin n what k v0 (by omega) _ a b (fun W => HR a b W ha hb) W) (fun i _ => hf _ _)
def LFloats:List Int:=[228,229,230,231,232,233,234,235,240,241,242,243,244,245,246,247]
theorem floats_all:(LFloats.all fun x => chkFBin (64768 + x))=true:=by kernel_rfl
theorem chkFBin_c (op:Int) (h:chkFBin op=true):chkC true op=true∧chkFl op=true:=by
 unfold chkFBin at h
 simp only [Bool.and_eq_true] at h
 exact ⟨h.1.1.1.1.1.1.1.1,h.1.1.1.1.1.1.1.2⟩
end Go.Proofs.YtlhakbkdlgejpaaGreatDoor
namespace Go.Proofs.YtlhakbkdlgejpaaGreatDoor
open Go.RowKit
theorem row_Floats (w:World):∀ j,j < LFloats.length→(w.alloc (.cells #[.int .i64 228,.int .i64 229,.int .i64 230,.int .i64 231,.int .i64 232,.int .i64 233,.int .i64 234,.int .i64 235,.int .i64 240,.int .i64 241,.int .i64 242,.int .i64 243,.int .i64 244,.int .i64 245,.int .i64 246,.int .i64 247] 3)).cell? ⟨w.heap.size,j,none⟩=some (.int .i64 (LFloats.getD j 0)):=fun j hj => by
 have h:=CA.new w #[.int .i64 228,.int .i64 229,.int .i64 230,.int .i64 231,.int .i64 232,.int .i64 233,.int .i64 234,.int .i64 235,.int .i64 240,.int .i64 241,.int .i64 242,.int .i64 243,.int .i64 244,.int .i64 245,.int .i64 246,.int .i64 247] 3
 have hj:j < 16:=hj
 have e:∀ i:Fin 16,(#[.int .i64 228,.int .i64 229,.int .i64 230,.int .i64 231,.int .i64 232,.int .i64 233,.int .i64 234,.int .i64 235,.int .i64 240,.int .i64 241,.int .i64 242,.int .i64 243,.int .i64 244,.int .i64 245,.int .i64 246,.int .i64 247]:Array Value)[i.val]?=some (.int .i64 (LFloats.getD i.val 0)):=by
  intro i
  rcases i with ⟨i,hi⟩;rcases (show i=0 ∨ i=1 ∨ i=2 ∨ i=3 ∨ i=4 ∨ i=5 ∨ i=6 ∨ i=7 ∨ i=8 ∨ i=9 ∨ i=10 ∨ i=11 ∨ i=12 ∨ i=13 ∨ i=14 ∨ i=15 by omega) with rfl | rfl | rfl | rfl | rfl | rfl | rfl | rfl | rfl | rfl | rfl | rfl | rfl | rfl | rfl | rfl <;> rfl
 exact h.at (k:=j) (e ⟨j,hj⟩)
set_option maxHeartbeats 4000000 in
theorem some_Floats (which:Int) (hw0:-9223372036854775808≤which) (hw1:which≤9223372036854775807) (ta tb tc:Int) (alo ahi blo bhi clo chi:Nat) (anl bnl cnl:Bool) (h1:alo < 18446744073709551616) (h2:ahi < 18446744073709551616) (h3:blo < 18446744073709551616) (h4:bhi < 18446744073709551616) (nn:Int) (w:World) (hg:Glob w) :
  Calls Tryz.prog 21 #[.slice (some ⟨w.heap.size,0,none⟩) 16 16,.int .i64 which,vv ta alo ahi anl,vv tb blo bhi bnl,vv tc clo chi cnl,.int .u64 nn] (w.alloc (.cells #[.int .i64 228,.int .i64 229,.int .i64 230,.int .i64 231,.int .i64 232,.int .i64 233,.int .i64 234,.int .i64 235,.int .i64 240,.int .i64 241,.int .i64 242,.int .i64 243,.int .i64 244,.int .i64 245,.int .i64 246,.int .i64 247] 3)) fun e w' => e=.returned (.bool true)∧Below w.heap.size w w':=by
 obtain ⟨y,_,hy⟩:=and_1023 which
 have hi:y % LFloats.length < LFloats.length:=Nat.mod_lt _ (by decide)
 have hmem:LFloats.getD (y % LFloats.length) 0 ∈ LFloats:=by
  rw [List.getD_eq_getElem?_getD,List.getElem?_eq_getElem hi]
  exact List.getElem_mem hi
 have hchk:chkFBin (64768 + LFloats.getD (y % LFloats.length) 0)=true:=List.all_eq_true.1 floats_all _ hmem
 obtain ⟨op,hop⟩:∃ op,op=64768 + LFloats.getD (y % LFloats.length) 0:=⟨_,rfl⟩
 rw [← hop] at hchk
 have hb0:=(Below.refl _ w).alloc (Nat.le_refl _) (.cells #[.int .i64 228,.int .i64 229,.int .i64 230,.int .i64 231,.int .i64 232,.int .i64 233,.int .i64 234,.int .i64 235,.int .i64 240,.int .i64 241,.int .i64 242,.int .i64 243,.int .i64 244,.int .i64 245,.int .i64 246,.int .i64 247] 3)
 obtain ⟨lo,hi',HP,HR⟩:=agree_fbin op hchk alo ahi blo bhi anl bnl h1 h2 h3 h4 (w.alloc (.cells #[.int .i64 228,.int .i64 229,.int .i64 230,.int .i64 231,.int .i64 232,.int .i64 233,.int .i64 234,.int .i64 235,.int .i64 240,.int .i64 241,.int .i64 242,.int .i64 243,.int .i64 244,.int .i64 245,.int .i64 246,.int .i64 247] 3)) (hg.next hb0)
 obtain ⟨n,ro,tk,lv,fx,P⟩:=PCF_of true op (chkFBin_c op hchk).1 (chkFBin_c op hchk).2
 have H:=some_2 LFloats (by decide) (by decide) w.heap.size 16 which hw0 hw1 ta tb tc alo ahi blo bhi clo chi anl bnl cnl nn (w.alloc (.cells #[.int .i64 228,.int .i64 229,.int .i64 230,.int .i64 231,.int .i64 232,.int .i64 233,.int .i64 234,.int .i64 235,.int .i64 240,.int .i64 241,.int .i64 242,.int .i64 243,.int .i64 244,.int .i64 245,.int .i64 246,.int .i64 247] 3)) (by rw [size_al];omega) (row_Floats w) y (y % LFloats.length) hy rfl hi op hop ⟨P.lo,P.hi⟩ ro (nmL op) tk lv fx P.of P.tk1 P.tk2 lo hi' HP HR
 exact H.mono fun e w' ⟨he,hb⟩ => ⟨he,hb0.trans (hb.mono hb0.size)⟩
set_option maxHeartbeats 4000000 in
theorem law_Floats (which:Int) (hw0:-9223372036854775808≤which) (hw1:which≤9223372036854775807) (ta tb tc:Int) (alo ahi blo bhi clo chi:Nat) (anl bnl cnl:Bool) (h1:alo < 18446744073709551616) (h2:ahi < 18446744073709551616) (h3:blo < 18446744073709551616) (h4:bhi < 18446744073709551616) (nn:Int) (w:World) (hg:Glob w) :
  Calls Tryz.prog 6 #[.int .i64 which,vv ta alo ahi anl,vv tb blo bhi bnl,vv tc clo chi cnl,.int .u64 nn] w fun e w' => e=.returned (.bool true)∧Below w.heap.size w w':=by
 have HA:=fun W h => hid (awake_says W h)
 have HS:=fun W h => hid (some_Floats which hw0 hw1 ta tb tc alo ahi blo bhi clo chi anl bnl cnl h1 h2 h3 h4 nn W h)
 have HX:=hid (Bx.start w #[.int .i64 ta,.int .u64 (alo:Nat),.int .u64 (ahi:Nat),.bool anl] #[.int .i64 tb,.int .u64 (blo:Nat),.int .u64 (bhi:Nat),.bool bnl] #[.int .i64 tc,.int .u64 (clo:Nat),.int .u64 (chi:Nat),.bool cnl])
 have HAA:=HA _ (hg.next HX.out.below)
 have HG:=hid hg
 unfold vv at HS ⊢
 clear hg h1 h2 h3 h4 hw0 hw1
 go_enter Tryz.func6,Tryz.ntmps6
 go_upto_region 2 with (go_at_call 19;(with_reducible refine HAA.out.mono ?_);rintro e w1 ⟨rfl,hb1⟩;have HX1:=hid (HX.out.to hb1);clear hb1)
 have HS1:=HS _ (HG.out.next HX1.out.below)
 have HB1:=hid HX1.out.below
 have hsz:=HX1.out.below.size
 have a0:=fun o => (HX1.out.a.alloc o).at (k:=0) (v:=.int .i64 ta) rfl
 have a1:=fun o => (HX1.out.a.alloc o).at (k:=1) (v:=.int .u64 (alo:Nat)) rfl
 have a2:=fun o => (HX1.out.a.alloc o).at (k:=2) (v:=.int .u64 (ahi:Nat)) rfl
 have a3:=fun o => (HX1.out.a.alloc o).at (k:=3) (v:=.bool anl) rfl
 have b0:=fun o => (HX1.out.b.alloc o).at (k:=0) (v:=.int .i64 tb) rfl
 have b1:=fun o => (HX1.out.b.alloc o).at (k:=1) (v:=.int .u64 (blo:Nat)) rfl
 have b2:=fun o => (HX1.out.b.alloc o).at (k:=2) (v:=.int .u64 (bhi:Nat)) rfl
 have b3:=fun o => (HX1.out.b.alloc o).at (k:=3) (v:=.bool bnl) rfl
 have c0:=fun o => (HX1.out.c.alloc o).at (k:=0) (v:=.int .i64 tc) rfl
 have c1:=fun o => (HX1.out.c.alloc o).at (k:=1) (v:=.int .u64 (clo:Nat)) rfl
 have c2:=fun o => (HX1.out.c.alloc o).at (k:=2) (v:=.int .u64 (chi:Nat)) rfl
 have c3:=fun o => (HX1.out.c.alloc o).at (k:=3) (v:=.bool cnl) rfl
 clear HX HX1 HAA HA HS HG
 go_wp2_with (go_at_call 21;(with_reducible refine HS1.out.mono ?_);rintro e w2 ⟨rfl,hb2⟩;have HB2:=hid (HB1.out.trans (hb2.mono hsz));clear hb2)
 go_ret
 exact ⟨rfl,HB2.out⟩
end Go.Proofs.YtlhakbkdlgejpaaGreatDoor
