/-
  SFloats, SLaid: merged, what the laws do not reach left out (each text says what it holds where it lies in wip). No condition.
-/
import Derived.Test.YtlhakbkdlgejpaaGreatDoorV03
import Derived.Test.YtlhakbkdlgejpaaGreatDoorX16
import Derived.Test.YtlhakbkdlgejpaaGreatDoorX19
import Derived.Test.YtlhakbkdlgejpaaGreatDoorX21
import Derived.Test.YtlhakbkdlgejpaaGreatDoorX22
import Derived.Test.YtlhakbkdlgejpaaGreatDoorV04
import Derived.Test.YtlhakbkdlgejpaaGreatDoorV05
import Derived.Test.YtlhakbkdlgejpaaGreatDoorX23
import Derived.Test.YtlhakbkdlgejpaaGreatDoorV06
import Derived.Test.YtlhakbkdlgejpaaGreatDoorV07
import Derived.Test.YtlhakbkdlgejpaaGreatDoorV01
import Derived.Test.YtlhakbkdlgejpaaGreatDoorRows
import Derived.ProofKit
import Derived.LaidMore
import Derived.OpenShut
import Derived.Lib.LaidTab
import Derived.ChangeSame
import Derived.Stop.LaidErr
import Derived.Test.YtlhakbkdlgejpaaGreatDoorX01
set_option linter.unusedSimpArgs false
set_option linter.unusedVariables false
set_option maxRecDepth 100000
namespace Go.Proofs.YtlhakbkdlgejpaaGreatDoor.Sc
open Go.RowKit
theorem pB32 (q:Int) (h1:1≤q) (h2:q≤7) (x y:Nat) (hx:x < 18446744073709551616) (hy:y < 18446744073709551616):Ans 111 #[.int .i64 32,.int .i64 q,.int .u64 x,.int .u64 y] (.tuple #[.int .u64 ((Fl.binW Ieee.single 38 2147483648 2139095040 2143289344 23 (-149) q.toNat (x % 4294967296) (y % 4294967296)):Nat),.int .i64 0]):=fun W => by
 rcases (show q=1 ∨ q=2 ∨ q=3 ∨ q=4 ∨ q=5 ∨ q=6 ∨ q=7 by omega) with rfl | rfl | rfl | rfl | rfl | rfl | rfl
 ·exact Fl.Bin_32_1 x y hx hy W
 ·exact Fl.Bin_32_2 x y hx hy W
 ·exact Fl.Bin_32_3 x y hx hy W
 ·exact Fl.Bin_32_4 x y hx hy W
 ·exact Fl.Bin_32_5 x y hx hy W
 ·exact Fl.Bin_32_6 x y hx hy W
 ·exact Fl.Bin_32_7 x y hx hy W
theorem rB32 (q:Int) (h1:1≤q) (h2:q≤7) (x y:Nat) (hx:x < 18446744073709551616) (hy:y < 18446744073709551616):Ans 148 #[.int .i64 32,.int .i64 q,.int .u64 x,.int .u64 y] (.tuple #[.int .u64 ((Fl.binW Ieee.single 38 2147483648 2139095040 2143289344 23 (-149) q.toNat (x % 4294967296) (y % 4294967296)):Nat),.int .i64 0]):=fun W => by
 rcases (show q=1 ∨ q=2 ∨ q=3 ∨ q=4 ∨ q=5 ∨ q=6 ∨ q=7 by omega) with rfl | rfl | rfl | rfl | rfl | rfl | rfl
 ·exact Fl.RBin_32_1 x y hx hy W
 ·exact Fl.RBin_32_2 x y hx hy W
 ·exact Fl.RBin_32_3 x y hx hy W
 ·exact Fl.RBin_32_4 x y hx hy W
 ·exact Fl.RBin_32_5 x y hx hy W
 ·exact Fl.RBin_32_6 x y hx hy W
 ·exact Fl.RBin_32_7 x y hx hy W
theorem pU32 (q:Int) (h1:1≤q) (h2:q≤7) (x:Nat) (hx:x < 18446744073709551616):Ans 109 #[.int .i64 32,.int .i64 q,.int .u64 x] (.tuple #[.int .u64 ((Fl.unW Ieee.single 2147483648 2139095040 2143289344 q.toNat (x % 4294967296)):Nat),.int .i64 0]):=fun W => by
 rcases (show q=1 ∨ q=2 ∨ q=3 ∨ q=4 ∨ q=5 ∨ q=6 ∨ q=7 by omega) with rfl | rfl | rfl | rfl | rfl | rfl | rfl
 ·exact Fl.Un_32_1 x hx W
 ·exact Fl.Un_32_2 x hx W
 ·exact Fl.Un_32_3 x hx W
 ·exact Fl.Un_32_4 x hx W
 ·exact Fl.Un_32_5 x hx W
 ·exact Fl.Un_32_6 x hx W
 ·exact Fl.Un_32_7 x hx W
theorem rU32 (q:Int) (h1:1≤q) (h2:q≤7) (x:Nat) (hx:x < 18446744073709551616):Ans 147 #[.int .i64 32,.int .i64 q,.int .u64 x] (.tuple #[.int .u64 ((Fl.unW Ieee.single 2147483648 2139095040 2143289344 q.toNat (x % 4294967296)):Nat),.int .i64 0]):=fun W => by
 rcases (show q=1 ∨ q=2 ∨ q=3 ∨ q=4 ∨ q=5 ∨ q=6 ∨ q=7 by omega) with rfl | rfl | rfl | rfl | rfl | rfl | rfl
 ·exact Fl.RUn_32_1 x hx W
 ·exact Fl.RUn_32_2 x hx W
 ·exact Fl.RUn_32_3 x hx W
 ·exact Fl.RUn_32_4 x hx W
 ·exact Fl.RUn_32_5 x hx W
 ·exact Fl.RUn_32_6 x hx W
 ·exact Fl.RUn_32_7 x hx W
theorem tbl32 (op q:Int) (h0:139≤op) (h1:op < 146) (hq:q=glob6.getD (op - 139).toNat 0):1≤q∧q≤7:=by
 rcases (show op=139 ∨ op=140 ∨ op=141 ∨ op=142 ∨ op=143 ∨ op=144 ∨ op=145 by omega) with rfl | rfl | rfl | rfl | rfl | rfl | rfl
 all_goals (subst hq;decide)
set_option maxHeartbeats 1000000 in
theorem com_fu32 (op q:Int) (hq:q=glob6.getD (op - 139).toNat 0) (h0:139≤op) (h1:op < 146) (a b:Nat) (r r2:Int) (HC:Ans 109 #[.int .i64 32,.int .i64 q,.int .u64 a] (.tuple #[.int .u64 r,.int .i64 r2])):AnsG 85 #[.int .i64 op,.int .u64 a,.int .u64 b] (.tuple #[.int .u64 r,.int .i64 r2]):=fun w hg => by
 have HCC:=fun W => hid (HC W)
 clear HC
 rcases (show op=139 ∨ op=140 ∨ op=141 ∨ op=142 ∨ op=143 ∨ op=144 ∨ op=145 by omega) with rfl | rfl | rfl | rfl | rfl | rfl | rfl
 ·obtain rfl:q=1:=hq.trans (by decide)
  have hc:w.cell? ⟨2,0,none⟩=some (.int .i64 1):=hg.c6 0 (by decide)
  clear hq h0 h1 hg
  go_enter Tryz.func85,Tryz.ntmps85
  go_wp2_with (go_at_call 109;(with_reducible refine (HCC _).out.mono ?_);rintro e w1 ⟨rfl,hb1⟩;have HB1:=hid hb1;clear hb1)
  go_ret2
  exact ⟨rfl,HB1.out⟩
 ·obtain rfl:q=2:=hq.trans (by decide)
  have hc:w.cell? ⟨2,1,none⟩=some (.int .i64 2):=hg.c6 1 (by decide)
  clear hq h0 h1 hg
  go_enter Tryz.func85,Tryz.ntmps85
  go_wp2_with (go_at_call 109;(with_reducible refine (HCC _).out.mono ?_);rintro e w1 ⟨rfl,hb1⟩;have HB1:=hid hb1;clear hb1)
  go_ret2
  exact ⟨rfl,HB1.out⟩
 ·obtain rfl:q=4:=hq.trans (by decide)
  have hc:w.cell? ⟨2,2,none⟩=some (.int .i64 4):=hg.c6 2 (by decide)
  clear hq h0 h1 hg
  go_enter Tryz.func85,Tryz.ntmps85
  go_wp2_with (go_at_call 109;(with_reducible refine (HCC _).out.mono ?_);rintro e w1 ⟨rfl,hb1⟩;have HB1:=hid hb1;clear hb1)
  go_ret2
  exact ⟨rfl,HB1.out⟩
 ·obtain rfl:q=5:=hq.trans (by decide)
  have hc:w.cell? ⟨2,3,none⟩=some (.int .i64 5):=hg.c6 3 (by decide)
  clear hq h0 h1 hg
  go_enter Tryz.func85,Tryz.ntmps85
  go_wp2_with (go_at_call 109;(with_reducible refine (HCC _).out.mono ?_);rintro e w1 ⟨rfl,hb1⟩;have HB1:=hid hb1;clear hb1)
  go_ret2
  exact ⟨rfl,HB1.out⟩
 ·obtain rfl:q=6:=hq.trans (by decide)
  have hc:w.cell? ⟨2,4,none⟩=some (.int .i64 6):=hg.c6 4 (by decide)
  clear hq h0 h1 hg
  go_enter Tryz.func85,Tryz.ntmps85
  go_wp2_with (go_at_call 109;(with_reducible refine (HCC _).out.mono ?_);rintro e w1 ⟨rfl,hb1⟩;have HB1:=hid hb1;clear hb1)
  go_ret2
  exact ⟨rfl,HB1.out⟩
 ·obtain rfl:q=7:=hq.trans (by decide)
  have hc:w.cell? ⟨2,5,none⟩=some (.int .i64 7):=hg.c6 5 (by decide)
  clear hq h0 h1 hg
  go_enter Tryz.func85,Tryz.ntmps85
  go_wp2_with (go_at_call 109;(with_reducible refine (HCC _).out.mono ?_);rintro e w1 ⟨rfl,hb1⟩;have HB1:=hid hb1;clear hb1)
  go_ret2
  exact ⟨rfl,HB1.out⟩
 ·obtain rfl:q=3:=hq.trans (by decide)
  have hc:w.cell? ⟨2,6,none⟩=some (.int .i64 3):=hg.c6 6 (by decide)
  clear hq h0 h1 hg
  go_enter Tryz.func85,Tryz.ntmps85
  go_wp2_with (go_at_call 109;(with_reducible refine (HCC _).out.mono ?_);rintro e w1 ⟨rfl,hb1⟩;have HB1:=hid hb1;clear hb1)
  go_ret2
  exact ⟨rfl,HB1.out⟩
noncomputable def fB32AB (op q:Int):Bool:=rowB op [125,125] 125 && (((nm7 op).take 1 == [102]) == true) && ((nm7 op).drop 4 == [101,113,122]) == false && decide (((nm7 op).drop 4).length≤6) && (plL FREL ((nm7 op).drop 4) 0 == -1) && (plL FUN ((nm7 op).drop 4) 0 == -1) && (plL FBIN ((nm7 op).drop 4) 0 == q)
theorem fB32A_good (op q:Int) (hq:q=op - 145) (h1:146≤op) (h2:op < 153) (h:fB32AB op q=true) (a b:Nat) (ha:a < 18446744073709551616) (hb:b < 18446744073709551616):Good op a b:=by
 unfold fB32AB at h
 simp only [Bool.and_eq_true,decide_eq_true_eq,beq_iff_eq] at h
 obtain ⟨⟨⟨⟨⟨⟨hrow,hk⟩,h0⟩,hl⟩,hp0⟩,hp1⟩,hp2⟩:=h
 have ha':=cutT_lt 125 a ha
 have hb':(cutT 125 b) < 18446744073709551616:=by exact cutT_lt 125 b hb
 refine good_of op [125,125] 125 hrow a b (Fl.binW Ieee.single 38 2147483648 2139095040 2143289344 23 (-149) q.toNat ((cutT 125 a) % 4294967296) ((cutT 125 b) % 4294967296)) 0 ?_ ?_
 ·show AnsG 50 #[.int .i64 op,.int .u64 (((cutT 125 a):Nat):Int),.int .u64 (((cutT 125 b):Nat):Int)] _
  exact Ans.g (res_com op (by omega) (by omega) _ _ _ _ (com_g32 op q hq (by omega) (by omega) _ _ _ _ (pB32 q (by omega) (by omega) _ _ ha' hb')))
 ·show Ans 91 #[.string (str ((nm7 op).take 1)),.int .i64 ((32:Nat):Int),.int .i64 125,.string (str ((nm7 op).drop 4)),.int .u64 (((cutT 125 a):Nat):Int),.int .u64 (((cutT 125 b):Nat):Int)] _
  exact worked_fBA _ _ (beq_iff_eq.2 hk) h0 hl q hp0 hp1 hp2 _ _ _ _ _ _ (rB32 q (by omega) (by omega) _ _ ha' hb')
noncomputable def fB32CB (op q:Int):Bool:=rowB op [125,125] 125 && (((nm7 op).take 1 == [102]) == true) && ((nm7 op).drop 4 == [101,113,122]) == false && decide (((nm7 op).drop 4).length=8) && (((nm7 op).drop 4).take 5 == [116,114,117,110,99]) == false && (((nm7 op).drop 4).take 7 == [99,111,110,118,101,114,116]) == false && (((nm7 op).drop 4).take 4 == [119,114,97,112]) == false && (((nm7 op).drop 4).take 6 == [100,101,109,111,116,101]) == false && (((nm7 op).drop 4).take 6 == [112,114,111,109,111,116]) == false && (((nm7 op).drop 4).take 6 == [114,101,105,110,116,101]) == false && (plL FREL ((nm7 op).drop 4) 0 == -1) && (plL FUN ((nm7 op).drop 4) 0 == -1) && (plL FBIN ((nm7 op).drop 4) 0 == q)
theorem fB32C_good (op q:Int) (hq:q=op - 145) (h1:146≤op) (h2:op < 153) (h:fB32CB op q=true) (a b:Nat) (ha:a < 18446744073709551616) (hb:b < 18446744073709551616):Good op a b:=by
 unfold fB32CB at h
 simp only [Bool.and_eq_true,decide_eq_true_eq,beq_iff_eq] at h
 obtain ⟨⟨⟨⟨⟨⟨⟨⟨⟨⟨⟨⟨hrow,hk⟩,h0⟩,hl⟩,pt⟩,pc⟩,pw⟩,pd⟩,pp⟩,pr⟩,hp0⟩,hp1⟩,hp2⟩:=h
 have ha':=cutT_lt 125 a ha
 have hb':(cutT 125 b) < 18446744073709551616:=by exact cutT_lt 125 b hb
 refine good_of op [125,125] 125 hrow a b (Fl.binW Ieee.single 38 2147483648 2139095040 2143289344 23 (-149) q.toNat ((cutT 125 a) % 4294967296) ((cutT 125 b) % 4294967296)) 0 ?_ ?_
 ·show AnsG 50 #[.int .i64 op,.int .u64 (((cutT 125 a):Nat):Int),.int .u64 (((cutT 125 b):Nat):Int)] _
  exact Ans.g (res_com op (by omega) (by omega) _ _ _ _ (com_g32 op q hq (by omega) (by omega) _ _ _ _ (pB32 q (by omega) (by omega) _ _ ha' hb')))
 ·show Ans 91 #[.string (str ((nm7 op).take 1)),.int .i64 ((32:Nat):Int),.int .i64 125,.string (str ((nm7 op).drop 4)),.int .u64 (((cutT 125 a):Nat):Int),.int .u64 (((cutT 125 b):Nat):Int)] _
  exact worked_fBC _ _ (beq_iff_eq.2 hk) h0 hl pt pc pw pd pp pr q hp0 hp1 hp2 _ _ _ _ _ _ (rB32 q (by omega) (by omega) _ _ ha' hb')
noncomputable def fU32AB (op q:Int):Bool:=rowB op [125] 125 && (((nm7 op).take 1 == [102]) == true) && ((nm7 op).drop 4 == [101,113,122]) == false && decide (((nm7 op).drop 4).length≤6) && (plL FREL ((nm7 op).drop 4) 0 == -1) && (plL FUN ((nm7 op).drop 4) 0 == q) && decide (1≤q)
theorem fU32A_good (op q:Int) (hq:q=glob6.getD (op - 139).toNat 0) (h1:139≤op) (h2:op < 146) (h:fU32AB op q=true) (a b:Nat) (ha:a < 18446744073709551616) (hb:b < 18446744073709551616):Good op a b:=by
 unfold fU32AB at h
 simp only [Bool.and_eq_true,decide_eq_true_eq,beq_iff_eq] at h
 obtain ⟨⟨⟨⟨⟨⟨hrow,hk⟩,h0⟩,hl⟩,hp0⟩,hp1⟩,hk1⟩:=h
 have ha':=cutT_lt 125 a ha
 have hb':0 < 18446744073709551616:=by decide
 refine good_of op [125] 125 hrow a b (Fl.unW Ieee.single 2147483648 2139095040 2143289344 q.toNat ((cutT 125 a) % 4294967296)) 0 ?_ ?_
 ·show AnsG 50 #[.int .i64 op,.int .u64 (((cutT 125 a):Nat):Int),.int .u64 ((0:Nat):Int)] _
  exact res_comG op (by omega) (by omega) _ _ _ _ (com_fu32 op q hq (by omega) (by omega) _ _ _ _ (pU32 q (tbl32 op q h1 h2 hq).1 (tbl32 op q h1 h2 hq).2 _ ha'))
 ·show Ans 91 #[.string (str ((nm7 op).take 1)),.int .i64 ((32:Nat):Int),.int .i64 125,.string (str ((nm7 op).drop 4)),.int .u64 (((cutT 125 a):Nat):Int),.int .u64 ((0:Nat):Int)] _
  exact worked_fUA _ _ (beq_iff_eq.2 hk) h0 hl q hp0 hp1 (by omega) _ _ _ _ _ _ (rU32 q (tbl32 op q h1 h2 hq).1 (tbl32 op q h1 h2 hq).2 _ ha')
noncomputable def fU32BB (op q:Int):Bool:=rowB op [125] 125 && (((nm7 op).take 1 == [102]) == true) && ((nm7 op).drop 4 == [101,113,122]) == false && decide (((nm7 op).drop 4).length=7) && (((nm7 op).drop 4).take 4 == [119,114,97,112]) == false && (((nm7 op).drop 4).take 6 == [100,101,109,111,116,101]) == false && (((nm7 op).drop 4).take 6 == [112,114,111,109,111,116]) == false && (((nm7 op).drop 4).take 6 == [114,101,105,110,116,101]) == false && (plL FREL ((nm7 op).drop 4) 0 == -1) && (plL FUN ((nm7 op).drop 4) 0 == q) && decide (1≤q)
theorem fU32B_good (op q:Int) (hq:q=glob6.getD (op - 139).toNat 0) (h1:139≤op) (h2:op < 146) (h:fU32BB op q=true) (a b:Nat) (ha:a < 18446744073709551616) (hb:b < 18446744073709551616):Good op a b:=by
 unfold fU32BB at h
 simp only [Bool.and_eq_true,decide_eq_true_eq,beq_iff_eq] at h
 obtain ⟨⟨⟨⟨⟨⟨⟨⟨⟨⟨hrow,hk⟩,h0⟩,hl⟩,pw⟩,pd⟩,pp⟩,pr⟩,hp0⟩,hp1⟩,hk1⟩:=h
 have ha':=cutT_lt 125 a ha
 have hb':0 < 18446744073709551616:=by decide
 refine good_of op [125] 125 hrow a b (Fl.unW Ieee.single 2147483648 2139095040 2143289344 q.toNat ((cutT 125 a) % 4294967296)) 0 ?_ ?_
 ·show AnsG 50 #[.int .i64 op,.int .u64 (((cutT 125 a):Nat):Int),.int .u64 ((0:Nat):Int)] _
  exact res_comG op (by omega) (by omega) _ _ _ _ (com_fu32 op q hq (by omega) (by omega) _ _ _ _ (pU32 q (tbl32 op q h1 h2 hq).1 (tbl32 op q h1 h2 hq).2 _ ha'))
 ·show Ans 91 #[.string (str ((nm7 op).take 1)),.int .i64 ((32:Nat):Int),.int .i64 125,.string (str ((nm7 op).drop 4)),.int .u64 (((cutT 125 a):Nat):Int),.int .u64 ((0:Nat):Int)] _
  exact worked_fUB _ _ (beq_iff_eq.2 hk) h0 hl pw pd pp pr q hp0 hp1 (by omega) _ _ _ _ _ _ (rU32 q (tbl32 op q h1 h2 hq).1 (tbl32 op q h1 h2 hq).2 _ ha')
theorem pB64 (q:Int) (h1:1≤q) (h2:q≤7) (x y:Nat) (hx:x < 18446744073709551616) (hy:y < 18446744073709551616):Ans 111 #[.int .i64 64,.int .i64 q,.int .u64 x,.int .u64 y] (.tuple #[.int .u64 ((Fl.binW Ieee.double 9 9223372036854775808 9218868437227405312 9221120237041090560 52 (-1074) q.toNat (x % 18446744073709551616) (y % 18446744073709551616)):Nat),.int .i64 0]):=fun W => by
 rcases (show q=1 ∨ q=2 ∨ q=3 ∨ q=4 ∨ q=5 ∨ q=6 ∨ q=7 by omega) with rfl | rfl | rfl | rfl | rfl | rfl | rfl
 ·exact Fl.Bin_64_1 x y hx hy W
 ·exact Fl.Bin_64_2 x y hx hy W
 ·exact Fl.Bin_64_3 x y hx hy W
 ·exact Fl.Bin_64_4 x y hx hy W
 ·exact Fl.Bin_64_5 x y hx hy W
 ·exact Fl.Bin_64_6 x y hx hy W
 ·exact Fl.Bin_64_7 x y hx hy W
theorem rB64 (q:Int) (h1:1≤q) (h2:q≤7) (x y:Nat) (hx:x < 18446744073709551616) (hy:y < 18446744073709551616):Ans 148 #[.int .i64 64,.int .i64 q,.int .u64 x,.int .u64 y] (.tuple #[.int .u64 ((Fl.binW Ieee.double 9 9223372036854775808 9218868437227405312 9221120237041090560 52 (-1074) q.toNat (x % 18446744073709551616) (y % 18446744073709551616)):Nat),.int .i64 0]):=fun W => by
 rcases (show q=1 ∨ q=2 ∨ q=3 ∨ q=4 ∨ q=5 ∨ q=6 ∨ q=7 by omega) with rfl | rfl | rfl | rfl | rfl | rfl | rfl
 ·exact Fl.RBin_64_1 x y hx hy W
 ·exact Fl.RBin_64_2 x y hx hy W
 ·exact Fl.RBin_64_3 x y hx hy W
 ·exact Fl.RBin_64_4 x y hx hy W
 ·exact Fl.RBin_64_5 x y hx hy W
 ·exact Fl.RBin_64_6 x y hx hy W
 ·exact Fl.RBin_64_7 x y hx hy W
theorem pU64 (q:Int) (h1:1≤q) (h2:q≤7) (x:Nat) (hx:x < 18446744073709551616):Ans 109 #[.int .i64 64,.int .i64 q,.int .u64 x] (.tuple #[.int .u64 ((Fl.unW Ieee.double 9223372036854775808 9218868437227405312 9221120237041090560 q.toNat (x % 18446744073709551616)):Nat),.int .i64 0]):=fun W => by
 rcases (show q=1 ∨ q=2 ∨ q=3 ∨ q=4 ∨ q=5 ∨ q=6 ∨ q=7 by omega) with rfl | rfl | rfl | rfl | rfl | rfl | rfl
 ·exact Fl.Un_64_1 x hx W
 ·exact Fl.Un_64_2 x hx W
 ·exact Fl.Un_64_3 x hx W
 ·exact Fl.Un_64_4 x hx W
 ·exact Fl.Un_64_5 x hx W
 ·exact Fl.Un_64_6 x hx W
 ·exact Fl.Un_64_7 x hx W
theorem rU64 (q:Int) (h1:1≤q) (h2:q≤7) (x:Nat) (hx:x < 18446744073709551616):Ans 147 #[.int .i64 64,.int .i64 q,.int .u64 x] (.tuple #[.int .u64 ((Fl.unW Ieee.double 9223372036854775808 9218868437227405312 9221120237041090560 q.toNat (x % 18446744073709551616)):Nat),.int .i64 0]):=fun W => by
 rcases (show q=1 ∨ q=2 ∨ q=3 ∨ q=4 ∨ q=5 ∨ q=6 ∨ q=7 by omega) with rfl | rfl | rfl | rfl | rfl | rfl | rfl
 ·exact Fl.RUn_64_1 x hx W
 ·exact Fl.RUn_64_2 x hx W
 ·exact Fl.RUn_64_3 x hx W
 ·exact Fl.RUn_64_4 x hx W
 ·exact Fl.RUn_64_5 x hx W
 ·exact Fl.RUn_64_6 x hx W
 ·exact Fl.RUn_64_7 x hx W
theorem tbl64 (op q:Int) (h0:153≤op) (h1:op < 160) (hq:q=glob6.getD (op - 153).toNat 0):1≤q∧q≤7:=by
 rcases (show op=153 ∨ op=154 ∨ op=155 ∨ op=156 ∨ op=157 ∨ op=158 ∨ op=159 by omega) with rfl | rfl | rfl | rfl | rfl | rfl | rfl
 all_goals (subst hq;decide)
set_option maxHeartbeats 1000000 in
theorem com_fu64 (op q:Int) (hq:q=glob6.getD (op - 153).toNat 0) (h0:153≤op) (h1:op < 160) (a b:Nat) (r r2:Int) (HC:Ans 109 #[.int .i64 64,.int .i64 q,.int .u64 a] (.tuple #[.int .u64 r,.int .i64 r2])):AnsG 85 #[.int .i64 op,.int .u64 a,.int .u64 b] (.tuple #[.int .u64 r,.int .i64 r2]):=fun w hg => by
 have HCC:=fun W => hid (HC W)
 clear HC
 rcases (show op=153 ∨ op=154 ∨ op=155 ∨ op=156 ∨ op=157 ∨ op=158 ∨ op=159 by omega) with rfl | rfl | rfl | rfl | rfl | rfl | rfl
 ·obtain rfl:q=1:=hq.trans (by decide)
  have hc:w.cell? ⟨2,0,none⟩=some (.int .i64 1):=hg.c6 0 (by decide)
  clear hq h0 h1 hg
  go_enter Tryz.func85,Tryz.ntmps85
  go_wp2_with (go_at_call 109;(with_reducible refine (HCC _).out.mono ?_);rintro e w1 ⟨rfl,hb1⟩;have HB1:=hid hb1;clear hb1)
  go_ret2
  exact ⟨rfl,HB1.out⟩
 ·obtain rfl:q=2:=hq.trans (by decide)
  have hc:w.cell? ⟨2,1,none⟩=some (.int .i64 2):=hg.c6 1 (by decide)
  clear hq h0 h1 hg
  go_enter Tryz.func85,Tryz.ntmps85
  go_wp2_with (go_at_call 109;(with_reducible refine (HCC _).out.mono ?_);rintro e w1 ⟨rfl,hb1⟩;have HB1:=hid hb1;clear hb1)
  go_ret2
  exact ⟨rfl,HB1.out⟩
 ·obtain rfl:q=4:=hq.trans (by decide)
  have hc:w.cell? ⟨2,2,none⟩=some (.int .i64 4):=hg.c6 2 (by decide)
  clear hq h0 h1 hg
  go_enter Tryz.func85,Tryz.ntmps85
  go_wp2_with (go_at_call 109;(with_reducible refine (HCC _).out.mono ?_);rintro e w1 ⟨rfl,hb1⟩;have HB1:=hid hb1;clear hb1)
  go_ret2
  exact ⟨rfl,HB1.out⟩
 ·obtain rfl:q=5:=hq.trans (by decide)
  have hc:w.cell? ⟨2,3,none⟩=some (.int .i64 5):=hg.c6 3 (by decide)
  clear hq h0 h1 hg
  go_enter Tryz.func85,Tryz.ntmps85
  go_wp2_with (go_at_call 109;(with_reducible refine (HCC _).out.mono ?_);rintro e w1 ⟨rfl,hb1⟩;have HB1:=hid hb1;clear hb1)
  go_ret2
  exact ⟨rfl,HB1.out⟩
 ·obtain rfl:q=6:=hq.trans (by decide)
  have hc:w.cell? ⟨2,4,none⟩=some (.int .i64 6):=hg.c6 4 (by decide)
  clear hq h0 h1 hg
  go_enter Tryz.func85,Tryz.ntmps85
  go_wp2_with (go_at_call 109;(with_reducible refine (HCC _).out.mono ?_);rintro e w1 ⟨rfl,hb1⟩;have HB1:=hid hb1;clear hb1)
  go_ret2
  exact ⟨rfl,HB1.out⟩
 ·obtain rfl:q=7:=hq.trans (by decide)
  have hc:w.cell? ⟨2,5,none⟩=some (.int .i64 7):=hg.c6 5 (by decide)
  clear hq h0 h1 hg
  go_enter Tryz.func85,Tryz.ntmps85
  go_wp2_with (go_at_call 109;(with_reducible refine (HCC _).out.mono ?_);rintro e w1 ⟨rfl,hb1⟩;have HB1:=hid hb1;clear hb1)
  go_ret2
  exact ⟨rfl,HB1.out⟩
 ·obtain rfl:q=3:=hq.trans (by decide)
  have hc:w.cell? ⟨2,6,none⟩=some (.int .i64 3):=hg.c6 6 (by decide)
  clear hq h0 h1 hg
  go_enter Tryz.func85,Tryz.ntmps85
  go_wp2_with (go_at_call 109;(with_reducible refine (HCC _).out.mono ?_);rintro e w1 ⟨rfl,hb1⟩;have HB1:=hid hb1;clear hb1)
  go_ret2
  exact ⟨rfl,HB1.out⟩
noncomputable def fB64AB (op q:Int):Bool:=rowB op [124,124] 124 && (((nm7 op).take 1 == [102]) == true) && ((nm7 op).drop 4 == [101,113,122]) == false && decide (((nm7 op).drop 4).length≤6) && (plL FREL ((nm7 op).drop 4) 0 == -1) && (plL FUN ((nm7 op).drop 4) 0 == -1) && (plL FBIN ((nm7 op).drop 4) 0 == q)
theorem fB64A_good (op q:Int) (hq:q=op - 159) (h1:160≤op) (h2:op < 167) (h:fB64AB op q=true) (a b:Nat) (ha:a < 18446744073709551616) (hb:b < 18446744073709551616):Good op a b:=by
 unfold fB64AB at h
 simp only [Bool.and_eq_true,decide_eq_true_eq,beq_iff_eq] at h
 obtain ⟨⟨⟨⟨⟨⟨hrow,hk⟩,h0⟩,hl⟩,hp0⟩,hp1⟩,hp2⟩:=h
 have ha':=cutT_lt 124 a ha
 have hb':(cutT 124 b) < 18446744073709551616:=by exact cutT_lt 124 b hb
 refine good_of op [124,124] 124 hrow a b (Fl.binW Ieee.double 9 9223372036854775808 9218868437227405312 9221120237041090560 52 (-1074) q.toNat ((cutT 124 a) % 18446744073709551616) ((cutT 124 b) % 18446744073709551616)) 0 ?_ ?_
 ·show AnsG 50 #[.int .i64 op,.int .u64 (((cutT 124 a):Nat):Int),.int .u64 (((cutT 124 b):Nat):Int)] _
  exact Ans.g (res_com op (by omega) (by omega) _ _ _ _ (com_g64 op q hq (by omega) (by omega) _ _ _ _ (pB64 q (by omega) (by omega) _ _ ha' hb')))
 ·show Ans 91 #[.string (str ((nm7 op).take 1)),.int .i64 ((64:Nat):Int),.int .i64 124,.string (str ((nm7 op).drop 4)),.int .u64 (((cutT 124 a):Nat):Int),.int .u64 (((cutT 124 b):Nat):Int)] _
  exact worked_fBA _ _ (beq_iff_eq.2 hk) h0 hl q hp0 hp1 hp2 _ _ _ _ _ _ (rB64 q (by omega) (by omega) _ _ ha' hb')
noncomputable def fB64CB (op q:Int):Bool:=rowB op [124,124] 124 && (((nm7 op).take 1 == [102]) == true) && ((nm7 op).drop 4 == [101,113,122]) == false && decide (((nm7 op).drop 4).length=8) && (((nm7 op).drop 4).take 5 == [116,114,117,110,99]) == false && (((nm7 op).drop 4).take 7 == [99,111,110,118,101,114,116]) == false && (((nm7 op).drop 4).take 4 == [119,114,97,112]) == false && (((nm7 op).drop 4).take 6 == [100,101,109,111,116,101]) == false && (((nm7 op).drop 4).take 6 == [112,114,111,109,111,116]) == false && (((nm7 op).drop 4).take 6 == [114,101,105,110,116,101]) == false && (plL FREL ((nm7 op).drop 4) 0 == -1) && (plL FUN ((nm7 op).drop 4) 0 == -1) && (plL FBIN ((nm7 op).drop 4) 0 == q)
theorem fB64C_good (op q:Int) (hq:q=op - 159) (h1:160≤op) (h2:op < 167) (h:fB64CB op q=true) (a b:Nat) (ha:a < 18446744073709551616) (hb:b < 18446744073709551616):Good op a b:=by
 unfold fB64CB at h
 simp only [Bool.and_eq_true,decide_eq_true_eq,beq_iff_eq] at h
 obtain ⟨⟨⟨⟨⟨⟨⟨⟨⟨⟨⟨⟨hrow,hk⟩,h0⟩,hl⟩,pt⟩,pc⟩,pw⟩,pd⟩,pp⟩,pr⟩,hp0⟩,hp1⟩,hp2⟩:=h
 have ha':=cutT_lt 124 a ha
 have hb':(cutT 124 b) < 18446744073709551616:=by exact cutT_lt 124 b hb
 refine good_of op [124,124] 124 hrow a b (Fl.binW Ieee.double 9 9223372036854775808 9218868437227405312 9221120237041090560 52 (-1074) q.toNat ((cutT 124 a) % 18446744073709551616) ((cutT 124 b) % 18446744073709551616)) 0 ?_ ?_
 ·show AnsG 50 #[.int .i64 op,.int .u64 (((cutT 124 a):Nat):Int),.int .u64 (((cutT 124 b):Nat):Int)] _
  exact Ans.g (res_com op (by omega) (by omega) _ _ _ _ (com_g64 op q hq (by omega) (by omega) _ _ _ _ (pB64 q (by omega) (by omega) _ _ ha' hb')))
 ·show Ans 91 #[.string (str ((nm7 op).take 1)),.int .i64 ((64:Nat):Int),.int .i64 124,.string (str ((nm7 op).drop 4)),.int .u64 (((cutT 124 a):Nat):Int),.int .u64 (((cutT 124 b):Nat):Int)] _
  exact worked_fBC _ _ (beq_iff_eq.2 hk) h0 hl pt pc pw pd pp pr q hp0 hp1 hp2 _ _ _ _ _ _ (rB64 q (by omega) (by omega) _ _ ha' hb')
noncomputable def fU64AB (op q:Int):Bool:=rowB op [124] 124 && (((nm7 op).take 1 == [102]) == true) && ((nm7 op).drop 4 == [101,113,122]) == false && decide (((nm7 op).drop 4).length≤6) && (plL FREL ((nm7 op).drop 4) 0 == -1) && (plL FUN ((nm7 op).drop 4) 0 == q) && decide (1≤q)
theorem fU64A_good (op q:Int) (hq:q=glob6.getD (op - 153).toNat 0) (h1:153≤op) (h2:op < 160) (h:fU64AB op q=true) (a b:Nat) (ha:a < 18446744073709551616) (hb:b < 18446744073709551616):Good op a b:=by
 unfold fU64AB at h
 simp only [Bool.and_eq_true,decide_eq_true_eq,beq_iff_eq] at h
 obtain ⟨⟨⟨⟨⟨⟨hrow,hk⟩,h0⟩,hl⟩,hp0⟩,hp1⟩,hk1⟩:=h
 have ha':=cutT_lt 124 a ha
 have hb':0 < 18446744073709551616:=by decide
 refine good_of op [124] 124 hrow a b (Fl.unW Ieee.double 9223372036854775808 9218868437227405312 9221120237041090560 q.toNat ((cutT 124 a) % 18446744073709551616)) 0 ?_ ?_
 ·show AnsG 50 #[.int .i64 op,.int .u64 (((cutT 124 a):Nat):Int),.int .u64 ((0:Nat):Int)] _
  exact res_comG op (by omega) (by omega) _ _ _ _ (com_fu64 op q hq (by omega) (by omega) _ _ _ _ (pU64 q (tbl64 op q h1 h2 hq).1 (tbl64 op q h1 h2 hq).2 _ ha'))
 ·show Ans 91 #[.string (str ((nm7 op).take 1)),.int .i64 ((64:Nat):Int),.int .i64 124,.string (str ((nm7 op).drop 4)),.int .u64 (((cutT 124 a):Nat):Int),.int .u64 ((0:Nat):Int)] _
  exact worked_fUA _ _ (beq_iff_eq.2 hk) h0 hl q hp0 hp1 (by omega) _ _ _ _ _ _ (rU64 q (tbl64 op q h1 h2 hq).1 (tbl64 op q h1 h2 hq).2 _ ha')
noncomputable def fU64BB (op q:Int):Bool:=rowB op [124] 124 && (((nm7 op).take 1 == [102]) == true) && ((nm7 op).drop 4 == [101,113,122]) == false && decide (((nm7 op).drop 4).length=7) && (((nm7 op).drop 4).take 4 == [119,114,97,112]) == false && (((nm7 op).drop 4).take 6 == [100,101,109,111,116,101]) == false && (((nm7 op).drop 4).take 6 == [112,114,111,109,111,116]) == false && (((nm7 op).drop 4).take 6 == [114,101,105,110,116,101]) == false && (plL FREL ((nm7 op).drop 4) 0 == -1) && (plL FUN ((nm7 op).drop 4) 0 == q) && decide (1≤q)
theorem fU64B_good (op q:Int) (hq:q=glob6.getD (op - 153).toNat 0) (h1:153≤op) (h2:op < 160) (h:fU64BB op q=true) (a b:Nat) (ha:a < 18446744073709551616) (hb:b < 18446744073709551616):Good op a b:=by
 unfold fU64BB at h
 simp only [Bool.and_eq_true,decide_eq_true_eq,beq_iff_eq] at h
 obtain ⟨⟨⟨⟨⟨⟨⟨⟨⟨⟨hrow,hk⟩,h0⟩,hl⟩,pw⟩,pd⟩,pp⟩,pr⟩,hp0⟩,hp1⟩,hk1⟩:=h
 have ha':=cutT_lt 124 a ha
 have hb':0 < 18446744073709551616:=by decide
 refine good_of op [124] 124 hrow a b (Fl.unW Ieee.double 9223372036854775808 9218868437227405312 9221120237041090560 q.toNat ((cutT 124 a) % 18446744073709551616)) 0 ?_ ?_
 ·show AnsG 50 #[.int .i64 op,.int .u64 (((cutT 124 a):Nat):Int),.int .u64 ((0:Nat):Int)] _
  exact res_comG op (by omega) (by omega) _ _ _ _ (com_fu64 op q hq (by omega) (by omega) _ _ _ _ (pU64 q (tbl64 op q h1 h2 hq).1 (tbl64 op q h1 h2 hq).2 _ ha'))
 ·show Ans 91 #[.string (str ((nm7 op).take 1)),.int .i64 ((64:Nat):Int),.int .i64 124,.string (str ((nm7 op).drop 4)),.int .u64 (((cutT 124 a):Nat):Int),.int .u64 ((0:Nat):Int)] _
  exact worked_fUB _ _ (beq_iff_eq.2 hk) h0 hl pw pd pp pr q hp0 hp1 (by omega) _ _ _ _ _ _ (rU64 q (tbl64 op q h1 h2 hq).1 (tbl64 op q h1 h2 hq).2 _ ha')
noncomputable def chkF (op:Int):Bool :=
 if op < 146 then (if op=144 then fU32BB op (glob6.getD (op - 139).toNat 0) else fU32AB op (glob6.getD (op - 139).toNat 0)) else if op < 153 then (if op=152 then fB32CB op (op - 145) else fB32AB op (op - 145)) else
 if op < 160 then (if op=158 then fU64BB op (glob6.getD (op - 153).toNat 0) else fU64AB op (glob6.getD (op - 153).toNat 0)) else (if op=166 then fB64CB op (op - 159) else fB64AB op (op - 159))
theorem floats_all:((List.range 28).all fun k => chkF (139 + (k:Int)))=true:=by kernel_rfl
theorem floats_good (op:Int) (h0:139≤op) (h1:op≤166) (a b:Nat) (ha:a < 18446744073709551616) (hb:b < 18446744073709551616):Good op a b:=by
 obtain ⟨k,hk,rfl⟩:∃ k:Nat,k < 28∧op=139 + (k:Int):=⟨(op - 139).toNat,by omega,by omega⟩
 have h:=List.all_eq_true.1 floats_all k (List.mem_range.2 hk)
 generalize (139:Int) + (k:Int)=op at *
 unfold chkF at h
 split at h
 ·split at h
  ·exact fU32B_good _ _ rfl (by omega) (by omega) h a b ha hb
  ·exact fU32A_good _ _ rfl (by omega) (by omega) h a b ha hb
 split at h
 ·split at h
  ·exact fB32C_good _ _ rfl (by omega) (by omega) h a b ha hb
  ·exact fB32A_good _ _ rfl (by omega) (by omega) h a b ha hb
 split at h
 ·split at h
  ·exact fU64B_good _ _ rfl (by omega) (by omega) h a b ha hb
  ·exact fU64A_good _ _ rfl (by omega) (by omega) h a b ha hb
 ·split at h
  ·exact fB64C_good _ _ rfl (by omega) (by omega) h a b ha hb
  ·exact fB64A_good _ _ rfl (by omega) (by omega) h a b ha hb
set_option maxHeartbeats 4000000 in
theorem law_Floats (a b:Nat) (ha:a < 18446744073709551616) (hb:b < 18446744073709551616) (w:World) (hg:GlobF w):Calls Tryz.prog 17 #[.int .u64 a,.int .u64 b] w fun e w' => e=.returned (.bool true)∧Below w.heap.size w w':=by
 have HA:=fun W h => hid (awake_says W h)
 have HS:=fun W h => hid (some_says 139 166 (by decide) (by decide) (by decide) a b ha hb (fun op h0 h1 => floats_good op h0 h1 a b ha hb) W h)
 have HG:=hid hg
 clear hg ha hb
 go_enter Tryz.func17,Tryz.ntmps17
 go_wp2_with (first
  | (go_at_call 22;(with_reducible refine (HA _ HG.out).out.mono ?_);rintro e w1 ⟨rfl,hb1⟩;have HB1:=hid hb1;clear hb1)
  | (go_at_call 27;(with_reducible refine (HS _ (HG.out.next HB1.out)).out.mono ?_);rintro e w2 ⟨rfl,hb2⟩;have HB2:=hid (HB1.out.trans (hb2.mono HB1.out.size));clear hb2))
 go_ret
 exact ⟨rfl,HB2.out⟩
end Go.Proofs.YtlhakbkdlgejpaaGreatDoor.Sc
namespace Go.Proofs.YtlhakbkdlgejpaaGreatDoor.Sc
open Go.ChangeShapes Go.WideShapes Go.ChangeAt Go.WideMaps Go.WideElems Go.RowKit
theorem own:ownKnob Tryz.prog.godebug=none:=by kernel_rfl
abbrev LAID : List (String × DataW Unit) := [("bodkin/ops.plainAligns", Rows.laid_bodkin_ops_plainAligns), ("bodkin/ops.vectorAligns", Rows.laid_bodkin_ops_vectorAligns), ("bodkin/ops.laneAligns", Rows.laid_bodkin_ops_laneAligns), ("bodkin/ops.laneCounts", Rows.laid_bodkin_ops_laneCounts), ("bodkin/ops.lists", Rows.laid_bodkin_ops_lists), ("bodkin/scalar.floatUnaries", Rows.laid_bodkin_scalar_floatUnaries)]
theorem door_met (os:Os) (args:Array Value):laidMetH Tryz.prog LAID ((World.doorLaid Tryz.prog 60 os).forCall (fun _ _ => 0) ⟨#[],args,[]⟩).memory :=
 laidMetH_of_parts3 (fuel:=8) (laidMet_of_run' 8 (by kernel_rfl) (by kernel_rfl)) (by kernel_rfl) (by kernel_rfl)
theorem g0 : Tryz.prog.globalNamed "bodkin/ops.plainAligns" = some 3 := by kernel_rfl
theorem g1 : Tryz.prog.globalNamed "bodkin/ops.vectorAligns" = some 4 := by kernel_rfl
theorem g2 : Tryz.prog.globalNamed "bodkin/ops.laneAligns" = some 5 := by kernel_rfl
theorem g3 : Tryz.prog.globalNamed "bodkin/ops.laneCounts" = some 0 := by kernel_rfl
theorem g6 : Tryz.prog.globalNamed "bodkin/scalar.floatUnaries" = some 2 := by kernel_rfl
theorem g5 : Tryz.prog.globalNamed "bodkin/ops.lists" = some 1 := by kernel_rfl
theorem y0:(Tryz.prog.globals[3]?).map (·.type)=some 131:=by kernel_rfl
theorem y1:(Tryz.prog.globals[4]?).map (·.type)=some 132:=by kernel_rfl
theorem y2:(Tryz.prog.globals[5]?).map (·.type)=some 133:=by kernel_rfl
theorem y3:(Tryz.prog.globals[0]?).map (·.type)=some 106:=by kernel_rfl
theorem y6:(Tryz.prog.globals[2]?).map (·.type)=some 125:=by kernel_rfl
theorem y5:(Tryz.prog.globals[1]?).map (·.type)=some 108:=by kernel_rfl
theorem k3:Tryz.prog.cellsOf 3=1:=by kernel_rfl
theorem k57:Tryz.prog.cellsOf 107=3:=by kernel_rfl
section
variable {enc:TypeId × Value→Unit} {W:World} {base:Nat} {sp:Nat→Bool} {held:Bool}
theorem three_cells {fuel:Nat} {cs:List Value} {zs:List Int} {p:List MemPlace} (h:DataW.trod enc Tryz.prog W base sp held fuel 107 cs=some (Lib.tabData .i64 zs,p)):cs=zs.map fun z => Value.int .i64 z :=
 Lib.cells_of_tab Tryz.underlying107 Tryz.underlying3 k3 k57 h
theorem arr_cells {T e:TypeId} {n c:Nat} (hT:Tryz.prog.underlying T=some (.array n e)) (hc:Tryz.prog.cellsOf e=c) (hTc:Tryz.prog.cellsOf T=n * c) {fuel:Nat} {cs:List Value} {rows:List (DataW Unit × List Value)} {p:List MemPlace}
  (hel:∀ i,i < n→∀ m cs' q d vs,rows[i]?=some (d,vs)→cs'.length=c→DataW.trod enc Tryz.prog W base sp held m e cs'=some (d,q)→cs'=vs)
  (h:DataW.trod enc Tryz.prog W base sp held fuel T cs=some (.agg (rows.map (·.1)),p)):∀ i,i < n→∃ d vs,rows[i]?=some (d,vs)∧(cs.drop (i * c)).take c=vs:=by
 intro i hi
 obtain ⟨xs,m,_,hx,hl,hxl,hat⟩:=DataW.trod_array hT h
 have h1:=hat i hi
 rw [hc] at h1
 rw [hTc] at hl
 simp only [Prod.mk.injEq,DataW.agg.injEq] at hx
 obtain ⟨y,hy⟩:∃ y,xs[i]?=some y:=⟨_,List.getElem?_eq_getElem (by omega)⟩
 have hr:(rows.map (·.1))[i]?=some y.1:=by rw [hx.1];simp [hy]
 rw [List.getElem?_map] at hr
 obtain ⟨⟨d,vs⟩,hd,hdy⟩:=Option.map_eq_some_iff.1 hr
 refine ⟨d,vs,hd,hel i hi m _ y.2 d vs hd ?_ ?_⟩
 ·rw [List.length_take,List.length_drop,hl]
  have:i * c + c≤n * c:=by rw [← Nat.succ_mul];exact Nat.mul_le_mul_right c hi
  omega
 ·rw [h1,hy]
  have e:d=y.1:=hdy
  rw [e]
end
def listRows:List (DataW Unit × List Value):=(List.range 23).map fun k => (Lib.tabData .i64 ((glob5.drop (3 * k)).take 3),((glob5.drop (3 * k)).take 3).map fun z => Value.int .i64 z)
theorem list_rows:(Rows.laid_bodkin_ops_lists:DataW Unit)=.agg (listRows.map (·.1)):=by kernel_rfl
theorem lists_flat (j:Nat) (h:j < 69):(((glob5.drop (3 * (j / 3))).take 3).map fun z => Value.int .i64 z)[j % 3]?=some (.int .i64 (glob5.getD j 0)):=by
 have e:3 * (j / 3) + j % 3=j:=by omega
 have hl:glob5.length=69:=by decide
 rw [List.getElem?_map,List.getElem?_take_of_lt (by omega),List.getElem?_drop,e,List.getElem?_eq_getElem (by omega)]
 simp [List.getD_eq_getElem?_getD,List.getElem?_eq_getElem (show j < glob5.length by omega)]
theorem laid_flat {W:World} {name:String} {zs:List Int} {g n:Nat} {t:TypeId} {d:DataW Unit} (hg:Tryz.prog.globalNamed name=some g) (hty:(Tryz.prog.globals[g]?).map (·.type)=some t) (ht:Tryz.prog.underlying t=some (.array n 3)) (hct:Tryz.prog.cellsOf t=n)
  (hd:d=Lib.tabData .i64 zs) {rest:List (String × DataW Unit)} (h:laidMet Tryz.prog ((name,d) :: rest) W) (j:Nat) (hj:j < zs.length):W.cell? ⟨g,j,none⟩=some (.int .i64 (zs.getD j 0)):=by
 subst hd
 exact (Lib.tabIs_of_head hg hty ht Tryz.underlying3 k3 hct h).cell hg j hj
theorem of_laid {W:World} (h:laidMetH Tryz.prog LAID W):GlobF W:=by
 rw [MakeChecks.laidMetH_plain _ _ _ (by kernel_rfl)] at h
 have H0:=h
 have H1:=H0.tail
 have H2:=H1.tail
 have H3:=H2.tail
 have H5:=H3.tail
 have H6:=H5.tail
 clear h
 have C5:∀ j,j < 69→W.cell? ⟨1,j,none⟩=some (.int .i64 (glob5.getD j 0)):=by
  obtain ⟨ps,⟨g,t,cs,fuel,p,q,hg,ht,hv,hd,_,_⟩,_⟩:=H5
  obtain rfl:=Option.some.inj (g5.symm.trans hg)
  obtain rfl:=Option.some.inj (y5.symm.trans ht)
  rw [list_rows] at hd
  have:=arr_cells Tryz.underlying108 k57 (by kernel_rfl) (rows:=listRows) (fun i hi m cs' q d vs hr _ htr => by
   rw [listRows,List.getElem?_map,List.getElem?_range hi] at hr
   simp only [Option.map_some,Option.some.injEq,Prod.mk.injEq] at hr
   obtain ⟨rfl,rfl⟩:=hr
   exact three_cells htr) hd
  intro j hj
  obtain ⟨d,vs,hr,he⟩:=this (j / 3) (by omega)
  rw [listRows,List.getElem?_map,List.getElem?_range (by omega)] at hr
  simp only [Option.map_some,Option.some.injEq,Prod.mk.injEq] at hr
  have h3:=lists_flat j hj
  rw [hr.2,← he,List.getElem?_take_of_lt (by omega),List.getElem?_drop,show j / 3 * 3 + j % 3=j by omega] at h3
  have:=World.var?_cell hg hv j
  rw [this]
  simpa using h3
 refine ⟨⟨?_,fun j hj => laid_flat (zs:=glob0) g0 y0 Tryz.underlying131 (by kernel_rfl) (by kernel_rfl) H0 j hj,fun j hj => laid_flat (zs:=glob1) g1 y1 Tryz.underlying132 (by kernel_rfl) (by kernel_rfl) H1 j hj,
  fun j hj => laid_flat (zs:=glob2) g2 y2 Tryz.underlying133 (by kernel_rfl) (by kernel_rfl) H2 j hj,fun j hj => laid_flat (zs:=glob3) g3 y3 Tryz.underlying106 (by kernel_rfl) (by kernel_rfl) H3 j hj,C5⟩,fun j hj => laid_flat (zs:=glob6) g6 y6 Tryz.underlying125 (by kernel_rfl) (by kernel_rfl) H6 j hj⟩
 rcases Nat.lt_or_ge 5 W.heap.size with h | h
 ·exact h
 ·have:=laid_flat (zs:=glob2) g2 y2 Tryz.underlying133 (by kernel_rfl) (by kernel_rfl) H2 0 (by decide)
  rw [World.cell?,Array.getElem?_eq_none h] at this
  cases this
end Go.Proofs.YtlhakbkdlgejpaaGreatDoor.Sc
