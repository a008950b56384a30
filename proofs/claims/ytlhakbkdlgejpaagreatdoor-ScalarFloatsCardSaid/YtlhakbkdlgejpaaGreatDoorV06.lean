/-
  FRUn: merged, what the laws do not reach left out (each text says what it holds where it lies in wip). No condition.
-/
import Derived.Test.YtlhakbkdlgejpaaGreatDoorV05
import Derived.Test.YtlhakbkdlgejpaaGreatDoorX01
set_option linter.unusedSimpArgs false
set_option linter.unusedVariables false
set_option maxRecDepth 100000
namespace Go.Proofs.YtlhakbkdlgejpaaGreatDoor.Fl
open Go.RowKit
theorem ext71_num (v:Nat) (hv:v % 9223372036854775808≤9218868437227405312) (w:World):(callFunc 254 #[.float .f64 v]).run Tryz.prog w=.ok (.value (.float .f64 (Ieee.double.write ((Ieee.double.read v).integral (wayOf 4))))) w:=by
 have := run_callFunc_extern (P := Tryz.prog) (e := Extern.MathFloor.toIntegral "math.archCeil" .up) Tryz.func254 (by kernel_rfl) (by kernel_rfl) (by kernel_rfl) (by kernel_rfl) #[.float .f64 v] w
 rw [this, integral_num "math.archCeil" .up v hv w]; rfl
theorem ext71_nan (v:Nat) (hv:9218868437227405312 < v % 9223372036854775808) (w:World):∃ (N:Nat) (w':World),(callFunc 254 #[.float .f64 v]).run Tryz.prog w=.ok (.value (.float .f64 N)) w'∧9218868437227405312 < N % 9223372036854775808∧Below w.heap.size w w':=by
 obtain ⟨N, w', h1, h2, h3⟩ := integral_nan "math.archCeil" .up v hv w
 have := run_callFunc_extern (P := Tryz.prog) (e := Extern.MathFloor.toIntegral "math.archCeil" .up) Tryz.func254 (by kernel_rfl) (by kernel_rfl) (by kernel_rfl) (by kernel_rfl) #[.float .f64 v] w
 refine ⟨N,w',?_,h2,h3⟩
 rw [this,h1];rfl
theorem whole51_num (v:Nat) (hv:v % 9223372036854775808≤9218868437227405312) (w:World):Calls Tryz.prog 219 #[.float .f64 v] w fun e w' => e=.returned (.float .f64 (Ieee.double.write ((Ieee.double.read v).integral (wayOf 4))))∧w=w':=by
 have hx:∀ W:World,(callFunc 254 #[.float .f64 v]).run Tryz.prog W=.ok (.value (.float .f64 (Ieee.double.write ((Ieee.double.read v).integral (wayOf 4))))) W:=fun W => ext71_num v hv W
 generalize Ieee.double.write ((Ieee.double.read v).integral (wayOf 4))=y at *
 clear hv
 go_enter Tryz.func219,Tryz.ntmps219
 go_wp2
 go_ret
 exact ⟨rfl,rfl⟩
theorem whole51_nan (v:Nat) (hv:9218868437227405312 < v % 9223372036854775808) (w:World):Calls Tryz.prog 219 #[.float .f64 v] w fun e w' => ∃ N:Nat,e=.returned (.float .f64 N)∧9218868437227405312 < N % 9223372036854775808∧Below w.heap.size w w':=by
 obtain ⟨N,w1,hx,hN,hb⟩:=ext71_nan v hv w
 have HN:=hid hN
 have HB:=hid hb
 clear hv hN hb
 go_enter Tryz.func219,Tryz.ntmps219
 go_wp2
 go_ret
 exact ⟨N,rfl,HN.out,HB.out⟩
theorem ext73_num (v:Nat) (hv:v % 9223372036854775808≤9218868437227405312) (w:World):(callFunc 256 #[.float .f64 v]).run Tryz.prog w=.ok (.value (.float .f64 (Ieee.double.write ((Ieee.double.read v).integral (wayOf 5))))) w:=by
 have := run_callFunc_extern (P := Tryz.prog) (e := Extern.MathFloor.toIntegral "math.archFloor" .down) Tryz.func256 (by kernel_rfl) (by kernel_rfl) (by kernel_rfl) (by kernel_rfl) #[.float .f64 v] w
 rw [this, integral_num "math.archFloor" .down v hv w]; rfl
theorem ext73_nan (v:Nat) (hv:9218868437227405312 < v % 9223372036854775808) (w:World):∃ (N:Nat) (w':World),(callFunc 256 #[.float .f64 v]).run Tryz.prog w=.ok (.value (.float .f64 N)) w'∧9218868437227405312 < N % 9223372036854775808∧Below w.heap.size w w':=by
 obtain ⟨N, w', h1, h2, h3⟩ := integral_nan "math.archFloor" .down v hv w
 have := run_callFunc_extern (P := Tryz.prog) (e := Extern.MathFloor.toIntegral "math.archFloor" .down) Tryz.func256 (by kernel_rfl) (by kernel_rfl) (by kernel_rfl) (by kernel_rfl) #[.float .f64 v] w
 refine ⟨N,w',?_,h2,h3⟩
 rw [this,h1];rfl
theorem whole52_num (v:Nat) (hv:v % 9223372036854775808≤9218868437227405312) (w:World):Calls Tryz.prog 220 #[.float .f64 v] w fun e w' => e=.returned (.float .f64 (Ieee.double.write ((Ieee.double.read v).integral (wayOf 5))))∧w=w':=by
 have hx:∀ W:World,(callFunc 256 #[.float .f64 v]).run Tryz.prog W=.ok (.value (.float .f64 (Ieee.double.write ((Ieee.double.read v).integral (wayOf 5))))) W:=fun W => ext73_num v hv W
 generalize Ieee.double.write ((Ieee.double.read v).integral (wayOf 5))=y at *
 clear hv
 go_enter Tryz.func220,Tryz.ntmps220
 go_wp2
 go_ret
 exact ⟨rfl,rfl⟩
theorem whole52_nan (v:Nat) (hv:9218868437227405312 < v % 9223372036854775808) (w:World):Calls Tryz.prog 220 #[.float .f64 v] w fun e w' => ∃ N:Nat,e=.returned (.float .f64 N)∧9218868437227405312 < N % 9223372036854775808∧Below w.heap.size w w':=by
 obtain ⟨N,w1,hx,hN,hb⟩:=ext73_nan v hv w
 have HN:=hid hN
 have HB:=hid hb
 clear hv hN hb
 go_enter Tryz.func220,Tryz.ntmps220
 go_wp2
 go_ret
 exact ⟨N,rfl,HN.out,HB.out⟩
theorem ext75_num (v:Nat) (hv:v % 9223372036854775808≤9218868437227405312) (w:World):(callFunc 258 #[.float .f64 v]).run Tryz.prog w=.ok (.value (.float .f64 (Ieee.double.write ((Ieee.double.read v).integral (wayOf 6))))) w:=by
 have := run_callFunc_extern (P := Tryz.prog) (e := Extern.MathFloor.toIntegral "math.archTrunc" .zero) Tryz.func258 (by kernel_rfl) (by kernel_rfl) (by kernel_rfl) (by kernel_rfl) #[.float .f64 v] w
 rw [this, integral_num "math.archTrunc" .zero v hv w]; rfl
theorem ext75_nan (v:Nat) (hv:9218868437227405312 < v % 9223372036854775808) (w:World):∃ (N:Nat) (w':World),(callFunc 258 #[.float .f64 v]).run Tryz.prog w=.ok (.value (.float .f64 N)) w'∧9218868437227405312 < N % 9223372036854775808∧Below w.heap.size w w':=by
 obtain ⟨N, w', h1, h2, h3⟩ := integral_nan "math.archTrunc" .zero v hv w
 have := run_callFunc_extern (P := Tryz.prog) (e := Extern.MathFloor.toIntegral "math.archTrunc" .zero) Tryz.func258 (by kernel_rfl) (by kernel_rfl) (by kernel_rfl) (by kernel_rfl) #[.float .f64 v] w
 refine ⟨N,w',?_,h2,h3⟩
 rw [this,h1];rfl
theorem whole53_num (v:Nat) (hv:v % 9223372036854775808≤9218868437227405312) (w:World):Calls Tryz.prog 221 #[.float .f64 v] w fun e w' => e=.returned (.float .f64 (Ieee.double.write ((Ieee.double.read v).integral (wayOf 6))))∧w=w':=by
 have hx:∀ W:World,(callFunc 258 #[.float .f64 v]).run Tryz.prog W=.ok (.value (.float .f64 (Ieee.double.write ((Ieee.double.read v).integral (wayOf 6))))) W:=fun W => ext75_num v hv W
 generalize Ieee.double.write ((Ieee.double.read v).integral (wayOf 6))=y at *
 clear hv
 go_enter Tryz.func221,Tryz.ntmps221
 go_wp2
 go_ret
 exact ⟨rfl,rfl⟩
theorem whole53_nan (v:Nat) (hv:9218868437227405312 < v % 9223372036854775808) (w:World):Calls Tryz.prog 221 #[.float .f64 v] w fun e w' => ∃ N:Nat,e=.returned (.float .f64 N)∧9218868437227405312 < N % 9223372036854775808∧Below w.heap.size w w':=by
 obtain ⟨N,w1,hx,hN,hb⟩:=ext75_nan v hv w
 have HN:=hid hN
 have HB:=hid hb
 clear hv hN hb
 go_enter Tryz.func221,Tryz.ntmps221
 go_wp2
 go_ret
 exact ⟨N,rfl,HN.out,HB.out⟩
theorem ext54_num (v:Nat) (hv:v % 9223372036854775808≤9218868437227405312) (w:World):(callFunc 222 #[.float .f64 v]).run Tryz.prog w=.ok (.value (.float .f64 (Ieee.double.write ((Ieee.double.read v).integral (wayOf 7))))) w:=by
 have := run_callFunc_extern (P := Tryz.prog) (e := Extern.MathFloor.toIntegral "math.RoundToEven" .even) Tryz.func222 (by kernel_rfl) (by kernel_rfl) (by kernel_rfl) (by kernel_rfl) #[.float .f64 v] w
 rw [this, integral_num "math.RoundToEven" .even v hv w]; rfl
theorem ext54_nan (v:Nat) (hv:9218868437227405312 < v % 9223372036854775808) (w:World):∃ (N:Nat) (w':World),(callFunc 222 #[.float .f64 v]).run Tryz.prog w=.ok (.value (.float .f64 N)) w'∧9218868437227405312 < N % 9223372036854775808∧Below w.heap.size w w':=by
 obtain ⟨N, w', h1, h2, h3⟩ := integral_nan "math.RoundToEven" .even v hv w
 have := run_callFunc_extern (P := Tryz.prog) (e := Extern.MathFloor.toIntegral "math.RoundToEven" .even) Tryz.func222 (by kernel_rfl) (by kernel_rfl) (by kernel_rfl) (by kernel_rfl) #[.float .f64 v] w
 refine ⟨N,w',?_,h2,h3⟩
 rw [this,h1];rfl
theorem RUn_32_1 (a:Nat) (ha:a < 18446744073709551616) (w:World) :
  Calls Tryz.prog 147 #[.int .i64 32,.int .i64 1,.int .u64 (a:Int)] w fun e w' => e=.returned (.tuple #[.int .u64 ((unW Ieee.single 2147483648 2139095040 2143289344 1 (a % 4294967296):Nat):Int),.int .i64 0])∧Below w.heap.size w w':=by
 have HCA:=fun W => hid (rcut_32 a  W)
 rw [show unW Ieee.single 2147483648 2139095040 2143289344 1 (a % 4294967296)=a % 4294967296 % 2147483648 from rfl]
 generalize a % 4294967296=c at *
 obtain ⟨y,hy⟩:∃ y:Nat,y=c % 2147483648:=⟨_,rfl⟩
 have h1:(c:Int) % 2147483648=(y:Int):=by omega
 rw [← hy]
 clear hy ha
 go_enter Tryz.func147,Tryz.ntmps147
 go_wp2_with (first
   | (go_at_call 216;((with_reducible refine (HCA _).out.mono ?_);rintro e w1 ⟨rfl,rfl⟩))
   | (go_at_call 217;((with_reducible refine (rsign_32 _).mono ?_);rintro e w3 ⟨rfl,rfl⟩)))
 exact bodyPost_ret (v:=.tuple #[.int .u64 (y:Int),.int .i64 0]) (by simp [results,Tryz.results147,go_sem,h1]) rfl ⟨rfl,Below.refl _ _⟩
theorem RUn_32_2 (a:Nat) (ha:a < 18446744073709551616) (w:World) :
  Calls Tryz.prog 147 #[.int .i64 32,.int .i64 2,.int .u64 (a:Int)] w fun e w' => e=.returned (.tuple #[.int .u64 ((unW Ieee.single 2147483648 2139095040 2143289344 2 (a % 4294967296):Nat):Int),.int .i64 0])∧Below w.heap.size w w':=by
 have HCA:=fun W => hid (rcut_32 a  W)
 have hc:a % 4294967296 < 2 * 2147483648:=by omega
 rw [show unW Ieee.single 2147483648 2139095040 2143289344 2 (a % 4294967296)=oppN 2147483648 (a % 4294967296) from rfl]
 generalize a % 4294967296=c at *
 obtain ⟨y,hy⟩:∃ y:Nat,y=oppN 2147483648 c:=⟨_,rfl⟩
 rw [← hy]
 unfold oppN at hy
 by_cases h:2147483648≤c
 ·rw [if_pos h] at hy
  have hd:decide ((2147483648:Int)≤(c:Int))=true:=decide_eq_true (by omega)
  have h1:IntKind.u64.wrap ((c:Int) - 2147483648)=(y:Int):=by rw [IntKind.wrap_u64];omega
  clear hy ha hc h
  go_enter Tryz.func147,Tryz.ntmps147
  go_wp2_with (first
   | (go_at_call 216;((with_reducible refine (HCA _).out.mono ?_);rintro e w1 ⟨rfl,rfl⟩))
   | (go_at_call 217;((with_reducible refine (rsign_32 _).mono ?_);rintro e w3 ⟨rfl,rfl⟩)))
  exact bodyPost_ret (v:=.tuple #[.int .u64 (y:Int),.int .i64 0]) (by simp [results,Tryz.results147,go_sem,h1]) rfl ⟨rfl,Below.refl _ _⟩
 ·rw [if_neg h] at hy
  have hd:decide ((2147483648:Int)≤(c:Int))=false:=decide_eq_false (by omega)
  have h1:IntKind.u64.wrap ((c:Int) + 2147483648)=(y:Int):=by rw [IntKind.wrap_u64];omega
  clear hy ha hc h
  go_enter Tryz.func147,Tryz.ntmps147
  go_wp2_with (first
   | (go_at_call 216;((with_reducible refine (HCA _).out.mono ?_);rintro e w1 ⟨rfl,rfl⟩))
   | (go_at_call 217;((with_reducible refine (rsign_32 _).mono ?_);rintro e w3 ⟨rfl,rfl⟩)))
  exact bodyPost_ret (v:=.tuple #[.int .u64 (y:Int),.int .i64 0]) (by simp [results,Tryz.results147,go_sem,h1]) rfl ⟨rfl,Below.refl _ _⟩
set_option maxRecDepth 20000 in
set_option maxHeartbeats 3200000 in
theorem RUw_32_4_num (a c v y r:Nat) (hv:v % 9223372036854775808≤9218868437227405312) (hy:y=Ieee.double.write ((Ieee.double.read v).integral (wayOf 4)))
  (hr:r < 2 * 2147483648∧r % 2147483648≤2139095040) (hyr:floatToFloatBits .f64 y .f32=some r)
  (HCA:∀ W,Hid (Calls Tryz.prog 216 #[.int .i64 32,.int .u64 (a:Int)] W fun e w' => e=.returned (.int .u64 (c:Int))∧W=w'))
  (HVA:∀ W,Hid (Calls Tryz.prog 215 #[.int .i64 32,.int .u64 (c:Int)] W fun e w' => e=.returned (.float .f64 v)∧Below W.heap.size W w')) (w:World) :
  Calls Tryz.prog 147 #[.int .i64 32,.int .i64 4,.int .u64 (a:Int)] w fun e w' => e=.returned (.tuple #[.int .u64 (r:Int),.int .i64 0])∧Below w.heap.size w w':=by
 have HS:=fun W => hid (whole51_num v hv W)
 rw [← hy] at HS
 have hcv:∀ W:World,(convert 159 164 (.float .f64 y)).run Tryz.prog W=.ok (.float .f32 r) W:=fun W => conv_num64 y r hyr W
 have HB:=fun W => hid (BB_32 r hr.1 hr.2 W)
 clear hv hr hy hyr
 go_enter Tryz.func147,Tryz.ntmps147
 go_wp2_with (first
   | (go_at_call 216;((with_reducible refine (HCA _).out.mono ?_);rintro e w1 ⟨rfl,rfl⟩))
   | (go_at_call 217;((with_reducible refine (rsign_32 _).mono ?_);rintro e w3 ⟨rfl,rfl⟩))
   | (go_at_call 215;((with_reducible refine (HVA _).out.mono ?_);rintro e w1 ⟨rfl,hb1⟩))
   | (go_at_call 219;((with_reducible refine (HS _).out.mono ?_);rintro e w1 ⟨rfl,rfl⟩))
   | (go_at_call 223;((with_reducible refine (HB _).out.mono ?_);rintro e w3 ⟨rfl,rfl⟩)))
 go_ret2
 exact ⟨rfl,hb1⟩
set_option maxRecDepth 20000 in
set_option maxHeartbeats 3200000 in
theorem RUw_32_4_nan (a c:Nat)
  (HCA:∀ W,Hid (Calls Tryz.prog 216 #[.int .i64 32,.int .u64 (a:Int)] W fun e w' => e=.returned (.int .u64 (c:Int))∧W=w'))
  (HVA:∀ W,Hid (Calls Tryz.prog 215 #[.int .i64 32,.int .u64 (c:Int)] W fun e w' => ∃ v:Nat,e=.returned (.float .f64 v)∧9218868437227405312 < v % 9223372036854775808∧Below W.heap.size W w')) (w:World) :
  Calls Tryz.prog 147 #[.int .i64 32,.int .i64 4,.int .u64 (a:Int)] w fun e w' => e=.returned (.tuple #[.int .u64 2143289344,.int .i64 0])∧Below w.heap.size w w':=by
 have HB:=hid BB_32_nan
 have HSN:=hid (whole51_nan)
 go_enter Tryz.func147,Tryz.ntmps147
 go_wp2_with (first
   | (go_at_call 216;((with_reducible refine (HCA _).out.mono ?_);rintro e w1 ⟨rfl,rfl⟩))
   | (go_at_call 217;((with_reducible refine (rsign_32 _).mono ?_);rintro e w3 ⟨rfl,rfl⟩))
   | (go_at_call 215;((with_reducible refine (HVA _).out.mono ?_);rintro e w1 ⟨v,rfl,hv,hb1⟩;have HV:=hid hv;clear hv))
   | (go_at_call 219;((with_reducible refine (HSN.out _ HV.out _).mono ?_);rintro e w2 ⟨N,rfl,hN,hb2⟩;obtain ⟨M,hcv,hM⟩:=conv_nan64 N hN w2;have HN:=hid hM;clear hN hM))
   | (go_at_call 223;((with_reducible refine (HB.out _ HN.out _).mono ?_);rintro e w3 ⟨rfl,rfl⟩)))
 go_ret2
 exact ⟨rfl,(bnext hb1 hb2).drew⟩
theorem RUn_32_4 (a:Nat) (ha:a < 18446744073709551616) (w:World) :
  Calls Tryz.prog 147 #[.int .i64 32,.int .i64 4,.int .u64 (a:Int)] w fun e w' => e=.returned (.tuple #[.int .u64 ((unW Ieee.single 2147483648 2139095040 2143289344 4 (a % 4294967296):Nat):Int),.int .i64 0])∧Below w.heap.size w w':=by
 have HCA:=fun W => hid (rcut_32 a  W)
 have hc:a % 4294967296 < 2 * 2147483648:=by omega
 generalize a % 4294967296=c at *
 have HV:∀ W,Hid (Calls Tryz.prog 215 #[.int .i64 32,.int .u64 (c:Int)] W (VPost 2147483648 2139095040 c W)):=fun W => hid (by have:=value_32 c W;rw [Nat.mod_eq_of_lt (show c < 4294967296 from hc)] at this;exact this)
 have hu:unW Ieee.single 2147483648 2139095040 2143289344 4 c=wholeW Ieee.single 2147483648 2139095040 2143289344 4 c:=by unfold unW;rw [if_neg (by decide),if_neg (by decide),if_neg (by decide)]
 rw [hu]
 by_cases hn:2139095040 < c % 2147483648
 ·have hk:wholeW Ieee.single 2147483648 2139095040 2143289344 4 c=2143289344:=by unfold wholeW;rw [if_pos (by rw [kindOf_four];exact hn)]
  rw [hk]
  refine RUw_32_4_nan a c HCA (fun W => hid ((HV W).out.mono fun e w' ⟨v,h1,h2,h3⟩ => ⟨v,h1,?_,h3⟩)) w
  rcases h2 with ⟨_,h⟩ | ⟨h,_⟩
  ·exact h
  ·exact absurd hn (by omega)
 ·have hk:wholeW Ieee.single 2147483648 2139095040 2143289344 4 c=Ieee.single.write ((Ieee.single.read c).integral (wayOf 4)):=by unfold wholeW;rw [if_neg (by rw [kindOf_four];exact hn)]
  rw [hk]
  have hr:Ieee.single.write ((Ieee.single.read c).integral (wayOf 4)) < 2 * 2147483648∧Ieee.single.write ((Ieee.single.read c).integral (wayOf 4)) % 2147483648≤2139095040:=by
   refine write_fin fmt_single _ ?_
   rcases Nat.lt_or_ge (c % 2147483648) 2139095040 with h1 | h1
   ·rw [read_fin (f:=Ieee.single) fmt_single.sb fmt_single.fr fmt_single.lp hc h1];rfl
   ·rw [read_inf (f:=Ieee.single) fmt_single.sb hc fmt_single.bi (by show c % 2147483648=2139095040;omega)];rfl
  have hvr:=vS_read hc (by omega)
  refine RUw_32_4_num a c (vS c) _ _ hvr.2.2 rfl hr (conv_whole hc (by omega) _) HCA (fun W => hid ((HV W).out.mono fun e w' ⟨v,h1,h2,h3⟩ => ⟨?_,h3⟩)) w
  rcases h2 with ⟨h,_⟩ | ⟨_,_,h5⟩
  ·exact absurd h hn
  ·rcases h5 with ⟨_,_,h6⟩ | ⟨h6,_,_⟩
   ·rw [h1,h6]
   ·exact absurd h6 (by decide)
set_option maxRecDepth 20000 in
set_option maxHeartbeats 3200000 in
theorem RUw_32_5_num (a c v y r:Nat) (hv:v % 9223372036854775808≤9218868437227405312) (hy:y=Ieee.double.write ((Ieee.double.read v).integral (wayOf 5)))
  (hr:r < 2 * 2147483648∧r % 2147483648≤2139095040) (hyr:floatToFloatBits .f64 y .f32=some r)
  (HCA:∀ W,Hid (Calls Tryz.prog 216 #[.int .i64 32,.int .u64 (a:Int)] W fun e w' => e=.returned (.int .u64 (c:Int))∧W=w'))
  (HVA:∀ W,Hid (Calls Tryz.prog 215 #[.int .i64 32,.int .u64 (c:Int)] W fun e w' => e=.returned (.float .f64 v)∧Below W.heap.size W w')) (w:World) :
  Calls Tryz.prog 147 #[.int .i64 32,.int .i64 5,.int .u64 (a:Int)] w fun e w' => e=.returned (.tuple #[.int .u64 (r:Int),.int .i64 0])∧Below w.heap.size w w':=by
 have HS:=fun W => hid (whole52_num v hv W)
 rw [← hy] at HS
 have hcv:∀ W:World,(convert 159 164 (.float .f64 y)).run Tryz.prog W=.ok (.float .f32 r) W:=fun W => conv_num64 y r hyr W
 have HB:=fun W => hid (BB_32 r hr.1 hr.2 W)
 clear hv hr hy hyr
 go_enter Tryz.func147,Tryz.ntmps147
 go_wp2_with (first
   | (go_at_call 216;((with_reducible refine (HCA _).out.mono ?_);rintro e w1 ⟨rfl,rfl⟩))
   | (go_at_call 217;((with_reducible refine (rsign_32 _).mono ?_);rintro e w3 ⟨rfl,rfl⟩))
   | (go_at_call 215;((with_reducible refine (HVA _).out.mono ?_);rintro e w1 ⟨rfl,hb1⟩))
   | (go_at_call 220;((with_reducible refine (HS _).out.mono ?_);rintro e w1 ⟨rfl,rfl⟩))
   | (go_at_call 223;((with_reducible refine (HB _).out.mono ?_);rintro e w3 ⟨rfl,rfl⟩)))
 go_ret2
 exact ⟨rfl,hb1⟩
set_option maxRecDepth 20000 in
set_option maxHeartbeats 3200000 in
theorem RUw_32_5_nan (a c:Nat)
  (HCA:∀ W,Hid (Calls Tryz.prog 216 #[.int .i64 32,.int .u64 (a:Int)] W fun e w' => e=.returned (.int .u64 (c:Int))∧W=w'))
  (HVA:∀ W,Hid (Calls Tryz.prog 215 #[.int .i64 32,.int .u64 (c:Int)] W fun e w' => ∃ v:Nat,e=.returned (.float .f64 v)∧9218868437227405312 < v % 9223372036854775808∧Below W.heap.size W w')) (w:World) :
  Calls Tryz.prog 147 #[.int .i64 32,.int .i64 5,.int .u64 (a:Int)] w fun e w' => e=.returned (.tuple #[.int .u64 2143289344,.int .i64 0])∧Below w.heap.size w w':=by
 have HB:=hid BB_32_nan
 have HSN:=hid (whole52_nan)
 go_enter Tryz.func147,Tryz.ntmps147
 go_wp2_with (first
   | (go_at_call 216;((with_reducible refine (HCA _).out.mono ?_);rintro e w1 ⟨rfl,rfl⟩))
   | (go_at_call 217;((with_reducible refine (rsign_32 _).mono ?_);rintro e w3 ⟨rfl,rfl⟩))
   | (go_at_call 215;((with_reducible refine (HVA _).out.mono ?_);rintro e w1 ⟨v,rfl,hv,hb1⟩;have HV:=hid hv;clear hv))
   | (go_at_call 220;((with_reducible refine (HSN.out _ HV.out _).mono ?_);rintro e w2 ⟨N,rfl,hN,hb2⟩;obtain ⟨M,hcv,hM⟩:=conv_nan64 N hN w2;have HN:=hid hM;clear hN hM))
   | (go_at_call 223;((with_reducible refine (HB.out _ HN.out _).mono ?_);rintro e w3 ⟨rfl,rfl⟩)))
 go_ret2
 exact ⟨rfl,(bnext hb1 hb2).drew⟩
theorem RUn_32_5 (a:Nat) (ha:a < 18446744073709551616) (w:World) :
  Calls Tryz.prog 147 #[.int .i64 32,.int .i64 5,.int .u64 (a:Int)] w fun e w' => e=.returned (.tuple #[.int .u64 ((unW Ieee.single 2147483648 2139095040 2143289344 5 (a % 4294967296):Nat):Int),.int .i64 0])∧Below w.heap.size w w':=by
 have HCA:=fun W => hid (rcut_32 a  W)
 have hc:a % 4294967296 < 2 * 2147483648:=by omega
 generalize a % 4294967296=c at *
 have HV:∀ W,Hid (Calls Tryz.prog 215 #[.int .i64 32,.int .u64 (c:Int)] W (VPost 2147483648 2139095040 c W)):=fun W => hid (by have:=value_32 c W;rw [Nat.mod_eq_of_lt (show c < 4294967296 from hc)] at this;exact this)
 have hu:unW Ieee.single 2147483648 2139095040 2143289344 5 c=wholeW Ieee.single 2147483648 2139095040 2143289344 5 c:=by unfold unW;rw [if_neg (by decide),if_neg (by decide),if_neg (by decide)]
 rw [hu]
 by_cases hn:2139095040 < c % 2147483648
 ·have hk:wholeW Ieee.single 2147483648 2139095040 2143289344 5 c=2143289344:=by unfold wholeW;rw [if_pos (by rw [kindOf_four];exact hn)]
  rw [hk]
  refine RUw_32_5_nan a c HCA (fun W => hid ((HV W).out.mono fun e w' ⟨v,h1,h2,h3⟩ => ⟨v,h1,?_,h3⟩)) w
  rcases h2 with ⟨_,h⟩ | ⟨h,_⟩
  ·exact h
  ·exact absurd hn (by omega)
 ·have hk:wholeW Ieee.single 2147483648 2139095040 2143289344 5 c=Ieee.single.write ((Ieee.single.read c).integral (wayOf 5)):=by unfold wholeW;rw [if_neg (by rw [kindOf_four];exact hn)]
  rw [hk]
  have hr:Ieee.single.write ((Ieee.single.read c).integral (wayOf 5)) < 2 * 2147483648∧Ieee.single.write ((Ieee.single.read c).integral (wayOf 5)) % 2147483648≤2139095040:=by
   refine write_fin fmt_single _ ?_
   rcases Nat.lt_or_ge (c % 2147483648) 2139095040 with h1 | h1
   ·rw [read_fin (f:=Ieee.single) fmt_single.sb fmt_single.fr fmt_single.lp hc h1];rfl
   ·rw [read_inf (f:=Ieee.single) fmt_single.sb hc fmt_single.bi (by show c % 2147483648=2139095040;omega)];rfl
  have hvr:=vS_read hc (by omega)
  refine RUw_32_5_num a c (vS c) _ _ hvr.2.2 rfl hr (conv_whole hc (by omega) _) HCA (fun W => hid ((HV W).out.mono fun e w' ⟨v,h1,h2,h3⟩ => ⟨?_,h3⟩)) w
  rcases h2 with ⟨h,_⟩ | ⟨_,_,h5⟩
  ·exact absurd h hn
  ·rcases h5 with ⟨_,_,h6⟩ | ⟨h6,_,_⟩
   ·rw [h1,h6]
   ·exact absurd h6 (by decide)
set_option maxRecDepth 20000 in
set_option maxHeartbeats 3200000 in
theorem RUw_32_6_num (a c v y r:Nat) (hv:v % 9223372036854775808≤9218868437227405312) (hy:y=Ieee.double.write ((Ieee.double.read v).integral (wayOf 6)))
  (hr:r < 2 * 2147483648∧r % 2147483648≤2139095040) (hyr:floatToFloatBits .f64 y .f32=some r)
  (HCA:∀ W,Hid (Calls Tryz.prog 216 #[.int .i64 32,.int .u64 (a:Int)] W fun e w' => e=.returned (.int .u64 (c:Int))∧W=w'))
  (HVA:∀ W,Hid (Calls Tryz.prog 215 #[.int .i64 32,.int .u64 (c:Int)] W fun e w' => e=.returned (.float .f64 v)∧Below W.heap.size W w')) (w:World) :
  Calls Tryz.prog 147 #[.int .i64 32,.int .i64 6,.int .u64 (a:Int)] w fun e w' => e=.returned (.tuple #[.int .u64 (r:Int),.int .i64 0])∧Below w.heap.size w w':=by
 have HS:=fun W => hid (whole53_num v hv W)
 rw [← hy] at HS
 have hcv:∀ W:World,(convert 159 164 (.float .f64 y)).run Tryz.prog W=.ok (.float .f32 r) W:=fun W => conv_num64 y r hyr W
 have HB:=fun W => hid (BB_32 r hr.1 hr.2 W)
 clear hv hr hy hyr
 go_enter Tryz.func147,Tryz.ntmps147
 go_wp2_with (first
   | (go_at_call 216;((with_reducible refine (HCA _).out.mono ?_);rintro e w1 ⟨rfl,rfl⟩))
   | (go_at_call 217;((with_reducible refine (rsign_32 _).mono ?_);rintro e w3 ⟨rfl,rfl⟩))
   | (go_at_call 215;((with_reducible refine (HVA _).out.mono ?_);rintro e w1 ⟨rfl,hb1⟩))
   | (go_at_call 221;((with_reducible refine (HS _).out.mono ?_);rintro e w1 ⟨rfl,rfl⟩))
   | (go_at_call 223;((with_reducible refine (HB _).out.mono ?_);rintro e w3 ⟨rfl,rfl⟩)))
 go_ret2
 exact ⟨rfl,hb1⟩
set_option maxRecDepth 20000 in
set_option maxHeartbeats 3200000 in
theorem RUw_32_6_nan (a c:Nat)
  (HCA:∀ W,Hid (Calls Tryz.prog 216 #[.int .i64 32,.int .u64 (a:Int)] W fun e w' => e=.returned (.int .u64 (c:Int))∧W=w'))
  (HVA:∀ W,Hid (Calls Tryz.prog 215 #[.int .i64 32,.int .u64 (c:Int)] W fun e w' => ∃ v:Nat,e=.returned (.float .f64 v)∧9218868437227405312 < v % 9223372036854775808∧Below W.heap.size W w')) (w:World) :
  Calls Tryz.prog 147 #[.int .i64 32,.int .i64 6,.int .u64 (a:Int)] w fun e w' => e=.returned (.tuple #[.int .u64 2143289344,.int .i64 0])∧Below w.heap.size w w':=by
 have HB:=hid BB_32_nan
 have HSN:=hid (whole53_nan)
 go_enter Tryz.func147,Tryz.ntmps147
 go_wp2_with (first
   | (go_at_call 216;((with_reducible refine (HCA _).out.mono ?_);rintro e w1 ⟨rfl,rfl⟩))
   | (go_at_call 217;((with_reducible refine (rsign_32 _).mono ?_);rintro e w3 ⟨rfl,rfl⟩))
   | (go_at_call 215;((with_reducible refine (HVA _).out.mono ?_);rintro e w1 ⟨v,rfl,hv,hb1⟩;have HV:=hid hv;clear hv))
   | (go_at_call 221;((with_reducible refine (HSN.out _ HV.out _).mono ?_);rintro e w2 ⟨N,rfl,hN,hb2⟩;obtain ⟨M,hcv,hM⟩:=conv_nan64 N hN w2;have HN:=hid hM;clear hN hM))
   | (go_at_call 223;((with_reducible refine (HB.out _ HN.out _).mono ?_);rintro e w3 ⟨rfl,rfl⟩)))
 go_ret2
 exact ⟨rfl,(bnext hb1 hb2).drew⟩
theorem RUn_32_6 (a:Nat) (ha:a < 18446744073709551616) (w:World) :
  Calls Tryz.prog 147 #[.int .i64 32,.int .i64 6,.int .u64 (a:Int)] w fun e w' => e=.returned (.tuple #[.int .u64 ((unW Ieee.single 2147483648 2139095040 2143289344 6 (a % 4294967296):Nat):Int),.int .i64 0])∧Below w.heap.size w w':=by
 have HCA:=fun W => hid (rcut_32 a  W)
 have hc:a % 4294967296 < 2 * 2147483648:=by omega
 generalize a % 4294967296=c at *
 have HV:∀ W,Hid (Calls Tryz.prog 215 #[.int .i64 32,.int .u64 (c:Int)] W (VPost 2147483648 2139095040 c W)):=fun W => hid (by have:=value_32 c W;rw [Nat.mod_eq_of_lt (show c < 4294967296 from hc)] at this;exact this)
 have hu:unW Ieee.single 2147483648 2139095040 2143289344 6 c=wholeW Ieee.single 2147483648 2139095040 2143289344 6 c:=by unfold unW;rw [if_neg (by decide),if_neg (by decide),if_neg (by decide)]
 rw [hu]
 by_cases hn:2139095040 < c % 2147483648
 ·have hk:wholeW Ieee.single 2147483648 2139095040 2143289344 6 c=2143289344:=by unfold wholeW;rw [if_pos (by rw [kindOf_four];exact hn)]
  rw [hk]
  refine RUw_32_6_nan a c HCA (fun W => hid ((HV W).out.mono fun e w' ⟨v,h1,h2,h3⟩ => ⟨v,h1,?_,h3⟩)) w
  rcases h2 with ⟨_,h⟩ | ⟨h,_⟩
  ·exact h
  ·exact absurd hn (by omega)
 ·have hk:wholeW Ieee.single 2147483648 2139095040 2143289344 6 c=Ieee.single.write ((Ieee.single.read c).integral (wayOf 6)):=by unfold wholeW;rw [if_neg (by rw [kindOf_four];exact hn)]
  rw [hk]
  have hr:Ieee.single.write ((Ieee.single.read c).integral (wayOf 6)) < 2 * 2147483648∧Ieee.single.write ((Ieee.single.read c).integral (wayOf 6)) % 2147483648≤2139095040:=by
   refine write_fin fmt_single _ ?_
   rcases Nat.lt_or_ge (c % 2147483648) 2139095040 with h1 | h1
   ·rw [read_fin (f:=Ieee.single) fmt_single.sb fmt_single.fr fmt_single.lp hc h1];rfl
   ·rw [read_inf (f:=Ieee.single) fmt_single.sb hc fmt_single.bi (by show c % 2147483648=2139095040;omega)];rfl
  have hvr:=vS_read hc (by omega)
  refine RUw_32_6_num a c (vS c) _ _ hvr.2.2 rfl hr (conv_whole hc (by omega) _) HCA (fun W => hid ((HV W).out.mono fun e w' ⟨v,h1,h2,h3⟩ => ⟨?_,h3⟩)) w
  rcases h2 with ⟨h,_⟩ | ⟨_,_,h5⟩
  ·exact absurd h hn
  ·rcases h5 with ⟨_,_,h6⟩ | ⟨h6,_,_⟩
   ·rw [h1,h6]
   ·exact absurd h6 (by decide)
set_option maxRecDepth 20000 in
set_option maxHeartbeats 3200000 in
theorem RUw_32_7_num (a c v y r:Nat) (hv:v % 9223372036854775808≤9218868437227405312) (hy:y=Ieee.double.write ((Ieee.double.read v).integral (wayOf 7)))
  (hr:r < 2 * 2147483648∧r % 2147483648≤2139095040) (hyr:floatToFloatBits .f64 y .f32=some r)
  (HCA:∀ W,Hid (Calls Tryz.prog 216 #[.int .i64 32,.int .u64 (a:Int)] W fun e w' => e=.returned (.int .u64 (c:Int))∧W=w'))
  (HVA:∀ W,Hid (Calls Tryz.prog 215 #[.int .i64 32,.int .u64 (c:Int)] W fun e w' => e=.returned (.float .f64 v)∧Below W.heap.size W w')) (w:World) :
  Calls Tryz.prog 147 #[.int .i64 32,.int .i64 7,.int .u64 (a:Int)] w fun e w' => e=.returned (.tuple #[.int .u64 (r:Int),.int .i64 0])∧Below w.heap.size w w':=by
 have hx:∀ W:World,(callFunc 222 #[.float .f64 v]).run Tryz.prog W=.ok (.value (.float .f64 y)) W:=fun W => by rw [hy];exact ext54_num v hv W
 have hcv:∀ W:World,(convert 159 164 (.float .f64 y)).run Tryz.prog W=.ok (.float .f32 r) W:=fun W => conv_num64 y r hyr W
 have HB:=fun W => hid (BB_32 r hr.1 hr.2 W)
 clear hv hr hy hyr
 go_enter Tryz.func147,Tryz.ntmps147
 go_wp2_with (first
   | (go_at_call 216;((with_reducible refine (HCA _).out.mono ?_);rintro e w1 ⟨rfl,rfl⟩))
   | (go_at_call 217;((with_reducible refine (rsign_32 _).mono ?_);rintro e w3 ⟨rfl,rfl⟩))
   | (go_at_call 215;((with_reducible refine (HVA _).out.mono ?_);rintro e w1 ⟨rfl,hb1⟩))
   | (go_at_call 223;((with_reducible refine (HB _).out.mono ?_);rintro e w3 ⟨rfl,rfl⟩)))
 go_ret2
 exact ⟨rfl,hb1⟩
set_option maxRecDepth 20000 in
set_option maxHeartbeats 3200000 in
theorem RUw_32_7_nan (a c:Nat)
  (HCA:∀ W,Hid (Calls Tryz.prog 216 #[.int .i64 32,.int .u64 (a:Int)] W fun e w' => e=.returned (.int .u64 (c:Int))∧W=w'))
  (HVA:∀ W,Hid (Calls Tryz.prog 215 #[.int .i64 32,.int .u64 (c:Int)] W fun e w' => ∃ v:Nat,e=.returned (.float .f64 v)∧9218868437227405312 < v % 9223372036854775808∧Below W.heap.size W w')) (w:World) :
  Calls Tryz.prog 147 #[.int .i64 32,.int .i64 7,.int .u64 (a:Int)] w fun e w' => e=.returned (.tuple #[.int .u64 2143289344,.int .i64 0])∧Below w.heap.size w w':=by
 have HB:=hid BB_32_nan
 go_enter Tryz.func147,Tryz.ntmps147
 go_wp2_with (first
   | (go_at_call 216;((with_reducible refine (HCA _).out.mono ?_);rintro e w1 ⟨rfl,rfl⟩))
   | (go_at_call 217;((with_reducible refine (rsign_32 _).mono ?_);rintro e w3 ⟨rfl,rfl⟩))
   | (go_at_call 215;((with_reducible refine (HVA _).out.mono ?_);rintro e w1 ⟨v,rfl,hv,hb1⟩;obtain ⟨N,w2,hx,hN,hb2⟩:=ext54_nan v hv w1;clear hv;obtain ⟨M,hcv,hM⟩:=conv_nan64 N hN w2;have HN:=hid hM;clear hN hM))
   | (go_at_call 223;((with_reducible refine (HB.out _ HN.out _).mono ?_);rintro e w3 ⟨rfl,rfl⟩)))
 go_ret2
 exact ⟨rfl,(bnext hb1 hb2).drew⟩
theorem RUn_32_7 (a:Nat) (ha:a < 18446744073709551616) (w:World) :
  Calls Tryz.prog 147 #[.int .i64 32,.int .i64 7,.int .u64 (a:Int)] w fun e w' => e=.returned (.tuple #[.int .u64 ((unW Ieee.single 2147483648 2139095040 2143289344 7 (a % 4294967296):Nat):Int),.int .i64 0])∧Below w.heap.size w w':=by
 have HCA:=fun W => hid (rcut_32 a  W)
 have hc:a % 4294967296 < 2 * 2147483648:=by omega
 generalize a % 4294967296=c at *
 have HV:∀ W,Hid (Calls Tryz.prog 215 #[.int .i64 32,.int .u64 (c:Int)] W (VPost 2147483648 2139095040 c W)):=fun W => hid (by have:=value_32 c W;rw [Nat.mod_eq_of_lt (show c < 4294967296 from hc)] at this;exact this)
 have hu:unW Ieee.single 2147483648 2139095040 2143289344 7 c=wholeW Ieee.single 2147483648 2139095040 2143289344 7 c:=by unfold unW;rw [if_neg (by decide),if_neg (by decide),if_neg (by decide)]
 rw [hu]
 by_cases hn:2139095040 < c % 2147483648
 ·have hk:wholeW Ieee.single 2147483648 2139095040 2143289344 7 c=2143289344:=by unfold wholeW;rw [if_pos (by rw [kindOf_four];exact hn)]
  rw [hk]
  refine RUw_32_7_nan a c HCA (fun W => hid ((HV W).out.mono fun e w' ⟨v,h1,h2,h3⟩ => ⟨v,h1,?_,h3⟩)) w
  rcases h2 with ⟨_,h⟩ | ⟨h,_⟩
  ·exact h
  ·exact absurd hn (by omega)
 ·have hk:wholeW Ieee.single 2147483648 2139095040 2143289344 7 c=Ieee.single.write ((Ieee.single.read c).integral (wayOf 7)):=by unfold wholeW;rw [if_neg (by rw [kindOf_four];exact hn)]
  rw [hk]
  have hr:Ieee.single.write ((Ieee.single.read c).integral (wayOf 7)) < 2 * 2147483648∧Ieee.single.write ((Ieee.single.read c).integral (wayOf 7)) % 2147483648≤2139095040:=by
   refine write_fin fmt_single _ ?_
   rcases Nat.lt_or_ge (c % 2147483648) 2139095040 with h1 | h1
   ·rw [read_fin (f:=Ieee.single) fmt_single.sb fmt_single.fr fmt_single.lp hc h1];rfl
   ·rw [read_inf (f:=Ieee.single) fmt_single.sb hc fmt_single.bi (by show c % 2147483648=2139095040;omega)];rfl
  have hvr:=vS_read hc (by omega)
  refine RUw_32_7_num a c (vS c) _ _ hvr.2.2 rfl hr (conv_whole hc (by omega) _) HCA (fun W => hid ((HV W).out.mono fun e w' ⟨v,h1,h2,h3⟩ => ⟨?_,h3⟩)) w
  rcases h2 with ⟨h,_⟩ | ⟨_,_,h5⟩
  ·exact absurd h hn
  ·rcases h5 with ⟨_,_,h6⟩ | ⟨h6,_,_⟩
   ·rw [h1,h6]
   ·exact absurd h6 (by decide)
theorem RUn_64_1 (a:Nat) (ha:a < 18446744073709551616) (w:World) :
  Calls Tryz.prog 147 #[.int .i64 64,.int .i64 1,.int .u64 (a:Int)] w fun e w' => e=.returned (.tuple #[.int .u64 ((unW Ieee.double 9223372036854775808 9218868437227405312 9221120237041090560 1 (a % 18446744073709551616):Nat):Int),.int .i64 0])∧Below w.heap.size w w':=by
 have HCA:=fun W => hid (rcut_64 a ha W)
 rw [show unW Ieee.double 9223372036854775808 9218868437227405312 9221120237041090560 1 (a % 18446744073709551616)=a % 18446744073709551616 % 9223372036854775808 from rfl]
 generalize a % 18446744073709551616=c at *
 obtain ⟨y,hy⟩:∃ y:Nat,y=c % 9223372036854775808:=⟨_,rfl⟩
 have h1:(c:Int) % 9223372036854775808=(y:Int):=by omega
 rw [← hy]
 clear hy ha
 go_enter Tryz.func147,Tryz.ntmps147
 go_wp2_with (first
   | (go_at_call 216;((with_reducible refine (HCA _).out.mono ?_);rintro e w1 ⟨rfl,rfl⟩))
   | (go_at_call 217;((with_reducible refine (rsign_64 _).mono ?_);rintro e w3 ⟨rfl,rfl⟩)))
 exact bodyPost_ret (v:=.tuple #[.int .u64 (y:Int),.int .i64 0]) (by simp [results,Tryz.results147,go_sem,h1]) rfl ⟨rfl,Below.refl _ _⟩
theorem RUn_64_2 (a:Nat) (ha:a < 18446744073709551616) (w:World) :
  Calls Tryz.prog 147 #[.int .i64 64,.int .i64 2,.int .u64 (a:Int)] w fun e w' => e=.returned (.tuple #[.int .u64 ((unW Ieee.double 9223372036854775808 9218868437227405312 9221120237041090560 2 (a % 18446744073709551616):Nat):Int),.int .i64 0])∧Below w.heap.size w w':=by
 have HCA:=fun W => hid (rcut_64 a ha W)
 have hc:a % 18446744073709551616 < 2 * 9223372036854775808:=by omega
 rw [show unW Ieee.double 9223372036854775808 9218868437227405312 9221120237041090560 2 (a % 18446744073709551616)=oppN 9223372036854775808 (a % 18446744073709551616) from rfl]
 generalize a % 18446744073709551616=c at *
 obtain ⟨y,hy⟩:∃ y:Nat,y=oppN 9223372036854775808 c:=⟨_,rfl⟩
 rw [← hy]
 unfold oppN at hy
 by_cases h:9223372036854775808≤c
 ·rw [if_pos h] at hy
  have hd:decide ((9223372036854775808:Int)≤(c:Int))=true:=decide_eq_true (by omega)
  have h1:IntKind.u64.wrap ((c:Int) - 9223372036854775808)=(y:Int):=by rw [IntKind.wrap_u64];omega
  clear hy ha hc h
  go_enter Tryz.func147,Tryz.ntmps147
  go_wp2_with (first
   | (go_at_call 216;((with_reducible refine (HCA _).out.mono ?_);rintro e w1 ⟨rfl,rfl⟩))
   | (go_at_call 217;((with_reducible refine (rsign_64 _).mono ?_);rintro e w3 ⟨rfl,rfl⟩)))
  exact bodyPost_ret (v:=.tuple #[.int .u64 (y:Int),.int .i64 0]) (by simp [results,Tryz.results147,go_sem,h1]) rfl ⟨rfl,Below.refl _ _⟩
 ·rw [if_neg h] at hy
  have hd:decide ((9223372036854775808:Int)≤(c:Int))=false:=decide_eq_false (by omega)
  have h1:IntKind.u64.wrap ((c:Int) + 9223372036854775808)=(y:Int):=by rw [IntKind.wrap_u64];omega
  clear hy ha hc h
  go_enter Tryz.func147,Tryz.ntmps147
  go_wp2_with (first
   | (go_at_call 216;((with_reducible refine (HCA _).out.mono ?_);rintro e w1 ⟨rfl,rfl⟩))
   | (go_at_call 217;((with_reducible refine (rsign_64 _).mono ?_);rintro e w3 ⟨rfl,rfl⟩)))
  exact bodyPost_ret (v:=.tuple #[.int .u64 (y:Int),.int .i64 0]) (by simp [results,Tryz.results147,go_sem,h1]) rfl ⟨rfl,Below.refl _ _⟩
set_option maxRecDepth 20000 in
set_option maxHeartbeats 3200000 in
theorem RUw_64_4_num (a c v y r:Nat) (hv:v % 9223372036854775808≤9218868437227405312) (hy:y=Ieee.double.write ((Ieee.double.read v).integral (wayOf 4)))
  (hr:r < 2 * 9223372036854775808∧r % 9223372036854775808≤9218868437227405312) (hyr:y=r)
  (HCA:∀ W,Hid (Calls Tryz.prog 216 #[.int .i64 64,.int .u64 (a:Int)] W fun e w' => e=.returned (.int .u64 (c:Int))∧W=w'))
  (HVA:∀ W,Hid (Calls Tryz.prog 215 #[.int .i64 64,.int .u64 (c:Int)] W fun e w' => e=.returned (.float .f64 v)∧Below W.heap.size W w')) (w:World) :
  Calls Tryz.prog 147 #[.int .i64 64,.int .i64 4,.int .u64 (a:Int)] w fun e w' => e=.returned (.tuple #[.int .u64 (r:Int),.int .i64 0])∧Below w.heap.size w w':=by
 have HS:=fun W => hid (whole51_num v hv W)
 rw [← hy] at HS
 subst hyr
 have HB:=fun W => hid (BB_64 y hr.1 hr.2 W)
 clear hv hr hy
 go_enter Tryz.func147,Tryz.ntmps147
 go_wp2_with (first
   | (go_at_call 216;((with_reducible refine (HCA _).out.mono ?_);rintro e w1 ⟨rfl,rfl⟩))
   | (go_at_call 217;((with_reducible refine (rsign_64 _).mono ?_);rintro e w3 ⟨rfl,rfl⟩))
   | (go_at_call 215;((with_reducible refine (HVA _).out.mono ?_);rintro e w1 ⟨rfl,hb1⟩))
   | (go_at_call 219;((with_reducible refine (HS _).out.mono ?_);rintro e w1 ⟨rfl,rfl⟩))
   | (go_at_call 224;((with_reducible refine (HB _).out.mono ?_);rintro e w3 ⟨rfl,rfl⟩)))
 go_ret2
 exact ⟨rfl,hb1⟩
set_option maxRecDepth 20000 in
set_option maxHeartbeats 3200000 in
theorem RUw_64_4_nan (a c:Nat)
  (HCA:∀ W,Hid (Calls Tryz.prog 216 #[.int .i64 64,.int .u64 (a:Int)] W fun e w' => e=.returned (.int .u64 (c:Int))∧W=w'))
  (HVA:∀ W,Hid (Calls Tryz.prog 215 #[.int .i64 64,.int .u64 (c:Int)] W fun e w' => ∃ v:Nat,e=.returned (.float .f64 v)∧9218868437227405312 < v % 9223372036854775808∧Below W.heap.size W w')) (w:World) :
  Calls Tryz.prog 147 #[.int .i64 64,.int .i64 4,.int .u64 (a:Int)] w fun e w' => e=.returned (.tuple #[.int .u64 9221120237041090560,.int .i64 0])∧Below w.heap.size w w':=by
 have HB:=hid BB_64_nan
 have HSN:=hid (whole51_nan)
 go_enter Tryz.func147,Tryz.ntmps147
 go_wp2_with (first
   | (go_at_call 216;((with_reducible refine (HCA _).out.mono ?_);rintro e w1 ⟨rfl,rfl⟩))
   | (go_at_call 217;((with_reducible refine (rsign_64 _).mono ?_);rintro e w3 ⟨rfl,rfl⟩))
   | (go_at_call 215;((with_reducible refine (HVA _).out.mono ?_);rintro e w1 ⟨v,rfl,hv,hb1⟩;have HV:=hid hv;clear hv))
   | (go_at_call 219;((with_reducible refine (HSN.out _ HV.out _).mono ?_);rintro e w2 ⟨N,rfl,hN,hb2⟩;have HN:=hid hN;clear hN))
   | (go_at_call 224;((with_reducible refine (HB.out _ HN.out _).mono ?_);rintro e w3 ⟨rfl,rfl⟩)))
 go_ret2
 exact ⟨rfl,bnext hb1 hb2⟩
theorem RUn_64_4 (a:Nat) (ha:a < 18446744073709551616) (w:World) :
  Calls Tryz.prog 147 #[.int .i64 64,.int .i64 4,.int .u64 (a:Int)] w fun e w' => e=.returned (.tuple #[.int .u64 ((unW Ieee.double 9223372036854775808 9218868437227405312 9221120237041090560 4 (a % 18446744073709551616):Nat):Int),.int .i64 0])∧Below w.heap.size w w':=by
 have HCA:=fun W => hid (rcut_64 a ha W)
 have hc:a % 18446744073709551616 < 2 * 9223372036854775808:=by omega
 generalize a % 18446744073709551616=c at *
 have HV:∀ W,Hid (Calls Tryz.prog 215 #[.int .i64 64,.int .u64 (c:Int)] W (VPost 9223372036854775808 9218868437227405312 c W)):=fun W => hid (by exact value_64 c hc W)
 have hu:unW Ieee.double 9223372036854775808 9218868437227405312 9221120237041090560 4 c=wholeW Ieee.double 9223372036854775808 9218868437227405312 9221120237041090560 4 c:=by unfold unW;rw [if_neg (by decide),if_neg (by decide),if_neg (by decide)]
 rw [hu]
 by_cases hn:9218868437227405312 < c % 9223372036854775808
 ·have hk:wholeW Ieee.double 9223372036854775808 9218868437227405312 9221120237041090560 4 c=9221120237041090560:=by unfold wholeW;rw [if_pos (by rw [kindOf_four];exact hn)]
  rw [hk]
  refine RUw_64_4_nan a c HCA (fun W => hid ((HV W).out.mono fun e w' ⟨v,h1,h2,h3⟩ => ⟨v,h1,?_,h3⟩)) w
  rcases h2 with ⟨_,h⟩ | ⟨h,_⟩
  ·exact h
  ·exact absurd hn (by omega)
 ·have hk:wholeW Ieee.double 9223372036854775808 9218868437227405312 9221120237041090560 4 c=Ieee.double.write ((Ieee.double.read c).integral (wayOf 4)):=by unfold wholeW;rw [if_neg (by rw [kindOf_four];exact hn)]
  rw [hk]
  have hr:Ieee.double.write ((Ieee.double.read c).integral (wayOf 4)) < 2 * 9223372036854775808∧Ieee.double.write ((Ieee.double.read c).integral (wayOf 4)) % 9223372036854775808≤9218868437227405312:=by
   refine write_fin fmt_double _ ?_
   rcases Nat.lt_or_ge (c % 9223372036854775808) 9218868437227405312 with h1 | h1
   ·rw [read_fin (f:=Ieee.double) fmt_double.sb fmt_double.fr fmt_double.lp hc h1];rfl
   ·rw [read_inf (f:=Ieee.double) fmt_double.sb hc fmt_double.bi (by show c % 9223372036854775808=9218868437227405312;omega)];rfl
  refine RUw_64_4_num a c c _ _ (by omega) rfl hr rfl HCA (fun W => hid ((HV W).out.mono fun e w' ⟨v,h1,h2,h3⟩ => ⟨?_,h3⟩)) w
  rcases h2 with ⟨h,_⟩ | ⟨_,_,h5⟩
  ·exact absurd h hn
  ·rcases h5 with ⟨h6,_,_⟩ | ⟨_,_,h6⟩
   ·exact absurd h6 (by decide)
   ·rw [h1,h6]
set_option maxRecDepth 20000 in
set_option maxHeartbeats 3200000 in
theorem RUw_64_5_num (a c v y r:Nat) (hv:v % 9223372036854775808≤9218868437227405312) (hy:y=Ieee.double.write ((Ieee.double.read v).integral (wayOf 5)))
  (hr:r < 2 * 9223372036854775808∧r % 9223372036854775808≤9218868437227405312) (hyr:y=r)
  (HCA:∀ W,Hid (Calls Tryz.prog 216 #[.int .i64 64,.int .u64 (a:Int)] W fun e w' => e=.returned (.int .u64 (c:Int))∧W=w'))
  (HVA:∀ W,Hid (Calls Tryz.prog 215 #[.int .i64 64,.int .u64 (c:Int)] W fun e w' => e=.returned (.float .f64 v)∧Below W.heap.size W w')) (w:World) :
  Calls Tryz.prog 147 #[.int .i64 64,.int .i64 5,.int .u64 (a:Int)] w fun e w' => e=.returned (.tuple #[.int .u64 (r:Int),.int .i64 0])∧Below w.heap.size w w':=by
 have HS:=fun W => hid (whole52_num v hv W)
 rw [← hy] at HS
 subst hyr
 have HB:=fun W => hid (BB_64 y hr.1 hr.2 W)
 clear hv hr hy
 go_enter Tryz.func147,Tryz.ntmps147
 go_wp2_with (first
   | (go_at_call 216;((with_reducible refine (HCA _).out.mono ?_);rintro e w1 ⟨rfl,rfl⟩))
   | (go_at_call 217;((with_reducible refine (rsign_64 _).mono ?_);rintro e w3 ⟨rfl,rfl⟩))
   | (go_at_call 215;((with_reducible refine (HVA _).out.mono ?_);rintro e w1 ⟨rfl,hb1⟩))
   | (go_at_call 220;((with_reducible refine (HS _).out.mono ?_);rintro e w1 ⟨rfl,rfl⟩))
   | (go_at_call 224;((with_reducible refine (HB _).out.mono ?_);rintro e w3 ⟨rfl,rfl⟩)))
 go_ret2
 exact ⟨rfl,hb1⟩
set_option maxRecDepth 20000 in
set_option maxHeartbeats 3200000 in
theorem RUw_64_5_nan (a c:Nat)
  (HCA:∀ W,Hid (Calls Tryz.prog 216 #[.int .i64 64,.int .u64 (a:Int)] W fun e w' => e=.returned (.int .u64 (c:Int))∧W=w'))
  (HVA:∀ W,Hid (Calls Tryz.prog 215 #[.int .i64 64,.int .u64 (c:Int)] W fun e w' => ∃ v:Nat,e=.returned (.float .f64 v)∧9218868437227405312 < v % 9223372036854775808∧Below W.heap.size W w')) (w:World) :
  Calls Tryz.prog 147 #[.int .i64 64,.int .i64 5,.int .u64 (a:Int)] w fun e w' => e=.returned (.tuple #[.int .u64 9221120237041090560,.int .i64 0])∧Below w.heap.size w w':=by
 have HB:=hid BB_64_nan
 have HSN:=hid (whole52_nan)
 go_enter Tryz.func147,Tryz.ntmps147
 go_wp2_with (first
   | (go_at_call 216;((with_reducible refine (HCA _).out.mono ?_);rintro e w1 ⟨rfl,rfl⟩))
   | (go_at_call 217;((with_reducible refine (rsign_64 _).mono ?_);rintro e w3 ⟨rfl,rfl⟩))
   | (go_at_call 215;((with_reducible refine (HVA _).out.mono ?_);rintro e w1 ⟨v,rfl,hv,hb1⟩;have HV:=hid hv;clear hv))
   | (go_at_call 220;((with_reducible refine (HSN.out _ HV.out _).mono ?_);rintro e w2 ⟨N,rfl,hN,hb2⟩;have HN:=hid hN;clear hN))
   | (go_at_call 224;((with_reducible refine (HB.out _ HN.out _).mono ?_);rintro e w3 ⟨rfl,rfl⟩)))
 go_ret2
 exact ⟨rfl,bnext hb1 hb2⟩
theorem RUn_64_5 (a:Nat) (ha:a < 18446744073709551616) (w:World) :
  Calls Tryz.prog 147 #[.int .i64 64,.int .i64 5,.int .u64 (a:Int)] w fun e w' => e=.returned (.tuple #[.int .u64 ((unW Ieee.double 9223372036854775808 9218868437227405312 9221120237041090560 5 (a % 18446744073709551616):Nat):Int),.int .i64 0])∧Below w.heap.size w w':=by
 have HCA:=fun W => hid (rcut_64 a ha W)
 have hc:a % 18446744073709551616 < 2 * 9223372036854775808:=by omega
 generalize a % 18446744073709551616=c at *
 have HV:∀ W,Hid (Calls Tryz.prog 215 #[.int .i64 64,.int .u64 (c:Int)] W (VPost 9223372036854775808 9218868437227405312 c W)):=fun W => hid (by exact value_64 c hc W)
 have hu:unW Ieee.double 9223372036854775808 9218868437227405312 9221120237041090560 5 c=wholeW Ieee.double 9223372036854775808 9218868437227405312 9221120237041090560 5 c:=by unfold unW;rw [if_neg (by decide),if_neg (by decide),if_neg (by decide)]
 rw [hu]
 by_cases hn:9218868437227405312 < c % 9223372036854775808
 ·have hk:wholeW Ieee.double 9223372036854775808 9218868437227405312 9221120237041090560 5 c=9221120237041090560:=by unfold wholeW;rw [if_pos (by rw [kindOf_four];exact hn)]
  rw [hk]
  refine RUw_64_5_nan a c HCA (fun W => hid ((HV W).out.mono fun e w' ⟨v,h1,h2,h3⟩ => ⟨v,h1,?_,h3⟩)) w
  rcases h2 with ⟨_,h⟩ | ⟨h,_⟩
  ·exact h
  ·exact absurd hn (by omega)
 ·have hk:wholeW Ieee.double 9223372036854775808 9218868437227405312 9221120237041090560 5 c=Ieee.double.write ((Ieee.double.read c).integral (wayOf 5)):=by unfold wholeW;rw [if_neg (by rw [kindOf_four];exact hn)]
  rw [hk]
  have hr:Ieee.double.write ((Ieee.double.read c).integral (wayOf 5)) < 2 * 9223372036854775808∧Ieee.double.write ((Ieee.double.read c).integral (wayOf 5)) % 9223372036854775808≤9218868437227405312:=by
   refine write_fin fmt_double _ ?_
   rcases Nat.lt_or_ge (c % 9223372036854775808) 9218868437227405312 with h1 | h1
   ·rw [read_fin (f:=Ieee.double) fmt_double.sb fmt_double.fr fmt_double.lp hc h1];rfl
   ·rw [read_inf (f:=Ieee.double) fmt_double.sb hc fmt_double.bi (by show c % 9223372036854775808=9218868437227405312;omega)];rfl
  refine RUw_64_5_num a c c _ _ (by omega) rfl hr rfl HCA (fun W => hid ((HV W).out.mono fun e w' ⟨v,h1,h2,h3⟩ => ⟨?_,h3⟩)) w
  rcases h2 with ⟨h,_⟩ | ⟨_,_,h5⟩
  ·exact absurd h hn
  ·rcases h5 with ⟨h6,_,_⟩ | ⟨_,_,h6⟩
   ·exact absurd h6 (by decide)
   ·rw [h1,h6]
set_option maxRecDepth 20000 in
set_option maxHeartbeats 3200000 in
theorem RUw_64_6_num (a c v y r:Nat) (hv:v % 9223372036854775808≤9218868437227405312) (hy:y=Ieee.double.write ((Ieee.double.read v).integral (wayOf 6)))
  (hr:r < 2 * 9223372036854775808∧r % 9223372036854775808≤9218868437227405312) (hyr:y=r)
  (HCA:∀ W,Hid (Calls Tryz.prog 216 #[.int .i64 64,.int .u64 (a:Int)] W fun e w' => e=.returned (.int .u64 (c:Int))∧W=w'))
  (HVA:∀ W,Hid (Calls Tryz.prog 215 #[.int .i64 64,.int .u64 (c:Int)] W fun e w' => e=.returned (.float .f64 v)∧Below W.heap.size W w')) (w:World) :
  Calls Tryz.prog 147 #[.int .i64 64,.int .i64 6,.int .u64 (a:Int)] w fun e w' => e=.returned (.tuple #[.int .u64 (r:Int),.int .i64 0])∧Below w.heap.size w w':=by
 have HS:=fun W => hid (whole53_num v hv W)
 rw [← hy] at HS
 subst hyr
 have HB:=fun W => hid (BB_64 y hr.1 hr.2 W)
 clear hv hr hy
 go_enter Tryz.func147,Tryz.ntmps147
 go_wp2_with (first
   | (go_at_call 216;((with_reducible refine (HCA _).out.mono ?_);rintro e w1 ⟨rfl,rfl⟩))
   | (go_at_call 217;((with_reducible refine (rsign_64 _).mono ?_);rintro e w3 ⟨rfl,rfl⟩))
   | (go_at_call 215;((with_reducible refine (HVA _).out.mono ?_);rintro e w1 ⟨rfl,hb1⟩))
   | (go_at_call 221;((with_reducible refine (HS _).out.mono ?_);rintro e w1 ⟨rfl,rfl⟩))
   | (go_at_call 224;((with_reducible refine (HB _).out.mono ?_);rintro e w3 ⟨rfl,rfl⟩)))
 go_ret2
 exact ⟨rfl,hb1⟩
set_option maxRecDepth 20000 in
set_option maxHeartbeats 3200000 in
theorem RUw_64_6_nan (a c:Nat)
  (HCA:∀ W,Hid (Calls Tryz.prog 216 #[.int .i64 64,.int .u64 (a:Int)] W fun e w' => e=.returned (.int .u64 (c:Int))∧W=w'))
  (HVA:∀ W,Hid (Calls Tryz.prog 215 #[.int .i64 64,.int .u64 (c:Int)] W fun e w' => ∃ v:Nat,e=.returned (.float .f64 v)∧9218868437227405312 < v % 9223372036854775808∧Below W.heap.size W w')) (w:World) :
  Calls Tryz.prog 147 #[.int .i64 64,.int .i64 6,.int .u64 (a:Int)] w fun e w' => e=.returned (.tuple #[.int .u64 9221120237041090560,.int .i64 0])∧Below w.heap.size w w':=by
 have HB:=hid BB_64_nan
 have HSN:=hid (whole53_nan)
 go_enter Tryz.func147,Tryz.ntmps147
 go_wp2_with (first
   | (go_at_call 216;((with_reducible refine (HCA _).out.mono ?_);rintro e w1 ⟨rfl,rfl⟩))
   | (go_at_call 217;((with_reducible refine (rsign_64 _).mono ?_);rintro e w3 ⟨rfl,rfl⟩))
   | (go_at_call 215;((with_reducible refine (HVA _).out.mono ?_);rintro e w1 ⟨v,rfl,hv,hb1⟩;have HV:=hid hv;clear hv))
   | (go_at_call 221;((with_reducible refine (HSN.out _ HV.out _).mono ?_);rintro e w2 ⟨N,rfl,hN,hb2⟩;have HN:=hid hN;clear hN))
   | (go_at_call 224;((with_reducible refine (HB.out _ HN.out _).mono ?_);rintro e w3 ⟨rfl,rfl⟩)))
 go_ret2
 exact ⟨rfl,bnext hb1 hb2⟩
theorem RUn_64_6 (a:Nat) (ha:a < 18446744073709551616) (w:World) :
  Calls Tryz.prog 147 #[.int .i64 64,.int .i64 6,.int .u64 (a:Int)] w fun e w' => e=.returned (.tuple #[.int .u64 ((unW Ieee.double 9223372036854775808 9218868437227405312 9221120237041090560 6 (a % 18446744073709551616):Nat):Int),.int .i64 0])∧Below w.heap.size w w':=by
 have HCA:=fun W => hid (rcut_64 a ha W)
 have hc:a % 18446744073709551616 < 2 * 9223372036854775808:=by omega
 generalize a % 18446744073709551616=c at *
 have HV:∀ W,Hid (Calls Tryz.prog 215 #[.int .i64 64,.int .u64 (c:Int)] W (VPost 9223372036854775808 9218868437227405312 c W)):=fun W => hid (by exact value_64 c hc W)
 have hu:unW Ieee.double 9223372036854775808 9218868437227405312 9221120237041090560 6 c=wholeW Ieee.double 9223372036854775808 9218868437227405312 9221120237041090560 6 c:=by unfold unW;rw [if_neg (by decide),if_neg (by decide),if_neg (by decide)]
 rw [hu]
 by_cases hn:9218868437227405312 < c % 9223372036854775808
 ·have hk:wholeW Ieee.double 9223372036854775808 9218868437227405312 9221120237041090560 6 c=9221120237041090560:=by unfold wholeW;rw [if_pos (by rw [kindOf_four];exact hn)]
  rw [hk]
  refine RUw_64_6_nan a c HCA (fun W => hid ((HV W).out.mono fun e w' ⟨v,h1,h2,h3⟩ => ⟨v,h1,?_,h3⟩)) w
  rcases h2 with ⟨_,h⟩ | ⟨h,_⟩
  ·exact h
  ·exact absurd hn (by omega)
 ·have hk:wholeW Ieee.double 9223372036854775808 9218868437227405312 9221120237041090560 6 c=Ieee.double.write ((Ieee.double.read c).integral (wayOf 6)):=by unfold wholeW;rw [if_neg (by rw [kindOf_four];exact hn)]
  rw [hk]
  have hr:Ieee.double.write ((Ieee.double.read c).integral (wayOf 6)) < 2 * 9223372036854775808∧Ieee.double.write ((Ieee.double.read c).integral (wayOf 6)) % 9223372036854775808≤9218868437227405312:=by
   refine write_fin fmt_double _ ?_
   rcases Nat.lt_or_ge (c % 9223372036854775808) 9218868437227405312 with h1 | h1
   ·rw [read_fin (f:=Ieee.double) fmt_double.sb fmt_double.fr fmt_double.lp hc h1];rfl
   ·rw [read_inf (f:=Ieee.double) fmt_double.sb hc fmt_double.bi (by show c % 9223372036854775808=9218868437227405312;omega)];rfl
  refine RUw_64_6_num a c c _ _ (by omega) rfl hr rfl HCA (fun W => hid ((HV W).out.mono fun e w' ⟨v,h1,h2,h3⟩ => ⟨?_,h3⟩)) w
  rcases h2 with ⟨h,_⟩ | ⟨_,_,h5⟩
  ·exact absurd h hn
  ·rcases h5 with ⟨h6,_,_⟩ | ⟨_,_,h6⟩
   ·exact absurd h6 (by decide)
   ·rw [h1,h6]
set_option maxRecDepth 20000 in
set_option maxHeartbeats 3200000 in
theorem RUw_64_7_num (a c v y r:Nat) (hv:v % 9223372036854775808≤9218868437227405312) (hy:y=Ieee.double.write ((Ieee.double.read v).integral (wayOf 7)))
  (hr:r < 2 * 9223372036854775808∧r % 9223372036854775808≤9218868437227405312) (hyr:y=r)
  (HCA:∀ W,Hid (Calls Tryz.prog 216 #[.int .i64 64,.int .u64 (a:Int)] W fun e w' => e=.returned (.int .u64 (c:Int))∧W=w'))
  (HVA:∀ W,Hid (Calls Tryz.prog 215 #[.int .i64 64,.int .u64 (c:Int)] W fun e w' => e=.returned (.float .f64 v)∧Below W.heap.size W w')) (w:World) :
  Calls Tryz.prog 147 #[.int .i64 64,.int .i64 7,.int .u64 (a:Int)] w fun e w' => e=.returned (.tuple #[.int .u64 (r:Int),.int .i64 0])∧Below w.heap.size w w':=by
 have hx:∀ W:World,(callFunc 222 #[.float .f64 v]).run Tryz.prog W=.ok (.value (.float .f64 y)) W:=fun W => by rw [hy];exact ext54_num v hv W
 subst hyr
 have HB:=fun W => hid (BB_64 y hr.1 hr.2 W)
 clear hv hr hy
 go_enter Tryz.func147,Tryz.ntmps147
 go_wp2_with (first
   | (go_at_call 216;((with_reducible refine (HCA _).out.mono ?_);rintro e w1 ⟨rfl,rfl⟩))
   | (go_at_call 217;((with_reducible refine (rsign_64 _).mono ?_);rintro e w3 ⟨rfl,rfl⟩))
   | (go_at_call 215;((with_reducible refine (HVA _).out.mono ?_);rintro e w1 ⟨rfl,hb1⟩))
   | (go_at_call 224;((with_reducible refine (HB _).out.mono ?_);rintro e w3 ⟨rfl,rfl⟩)))
 go_ret2
 exact ⟨rfl,hb1⟩
set_option maxRecDepth 20000 in
set_option maxHeartbeats 3200000 in
theorem RUw_64_7_nan (a c:Nat)
  (HCA:∀ W,Hid (Calls Tryz.prog 216 #[.int .i64 64,.int .u64 (a:Int)] W fun e w' => e=.returned (.int .u64 (c:Int))∧W=w'))
  (HVA:∀ W,Hid (Calls Tryz.prog 215 #[.int .i64 64,.int .u64 (c:Int)] W fun e w' => ∃ v:Nat,e=.returned (.float .f64 v)∧9218868437227405312 < v % 9223372036854775808∧Below W.heap.size W w')) (w:World) :
  Calls Tryz.prog 147 #[.int .i64 64,.int .i64 7,.int .u64 (a:Int)] w fun e w' => e=.returned (.tuple #[.int .u64 9221120237041090560,.int .i64 0])∧Below w.heap.size w w':=by
 have HB:=hid BB_64_nan
 go_enter Tryz.func147,Tryz.ntmps147
 go_wp2_with (first
   | (go_at_call 216;((with_reducible refine (HCA _).out.mono ?_);rintro e w1 ⟨rfl,rfl⟩))
   | (go_at_call 217;((with_reducible refine (rsign_64 _).mono ?_);rintro e w3 ⟨rfl,rfl⟩))
   | (go_at_call 215;((with_reducible refine (HVA _).out.mono ?_);rintro e w1 ⟨v,rfl,hv,hb1⟩;obtain ⟨N,w2,hx,hN,hb2⟩:=ext54_nan v hv w1;clear hv;have HN:=hid hN;clear hN))
   | (go_at_call 224;((with_reducible refine (HB.out _ HN.out _).mono ?_);rintro e w3 ⟨rfl,rfl⟩)))
 go_ret2
 exact ⟨rfl,bnext hb1 hb2⟩
theorem RUn_64_7 (a:Nat) (ha:a < 18446744073709551616) (w:World) :
  Calls Tryz.prog 147 #[.int .i64 64,.int .i64 7,.int .u64 (a:Int)] w fun e w' => e=.returned (.tuple #[.int .u64 ((unW Ieee.double 9223372036854775808 9218868437227405312 9221120237041090560 7 (a % 18446744073709551616):Nat):Int),.int .i64 0])∧Below w.heap.size w w':=by
 have HCA:=fun W => hid (rcut_64 a ha W)
 have hc:a % 18446744073709551616 < 2 * 9223372036854775808:=by omega
 generalize a % 18446744073709551616=c at *
 have HV:∀ W,Hid (Calls Tryz.prog 215 #[.int .i64 64,.int .u64 (c:Int)] W (VPost 9223372036854775808 9218868437227405312 c W)):=fun W => hid (by exact value_64 c hc W)
 have hu:unW Ieee.double 9223372036854775808 9218868437227405312 9221120237041090560 7 c=wholeW Ieee.double 9223372036854775808 9218868437227405312 9221120237041090560 7 c:=by unfold unW;rw [if_neg (by decide),if_neg (by decide),if_neg (by decide)]
 rw [hu]
 by_cases hn:9218868437227405312 < c % 9223372036854775808
 ·have hk:wholeW Ieee.double 9223372036854775808 9218868437227405312 9221120237041090560 7 c=9221120237041090560:=by unfold wholeW;rw [if_pos (by rw [kindOf_four];exact hn)]
  rw [hk]
  refine RUw_64_7_nan a c HCA (fun W => hid ((HV W).out.mono fun e w' ⟨v,h1,h2,h3⟩ => ⟨v,h1,?_,h3⟩)) w
  rcases h2 with ⟨_,h⟩ | ⟨h,_⟩
  ·exact h
  ·exact absurd hn (by omega)
 ·have hk:wholeW Ieee.double 9223372036854775808 9218868437227405312 9221120237041090560 7 c=Ieee.double.write ((Ieee.double.read c).integral (wayOf 7)):=by unfold wholeW;rw [if_neg (by rw [kindOf_four];exact hn)]
  rw [hk]
  have hr:Ieee.double.write ((Ieee.double.read c).integral (wayOf 7)) < 2 * 9223372036854775808∧Ieee.double.write ((Ieee.double.read c).integral (wayOf 7)) % 9223372036854775808≤9218868437227405312:=by
   refine write_fin fmt_double _ ?_
   rcases Nat.lt_or_ge (c % 9223372036854775808) 9218868437227405312 with h1 | h1
   ·rw [read_fin (f:=Ieee.double) fmt_double.sb fmt_double.fr fmt_double.lp hc h1];rfl
   ·rw [read_inf (f:=Ieee.double) fmt_double.sb hc fmt_double.bi (by show c % 9223372036854775808=9218868437227405312;omega)];rfl
  refine RUw_64_7_num a c c _ _ (by omega) rfl hr rfl HCA (fun W => hid ((HV W).out.mono fun e w' ⟨v,h1,h2,h3⟩ => ⟨?_,h3⟩)) w
  rcases h2 with ⟨h,_⟩ | ⟨_,_,h5⟩
  ·exact absurd h hn
  ·rcases h5 with ⟨h6,_,_⟩ | ⟨_,_,h6⟩
   ·exact absurd h6 (by decide)
   ·rw [h1,h6]
end Go.Proofs.YtlhakbkdlgejpaaGreatDoor.Fl
