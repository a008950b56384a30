/-
  SWork, SSome, SIntA, SAwake: merged, what the laws do not reach left out (each text says what it holds where it lies in wip). No condition.
-/
import Derived.Test.YtlhakbkdlgejpaaGreatDoorV02
import Derived.Test.YtlhakbkdlgejpaaGreatDoorX01
set_option linter.unusedSimpArgs false
set_option linter.unusedVariables false
set_option maxRecDepth 100000
namespace Go.Proofs.YtlhakbkdlgejpaaGreatDoor.Sc
open Go.RowKit
def FREL:List (List UInt8):=[[],[101,113],[110,101],[108,116],[103,116],[108,101],[103,101]]
def FUN:List (List UInt8):=[[],[97,98,115],[110,101,103],[115,113,114,116],[99,101,105,108],[102,108,111,111,114],[116,114,117,110,99],[110,101,97,114,101,115,116]]
def FBIN:List (List UInt8):=[[],[97,100,100],[115,117,98],[109,117,108],[100,105,118],[109,105,110],[109,97,120],[99,111,112,121,115,105,103,110]]
theorem pre_of (v:List UInt8) (k:Nat) (x:List UInt8) (b:Bool) (h:(v.take k == x)=b):(((str v).extract 0 k).toList == x)=b:=by rw [cut_str,str_list];exact h
set_option maxHeartbeats 4000000 in
theorem worked_fUA (kd v:List UInt8) (hk:(kd == [102])=true) (h0:(v == [101,113,122])=false) (hl:v.length≤6) (k:Int) (hp:plL FREL v 0=-1) (hp2:plL FUN v 0=k) (hk1:1≤k) (n lv:Int) (a b:Nat) (r:Int) (r2:Int) (HC:Ans 147 #[.int .i64 n,.int .i64 k,.int .u64 a] (.tuple #[.int .u64 r,.int .i64 r2])) :
  Ans 91 #[.string (str kd),.int .i64 n,.int .i64 lv,.string (str v),.int .u64 a,.int .u64 b] (.tuple #[.int .u64 r,.int .i64 r2]):=fun w => by
 have HCC:=fun W => hid (HC W)
 have HP0:=fun W => hid (place_at v FREL (by decide) #[.string ⟨#[]⟩,.string ⟨#[101,113]⟩,.string ⟨#[110,101]⟩,.string ⟨#[108,116]⟩,.string ⟨#[103,116]⟩,.string ⟨#[108,101]⟩,.string ⟨#[103,101]⟩] rfl 7 rfl (-1) hp W)
 have HP1:=fun W => hid (place_at v FUN (by decide) #[.string ⟨#[]⟩,.string ⟨#[97,98,115]⟩,.string ⟨#[110,101,103]⟩,.string ⟨#[115,113,114,116]⟩,.string ⟨#[99,101,105,108]⟩,.string ⟨#[102,108,111,111,114]⟩,.string ⟨#[116,114,117,110,99]⟩,.string ⟨#[110,101,97,114,101,115,116]⟩] rfl 8 rfl k hp2 W)
 have gk:decide ((0:Int) < k)=true:=by simp;omega
 have gm:decide ((0:Int) < -1)=false:=rfl
 clear hk1
 have g8:decide ((8:Int) < ((str v).size:Int))=false:=by rw [str_size];simp;omega
 have g7:decide ((7:Int) < ((str v).size:Int))=false:=by rw [str_size];simp;omega
 have g6:decide ((6:Int) < ((str v).size:Int))=false:=by rw [str_size];simp;omega
 have q9:((str kd).toList == [102])=true:=by rw [str_list];exact hk
 have q0:((str v).toList == [101,113,122])=false:=by rw [str_list];exact h0
 clear HC hk h0 hl 
 generalize str v=s at *
 generalize str kd=sk at *
 go_enter Tryz.func91,Tryz.ntmps91
 go_wp2_with (first
  | (go_at_call 145;(with_reducible refine (HP0 _).out.mono ?_);rintro e w0 ⟨rfl,rfl⟩;have HB0:=hid (((Below.refl _ w)).alloc (Nat.le_refl _) (.cells #[.string ⟨#[]⟩,.string ⟨#[101,113]⟩,.string ⟨#[110,101]⟩,.string ⟨#[108,116]⟩,.string ⟨#[103,116]⟩,.string ⟨#[108,101]⟩,.string ⟨#[103,101]⟩] 9));generalize w.alloc (.cells #[.string ⟨#[]⟩,.string ⟨#[101,113]⟩,.string ⟨#[110,101]⟩,.string ⟨#[108,116]⟩,.string ⟨#[103,116]⟩,.string ⟨#[108,101]⟩,.string ⟨#[103,101]⟩] 9)=V0 at *)
  | (go_at_call 145;(with_reducible refine (HP1 _).out.mono ?_);rintro e w1 ⟨rfl,rfl⟩;have HB1:=hid (((HB0.out)).alloc (HB0.out.size) (.cells #[.string ⟨#[]⟩,.string ⟨#[97,98,115]⟩,.string ⟨#[110,101,103]⟩,.string ⟨#[115,113,114,116]⟩,.string ⟨#[99,101,105,108]⟩,.string ⟨#[102,108,111,111,114]⟩,.string ⟨#[116,114,117,110,99]⟩,.string ⟨#[110,101,97,114,101,115,116]⟩] 9));generalize V0.alloc (.cells #[.string ⟨#[]⟩,.string ⟨#[97,98,115]⟩,.string ⟨#[110,101,103]⟩,.string ⟨#[115,113,114,116]⟩,.string ⟨#[99,101,105,108]⟩,.string ⟨#[102,108,111,111,114]⟩,.string ⟨#[116,114,117,110,99]⟩,.string ⟨#[110,101,97,114,101,115,116]⟩] 9)=V1 at *)
  | (go_at_call 147;(with_reducible refine (HCC _).out.mono ?_);rintro e w2 ⟨rfl,hb⟩;have HB2:=hid (HB1.out.trans (hb.mono HB1.out.size));clear hb)
  )
 go_ret2
 exact ⟨rfl,HB2.out⟩
set_option maxHeartbeats 4000000 in
theorem worked_fUB (kd v:List UInt8) (hk:(kd == [102])=true) (h0:(v == [101,113,122])=false) (hl:v.length=7) (pw:(v.take 4 == [119,114,97,112])=false) (pd:(v.take 6 == [100,101,109,111,116,101])=false) (pp:(v.take 6 == [112,114,111,109,111,116])=false) (pr:(v.take 6 == [114,101,105,110,116,101])=false) (k:Int) (hp:plL FREL v 0=-1) (hp2:plL FUN v 0=k) (hk1:1≤k) (n lv:Int) (a b:Nat) (r:Int) (r2:Int) (HC:Ans 147 #[.int .i64 n,.int .i64 k,.int .u64 a] (.tuple #[.int .u64 r,.int .i64 r2])) :
  Ans 91 #[.string (str kd),.int .i64 n,.int .i64 lv,.string (str v),.int .u64 a,.int .u64 b] (.tuple #[.int .u64 r,.int .i64 r2]):=fun w => by
 have HCC:=fun W => hid (HC W)
 have HP0:=fun W => hid (place_at v FREL (by decide) #[.string ⟨#[]⟩,.string ⟨#[101,113]⟩,.string ⟨#[110,101]⟩,.string ⟨#[108,116]⟩,.string ⟨#[103,116]⟩,.string ⟨#[108,101]⟩,.string ⟨#[103,101]⟩] rfl 7 rfl (-1) hp W)
 have HP1:=fun W => hid (place_at v FUN (by decide) #[.string ⟨#[]⟩,.string ⟨#[97,98,115]⟩,.string ⟨#[110,101,103]⟩,.string ⟨#[115,113,114,116]⟩,.string ⟨#[99,101,105,108]⟩,.string ⟨#[102,108,111,111,114]⟩,.string ⟨#[116,114,117,110,99]⟩,.string ⟨#[110,101,97,114,101,115,116]⟩] rfl 8 rfl k hp2 W)
 have gk:decide ((0:Int) < k)=true:=by simp;omega
 have gm:decide ((0:Int) < -1)=false:=rfl
 clear hk1
 have uw:=pre_of v 4 _ _ pw
 have ud:=pre_of v 6 _ _ pd
 have up:=pre_of v 6 _ _ pp
 have ur:=pre_of v 6 _ _ pr
 have g8:decide ((8:Int) < ((str v).size:Int))=false:=by rw [str_size];simp;omega
 have g7:decide ((7:Int) < ((str v).size:Int))=false:=by rw [str_size];simp;omega
 have g6:decide ((6:Int) < ((str v).size:Int))=true:=by rw [str_size];simp;omega
 have s6:6≤(str v).size:=by rw [str_size];omega
 have s4:4≤(str v).size:=by rw [str_size];omega
 have s5:5≤(str v).size:=by rw [str_size];omega
 have sm:(str v).size≤1000:=by rw [str_size];omega
 have q9:((str kd).toList == [102])=true:=by rw [str_list];exact hk
 have q0:((str v).toList == [101,113,122])=false:=by rw [str_list];exact h0
 clear HC hk h0 pw pd pp pr hl 
 generalize str v=s at *
 generalize str kd=sk at *
 go_enter Tryz.func91,Tryz.ntmps91
 go_wp2_with (first
  | (go_at_call 145;(with_reducible refine (HP0 _).out.mono ?_);rintro e w0 ⟨rfl,rfl⟩;have HB0:=hid (((Below.refl _ w)).alloc (Nat.le_refl _) (.cells #[.string ⟨#[]⟩,.string ⟨#[101,113]⟩,.string ⟨#[110,101]⟩,.string ⟨#[108,116]⟩,.string ⟨#[103,116]⟩,.string ⟨#[108,101]⟩,.string ⟨#[103,101]⟩] 9));generalize w.alloc (.cells #[.string ⟨#[]⟩,.string ⟨#[101,113]⟩,.string ⟨#[110,101]⟩,.string ⟨#[108,116]⟩,.string ⟨#[103,116]⟩,.string ⟨#[108,101]⟩,.string ⟨#[103,101]⟩] 9)=V0 at *)
  | (go_at_call 145;(with_reducible refine (HP1 _).out.mono ?_);rintro e w1 ⟨rfl,rfl⟩;have HB1:=hid (((HB0.out)).alloc (HB0.out.size) (.cells #[.string ⟨#[]⟩,.string ⟨#[97,98,115]⟩,.string ⟨#[110,101,103]⟩,.string ⟨#[115,113,114,116]⟩,.string ⟨#[99,101,105,108]⟩,.string ⟨#[102,108,111,111,114]⟩,.string ⟨#[116,114,117,110,99]⟩,.string ⟨#[110,101,97,114,101,115,116]⟩] 9));generalize V0.alloc (.cells #[.string ⟨#[]⟩,.string ⟨#[97,98,115]⟩,.string ⟨#[110,101,103]⟩,.string ⟨#[115,113,114,116]⟩,.string ⟨#[99,101,105,108]⟩,.string ⟨#[102,108,111,111,114]⟩,.string ⟨#[116,114,117,110,99]⟩,.string ⟨#[110,101,97,114,101,115,116]⟩] 9)=V1 at *)
  | (go_at_call 147;(with_reducible refine (HCC _).out.mono ?_);rintro e w2 ⟨rfl,hb⟩;have HB2:=hid (HB1.out.trans (hb.mono HB1.out.size));clear hb)
  )
 go_ret2
 exact ⟨rfl,HB2.out⟩
set_option maxHeartbeats 4000000 in
theorem worked_fBA (kd v:List UInt8) (hk:(kd == [102])=true) (h0:(v == [101,113,122])=false) (hl:v.length≤6) (k:Int) (hp:plL FREL v 0=-1) (hp2:plL FUN v 0=-1) (hp3:plL FBIN v 0=k) (n lv:Int) (a b:Nat) (r:Int) (r2:Int) (HC:Ans 148 #[.int .i64 n,.int .i64 k,.int .u64 a,.int .u64 b] (.tuple #[.int .u64 r,.int .i64 r2])) :
  Ans 91 #[.string (str kd),.int .i64 n,.int .i64 lv,.string (str v),.int .u64 a,.int .u64 b] (.tuple #[.int .u64 r,.int .i64 r2]):=fun w => by
 have HCC:=fun W => hid (HC W)
 have HP0:=fun W => hid (place_at v FREL (by decide) #[.string ⟨#[]⟩,.string ⟨#[101,113]⟩,.string ⟨#[110,101]⟩,.string ⟨#[108,116]⟩,.string ⟨#[103,116]⟩,.string ⟨#[108,101]⟩,.string ⟨#[103,101]⟩] rfl 7 rfl (-1) hp W)
 have HP1:=fun W => hid (place_at v FUN (by decide) #[.string ⟨#[]⟩,.string ⟨#[97,98,115]⟩,.string ⟨#[110,101,103]⟩,.string ⟨#[115,113,114,116]⟩,.string ⟨#[99,101,105,108]⟩,.string ⟨#[102,108,111,111,114]⟩,.string ⟨#[116,114,117,110,99]⟩,.string ⟨#[110,101,97,114,101,115,116]⟩] rfl 8 rfl (-1) hp2 W)
 have HP2:=fun W => hid (place_at v FBIN (by decide) #[.string ⟨#[]⟩,.string ⟨#[97,100,100]⟩,.string ⟨#[115,117,98]⟩,.string ⟨#[109,117,108]⟩,.string ⟨#[100,105,118]⟩,.string ⟨#[109,105,110]⟩,.string ⟨#[109,97,120]⟩,.string ⟨#[99,111,112,121,115,105,103,110]⟩] rfl 8 rfl k hp3 W)
 have gm:decide ((0:Int) < -1)=false:=rfl
 have g8:decide ((8:Int) < ((str v).size:Int))=false:=by rw [str_size];simp;omega
 have g7:decide ((7:Int) < ((str v).size:Int))=false:=by rw [str_size];simp;omega
 have g6:decide ((6:Int) < ((str v).size:Int))=false:=by rw [str_size];simp;omega
 have q9:((str kd).toList == [102])=true:=by rw [str_list];exact hk
 have q0:((str v).toList == [101,113,122])=false:=by rw [str_list];exact h0
 clear HC hk h0 hl 
 generalize str v=s at *
 generalize str kd=sk at *
 go_enter Tryz.func91,Tryz.ntmps91
 go_wp2_with (first
  | (go_at_call 145;(with_reducible refine (HP0 _).out.mono ?_);rintro e w0 ⟨rfl,rfl⟩;have HB0:=hid (((Below.refl _ w)).alloc (Nat.le_refl _) (.cells #[.string ⟨#[]⟩,.string ⟨#[101,113]⟩,.string ⟨#[110,101]⟩,.string ⟨#[108,116]⟩,.string ⟨#[103,116]⟩,.string ⟨#[108,101]⟩,.string ⟨#[103,101]⟩] 9));generalize w.alloc (.cells #[.string ⟨#[]⟩,.string ⟨#[101,113]⟩,.string ⟨#[110,101]⟩,.string ⟨#[108,116]⟩,.string ⟨#[103,116]⟩,.string ⟨#[108,101]⟩,.string ⟨#[103,101]⟩] 9)=V0 at *)
  | (go_at_call 145;(with_reducible refine (HP1 _).out.mono ?_);rintro e w1 ⟨rfl,rfl⟩;have HB1:=hid (((HB0.out)).alloc (HB0.out.size) (.cells #[.string ⟨#[]⟩,.string ⟨#[97,98,115]⟩,.string ⟨#[110,101,103]⟩,.string ⟨#[115,113,114,116]⟩,.string ⟨#[99,101,105,108]⟩,.string ⟨#[102,108,111,111,114]⟩,.string ⟨#[116,114,117,110,99]⟩,.string ⟨#[110,101,97,114,101,115,116]⟩] 9));generalize V0.alloc (.cells #[.string ⟨#[]⟩,.string ⟨#[97,98,115]⟩,.string ⟨#[110,101,103]⟩,.string ⟨#[115,113,114,116]⟩,.string ⟨#[99,101,105,108]⟩,.string ⟨#[102,108,111,111,114]⟩,.string ⟨#[116,114,117,110,99]⟩,.string ⟨#[110,101,97,114,101,115,116]⟩] 9)=V1 at *)
  | (go_at_call 145;(with_reducible refine (HP2 _).out.mono ?_);rintro e w2 ⟨rfl,rfl⟩;have HB2:=hid (((HB1.out)).alloc (HB1.out.size) (.cells #[.string ⟨#[]⟩,.string ⟨#[97,100,100]⟩,.string ⟨#[115,117,98]⟩,.string ⟨#[109,117,108]⟩,.string ⟨#[100,105,118]⟩,.string ⟨#[109,105,110]⟩,.string ⟨#[109,97,120]⟩,.string ⟨#[99,111,112,121,115,105,103,110]⟩] 9));generalize V1.alloc (.cells #[.string ⟨#[]⟩,.string ⟨#[97,100,100]⟩,.string ⟨#[115,117,98]⟩,.string ⟨#[109,117,108]⟩,.string ⟨#[100,105,118]⟩,.string ⟨#[109,105,110]⟩,.string ⟨#[109,97,120]⟩,.string ⟨#[99,111,112,121,115,105,103,110]⟩] 9)=V2 at *)
  | (go_at_call 148;(with_reducible refine (HCC _).out.mono ?_);rintro e w3 ⟨rfl,hb⟩;have HB3:=hid (HB2.out.trans (hb.mono HB2.out.size));clear hb)
  )
 go_ret2
 exact ⟨rfl,HB3.out⟩
set_option maxHeartbeats 4000000 in
theorem worked_fBC (kd v:List UInt8) (hk:(kd == [102])=true) (h0:(v == [101,113,122])=false) (hl:v.length=8) (pt:(v.take 5 == [116,114,117,110,99])=false) (pc:(v.take 7 == [99,111,110,118,101,114,116])=false) (pw:(v.take 4 == [119,114,97,112])=false) (pd:(v.take 6 == [100,101,109,111,116,101])=false) (pp:(v.take 6 == [112,114,111,109,111,116])=false) (pr:(v.take 6 == [114,101,105,110,116,101])=false) (k:Int) (hp:plL FREL v 0=-1) (hp2:plL FUN v 0=-1) (hp3:plL FBIN v 0=k) (n lv:Int) (a b:Nat) (r:Int) (r2:Int) (HC:Ans 148 #[.int .i64 n,.int .i64 k,.int .u64 a,.int .u64 b] (.tuple #[.int .u64 r,.int .i64 r2])) :
  Ans 91 #[.string (str kd),.int .i64 n,.int .i64 lv,.string (str v),.int .u64 a,.int .u64 b] (.tuple #[.int .u64 r,.int .i64 r2]):=fun w => by
 have HCC:=fun W => hid (HC W)
 have HP0:=fun W => hid (place_at v FREL (by decide) #[.string ⟨#[]⟩,.string ⟨#[101,113]⟩,.string ⟨#[110,101]⟩,.string ⟨#[108,116]⟩,.string ⟨#[103,116]⟩,.string ⟨#[108,101]⟩,.string ⟨#[103,101]⟩] rfl 7 rfl (-1) hp W)
 have HP1:=fun W => hid (place_at v FUN (by decide) #[.string ⟨#[]⟩,.string ⟨#[97,98,115]⟩,.string ⟨#[110,101,103]⟩,.string ⟨#[115,113,114,116]⟩,.string ⟨#[99,101,105,108]⟩,.string ⟨#[102,108,111,111,114]⟩,.string ⟨#[116,114,117,110,99]⟩,.string ⟨#[110,101,97,114,101,115,116]⟩] rfl 8 rfl (-1) hp2 W)
 have HP2:=fun W => hid (place_at v FBIN (by decide) #[.string ⟨#[]⟩,.string ⟨#[97,100,100]⟩,.string ⟨#[115,117,98]⟩,.string ⟨#[109,117,108]⟩,.string ⟨#[100,105,118]⟩,.string ⟨#[109,105,110]⟩,.string ⟨#[109,97,120]⟩,.string ⟨#[99,111,112,121,115,105,103,110]⟩] rfl 8 rfl k hp3 W)
 have gm:decide ((0:Int) < -1)=false:=rfl
 have ut:=pre_of v 5 _ _ pt
 have uc:=pre_of v 7 _ _ pc
 have uw:=pre_of v 4 _ _ pw
 have ud:=pre_of v 6 _ _ pd
 have up:=pre_of v 6 _ _ pp
 have ur:=pre_of v 6 _ _ pr
 have g8:decide ((8:Int) < ((str v).size:Int))=false:=by rw [str_size];simp;omega
 have g7:decide ((7:Int) < ((str v).size:Int))=true:=by rw [str_size];simp;omega
 have s7:7≤(str v).size:=by rw [str_size];omega
 have g6:decide ((6:Int) < ((str v).size:Int))=true:=by rw [str_size];simp;omega
 have s6:6≤(str v).size:=by rw [str_size];omega
 have s4:4≤(str v).size:=by rw [str_size];omega
 have s5:5≤(str v).size:=by rw [str_size];omega
 have sm:(str v).size≤1000:=by rw [str_size];omega
 have q9:((str kd).toList == [102])=true:=by rw [str_list];exact hk
 have q0:((str v).toList == [101,113,122])=false:=by rw [str_list];exact h0
 clear HC hk h0 pt pc pw pd pp pr hl 
 generalize str v=s at *
 generalize str kd=sk at *
 go_enter Tryz.func91,Tryz.ntmps91
 go_wp2_with (first
  | (go_at_call 145;(with_reducible refine (HP0 _).out.mono ?_);rintro e w0 ⟨rfl,rfl⟩;have HB0:=hid (((Below.refl _ w)).alloc (Nat.le_refl _) (.cells #[.string ⟨#[]⟩,.string ⟨#[101,113]⟩,.string ⟨#[110,101]⟩,.string ⟨#[108,116]⟩,.string ⟨#[103,116]⟩,.string ⟨#[108,101]⟩,.string ⟨#[103,101]⟩] 9));generalize w.alloc (.cells #[.string ⟨#[]⟩,.string ⟨#[101,113]⟩,.string ⟨#[110,101]⟩,.string ⟨#[108,116]⟩,.string ⟨#[103,116]⟩,.string ⟨#[108,101]⟩,.string ⟨#[103,101]⟩] 9)=V0 at *)
  | (go_at_call 145;(with_reducible refine (HP1 _).out.mono ?_);rintro e w1 ⟨rfl,rfl⟩;have HB1:=hid (((HB0.out)).alloc (HB0.out.size) (.cells #[.string ⟨#[]⟩,.string ⟨#[97,98,115]⟩,.string ⟨#[110,101,103]⟩,.string ⟨#[115,113,114,116]⟩,.string ⟨#[99,101,105,108]⟩,.string ⟨#[102,108,111,111,114]⟩,.string ⟨#[116,114,117,110,99]⟩,.string ⟨#[110,101,97,114,101,115,116]⟩] 9));generalize V0.alloc (.cells #[.string ⟨#[]⟩,.string ⟨#[97,98,115]⟩,.string ⟨#[110,101,103]⟩,.string ⟨#[115,113,114,116]⟩,.string ⟨#[99,101,105,108]⟩,.string ⟨#[102,108,111,111,114]⟩,.string ⟨#[116,114,117,110,99]⟩,.string ⟨#[110,101,97,114,101,115,116]⟩] 9)=V1 at *)
  | (go_at_call 145;(with_reducible refine (HP2 _).out.mono ?_);rintro e w2 ⟨rfl,rfl⟩;have HB2:=hid (((HB1.out)).alloc (HB1.out.size) (.cells #[.string ⟨#[]⟩,.string ⟨#[97,100,100]⟩,.string ⟨#[115,117,98]⟩,.string ⟨#[109,117,108]⟩,.string ⟨#[100,105,118]⟩,.string ⟨#[109,105,110]⟩,.string ⟨#[109,97,120]⟩,.string ⟨#[99,111,112,121,115,105,103,110]⟩] 9));generalize V1.alloc (.cells #[.string ⟨#[]⟩,.string ⟨#[97,100,100]⟩,.string ⟨#[115,117,98]⟩,.string ⟨#[109,117,108]⟩,.string ⟨#[100,105,118]⟩,.string ⟨#[109,105,110]⟩,.string ⟨#[109,97,120]⟩,.string ⟨#[99,111,112,121,115,105,103,110]⟩] 9)=V2 at *)
  | (go_at_call 148;(with_reducible refine (HCC _).out.mono ?_);rintro e w3 ⟨rfl,hb⟩;have HB3:=hid (HB2.out.trans (hb.mono HB2.out.size));clear hb)
  )
 go_ret2
 exact ⟨rfl,HB3.out⟩
end Go.Proofs.YtlhakbkdlgejpaaGreatDoor.Sc
namespace Go.Proofs.YtlhakbkdlgejpaaGreatDoor.Sc
open Go.RowKit
theorem wp_append_val {w:World} {o:Oper} {a:Act} {K:Act→World→Prop} {Q:Exit→Act→World→Prop} (s x:Operand)
  (ho:o.op=.call { callee:=.builtin .append,args:=#[s,x],argTypes:=#[30,30] }) (base:Nat) (v:Value) (n:Nat) (xs:List Value) (t lo hi:Int) (nl:Bool)
  (hown:w.ownsRow base 24 4 v n xs) (hbase:base≤w.heap.size) (hn:n + 1≤1000) (hs:a.eval s=v) (hx:a.eval x=.slice (some ⟨w.heap.size,0,none⟩) 1 1)
  (h:∀ v' w',w'.ownsRow base 24 4 v' (n + 1) (xs ++ [.int .i64 t,.int .u64 lo,.int .u64 hi,.bool nl])→Below base w w'→base≤w'.heap.size→K (a.put o.dst v') w') :
  o.wp Tryz.prog a (w.alloc (.cells #[.int .i64 t,.int .u64 lo,.int .u64 hi,.bool nl] 24)) K Q:=by
 obtain ⟨i0,hi0,hz0,hz1,hz2⟩:=info_parts info24
 have hb1:=(Below.refl base w).alloc hbase (.cells #[.int .i64 t,.int .u64 lo,.int .u64 hi,.bool nl] 24)
 refine wp_append_own _ s x 30 ho base 24 i0 _ 4 32 Tryz.underlying30 hi0 hz0 hz1 hz2 rfl (by decide) v n xs hs (hown.alloc _) ⟨w.heap.size,0,none⟩ 1 1 [.int .i64 t,.int .u64 lo,.int .u64 hi,.bool nl] hx rfl (cell_four_new _ _ _ _ _ _)
  (fun u hu => by simp at hu;rcases hu with rfl | rfl | rfl | rfl <;> rfl) (by unfold maxLen;omega) (by omega) (by simp;omega) ?_
 intro v' w1 hown' hgrow _
 exact h v' w1 hown' (hb1.grown hgrow (by simp;omega) (fun k hk => (hown.lt k hk).1)) (by have:=hgrow.size;simp at this;omega)
def argL (tys:List Int) (a b:Nat):List Av:=match tys with
 | [t0] => [(t0,a,0,false)]
 | [t0,t1] => [(t0,a,0,false),(t1,b,0,false)]
 | _ => []
structure Row (op ro:Int) (nm:List UInt8) (im:Int) (tk lv:List UInt8) (fx:Bool) (tys:List Int) (t:Int):Prop where
 rng:(69≤op∧op≤196) ∨ (64512≤op∧op≤64519)
 of:ofL op=(ro,nm,im,tk,lv,fx)
 ro0:0≤ro
 n4:4≤nm.length
 n3:nm.length≤1000
 tk1:tyL tk=tys
 lv1:tyL lv=[t]
 l1:1≤tys.length
 l2:tys.length≤2
 ne:(tys.all fun x => x != 123)=true
 tne:t ≠ 123
theorem argL_len (tys:List Int) (a b:Nat) (h1:1≤tys.length) (h2:tys.length≤2):(argL tys a b).length=tys.length:=by
 match tys,h1,h2 with
 | [_],_,_ => rfl
 | [_,_],_,_ => rfl
theorem argL_map (tys:List Int) (a b:Nat) (h1:1≤tys.length) (h2:tys.length≤2):(argL tys a b).map (·.1)=tys:=by
 match tys,h1,h2 with
 | [_],_,_ => rfl
 | [_,_],_,_ => rfl
theorem argL_ty (tys:List Int) (a b:Nat) (hne:(tys.all fun x => x != 123)=true) (j:Nat) (x:Av) (h:(argL tys a b)[j]?=some x):x.1 ≠ 123:=by
 have hm:x ∈ argL tys a b:=List.mem_of_getElem? h
 unfold argL at hm
 split at hm
 ·simp at hm;subst hm;simpa using hne
 ·simp at hm hne;rcases hm with rfl | rfl
  ·exact hne.1
  ·exact hne.2
 ·simp at hm
theorem argL_at (tys:List Int) (a b j:Nat) (h1:1≤tys.length) (h2:tys.length≤2) (hj:j < tys.length):∃ ty,tys[j]?=some ty∧(argL tys a b)[j]?=some (ty,if j=0 then a else b,0,false)∧(#[.int .u64 a,.int .u64 b]:Array Value)[j]?=some (.int .u64 (if j=0 then a else b:Nat)):=by
 match tys,h1,h2,j,hj with
 | [t0],_,_,0,_ => exact ⟨t0,rfl,rfl,rfl⟩
 | [t0,t1],_,_,0,_ => exact ⟨t0,rfl,rfl,rfl⟩
 | [t0,t1],_,_,1,_ => exact ⟨t1,rfl,rfl,rfl⟩
theorem flat_next (l:List Av) (i:Nat) (a:Av) (h:l[i]?=some a):(l.take (i + 1)).flatMap avc=(l.take i).flatMap avc ++ avc a:=by
 rw [List.take_add_one,h,List.flatMap_append]
 simp
theorem AR.of_own {w:World} {base:Nat} {v:Value} (l:List Av) (h1:1≤l.length) (h2:l.length≤2) (h:w.ownsRow base 24 4 v l.length (l.flatMap avc)):AR w v l:=by
 match l,h1,h2 with
 | [a],_,_ => exact AR.of1 (by simpa using h)
 | [a,b],_,_ => exact AR.of2 (by simpa using h)
def Good (op:Int) (a b:Nat):Prop:=∃ ro nm im tk lv fx tys t x e2,Row op ro nm im tk lv fx tys t ∧
 AnsG 50 #[.int .i64 op,.int .u64 (opn (argL tys a b) 0:Nat),.int .u64 (opn (argL tys a b) 1:Nat)] (.tuple #[.int .u64 (x:Nat),.int .i64 (e2:Nat)]) ∧
 Ans 91 #[.string (str (nm.take 1)),.int .i64 (bitsT (t0 (argL tys a b)):Nat),.int .i64 t,.string (str (nm.drop 4)),.int .u64 (opn (argL tys a b) 0:Nat),.int .u64 (opn (argL tys a b) 1:Nat)] (.tuple #[.int .u64 (x:Nat),.int .i64 (e2:Nat)])
theorem doV_agg (t:Int) (x e2:Nat):∃ (tt:Int) (xx:Nat),doV t x e2=.agg #[.int .i64 tt,.int .u64 (xx:Nat),.int .u64 0,.bool false]:=by
 by_cases h:e2=0
 ·exact ⟨t,cutT t x,by unfold doV;rw [if_pos h];rfl⟩
 ·exact ⟨0,0,by unfold doV;rw [if_neg h];rfl⟩
theorem Row.prog {op ro:Int} {nm:List UInt8} {im:Int} {tk lv:List UInt8} {fx:Bool} {tys:List Int} {t:Int} (P:Row op ro nm im tk lv fx tys t) (l:List Av) (hl:l.map (·.1)=tys) (x e2:Nat)
  (HR:AnsG 50 #[.int .i64 op,.int .u64 (opn l 0:Nat),.int .u64 (opn l 1:Nat)] (.tuple #[.int .u64 (x:Nat),.int .i64 (e2:Nat)])) (W:World) (va:Value) (hg:GlobF W) (ha:AR W va l) :
  Calls Tryz.prog 26 #[.int .i64 op,.slice none 0 0,va] W fun e w' => e=.returned (.tuple #[doV t x e2,.int .i64 e2])∧Below W.heap.size W w':=by
 obtain ⟨_,_,_,_,g1,g2,_,_,_⟩:=agree_parts op P.of
 have hlen:l.length=tys.length:=by rw [← hl,List.length_map]
 exact SDo_says op P.rng l (by rw [hlen];exact P.l1) (by rw [hlen];exact P.l2) (by rw [g1,P.tk1,hl]) t (by rw [g2,P.lv1]) va W hg ha x e2 HR
theorem Row.ref {op ro:Int} {nm:List UInt8} {im:Int} {tk lv:List UInt8} {fx:Bool} {tys:List Int} {t:Int} (P:Row op ro nm im tk lv fx tys t) (a b:Nat) (x e2:Nat)
  (HR:Ans 91 #[.string (str (nm.take 1)),.int .i64 (bitsT (t0 (argL tys a b)):Nat),.int .i64 t,.string (str (nm.drop 4)),.int .u64 (opn (argL tys a b) 0:Nat),.int .u64 (opn (argL tys a b) 1:Nat)] (.tuple #[.int .u64 (x:Nat),.int .i64 (e2:Nat)])) (W:World) (va:Value) (hA:AR W va (argL tys a b)) :
  Calls Tryz.prog 51 #[.int .i64 op,.slice none 0 0,va] W fun e w' => e=.returned (.tuple #[doV t x e2,.int .i64 e2])∧Below W.heap.size W w':=by
 obtain ⟨_,_,_,_,_,_,h7,h8,_⟩:=agree_parts op P.of
 have hlen:=argL_len tys a b P.l1 P.l2
 exact RDo_says op P.rng ro nm im tk lv fx P.of P.ro0 P.n4 P.n3 h7 h8 (argL tys a b) (by rw [P.tk1,argL_map tys a b P.l1 P.l2]) (by rw [hlen];exact P.l1) (by rw [hlen];exact P.l2) (argL_ty tys a b P.ne) t P.lv1 P.tne va W hA x e2 HR
set_option maxHeartbeats 8000000 in
theorem some_says (f t:Int) (hf0:0≤f) (hft:f≤t + 1) (ht:t < 100000) (a b:Nat) (ha:a < 18446744073709551616) (hb:b < 18446744073709551616) (HG:∀ op,f≤op→op≤t→Good op a b) (w:World) (hg:GlobF w) :
  Calls Tryz.prog 27 #[.int .i64 f,.int .i64 t,.int .u64 a,.int .u64 b] w fun e w' => e=.returned (.bool true)∧Below w.heap.size w w':=by
 have HGG:=hid HG
 have HGL:=hid hg
 have HA:=hid ha
 have HB:=hid hb
 clear HG hg ha hb
 go_enter Tryz.func27,Tryz.ntmps27
 go_wp2
 go_loopw [9] (fun vo wr => ∃ op:Int,f≤op∧op≤t + 1∧vo=.int .i64 op∧Hid (Below w.heap.size w wr)) (fun vo _ => (t + 1 - intOf vo).toNat)
 case atStart => exact ⟨f,Int.le_refl _,hft,rfl,Below.refl _ _⟩
 case round =>
  obtain ⟨op,hop0,hop1,rfl,HBW⟩:=hrel
  by_cases hle:op≤t
  ·obtain ⟨ro,nm,im,tk,lv,fx,tys,tl,x,e2,P,HP,HR⟩:=HGG.out op hop0 hle
   have dle:decide (op≤t)=true:=by simp;exact hle
   have hwn:wrap64 (op + 1)=op + 1:=by unfold wrap64;omega
   have hag:=agree_parts op P.of
   have h7:=hag.2.2.2.2.2.2.1
   have h8:=hag.2.2.2.2.2.2.2.1
   clear hag
   have HO:=fun W => hid (Of_says op W)
   rw [P.of] at HO
   have HT:=fun W => hid (reftypes_says tk h7 W)
   rw [P.tk1] at HT
   obtain ⟨tt,xx,hdv⟩:=doV_agg tl x e2
   have HPP:=fun W va (h:GlobF W) h2 => hid (P.prog (argL tys a b) (argL_map tys a b P.l1 P.l2) x e2 HP W va h h2)
   have HRR:=fun W va h2 => hid (P.ref a b x e2 HR W va h2)
   rw [hdv] at HPP HRR
   have hl1:=P.l1
   have hl2:=P.l2
   have HLA:=hid (argL_len tys a b hl1 hl2)
   have HAT:=fun j hj => hid (argL_at tys a b j hl1 hl2 hj)
   have HFL:=hid (flat_next (argL tys a b))
   have HOF:=fun w base v h1 h2 h => hid (AR.of_own (w:=w) (base:=base) (v:=v) (argL tys a b) h1 h2 h)
   generalize argL tys a b=l at *
   obtain ⟨n,hn⟩:∃ n,n=tys.length:=⟨_,rfl⟩
   rw [← hn] at hl1 hl2 HLA HAT
   have HN:=hid hn
   unfold rwV at HO
   generalize str nm=sn at *
   generalize str tk=stk at *
   generalize str lv=slv at *
   have hfl:∀ W:World,(Instr.field 36 (.agg #[.int .i64 ro,.string sn,.int .i64 im,.string stk,.string slv,.bool fx]) 3).run Tryz.prog W=.ok (.string stk) W:=fun W => by kernel_rfl
   have HLE:=hid hle
   clear P h7 h8 hdv HP HR hn hle
   go_upto_region 5 with (first
    | (go_at_call 23;refine (HO _).out.mono ?_;rintro e w1 ⟨rfl,hb1⟩;have HB1:=hid (HBW.out.trans (hb1.mono HBW.out.size));clear hb1)
    | (go_at_call 25;(with_reducible refine (HT _).out.mono ?_);rintro e w2 ⟨v2,rfl,ho2,hb2⟩;rw [← HN.out] at ho2;obtain ⟨g2,c2,rfl⟩:=owned_at ho2 hl1;have HO2:=hid ho2;have HB2:=hid (HB1.out.trans (hb2.mono HB1.out.size));clear hb2 ho2))
   have hg2:g2 < w2.heap.size:=(HO2.out.lt g2 rfl).2
   have HTC:Hid (∀ j ty,tys[j]?=some ty→w2.cell? ⟨g2,j,none⟩=some (.int .i64 ty)):=fun j ty hj => by
    have hjl:j < tys.length:=(List.getElem?_eq_some_iff.1 hj).1
    rw [HO2.out.cellAt j (by rw [HN.out];omega)]
    simp [ic,hj]
   clear HO2 HT HO HB1
   go_wp2
   go_loopw [11,12] (fun vl vi ws => ∃ j:Nat,j≤n∧vi=.int .i64 j∧Hid (ws.ownsRow w2.heap.size 24 4 vl j ((l.take j).flatMap avc))∧Hid (Below w2.heap.size w2 ws)) (fun _ vi _ => n - (intOf vi).toNat)
   case atStart => exact ⟨0,Nat.zero_le _,rfl,World.ownsRow_nil _ _ _ _,Below.refl _ _⟩
   case round =>
    obtain ⟨j,hjn,rfl,HOW,HBS⟩:=hrel
    by_cases hlt:j < n
    ·obtain ⟨ty,h1,h2,h3⟩:=(HAT j hlt).out
     have q0:=HTC.out j ty h1
     have HF:=hid (HFL.out j _ h2)
     obtain ⟨z,hz⟩:∃ z,z=(if j=0 then a else b:Nat):=⟨_,rfl⟩
     rw [← hz] at h2 h3 HF
     have H3:=hid h3
     have QT:=hid q0
     have hg2s:g2 < wr.heap.size:=Nat.lt_of_lt_of_le hg2 HBS.out.size
     clear h1 h2 h3 hz q0
     have hj2:((2:Int)≤(j:Int))=False:=by simp;omega
     go_upto_region 9 with fail
     have hS:Below w2.heap.size w2 wr.drew:=HBS.out.drew
     have hOW:wr.drew.ownsRow w2.heap.size 24 4 u11 j ((l.take j).flatMap avc):=HOW.out
     refine wp_region_held_drew (S:=fun W => Below w2.heap.size w2 W) (by kernel_rfl) hS (fun _ => ?_)
     generalize wr.drew=W at *
     refine zt 0 u11 rfl ?_ ?_
     ·(intro W hSw;have x0:=(hSw.cell (p:=⟨g2,j,none⟩) hg2).trans QT.out;go_simp;try (with_reducible rfl))
     try simp only [Act.put,sl2,sl0,sl1]
     refine zt 1 (.slice (some ⟨g2,0,none⟩) n c2) rfl ?_ ?_
     ·(intro W hSw;have x0:=(hSw.cell (p:=⟨g2,j,none⟩) hg2).trans QT.out;go_simp;try (with_reducible rfl))
     try simp only [Act.put,sl2,sl0,sl1]
     refine zt 2 (.int .i64 j) rfl ?_ ?_
     ·(intro W hSw;have x0:=(hSw.cell (p:=⟨g2,j,none⟩) hg2).trans QT.out;go_simp;try (with_reducible rfl))
     try simp only [Act.put,sl2,sl0,sl1]
     refine zt 3 (.pointer (some ⟨g2,j,none⟩)) rfl ?_ ?_
     ·(intro W hSw;have x0:=(hSw.cell (p:=⟨g2,j,none⟩) hg2).trans QT.out;go_simp;try (with_reducible rfl))
     try simp only [Act.put,sl2,sl0,sl1]
     refine zt 4 (.int .i64 ty) rfl ?_ ?_
     ·(intro W hSw;have x0:=(hSw.cell (p:=⟨g2,j,none⟩) hg2).trans QT.out;go_simp;try (with_reducible rfl))
     try simp only [Act.put,sl2,sl0,sl1]
     refine zt 5 (.int .u64 a) rfl ?_ ?_
     ·(intro W hSw;have x0:=(hSw.cell (p:=⟨g2,j,none⟩) hg2).trans QT.out;go_simp;try (with_reducible rfl))
     try simp only [Act.put,sl2,sl0,sl1]
     refine zt 6 (.int .u64 b) rfl ?_ ?_
     ·(intro W hSw;have x0:=(hSw.cell (p:=⟨g2,j,none⟩) hg2).trans QT.out;go_simp;try (with_reducible rfl))
     try simp only [Act.put,sl2,sl0,sl1]
     refine zt 8 (.int .i64 j) rfl ?_ ?_
     ·(intro W hSw;have x0:=(hSw.cell (p:=⟨g2,j,none⟩) hg2).trans QT.out;go_simp;try (with_reducible rfl))
     try simp only [Act.put,sl2,sl0,sl1]
     refine zr 7 rfl (fun K hK => ?_)
     go_simp
     have HX:=CA.new W #[.int .u64 a,.int .u64 b] 22
     replace hS:=hS.alloc hS.size (.cells #[.int .u64 a,.int .u64 b] 22)
     replace hOW:=hOW.alloc (.cells #[.int .u64 a,.int .u64 b] 22)
     generalize W.alloc (.cells #[.int .u64 a,.int .u64 b] 22)=W1 at *
     generalize W.heap.size=gx at *
     refine hK.out _ _ hS (fun _ => ?_)
     clear hK K
     try simp only [Act.put,sl2,sl0,sl1]
     refine zt 9 (.pointer (some ⟨gx,j,none⟩)) rfl ?_ ?_
     ·(intro W hSw;have x0:=(hSw.cell (p:=⟨g2,j,none⟩) hg2).trans QT.out;go_simp;try (with_reducible rfl))
     try simp only [Act.put,sl2,sl0,sl1]
     refine zr 10 rfl (fun K hK => ?_)
     have z9:=HX.at (k:=j) (v:=.int .u64 (z:Nat)) H3.out
     go_simp
     clear z9
     refine hK.out _ _ hS (fun _ => ?_)
     clear hK K
     try simp only [Act.put,sl2,sl0,sl1]
     refine zt 11 (.agg #[.int .i64 ty,.int .u64 (z:Nat),.int .u64 0,.bool false]) rfl ?_ ?_
     ·(intro W hSw;have x0:=(hSw.cell (p:=⟨g2,j,none⟩) hg2).trans QT.out;go_simp;try (with_reducible rfl))
     try simp only [Act.put,sl2,sl0,sl1]
     refine zr 12 rfl (fun K hK => ?_)
     go_simp
     refine hK.out _ _ (hS.alloc hS.size (.cells #[.int .i64 ty,.int .u64 (z:Nat),.int .u64 0,.bool false] 24)) (fun _ => ?_)
     clear hK K
     try simp only [Act.put,sl2,sl0,sl1]
     refine zr 13 rfl (fun K hK => ?_)
     rw [if_pos (by rfl)]
     refine wp_append_val _ _ rfl w2.heap.size u11 j _ ty (z:Nat) 0 false hOW hS.size (by omega) rfl rfl ?_
     intro v' W5 hown' hb5 hsz5
     have hS5:=hS.trans hb5
     refine hK.out _ _ hS5 (fun _ => ?_)
     clear hK K
     try simp only [Act.put,sl2,sl0,sl1]
     refine zt 14 (v') rfl ?_ ?_
     ·(intro W hSw;have x0:=(hSw.cell (p:=⟨g2,j,none⟩) hg2).trans QT.out;go_simp;try (with_reducible rfl))
     try simp only [Act.put,sl2,sl0,sl1]
     refine wpAnyH_done (by kernel_rfl) ?_ _
     go_wp2_with fail
     go_roundw
     case rel => exact ⟨j + 1,by omega,by go_num,by rw [HF.out];exact hown',hS5⟩
     case measure => (simp [intOf];omega)
    ·obtain rfl:j=n:=by omega
     have hll:l.length=j:=HLA.out
     have HAR:=hid (HOF wr w2.heap.size u11 (by omega) (by omega) (by rw [hll];have:=HOW.out;rw [List.take_of_length_le (by omega)] at this;exact this)).out
     have HBw:=hid (HB2.out.trans (HBS.out.mono HB2.out.size))
     have HP1:=HPP wr u11 (HGL.out.next HBw.out) HAR.out
     clear HOW HBS HTC hll
     go_upto_region 11 with (go_at_call 26;(with_reducible refine HP1.out.mono ?_);rintro e w5 ⟨rfl,hb5⟩;have HA5:=hid (HAR.out.call hb5);have HB5:=hid (HBw.out.trans (hb5.mono HBw.out.size));clear hb5)
     have HB6:=hid (HB5.out.alloc HB5.out.size (.cells #[.int .i64 tt,.int .u64 (xx:Nat),.int .u64 0,.bool false] 24))
     have HC6:=hid (CA.new w5 #[.int .i64 tt,.int .u64 (xx:Nat),.int .u64 0,.bool false] 24)
     have HA6:=hid (HA5.out.call ((Below.refl _ _).alloc (Nat.le_refl _) (.cells #[.int .i64 tt,.int .u64 (xx:Nat),.int .u64 0,.bool false] 24)))
     generalize w5.alloc (.cells #[.int .i64 tt,.int .u64 (xx:Nat),.int .u64 0,.bool false] 24)=W6 at *
     generalize w5.heap.size=g6 at *
     have HR1:=HRR W6 u11 HA6.out
     go_upto_region 12 with (go_at_call 51;(with_reducible refine HR1.out.mono ?_);rintro e w7 ⟨rfl,hb7⟩;have HB7:=hid (HB6.out.trans (hb7.mono HB6.out.size));have HC7:=hid (HC6.out.call hb7);clear hb7)
     have HB8:=hid (HB7.out.alloc HB7.out.size (.cells #[.int .i64 tt,.int .u64 (xx:Nat),.int .u64 0,.bool false] 24))
     have HC8:=CA.new w7 #[.int .i64 tt,.int .u64 (xx:Nat),.int .u64 0,.bool false] 24
     have HD8:=HC7.out.alloc (.cells #[.int .i64 tt,.int .u64 (xx:Nat),.int .u64 0,.bool false] 24)
     generalize w7.alloc (.cells #[.int .i64 tt,.int .u64 (xx:Nat),.int .u64 0,.bool false] 24)=W8 at *
     generalize w7.heap.size=g8' at *
     have t0:=HC8.at (k:=0) (v:=.int .i64 tt) rfl
     have t1:=HC8.at (k:=1) (v:=.int .u64 (xx:Nat)) rfl
     have t2:=HC8.at (k:=2) (v:=.int .u64 0) rfl
     have t3:=HC8.at (k:=3) (v:=.bool false) rfl
     have s0:=HD8.at (k:=0) (v:=.int .i64 tt) rfl
     have s1:=HD8.at (k:=1) (v:=.int .u64 (xx:Nat)) rfl
     have s2:=HD8.at (k:=2) (v:=.int .u64 0) rfl
     have s3:=HD8.at (k:=3) (v:=.bool false) rfl
     clear HC8 HD8 HC7 HC6 HA5 HA6 HAR HP1 HR1
     go_wp2
     go_roundw
     case rel => exact ⟨op + 1,by omega,by have:=HLE.out;omega,rfl,HB8.out⟩
     case measure => (simp [intOf];have:=HLE.out;omega)
  ·have dle:decide (op≤t)=false:=by simp;omega
   go_wp2
   go_ret
   exact ⟨rfl,HBW.out⟩
end Go.Proofs.YtlhakbkdlgejpaaGreatDoor.Sc
namespace Go.Proofs.YtlhakbkdlgejpaaGreatDoor.Sc
open Go.RowKit
theorem cutT_lt (t:Int) (n:Nat) (h:n < 18446744073709551616):cutT t n < 18446744073709551616:=by
 unfold cutT;split <;> omega
noncomputable def nm7 (op:Int):List UInt8:=(ofL op).2.1
noncomputable def rowB (op:Int) (tys:List Int) (t:Int):Bool :=
 (decide (69≤op∧op≤196) || decide (64512≤op∧op≤64519)) && decide (0≤(ofL op).1) && decide (4≤(nm7 op).length) && decide ((nm7 op).length≤1000) && (tyL (ofL op).2.2.2.1 == tys) && (tyL (ofL op).2.2.2.2.1 == [t]) && decide (1≤tys.length) && decide (tys.length≤2) && (tys.all fun x => x != 123) && decide (t ≠ 123)
theorem row_of (op:Int) (tys:List Int) (t:Int) (h:rowB op tys t=true):∃ ro im tk lv fx,Row op ro (nm7 op) im tk lv fx tys t:=by
 unfold rowB at h
 obtain ⟨⟨ro,nm,im,tk,lv,fx⟩,hr⟩:∃ r,ofL op=r:=⟨_,rfl⟩
 have hn:nm7 op=nm:=by unfold nm7;rw [hr]
 rw [hn] at h ⊢
 rw [hr] at h
 simp only [Bool.and_eq_true,Bool.or_eq_true,decide_eq_true_eq,beq_iff_eq] at h
 obtain ⟨⟨⟨⟨⟨⟨⟨⟨⟨a1,a2⟩,a3⟩,a4⟩,a5⟩,a6⟩,a7⟩,a8⟩,a9⟩,a10⟩:=h
 exact ⟨ro,im,tk,lv,fx,a1,hr,a2,a3,a4,a5,a6,a7,a8,a9,a10⟩
theorem good_of (op:Int) (tys:List Int) (t:Int) (h:rowB op tys t=true) (a b x e2:Nat)
  (HP:AnsG 50 #[.int .i64 op,.int .u64 (opn (argL tys a b) 0:Nat),.int .u64 (opn (argL tys a b) 1:Nat)] (.tuple #[.int .u64 (x:Nat),.int .i64 (e2:Nat)]))
  (HR:Ans 91 #[.string (str ((nm7 op).take 1)),.int .i64 (bitsT (t0 (argL tys a b)):Nat),.int .i64 t,.string (str ((nm7 op).drop 4)),.int .u64 (opn (argL tys a b) 0:Nat),.int .u64 (opn (argL tys a b) 1:Nat)] (.tuple #[.int .u64 (x:Nat),.int .i64 (e2:Nat)])):Good op a b:=by
 obtain ⟨ro,im,tk,lv,fx,P⟩:=row_of op tys t h
 exact ⟨ro,nm7 op,im,tk,lv,fx,tys,t,x,e2,P,HP,HR⟩
end Go.Proofs.YtlhakbkdlgejpaaGreatDoor.Sc
namespace Go.Proofs.YtlhakbkdlgejpaaGreatDoor.Sc
open Go.RowKit
theorem con_same (op:Int) (h:op=167 ∨ op=173 ∨ (188≤op∧op < 192)) (a:Nat):Ans 86 #[.int .i64 op,.int .u64 a] (.tuple #[.int .u64 (a:Nat),.int .i64 0]):=fun w => by
 obtain ⟨b1,d1⟩:∃ b,(op == 167)=b:=⟨_,rfl⟩
 obtain ⟨b2,d2⟩:∃ b,(op == 173)=b:=⟨_,rfl⟩
 obtain ⟨b3,d3⟩:∃ b,decide (188≤op)=b:=⟨_,rfl⟩
 have hb:b1=true ∨ (b1=false∧b2=true) ∨ (b1=false∧b2=false∧b3=true):=by
  rw [← d1,← d2,← d3]
  simp
  omega
 clear h
 rcases hb with rfl | ⟨rfl,rfl⟩ | ⟨rfl,rfl,rfl⟩
 all_goals
  go_enter Tryz.func86,Tryz.ntmps86
  go_wp2
  go_ret2
  exact ⟨rfl,Below.refl _ _⟩
theorem Num_68 (w:World):Calls Tryz.prog 24 #[.int .i64 68] w fun e w' => e=.returned (.bool false)∧w=w':=by
 go_enter Tryz.func24,Tryz.ntmps24
 go_wp2
 go_ret
 exact ⟨rfl,rfl⟩
theorem Num_69 (w:World):Calls Tryz.prog 24 #[.int .i64 69] w fun e w' => e=.returned (.bool true)∧w=w':=Num_says 69 (.inl ⟨by decide,by decide⟩) w
theorem ar_two (w:World) (t0 t1:Int) (a b:Nat):AR (w.alloc (.cells #[.int .i64 t0,.int .u64 a,.int .u64 0,.bool false,.int .i64 t1,.int .u64 b,.int .u64 0,.bool false] 24)) (.slice (some ⟨w.heap.size,0,none⟩) 2 2) [(t0,a,0,false),(t1,b,0,false)]:=by
 have h:=CA.new w #[.int .i64 t0,.int .u64 a,.int .u64 0,.bool false,.int .i64 t1,.int .u64 b,.int .u64 0,.bool false] 24
 refine ⟨w.heap.size,2,rfl,h.lt,Nat.le_refl _,fun j x hj => ?_⟩
 match j,hj with
 | 0,hj =>
  obtain rfl:(t0,a,0,false)=x:=by simpa using hj
  exact ⟨h.at rfl,h.at rfl,h.at rfl,h.at rfl⟩
 | 1,hj =>
  obtain rfl:(t1,b,0,false)=x:=by simpa using hj
  exact ⟨h.at rfl,h.at rfl,h.at rfl,h.at rfl⟩
theorem ar_one (w:World) (t0:Int) (a:Nat):AR (w.alloc (.cells #[.int .i64 t0,.int .u64 a,.int .u64 0,.bool false] 24)) (.slice (some ⟨w.heap.size,0,none⟩) 1 1) [(t0,a,0,false)]:=by
 have h:=CA.new w #[.int .i64 t0,.int .u64 a,.int .u64 0,.bool false] 24
 refine ⟨w.heap.size,1,rfl,h.lt,Nat.le_refl _,fun j x hj => ?_⟩
 match j,hj with
 | 0,hj =>
  obtain rfl:(t0,a,0,false)=x:=by simpa using hj
  exact ⟨h.at rfl,h.at rfl,h.at rfl,h.at rfl⟩
theorem Bin_div0:Ans 108 #[.int .i64 32,.int .i64 4,.int .u64 ((7:Nat):Int),.int .u64 ((0:Nat):Int)] (.tuple #[.int .u64 ((0:Nat):Int),.int .i64 ((41:Nat):Int)]):=fun w => by
 have HK:∀ W:World,Hid (Calls Tryz.prog 135 #[.int .i64 32] W fun e w' => e=.returned (.bool true)∧W=w'):=fun W => known_yes 32 (by decide) W
 have H7:∀ W:World,Hid (Calls Tryz.prog 136 #[.int .i64 32,.int .u64 7] W fun e w' => e=.returned (.int .u64 7)∧W=w'):=fun W => cut_any 32 (by decide) 7 (by decide) W
 have H0:∀ W:World,Hid (Calls Tryz.prog 136 #[.int .i64 32,.int .u64 0] W fun e w' => e=.returned (.int .u64 0)∧W=w'):=fun W => cut_any 32 (by decide) 0 (by decide) W
 have HD:∀ W:World,Hid (Calls Tryz.prog 174 #[.int .i64 32,.int .i64 4,.int .u64 7,.int .u64 0] W fun e w' => e=.returned (.tuple #[.int .u64 0,.int .i64 41])∧W=w'):=fun W => by
  go_enter Tryz.func174,Tryz.ntmps174
  go_wp2
  go_ret2
  exact ⟨rfl,rfl⟩
 show Calls Tryz.prog 108 #[.int .i64 32,.int .i64 4,.int .u64 7,.int .u64 0] w _
 go_enter Tryz.func108,Tryz.ntmps108
 go_wp2_with (first
  | (go_at_call 135;(with_reducible refine (HK _).out.mono ?_);rintro e w1 ⟨rfl,rfl⟩)
  | (go_at_call 136;(with_reducible refine (H7 _).out.mono ?_);rintro e w2 ⟨rfl,rfl⟩)
  | (go_at_call 136;(with_reducible refine (H0 _).out.mono ?_);rintro e w3 ⟨rfl,rfl⟩)
  | (go_at_call 174;(with_reducible refine (HD _).out.mono ?_);rintro e w4 ⟨rfl,rfl⟩))
 go_ret2
 exact ⟨rfl,Below.refl _ _⟩
theorem row_109:rowB 109 [127,127] 127=true:=by kernel_rfl
theorem row_167:rowB 167 [126] 127=true:=by kernel_rfl
theorem Do_109 (W:World) (va:Value) (hg:GlobF W) (ha:AR W va [(127,7,0,false),(127,0,0,false)]):Calls Tryz.prog 26 #[.int .i64 109,.slice none 0 0,va] W fun e w' => e=.returned (.tuple #[.agg #[.int .i64 0,.int .u64 0,.int .u64 0,.bool false],.int .i64 41])∧Below W.heap.size W w':=by
 obtain ⟨ro,im,tk,lv,fx,P⟩:=row_of 109 [127,127] 127 row_109
 have HB:=Bin_div0
 exact P.prog [(127,7,0,false),(127,0,0,false)] rfl 0 41
  (Ans.g (res_com 109 (by decide) (by decide) _ _ _ _ (com_b32 109 4 (by decide) (by decide) (by decide) _ _ _ _ HB))) W va hg ha
theorem Do_167 (W:World) (va:Value) (hg:GlobF W) (ha:AR W va [(126,4294967301,0,false)]):Calls Tryz.prog 26 #[.int .i64 167,.slice none 0 0,va] W fun e w' => e=.returned (.tuple #[.agg #[.int .i64 127,.int .u64 5,.int .u64 0,.bool false],.int .i64 0])∧Below W.heap.size W w':=by
 obtain ⟨ro,im,tk,lv,fx,P⟩:=row_of 167 [126] 127 row_167
 exact P.prog [(126,4294967301,0,false)] rfl 4294967301 0
  (Ans.g (res_con 167 (by decide) (by decide) 4294967301 0 _ _ (con_same 167 (.inl rfl) 4294967301))) W va hg ha
set_option maxHeartbeats 4000000 in
theorem awake_says (w:World) (hg:GlobF w):Calls Tryz.prog 22 #[] w fun e w' => e=.returned (.bool true)∧Below w.heap.size w w':=by
 have H1:=fun W va h1 h2 => hid (Do_109 W va h1 h2)
 have H2:=fun W va h1 h2 => hid (Do_167 W va h1 h2)
 have N0:=fun W => hid (Num_68 W)
 have N1:=fun W => hid (Num_69 W)
 have HG:=hid hg
 clear hg
 go_enter Tryz.func22,Tryz.ntmps22
 have A1:=hid (ar_two w 127 127 7 0)
 have G1:=hid (HG.out.next ((Below.refl _ w).alloc (Nat.le_refl _) (.cells #[.int .i64 127,.int .u64 ((7:Nat):Int),.int .u64 0,.bool false,.int .i64 127,.int .u64 ((0:Nat):Int),.int .u64 0,.bool false] 24)))
 go_upto_region 2 with (go_at_call 26;refine (H1 _ _ G1.out A1.out).out.mono ?_;rintro e w1 ⟨rfl,hb1⟩;have HB1:=hid (((Below.refl _ w).alloc (Nat.le_refl _) _).trans (hb1.mono (by rw [size_al];omega)));clear hb1)
 have HB2:=hid (HB1.out.alloc HB1.out.size (.cells #[.int .i64 0,.int .u64 0,.int .u64 0,.bool false] 24))
 generalize w1.alloc (.cells #[.int .i64 0,.int .u64 0,.int .u64 0,.bool false] 24)=W2 at *
 clear A1 G1 HB1
 have A2:=hid (ar_one W2 126 4294967301)
 have G2:=hid ((HG.out.next HB2.out).next ((Below.refl _ W2).alloc (Nat.le_refl _) (.cells #[.int .i64 126,.int .u64 ((4294967301:Nat):Int),.int .u64 0,.bool false] 24)))
 go_upto_region 3 with (go_at_call 26;refine (H2 _ _ G2.out A2.out).out.mono ?_;rintro e w3 ⟨rfl,hb3⟩;have HB3:=hid ((HB2.out.alloc HB2.out.size _).trans (hb3.mono (by have:=HB2.out.size;rw [size_al];omega)));clear hb3)
 have HB4:=hid (HB3.out.alloc HB3.out.size (.cells #[.int .i64 127,.int .u64 5,.int .u64 0,.bool false] 24))
 have HC:=CA.new w3 #[.int .i64 127,.int .u64 5,.int .u64 0,.bool false] 24
 generalize w3.alloc (.cells #[.int .i64 127,.int .u64 5,.int .u64 0,.bool false] 24)=W4 at *
 generalize w3.heap.size=g4 at *
 have x0:=HC.at (k:=0) (v:=.int .i64 127) rfl
 have x1:=HC.at (k:=1) (v:=.int .u64 5) rfl
 have x2:=HC.at (k:=2) (v:=.int .u64 0) rfl
 have x3:=HC.at (k:=3) (v:=.bool false) rfl
 clear A2 G2 HB3 HC HG HB2
 go_wp2_with (first
  | (go_at_call 24;(with_reducible refine (N1 _).out.mono ?_);rintro e w5 ⟨rfl,rfl⟩)
  | (go_at_call 24;(with_reducible refine (N0 _).out.mono ?_);rintro e w6 ⟨rfl,rfl⟩))
 go_ret
 exact ⟨rfl,HB4.out⟩
end Go.Proofs.YtlhakbkdlgejpaaGreatDoor.Sc
