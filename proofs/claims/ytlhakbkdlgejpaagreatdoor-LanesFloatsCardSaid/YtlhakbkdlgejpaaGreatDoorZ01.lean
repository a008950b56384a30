/-
  LMath, Exit, Bin, BinAny, LSmall, LSplit, LMem, LSw: merged, what the laws do not reach left out (each text says what it holds where it lies in wip). No condition.
-/
import Derived.Test.YtlhakbkdlgejpaaGreatDoorX01
import Derived.WalkKit
import Derived.Test.YtlhakbkdlgejpaaGreatDoorX04
import Derived.Test.YtlhakbkdlgejpaaGreatDoorX02
set_option linter.unusedSimpArgs false
set_option linter.unusedVariables false
set_option maxRecDepth 100000
namespace Go.Proofs.YtlhakbkdlgejpaaGreatDoor
open Go
def packF (n:Nat):Nat→(Nat→Nat)→Nat
 | 0,_ => 0
 | k + 1,F => packF n k F + 2 ^ (n * k) * (F k % 2 ^ n)
def laneN (n x i:Nat):Nat:=x / 2 ^ (n * i) % 2 ^ n
def splitF (n lo hi i:Nat):Nat:=if i < 64 / n then laneN n lo i else laneN n hi (i - 64 / n)
def cnt (n:Nat):Nat:=128 / n
theorem Okn.cases {n:Nat} (h:Okn n):(n=8∧64 / n=8∧cnt n=16) ∨ (n=16∧64 / n=4∧cnt n=8) ∨ (n=32∧64 / n=2∧cnt n=4) ∨ (n=64∧64 / n=1∧cnt n=2):=by
 rcases h with rfl | rfl | rfl | rfl <;> simp [cnt]
theorem packF_lt (n:Nat):∀ (k:Nat) (F:Nat→Nat),packF n k F < 2 ^ (n * k)
 | 0,F => by simp [packF]
 | k + 1,F => by
  have ih:=packF_lt n k F
  have h:F k % 2 ^ n < 2 ^ n:=Nat.mod_lt _ (Nat.two_pow_pos n)
  have e:2 ^ (n * (k + 1))=2 ^ (n * k) * 2 ^ n:=by rw [Nat.mul_add,Nat.mul_one,Nat.pow_add]
  rw [packF,e]
  calc packF n k F + 2 ^ (n * k) * (F k % 2 ^ n) < 2 ^ (n * k) + 2 ^ (n * k) * (F k % 2 ^ n):=by omega
   _=2 ^ (n * k) * (F k % 2 ^ n + 1):=by rw [Nat.mul_add,Nat.mul_one,Nat.add_comm]
   _≤2 ^ (n * k) * 2 ^ n:=Nat.mul_le_mul_left _ h
theorem packF_congr (n:Nat):∀ (k:Nat) (F G:Nat→Nat),(∀ i,i < k→F i % 2 ^ n=G i % 2 ^ n)→packF n k F=packF n k G
 | 0,_,_,_ => rfl
 | k + 1,F,G,h => by
  rw [packF,packF,packF_congr n k F G (fun i hi => h i (by omega)),h k (by omega)]
theorem packF_front (n:Nat):∀ (k:Nat) (F:Nat→Nat),packF n (k + 1) F=F 0 % 2 ^ n + 2 ^ n * packF n k (fun i => F (i + 1))
 | 0,F => by simp [packF]
 | k + 1,F => by
  rw [packF,packF_front n k F,packF,Nat.add_assoc]
  congr 1
  rw [show n * (k + 1)=n + n * k by rw [Nat.mul_add];omega,Nat.pow_add,Nat.mul_add,Nat.mul_assoc]
theorem packF_or (n k:Nat) (F:Nat→Nat):packF n k F ||| (F k % 2 ^ n) * 2 ^ (n * k)=packF n (k + 1) F:=by
 have:=Nat.two_pow_add_eq_or_of_lt (packF_lt n k F) (F k % 2 ^ n)
 rw [packF,Nat.or_comm,Nat.mul_comm,← this,Nat.add_comm]
theorem laneN_lt (n x i:Nat):laneN n x i < 2 ^ n:=Nat.mod_lt _ (Nat.two_pow_pos n)
theorem splitF_lt (n lo hi i:Nat):splitF n lo hi i < 2 ^ n:=by unfold splitF;split <;> exact laneN_lt _ _ _
theorem splitF_u64 {n:Nat} (h:Okn n) (lo hi i:Nat):splitF n lo hi i < 18446744073709551616 :=
 Nat.lt_of_lt_of_le (splitF_lt n lo hi i) (Nat.pow_le_pow_right (by decide) h.le.2)
def loF (n:Nat) (F:Nat→Nat):Nat:=packF n (64 / n) F
def hiF (n:Nat) (F:Nat→Nat):Nat:=packF n (64 / n) (fun i => F (i + 64 / n))
theorem Okn.half {n:Nat} (h:Okn n):n * (64 / n)=64:=by rcases h with rfl | rfl | rfl | rfl <;> rfl
end Go.Proofs.YtlhakbkdlgejpaaGreatDoor
namespace Go.Proofs.YtlhakbkdlgejpaaGreatDoor
open Go
theorem ex_then {K:Act→World→Prop} {Q:Exit→Act→World→Prop} {id:Nat} {a:Act} {w:World} (h:Q (.exit id) a w):Exit.then K Q (.exit id) a w:=h
theorem ex_norm {K:Act→World→Prop} {Q:Exit→Act→World→Prop} {a:Act} {w:World} (h:K a w):Exit.then K Q .normal a w:=h
theorem ex_here {Q:Exit→Act→World→Prop} {id:Nat} {a:Act} {w:World} (h:Q .normal a w):Exit.inBlock id Q (.exit id) a w:=by
 simp [Exit.inBlock,h]
theorem ex_pass {Q:Exit→Act→World→Prop} {id id':Nat} {a:Act} {w:World} (hne:Nat.beq id' id=false) (h:Q (.exit id') a w):Exit.inBlock id Q (.exit id') a w:=by
 have:id' ≠ id:=Nat.ne_of_beq_eq_false hne
 simp [Exit.inBlock,this,h]
end Go.Proofs.YtlhakbkdlgejpaaGreatDoor
namespace Go.Proofs.YtlhakbkdlgejpaaGreatDoor
open Go.RowKit
set_option maxHeartbeats 800000 in
theorem Bin_1 (n:Nat) (hn:Okn n) (a b:Nat) (ha:a < 18446744073709551616) (hb:b < 18446744073709551616) (w:World) :
  Calls Tryz.prog 108 #[.int .i64 n,.int .i64 1,.int .u64 a,.int .u64 b] w fun e w' => e=.returned (.tuple #[.int .u64 ((binR n 1 (a % 2 ^ n) (b % 2 ^ n)).1:Nat),.int .i64 ((binR n 1 (a % 2 ^ n) (b % 2 ^ n)).2:Nat)])∧w=w':=by
 obtain ⟨h1,h2,h3,h4⟩:=pow_lt64 hn
 have HK:=hid (known_yes n hn w)
 have HX:=hid (cut_any n hn a ha w)
 have HY:=hid (cut_any n hn b hb w)
 obtain ⟨x,hx⟩:∃ x:Nat,x=a % 2 ^ n:=⟨_,rfl⟩
 obtain ⟨y,hy⟩:∃ y:Nat,y=b % 2 ^ n:=⟨_,rfl⟩
 have hxl:x < 2 ^ n:=by rw [hx];exact Nat.mod_lt _ (Nat.two_pow_pos n)
 have hyl:y < 2 ^ n:=by rw [hy];exact Nat.mod_lt _ (Nat.two_pow_pos n)
 rw [← hx] at HX
 rw [← hy] at HY
 rw [← hx,← hy]
 clear hx hy ha hb
 obtain ⟨v,hv⟩:∃ v:Nat,v=(x + y) % 18446744073709551616:=⟨_,rfl⟩
 have hvl:v < 18446744073709551616:=by omega
 have hw:IntKind.u64.wrap ((x:Int) + (y:Int))=(v:Int):=by rw [IntKind.wrap_u64];omega
 have hs:(binR n 1 x y)=(v % 2 ^ n,0):=by
  rw [binR,if_pos rfl,hv,mod_mod64 hn]
 rw [hs]
 have HC:=hid (cut_any n hn v hvl w)
 obtain ⟨s,hse⟩:∃ s:Nat,s=v % 2 ^ n:=⟨_,rfl⟩
 rw [← hse] at HC ⊢
 clear h1 h2 h3 h4 hn hv hvl hs hse hxl hyl
 go_enter Tryz.func108,Tryz.ntmps108
 repeat' (first
  | (with_reducible refine wp_exit ?_;repeat (first | with_reducible refine ex_norm ?_ | with_reducible refine ex_then ?_ | with_reducible refine ex_here ?_ | with_reducible refine ex_pass rfl ?_))
  | (go_big_may;first
   | (go_at_call 135;refine HK.out.mono ?_;rintro e w' ⟨rfl,rfl⟩)
   | (go_at_call 136;((with_reducible refine HX.out.mono ?_);rintro e w' ⟨rfl,rfl⟩))
   | (go_at_call 136;((with_reducible refine HY.out.mono ?_);rintro e w' ⟨rfl,rfl⟩))
   | (go_at_call 136;((with_reducible refine HC.out.mono ?_);rintro e w' ⟨rfl,rfl⟩)))
  | go_values | go_skip | go_guarded | go_step | go_upon | go_back | dsimp only)
 go_ret2
 exact ⟨rfl,rfl⟩
end Go.Proofs.YtlhakbkdlgejpaaGreatDoor
namespace Go.Proofs.YtlhakbkdlgejpaaGreatDoor
open Go.RowKit
def binA (bits op:Int) (a b:Nat):Nat × Nat :=
 if Okn bits.toNat∧1≤op∧op≤25∧(op=25→bits=16) then binR bits.toNat op.toNat (a % 2 ^ bits.toNat) (b % 2 ^ bits.toNat) else (0,1)
end Go.Proofs.YtlhakbkdlgejpaaGreatDoor
namespace Go.Proofs.YtlhakbkdlgejpaaGreatDoor
open Go.RowKit
theorem lcut_any (n:Nat) (hn:Okn n) (a:Nat) (ha:a < 18446744073709551616) (w:World) :
  Calls Tryz.prog 35 #[.int .i64 n,.int .u64 a] w fun e w' => e=.returned (.int .u64 ((a % 2 ^ n:Nat):Int))∧w=w':=by
 have hb:2 ^ n - 1 < 18446744073709551616:=by rcases hn with rfl | rfl | rfl | rfl <;> decide
 have hand:bits .and .u64 (a:Int) ((2 ^ n - 1:Nat):Int)=((a % 2 ^ n:Nat):Int):=by
  rw [bits_and_u64_nat _ _ ha hb,Nat.and_two_pow_sub_one_eq_mod]
 clear hb
 rcases hn with rfl | rfl | rfl | rfl
 all_goals
  go_enter Tryz.func35,Tryz.ntmps35
  go_wp2
  go_ret
  exact ⟨ret_int hand,rfl⟩
theorem lcount_any (n:Nat) (hn:Okn n) (w:World) :
  Calls Tryz.prog 52 #[.int .i64 n] w fun e w' => e=.returned (.int .i64 (cnt n:Nat))∧w=w':=by
 rcases hn with rfl | rfl | rfl | rfl
 all_goals
  go_enter Tryz.func52,Tryz.ntmps52
  go_wp2
  go_ret
  exact ⟨rfl,rfl⟩
end Go.Proofs.YtlhakbkdlgejpaaGreatDoor
namespace Go.Proofs.YtlhakbkdlgejpaaGreatDoor
open Go.RowKit
def vv (t:Int) (lo hi:Nat) (nl:Bool):Value:=.agg #[.int .i64 t,.int .u64 lo,.int .u64 hi,.bool nl]
def LPost (w:World) (n:Nat) (F:Nat→Nat) (e:Ending) (w':World):Prop:=∃ v,e=.returned v∧w'.ownsRow w.heap.size 22 1 v n (fc n F)∧Below w.heap.size w w'
theorem split_step {n:Nat} (hn:Okn n) (lo hi h j:Nat) (hh:h < 2) (hj:j < 64 / n) :
  ((if h=0 then lo else hi) / 2 ^ (n * j)) % 2 ^ n=splitF n lo hi (h * (64 / n) + j):=by
 unfold splitF laneN
 rcases (show h=0 ∨ h=1 by omega) with rfl | rfl
 ·rw [Nat.zero_mul,Nat.zero_add,if_pos rfl,if_pos hj]
 ·rw [Nat.one_mul,if_neg (by omega),if_neg (by omega),Nat.add_sub_cancel_left]
theorem wrap64_nat' {k:Nat} (h:k≤128):wrap64 (k:Int)=k:=by unfold wrap64;omega
theorem run_idx2 (a b:Value) (w:World):(Instr.index 65 (.agg #[a,b]) (.int .i64 0)).run Tryz.prog w=.ok a w∧(Instr.index 65 (.agg #[a,b]) (.int .i64 1)).run Tryz.prog w=.ok b w:=by
 have hs:∀ w,(sizeOf 22).run Tryz.prog w=.ok 1 w:=fun _ => by kernel_rfl
 constructor <;> simp [Instr.index,asIntOf,run_underlying Tryz.underlying65,part,hs]
set_option maxHeartbeats 2000000 in
theorem Split_says (n:Nat) (hn:Okn n) (t:Int) (lo hi:Nat) (nl:Bool) (hl:lo < 18446744073709551616) (hh:hi < 18446744073709551616) (w:World) :
  Calls Tryz.prog 28 #[.int .i64 n,vv t lo hi nl] w (LPost w (cnt n) (splitF n lo hi)):=by
 have HC:=fun W => hid (lcount_any n hn W)
 have HXC:=fun (a:Nat) (ha:a < 18446744073709551616) W => hid (lcut_any n hn a ha W)
 have hc0:((cnt n:Nat):Int) ≠ 0:=by rcases hn.cases with ⟨_,_,h⟩ | ⟨_,_,h⟩ | ⟨_,_,h⟩ | ⟨_,_,h⟩ <;> rw [h] <;> decide
 have hc:(((cnt n:Nat):Int) == 0)=false:=by simpa using hc0
 obtain ⟨c,hce⟩:∃ c,c=cnt n:=⟨_,rfl⟩
 rw [← hce] at hc HC ⊢
 have hn8:=hn.le
 have hq:n * (64 / n)=64:=hn.half
 have hq2:c=2 * (64 / n):=by rw [hce];rcases hn.cases with ⟨_,h,h'⟩ | ⟨_,h,h'⟩ | ⟨_,h,h'⟩ | ⟨_,h,h'⟩ <;> omega
 have HS:=fun h j hh hj => hid (split_step hn lo hi h j hh hj)
 obtain ⟨q,hqe⟩:∃ q,q=64 / n:=⟨_,rfl⟩
 rw [← hqe] at hq hq2 HS
 have hq8:q≤8:=by rcases hn.cases with ⟨_,h,_⟩ | ⟨_,h,_⟩ | ⟨_,h,_⟩ | ⟨_,h,_⟩ <;> omega
 have HL:=hid hl
 have HH:=hid hh
 have HQ:=hid hq
 have HQ2:=hid hq2
 obtain ⟨G,hG⟩:∃ G,G=splitF n lo hi:=⟨_,rfl⟩
 rw [← hG] at HS ⊢
 clear hc0 hce hn hqe hG hl hh hq hq2
 have hi0:=fun w => (run_idx2 (.int .u64 lo) (.int .u64 hi) w).1
 have hi1:=fun w => (run_idx2 (.int .u64 lo) (.int .u64 hi) w).2
 unfold vv
 go_enter Tryz.func28,Tryz.ntmps28
 go_wp2_with (first
  | (go_at_call 52;refine (HC _).out.mono ?_;rintro e w' ⟨rfl,rfl⟩))
 go_loopw [5,17] (fun vo vi wr => ∃ h:Nat,h≤2∧vi=.int .i64 h∧wr.ownsRow w.heap.size 22 1 vo (h * q) (fc (h * q) G)∧Below w.heap.size w wr) (fun _ vi _ => 2 - (intOf vi).toNat)
 case atStart => exact ⟨0,Nat.zero_le _,rfl,by simpa [fc] using World.ownsRow_nil _ w.heap.size 22 1,(Below.refl _ _).alloc (Nat.le_refl _) _⟩
 case round =>
  obtain ⟨h,hh,rfl,hown,hB⟩:=hrel
  have hwr:=hB.size
  rcases (show h=0 ∨ h=1 ∨ h=2 by omega) with rfl | rfl | rfl
  ·have HW:=hid hown
   have HBB:=hid hB
   clear hown hB
   rw [show ((0:Nat):Int)=0 from rfl]
   go_wp2
   go_loopw [5,8] (fun vo vi wr => ∃ j:Nat,j≤q∧vi=.int .i64 ((n * j:Nat):Int)∧wr.ownsRow w.heap.size 22 1 vo (0 * q + j) (fc (0 * q + j) G)∧Below w.heap.size w wr) (fun _ vi _ => 64 - (intOf vi).toNat)
   case atStart => exact ⟨0,Nat.zero_le _,rfl,HW.out,HBB.out⟩
   case round =>
    obtain ⟨j,hj,rfl,hown,hB⟩:=hrel
    have hwr:=hB.size
    by_cases hlt:j < q
    ·have hjn:n * j < 64:=by
      have:=Nat.mul_lt_mul_of_pos_left hlt (show 0 < n by omega)
      have:=HQ.out;omega
     have hx:lo / 2 ^ (n * j) % 2 ^ n=G (0 * q + j):=(HS 0 j (by decide) hlt).out
     have hxl:lo / 2 ^ (n * j) < 18446744073709551616:=Nat.lt_of_le_of_lt (Nat.div_le_self _ _) HL.out
     have hnx:(n * j:Nat) + (n:Int)=((n * (j + 1):Nat):Int):=by rw [Nat.mul_add,Nat.mul_one];omega
     obtain ⟨at_,hat⟩:∃ at_:Nat,at_=n * j:=⟨_,rfl⟩
     obtain ⟨i,hie⟩:∃ i:Nat,i=0 * q + j:=⟨_,rfl⟩
     rw [← hie] at hx hown
     rw [← hat] at hjn hx hxl hnx ⊢
     have HCU:Hid (∀ W,Calls Tryz.prog 35 #[.int .i64 n,.int .u64 ((lo:Int) / 2 ^ at_)] W fun e w' => e=.returned (.int .u64 (G i:Nat))∧W=w'):=fun W => by
      have:=(HXC (lo / 2 ^ at_) hxl W).out
      rw [hx] at this
      simpa using this
     have hw:=wrap64_nat' (show at_ + n≤128 by omega)
     have HSN:=hid (fc_snoc i G)
     have HI:=hid hie
     have hi8:i≤64:=by omega
     have HW2:=hid hown
     have HB2:=hid hB
     have HAT:=hid hat
     have HNX:=hid hnx
     clear  hat hown hB hx hxl hnx hie
     go_wp2_with (first
      | (go_at_call 35;refine (HCU.out _).mono ?_;rintro e w' ⟨rfl,rfl⟩)
      | (at_builtin;refine append_u64 rfl _ _ rfl w.heap.size _ _ _ (G i:Int) HW2.out hwr (by omega) rfl rfl ?_;intro v' w3 hown' hnx3 hsz3))
     go_roundw
     case rel => exact ⟨j + 1,by omega,by rw [← HNX.out],by rw [← Nat.add_assoc, ← HI.out,← HSN.out];exact hown',HB2.out.trans hnx3⟩
     case measure => simp [intOf];omega
    ·obtain rfl:j=q:=by omega
     have hjn:n * j=64:=HQ.out
     rw [hjn]
     have HW2:=hid hown
     have HB2:=hid hB
     clear hown hB hjn
     go_wp2
     go_roundw
     case rel => exact ⟨0 + 1,by omega,by go_num,by rw [Nat.add_mul,Nat.one_mul];exact HW2.out,HB2.out⟩
     case measure => simp [intOf]
  ·have HW:=hid hown
   have HBB:=hid hB
   clear hown hB
   rw [show ((1:Nat):Int)=1 from rfl]
   go_wp2
   go_loopw [5,8] (fun vo vi wr => ∃ j:Nat,j≤q∧vi=.int .i64 ((n * j:Nat):Int)∧wr.ownsRow w.heap.size 22 1 vo (1 * q + j) (fc (1 * q + j) G)∧Below w.heap.size w wr) (fun _ vi _ => 64 - (intOf vi).toNat)
   case atStart => exact ⟨0,Nat.zero_le _,rfl,HW.out,HBB.out⟩
   case round =>
    obtain ⟨j,hj,rfl,hown,hB⟩:=hrel
    have hwr:=hB.size
    by_cases hlt:j < q
    ·have hjn:n * j < 64:=by
      have:=Nat.mul_lt_mul_of_pos_left hlt (show 0 < n by omega)
      have:=HQ.out;omega
     have hx:hi / 2 ^ (n * j) % 2 ^ n=G (1 * q + j):=(HS 1 j (by decide) hlt).out
     have hxl:hi / 2 ^ (n * j) < 18446744073709551616:=Nat.lt_of_le_of_lt (Nat.div_le_self _ _) HH.out
     have hnx:(n * j:Nat) + (n:Int)=((n * (j + 1):Nat):Int):=by rw [Nat.mul_add,Nat.mul_one];omega
     obtain ⟨at_,hat⟩:∃ at_:Nat,at_=n * j:=⟨_,rfl⟩
     obtain ⟨i,hie⟩:∃ i:Nat,i=1 * q + j:=⟨_,rfl⟩
     rw [← hie] at hx hown
     rw [← hat] at hjn hx hxl hnx ⊢
     have HCU:Hid (∀ W,Calls Tryz.prog 35 #[.int .i64 n,.int .u64 ((hi:Int) / 2 ^ at_)] W fun e w' => e=.returned (.int .u64 (G i:Nat))∧W=w'):=fun W => by
      have:=(HXC (hi / 2 ^ at_) hxl W).out
      rw [hx] at this
      simpa using this
     have hw:=wrap64_nat' (show at_ + n≤128 by omega)
     have HSN:=hid (fc_snoc i G)
     have HI:=hid hie
     have hi8:i≤64:=by omega
     have HW2:=hid hown
     have HB2:=hid hB
     have HAT:=hid hat
     have HNX:=hid hnx
     clear  hat hown hB hx hxl hnx hie
     go_wp2_with (first
      | (go_at_call 35;refine (HCU.out _).mono ?_;rintro e w' ⟨rfl,rfl⟩)
      | (at_builtin;refine append_u64 rfl _ _ rfl w.heap.size _ _ _ (G i:Int) HW2.out hwr (by omega) rfl rfl ?_;intro v' w3 hown' hnx3 hsz3))
     go_roundw
     case rel => exact ⟨j + 1,by omega,by rw [← HNX.out],by rw [← Nat.add_assoc, ← HI.out,← HSN.out];exact hown',HB2.out.trans hnx3⟩
     case measure => simp [intOf];omega
    ·obtain rfl:j=q:=by omega
     have hjn:n * j=64:=HQ.out
     rw [hjn]
     have HW2:=hid hown
     have HB2:=hid hB
     clear hown hB hjn
     go_wp2
     go_roundw
     case rel => exact ⟨1 + 1,by omega,by go_num,by rw [show (1 + 1) * j=1 * j + j by omega];exact HW2.out,HB2.out⟩
     case measure => simp [intOf]
  ·have HW:=hid hown
   have HBB:=hid hB
   clear hown hB
   go_wp2
   go_ret
   exact ⟨_,rfl,by rw [HQ2.out];exact HW.out,HBB.out⟩
end Go.Proofs.YtlhakbkdlgejpaaGreatDoor
namespace Go.Proofs.YtlhakbkdlgejpaaGreatDoor
open Go.RowKit
def CA (g:Nat) (cs:Array Value) (T:TypeId) (W:World):Prop:=W.heap[g]?=some (.cells cs T (0,0))
theorem CA.lt {g:Nat} {cs:Array Value} {T:TypeId} {W:World} (h:CA g cs T W):g < W.heap.size:=(Array.getElem?_eq_some_iff.1 h).1
theorem CA.new (w:World) (cs:Array Value) (T:TypeId):CA w.heap.size cs T (w.alloc (.cells cs T)):=by
 show (w.heap.push _)[w.heap.size]?=_
 simp
theorem CA.call {g:Nat} {cs:Array Value} {T:TypeId} {W W':World} (h:CA g cs T W) (hb:Below W.heap.size W W'):CA g cs T W':=by
 unfold CA at h ⊢
 rw [hb.block g (CA.lt h),h]
theorem CA.below {g B:Nat} {cs:Array Value} {T:TypeId} {W W':World} (h:CA g cs T W) (hb:Below B W W') (hg:g < B):CA g cs T W':=by
 unfold CA at h ⊢
 rw [hb.block g hg,h]
theorem CA.alloc {g:Nat} {cs:Array Value} {T:TypeId} {W:World} (h:CA g cs T W) (o:Obj):CA g cs T (W.alloc o):=h.call ((Below.refl _ _).alloc (Nat.le_refl _) o)
theorem CA.drew {g:Nat} {cs:Array Value} {T:TypeId} {W:World} (h:CA g cs T W):CA g cs T W.drew:=h
theorem CA.at {g k:Nat} {cs:Array Value} {T:TypeId} {W:World} {v:Value} (h:CA g cs T W) (hk:cs[k]?=some v):W.cell? ⟨g,k,none⟩=some v:=by
 unfold CA at h
 rw [World.cell?,h]
 simp [hk]
theorem CA.free {g:Nat} {cs:Array Value} {T:TypeId} {W:World} (h:CA g cs T W) (k:Nat):W.frozen? ⟨g,k,none⟩=false:=by
 unfold CA at h
 rw [World.frozen?,h]
 simp
theorem CA.set {g k:Nat} {cs:Array Value} {T:TypeId} {W:World} (h:CA g cs T W) (v:Value):CA g (cs.setIfInBounds k v) T (W.setCell ⟨g,k,none⟩ v):=by
 unfold CA at h ⊢
 rw [World.setCell,Array.getElem?_modify,if_pos rfl,h]
 rfl
theorem CA.far {g c o:Nat} {cs:Array Value} {T:TypeId} {W:World} (h:CA g cs T W) (hne:c ≠ g) (v:Value):CA g cs T (W.setCell ⟨c,o,none⟩ v):=by
 unfold CA at h ⊢
 rw [World.setCell,Array.getElem?_modify,if_neg hne,h]
def RowAt (w:World) (v:Value) (n:Nat) (F:Nat→Nat):Prop :=
 ∃ g o cap,v=.slice (some ⟨g,o,none⟩) n cap∧g < w.heap.size∧n≤cap∧∀ j,j < n→w.cell? ⟨g,o + j,none⟩=some (.int .u64 (F j:Nat))∧w.frozen? ⟨g,o + j,none⟩=false
theorem RowAt.call {w w':World} {v:Value} {n:Nat} {F:Nat→Nat} (h:RowAt w v n F) (hb:Below w.heap.size w w'):RowAt w' v n F:=by
 obtain ⟨g,o,cap,e,hl,hc,ha⟩:=h
 refine ⟨g,o,cap,e,Nat.lt_of_lt_of_le hl hb.size,hc,fun j hj => ?_⟩
 rw [hb.cell (p:=⟨g,o + j,none⟩) hl,hb.frozen (p:=⟨g,o + j,none⟩) hl]
 exact ha j hj
theorem RowAt.of_own {w:World} {base:Nat} {v:Value} {n:Nat} {F:Nat→Nat} (h:w.ownsRow base 22 1 v n (fc n F)) (hn:1≤n):RowAt w v n F:=by
 have h0:=h
 rcases h.2 with ⟨_,h2⟩ | ⟨g,cap,cur,rfl,e2,e3,e4,_⟩
 ·omega
 ·refine ⟨g,0,cap,rfl,(Array.getElem?_eq_some_iff.1 e3).1,e4,fun j hj => ?_⟩
  rw [Nat.zero_add]
  exact ⟨by rw [h0.cellAt j (by rw [Nat.mul_one];exact hj),fc_get hj],h0.frozenAt j⟩
theorem RowAt.congr {w:World} {v:Value} {n:Nat} {F G:Nat→Nat} (h:RowAt w v n F) (e:∀ j,j < n→F j=G j):RowAt w v n G:=by
 obtain ⟨g,o,cap,e1,hl,hc,ha⟩:=h
 exact ⟨g,o,cap,e1,hl,hc,fun j hj => by rw [← e j hj];exact ha j hj⟩
end Go.Proofs.YtlhakbkdlgejpaaGreatDoor
namespace Go.Proofs.YtlhakbkdlgejpaaGreatDoor
open Go.RowKit
def swL:List (List UInt8 × Int)→List UInt8→Int
 | [],_ => 0
 | (l,r) :: t,v => if (v == l)=true then r else swL t v
def insV (vb:List UInt8) (ff:Bool) (fb:Int) (tf:Bool) (tb:Int) (sg:Bool):Value:=.agg #[.string (str vb),.bool ff,.int .i64 fb,.bool tf,.int .i64 tb,.bool sg]
def ei (sg:Bool) (a b:Int):Int:=if sg then a else b
def FU:List (List UInt8 × Int):=[([97,98,115],1),([110,101,103],2),([115,113,114,116],3),([99,101,105,108],4),([102,108,111,111,114],5),([116,114,117,110,99],6),([110,101,97,114,101,115,116],7)]
def FR:List (List UInt8 × Int):=[([101,113],1),([110,101],2),([108,116],3),([103,116],4),([108,101],5),([103,101],6)]
def FB:List (List UInt8 × Int):=[([97,100,100],1),([115,117,98],2),([109,117,108],3),([100,105,118],4),([109,105,110],5),([109,97,120],6),([112,109,105,110],8),([112,109,97,120],9)]
def IU:List (List UInt8 × Int):=[([97,98,115],7),([110,101,103],8),([112,111,112,99,110,116],3)]
def IR (sg:Bool):List (List UInt8 × Int):=[([101,113],1),([110,101],2),([108,116],(ei sg 3 4)),([103,116],(ei sg 5 6)),([108,101],(ei sg 7 8)),([103,101],(ei sg 9 10))]
def IB (sg:Bool):List (List UInt8 × Int):=[([97,110,100],8),([111,114],9),([120,111,114],10),([115,104,108],11),([115,104,114],(ei sg 12 13)),([97,100,100],1),([115,117,98],2),([109,117,108],3),([109,105,110],(ei sg 20 21)),([109,97,120],(ei sg 22 23)),([97,100,100,95,115,97,116],(ei sg 16 17)),([115,117,98,95,115,97,116],(ei sg 18 19)),([97,118,103,114],24),([113,49,53,109,117,108,114,95,115,97,116],25)]
theorem either_says (vb:List UInt8) (ff:Bool) (fb:Int) (tf:Bool) (tb:Int) (sg:Bool) (a b:Int) (w:World):Calls Tryz.prog 193 #[insV vb ff fb tf tb sg,.int .i64 a,.int .i64 b] w fun e w' => e=.returned (.int .i64 (ei sg a b))∧Below w.heap.size w w':=by
 unfold insV
 generalize str vb=s
 cases sg
 all_goals
  go_enter Tryz.func193,Tryz.ntmps193
  go_wp2
  go_ret
  exact ⟨rfl,(Below.refl _ _).alloc (Nat.le_refl _) _⟩
set_option maxHeartbeats 2000000 in
theorem floatUnary_says (vb:List UInt8) (w:World):Calls Tryz.prog 191 #[.string (str vb)] w fun e w' => e=.returned (.int .i64 (swL FU vb))∧w=w':=by
 obtain ⟨s,hs⟩:∃ s,s=str vb:=⟨_,rfl⟩
 rw [← hs]
 cases h0:(vb == [97,98,115]) with
 | true =>
  have q0:(s.toList == [97,98,115])=true:=by rw [hs,str_list];exact h0
  have hv:Hid (swL FU vb=1):=by simp [Hid,FU,swL,h0]
  clear h0 hs
  go_enter Tryz.func191,Tryz.ntmps191
  go_wp2
  go_ret
  exact ⟨ret_int hv.out.symm,rfl⟩
 | false =>
  cases h1:(vb == [110,101,103]) with
  | true =>
   have q0:(s.toList == [97,98,115])=false:=by rw [hs,str_list];exact h0
   have q1:(s.toList == [110,101,103])=true:=by rw [hs,str_list];exact h1
   have hv:Hid (swL FU vb=2):=by simp [Hid,FU,swL,h0,h1]
   clear h0 h1 hs
   go_enter Tryz.func191,Tryz.ntmps191
   go_wp2
   go_ret
   exact ⟨ret_int hv.out.symm,rfl⟩
  | false =>
   cases h2:(vb == [115,113,114,116]) with
   | true =>
    have q0:(s.toList == [97,98,115])=false:=by rw [hs,str_list];exact h0
    have q1:(s.toList == [110,101,103])=false:=by rw [hs,str_list];exact h1
    have q2:(s.toList == [115,113,114,116])=true:=by rw [hs,str_list];exact h2
    have hv:Hid (swL FU vb=3):=by simp [Hid,FU,swL,h0,h1,h2]
    clear h0 h1 h2 hs
    go_enter Tryz.func191,Tryz.ntmps191
    go_wp2
    go_ret
    exact ⟨ret_int hv.out.symm,rfl⟩
   | false =>
    cases h3:(vb == [99,101,105,108]) with
    | true =>
     have q0:(s.toList == [97,98,115])=false:=by rw [hs,str_list];exact h0
     have q1:(s.toList == [110,101,103])=false:=by rw [hs,str_list];exact h1
     have q2:(s.toList == [115,113,114,116])=false:=by rw [hs,str_list];exact h2
     have q3:(s.toList == [99,101,105,108])=true:=by rw [hs,str_list];exact h3
     have hv:Hid (swL FU vb=4):=by simp [Hid,FU,swL,h0,h1,h2,h3]
     clear h0 h1 h2 h3 hs
     go_enter Tryz.func191,Tryz.ntmps191
     go_wp2
     go_ret
     exact ⟨ret_int hv.out.symm,rfl⟩
    | false =>
     cases h4:(vb == [102,108,111,111,114]) with
     | true =>
      have q0:(s.toList == [97,98,115])=false:=by rw [hs,str_list];exact h0
      have q1:(s.toList == [110,101,103])=false:=by rw [hs,str_list];exact h1
      have q2:(s.toList == [115,113,114,116])=false:=by rw [hs,str_list];exact h2
      have q3:(s.toList == [99,101,105,108])=false:=by rw [hs,str_list];exact h3
      have q4:(s.toList == [102,108,111,111,114])=true:=by rw [hs,str_list];exact h4
      have hv:Hid (swL FU vb=5):=by simp [Hid,FU,swL,h0,h1,h2,h3,h4]
      clear h0 h1 h2 h3 h4 hs
      go_enter Tryz.func191,Tryz.ntmps191
      go_wp2
      go_ret
      exact ⟨ret_int hv.out.symm,rfl⟩
     | false =>
      cases h5:(vb == [116,114,117,110,99]) with
      | true =>
       have q0:(s.toList == [97,98,115])=false:=by rw [hs,str_list];exact h0
       have q1:(s.toList == [110,101,103])=false:=by rw [hs,str_list];exact h1
       have q2:(s.toList == [115,113,114,116])=false:=by rw [hs,str_list];exact h2
       have q3:(s.toList == [99,101,105,108])=false:=by rw [hs,str_list];exact h3
       have q4:(s.toList == [102,108,111,111,114])=false:=by rw [hs,str_list];exact h4
       have q5:(s.toList == [116,114,117,110,99])=true:=by rw [hs,str_list];exact h5
       have hv:Hid (swL FU vb=6):=by simp [Hid,FU,swL,h0,h1,h2,h3,h4,h5]
       clear h0 h1 h2 h3 h4 h5 hs
       go_enter Tryz.func191,Tryz.ntmps191
       go_wp2
       go_ret
       exact ⟨ret_int hv.out.symm,rfl⟩
      | false =>
       cases h6:(vb == [110,101,97,114,101,115,116]) with
       | true =>
        have q0:(s.toList == [97,98,115])=false:=by rw [hs,str_list];exact h0
        have q1:(s.toList == [110,101,103])=false:=by rw [hs,str_list];exact h1
        have q2:(s.toList == [115,113,114,116])=false:=by rw [hs,str_list];exact h2
        have q3:(s.toList == [99,101,105,108])=false:=by rw [hs,str_list];exact h3
        have q4:(s.toList == [102,108,111,111,114])=false:=by rw [hs,str_list];exact h4
        have q5:(s.toList == [116,114,117,110,99])=false:=by rw [hs,str_list];exact h5
        have q6:(s.toList == [110,101,97,114,101,115,116])=true:=by rw [hs,str_list];exact h6
        have hv:Hid (swL FU vb=7):=by simp [Hid,FU,swL,h0,h1,h2,h3,h4,h5,h6]
        clear h0 h1 h2 h3 h4 h5 h6 hs
        go_enter Tryz.func191,Tryz.ntmps191
        go_wp2
        go_ret
        exact ⟨ret_int hv.out.symm,rfl⟩
       | false =>
        have q0:(s.toList == [97,98,115])=false:=by rw [hs,str_list];exact h0
        have q1:(s.toList == [110,101,103])=false:=by rw [hs,str_list];exact h1
        have q2:(s.toList == [115,113,114,116])=false:=by rw [hs,str_list];exact h2
        have q3:(s.toList == [99,101,105,108])=false:=by rw [hs,str_list];exact h3
        have q4:(s.toList == [102,108,111,111,114])=false:=by rw [hs,str_list];exact h4
        have q5:(s.toList == [116,114,117,110,99])=false:=by rw [hs,str_list];exact h5
        have q6:(s.toList == [110,101,97,114,101,115,116])=false:=by rw [hs,str_list];exact h6
        have hv:Hid (swL FU vb=0):=by simp [Hid,FU,swL,h0,h1,h2,h3,h4,h5,h6]
        clear h0 h1 h2 h3 h4 h5 h6 hs
        go_enter Tryz.func191,Tryz.ntmps191
        go_wp2
        go_ret
        exact ⟨ret_int hv.out.symm,rfl⟩
set_option maxHeartbeats 2000000 in
theorem floatRelation_says (vb:List UInt8) (w:World):Calls Tryz.prog 192 #[.string (str vb)] w fun e w' => e=.returned (.int .i64 (swL FR vb))∧w=w':=by
 obtain ⟨s,hs⟩:∃ s,s=str vb:=⟨_,rfl⟩
 rw [← hs]
 cases h0:(vb == [101,113]) with
 | true =>
  have q0:(s.toList == [101,113])=true:=by rw [hs,str_list];exact h0
  have hv:Hid (swL FR vb=1):=by simp [Hid,FR,swL,h0]
  clear h0 hs
  go_enter Tryz.func192,Tryz.ntmps192
  go_wp2
  go_ret
  exact ⟨ret_int hv.out.symm,rfl⟩
 | false =>
  cases h1:(vb == [110,101]) with
  | true =>
   have q0:(s.toList == [101,113])=false:=by rw [hs,str_list];exact h0
   have q1:(s.toList == [110,101])=true:=by rw [hs,str_list];exact h1
   have hv:Hid (swL FR vb=2):=by simp [Hid,FR,swL,h0,h1]
   clear h0 h1 hs
   go_enter Tryz.func192,Tryz.ntmps192
   go_wp2
   go_ret
   exact ⟨ret_int hv.out.symm,rfl⟩
  | false =>
   cases h2:(vb == [108,116]) with
   | true =>
    have q0:(s.toList == [101,113])=false:=by rw [hs,str_list];exact h0
    have q1:(s.toList == [110,101])=false:=by rw [hs,str_list];exact h1
    have q2:(s.toList == [108,116])=true:=by rw [hs,str_list];exact h2
    have hv:Hid (swL FR vb=3):=by simp [Hid,FR,swL,h0,h1,h2]
    clear h0 h1 h2 hs
    go_enter Tryz.func192,Tryz.ntmps192
    go_wp2
    go_ret
    exact ⟨ret_int hv.out.symm,rfl⟩
   | false =>
    cases h3:(vb == [103,116]) with
    | true =>
     have q0:(s.toList == [101,113])=false:=by rw [hs,str_list];exact h0
     have q1:(s.toList == [110,101])=false:=by rw [hs,str_list];exact h1
     have q2:(s.toList == [108,116])=false:=by rw [hs,str_list];exact h2
     have q3:(s.toList == [103,116])=true:=by rw [hs,str_list];exact h3
     have hv:Hid (swL FR vb=4):=by simp [Hid,FR,swL,h0,h1,h2,h3]
     clear h0 h1 h2 h3 hs
     go_enter Tryz.func192,Tryz.ntmps192
     go_wp2
     go_ret
     exact ⟨ret_int hv.out.symm,rfl⟩
    | false =>
     cases h4:(vb == [108,101]) with
     | true =>
      have q0:(s.toList == [101,113])=false:=by rw [hs,str_list];exact h0
      have q1:(s.toList == [110,101])=false:=by rw [hs,str_list];exact h1
      have q2:(s.toList == [108,116])=false:=by rw [hs,str_list];exact h2
      have q3:(s.toList == [103,116])=false:=by rw [hs,str_list];exact h3
      have q4:(s.toList == [108,101])=true:=by rw [hs,str_list];exact h4
      have hv:Hid (swL FR vb=5):=by simp [Hid,FR,swL,h0,h1,h2,h3,h4]
      clear h0 h1 h2 h3 h4 hs
      go_enter Tryz.func192,Tryz.ntmps192
      go_wp2
      go_ret
      exact ⟨ret_int hv.out.symm,rfl⟩
     | false =>
      cases h5:(vb == [103,101]) with
      | true =>
       have q0:(s.toList == [101,113])=false:=by rw [hs,str_list];exact h0
       have q1:(s.toList == [110,101])=false:=by rw [hs,str_list];exact h1
       have q2:(s.toList == [108,116])=false:=by rw [hs,str_list];exact h2
       have q3:(s.toList == [103,116])=false:=by rw [hs,str_list];exact h3
       have q4:(s.toList == [108,101])=false:=by rw [hs,str_list];exact h4
       have q5:(s.toList == [103,101])=true:=by rw [hs,str_list];exact h5
       have hv:Hid (swL FR vb=6):=by simp [Hid,FR,swL,h0,h1,h2,h3,h4,h5]
       clear h0 h1 h2 h3 h4 h5 hs
       go_enter Tryz.func192,Tryz.ntmps192
       go_wp2
       go_ret
       exact ⟨ret_int hv.out.symm,rfl⟩
      | false =>
       have q0:(s.toList == [101,113])=false:=by rw [hs,str_list];exact h0
       have q1:(s.toList == [110,101])=false:=by rw [hs,str_list];exact h1
       have q2:(s.toList == [108,116])=false:=by rw [hs,str_list];exact h2
       have q3:(s.toList == [103,116])=false:=by rw [hs,str_list];exact h3
       have q4:(s.toList == [108,101])=false:=by rw [hs,str_list];exact h4
       have q5:(s.toList == [103,101])=false:=by rw [hs,str_list];exact h5
       have hv:Hid (swL FR vb=0):=by simp [Hid,FR,swL,h0,h1,h2,h3,h4,h5]
       clear h0 h1 h2 h3 h4 h5 hs
       go_enter Tryz.func192,Tryz.ntmps192
       go_wp2
       go_ret
       exact ⟨ret_int hv.out.symm,rfl⟩
set_option maxHeartbeats 2000000 in
theorem floatBinary_says (vb:List UInt8) (w:World):Calls Tryz.prog 194 #[.string (str vb)] w fun e w' => e=.returned (.int .i64 (swL FB vb))∧w=w':=by
 obtain ⟨s,hs⟩:∃ s,s=str vb:=⟨_,rfl⟩
 rw [← hs]
 cases h0:(vb == [97,100,100]) with
 | true =>
  have q0:(s.toList == [97,100,100])=true:=by rw [hs,str_list];exact h0
  have hv:Hid (swL FB vb=1):=by simp [Hid,FB,swL,h0]
  clear h0 hs
  go_enter Tryz.func194,Tryz.ntmps194
  go_wp2
  go_ret
  exact ⟨ret_int hv.out.symm,rfl⟩
 | false =>
  cases h1:(vb == [115,117,98]) with
  | true =>
   have q0:(s.toList == [97,100,100])=false:=by rw [hs,str_list];exact h0
   have q1:(s.toList == [115,117,98])=true:=by rw [hs,str_list];exact h1
   have hv:Hid (swL FB vb=2):=by simp [Hid,FB,swL,h0,h1]
   clear h0 h1 hs
   go_enter Tryz.func194,Tryz.ntmps194
   go_wp2
   go_ret
   exact ⟨ret_int hv.out.symm,rfl⟩
  | false =>
   cases h2:(vb == [109,117,108]) with
   | true =>
    have q0:(s.toList == [97,100,100])=false:=by rw [hs,str_list];exact h0
    have q1:(s.toList == [115,117,98])=false:=by rw [hs,str_list];exact h1
    have q2:(s.toList == [109,117,108])=true:=by rw [hs,str_list];exact h2
    have hv:Hid (swL FB vb=3):=by simp [Hid,FB,swL,h0,h1,h2]
    clear h0 h1 h2 hs
    go_enter Tryz.func194,Tryz.ntmps194
    go_wp2
    go_ret
    exact ⟨ret_int hv.out.symm,rfl⟩
   | false =>
    cases h3:(vb == [100,105,118]) with
    | true =>
     have q0:(s.toList == [97,100,100])=false:=by rw [hs,str_list];exact h0
     have q1:(s.toList == [115,117,98])=false:=by rw [hs,str_list];exact h1
     have q2:(s.toList == [109,117,108])=false:=by rw [hs,str_list];exact h2
     have q3:(s.toList == [100,105,118])=true:=by rw [hs,str_list];exact h3
     have hv:Hid (swL FB vb=4):=by simp [Hid,FB,swL,h0,h1,h2,h3]
     clear h0 h1 h2 h3 hs
     go_enter Tryz.func194,Tryz.ntmps194
     go_wp2
     go_ret
     exact ⟨ret_int hv.out.symm,rfl⟩
    | false =>
     cases h4:(vb == [109,105,110]) with
     | true =>
      have q0:(s.toList == [97,100,100])=false:=by rw [hs,str_list];exact h0
      have q1:(s.toList == [115,117,98])=false:=by rw [hs,str_list];exact h1
      have q2:(s.toList == [109,117,108])=false:=by rw [hs,str_list];exact h2
      have q3:(s.toList == [100,105,118])=false:=by rw [hs,str_list];exact h3
      have q4:(s.toList == [109,105,110])=true:=by rw [hs,str_list];exact h4
      have hv:Hid (swL FB vb=5):=by simp [Hid,FB,swL,h0,h1,h2,h3,h4]
      clear h0 h1 h2 h3 h4 hs
      go_enter Tryz.func194,Tryz.ntmps194
      go_wp2
      go_ret
      exact ⟨ret_int hv.out.symm,rfl⟩
     | false =>
      cases h5:(vb == [109,97,120]) with
      | true =>
       have q0:(s.toList == [97,100,100])=false:=by rw [hs,str_list];exact h0
       have q1:(s.toList == [115,117,98])=false:=by rw [hs,str_list];exact h1
       have q2:(s.toList == [109,117,108])=false:=by rw [hs,str_list];exact h2
       have q3:(s.toList == [100,105,118])=false:=by rw [hs,str_list];exact h3
       have q4:(s.toList == [109,105,110])=false:=by rw [hs,str_list];exact h4
       have q5:(s.toList == [109,97,120])=true:=by rw [hs,str_list];exact h5
       have hv:Hid (swL FB vb=6):=by simp [Hid,FB,swL,h0,h1,h2,h3,h4,h5]
       clear h0 h1 h2 h3 h4 h5 hs
       go_enter Tryz.func194,Tryz.ntmps194
       go_wp2
       go_ret
       exact ⟨ret_int hv.out.symm,rfl⟩
      | false =>
       cases h6:(vb == [112,109,105,110]) with
       | true =>
        have q0:(s.toList == [97,100,100])=false:=by rw [hs,str_list];exact h0
        have q1:(s.toList == [115,117,98])=false:=by rw [hs,str_list];exact h1
        have q2:(s.toList == [109,117,108])=false:=by rw [hs,str_list];exact h2
        have q3:(s.toList == [100,105,118])=false:=by rw [hs,str_list];exact h3
        have q4:(s.toList == [109,105,110])=false:=by rw [hs,str_list];exact h4
        have q5:(s.toList == [109,97,120])=false:=by rw [hs,str_list];exact h5
        have q6:(s.toList == [112,109,105,110])=true:=by rw [hs,str_list];exact h6
        have hv:Hid (swL FB vb=8):=by simp [Hid,FB,swL,h0,h1,h2,h3,h4,h5,h6]
        clear h0 h1 h2 h3 h4 h5 h6 hs
        go_enter Tryz.func194,Tryz.ntmps194
        go_wp2
        go_ret
        exact ⟨ret_int hv.out.symm,rfl⟩
       | false =>
        cases h7:(vb == [112,109,97,120]) with
        | true =>
         have q0:(s.toList == [97,100,100])=false:=by rw [hs,str_list];exact h0
         have q1:(s.toList == [115,117,98])=false:=by rw [hs,str_list];exact h1
         have q2:(s.toList == [109,117,108])=false:=by rw [hs,str_list];exact h2
         have q3:(s.toList == [100,105,118])=false:=by rw [hs,str_list];exact h3
         have q4:(s.toList == [109,105,110])=false:=by rw [hs,str_list];exact h4
         have q5:(s.toList == [109,97,120])=false:=by rw [hs,str_list];exact h5
         have q6:(s.toList == [112,109,105,110])=false:=by rw [hs,str_list];exact h6
         have q7:(s.toList == [112,109,97,120])=true:=by rw [hs,str_list];exact h7
         have hv:Hid (swL FB vb=9):=by simp [Hid,FB,swL,h0,h1,h2,h3,h4,h5,h6,h7]
         clear h0 h1 h2 h3 h4 h5 h6 h7 hs
         go_enter Tryz.func194,Tryz.ntmps194
         go_wp2
         go_ret
         exact ⟨ret_int hv.out.symm,rfl⟩
        | false =>
         have q0:(s.toList == [97,100,100])=false:=by rw [hs,str_list];exact h0
         have q1:(s.toList == [115,117,98])=false:=by rw [hs,str_list];exact h1
         have q2:(s.toList == [109,117,108])=false:=by rw [hs,str_list];exact h2
         have q3:(s.toList == [100,105,118])=false:=by rw [hs,str_list];exact h3
         have q4:(s.toList == [109,105,110])=false:=by rw [hs,str_list];exact h4
         have q5:(s.toList == [109,97,120])=false:=by rw [hs,str_list];exact h5
         have q6:(s.toList == [112,109,105,110])=false:=by rw [hs,str_list];exact h6
         have q7:(s.toList == [112,109,97,120])=false:=by rw [hs,str_list];exact h7
         have hv:Hid (swL FB vb=0):=by simp [Hid,FB,swL,h0,h1,h2,h3,h4,h5,h6,h7]
         clear h0 h1 h2 h3 h4 h5 h6 h7 hs
         go_enter Tryz.func194,Tryz.ntmps194
         go_wp2
         go_ret
         exact ⟨ret_int hv.out.symm,rfl⟩
set_option maxHeartbeats 4000000 in
theorem unary_says (vb:List UInt8) (ff:Bool) (fb:Int) (tf:Bool) (tb:Int) (sg:Bool) (w:World):Calls Tryz.prog 112 #[insV vb ff fb tf tb sg] w fun e w' => e=.returned (.int .i64 (if tf then swL FU vb else swL IU vb))∧Below w.heap.size w w':=by
 unfold insV
 obtain ⟨s,hs⟩:∃ s,s=str vb:=⟨_,rfl⟩
 have HF:=fun W => hid (floatUnary_says vb W)
 have HE:=fun a b W => hid (either_says vb ff fb tf tb sg a b W)
 unfold insV at HE
 rw [← hs] at HF HE ⊢
 cases tf with
 | true =>
  have hv:Hid ((if true then swL FU vb else swL IU vb)=swL FU vb):=rfl
  generalize swL FU vb=r at *
  clear hs
  go_enter Tryz.func112,Tryz.ntmps112
  go_wp2_with (go_at_call 191;refine (HF _).out.mono ?_;rintro e w3 ⟨rfl,rfl⟩)
  go_ret
  exact ⟨ret_int hv.out.symm,(Below.refl _ _).alloc (Nat.le_refl _) _⟩
 | false =>
  cases h0:(vb == [97,98,115]) with
  | true =>
   have q0:(s.toList == [97,98,115])=true:=by rw [hs,str_list];exact h0
   have hv:Hid (swL IU vb=7):=by simp [Hid,IU,swL,h0]
   clear h0 hs
   go_enter Tryz.func112,Tryz.ntmps112
   go_wp2_with (go_at_call 193;refine (HE _ _ _).out.mono ?_;rintro e w3 ⟨rfl,hb3⟩)
   go_ret
   first | exact ⟨ret_int (hv.out.symm:_=swL IU vb),((Below.refl _ _).alloc (Nat.le_refl _) _)⟩ | exact ⟨ret_int (hv.out.symm:_=swL IU vb),((Below.refl _ _).alloc (Nat.le_refl _) _).trans (hb3.mono (by simp))⟩
  | false =>
   cases h1:(vb == [110,101,103]) with
   | true =>
    have q0:(s.toList == [97,98,115])=false:=by rw [hs,str_list];exact h0
    have q1:(s.toList == [110,101,103])=true:=by rw [hs,str_list];exact h1
    have hv:Hid (swL IU vb=8):=by simp [Hid,IU,swL,h0,h1]
    clear h0 h1 hs
    go_enter Tryz.func112,Tryz.ntmps112
    go_wp2_with (go_at_call 193;refine (HE _ _ _).out.mono ?_;rintro e w3 ⟨rfl,hb3⟩)
    go_ret
    first | exact ⟨ret_int (hv.out.symm:_=swL IU vb),((Below.refl _ _).alloc (Nat.le_refl _) _)⟩ | exact ⟨ret_int (hv.out.symm:_=swL IU vb),((Below.refl _ _).alloc (Nat.le_refl _) _).trans (hb3.mono (by simp))⟩
   | false =>
    cases h2:(vb == [112,111,112,99,110,116]) with
    | true =>
     have q0:(s.toList == [97,98,115])=false:=by rw [hs,str_list];exact h0
     have q1:(s.toList == [110,101,103])=false:=by rw [hs,str_list];exact h1
     have q2:(s.toList == [112,111,112,99,110,116])=true:=by rw [hs,str_list];exact h2
     have hv:Hid (swL IU vb=3):=by simp [Hid,IU,swL,h0,h1,h2]
     clear h0 h1 h2 hs
     go_enter Tryz.func112,Tryz.ntmps112
     go_wp2_with (go_at_call 193;refine (HE _ _ _).out.mono ?_;rintro e w3 ⟨rfl,hb3⟩)
     go_ret
     first | exact ⟨ret_int (hv.out.symm:_=swL IU vb),((Below.refl _ _).alloc (Nat.le_refl _) _)⟩ | exact ⟨ret_int (hv.out.symm:_=swL IU vb),((Below.refl _ _).alloc (Nat.le_refl _) _).trans (hb3.mono (by simp))⟩
    | false =>
     have q0:(s.toList == [97,98,115])=false:=by rw [hs,str_list];exact h0
     have q1:(s.toList == [110,101,103])=false:=by rw [hs,str_list];exact h1
     have q2:(s.toList == [112,111,112,99,110,116])=false:=by rw [hs,str_list];exact h2
     have hv:Hid (swL IU vb=0):=by simp [Hid,IU,swL,h0,h1,h2]
     clear h0 h1 h2 hs
     go_enter Tryz.func112,Tryz.ntmps112
     go_wp2_with (go_at_call 193;refine (HE _ _ _).out.mono ?_;rintro e w3 ⟨rfl,hb3⟩)
     go_ret
     first | exact ⟨ret_int (hv.out.symm:_=swL IU vb),((Below.refl _ _).alloc (Nat.le_refl _) _)⟩ | exact ⟨ret_int (hv.out.symm:_=swL IU vb),((Below.refl _ _).alloc (Nat.le_refl _) _).trans (hb3.mono (by simp))⟩
set_option maxHeartbeats 4000000 in
theorem relation_says (vb:List UInt8) (ff:Bool) (fb:Int) (tf:Bool) (tb:Int) (sg:Bool) (w:World):Calls Tryz.prog 114 #[insV vb ff fb tf tb sg] w fun e w' => e=.returned (.int .i64 (if tf then swL FR vb else swL (IR sg) vb))∧Below w.heap.size w w':=by
 unfold insV
 obtain ⟨s,hs⟩:∃ s,s=str vb:=⟨_,rfl⟩
 have HF:=fun W => hid (floatRelation_says vb W)
 have HE:=fun a b W => hid (either_says vb ff fb tf tb sg a b W)
 unfold insV at HE
 rw [← hs] at HF HE ⊢
 cases tf with
 | true =>
  have hv:Hid ((if true then swL FR vb else swL (IR sg) vb)=swL FR vb):=rfl
  generalize swL FR vb=r at *
  clear hs
  go_enter Tryz.func114,Tryz.ntmps114
  go_wp2_with (go_at_call 192;refine (HF _).out.mono ?_;rintro e w3 ⟨rfl,rfl⟩)
  go_ret
  exact ⟨ret_int hv.out.symm,(Below.refl _ _).alloc (Nat.le_refl _) _⟩
 | false =>
  cases h0:(vb == [101,113]) with
  | true =>
   have q0:(s.toList == [101,113])=true:=by rw [hs,str_list];exact h0
   have hv:Hid (swL (IR sg) vb=1):=by simp [Hid,IR,swL,h0]
   clear h0 hs
   go_enter Tryz.func114,Tryz.ntmps114
   go_wp2_with (go_at_call 193;refine (HE _ _ _).out.mono ?_;rintro e w3 ⟨rfl,hb3⟩)
   go_ret
   first | exact ⟨ret_int (hv.out.symm:_=swL (IR sg) vb),((Below.refl _ _).alloc (Nat.le_refl _) _)⟩ | exact ⟨ret_int (hv.out.symm:_=swL (IR sg) vb),((Below.refl _ _).alloc (Nat.le_refl _) _).trans (hb3.mono (by simp))⟩
  | false =>
   cases h1:(vb == [110,101]) with
   | true =>
    have q0:(s.toList == [101,113])=false:=by rw [hs,str_list];exact h0
    have q1:(s.toList == [110,101])=true:=by rw [hs,str_list];exact h1
    have hv:Hid (swL (IR sg) vb=2):=by simp [Hid,IR,swL,h0,h1]
    clear h0 h1 hs
    go_enter Tryz.func114,Tryz.ntmps114
    go_wp2_with (go_at_call 193;refine (HE _ _ _).out.mono ?_;rintro e w3 ⟨rfl,hb3⟩)
    go_ret
    first | exact ⟨ret_int (hv.out.symm:_=swL (IR sg) vb),((Below.refl _ _).alloc (Nat.le_refl _) _)⟩ | exact ⟨ret_int (hv.out.symm:_=swL (IR sg) vb),((Below.refl _ _).alloc (Nat.le_refl _) _).trans (hb3.mono (by simp))⟩
   | false =>
    cases h2:(vb == [108,116]) with
    | true =>
     have q0:(s.toList == [101,113])=false:=by rw [hs,str_list];exact h0
     have q1:(s.toList == [110,101])=false:=by rw [hs,str_list];exact h1
     have q2:(s.toList == [108,116])=true:=by rw [hs,str_list];exact h2
     have hv:Hid (swL (IR sg) vb=(ei sg 3 4)):=by simp [Hid,IR,swL,h0,h1,h2]
     clear h0 h1 h2 hs
     go_enter Tryz.func114,Tryz.ntmps114
     go_wp2_with (go_at_call 193;refine (HE _ _ _).out.mono ?_;rintro e w3 ⟨rfl,hb3⟩)
     go_ret
     first | exact ⟨ret_int (hv.out.symm:_=swL (IR sg) vb),((Below.refl _ _).alloc (Nat.le_refl _) _)⟩ | exact ⟨ret_int (hv.out.symm:_=swL (IR sg) vb),((Below.refl _ _).alloc (Nat.le_refl _) _).trans (hb3.mono (by simp))⟩
    | false =>
     cases h3:(vb == [103,116]) with
     | true =>
      have q0:(s.toList == [101,113])=false:=by rw [hs,str_list];exact h0
      have q1:(s.toList == [110,101])=false:=by rw [hs,str_list];exact h1
      have q2:(s.toList == [108,116])=false:=by rw [hs,str_list];exact h2
      have q3:(s.toList == [103,116])=true:=by rw [hs,str_list];exact h3
      have hv:Hid (swL (IR sg) vb=(ei sg 5 6)):=by simp [Hid,IR,swL,h0,h1,h2,h3]
      clear h0 h1 h2 h3 hs
      go_enter Tryz.func114,Tryz.ntmps114
      go_wp2_with (go_at_call 193;refine (HE _ _ _).out.mono ?_;rintro e w3 ⟨rfl,hb3⟩)
      go_ret
      first | exact ⟨ret_int (hv.out.symm:_=swL (IR sg) vb),((Below.refl _ _).alloc (Nat.le_refl _) _)⟩ | exact ⟨ret_int (hv.out.symm:_=swL (IR sg) vb),((Below.refl _ _).alloc (Nat.le_refl _) _).trans (hb3.mono (by simp))⟩
     | false =>
      cases h4:(vb == [108,101]) with
      | true =>
       have q0:(s.toList == [101,113])=false:=by rw [hs,str_list];exact h0
       have q1:(s.toList == [110,101])=false:=by rw [hs,str_list];exact h1
       have q2:(s.toList == [108,116])=false:=by rw [hs,str_list];exact h2
       have q3:(s.toList == [103,116])=false:=by rw [hs,str_list];exact h3
       have q4:(s.toList == [108,101])=true:=by rw [hs,str_list];exact h4
       have hv:Hid (swL (IR sg) vb=(ei sg 7 8)):=by simp [Hid,IR,swL,h0,h1,h2,h3,h4]
       clear h0 h1 h2 h3 h4 hs
       go_enter Tryz.func114,Tryz.ntmps114
       go_wp2_with (go_at_call 193;refine (HE _ _ _).out.mono ?_;rintro e w3 ⟨rfl,hb3⟩)
       go_ret
       first | exact ⟨ret_int (hv.out.symm:_=swL (IR sg) vb),((Below.refl _ _).alloc (Nat.le_refl _) _)⟩ | exact ⟨ret_int (hv.out.symm:_=swL (IR sg) vb),((Below.refl _ _).alloc (Nat.le_refl _) _).trans (hb3.mono (by simp))⟩
      | false =>
       cases h5:(vb == [103,101]) with
       | true =>
        have q0:(s.toList == [101,113])=false:=by rw [hs,str_list];exact h0
        have q1:(s.toList == [110,101])=false:=by rw [hs,str_list];exact h1
        have q2:(s.toList == [108,116])=false:=by rw [hs,str_list];exact h2
        have q3:(s.toList == [103,116])=false:=by rw [hs,str_list];exact h3
        have q4:(s.toList == [108,101])=false:=by rw [hs,str_list];exact h4
        have q5:(s.toList == [103,101])=true:=by rw [hs,str_list];exact h5
        have hv:Hid (swL (IR sg) vb=(ei sg 9 10)):=by simp [Hid,IR,swL,h0,h1,h2,h3,h4,h5]
        clear h0 h1 h2 h3 h4 h5 hs
        go_enter Tryz.func114,Tryz.ntmps114
        go_wp2_with (go_at_call 193;refine (HE _ _ _).out.mono ?_;rintro e w3 ⟨rfl,hb3⟩)
        go_ret
        first | exact ⟨ret_int (hv.out.symm:_=swL (IR sg) vb),((Below.refl _ _).alloc (Nat.le_refl _) _)⟩ | exact ⟨ret_int (hv.out.symm:_=swL (IR sg) vb),((Below.refl _ _).alloc (Nat.le_refl _) _).trans (hb3.mono (by simp))⟩
       | false =>
        have q0:(s.toList == [101,113])=false:=by rw [hs,str_list];exact h0
        have q1:(s.toList == [110,101])=false:=by rw [hs,str_list];exact h1
        have q2:(s.toList == [108,116])=false:=by rw [hs,str_list];exact h2
        have q3:(s.toList == [103,116])=false:=by rw [hs,str_list];exact h3
        have q4:(s.toList == [108,101])=false:=by rw [hs,str_list];exact h4
        have q5:(s.toList == [103,101])=false:=by rw [hs,str_list];exact h5
        have hv:Hid (swL (IR sg) vb=0):=by simp [Hid,IR,swL,h0,h1,h2,h3,h4,h5]
        clear h0 h1 h2 h3 h4 h5 hs
        go_enter Tryz.func114,Tryz.ntmps114
        go_wp2_with (go_at_call 193;refine (HE _ _ _).out.mono ?_;rintro e w3 ⟨rfl,hb3⟩)
        go_ret
        first | exact ⟨ret_int (hv.out.symm:_=swL (IR sg) vb),((Below.refl _ _).alloc (Nat.le_refl _) _)⟩ | exact ⟨ret_int (hv.out.symm:_=swL (IR sg) vb),((Below.refl _ _).alloc (Nat.le_refl _) _).trans (hb3.mono (by simp))⟩
end Go.Proofs.YtlhakbkdlgejpaaGreatDoor
