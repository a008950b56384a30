/-
  WOp, RSmall, WTypes, RSgn: merged, what the law does not reach left out (each text says what it holds where it lies in wip). No condition.
-/
import Derived.Test.YtjgeedgphcjhoaaGreatC03
import Derived.Shelf.Abstract
import Derived.Test.YtjgeedgphcjhoaaGreatC02
import Derived.Laws.BitsLemmas
import Derived.Laws.Bits64
import Derived.Laws.Bits64b
set_option linter.unusedSimpArgs false
set_option linter.unusedVariables false
set_option maxRecDepth 100000
namespace Go.Proofs.YtjgeedgphcjhoaaGreat
open Go.RowKit
theorem WR.base {B g : Nat} {bs : List UInt8} {w : World} (h : WR B g bs w) : B ≤ w.heap.size := Nat.le_trans h.1 (Nat.le_of_lt h.lt)
set_option maxHeartbeats 1000000 in
theorem op_says (B g : Nat) (bs : List UInt8) (op : Int) (h0 : 0 ≤ op) (h1 : op < 65024) (w : World) (hw : WR B g bs w) (hn : bs.length + 20 ≤ 140737488355000) :
  Calls Tryz.prog 240 #[.pointer (some ⟨g,0,none⟩),.int .i64 op] w fun e w' => e = .returned (.tuple #[]) ∧ WR B g (bs ++ opL op) w' ∧ FR B g w w' := by
 have HW := hid hw
 have HN := hid hn
 have HN1 := fun x : Int => hid (show bs.length + [x].length ≤ 140737488355000 by simp; omega)
 have HN2 := fun x : Int => hid (show (bs ++ List.map byI [x]).length + 10 ≤ 140737488355000 by simp; omega)
 unfold opL
 by_cases c1 : 64768 ≤ op
 ·rw [if_pos c1]
  clear hw hn h0
  go_enter Tryz.func240,Tryz.ntmps240
  go_wp2_with (first
   | (go_at_call 169; (with_reducible refine (bytes_says B g bs [253] _ _ (HW.out.alloc _) (LT.one 253 1 HW.out.lt) (HN1 _).out).mono ?_); rintro e w1 ⟨rfl,hw1,hf1⟩; have HW1 := hid hw1; have HF1 := hid (((FR.refl B g w).alloc _).trans hf1); clear hw1 hf1)
   | (go_at_call 105; (with_reducible refine (u_says B g _ (op - 64768) _ HW1.out.base HW1.out (HN2 _).out).mono ?_); rintro e w2 ⟨rfl,hw2,hf2⟩; have HW2 := hid hw2; have HF2 := hid (HF1.out.trans hf2); clear hw2 hf2))
  (first | go_end0 | refine bodyPost_ret (results_none rfl _ _ _) rfl ?_)
  exact ⟨rfl,by have := HW2.out; rw [List.append_assoc] at this; exact this,HF2.out⟩
 ·rw [if_neg c1]
  by_cases c2 : 64512 ≤ op
  ·rw [if_pos c2]
   clear hw hn h0
   go_enter Tryz.func240,Tryz.ntmps240
   go_wp2_with (first
    | (go_at_call 169; (with_reducible refine (bytes_says B g bs [252] _ _ (HW.out.alloc _) (LT.one 252 1 HW.out.lt) (HN1 _).out).mono ?_); rintro e w1 ⟨rfl,hw1,hf1⟩; have HW1 := hid hw1; have HF1 := hid (((FR.refl B g w).alloc _).trans hf1); clear hw1 hf1)
    | (go_at_call 105; (with_reducible refine (u_says B g _ (op - 64512) _ HW1.out.base HW1.out (HN2 _).out).mono ?_); rintro e w2 ⟨rfl,hw2,hf2⟩; have HW2 := hid hw2; have HF2 := hid (HF1.out.trans hf2); clear hw2 hf2))
   (first | go_end0 | refine bodyPost_ret (results_none rfl _ _ _) rfl ?_)
   exact ⟨rfl,by have := HW2.out; rw [List.append_assoc] at this; exact this,HF2.out⟩
  ·rw [if_neg c2]
   clear hw hn
   go_enter Tryz.func240,Tryz.ntmps240
   go_wp2_with (first
    | (go_at_call 169; (with_reducible refine (bytes_says B g bs [op] _ _ (HW.out.alloc _) (LT.one op 1 HW.out.lt) (HN1 _).out).mono ?_); rintro e w1 ⟨rfl,hw1,hf1⟩; have HW1 := hid hw1; have HF1 := hid (((FR.refl B g w).alloc _).trans hf1); clear hw1 hf1))
   (first | go_end0 | refine bodyPost_ret (results_none rfl _ _ _) rfl ?_)
   exact ⟨rfl,HW1.out,HF1.out⟩
theorem byI_cast (q : Nat) : byI ((q : Nat) : Int) = (q % 256).toUInt8 := by
 unfold byI
 congr 1
set_option maxHeartbeats 1000000 in
theorem little_any (B g : Nat) (bs : List UInt8) (k v : Nat) (hk : k ≤ 100) (hv : v < 18446744073709551616) (w : World) (hw : WR B g bs w) (hn : bs.length + 120 ≤ 140737488355000) :
  Calls Tryz.prog 245 #[.pointer (some ⟨g,0,none⟩),.int .i64 k,.int .u64 (v : Nat)] w fun e w' => e = .returned (.tuple #[]) ∧ WR B g (bs ++ lowL k v) w' ∧ FR B g w w' := by
 have HW := hid hw
 have HN := hid hn
 have HV := hid hv
 clear hw hn
 go_enter Tryz.func245,Tryz.ntmps245
 go_wp2
 go_loopw [2,7] (fun vn vi wr => ∃ (i q : Nat) (pre : List UInt8),i ≤ k ∧ vi = .int .i64 i ∧ vn = .int .u64 (q : Nat) ∧ q < 18446744073709551616 ∧ Hid (pre.length = i ∧ lowL k v = pre ++ lowL (k - i) q) ∧ Hid (WR B g (bs ++ pre) wr) ∧ Hid (FR B g w wr)) (fun _ vi _ => k - (intOf vi).toNat)
 case atStart => exact ⟨0,v,[],Nat.zero_le _,rfl,rfl,HV.out,⟨rfl,rfl⟩,by simpa using HW,FR.refl _ _ _⟩
 case round =>
  obtain ⟨i,q,pre,hi,rfl,rfl,hq,HS,HR,HF⟩ := hrel
  by_cases hlt : i < k
  ·obtain ⟨hBg,u,hc,ho⟩ := HR.out
   obtain ⟨pu,nu,cu,rfl⟩ := own_slice ho
   have y0 := hc.at (k := 0) (v := .slice pu nu cu) rfl
   have HC := hid hc
   have HO := hid ho
   have HBG := hid hBg
   have HLE : Hid ((bs ++ pre).length + 1 ≤ 140737488355328) := by
    have := HN.out
    have := HS.out.1
    simp only [Hid,List.length_append]
    omega
   have HNX : Hid (lowL k v = (pre ++ [byI q]) ++ lowL (k - (i + 1)) (q / 256)) := by
    have := HS.out.2
    obtain ⟨j,hj⟩ : ∃ j,k - i = j + 1 := ⟨k - i - 1,by omega⟩
    rw [hj,lowL] at this
    rw [show k - (i + 1) = j by omega,byI_cast]
    simpa [Hid] using this
   clear hc ho hBg hi
   go_wp2_with (at_builtin; refine append_byteF rfl _ _ rfl B g _ _ q w HBG.out HC.out HO.out HLE.out HF.out _ rfl rfl rfl ?_; intro v2 w2 ho2 hc2 hf2; obtain ⟨p2,m2,c2,rfl⟩ := own_slice ho2; have y1 := hc2.at (k := 0) (v := .slice pu nu cu) rfl; have y2 := hc2.free 0; have HO2 := hid ho2; have HC2 := hid hc2; have HF2 := hid hf2; clear ho2 hc2 hf2)
   go_roundw
   case rel =>
    refine ⟨i + 1,q / 256,pre ++ [byI q],hlt,by go_num,by go_num,by omega,hid ⟨by simp [HS.out.1],HNX.out⟩,?_,hid (HF2.out.set 0 _)⟩
    rw [← List.append_assoc]
    exact WR.put HBG.out HC2.out HO2.out
   case measure => simp [intOf]; omega
  ·obtain rfl : i = k := by omega
   go_wp2
   (first | go_end0 | refine bodyPost_ret (results_none rfl _ _ _) rfl ?_)
   refine ⟨rfl,?_,HF.out⟩
   have := HR.out
   rw [HS.out.2,Nat.sub_self,lowL,List.append_nil]
   exact this
theorem little_4 (B g : Nat) (bs : List UInt8) (v : Nat) (hv : v < 18446744073709551616) (w : World) (hw : WR B g bs w) (hn : bs.length + 120 ≤ 140737488355000) :
  Calls Tryz.prog 245 #[.pointer (some ⟨g,0,none⟩),.int .i64 4,.int .u64 (v : Nat)] w fun e w' => e = .returned (.tuple #[]) ∧ WR B g (bs ++ lowL 4 v) w' ∧ FR B g w w' := little_any B g bs 4 v (by omega) hv w hw hn
theorem little_8 (B g : Nat) (bs : List UInt8) (v : Nat) (hv : v < 18446744073709551616) (w : World) (hw : WR B g bs w) (hn : bs.length + 120 ≤ 140737488355000) :
  Calls Tryz.prog 245 #[.pointer (some ⟨g,0,none⟩),.int .i64 8,.int .u64 (v : Nat)] w fun e w' => e = .returned (.tuple #[]) ∧ WR B g (bs ++ lowL 8 v) w' ∧ FR B g w w' := little_any B g bs 8 v (by omega) hv w hw hn
/-- The bytes of each, one behind the other. -/
def flL (F : Int → List UInt8) : List Int → List UInt8
 | [] => []
 | x :: l => F x ++ flL F l
theorem flL_snoc (F : Int → List UInt8) : ∀ (l : List Int) (x : Int),flL F (l ++ [x]) = flL F l ++ F x
 | [],x => by simp [flL]
 | y :: l,x => by simp [flL,flL_snoc F l x]
theorem flL_len (F : Int → List UInt8) (hF : ∀ x,(F x).length ≤ 10) : ∀ l : List Int,(flL F l).length ≤ 10 * l.length
 | [] => Nat.le_refl _
 | x :: l => by
  have := flL_len F hF l
  have := hF x
  simp only [flL,List.length_append,List.length_cons]
  omega
theorem flL_us : ∀ l,flL uI l = usL l
 | [] => rfl
 | x :: l => by rw [flL,usL,flL_us l]
theorem flL_by : ∀ l,flL (fun x => [byI x]) l = l.map byI
 | [] => rfl
 | x :: l => by rw [flL,flL_by l]; rfl
set_option maxHeartbeats 2000000 in
theorem list_int (B g b : Nat) (k : Nat) (eg : ∀ args w,(callFunc k args).run Tryz.prog w = .ok (.enter k args) w) (F : Int → List UInt8) (hF : ∀ x,(F x).length ≤ 10) (bs : List UInt8) (l : List Int) (v : Value) (w : World) (hbg : b ≠ g) (hb : CA b #[.pointer (some ⟨g,0,none⟩)] 135 w)
  (hk : ∀ bs x W,WR B g bs W → CA b #[.pointer (some ⟨g,0,none⟩)] 135 W → bs.length + 20 ≤ 140737488355000 → Calls Tryz.prog k #[.int .i64 x,.pointer (some ⟨b,0,none⟩)] W fun e w' => e = .returned (.tuple #[]) ∧ WR B g (bs ++ F x) w' ∧ FR B g W w')
  (hw : WR B g bs w) (hl : LT B g w v l) (hn : bs.length + 40 + 10 * l.length ≤ 140737488355000) :
  Calls Tryz.prog 226 #[.pointer (some ⟨g,0,none⟩),v,.func (.func k) #[] #[.pointer (some ⟨b,0,none⟩)]] w fun e w' => e = .returned (.tuple #[]) ∧ WR B g (bs ++ uI l.length ++ flL F l) w' ∧ FR B g w w' := by
 obtain ⟨p,c,rfl,hq,hl2⟩ := id hl
 obtain ⟨n,hnl⟩ : ∃ n,n = l.length := ⟨_,rfl⟩
 have HNL := hid hnl
 rw [← hnl] at hq ⊢
 have HP := hid hl2
 have HW := hid hw
 have HN := hid hn
 have HN1 := hid (show bs.length + 10 ≤ 140737488355000 by omega)
 have hn62 : (n : Int) < 9223372036854775807 := by omega
 have HK := hid hk
 have HB := hid hb
 have HBG := hid hbg
 have HFL := hid hF
 have HUL := hid (uI_len n)
 clear hl2 hl hw hn hnl hq hk hb hbg hF
 go_enter Tryz.func226,Tryz.ntmps226
 go_upto_region 1 with (go_at_call 105; (with_reducible refine (u_says B g bs n _ HW.out.base HW.out HN1.out).mono ?_); rintro e w1 ⟨rfl,hw1,hf1⟩; have HW1 := hid hw1; have HF1 := hid hf1; clear hw1 hf1)
 go_wp2
 go_loopw [14] (fun vi wr => ∃ i : Nat,i ≤ n ∧ vi = .int .i64 i ∧ Hid (WR B g (bs ++ uI n ++ flL F (l.take i)) wr) ∧ Hid (FR B g w wr)) (fun vi _ => n - (intOf vi).toNat)
 case atStart => exact ⟨0,Nat.zero_le _,rfl,by simpa [flL] using HW1,HF1⟩
 case round =>
  obtain ⟨i,hi,rfl,HR,HF⟩ := hrel
  by_cases hlt : i < n
  ·have hll : i < l.length := by rw [← HNL.out]; exact hlt
   obtain ⟨x,hx⟩ : ∃ x,l[i]? = some x := ⟨l[i],List.getElem?_eq_getElem hll⟩
   obtain ⟨kb,o,rfl,hkn,hcell⟩ := HP.out (by intro e; rw [e] at hll; simp at hll)
   have z0 := hcell i x hx
   rw [← World.cell?_of_block (HF.out.block kb hkn)] at z0
   have HX : Hid (flL F (l.take (i + 1)) = flL F (l.take i) ++ F x) := by
    rw [List.take_add_one,hx]
    exact flL_snoc F _ x
   have HLE : Hid ((bs ++ uI n ++ flL F (l.take i)).length + 20 ≤ 140737488355000) := by
    have h1 := HN.out
    have h2 := flL_len F HFL.out (l.take i)
    have h3 := HUL.out
    simp only [Hid,List.length_append,List.length_take] at h2 ⊢
    omega
   have HKX := fun W h1 h2 => hid (HK.out _ x W h1 h2 HLE.out)
   have HBR := hid (HB.out.fr HF.out (by decide) HBG.out)
   clear hcell hx hkn hll hi
   go_wp2_with (go_at_fn k; (with_reducible refine (HKX _ HR.out HBR.out).out.mono ?_); rintro e w2 ⟨rfl,hw2,hf2⟩; have HW2 := hid hw2; have HF2 := hid (HF.out.trans hf2); clear hw2 hf2)
   go_roundw
   case rel =>
    refine ⟨i + 1,hlt,by go_num,?_,HF2⟩
    rw [HX.out,← List.append_assoc]
    exact HW2
   case measure => simp [intOf]; omega
  ·obtain rfl : i = n := by omega
   go_wp2
   (first | go_end0 | refine bodyPost_ret (results_none rfl _ _ _) rfl ?_)
   refine ⟨rfl,?_,HF.out⟩
   have := HR.out
   rw [HNL.out,List.take_length,← HNL.out] at this
   exact this
end Go.Proofs.YtjgeedgphcjhoaaGreat
namespace Go.Proofs.YtjgeedgphcjhoaaGreat
open Go.RowKit
theorem RU_says (n : Int) (w : World) : Calls Tryz.prog 133 #[.int .i64 n] w (BO w (uI n)) := by
 obtain ⟨x,hx⟩ : ∃ x : Nat,x = (n % 18446744073709551616).toNat := ⟨_,rfl⟩
 have hxn : IntKind.u64.wrap n = (x : Int) := by rw [show IntKind.u64.wrap n = n % 18446744073709551616 from rfl]; omega
 have HU := fun W => hid (refU_any x (by omega) W)
 have HE := hid (show uI n = ulist x by rw [hx]; rfl)
 clear hx
 go_enter Tryz.func133,Tryz.ntmps133
 go_wp2_with (go_at_call 207; (with_reducible refine (HU _).out.mono ?_); rintro e w1 ⟨v,rfl,ho,hb⟩; have HO := hid ho; have HB := hid hb; clear ho hb)
 go_ret
 exact ⟨v,rfl,by rw [HE.out]; exact HO.out,HB.out⟩
set_option maxHeartbeats 1000000 in
theorem listed_says (n : Int) (v : Value) (ys : List UInt8) (B : Nat) (w : World) (ho : w.ownsRow B 5 1 v ys.length (Lib.byteCells ys)) (hn : ys.length + 20 ≤ 140737488355000) : Calls Tryz.prog 135 #[.int .i64 n,v] w (BO w (uI n ++ ys)) := by
 obtain ⟨p,m,c,rfl⟩ := own_slice ho
 have HO := hid ho
 have HU := fun W => hid (RU_says n W)
 have HN := hid (show (uI n).length + ys.length ≤ 140737488355000 by have := uI_len n; omega)
 clear ho hn
 go_enter Tryz.func135,Tryz.ntmps135
 go_wp2_with (first
  | (go_at_call 133; (with_reducible refine (HU _).out.mono ?_); rintro e w1 ⟨v1,rfl,ho1,hb1⟩; obtain ⟨p1,m1,c1,rfl⟩ := own_slice ho1; have HO1 := hid ho1; have HB1 := hid hb1; have HO2 := hid (own_kept HO.out hb1); clear ho1 hb1)
  | (at_builtin; refine append_rowW rfl _ _ rfl w.heap.size _ _ _ _ _ w HO1.out HO2.out HN.out (Nat.le_refl _) (RF.of HB1.out) rfl rfl ?_; intro p3 m3 c3 w3 ho3 hf3; have HO3 := hid ho3; have HF3 := hid hf3; clear ho3 hf3))
 go_ret
 exact ⟨_,rfl,HO3.out,HF3.out.below (Nat.le_refl _)⟩
set_option maxHeartbeats 1000000 in
theorem octets_says (l : List Int) (v : Value) (B : Nat) (w : World) (hl : LI B w v l) (hB : B ≤ w.heap.size) (hn : l.length + 20 ≤ 140737488355000) : Calls Tryz.prog 202 #[v] w (BO w (l.map byI)) := by
 obtain ⟨p,c,rfl,hq,hc⟩ := hl
 obtain ⟨n,hnl⟩ : ∃ n,n = l.length := ⟨_,rfl⟩
 have HNL := hid hnl
 rw [← hnl] at hq hn ⊢
 have HP := hid hc
 have HBW := hid hB
 have HN := hid hn
 have hn62 : (n : Int) < 9223372036854775807 := by omega
 clear hc hn hnl hq hB
 go_enter Tryz.func202,Tryz.ntmps202
 go_wp2
 go_loopw [3,4] (fun vo vi wr => ∃ (i : Nat) (p : Option Addr) (m c : Nat),i ≤ n ∧ vi = .int .i64 i ∧ vo = .slice p m c ∧ Hid (wr.ownsRow w.heap.size 5 1 (.slice p m c) ((l.take i).map byI).length (Lib.byteCells ((l.take i).map byI))) ∧ Hid (RF w.heap.size w wr)) (fun _ vi _ => n - (intOf vi).toNat)
 case atStart => exact ⟨0,none,0,0,Nat.zero_le _,rfl,rfl,own_nil _ _,RF.refl _ _⟩
 case round =>
  obtain ⟨i,p1,m1,c1,hi,rfl,rfl,HR,HF⟩ := hrel
  by_cases hlt : i < n
  ·have hll : i < l.length := by rw [← HNL.out]; exact hlt
   obtain ⟨x,hx⟩ : ∃ x,l[i]? = some x := ⟨l[i],List.getElem?_eq_getElem hll⟩
   obtain ⟨k,o,rfl,hk,hcell⟩ := HP.out (by intro e; rw [e] at hll; simp at hll)
   have z0 := hcell i x hx
   rw [← World.cell?_of_block (HF.out.block k (by have := HBW.out; omega) (.inl (by have := HBW.out; omega)))] at z0
   have HX := hid (map_take_snoc l i x hx)
   have HLE : Hid (((l.take i).map byI).length + [byI x].length ≤ 140737488355000) := by
    have := HN.out
    simp only [Hid,List.length_map,List.length_take,List.length_cons,List.length_nil]
    omega
   clear hcell hx hk hll hi
   go_wp2_with (at_builtin; refine append_rowW rfl _ _ rfl w.heap.size _ _ _ _ _ w (own_kept HR.out ((Below.refl _ _).alloc (Nat.le_refl _) _)) (own_lit1 wr x) HLE.out (Nat.le_refl _) (HF.out.alloc _) rfl rfl ?_; intro p3 m3 c3 w3 ho3 hf3; have HO3 := hid ho3; have HF3 := hid hf3; clear ho3 hf3)
   go_roundw
   case rel =>
    refine ⟨i + 1,p3,m3,c3,hlt,by go_num,rfl,?_,HF3⟩
    rw [HX.out]
    exact HO3
   case measure => simp [intOf]; omega
  ·obtain rfl : i = n := by omega
   have HE := hid (show (l.take i).map byI = l.map byI by rw [HNL.out,List.take_length])
   rw [HE.out] at HR
   go_wp2
   go_ret
   exact ⟨_,rfl,HR.out,HF.out.below (Nat.le_refl _)⟩
set_option maxHeartbeats 1000000 in
theorem low_any (k v : Nat) (hk : k ≤ 100) (hv : v < 18446744073709551616) (w : World) :
  Calls Tryz.prog 248 #[.int .u64 (v : Nat),.int .i64 k] w (BO w (lowL k v)) := by
 have HV := hid hv
 clear hv
 go_enter Tryz.func248,Tryz.ntmps248
 go_wp2
 go_loopw [0,5,6] (fun vn vo vi wr => ∃ (i q : Nat) (pre : List UInt8) (p : Option Addr) (m c : Nat),i ≤ k ∧ vi = .int .i64 i ∧ vn = .int .u64 (q : Nat) ∧ vo = .slice p m c ∧ q < 18446744073709551616 ∧ Hid (pre.length = i ∧ lowL k v = pre ++ lowL (k - i) q) ∧ Hid (wr.ownsRow w.heap.size 5 1 (.slice p m c) pre.length (Lib.byteCells pre)) ∧ Hid (RF w.heap.size w wr)) (fun _ _ vi _ => k - (intOf vi).toNat)
 case atStart => exact ⟨0,v,[],none,0,0,Nat.zero_le _,rfl,rfl,rfl,HV.out,⟨rfl,rfl⟩,own_nil _ _,RF.refl _ _⟩
 case round =>
  obtain ⟨i,q,pre,p1,m1,c1,hi,rfl,rfl,rfl,hq,HS,HR,HF⟩ := hrel
  by_cases hlt : i < k
  ·have HLE : Hid (pre.length + [byI q].length ≤ 140737488355000) := by
    have := HS.out.1
    simp only [Hid,List.length_cons,List.length_nil]
    omega
   have HNX : Hid (lowL k v = (pre ++ [byI q]) ++ lowL (k - (i + 1)) (q / 256)) := by
    have := HS.out.2
    obtain ⟨j,hj⟩ : ∃ j,k - i = j + 1 := ⟨k - i - 1,by omega⟩
    rw [hj,lowL] at this
    rw [show k - (i + 1) = j by omega,byI_cast]
    simpa [Hid] using this
   clear hi
   go_wp2_with (at_builtin; refine append_rowW rfl _ _ rfl w.heap.size _ _ _ _ _ w (own_kept HR.out ((Below.refl _ _).alloc (Nat.le_refl _) _)) (own_lit1 wr q) HLE.out (Nat.le_refl _) (HF.out.alloc _) rfl rfl ?_; intro p3 m3 c3 w3 ho3 hf3; have HO3 := hid ho3; have HF3 := hid hf3; clear ho3 hf3)
   go_roundw
   case rel => exact ⟨i + 1,q / 256,pre ++ [byI q],p3,m3,c3,hlt,by go_num,by go_num,rfl,by omega,hid ⟨by simp [HS.out.1],HNX.out⟩,HO3,HF3⟩
   case measure => simp [intOf]; omega
  ·obtain rfl : i = k := by omega
   have HE := hid (show lowL i v = pre by rw [HS.out.2,Nat.sub_self,lowL,List.append_nil])
   go_wp2
   go_ret
   refine ⟨.slice p1 m1 c1,rfl,?_,HF.out.below (Nat.le_refl _)⟩
   rw [HE.out]
   exact HR.out
theorem low_4 (v : Nat) (hv : v < 18446744073709551616) (w : World) : Calls Tryz.prog 248 #[.int .u64 (v : Nat),.int .i64 4] w (BO w (lowL 4 v)) := low_any 4 v (by omega) hv w
theorem low_8 (v : Nat) (hv : v < 18446744073709551616) (w : World) : Calls Tryz.prog 248 #[.int .u64 (v : Nat),.int .i64 8] w (BO w (lowL 8 v)) := low_any 8 v (by omega) hv w
end Go.Proofs.YtjgeedgphcjhoaaGreat
namespace Go.Proofs.YtjgeedgphcjhoaaGreat
open Go.RowKit
theorem cl_types (B g b : Nat) (hbg : b ≠ g) (bs : List UInt8) (x : Int) (W : World) (hw : WR B g bs W) (hb : CA b #[.pointer (some ⟨g,0,none⟩)] 135 W) (hn : bs.length + 20 ≤ 140737488355000) :
  Calls Tryz.prog 227 #[.int .i64 x,.pointer (some ⟨b,0,none⟩)] W fun e w' => e = .returned (.tuple #[]) ∧ WR B g (bs ++ [byI x]) w' ∧ FR B g W w' := by
 have y0 := hb.at (k := 0) (v := .pointer (some ⟨g,0,none⟩)) rfl
 have HW := hid hw
 have HN1 := fun x : Int => hid (show bs.length + [x].length ≤ 140737488355000 by simp; omega)
 clear hw hb hn hbg
 go_enter Tryz.func227,Tryz.ntmps227
 go_wp2_with (go_at_call 169; (with_reducible refine (bytes_says B g bs [x] _ _ (HW.out.alloc _) (LT.one x 1 HW.out.lt) (HN1 _).out).mono ?_); rintro e w1 ⟨rfl,hw1,hf1⟩; have HW1 := hid hw1; have HF1 := hid (((FR.refl B g W).alloc _).trans hf1); clear hw1 hf1)
 (first | go_end0 | refine bodyPost_ret (results_none rfl _ _ _) rfl ?_)
 exact ⟨rfl,HW1.out,HF1.out⟩
theorem cl_indices (B g b : Nat) (hbg : b ≠ g) (bs : List UInt8) (x : Int) (W : World) (hw : WR B g bs W) (hb : CA b #[.pointer (some ⟨g,0,none⟩)] 135 W) (hn : bs.length + 20 ≤ 140737488355000) :
  Calls Tryz.prog 266 #[.int .i64 x,.pointer (some ⟨b,0,none⟩)] W fun e w' => e = .returned (.tuple #[]) ∧ WR B g (bs ++ uI x) w' ∧ FR B g W w' := by
 have y0 := hb.at (k := 0) (v := .pointer (some ⟨g,0,none⟩)) rfl
 have HW := hid hw
 have HN1 := hid (show bs.length + 10 ≤ 140737488355000 by omega)
 clear hw hb hn hbg
 go_enter Tryz.func266,Tryz.ntmps266
 go_wp2_with (go_at_call 105; (with_reducible refine (u_says B g bs x _ HW.out.base HW.out HN1.out).mono ?_); rintro e w1 ⟨rfl,hw1,hf1⟩; have HW1 := hid hw1; have HF1 := hid hf1; clear hw1 hf1)
 (first | go_end0 | refine bodyPost_ret (results_none rfl _ _ _) rfl ?_)
 exact ⟨rfl,HW1.out,HF1.out⟩
set_option maxHeartbeats 1000000 in
theorem wtypes_says (B g : Nat) (bs : List UInt8) (l : List Int) (v : Value) (w : World) (hw : WR B g bs w) (hl : LT B g w v l) (hn : bs.length + 40 + 10 * l.length ≤ 140737488355000) :
  Calls Tryz.prog 170 #[.pointer (some ⟨g,0,none⟩),v] w fun e w' => e = .returned (.tuple #[]) ∧ WR B g (bs ++ (uI l.length ++ l.map byI)) w' ∧ FR B g w w' := by
 have hmf : ∀ (fn : Fn) (first cap : Array Value) (w : World),(Instr.makeFunc fn first cap).run Tryz.prog w = .ok (.func fn first cap) w := fun _ _ _ _ => rfl
 have hbg : w.heap.size ≠ g := by have := hw.lt; omega
 have hc0 := CA.new w #[.pointer (some ⟨g,0,none⟩)] 135
 have y0 := hc0.at (k := 0) (v := .pointer (some ⟨g,0,none⟩)) rfl
 have HF0 := hid ((FR.refl B g w).alloc (.cells #[.pointer (some ⟨g,0,none⟩)] 135))
 have HL := hid (list_int B g w.heap.size 227 (fun _ _ => rfl) (fun x => [byI x]) (fun _ => by simp) bs l v _ hbg hc0 (fun bs x W h1 h2 h3 => cl_types B g _ hbg bs x W h1 h2 h3) (hw.alloc (.cells #[.pointer (some ⟨g,0,none⟩)] 135)) (hl.fr HF0.out) hn)
 obtain ⟨p,c,rfl,_,_⟩ := hl
 rw [flL_by] at HL
 clear hw hc0 hn
 go_enter Tryz.func170,Tryz.ntmps170
 go_wp2_with (go_at_call 226; (with_reducible refine HL.out.mono ?_); rintro e w1 ⟨rfl,hw1,hf1⟩; have HW1 := hid hw1; have HF1 := hid (HF0.out.trans hf1); clear hw1 hf1)
 (first | go_end0 | refine bodyPost_ret (results_none rfl _ _ _) rfl ?_)
 exact ⟨rfl,by rw [← List.append_assoc]; exact HW1.out,HF1.out⟩
set_option maxHeartbeats 1000000 in
theorem indices_says (B g : Nat) (bs : List UInt8) (l : List Int) (v : Value) (w : World) (hw : WR B g bs w) (hl : LT B g w v l) (hn : bs.length + 40 + 10 * l.length ≤ 140737488355000) :
  Calls Tryz.prog 242 #[.pointer (some ⟨g,0,none⟩),v] w fun e w' => e = .returned (.tuple #[]) ∧ WR B g (bs ++ (uI l.length ++ usL l)) w' ∧ FR B g w w' := by
 have hmf : ∀ (fn : Fn) (first cap : Array Value) (w : World),(Instr.makeFunc fn first cap).run Tryz.prog w = .ok (.func fn first cap) w := fun _ _ _ _ => rfl
 have hbg : w.heap.size ≠ g := by have := hw.lt; omega
 have hc0 := CA.new w #[.pointer (some ⟨g,0,none⟩)] 135
 have y0 := hc0.at (k := 0) (v := .pointer (some ⟨g,0,none⟩)) rfl
 have HF0 := hid ((FR.refl B g w).alloc (.cells #[.pointer (some ⟨g,0,none⟩)] 135))
 have HL := hid (list_int B g w.heap.size 266 (fun _ _ => rfl) uI uI_len bs l v _ hbg hc0 (fun bs x W h1 h2 h3 => cl_indices B g _ hbg bs x W h1 h2 h3) (hw.alloc (.cells #[.pointer (some ⟨g,0,none⟩)] 135)) (hl.fr HF0.out) hn)
 obtain ⟨p,c,rfl,_,_⟩ := hl
 rw [flL_us] at HL
 clear hw hc0 hn
 go_enter Tryz.func242,Tryz.ntmps242
 go_wp2_with (go_at_call 226; (with_reducible refine HL.out.mono ?_); rintro e w1 ⟨rfl,hw1,hf1⟩; have HW1 := hid hw1; have HF1 := hid (HF0.out.trans hf1); clear hw1 hf1)
 (first | go_end0 | refine bodyPost_ret (results_none rfl _ _ _) rfl ?_)
 exact ⟨rfl,by rw [← List.append_assoc]; exact HW1.out,HF1.out⟩
theorem known_32 (w : World) : Calls Tryz.prog 268 #[.int .i64 32] w fun e w' => e = .returned (.bool true) ∧ w = w' := by
 go_enter Tryz.func268,Tryz.ntmps268
 go_wp2
 go_ret
 exact ⟨rfl,rfl⟩
theorem known_64 (w : World) : Calls Tryz.prog 268 #[.int .i64 64] w fun e w' => e = .returned (.bool true) ∧ w = w' := by
 go_enter Tryz.func268,Tryz.ntmps268
 go_wp2
 go_ret
 exact ⟨rfl,rfl⟩
theorem ret_int {k : IntKind} {a b : Int} (h : a = b) : Ending.returned (.int k a) = .returned (.int k b) := by rw [h]
theorem Signed_32 (a : Nat) (ha : a < 18446744073709551616) (w : World) : Calls Tryz.prog 244 #[.int .i64 32,.int .u64 (a : Nat)] w fun e w' => e = .returned (.int .i64 (sgnN 32 a)) ∧ w = w' := by
 have HK := fun W => hid (known_32 W)
 have ha0 : 0 ≤ (a : Int) := by omega
 have ha1 : (a : Int) < 18446744073709551616 := by omega
 go_enter Tryz.func244,Tryz.ntmps244
 go_wp2_with (go_at_call 268; (with_reducible refine (HK _).out.mono ?_); rintro e w' ⟨rfl,rfl⟩)
 go_ret
 exact ⟨ret_int (by simp only [sgnN,IntKind.wrap_u64,wrap64]; simp; omega),rfl⟩
theorem Signed_64 (a : Nat) (ha : a < 18446744073709551616) (w : World) : Calls Tryz.prog 244 #[.int .i64 64,.int .u64 (a : Nat)] w fun e w' => e = .returned (.int .i64 (sgnN 64 a)) ∧ w = w' := by
 have HK := fun W => hid (known_64 W)
 have ha0 : 0 ≤ (a : Int) := by omega
 have ha1 : (a : Int) < 18446744073709551616 := by omega
 go_enter Tryz.func244,Tryz.ntmps244
 go_wp2_with (go_at_call 268; (with_reducible refine (HK _).out.mono ?_); rintro e w' ⟨rfl,rfl⟩)
 go_ret
 exact ⟨ret_int (by simp only [sgnN,wrap64]; simp; omega),rfl⟩
end Go.Proofs.YtjgeedgphcjhoaaGreat
namespace Go.Proofs.YtjgeedgphcjhoaaGreat
open Go.RowKit
def Okn (n : Nat) : Prop := n = 8 ∨ n = 16 ∨ n = 32 ∨ n = 64
instance (n : Nat) : Decidable (Okn n) := by unfold Okn; exact inferInstance
theorem Okn.le {n : Nat} (h : Okn n) : 8 ≤ n ∧ n ≤ 64 := by unfold Okn at h; omega
def sg (n a : Nat) : Int := if 2 ^ (n - 1) ≤ a then (a : Int) - (2 ^ n : Nat) else a
theorem pow_lt64 {n : Nat} (hn : Okn n) : 2 ^ (n - 1) < 18446744073709551616 ∧ 0 < 2 ^ (n - 1) ∧ 2 ^ n ≤ 18446744073709551616 ∧ 2 ^ n = 2 * 2 ^ (n - 1) := by
 rcases hn with rfl | rfl | rfl | rfl <;> decide
theorem wrap_nat {q : Nat} (h : q < 18446744073709551616) : IntKind.u64.wrap (q : Int) = (q : Int) := by
 rw [IntKind.wrap_u64]; omega
theorem testBit_top {n x : Nat} (hn : Okn n) (hx : x < 2 ^ n) : x.testBit (n - 1) = decide (2 ^ (n - 1) ≤ x) := by
 obtain ⟨_,_,_,h⟩ := pow_lt64 hn
 rw [h] at hx
 generalize hP : 2 ^ (n - 1) = P at *
 rw [Nat.testBit_eq_decide_div_mod_eq,hP]
 by_cases hc : P ≤ x
 ·have : x / P = 1 := by
   rw [Nat.div_eq_iff (by omega)]; omega
  simp [this,hc]
 ·have : x / P = 0 := Nat.div_eq_of_lt (by omega)
  simp [this,hc]
theorem neg_mod {n x : Nat} (hn : Okn n) (hx : x < 2 ^ n) (hc : 2 ^ (n - 1) ≤ x) : (18446744073709551616 - x) % 18446744073709551616 % 2 ^ n = 2 ^ n - x := by
 rcases hn with rfl | rfl | rfl | rfl <;> simp at hx hc ⊢ <;> omega
theorem Right_yes (n : Nat) (hn : Okn n) (w : World) : Calls Tryz.prog 269 #[.int .i64 n] w fun e w' => e = .returned (.bool true) ∧ w = w' := by
 rcases hn with rfl | rfl | rfl | rfl
 ·show Calls Tryz.prog 269 #[.int .i64 8] w _
  go_enter Tryz.func269,Tryz.ntmps269
  go_wp2
  go_ret
  exact ⟨rfl,rfl⟩
 ·show Calls Tryz.prog 269 #[.int .i64 16] w _
  go_enter Tryz.func269,Tryz.ntmps269
  go_wp2
  go_ret
  exact ⟨rfl,rfl⟩
 ·show Calls Tryz.prog 269 #[.int .i64 32] w _
  go_enter Tryz.func269,Tryz.ntmps269
  go_wp2
  go_ret
  exact ⟨rfl,rfl⟩
 ·show Calls Tryz.prog 269 #[.int .i64 64] w _
  go_enter Tryz.func269,Tryz.ntmps269
  go_wp2
  go_ret
  exact ⟨rfl,rfl⟩
theorem Cut_small (n : Nat) (hn : n < 64) (a : Nat) (w : World) :
  Calls Tryz.prog 270 #[.int .i64 n,.int .u64 a] w fun e w' => e = .returned (.int .u64 ((a % 2 ^ n : Nat) : Int)) ∧ w = w' := by
 have hne : ((n : Int) == 64) = false := by simp; omega
 obtain ⟨r,hrr⟩ : ∃ r : Nat,r = a % 2 ^ n := ⟨_,rfl⟩
 rw [← hrr]
 have HR := hid hrr
 clear hrr
 go_enter Tryz.func270,Tryz.ntmps270
 go_wp2
 go_loop [5,6] (fun vm vi => ∃ k : Nat,k ≤ n ∧ vi = .int .i64 k ∧ vm = .int .u64 ((2 ^ k : Nat) : Int)) (fun _ vi => n - (intOf vi).toNat)
 case atStart => exact ⟨0,Nat.zero_le _,rfl,rfl⟩
 case round =>
  obtain ⟨k,hk,rfl,rfl⟩ := hrel
  have hp0 := Nat.two_pow_pos k
  by_cases hlt : k < n
  ·have hp : 2 ^ k ≤ 2 ^ 62 := Nat.pow_le_pow_right (by decide) (by omega)
   have hw : IntKind.u64.wrap (((2 ^ k : Nat) : Int) * 2) = ((2 ^ (k + 1) : Nat) : Int) := by
    rw [IntKind.wrap_u64,Nat.pow_succ]; omega
   obtain ⟨m,hm⟩ : ∃ m : Nat,m = 2 ^ k := ⟨_,rfl⟩
   rw [← hm] at hw ⊢
   clear hp hp0 hm
   go_wp2
   go_round
   case rel => exact ⟨k + 1,by omega,by go_num,rfl⟩
   case measure => simp [intOf]; omega
  ·obtain rfl : k = n := by omega
   have hr : (a : Int) % ((2 ^ k : Nat) : Int) = (r : Int) := by rw [HR.out]; simp
   obtain ⟨m,hm⟩ : ∃ m : Nat,m = 2 ^ k := ⟨_,rfl⟩
   rw [← hm] at hr hp0 ⊢
   have hm0 : 0 < (m : Int) := by omega
   clear hm hp0
   go_wp2
   go_ret
   exact ⟨rfl,rfl⟩
theorem Cut_any (n : Nat) (hn : Okn n) (a : Nat) (ha : a < 18446744073709551616) (w : World) :
  Calls Tryz.prog 270 #[.int .i64 n,.int .u64 a] w fun e w' => e = .returned (.int .u64 ((a % 2 ^ n : Nat) : Int)) ∧ w = w' := by
 by_cases h : n = 64
 ·subst h
  rw [Nat.mod_eq_of_lt (show a < 2 ^ 64 by omega)]
  show Calls Tryz.prog 270 #[.int .i64 64,.int .u64 a] w _
  go_enter Tryz.func270,Tryz.ntmps270
  go_wp2
  go_ret
  exact ⟨rfl,rfl⟩
 ·exact Cut_small n (by have := hn.le; omega) a w
theorem bit_any (a k : Nat) (hk : k ≤ 1000) (ha : a < 18446744073709551616) (w : World) :
  Calls Tryz.prog 271 #[.int .u64 a,.int .i64 k] w fun e w' => e = .returned (.int .u64 ((a / 2 ^ k % 2 : Nat) : Int)) ∧ w = w' := by
 obtain ⟨r,hrr⟩ : ∃ r : Nat,r = a / 2 ^ k % 2 := ⟨_,rfl⟩
 rw [← hrr]
 have HR := hid hrr
 clear hrr
 go_enter Tryz.func271,Tryz.ntmps271
 go_wp2
 go_loop [0,5] (fun va vi => ∃ j : Nat,j ≤ k ∧ vi = .int .i64 j ∧ va = .int .u64 ((a / 2 ^ j : Nat) : Int)) (fun _ vi => k - (intOf vi).toNat)
 case atStart => exact ⟨0,Nat.zero_le _,rfl,by simp⟩
 case round =>
  obtain ⟨j,hj,rfl,rfl⟩ := hrel
  have hd : a / 2 ^ j ≤ a := Nat.div_le_self _ _
  by_cases hlt : j < k
  ·have hx : a / 2 ^ (j + 1) = a / 2 ^ j / 2 := by rw [Nat.pow_succ,Nat.div_div_eq_div_mul]
   obtain ⟨x,hxe⟩ : ∃ x : Nat,x = a / 2 ^ j := ⟨_,rfl⟩
   rw [← hxe] at hd hx ⊢
   have hdiv : (x : Int) / 2 = ((x / 2 : Nat) : Int) := by simp
   rw [← hx] at hdiv
   have hww := wrap_nat (show a / 2 ^ (j + 1) < 18446744073709551616 by omega)
   clear hx hxe
   obtain ⟨y,hy⟩ : ∃ y : Nat,y = a / 2 ^ (j + 1) := ⟨_,rfl⟩
   rw [← hy] at hdiv hww
   have HY := hid hy
   clear hy
   go_wp2
   go_round
   case rel => exact ⟨j + 1,by omega,by go_num,by rw [HY.out]⟩
   case measure => simp [intOf]; omega
  ·obtain rfl : j = k := by omega
   obtain ⟨x,hxe⟩ : ∃ x : Nat,x = a / 2 ^ j := ⟨_,rfl⟩
   rw [← hxe] at hd ⊢
   have hr : (x : Int) % 2 = (r : Int) := by rw [HR.out,hxe]; simp
   clear hxe
   go_wp2
   go_ret
   exact ⟨rfl,rfl⟩
theorem top_bit {n x : Nat} (hn : Okn n) (hx : x < 2 ^ n) : x / 2 ^ (n - 1) % 2 = if 2 ^ (n - 1) ≤ x then 1 else 0 := by
 have h := testBit_top hn hx
 rw [Nat.testBit_eq_decide_div_mod_eq] at h
 have := decide_eq_decide.1 h
 split <;> omega
set_option maxHeartbeats 800000 in
theorem RSigned_ok (n : Nat) (hn : Okn n) (a : Nat) (ha : a < 18446744073709551616) (w : World) :
  Calls Tryz.prog 247 #[.int .i64 n,.int .u64 a] w fun e w' => e = .returned (.int .i64 (sg n (a % 2 ^ n))) ∧ w = w' := by
 obtain ⟨h1,h2,h3,h4⟩ := pow_lt64 hn
 have hn8 := hn.le
 have HK := hid (Right_yes n hn w)
 have HX := hid (Cut_any n hn a ha w)
 obtain ⟨x,hx⟩ : ∃ x : Nat,x = a % 2 ^ n := ⟨_,rfl⟩
 have hxl : x < 2 ^ n := by rw [hx]; exact Nat.mod_lt _ (Nat.two_pow_pos n)
 rw [← hx] at HX ⊢
 have hc1 : ((n - 1 : Nat) : Int) = (n : Int) - 1 := by omega
 have hB := bit_any x (n - 1) (by omega) (by omega) w
 rw [hc1,top_bit hn hxl] at hB
 have hz : IntKind.u64.wrap (-(x : Int)) = (((18446744073709551616 - x) % 18446744073709551616 : Nat) : Int) := by
  rw [IntKind.wrap_u64]; omega
 by_cases hc : 2 ^ (n - 1) ≤ x
 ·rw [if_pos hc] at hB
  have HB : Hid (Calls Tryz.prog 271 #[.int .u64 x,.int .i64 ((n : Int) - 1)] w fun e w' => e = .returned (.int .u64 1) ∧ w = w') := hB
  have hC := Cut_any n hn ((18446744073709551616 - x) % 18446744073709551616) (by omega) w
  rw [neg_mod hn hxl hc] at hC
  obtain ⟨z,hze⟩ : ∃ z : Nat,z = (18446744073709551616 - x) % 18446744073709551616 := ⟨_,rfl⟩
  obtain ⟨y,hy⟩ : ∃ y : Nat,y = 2 ^ n - x := ⟨_,rfl⟩
  have hs : sg n x = -((y : Int) - 1) - 1 := by unfold sg; rw [if_pos hc]; omega
  have hw1 : IntKind.u64.wrap ((y : Int) - 1) = ((y - 1 : Nat) : Int) := by rw [IntKind.wrap_u64]; omega
  have hy1 : y - 1 < 9223372036854775808 := by omega
  have hcast : ((y - 1 : Nat) : Int) = (y : Int) - 1 := by omega
  obtain ⟨t,ht⟩ : ∃ t : Nat,t = y - 1 := ⟨_,rfl⟩
  rw [← hze,← hy] at hC
  rw [← hze] at hz
  rw [← ht] at hw1 hy1 hcast
  have hs2 : sg n x = -(t : Int) - 1 := by omega
  rw [hs2]
  have HC := hid hC
  have HT := hid hy1
  have hn1 : -9223372036854775808 ≤ -(t : Int) - 1 := by omega
  have ht1 : (t : Int) ≤ 9223372036854775807 := by omega
  clear h1 h2 h3 h4 hn hxl hx hc1 hB hc hC hze hy hs ht hs2 hcast hy1
  go_enter Tryz.func247,Tryz.ntmps247
  go_wp2_with (first
   | (go_at_call 269; refine HK.out.mono ?_; rintro e w' ⟨rfl,rfl⟩)
   | (go_at_call 270; ((with_reducible refine HX.out.mono ?_); rintro e w' ⟨rfl,rfl⟩))
   | (go_at_call 271; ((with_reducible refine HB.out.mono ?_); rintro e w' ⟨rfl,rfl⟩))
   | (go_at_call 270; ((with_reducible refine HC.out.mono ?_); rintro e w' ⟨rfl,rfl⟩)))
  go_ret
  exact ⟨ret_int (by first | rfl | (unfold wrap64; omega)),rfl⟩
 ·rw [if_neg hc] at hB
  have HB : Hid (Calls Tryz.prog 271 #[.int .u64 x,.int .i64 ((n : Int) - 1)] w fun e w' => e = .returned (.int .u64 0) ∧ w = w') := hB
  have hs : sg n x = x := by unfold sg; rw [if_neg hc]
  have hx1 : (x : Int) ≤ 9223372036854775807 := by omega
  rw [hs]
  clear h1 h2 h3 h4 hn hxl hx hc1 hB hc hs hz
  go_enter Tryz.func247,Tryz.ntmps247
  go_wp2_with (first
   | (go_at_call 269; refine HK.out.mono ?_; rintro e w' ⟨rfl,rfl⟩)
   | (go_at_call 270; ((with_reducible refine HX.out.mono ?_); rintro e w' ⟨rfl,rfl⟩))
   | (go_at_call 271; ((with_reducible refine HB.out.mono ?_); rintro e w' ⟨rfl,rfl⟩)))
  go_ret
  exact ⟨ret_int (by first | rfl | (unfold wrap64; omega)),rfl⟩
theorem sg_32 (a : Nat) : sg 32 (a % 2 ^ 32) = sgnN 32 a := by
 unfold sg sgnN
 simp only [Nat.reduceSub,Nat.reducePow]
 split <;> split <;> omega
theorem wrap_64 (a : Nat) (h : a < 18446744073709551616) : IntKind.i64.wrap (a : Int) = sgnN 64 a := by
 rw [IntKind.wrap_i64]
 unfold sgnN
 simp only [Nat.reduceSub,Nat.reducePow]
 split <;> omega
theorem RSigned_32 (a : Nat) (ha : a < 18446744073709551616) (w : World) : Calls Tryz.prog 247 #[.int .i64 32,.int .u64 (a : Nat)] w fun e w' => e = .returned (.int .i64 (sgnN 32 a)) ∧ w = w' := by
 have := RSigned_ok 32 (by decide) a ha w
 rw [sg_32] at this
 exact this
end Go.Proofs.YtjgeedgphcjhoaaGreat
