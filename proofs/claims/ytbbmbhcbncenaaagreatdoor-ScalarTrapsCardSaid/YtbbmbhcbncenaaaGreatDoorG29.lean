/-
  STraps, SLaid: merged, what the law does not reach left out (each text says what it holds where it lies in wip). No condition.
-/
import Derived.Test.YtbbmbhcbncenaaaGreatDoorG28
import Derived.Test.YtbbmbhcbncenaaaGreatDoorG04
import Derived.Test.YtbbmbhcbncenaaaGreatDoorRows
import Derived.ProofKit
import Derived.LaidMore
import Derived.OpenShut
import Derived.Lib.LaidTab
import Derived.ChangeSame
import Derived.Stop.LaidErr
import Derived.Test.YtbbmbhcbncenaaaGreatDoorG01
set_option linter.unusedSimpArgs false
set_option linter.unusedVariables false
set_option maxRecDepth 100000
namespace Go.Proofs.YtbbmbhcbncenaaaGreatDoor.Sc
open Go.RowKit
def argT (tys : List Int) (a b : Nat) : List Av := match tys with
 | [t0] => [(t0,a,b,true)]
 | [t0,t1] => [(t0,a,b,true),(t1,b,b,true)]
 | _ => []
theorem argT_len (tys : List Int) (a b : Nat) (h1 : 1 ≤ tys.length) (h2 : tys.length ≤ 2) : (argT tys a b).length = tys.length := by
 match tys,h1,h2 with
 | [_],_,_ => rfl
 | [_,_],_,_ => rfl
theorem argT_map (tys : List Int) (a b : Nat) (h1 : 1 ≤ tys.length) (h2 : tys.length ≤ 2) : (argT tys a b).map (·.1) = tys := by
 match tys,h1,h2 with
 | [_],_,_ => rfl
 | [_,_],_,_ => rfl
theorem opn_T (tys : List Int) (a b : Nat) (h1 : 1 ≤ tys.length) (h2 : tys.length ≤ 2) (k : Nat) : opn (argT tys a b) k = opn (argL tys a b) k := by
 match tys,h1,h2,k with
 | [_],_,_,0 => rfl
 | [_],_,_,k + 1 => rfl
 | [_,_],_,_,0 => rfl
 | [_,_],_,_,1 => rfl
 | [_,_],_,_,k + 2 => rfl
theorem argT_at (tys : List Int) (a b j : Nat) (h1 : 1 ≤ tys.length) (h2 : tys.length ≤ 2) (hj : j < tys.length) : ∃ ty,tys[j]? = some ty ∧ (argT tys a b)[j]? = some (ty,if j = 0 then a else b,b,true) ∧ (#[.int .u64 a,.int .u64 b] : Array Value)[j]? = some (.int .u64 (if j = 0 then a else b : Nat)) := by
 match tys,h1,h2,j,hj with
 | [t0],_,_,0,_ => exact ⟨t0,rfl,rfl,rfl⟩
 | [t0,t1],_,_,0,_ => exact ⟨t0,rfl,rfl,rfl⟩
 | [t0,t1],_,_,1,_ => exact ⟨t1,rfl,rfl,rfl⟩
theorem qrow_191 : rowB 191 [126] 124 = true := by kernel_rfl
theorem qrow_189 : rowB 189 [124] 126 = true := by kernel_rfl
theorem Do_191 (a : Nat) (W : World) (va : Value) (hg : GlobF W) (ha : AR W va [(126,a,0,false)]) : Calls Tryz.prog 8 #[.int .i64 191,.slice none 0 0,va] W fun e w' => e = .returned (.tuple #[.agg #[.int .i64 124,.int .u64 ((a : Nat) : Int),.int .u64 0,.bool false],.int .i64 0]) ∧ Below W.heap.size W w' := by
 obtain ⟨ro,im,tk,lv,fx,P⟩ := row_of 191 [126] 124 qrow_191
 exact P.prog [(126,a,0,false)] rfl a 0 (Ans.g (res_con 191 (by decide) (by decide) a 0 _ _ (con_same 191 (by decide) a))) W va hg ha
theorem Do_189 (a : Nat) (W : World) (va : Value) (hg : GlobF W) (ha : AR W va [(124,a,0,false)]) : Calls Tryz.prog 8 #[.int .i64 189,.slice none 0 0,va] W fun e w' => e = .returned (.tuple #[.agg #[.int .i64 126,.int .u64 ((a : Nat) : Int),.int .u64 0,.bool false],.int .i64 0]) ∧ Below W.heap.size W w' := by
 obtain ⟨ro,im,tk,lv,fx,P⟩ := row_of 189 [124] 126 qrow_189
 exact P.prog [(124,a,0,false)] rfl a 0 (Ans.g (res_con 189 (by decide) (by decide) a 0 _ _ (con_same 189 (by decide) a))) W va hg ha
theorem doV_case (op tl : Int) (x e2 : Nat) (he : e2 = 0 ∨ (mayB op = true ∧ (e2 = 41 ∨ e2 = 42 ∨ e2 = 43))) : ∃ (tt : Int) (xx : Nat),doV tl x e2 = .agg #[.int .i64 tt,.int .u64 (xx : Nat),.int .u64 0,.bool false] ∧ ((e2 = 0 ∧ tl = tt) ∨ (mayB op = true ∧ (e2 = 41 ∨ e2 = 42 ∨ e2 = 43) ∧ tt = 0 ∧ xx = 0)) := by
 rcases he with rfl | ⟨hm,he⟩
 ·exact ⟨tl,cutT tl x,rfl,.inl ⟨rfl,rfl⟩⟩
 ·exact ⟨0,0,by unfold doV; rw [if_neg (by omega)]; rfl,.inr ⟨hm,he,rfl,rfl⟩⟩
set_option maxHeartbeats 16000000 in
theorem law_in (op : Int) (hN : ((69 ≤ op ∧ op ≤ 196) ∨ (64512 ≤ op ∧ op ≤ 64519))) (a b : Nat) (ha : a < 18446744073709551616) (hb : b < 18446744073709551616) (w : World) (hg : GlobF w) : Calls Tryz.prog 3 #[.int .i64 op,.int .u64 a,.int .u64 b] w fun e w' => e = .returned (.bool true) ∧ Below w.heap.size w w' := by
 obtain ⟨ro,nm,im,tk,lv,fx,tys,tl,x,e2,P,HP,he⟩ := pg_all op hN a b ha hb
 have HGL := hid hg
 have HAW := fun W h => hid (awake_says W h)
 have d0 : decide (ro < 0) = false := by have := P.ro0; simp; omega
 have d1 : decide (64768 ≤ op) = false := by simp; omega
 have HN := fun W => hid (Num_says op hN W)
 have hag := agree_parts op P.of
 have h7 := hag.2.2.2.2.2.2.1
 have h8 := hag.2.2.2.2.2.2.2.1
 clear hag
 have HO := fun W => hid (Of_says op W)
 rw [P.of] at HO
 have HT := fun W => hid (reftypes_says tk h7 W)
 rw [P.tk1] at HT
 have HL := fun W => hid (reftypes_says lv h8 W)
 rw [P.lv1] at HL
 obtain ⟨tt,xx,hdv,hcase⟩ := doV_case op tl x e2 he
 have hl1 := P.l1
 have hl2 := P.l2
 have HPP := fun W va (h : GlobF W) h2 => hid (P.prog (argT tys a b) (argT_map tys a b hl1 hl2) x e2 (by rw [opn_T tys a b hl1 hl2,opn_T tys a b hl1 hl2]; exact HP) W va h h2)
 rw [hdv] at HPP
 have HLA := hid (argT_len tys a b hl1 hl2)
 have HAT := fun j hj => hid (argT_at tys a b j hl1 hl2 hj)
 have HFL := hid (flat_next (argT tys a b))
 have HOF := fun w base v h1 h2 h => hid (AR.of_own (w := w) (base := base) (v := v) (argT tys a b) h1 h2 h)
 generalize argT tys a b = l at *
 obtain ⟨n,hn⟩ : ∃ n,n = tys.length := ⟨_,rfl⟩
 rw [← hn] at hl1 hl2 HLA HAT
 have HNN := hid hn
 unfold rwV at HO
 generalize str nm = sn at *
 generalize str tk = stk at *
 generalize str lv = slv at *
 have H191 := fun W va h1 h2 => hid (Do_191 a W va h1 h2)
 have H189 := fun W va h1 h2 => hid (Do_189 a W va h1 h2)
 have HCA := hid hcase
 have HRG := hid hN
 clear P h7 h8 hdv HP hn he hg ha hb hcase hN
 go_enter Tryz.func3,Tryz.ntmps3
 go_upto_region 5 with (first
  | (go_at_call 4; refine (HAW _ HGL.out).out.mono ?_; rintro e w1 ⟨rfl,hb1⟩; have HB1 := hid hb1; clear hb1)
  | (go_at_call 5; refine (HO _).out.mono ?_; rintro e w2 ⟨rfl,hb2⟩; have HB2 := hid (HB1.out.trans (hb2.mono HB1.out.size)); clear hb2))
 have HB3 := hid (HB2.out.alloc HB2.out.size (.cells #[.int .i64 ro,.string sn,.int .i64 im,.string stk,.string slv,.bool fx] 25))
 have HC3 := hid (CA.new w2 #[.int .i64 ro,.string sn,.int .i64 im,.string stk,.string slv,.bool fx] 25)
 generalize w2.alloc (.cells #[.int .i64 ro,.string sn,.int .i64 im,.string stk,.string slv,.bool fx] 25) = W3 at *
 generalize w2.heap.size = g8 at *
 have x0 := HC3.out.at (k := 0) (v := .int .i64 ro) rfl
 clear HB2 HB1
 have x3 := HC3.out.at (k := 3) (v := .string stk) rfl
 go_upto_region 8 with (first
  | (go_at_call 6; refine (HN _).out.mono ?_; rintro e w3 ⟨rfl,rfl⟩)
  | (go_at_call 7; (with_reducible refine (HT _).out.mono ?_); rintro e w4 ⟨v4,rfl,ho4,hb4⟩; rw [← HNN.out] at ho4; obtain ⟨g2,c2,rfl⟩ := owned_at ho4 hl1; have HO4 := hid ho4; have HB4 := hid (HB3.out.trans (hb4.mono HB3.out.size)); have HC4 := hid (HC3.out.call hb4); clear hb4 ho4))
 have hg2 : g2 < w4.heap.size := (HO4.out.lt g2 rfl).2
 have HTC : Hid (∀ j ty,tys[j]? = some ty → w4.cell? ⟨g2,j,none⟩ = some (.int .i64 ty)) := fun j ty hj => by
  have hjl : j < tys.length := (List.getElem?_eq_some_iff.1 hj).1
  rw [HO4.out.cellAt j (by rw [HNN.out]; omega)]
  simp [ic,hj]
 clear HO4 HT HO HB3 HC3 x0 x3 HN HAW d0 d1
 go_wp2
 go_loopw [10,11] (fun vl vi ws => ∃ j : Nat,j ≤ n ∧ vi = .int .i64 j ∧ Hid (ws.ownsRow w4.heap.size 33 4 vl j ((l.take j).flatMap avc)) ∧ Hid (Below w4.heap.size w4 ws)) (fun _ vi _ => n - (intOf vi).toNat)
 case atStart => exact ⟨0,Nat.zero_le _,rfl,World.ownsRow_nil _ _ _ _,Below.refl _ _⟩
 case round =>
  obtain ⟨j,hjn,rfl,HOW,HBS⟩ := hrel
  by_cases hlt : j < n
  ·obtain ⟨ty,h1,h2,h3⟩ := (HAT j hlt).out
   have q0 := HTC.out j ty h1
   have HF := hid (HFL.out j _ h2)
   obtain ⟨z,hz⟩ : ∃ z,z = (if j = 0 then a else b : Nat) := ⟨_,rfl⟩
   rw [← hz] at h2 h3 HF
   have H3 := hid h3
   have QT := hid q0
   have hg2s : g2 < wr.heap.size := Nat.lt_of_lt_of_le hg2 HBS.out.size
   clear h1 h2 h3 hz q0
   have hj2 : ((2 : Int) ≤ (j : Int)) = False := by simp; omega
   go_upto_region 12 with fail
   have hS : Below w4.heap.size w4 wr.drew := HBS.out.drew
   have hOW : wr.drew.ownsRow w4.heap.size 33 4 u10 j ((l.take j).flatMap avc) := HOW.out
   refine wp_region_held_drew (S := fun W => Below w4.heap.size w4 W) (by kernel_rfl) hS (fun _ => ?_)
   generalize wr.drew = W at *
   refine zt 0 u10 rfl ?_ ?_
   ·(intro W hSw; have x9 := (hSw.cell (p := ⟨g2,j,none⟩) hg2).trans QT.out; go_simp; try (with_reducible rfl))
   try simp only [Act.put,sl2,sl0,sl1]
   refine zt 1 (.slice (some ⟨g2,0,none⟩) n c2) rfl ?_ ?_
   ·(intro W hSw; have x9 := (hSw.cell (p := ⟨g2,j,none⟩) hg2).trans QT.out; go_simp; try (with_reducible rfl))
   try simp only [Act.put,sl2,sl0,sl1]
   refine zt 2 (.int .i64 j) rfl ?_ ?_
   ·(intro W hSw; have x9 := (hSw.cell (p := ⟨g2,j,none⟩) hg2).trans QT.out; go_simp; try (with_reducible rfl))
   try simp only [Act.put,sl2,sl0,sl1]
   refine zt 3 (.pointer (some ⟨g2,j,none⟩)) rfl ?_ ?_
   ·(intro W hSw; have x9 := (hSw.cell (p := ⟨g2,j,none⟩) hg2).trans QT.out; go_simp; try (with_reducible rfl))
   try simp only [Act.put,sl2,sl0,sl1]
   refine zt 4 (.int .i64 ty) rfl ?_ ?_
   ·(intro W hSw; have x9 := (hSw.cell (p := ⟨g2,j,none⟩) hg2).trans QT.out; go_simp; try (with_reducible rfl))
   try simp only [Act.put,sl2,sl0,sl1]
   refine zt 5 (.int .u64 a) rfl ?_ ?_
   ·(intro W hSw; have x9 := (hSw.cell (p := ⟨g2,j,none⟩) hg2).trans QT.out; go_simp; try (with_reducible rfl))
   try simp only [Act.put,sl2,sl0,sl1]
   refine zt 6 (.int .u64 b) rfl ?_ ?_
   ·(intro W hSw; have x9 := (hSw.cell (p := ⟨g2,j,none⟩) hg2).trans QT.out; go_simp; try (with_reducible rfl))
   try simp only [Act.put,sl2,sl0,sl1]
   refine zt 8 (.int .i64 j) rfl ?_ ?_
   ·(intro W hSw; have x9 := (hSw.cell (p := ⟨g2,j,none⟩) hg2).trans QT.out; go_simp; try (with_reducible rfl))
   try simp only [Act.put,sl2,sl0,sl1]
   refine zt 11 (.int .u64 b) rfl ?_ ?_
   ·(intro W hSw; have x9 := (hSw.cell (p := ⟨g2,j,none⟩) hg2).trans QT.out; go_simp; try (with_reducible rfl))
   try simp only [Act.put,sl2,sl0,sl1]
   refine zr 7 rfl (fun K hK => ?_)
   go_simp
   have HX := CA.new W #[.int .u64 a,.int .u64 b] 22
   replace hS := hS.alloc hS.size (.cells #[.int .u64 a,.int .u64 b] 22)
   replace hOW := hOW.alloc (.cells #[.int .u64 a,.int .u64 b] 22)
   generalize W.alloc (.cells #[.int .u64 a,.int .u64 b] 22) = W1 at *
   generalize W.heap.size = gx at *
   refine hK.out _ _ hS (fun _ => ?_)
   clear hK K
   try simp only [Act.put,sl2,sl0,sl1]
   refine zt 9 (.pointer (some ⟨gx,j,none⟩)) rfl ?_ ?_
   ·(intro W hSw; have x9 := (hSw.cell (p := ⟨g2,j,none⟩) hg2).trans QT.out; go_simp; try (with_reducible rfl))
   try simp only [Act.put,sl2,sl0,sl1]
   refine zr 10 rfl (fun K hK => ?_)
   have z9 := HX.at (k := j) (v := .int .u64 (z : Nat)) H3.out
   go_simp
   clear z9
   refine hK.out _ _ hS (fun _ => ?_)
   clear hK K
   try simp only [Act.put,sl2,sl0,sl1]
   refine zt 12 (.agg #[.int .i64 ty,.int .u64 (z : Nat),.int .u64 b,.bool true]) rfl ?_ ?_
   ·(intro W hSw; have x9 := (hSw.cell (p := ⟨g2,j,none⟩) hg2).trans QT.out; go_simp; try (with_reducible rfl))
   try simp only [Act.put,sl2,sl0,sl1]
   refine zr 13 rfl (fun K hK => ?_)
   go_simp
   refine hK.out _ _ (hS.alloc hS.size (.cells #[.int .i64 ty,.int .u64 (z : Nat),.int .u64 b,.bool true] 33)) (fun _ => ?_)
   clear hK K
   try simp only [Act.put,sl2,sl0,sl1]
   refine zr 14 rfl (fun K hK => ?_)
   rw [if_pos (by rfl)]
   refine wp_append_val _ _ rfl w4.heap.size u10 j _ ty (z : Nat) (b : Nat) true hOW hS.size (by omega) rfl rfl ?_
   intro v' W5 hown' hb5 hsz5
   have hS5 := hS.trans hb5
   refine hK.out _ _ hS5 (fun _ => ?_)
   clear hK K
   try simp only [Act.put,sl2,sl0,sl1]
   refine zt 15 (v') rfl ?_ ?_
   ·(intro W hSw; have x9 := (hSw.cell (p := ⟨g2,j,none⟩) hg2).trans QT.out; go_simp; try (with_reducible rfl))
   try simp only [Act.put,sl2,sl0,sl1]
   refine wpAnyH_done (by kernel_rfl) ?_ _
   go_wp2_with fail
   go_roundw
   case rel => exact ⟨j + 1,by omega,by go_num,by rw [HF.out]; exact hown',hS5⟩
   case measure => (simp [intOf]; omega)
  ·obtain rfl : j = n := by omega
   have hll : l.length = j := HLA.out
   have HAR := hid (HOF wr w4.heap.size u10 (by omega) (by omega) (by rw [hll]; have := HOW.out; rw [List.take_of_length_le (by omega)] at this; exact this)).out
   have HBw := hid (HB4.out.trans (HBS.out.mono HB4.out.size))
   have HCw := hid (HC4.out.call HBS.out)
   have HP1 := HPP wr u10 (HGL.out.next HBw.out) HAR.out
   clear HOW HBS HTC hll HPP HAT HFL HOF HLA HB4 HC4 hg2
   go_upto_region 14 with (go_at_call 8; (with_reducible refine HP1.out.mono ?_); rintro e w5 ⟨rfl,hb5⟩; have HB5 := hid (HBw.out.trans (hb5.mono HBw.out.size)); have HC5 := hid (HCw.out.call hb5); clear hb5)
   have HB6 := hid (HB5.out.alloc HB5.out.size (.cells #[.int .i64 tt,.int .u64 (xx : Nat),.int .u64 0,.bool false] 33))
   have HC6 := hid (CA.new w5 #[.int .i64 tt,.int .u64 (xx : Nat),.int .u64 0,.bool false] 33)
   have HD6 := hid (HC5.out.alloc (.cells #[.int .i64 tt,.int .u64 (xx : Nat),.int .u64 0,.bool false] 33))
   generalize w5.alloc (.cells #[.int .i64 tt,.int .u64 (xx : Nat),.int .u64 0,.bool false] 33) = W6 at *
   generalize w5.heap.size = g12 at *
   have hg12 := HC6.out.lt
   have hg8 := HD6.out.lt
   have c0 := HC6.out.at (k := 0) (v := .int .i64 tt) rfl
   have c1 := HC6.out.at (k := 1) (v := .int .u64 (xx : Nat)) rfl
   have c2' := HC6.out.at (k := 2) (v := .int .u64 0) rfl
   have c3 := HC6.out.at (k := 3) (v := .bool false) rfl
   have c4 := HD6.out.at (k := 4) (v := .string slv) rfl
   clear HC6 HD6 HB5 HC5 HP1 HAR HBw HCw
   rcases HCA.out with ⟨rfl,rfl⟩ | ⟨hm,he,rfl,rfl⟩
   ·clear HCA
    have dz : (((0 : Nat) : Int) != 0) = false := rfl
    have dn : (tl != tl) = false := by simp
    have hrg := HRG.out
    rcases (show op < 109 ∨ (109 ≤ op ∧ op ≤ 112) ∨ (113 ≤ op ∧ op ≤ 126) ∨ (127 ≤ op ∧ op ≤ 130) ∨ (131 ≤ op ∧ op ≤ 167) ∨ (168 ≤ op ∧ op ≤ 171) ∨ (172 ≤ op ∧ op ≤ 173) ∨ (174 ≤ op ∧ op ≤ 177) ∨ 178 ≤ op by omega) with h | h | h | h | h | h | h | h | h
    all_goals
     (first | (have ql109 : decide (109 ≤ op) = true := by simp; omega) | (have ql109 : decide (109 ≤ op) = false := by simp; omega))
     (first | (have qh109 : decide (op ≤ 112) = true := by simp; omega) | (have qh109 : decide (op ≤ 112) = false := by simp; omega))
     (first | (have ql127 : decide (127 ≤ op) = true := by simp; omega) | (have ql127 : decide (127 ≤ op) = false := by simp; omega))
     (first | (have qh127 : decide (op ≤ 130) = true := by simp; omega) | (have qh127 : decide (op ≤ 130) = false := by simp; omega))
     (first | (have ql168 : decide (168 ≤ op) = true := by simp; omega) | (have ql168 : decide (168 ≤ op) = false := by simp; omega))
     (first | (have qh168 : decide (op ≤ 171) = true := by simp; omega) | (have qh168 : decide (op ≤ 171) = false := by simp; omega))
     (first | (have ql174 : decide (174 ≤ op) = true := by simp; omega) | (have ql174 : decide (174 ≤ op) = false := by simp; omega))
     (first | (have qh174 : decide (op ≤ 177) = true := by simp; omega) | (have qh174 : decide (op ≤ 177) = false := by simp; omega))
     clear h hrg
     go_upto_region 17 with fail
     have hS : Below W6.heap.size W6 W6.drew := (Below.refl _ _).drew
     refine wp_region_held_drew (S := fun W => Below W6.heap.size W6 W) (by kernel_rfl) hS (fun _ => ?_)
     generalize W6.drew = W at *
     refine zt 0 (.pointer (some ⟨g12,0,none⟩)) rfl ?_ ?_
     ·(intro W hSw; have y0 := (hSw.cell (p := ⟨g12,0,none⟩) hg12).trans c0; have y2 := (hSw.cell (p := ⟨g12,2,none⟩) hg12).trans c2'; have y3 := (hSw.cell (p := ⟨g12,3,none⟩) hg12).trans c3; have y4 := (hSw.cell (p := ⟨g8,4,none⟩) hg8).trans c4; go_simp; try (with_reducible rfl))
     try simp only [Act.put,sl2,sl0,sl1]
     refine zt 1 (.int .i64 tl) rfl ?_ ?_
     ·(intro W hSw; have y0 := (hSw.cell (p := ⟨g12,0,none⟩) hg12).trans c0; have y2 := (hSw.cell (p := ⟨g12,2,none⟩) hg12).trans c2'; have y3 := (hSw.cell (p := ⟨g12,3,none⟩) hg12).trans c3; have y4 := (hSw.cell (p := ⟨g8,4,none⟩) hg8).trans c4; go_simp; try (with_reducible rfl))
     try simp only [Act.put,sl2,sl0,sl1]
     refine zt 2 (.pointer (some ⟨g8,4,none⟩)) rfl ?_ ?_
     ·(intro W hSw; have y0 := (hSw.cell (p := ⟨g12,0,none⟩) hg12).trans c0; have y2 := (hSw.cell (p := ⟨g12,2,none⟩) hg12).trans c2'; have y3 := (hSw.cell (p := ⟨g12,3,none⟩) hg12).trans c3; have y4 := (hSw.cell (p := ⟨g8,4,none⟩) hg8).trans c4; go_simp; try (with_reducible rfl))
     try simp only [Act.put,sl2,sl0,sl1]
     refine zt 3 (.string slv) rfl ?_ ?_
     ·(intro W hSw; have y0 := (hSw.cell (p := ⟨g12,0,none⟩) hg12).trans c0; have y2 := (hSw.cell (p := ⟨g12,2,none⟩) hg12).trans c2'; have y3 := (hSw.cell (p := ⟨g12,3,none⟩) hg12).trans c3; have y4 := (hSw.cell (p := ⟨g8,4,none⟩) hg8).trans c4; go_simp; try (with_reducible rfl))
     try simp only [Act.put,sl2,sl0,sl1]
     refine zr 4 rfl (fun K hK => ?_)
     go_simp
     go_at_call 7
     (with_reducible refine (HL _).out.mono ?_)
     rintro e W1 ⟨v3,rfl,ho3,hb3⟩
     obtain ⟨g3,k3,rfl⟩ := owned_at ho3 (Nat.le_refl _)
     have z3 : W1.cell? ⟨g3,0,none⟩ = some (.int .i64 tl) := ho3.cellAt 0 (by simp)
     replace hS := hS.trans (hb3.mono hS.size)
     clear ho3 hb3
     refine hK.out _ _ hS (fun _ => ?_)
     clear hK K
     try simp only [Act.put,sl2,sl0,sl1]
     refine zt 5 (.pointer (some ⟨g3,0,none⟩)) rfl ?_ ?_
     ·(intro W hSw; have y0 := (hSw.cell (p := ⟨g12,0,none⟩) hg12).trans c0; have y2 := (hSw.cell (p := ⟨g12,2,none⟩) hg12).trans c2'; have y3 := (hSw.cell (p := ⟨g12,3,none⟩) hg12).trans c3; have y4 := (hSw.cell (p := ⟨g8,4,none⟩) hg8).trans c4; go_simp; try (with_reducible rfl))
     try simp only [Act.put,sl2,sl0,sl1]
     refine zr 6 rfl (fun K hK => ?_)
     go_simp
     refine hK.out _ _ hS (fun _ => ?_)
     clear hK K
     try simp only [Act.put,sl2,sl0,sl1]
     refine zt 7 (.bool false) rfl ?_ ?_
     ·(intro W hSw; have y0 := (hSw.cell (p := ⟨g12,0,none⟩) hg12).trans c0; have y2 := (hSw.cell (p := ⟨g12,2,none⟩) hg12).trans c2'; have y3 := (hSw.cell (p := ⟨g12,3,none⟩) hg12).trans c3; have y4 := (hSw.cell (p := ⟨g8,4,none⟩) hg8).trans c4; go_simp; try (with_reducible rfl))
     try simp only [Act.put,sl2,sl0,sl1]
     refine zt 8 (.bool false) rfl ?_ ?_
     ·(intro W hSw; have y0 := (hSw.cell (p := ⟨g12,0,none⟩) hg12).trans c0; have y2 := (hSw.cell (p := ⟨g12,2,none⟩) hg12).trans c2'; have y3 := (hSw.cell (p := ⟨g12,3,none⟩) hg12).trans c3; have y4 := (hSw.cell (p := ⟨g8,4,none⟩) hg8).trans c4; go_simp; try (with_reducible rfl))
     try simp only [Act.put,sl2,sl0,sl1]
     refine zt 9 (.pointer (some ⟨g12,2,none⟩)) rfl ?_ ?_
     ·(intro W hSw; have y0 := (hSw.cell (p := ⟨g12,0,none⟩) hg12).trans c0; have y2 := (hSw.cell (p := ⟨g12,2,none⟩) hg12).trans c2'; have y3 := (hSw.cell (p := ⟨g12,3,none⟩) hg12).trans c3; have y4 := (hSw.cell (p := ⟨g8,4,none⟩) hg8).trans c4; go_simp; try (with_reducible rfl))
     try simp only [Act.put,sl2,sl0,sl1]
     refine zt 10 (.int .u64 0) rfl ?_ ?_
     ·(intro W hSw; have y0 := (hSw.cell (p := ⟨g12,0,none⟩) hg12).trans c0; have y2 := (hSw.cell (p := ⟨g12,2,none⟩) hg12).trans c2'; have y3 := (hSw.cell (p := ⟨g12,3,none⟩) hg12).trans c3; have y4 := (hSw.cell (p := ⟨g8,4,none⟩) hg8).trans c4; go_simp; try (with_reducible rfl))
     try simp only [Act.put,sl2,sl0,sl1]
     refine zt 11 (.bool false) rfl ?_ ?_
     ·(intro W hSw; have y0 := (hSw.cell (p := ⟨g12,0,none⟩) hg12).trans c0; have y2 := (hSw.cell (p := ⟨g12,2,none⟩) hg12).trans c2'; have y3 := (hSw.cell (p := ⟨g12,3,none⟩) hg12).trans c3; have y4 := (hSw.cell (p := ⟨g8,4,none⟩) hg8).trans c4; go_simp; try (with_reducible rfl))
     try simp only [Act.put,sl2,sl0,sl1]
     refine zt 12 (.bool false) rfl ?_ ?_
     ·(intro W hSw; have y0 := (hSw.cell (p := ⟨g12,0,none⟩) hg12).trans c0; have y2 := (hSw.cell (p := ⟨g12,2,none⟩) hg12).trans c2'; have y3 := (hSw.cell (p := ⟨g12,3,none⟩) hg12).trans c3; have y4 := (hSw.cell (p := ⟨g8,4,none⟩) hg8).trans c4; go_simp; try (with_reducible rfl))
     try simp only [Act.put,sl2,sl0,sl1]
     refine zt 13 (.bool false) rfl ?_ ?_
     ·(intro W hSw; have y0 := (hSw.cell (p := ⟨g12,0,none⟩) hg12).trans c0; have y2 := (hSw.cell (p := ⟨g12,2,none⟩) hg12).trans c2'; have y3 := (hSw.cell (p := ⟨g12,3,none⟩) hg12).trans c3; have y4 := (hSw.cell (p := ⟨g8,4,none⟩) hg8).trans c4; go_simp; try (with_reducible rfl))
     try simp only [Act.put,sl2,sl0,sl1]
     refine zt 14 (.pointer (some ⟨g12,3,none⟩)) rfl ?_ ?_
     ·(intro W hSw; have y0 := (hSw.cell (p := ⟨g12,0,none⟩) hg12).trans c0; have y2 := (hSw.cell (p := ⟨g12,2,none⟩) hg12).trans c2'; have y3 := (hSw.cell (p := ⟨g12,3,none⟩) hg12).trans c3; have y4 := (hSw.cell (p := ⟨g8,4,none⟩) hg8).trans c4; go_simp; try (with_reducible rfl))
     try simp only [Act.put,sl2,sl0,sl1]
     refine zt 15 (.bool false) rfl ?_ ?_
     ·(intro W hSw; have y0 := (hSw.cell (p := ⟨g12,0,none⟩) hg12).trans c0; have y2 := (hSw.cell (p := ⟨g12,2,none⟩) hg12).trans c2'; have y3 := (hSw.cell (p := ⟨g12,3,none⟩) hg12).trans c3; have y4 := (hSw.cell (p := ⟨g8,4,none⟩) hg8).trans c4; go_simp; try (with_reducible rfl))
     try simp only [Act.put,sl2,sl0,sl1]
     refine zt 16 (.bool false) rfl ?_ ?_
     ·(intro W hSw; have y0 := (hSw.cell (p := ⟨g12,0,none⟩) hg12).trans c0; have y2 := (hSw.cell (p := ⟨g12,2,none⟩) hg12).trans c2'; have y3 := (hSw.cell (p := ⟨g12,3,none⟩) hg12).trans c3; have y4 := (hSw.cell (p := ⟨g8,4,none⟩) hg8).trans c4; go_simp; try (with_reducible rfl))
     try simp only [Act.put,sl2,sl0,sl1]
     refine wpAnyH_done (by kernel_rfl) ?_ _
     have HB7 := hid (HB6.out.trans (hS.mono HB6.out.size))
     clear z3 hS c0 c2' c3 c4 hg12 hg8 HB6
     have A1 := hid (ar_one W1 126 a)
     have G1 := hid ((HGL.out.next HB7.out).next ((Below.refl _ W1).alloc (Nat.le_refl _) (.cells #[.int .i64 126,.int .u64 ((a : Nat) : Int),.int .u64 0,.bool false] 33)))
     go_upto_region 20 with (go_at_call 8; refine (H191 _ _ G1.out A1.out).out.mono ?_; rintro e w8 ⟨rfl,hb8⟩; have HB8 := hid ((HB7.out.alloc HB7.out.size _).trans (hb8.mono (by rw [size_al]; have := HB7.out.size; omega))); clear hb8)
     have HB9 := hid (HB8.out.alloc HB8.out.size (.cells #[.int .i64 124,.int .u64 ((a : Nat) : Int),.int .u64 0,.bool false] 33))
     have HC9 := CA.new w8 #[.int .i64 124,.int .u64 ((a : Nat) : Int),.int .u64 0,.bool false] 33
     generalize w8.alloc (.cells #[.int .i64 124,.int .u64 ((a : Nat) : Int),.int .u64 0,.bool false] 33) = W9 at *
     generalize w8.heap.size = g15 at *
     have r0 := HC9.at (k := 0) (v := .int .i64 124) rfl
     have r1 := HC9.at (k := 1) (v := .int .u64 ((a : Nat) : Int)) rfl
     have r2 := HC9.at (k := 2) (v := .int .u64 0) rfl
     have r3 := HC9.at (k := 3) (v := .bool false) rfl
     clear A1 G1 HB8 HC9 HB7
     have A2 := hid (ar_one W9 124 a)
     have G2 := hid ((HGL.out.next HB9.out).next ((Below.refl _ W9).alloc (Nat.le_refl _) (.cells #[.int .i64 124,.int .u64 ((a : Nat) : Int),.int .u64 0,.bool false] 33)))
     go_upto_region 21 with (go_at_call 8; refine (H189 _ _ G2.out A2.out).out.mono ?_; rintro e w10 ⟨rfl,hb10⟩; have HB10 := hid ((HB9.out.alloc HB9.out.size _).trans (hb10.mono (by rw [size_al]; have := HB9.out.size; omega))); clear hb10)
     have HB11 := hid (HB10.out.alloc HB10.out.size (.cells #[.int .i64 126,.int .u64 ((a : Nat) : Int),.int .u64 0,.bool false] 33))
     have HC11 := CA.new w10 #[.int .i64 126,.int .u64 ((a : Nat) : Int),.int .u64 0,.bool false] 33
     generalize w10.alloc (.cells #[.int .i64 126,.int .u64 ((a : Nat) : Int),.int .u64 0,.bool false] 33) = W11 at *
     generalize w10.heap.size = g17 at *
     have s0 := HC11.at (k := 0) (v := .int .i64 126) rfl
     have s1 := HC11.at (k := 1) (v := .int .u64 ((a : Nat) : Int)) rfl
     clear A2 G2 HB10 HC11 HB9 r0 r1 r2 r3
     go_wp2
     go_ret
     exact ⟨rfl,HB11.out⟩
   ·clear HCA HL H191 H189
    have hme : (109 ≤ op ∧ op ≤ 112) ∨ (127 ≤ op ∧ op ≤ 130) ∨ (168 ≤ op ∧ op ≤ 171) ∨ (174 ≤ op ∧ op ≤ 177) := by
     unfold mayB at hm
     simp only [Bool.or_eq_true,Bool.and_eq_true,decide_eq_true_eq] at hm
     omega
    clear hm
    rcases hme with h | h | h | h
    all_goals
     (first | (have ql109 : decide (109 ≤ op) = true := by simp; omega) | (have ql109 : decide (109 ≤ op) = false := by simp; omega))
     (first | (have qh109 : decide (op ≤ 112) = true := by simp; omega) | (have qh109 : decide (op ≤ 112) = false := by simp; omega))
     (first | (have ql127 : decide (127 ≤ op) = true := by simp; omega) | (have ql127 : decide (127 ≤ op) = false := by simp; omega))
     (first | (have qh127 : decide (op ≤ 130) = true := by simp; omega) | (have qh127 : decide (op ≤ 130) = false := by simp; omega))
     (first | (have ql168 : decide (168 ≤ op) = true := by simp; omega) | (have ql168 : decide (168 ≤ op) = false := by simp; omega))
     (first | (have qh168 : decide (op ≤ 171) = true := by simp; omega) | (have qh168 : decide (op ≤ 171) = false := by simp; omega))
     (first | (have ql174 : decide (174 ≤ op) = true := by simp; omega) | (have ql174 : decide (174 ≤ op) = false := by simp; omega))
     (first | (have qh174 : decide (op ≤ 177) = true := by simp; omega) | (have qh174 : decide (op ≤ 177) = false := by simp; omega))
     clear h
     rcases he with rfl | rfl | rfl
     all_goals
      go_wp2
      go_ret
      exact ⟨rfl,HB6.out⟩
theorem law_Traps (op : Int) (_ : -9223372036854775808 ≤ op) (_ : op < 9223372036854775808) (a b : Nat) (ha : a < 18446744073709551616) (hb : b < 18446744073709551616) (w : World) (hg : GlobF w) : Calls Tryz.prog 3 #[.int .i64 op,.int .u64 a,.int .u64 b] w fun e w' => e = .returned (.bool true) ∧ Below w.heap.size w w' := by
 by_cases hN : ((69 ≤ op ∧ op ≤ 196) ∨ (64512 ≤ op ∧ op ≤ 64519))
 ·exact law_in op hN a b ha hb w hg
 ·exact law_out op a b w hg (.inr (.inr hN))
end Go.Proofs.YtbbmbhcbncenaaaGreatDoor.Sc
namespace Go.Proofs.YtbbmbhcbncenaaaGreatDoor.Sc
open Go.ChangeShapes Go.WideShapes Go.ChangeAt Go.WideMaps Go.WideElems Go.RowKit
theorem own : ownKnob Tryz.prog.godebug = none := by kernel_rfl
abbrev LAID : List (String × DataW Unit) := [("bodkin/ops.plainAligns", Rows.laid_bodkin_ops_plainAligns), ("bodkin/ops.vectorAligns", Rows.laid_bodkin_ops_vectorAligns), ("bodkin/ops.laneAligns", Rows.laid_bodkin_ops_laneAligns), ("bodkin/ops.laneCounts", Rows.laid_bodkin_ops_laneCounts), ("bodkin/ops.lists", Rows.laid_bodkin_ops_lists), ("bodkin/scalar.floatUnaries", Rows.laid_bodkin_scalar_floatUnaries)]
theorem door_met (os : Os) (args : Array Value) : laidMetH Tryz.prog LAID ((World.doorLaid Tryz.prog 50 os).forCall (fun _ _ => 0) ⟨#[],args,[]⟩).memory :=
 laidMetH_of_parts3 (fuel := 8) (laidMet_of_run' 8 (by kernel_rfl) (by kernel_rfl)) (by kernel_rfl) (by kernel_rfl)
theorem g0 : Tryz.prog.globalNamed "bodkin/ops.plainAligns" = some 3 := by kernel_rfl
theorem g1 : Tryz.prog.globalNamed "bodkin/ops.vectorAligns" = some 4 := by kernel_rfl
theorem g2 : Tryz.prog.globalNamed "bodkin/ops.laneAligns" = some 5 := by kernel_rfl
theorem g3 : Tryz.prog.globalNamed "bodkin/ops.laneCounts" = some 2 := by kernel_rfl
theorem g6 : Tryz.prog.globalNamed "bodkin/scalar.floatUnaries" = some 1 := by kernel_rfl
theorem g5 : Tryz.prog.globalNamed "bodkin/ops.lists" = some 0 := by kernel_rfl
theorem y0 : (Tryz.prog.globals[3]?).map (·.type) = some 142 := by kernel_rfl
theorem y1 : (Tryz.prog.globals[4]?).map (·.type) = some 143 := by kernel_rfl
theorem y2 : (Tryz.prog.globals[5]?).map (·.type) = some 144 := by kernel_rfl
theorem y3 : (Tryz.prog.globals[2]?).map (·.type) = some 105 := by kernel_rfl
theorem y6 : (Tryz.prog.globals[1]?).map (·.type) = some 99 := by kernel_rfl
theorem y5 : (Tryz.prog.globals[0]?).map (·.type) = some 96 := by kernel_rfl
theorem k3 : Tryz.prog.cellsOf 3 = 1 := by kernel_rfl
theorem k57 : Tryz.prog.cellsOf 95 = 3 := by kernel_rfl
section
variable {enc : TypeId × Value → Unit} {W : World} {base : Nat} {sp : Nat → Bool} {held : Bool}
theorem three_cells {fuel : Nat} {cs : List Value} {zs : List Int} {p : List MemPlace} (h : DataW.trod enc Tryz.prog W base sp held fuel 95 cs = some (Lib.tabData .i64 zs,p)) : cs = zs.map fun z => Value.int .i64 z :=
 Lib.cells_of_tab Tryz.underlying95 Tryz.underlying3 k3 k57 h
theorem arr_cells {T e : TypeId} {n c : Nat} (hT : Tryz.prog.underlying T = some (.array n e)) (hc : Tryz.prog.cellsOf e = c) (hTc : Tryz.prog.cellsOf T = n * c) {fuel : Nat} {cs : List Value} {rows : List (DataW Unit × List Value)} {p : List MemPlace}
  (hel : ∀ i,i < n → ∀ m cs' q d vs,rows[i]? = some (d,vs) → cs'.length = c → DataW.trod enc Tryz.prog W base sp held m e cs' = some (d,q) → cs' = vs)
  (h : DataW.trod enc Tryz.prog W base sp held fuel T cs = some (.agg (rows.map (·.1)),p)) : ∀ i,i < n → ∃ d vs,rows[i]? = some (d,vs) ∧ (cs.drop (i * c)).take c = vs := by
 intro i hi
 obtain ⟨xs,m,_,hx,hl,hxl,hat⟩ := DataW.trod_array hT h
 have h1 := hat i hi
 rw [hc] at h1
 rw [hTc] at hl
 simp only [Prod.mk.injEq,DataW.agg.injEq] at hx
 obtain ⟨y,hy⟩ : ∃ y,xs[i]? = some y := ⟨_,List.getElem?_eq_getElem (by omega)⟩
 have hr : (rows.map (·.1))[i]? = some y.1 := by rw [hx.1]; simp [hy]
 rw [List.getElem?_map] at hr
 obtain ⟨⟨d,vs⟩,hd,hdy⟩ := Option.map_eq_some_iff.1 hr
 refine ⟨d,vs,hd,hel i hi m _ y.2 d vs hd ?_ ?_⟩
 ·rw [List.length_take,List.length_drop,hl]
  have : i * c + c ≤ n * c := by rw [← Nat.succ_mul]; exact Nat.mul_le_mul_right c hi
  omega
 ·rw [h1,hy]
  have e : d = y.1 := hdy
  rw [e]
end
def listRows : List (DataW Unit × List Value) := (List.range 23).map fun k => (Lib.tabData .i64 ((glob5.drop (3 * k)).take 3),((glob5.drop (3 * k)).take 3).map fun z => Value.int .i64 z)
theorem list_rows : (Rows.laid_bodkin_ops_lists : DataW Unit) = .agg (listRows.map (·.1)) := by kernel_rfl
theorem lists_flat (j : Nat) (h : j < 69) : (((glob5.drop (3 * (j / 3))).take 3).map fun z => Value.int .i64 z)[j % 3]? = some (.int .i64 (glob5.getD j 0)) := by
 have e : 3 * (j / 3) + j % 3 = j := by omega
 have hl : glob5.length = 69 := by decide
 rw [List.getElem?_map,List.getElem?_take_of_lt (by omega),List.getElem?_drop,e,List.getElem?_eq_getElem (by omega)]
 simp [List.getD_eq_getElem?_getD,List.getElem?_eq_getElem (show j < glob5.length by omega)]
theorem laid_flat {W : World} {name : String} {zs : List Int} {g n : Nat} {t : TypeId} {d : DataW Unit} (hg : Tryz.prog.globalNamed name = some g) (hty : (Tryz.prog.globals[g]?).map (·.type) = some t) (ht : Tryz.prog.underlying t = some (.array n 3)) (hct : Tryz.prog.cellsOf t = n)
  (hd : d = Lib.tabData .i64 zs) {rest : List (String × DataW Unit)} (h : laidMet Tryz.prog ((name,d) :: rest) W) (j : Nat) (hj : j < zs.length) : W.cell? ⟨g,j,none⟩ = some (.int .i64 (zs.getD j 0)) := by
 subst hd
 exact (Lib.tabIs_of_head hg hty ht Tryz.underlying3 k3 hct h).cell hg j hj
theorem of_laid {W : World} (h : laidMetH Tryz.prog LAID W) : GlobF W := by
 rw [MakeChecks.laidMetH_plain _ _ _ (by kernel_rfl)] at h
 have H0 := h
 have H1 := H0.tail
 have H2 := H1.tail
 have H3 := H2.tail
 have H5 := H3.tail
 have H6 := H5.tail
 clear h
 have C5 : ∀ j,j < 69 → W.cell? ⟨0,j,none⟩ = some (.int .i64 (glob5.getD j 0)) := by
  obtain ⟨ps,⟨g,t,cs,fuel,p,q,hg,ht,hv,hd,_,_⟩,_⟩ := H5
  obtain rfl := Option.some.inj (g5.symm.trans hg)
  obtain rfl := Option.some.inj (y5.symm.trans ht)
  rw [list_rows] at hd
  have := arr_cells Tryz.underlying96 k57 (by kernel_rfl) (rows := listRows) (fun i hi m cs' q d vs hr _ htr => by
   rw [listRows,List.getElem?_map,List.getElem?_range hi] at hr
   simp only [Option.map_some,Option.some.injEq,Prod.mk.injEq] at hr
   obtain ⟨rfl,rfl⟩ := hr
   exact three_cells htr) hd
  intro j hj
  obtain ⟨d,vs,hr,he⟩ := this (j / 3) (by omega)
  rw [listRows,List.getElem?_map,List.getElem?_range (by omega)] at hr
  simp only [Option.map_some,Option.some.injEq,Prod.mk.injEq] at hr
  have h3 := lists_flat j hj
  rw [hr.2,← he,List.getElem?_take_of_lt (by omega),List.getElem?_drop,show j / 3 * 3 + j % 3 = j by omega] at h3
  have := World.var?_cell hg hv j
  rw [this]
  simpa using h3
 refine ⟨⟨?_,fun j hj => laid_flat (zs := glob0) g0 y0 Tryz.underlying142 (by kernel_rfl) (by kernel_rfl) H0 j hj,fun j hj => laid_flat (zs := glob1) g1 y1 Tryz.underlying143 (by kernel_rfl) (by kernel_rfl) H1 j hj,
  fun j hj => laid_flat (zs := glob2) g2 y2 Tryz.underlying144 (by kernel_rfl) (by kernel_rfl) H2 j hj,fun j hj => laid_flat (zs := glob3) g3 y3 Tryz.underlying105 (by kernel_rfl) (by kernel_rfl) H3 j hj,C5⟩,fun j hj => laid_flat (zs := glob6) g6 y6 Tryz.underlying99 (by kernel_rfl) (by kernel_rfl) H6 j hj⟩
 rcases Nat.lt_or_ge 5 W.heap.size with h | h
 ·exact h
 ·have := laid_flat (zs := glob2) g2 y2 Tryz.underlying144 (by kernel_rfl) (by kernel_rfl) H2 0 (by decide)
  rw [World.cell?,Array.getElem?_eq_none h] at this
  cases this
end Go.Proofs.YtbbmbhcbncenaaaGreatDoor.Sc
