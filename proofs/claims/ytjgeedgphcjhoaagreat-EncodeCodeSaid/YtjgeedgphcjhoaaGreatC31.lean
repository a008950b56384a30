/-
  RInn, All, MayG1: merged, what the law does not reach left out (each text says what it holds where it lies in wip). No condition.
-/
import Derived.Test.YtjgeedgphcjhoaaGreatC30
import Derived.Test.YtjgeedgphcjhoaaGreatC09
set_option linter.unusedSimpArgs false
set_option linter.unusedVariables false
set_option maxRecDepth 100000
namespace Go.Proofs.YtjgeedgphcjhoaaGreat
open Go.RowKit
theorem opL_small0 (op : Int) (h : op < 64512) : opL op = [byI op] := by unfold opL; rw [if_neg (by omega),if_neg (by omega)]
theorem behR_says (k : Int) (op a b : Int) (n h : Nat) (l : List Int) (pl pb pe : Option Addr) (cl nb cb ne ce : Nat) (ot : Bool) (B : Nat) (w : World) (hB : B ≤ w.heap.size) (hl : LI B w (.slice pl l.length cl) l) (hnl : l.length + 200 ≤ 1000000000000) (hk : 0 ≤ k ∧ k ≤ 26)
  (hnn : n < 18446744073709551616) (hh : h < 18446744073709551616) (hb : i64C b) (ha : k = 1 → a = 0 ∨ a = 1 ∨ a = 2) (eb ee : List UInt8) (hn : eb.length + ee.length + 100 ≤ 140737488355000)
  (h1 : ∀ W,Below w.heap.size w W → Calls Tryz.prog 139 #[.slice pb nb cb] W (BO W eb)) (h2 : ∀ W,Below w.heap.size w W → Calls Tryz.prog 139 #[.slice pe ne ce] W (BO W ee)) :
  Calls Tryz.prog 232 #[.agg #[.int .i64 op,.int .i64 a,.int .i64 b,.int .u64 (n : Nat),.int .u64 (h : Nat),.slice pl l.length cl,.slice pb nb cb,.slice pe ne ce,.bool ot],.int .i64 k] w (BO w (behL k a b n h l ot eb ee)) := by
 rcases (show k = 0 ∨ k = 1 ∨ k = 2 ∨ k = 3 ∨ k = 4 ∨ k = 5 ∨ k = 6 ∨ k = 7 ∨ k = 8 ∨ k = 9 ∨ k = 10 ∨ k = 11 ∨ k = 12 ∨ k = 13 ∨ k = 14 ∨ k = 15 ∨ k = 16 ∨ k = 17 ∨ k = 18 ∨ k = 19 ∨ k = 20 ∨ k = 21 ∨ k = 22 ∨ k = 23 ∨ k = 24 ∨ k = 25 ∨ k = 26 by omega) with rfl | rfl | rfl | rfl | rfl | rfl | rfl | rfl | rfl | rfl | rfl | rfl | rfl | rfl | rfl | rfl | rfl | rfl | rfl | rfl | rfl | rfl | rfl | rfl | rfl | rfl | rfl
 ·have := beh_0 op a b n h l pl pb pe cl nb cb ne ce ot B w hB hl hnl hnn hh
  simpa [behL] using this
 ·exact beh_1 op a b n h pl pb pe l.length cl nb cb ne ce ot w (ha rfl) hb eb ee hn h1 h2
 ·have := beh_2 2 (by decide) op a b n h l pl pb pe cl nb cb ne ce ot B w hB hl hnl hnn hh
  simpa [behL] using this
 ·have := beh_3 op a b n h l pl pb pe cl nb cb ne ce ot B w hB hl hnl hnn hh
  simpa [behL] using this
 ·have := beh_2 4 (by decide) op a b n h l pl pb pe cl nb cb ne ce ot B w hB hl hnl hnn hh
  simpa [behL] using this
 ·have := beh_5 5 (by decide) op a b n h l pl pb pe cl nb cb ne ce ot B w hB hl hnl hnn hh
  simpa [behL] using this
 ·have := beh_6 op a b n h l pl pb pe cl nb cb ne ce ot B w hB hl hnl hnn hh
  simpa [behL] using this
 ·have := beh_2 7 (by decide) op a b n h l pl pb pe cl nb cb ne ce ot B w hB hl hnl hnn hh
  simpa [behL] using this
 ·have := beh_2 8 (by decide) op a b n h l pl pb pe cl nb cb ne ce ot B w hB hl hnl hnn hh
  simpa [behL] using this
 ·have := beh_2 9 (by decide) op a b n h l pl pb pe cl nb cb ne ce ot B w hB hl hnl hnn hh
  simpa [behL] using this
 ·have := beh_5 10 (by decide) op a b n h l pl pb pe cl nb cb ne ce ot B w hB hl hnl hnn hh
  simpa [behL] using this
 ·have := beh_11 op a b n h l pl pb pe cl nb cb ne ce ot B w hB hl hnl hnn hh
  simpa [behL] using this
 ·have := beh_12 op a b n h l pl pb pe cl nb cb ne ce ot B w hB hl hnl hnn hh
  simpa [behL] using this
 ·have := beh_13 op a b n h l pl pb pe cl nb cb ne ce ot B w hB hl hnl hnn hh
  simpa [behL] using this
 ·have := beh_14 op a b n h l pl pb pe cl nb cb ne ce ot B w hB hl hnl hnn hh
  simpa [behL] using this
 ·have := beh_15 op a b n h l pl pb pe cl nb cb ne ce ot B w hB hl hnl hnn hh
  simpa [behL] using this
 ·have := beh_16 16 (by decide) op a b n h l pl pb pe cl nb cb ne ce ot B w hB hl hnl hnn hh
  simpa [behL] using this
 ·have := beh_17 op a b n h l pl pb pe cl nb cb ne ce ot B w hB hl hnl hnn hh
  simpa [behL] using this
 ·have := beh_2 18 (by decide) op a b n h l pl pb pe cl nb cb ne ce ot B w hB hl hnl hnn hh
  simpa [behL] using this
 ·have := beh_19 op a b n h l pl pb pe cl nb cb ne ce ot B w hB hl hnl hnn hh
  simpa [behL] using this
 ·have := beh_5 20 (by decide) op a b n h l pl pb pe cl nb cb ne ce ot B w hB hl hnl hnn hh
  simpa [behL] using this
 ·have := beh_2 21 (by decide) op a b n h l pl pb pe cl nb cb ne ce ot B w hB hl hnl hnn hh
  simpa [behL] using this
 ·have := beh_5 22 (by decide) op a b n h l pl pb pe cl nb cb ne ce ot B w hB hl hnl hnn hh
  simpa [behL] using this
 ·have := beh_23 op a b n h l pl pb pe cl nb cb ne ce ot B w hB hl hnl hnn hh
  simpa [behL] using this
 ·have := beh_24 op a b n h l pl pb pe cl nb cb ne ce ot B w hB hl hnl hnn hh
  simpa [behL] using this
 ·have := beh_16 25 (by decide) op a b n h l pl pb pe cl nb cb ne ce ot B w hB hl hnl hnn hh
  simpa [behL] using this
 ·have := beh_26 op a b n h l pl pb pe cl nb cb ne ce ot B w hB hl hnl hnn hh
  simpa [behL] using this
theorem oneR_says (op a b : Int) (n h : Nat) (l : List Int) (pl pb pe : Option Addr) (nl cl nb cb ne ce : Nat) (hnl0 : nl = l.length) (ot : Bool) (B : Nat) (w : World) (hB : B ≤ w.heap.size) (hl : LI B w (.slice pl nl cl) l) (hnl : l.length + 200 ≤ 1000000000000)
  (ho : 0 ≤ op ∧ op < 65024 ∧ n < 18446744073709551616 ∧ h < 18446744073709551616 ∧ i64C b ∧ ((lineL op).2.1 = 1 → a = 0 ∨ a = 1 ∨ a = 2)) (eb ee : List UInt8) (hn : eb.length + ee.length + 20 * l.length + 400 ≤ 140737488355000)
  (h1 : ∀ W,Below w.heap.size w W → Calls Tryz.prog 139 #[.slice pb nb cb] W (BO W eb)) (h2 : ∀ W,Below w.heap.size w W → Calls Tryz.prog 139 #[.slice pe ne ce] W (BO W ee)) :
  Calls Tryz.prog 210 #[.agg #[.int .i64 op,.int .i64 a,.int .i64 b,.int .u64 (n : Nat),.int .u64 (h : Nat),.slice pl nl cl,.slice pb nb cb,.slice pe ne ce,.bool ot]] w (BO w (opL op ++ behL (lineL op).2.1 a b n h l ot eb ee)) := by
 subst hnl0
 obtain ⟨o0,o1,o2,o3,o4,o5⟩ := ho
 obtain ⟨k0,k1,_⟩ := line_ok op
 have hlen := behL_len (lineL op).2.1 a b n h l ot eb ee o4
 have hof := Of_kind op
 generalize (lineL op).2.1 = k at *
 have hbe := fun W (hW : Below w.heap.size w W) => behR_says k op a b n h l pl pb pe cl nb cb ne ce ot B W (Nat.le_trans hB hW.size) (hl.below (hW.mono hB)) hnl ⟨k0,k1⟩ o2 o3 o4 o5 eb ee (by omega) (fun W' hW' => h1 W' (hW.trans (hW'.mono hW.size))) (fun W' hW' => h2 W' (hW.trans (hW'.mono hW.size)))
 by_cases c0 : op < 64512
 ·have := rone_0 op a b n h pl pb pe l.length cl nb cb ne ce ot w k (behL k a b n h l ot eb ee) c0 (by omega) hof hbe
  rw [opL_small0 op c0]
  exact this
 ·by_cases c1 : op < 64768
  ·have := rone_1 op a b n h pl pb pe l.length cl nb cb ne ce ot w k (behL k a b n h l ot eb ee) (by omega) (by omega) hof hbe
   have e : opL op = 252 :: uI (op - 64512) := by unfold opL; rw [if_neg (by omega),if_pos (by omega)]
   rw [e]
   exact this
  ·have := rone_2 op a b n h pl pb pe l.length cl nb cb ne ce ot w k (behL k a b n h l ot eb ee) (by omega) (by omega) hof hbe
   have e : opL op = 253 :: uI (op - 64768) := by unfold opL; rw [if_pos (by omega)]
   rw [e]
   exact this
set_option maxHeartbeats 4000000 in
theorem inner_says (B : Nat) : ∀ (N : Nat) (f : Fo),f.cnt < N → f.cnt < 9223372036854775806 → okE f → f.siz + 200 ≤ 1000000000000 → ∀ (v : Value) (w : World),B ≤ w.heap.size → SA B w v f → Calls Tryz.prog 139 #[v] w (BO w f.enc) := by
 intro N
 induction N with
 | zero => intro f h; omega
 | succ N ih =>
  intro f hf hf2 hok hsz v w hB hs
  obtain ⟨p,cp,g0,o0,rfl,hp,hfa⟩ := hs
  have HIH := hid ih
  have HP := hid hp
  have HBW := hid hB
  obtain ⟨m,hm⟩ : ∃ m,m = f.len := ⟨_,rfl⟩
  rw [← hm] at HP ⊢
  have hml : m ≤ f.cnt := by
   have : ∀ f : Fo,f.len ≤ f.cnt := by
    intro f
    induction f with
    | nil => exact Nat.le_refl _
    | cons _ _ _ _ _ _ _ _ _ _ _ _ ihr => simp only [Fo.len,Fo.cnt]; omega
   rw [hm]; exact this f
  obtain ⟨E,hE⟩ : ∃ E,E = f.enc := ⟨_,rfl⟩
  rw [← hE]
  have HS : Hid (0 + f.len = m ∧ (f.cnt < N + 1 ∧ f.cnt < 9223372036854775806) ∧ FA B w f g0 (o0 + 0 * 9) ∧ okE f ∧ E = [] ++ f.enc ∧ ([] : List UInt8).length + f.siz + 200 ≤ 1000000000000) := ⟨by rw [hm]; omega,⟨hf,hf2⟩,by simpa using hfa,hok,hE,by simpa using hsz⟩
  have hm62 : (m : Int) < 9223372036854775807 := by omega
  clear ih hp hm hml hfa hf hf2 hE hok hsz hB
  go_enter Tryz.func139,Tryz.ntmps139
  go_wp2
  go_loopw [3,4] (fun vo vi wr => ∃ (i : Nat) (fi : Fo) (bi : List UInt8) (p : Option Addr) (q c : Nat),i ≤ m ∧ vi = .int .i64 i ∧ vo = .slice p q c ∧ Hid (wr.ownsRow w.heap.size 5 1 (.slice p q c) bi.length (Lib.byteCells bi)) ∧ Hid (RF w.heap.size w wr) ∧ Hid (i + fi.len = m ∧ (fi.cnt < N + 1 ∧ fi.cnt < 9223372036854775806) ∧ FA B wr fi g0 (o0 + i * 9) ∧ okE fi ∧ E = bi ++ fi.enc ∧ bi.length + fi.siz + 200 ≤ 1000000000000)) (fun _ vi _ => m - (intOf vi).toNat)
  case atStart => exact ⟨0,f,[],none,0,0,Nat.zero_le _,rfl,rfl,own_nil _ _,RF.refl _ _,HS⟩
  case round =>
   obtain ⟨i,fi,bi,p1,q1,c1,him,rfl,rfl,HR,HF,HI⟩ := hrel
   cases fi with
   | nil =>
    have hi : i = m := HI.out.1
    subst hi
    have HE := hid (show E = bi by simpa [Fo.enc] using HI.out.2.2.2.2.1)
    go_wp2
    go_ret
    refine ⟨.slice p1 q1 c1,rfl,?_,HF.out.below (Nat.le_refl _)⟩
    rw [HE.out]
    exact HR.out
   | cons op a b n h l ot body els rest =>
    obtain ⟨hg,⟨vl,vb,ve,x0,x1,x2,x3,x4,x5,x6,x7,x8,hl,hbo,hel⟩,hrest⟩ := HI.out.2.2.1
    obtain ⟨pl,cl,evl,_⟩ := id hl
    obtain ⟨pb,cb,gb',ob',evb,_⟩ := id hbo
    obtain ⟨pe,ce,ge',oe',eve,_⟩ := id hel
    obtain ⟨nl,hnl⟩ : ∃ x,x = l.length := ⟨_,rfl⟩
    obtain ⟨nb,hnb⟩ : ∃ x,x = body.len := ⟨_,rfl⟩
    obtain ⟨ne,hne⟩ : ∃ x,x = els.len := ⟨_,rfl⟩
    rw [← hnl] at evl
    rw [← hnb] at evb
    rw [← hne] at eve
    subst evl evb eve
    clear hnb hne
    have hlt : i < m := by have := HI.out.1; simp only [Fo.len] at this; omega
    obtain rfl := HP.out (by omega)
    have hcn := HI.out.2.1
    simp only [Fo.cnt] at hcn
    have hBr : B ≤ wr.heap.size := Nat.le_trans HBW.out HF.out.size
    have hok := HI.out.2.2.2.1
    have hsz := HI.out.2.2.2.2.2
    simp only [Fo.siz] at hsz
    have hbe := enc_siz body hok.2.1
    have hee := enc_siz els hok.2.2.1
    have hb5 := behL_len (lineL op).2.1 a b n h l ot body.enc els.enc hok.1.2.2.2.2.1
    have hb6 := opL_len op
    have HLE := hid (show i + 1 + rest.len = m ∧ (rest.cnt < N + 1 ∧ rest.cnt < 9223372036854775806) by have h1 := HI.out.1; simp only [Fo.len] at h1; omega)
    have HEQ : Hid (E = bi ++ (opL op ++ behL (lineL op).2.1 a b n h l ot body.enc els.enc) ++ rest.enc) := by
     have := HI.out.2.2.2.2.1
     simp only [Fo.enc] at this
     simpa [Hid,List.append_assoc] using this
    have HOKR := hid hok.2.2.2
    have HSZ := hid (show (bi ++ (opL op ++ behL (lineL op).2.1 a b n h l ot body.enc els.enc)).length + rest.siz + 200 ≤ 1000000000000 by simp only [List.length_append]; omega)
    have HAP := hid (show bi.length + (opL op ++ behL (lineL op).2.1 a b n h l ot body.enc els.enc).length ≤ 140737488355000 by simp only [List.length_append]; omega)
    have HC := hid (oneR_says op a b n h l pl pb pe nl cl nb cb ne ce hnl ot B wr hBr hl (by omega) hok.1 body.enc els.enc (by omega) (fun W hW => HIH.out body (by omega) (by omega) hok.2.1 (by omega) _ W (Nat.le_trans hBr hW.size) (SA.below hbo (hW.mono hBr))) (fun W hW => HIH.out els (by omega) (by omega) hok.2.2.1 (by omega) _ W (Nat.le_trans hBr hW.size) (SA.below hel (hW.mono hBr))))
    obtain ⟨X,hX⟩ : ∃ X,X = opL op ++ behL (lineL op).2.1 a b n h l ot body.enc els.enc := ⟨_,rfl⟩
    rw [← hX] at HC HSZ HEQ HAP
    have HREST := hid hrest
    clear hl hbo hel hrest HI hg hcn HS hok hsz hbe hee hb5 hb6 hX hBr hnl
    go_wp2_with (first
     | (go_at_call 210; (with_reducible refine HC.out.mono ?_); rintro e w1 ⟨v,rfl,ho,hb⟩; obtain ⟨p2,m2,c2,rfl⟩ := own_slice ho; have HO1 := hid ho; have HR1 := hid (own_kept HR.out hb); have HB1 := hid (HF.out.trans (RF.of hb)); have HQ1 := hid (RF.of (B := w.heap.size) hb); clear ho hb)
     | (at_builtin; refine append_rowW rfl _ _ rfl w.heap.size _ _ _ _ _ w1 HR1.out HO1.out HAP.out HB1.out.size (RF.refl _ _) rfl rfl ?_; intro p3 m3 c3 w3 ho3 hf3; have HO3 := hid ho3; have HF3 := hid (HB1.out.trans hf3); have HQ3 := hid (HQ1.out.trans hf3); clear ho3 hf3))
    go_roundw
    case rel =>
     refine ⟨i + 1,rest,bi ++ X,p3,m3,c3,hlt,by go_num,rfl,HO3,HF3,HLE.out.1,HLE.out.2,?_,HOKR.out,HEQ.out,HSZ.out⟩
     have h9 : o0 + (i + 1) * 9 = o0 + i * 9 + 9 := by omega
     rw [h9]
     exact FA.below ((HQ3.out.below HF.out.size).mono HBW.out) _ _ _ HREST.out
    case measure => simp [intOf]; omega
theorem ExprR_says (B : Nat) (f : Fo) (hn : f.cnt < 9223372036854775806) (hok : okE f) (hsz : f.siz + 200 ≤ 1000000000000) (v : Value) (w : World) (hB : B ≤ w.heap.size) (hs : SA B w v f) : Calls Tryz.prog 27 #[v] w (BO w (f.enc ++ [11])) := by
 have HI := hid (inner_says B (f.cnt + 1) f (by omega) hn hok hsz v w hB hs)
 have hl := enc_siz f hok
 have HN := hid (show f.enc.length + ([11] : List UInt8).length ≤ 140737488355000 by simp only [List.length_cons,List.length_nil]; omega)
 obtain ⟨p,c,g',o',rfl,_,_⟩ := hs
 generalize f.len = m at *
 clear hl hn hok hsz hB
 go_enter Tryz.func27,Tryz.ntmps27
 go_wp2_with (first
  | (go_at_call 139; (with_reducible refine HI.out.mono ?_); rintro e w1 ⟨v,rfl,ho,hb⟩; obtain ⟨p1,m1,c1,rfl⟩ := own_slice ho; have HO1 := hid ho; have HB1 := hid hb; clear ho hb)
  | (at_builtin; refine append_rowW rfl _ _ rfl w.heap.size _ _ _ _ _ w (own_kept HO1.out ((Below.refl _ _).alloc (Nat.le_refl _) _)) (own_litc w1 11 11 rfl) HN.out (Nat.le_refl _) ((RF.of HB1.out).alloc _) rfl rfl ?_; intro p3 m3 c3 w3 ho3 hf3; have HO3 := hid ho3; have HF3 := hid hf3; clear ho3 hf3))
 go_ret
 exact ⟨_,rfl,HO3.out,HF3.out.below (Nat.le_refl _)⟩
end Go.Proofs.YtjgeedgphcjhoaaGreat
namespace Go.Proofs.YtjgeedgphcjhoaaGreat
open Go.RowKit
theorem all_nil_22 (k : Nat) (p : Option Addr) (c : Nat) (w : World) : Calls Tryz.prog 30 #[.slice p 0 c,.func (.func k) #[] #[]] w fun e w' => e = .returned (.bool true) ∧ w = w' := by
 go_enter Tryz.func30,Tryz.ntmps30
 go_wp2
 go_loop [9] (fun vi => vi = .int .i64 0) (fun _ => 0)
 case atStart => rfl
 case round =>
  subst hrel
  go_wp2
  go_ret
  exact ⟨rfl,rfl⟩
theorem all_nil_24 (k : Nat) (p : Option Addr) (c : Nat) (w : World) : Calls Tryz.prog 32 #[.slice p 0 c,.func (.func k) #[] #[]] w fun e w' => e = .returned (.bool true) ∧ w = w' := by
 go_enter Tryz.func32,Tryz.ntmps32
 go_wp2
 go_loop [9] (fun vi => vi = .int .i64 0) (fun _ => 0)
 case atStart => rfl
 case round =>
  subst hrel
  go_wp2
  go_ret
  exact ⟨rfl,rfl⟩
theorem all_nil_26 (k : Nat) (p : Option Addr) (c : Nat) (w : World) : Calls Tryz.prog 34 #[.slice p 0 c,.func (.func k) #[] #[]] w fun e w' => e = .returned (.bool true) ∧ w = w' := by
 go_enter Tryz.func34,Tryz.ntmps34
 go_wp2
 go_loop [9] (fun vi => vi = .int .i64 0) (fun _ => 0)
 case atStart => rfl
 case round =>
  subst hrel
  go_wp2
  go_ret
  exact ⟨rfl,rfl⟩
theorem all_nil_28 (k : Nat) (p : Option Addr) (c : Nat) (w : World) : Calls Tryz.prog 36 #[.slice p 0 c,.func (.func k) #[] #[]] w fun e w' => e = .returned (.bool true) ∧ w = w' := by
 go_enter Tryz.func36,Tryz.ntmps36
 go_wp2
 go_loop [9] (fun vi => vi = .int .i64 0) (fun _ => 0)
 case atStart => rfl
 case round =>
  subst hrel
  go_wp2
  go_ret
  exact ⟨rfl,rfl⟩
theorem all_nil_30 (k : Nat) (p : Option Addr) (c : Nat) (w : World) : Calls Tryz.prog 38 #[.slice p 0 c,.func (.func k) #[] #[]] w fun e w' => e = .returned (.bool true) ∧ w = w' := by
 go_enter Tryz.func38,Tryz.ntmps38
 go_wp2
 go_loop [9] (fun vi => vi = .int .i64 0) (fun _ => 0)
 case atStart => rfl
 case round =>
  subst hrel
  go_wp2
  go_ret
  exact ⟨rfl,rfl⟩
theorem all_nil_32 (k : Nat) (p : Option Addr) (c : Nat) (w : World) : Calls Tryz.prog 40 #[.slice p 0 c,.func (.func k) #[] #[]] w fun e w' => e = .returned (.bool true) ∧ w = w' := by
 go_enter Tryz.func40,Tryz.ntmps40
 go_wp2
 go_loop [9] (fun vi => vi = .int .i64 0) (fun _ => 0)
 case atStart => rfl
 case round =>
  subst hrel
  go_wp2
  go_ret
  exact ⟨rfl,rfl⟩
theorem all_nil_34 (k : Nat) (p : Option Addr) (c : Nat) (w : World) : Calls Tryz.prog 42 #[.slice p 0 c,.func (.func k) #[] #[]] w fun e w' => e = .returned (.bool true) ∧ w = w' := by
 go_enter Tryz.func42,Tryz.ntmps42
 go_wp2
 go_loop [9] (fun vi => vi = .int .i64 0) (fun _ => 0)
 case atStart => rfl
 case round =>
  subst hrel
  go_wp2
  go_ret
  exact ⟨rfl,rfl⟩
theorem all_nil_37 (k : Nat) (p : Option Addr) (c : Nat) (w : World) : Calls Tryz.prog 45 #[.slice p 0 c,.func (.func k) #[] #[]] w fun e w' => e = .returned (.bool true) ∧ w = w' := by
 go_enter Tryz.func45,Tryz.ntmps45
 go_wp2
 go_loop [9] (fun vi => vi = .int .i64 0) (fun _ => 0)
 case atStart => rfl
 case round =>
  subst hrel
  go_wp2
  go_ret
  exact ⟨rfl,rfl⟩
theorem all_nil_39 (k : Nat) (p : Option Addr) (c : Nat) (w : World) : Calls Tryz.prog 47 #[.slice p 0 c,.func (.func k) #[] #[]] w fun e w' => e = .returned (.bool true) ∧ w = w' := by
 go_enter Tryz.func47,Tryz.ntmps47
 go_wp2
 go_loop [9] (fun vi => vi = .int .i64 0) (fun _ => 0)
 case atStart => rfl
 case round =>
  subst hrel
  go_wp2
  go_ret
  exact ⟨rfl,rfl⟩
end Go.Proofs.YtjgeedgphcjhoaaGreat
namespace Go.Proofs.YtjgeedgphcjhoaaGreat
open Go.RowKit
set_option maxHeartbeats 16000000 in
theorem MayG_0 (tp imp fp tbp mp gp xp ep dp : Option Addr) (tn tc imn imc fn fc tbn tbc mn mc gn gc xn xc en ec dn dc : Nat) (tb imb fb tbb mb gb xb sb eb db qb cnt : Bool) (st : Int) (w : World)
  (ht : ∀ W,Below w.heap.size w W → Calls Tryz.prog 30 #[.slice tp tn tc,.func (.func 31) #[] #[]] W fun e w' => e = .returned (.bool false) ∧ Below W.heap.size W w')
  (him : ∀ W,Below w.heap.size w W → Calls Tryz.prog 32 #[.slice imp imn imc,.func (.func 33) #[] #[]] W fun e w' => e = .returned (.bool imb) ∧ Below W.heap.size W w')
  (hf : ∀ W,Below w.heap.size w W → Calls Tryz.prog 34 #[.slice fp fn fc,.func (.func 35) #[] #[]] W fun e w' => e = .returned (.bool fb) ∧ Below W.heap.size W w')
  (htb : ∀ W,Below w.heap.size w W → Calls Tryz.prog 36 #[.slice tbp tbn tbc,.func (.func 37) #[] #[]] W fun e w' => e = .returned (.bool tbb) ∧ Below W.heap.size W w')
  (hm : ∀ W,Below w.heap.size w W → Calls Tryz.prog 38 #[.slice mp mn mc,.func (.func 39) #[] #[]] W fun e w' => e = .returned (.bool mb) ∧ Below W.heap.size W w')
  (hg : ∀ W,Below w.heap.size w W → Calls Tryz.prog 40 #[.slice gp gn gc,.func (.func 41) #[] #[]] W fun e w' => e = .returned (.bool gb) ∧ Below W.heap.size W w')
  (hx : ∀ W,Below w.heap.size w W → Calls Tryz.prog 42 #[.slice xp xn xc,.func (.func 43) #[] #[]] W fun e w' => e = .returned (.bool xb) ∧ Below W.heap.size W w')
  (hs : ∀ W,Calls Tryz.prog 44 #[.int .i64 st] W fun e w' => e = .returned (.bool sb) ∧ W = w')
  (he : ∀ W,Below w.heap.size w W → Calls Tryz.prog 45 #[.slice ep en ec,.func (.func 46) #[] #[]] W fun e w' => e = .returned (.bool eb) ∧ Below W.heap.size W w')
  (hd : ∀ W,Below w.heap.size w W → Calls Tryz.prog 47 #[.slice dp dn dc,.func (.func 48) #[] #[]] W fun e w' => e = .returned (.bool db) ∧ Below W.heap.size W w')
  (hq : ∀ W,Below w.heap.size w W → Calls Tryz.prog 34 #[.slice fp fn fc,.func (.func 49) #[] #[]] W fun e w' => e = .returned (.bool qb) ∧ Below W.heap.size W w') :
  Calls Tryz.prog 15 #[.agg #[.slice tp tn tc,.slice imp imn imc,.slice fp fn fc,.slice tbp tbn tbc,.slice mp mn mc,.slice gp gn gc,.slice xp xn xc,.int .i64 st,.slice ep en ec,.slice dp dn dc,.bool cnt]] w fun e w' => e = .returned (.bool false) ∧ Below w.heap.size w w' := by
 have Ht := fun W h => hid (ht W h)
 have Him := fun W h => hid (him W h)
 have Hf := fun W h => hid (hf W h)
 have Htb := fun W h => hid (htb W h)
 have Hm := fun W h => hid (hm W h)
 have Hg := fun W h => hid (hg W h)
 have Hx := fun W h => hid (hx W h)
 have HS := fun W => hid (hs W)
 have He := fun W h => hid (he W h)
 have Hd := fun W h => hid (hd W h)
 have HQ := fun W h => hid (hq W h)
 have HBX := hid ((Below.refl w.heap.size w).alloc (Nat.le_refl _) (.cells #[.slice tp tn tc,.slice imp imn imc,.slice fp fn fc,.slice tbp tbn tbc,.slice mp mn mc,.slice gp gn gc,.slice xp xn xc,.int .i64 st,.slice ep en ec,.slice dp dn dc,.bool cnt] 32))
 have HX := hid (CA.new w #[.slice tp tn tc,.slice imp imn imc,.slice fp fn fc,.slice tbp tbn tbc,.slice mp mn mc,.slice gp gn gc,.slice xp xn xc,.int .i64 st,.slice ep en ec,.slice dp dn dc,.bool cnt] 32)
 have x0 := HX.out.at (k := 0) (v := .slice tp tn tc) rfl
 have x1 := HX.out.at (k := 1) (v := .slice imp imn imc) rfl
 have x2 := HX.out.at (k := 2) (v := .slice fp fn fc) rfl
 have x3 := HX.out.at (k := 3) (v := .slice tbp tbn tbc) rfl
 have x4 := HX.out.at (k := 4) (v := .slice mp mn mc) rfl
 have x5 := HX.out.at (k := 5) (v := .slice gp gn gc) rfl
 have x6 := HX.out.at (k := 6) (v := .slice xp xn xc) rfl
 have x7 := HX.out.at (k := 7) (v := .int .i64 st) rfl
 have x8 := HX.out.at (k := 8) (v := .slice ep en ec) rfl
 have x9 := HX.out.at (k := 9) (v := .slice dp dn dc) rfl
 have x10 := HX.out.at (k := 10) (v := .bool cnt) rfl
 clear ht him hf htb hm hg hx hs he hd hq
 go_enter Tryz.func15,Tryz.ntmps15
 go_wp2_with (first
  | (go_at_call 30; (with_reducible refine (Ht _ HBX.out).out.mono ?_); rintro e w10 ⟨rfl,hb⟩; have HB0 := hid (HBX.out.trans (hb.mono HBX.out.size)); have HX0 := hid (HX.out.below hb HX.out.lt); clear x0 x1 x2 x3 x4 x5 x6 x7 x8 x9 x10; have x0 := HX0.out.at (k := 0) (v := .slice tp tn tc) rfl; have x1 := HX0.out.at (k := 1) (v := .slice imp imn imc) rfl; have x2 := HX0.out.at (k := 2) (v := .slice fp fn fc) rfl; have x3 := HX0.out.at (k := 3) (v := .slice tbp tbn tbc) rfl; have x4 := HX0.out.at (k := 4) (v := .slice mp mn mc) rfl; have x5 := HX0.out.at (k := 5) (v := .slice gp gn gc) rfl; have x6 := HX0.out.at (k := 6) (v := .slice xp xn xc) rfl; have x7 := HX0.out.at (k := 7) (v := .int .i64 st) rfl; have x8 := HX0.out.at (k := 8) (v := .slice ep en ec) rfl; have x9 := HX0.out.at (k := 9) (v := .slice dp dn dc) rfl; have x10 := HX0.out.at (k := 10) (v := .bool cnt) rfl; clear hb))
 go_ret
 exact ⟨rfl,HB0.out⟩
set_option maxHeartbeats 16000000 in
theorem MayG_1 (tp imp fp tbp mp gp xp ep dp : Option Addr) (tn tc imn imc fn fc tbn tbc mn mc gn gc xn xc en ec dn dc : Nat) (tb imb fb tbb mb gb xb sb eb db qb cnt : Bool) (st : Int) (w : World)
  (ht : ∀ W,Below w.heap.size w W → Calls Tryz.prog 30 #[.slice tp tn tc,.func (.func 31) #[] #[]] W fun e w' => e = .returned (.bool true) ∧ Below W.heap.size W w')
  (him : ∀ W,Below w.heap.size w W → Calls Tryz.prog 32 #[.slice imp imn imc,.func (.func 33) #[] #[]] W fun e w' => e = .returned (.bool false) ∧ Below W.heap.size W w')
  (hf : ∀ W,Below w.heap.size w W → Calls Tryz.prog 34 #[.slice fp fn fc,.func (.func 35) #[] #[]] W fun e w' => e = .returned (.bool fb) ∧ Below W.heap.size W w')
  (htb : ∀ W,Below w.heap.size w W → Calls Tryz.prog 36 #[.slice tbp tbn tbc,.func (.func 37) #[] #[]] W fun e w' => e = .returned (.bool tbb) ∧ Below W.heap.size W w')
  (hm : ∀ W,Below w.heap.size w W → Calls Tryz.prog 38 #[.slice mp mn mc,.func (.func 39) #[] #[]] W fun e w' => e = .returned (.bool mb) ∧ Below W.heap.size W w')
  (hg : ∀ W,Below w.heap.size w W → Calls Tryz.prog 40 #[.slice gp gn gc,.func (.func 41) #[] #[]] W fun e w' => e = .returned (.bool gb) ∧ Below W.heap.size W w')
  (hx : ∀ W,Below w.heap.size w W → Calls Tryz.prog 42 #[.slice xp xn xc,.func (.func 43) #[] #[]] W fun e w' => e = .returned (.bool xb) ∧ Below W.heap.size W w')
  (hs : ∀ W,Calls Tryz.prog 44 #[.int .i64 st] W fun e w' => e = .returned (.bool sb) ∧ W = w')
  (he : ∀ W,Below w.heap.size w W → Calls Tryz.prog 45 #[.slice ep en ec,.func (.func 46) #[] #[]] W fun e w' => e = .returned (.bool eb) ∧ Below W.heap.size W w')
  (hd : ∀ W,Below w.heap.size w W → Calls Tryz.prog 47 #[.slice dp dn dc,.func (.func 48) #[] #[]] W fun e w' => e = .returned (.bool db) ∧ Below W.heap.size W w')
  (hq : ∀ W,Below w.heap.size w W → Calls Tryz.prog 34 #[.slice fp fn fc,.func (.func 49) #[] #[]] W fun e w' => e = .returned (.bool qb) ∧ Below W.heap.size W w') :
  Calls Tryz.prog 15 #[.agg #[.slice tp tn tc,.slice imp imn imc,.slice fp fn fc,.slice tbp tbn tbc,.slice mp mn mc,.slice gp gn gc,.slice xp xn xc,.int .i64 st,.slice ep en ec,.slice dp dn dc,.bool cnt]] w fun e w' => e = .returned (.bool false) ∧ Below w.heap.size w w' := by
 have Ht := fun W h => hid (ht W h)
 have Him := fun W h => hid (him W h)
 have Hf := fun W h => hid (hf W h)
 have Htb := fun W h => hid (htb W h)
 have Hm := fun W h => hid (hm W h)
 have Hg := fun W h => hid (hg W h)
 have Hx := fun W h => hid (hx W h)
 have HS := fun W => hid (hs W)
 have He := fun W h => hid (he W h)
 have Hd := fun W h => hid (hd W h)
 have HQ := fun W h => hid (hq W h)
 have HBX := hid ((Below.refl w.heap.size w).alloc (Nat.le_refl _) (.cells #[.slice tp tn tc,.slice imp imn imc,.slice fp fn fc,.slice tbp tbn tbc,.slice mp mn mc,.slice gp gn gc,.slice xp xn xc,.int .i64 st,.slice ep en ec,.slice dp dn dc,.bool cnt] 32))
 have HX := hid (CA.new w #[.slice tp tn tc,.slice imp imn imc,.slice fp fn fc,.slice tbp tbn tbc,.slice mp mn mc,.slice gp gn gc,.slice xp xn xc,.int .i64 st,.slice ep en ec,.slice dp dn dc,.bool cnt] 32)
 have x0 := HX.out.at (k := 0) (v := .slice tp tn tc) rfl
 have x1 := HX.out.at (k := 1) (v := .slice imp imn imc) rfl
 have x2 := HX.out.at (k := 2) (v := .slice fp fn fc) rfl
 have x3 := HX.out.at (k := 3) (v := .slice tbp tbn tbc) rfl
 have x4 := HX.out.at (k := 4) (v := .slice mp mn mc) rfl
 have x5 := HX.out.at (k := 5) (v := .slice gp gn gc) rfl
 have x6 := HX.out.at (k := 6) (v := .slice xp xn xc) rfl
 have x7 := HX.out.at (k := 7) (v := .int .i64 st) rfl
 have x8 := HX.out.at (k := 8) (v := .slice ep en ec) rfl
 have x9 := HX.out.at (k := 9) (v := .slice dp dn dc) rfl
 have x10 := HX.out.at (k := 10) (v := .bool cnt) rfl
 clear ht him hf htb hm hg hx hs he hd hq
 go_enter Tryz.func15,Tryz.ntmps15
 go_wp2_with (first
  | (go_at_call 30; (with_reducible refine (Ht _ HBX.out).out.mono ?_); rintro e w10 ⟨rfl,hb⟩; have HB0 := hid (HBX.out.trans (hb.mono HBX.out.size)); have HX0 := hid (HX.out.below hb HX.out.lt); clear x0 x1 x2 x3 x4 x5 x6 x7 x8 x9 x10; have x0 := HX0.out.at (k := 0) (v := .slice tp tn tc) rfl; have x1 := HX0.out.at (k := 1) (v := .slice imp imn imc) rfl; have x2 := HX0.out.at (k := 2) (v := .slice fp fn fc) rfl; have x3 := HX0.out.at (k := 3) (v := .slice tbp tbn tbc) rfl; have x4 := HX0.out.at (k := 4) (v := .slice mp mn mc) rfl; have x5 := HX0.out.at (k := 5) (v := .slice gp gn gc) rfl; have x6 := HX0.out.at (k := 6) (v := .slice xp xn xc) rfl; have x7 := HX0.out.at (k := 7) (v := .int .i64 st) rfl; have x8 := HX0.out.at (k := 8) (v := .slice ep en ec) rfl; have x9 := HX0.out.at (k := 9) (v := .slice dp dn dc) rfl; have x10 := HX0.out.at (k := 10) (v := .bool cnt) rfl; clear hb)
  | (go_at_call 32; (with_reducible refine (Him _ HB0.out).out.mono ?_); rintro e w11 ⟨rfl,hb⟩; have HB1 := hid (HB0.out.trans (hb.mono HB0.out.size)); have HX1 := hid (HX0.out.below hb HX0.out.lt); clear x0 x1 x2 x3 x4 x5 x6 x7 x8 x9 x10; have x0 := HX1.out.at (k := 0) (v := .slice tp tn tc) rfl; have x1 := HX1.out.at (k := 1) (v := .slice imp imn imc) rfl; have x2 := HX1.out.at (k := 2) (v := .slice fp fn fc) rfl; have x3 := HX1.out.at (k := 3) (v := .slice tbp tbn tbc) rfl; have x4 := HX1.out.at (k := 4) (v := .slice mp mn mc) rfl; have x5 := HX1.out.at (k := 5) (v := .slice gp gn gc) rfl; have x6 := HX1.out.at (k := 6) (v := .slice xp xn xc) rfl; have x7 := HX1.out.at (k := 7) (v := .int .i64 st) rfl; have x8 := HX1.out.at (k := 8) (v := .slice ep en ec) rfl; have x9 := HX1.out.at (k := 9) (v := .slice dp dn dc) rfl; have x10 := HX1.out.at (k := 10) (v := .bool cnt) rfl; clear hb))
 go_ret
 exact ⟨rfl,HB1.out⟩
set_option maxHeartbeats 16000000 in
theorem MayG_2 (tp imp fp tbp mp gp xp ep dp : Option Addr) (tn tc imn imc fn fc tbn tbc mn mc gn gc xn xc en ec dn dc : Nat) (tb imb fb tbb mb gb xb sb eb db qb cnt : Bool) (st : Int) (w : World)
  (ht : ∀ W,Below w.heap.size w W → Calls Tryz.prog 30 #[.slice tp tn tc,.func (.func 31) #[] #[]] W fun e w' => e = .returned (.bool true) ∧ Below W.heap.size W w')
  (him : ∀ W,Below w.heap.size w W → Calls Tryz.prog 32 #[.slice imp imn imc,.func (.func 33) #[] #[]] W fun e w' => e = .returned (.bool true) ∧ Below W.heap.size W w')
  (hf : ∀ W,Below w.heap.size w W → Calls Tryz.prog 34 #[.slice fp fn fc,.func (.func 35) #[] #[]] W fun e w' => e = .returned (.bool false) ∧ Below W.heap.size W w')
  (htb : ∀ W,Below w.heap.size w W → Calls Tryz.prog 36 #[.slice tbp tbn tbc,.func (.func 37) #[] #[]] W fun e w' => e = .returned (.bool tbb) ∧ Below W.heap.size W w')
  (hm : ∀ W,Below w.heap.size w W → Calls Tryz.prog 38 #[.slice mp mn mc,.func (.func 39) #[] #[]] W fun e w' => e = .returned (.bool mb) ∧ Below W.heap.size W w')
  (hg : ∀ W,Below w.heap.size w W → Calls Tryz.prog 40 #[.slice gp gn gc,.func (.func 41) #[] #[]] W fun e w' => e = .returned (.bool gb) ∧ Below W.heap.size W w')
  (hx : ∀ W,Below w.heap.size w W → Calls Tryz.prog 42 #[.slice xp xn xc,.func (.func 43) #[] #[]] W fun e w' => e = .returned (.bool xb) ∧ Below W.heap.size W w')
  (hs : ∀ W,Calls Tryz.prog 44 #[.int .i64 st] W fun e w' => e = .returned (.bool sb) ∧ W = w')
  (he : ∀ W,Below w.heap.size w W → Calls Tryz.prog 45 #[.slice ep en ec,.func (.func 46) #[] #[]] W fun e w' => e = .returned (.bool eb) ∧ Below W.heap.size W w')
  (hd : ∀ W,Below w.heap.size w W → Calls Tryz.prog 47 #[.slice dp dn dc,.func (.func 48) #[] #[]] W fun e w' => e = .returned (.bool db) ∧ Below W.heap.size W w')
  (hq : ∀ W,Below w.heap.size w W → Calls Tryz.prog 34 #[.slice fp fn fc,.func (.func 49) #[] #[]] W fun e w' => e = .returned (.bool qb) ∧ Below W.heap.size W w') :
  Calls Tryz.prog 15 #[.agg #[.slice tp tn tc,.slice imp imn imc,.slice fp fn fc,.slice tbp tbn tbc,.slice mp mn mc,.slice gp gn gc,.slice xp xn xc,.int .i64 st,.slice ep en ec,.slice dp dn dc,.bool cnt]] w fun e w' => e = .returned (.bool false) ∧ Below w.heap.size w w' := by
 have Ht := fun W h => hid (ht W h)
 have Him := fun W h => hid (him W h)
 have Hf := fun W h => hid (hf W h)
 have Htb := fun W h => hid (htb W h)
 have Hm := fun W h => hid (hm W h)
 have Hg := fun W h => hid (hg W h)
 have Hx := fun W h => hid (hx W h)
 have HS := fun W => hid (hs W)
 have He := fun W h => hid (he W h)
 have Hd := fun W h => hid (hd W h)
 have HQ := fun W h => hid (hq W h)
 have HBX := hid ((Below.refl w.heap.size w).alloc (Nat.le_refl _) (.cells #[.slice tp tn tc,.slice imp imn imc,.slice fp fn fc,.slice tbp tbn tbc,.slice mp mn mc,.slice gp gn gc,.slice xp xn xc,.int .i64 st,.slice ep en ec,.slice dp dn dc,.bool cnt] 32))
 have HX := hid (CA.new w #[.slice tp tn tc,.slice imp imn imc,.slice fp fn fc,.slice tbp tbn tbc,.slice mp mn mc,.slice gp gn gc,.slice xp xn xc,.int .i64 st,.slice ep en ec,.slice dp dn dc,.bool cnt] 32)
 have x0 := HX.out.at (k := 0) (v := .slice tp tn tc) rfl
 have x1 := HX.out.at (k := 1) (v := .slice imp imn imc) rfl
 have x2 := HX.out.at (k := 2) (v := .slice fp fn fc) rfl
 have x3 := HX.out.at (k := 3) (v := .slice tbp tbn tbc) rfl
 have x4 := HX.out.at (k := 4) (v := .slice mp mn mc) rfl
 have x5 := HX.out.at (k := 5) (v := .slice gp gn gc) rfl
 have x6 := HX.out.at (k := 6) (v := .slice xp xn xc) rfl
 have x7 := HX.out.at (k := 7) (v := .int .i64 st) rfl
 have x8 := HX.out.at (k := 8) (v := .slice ep en ec) rfl
 have x9 := HX.out.at (k := 9) (v := .slice dp dn dc) rfl
 have x10 := HX.out.at (k := 10) (v := .bool cnt) rfl
 clear ht him hf htb hm hg hx hs he hd hq
 go_enter Tryz.func15,Tryz.ntmps15
 go_wp2_with (first
  | (go_at_call 30; (with_reducible refine (Ht _ HBX.out).out.mono ?_); rintro e w10 ⟨rfl,hb⟩; have HB0 := hid (HBX.out.trans (hb.mono HBX.out.size)); have HX0 := hid (HX.out.below hb HX.out.lt); clear x0 x1 x2 x3 x4 x5 x6 x7 x8 x9 x10; have x0 := HX0.out.at (k := 0) (v := .slice tp tn tc) rfl; have x1 := HX0.out.at (k := 1) (v := .slice imp imn imc) rfl; have x2 := HX0.out.at (k := 2) (v := .slice fp fn fc) rfl; have x3 := HX0.out.at (k := 3) (v := .slice tbp tbn tbc) rfl; have x4 := HX0.out.at (k := 4) (v := .slice mp mn mc) rfl; have x5 := HX0.out.at (k := 5) (v := .slice gp gn gc) rfl; have x6 := HX0.out.at (k := 6) (v := .slice xp xn xc) rfl; have x7 := HX0.out.at (k := 7) (v := .int .i64 st) rfl; have x8 := HX0.out.at (k := 8) (v := .slice ep en ec) rfl; have x9 := HX0.out.at (k := 9) (v := .slice dp dn dc) rfl; have x10 := HX0.out.at (k := 10) (v := .bool cnt) rfl; clear hb)
  | (go_at_call 32; (with_reducible refine (Him _ HB0.out).out.mono ?_); rintro e w11 ⟨rfl,hb⟩; have HB1 := hid (HB0.out.trans (hb.mono HB0.out.size)); have HX1 := hid (HX0.out.below hb HX0.out.lt); clear x0 x1 x2 x3 x4 x5 x6 x7 x8 x9 x10; have x0 := HX1.out.at (k := 0) (v := .slice tp tn tc) rfl; have x1 := HX1.out.at (k := 1) (v := .slice imp imn imc) rfl; have x2 := HX1.out.at (k := 2) (v := .slice fp fn fc) rfl; have x3 := HX1.out.at (k := 3) (v := .slice tbp tbn tbc) rfl; have x4 := HX1.out.at (k := 4) (v := .slice mp mn mc) rfl; have x5 := HX1.out.at (k := 5) (v := .slice gp gn gc) rfl; have x6 := HX1.out.at (k := 6) (v := .slice xp xn xc) rfl; have x7 := HX1.out.at (k := 7) (v := .int .i64 st) rfl; have x8 := HX1.out.at (k := 8) (v := .slice ep en ec) rfl; have x9 := HX1.out.at (k := 9) (v := .slice dp dn dc) rfl; have x10 := HX1.out.at (k := 10) (v := .bool cnt) rfl; clear hb)
  | (go_at_call 34; (with_reducible refine (Hf _ HB1.out).out.mono ?_); rintro e w12 ⟨rfl,hb⟩; have HB2 := hid (HB1.out.trans (hb.mono HB1.out.size)); have HX2 := hid (HX1.out.below hb HX1.out.lt); clear x0 x1 x2 x3 x4 x5 x6 x7 x8 x9 x10; have x0 := HX2.out.at (k := 0) (v := .slice tp tn tc) rfl; have x1 := HX2.out.at (k := 1) (v := .slice imp imn imc) rfl; have x2 := HX2.out.at (k := 2) (v := .slice fp fn fc) rfl; have x3 := HX2.out.at (k := 3) (v := .slice tbp tbn tbc) rfl; have x4 := HX2.out.at (k := 4) (v := .slice mp mn mc) rfl; have x5 := HX2.out.at (k := 5) (v := .slice gp gn gc) rfl; have x6 := HX2.out.at (k := 6) (v := .slice xp xn xc) rfl; have x7 := HX2.out.at (k := 7) (v := .int .i64 st) rfl; have x8 := HX2.out.at (k := 8) (v := .slice ep en ec) rfl; have x9 := HX2.out.at (k := 9) (v := .slice dp dn dc) rfl; have x10 := HX2.out.at (k := 10) (v := .bool cnt) rfl; clear hb))
 go_ret
 exact ⟨rfl,HB2.out⟩
end Go.Proofs.YtjgeedgphcjhoaaGreat
