/-
  SpC: what a copy is in memory, and what becomes of it (the text says what it holds where it lies in wip). No condition.
-/
import Derived.Test.YtjgeedgphcjhoaaGreatT24
import Derived.Test.YtjgeedgphcjhoaaGreatT08
import Derived.Test.YtjgeedgphcjhoaaGreatT14
import Derived.Test.YtjgeedgphcjhoaaGreatV33
import Derived.Deep.DeepCutAuto
set_option linter.unusedSimpArgs false
set_option linter.unusedVariables false
set_option maxRecDepth 100000
namespace Go.Proofs.YtjgeedgphcjhoaaGreat
open Go.RowKit
theorem WS.sl {s B : Nat} {w : World} {v : Value} {f : Fo} (h : WS s B w v f) : ∃ p n c,v = .slice p n c := by
 rcases h with rfl | ⟨p,c,g,o,rfl,_⟩
 ·exact ⟨_,_,_,rfl⟩
 ·exact ⟨_,_,_,rfl⟩
theorem WI.sl {s B : Nat} {w : World} {v : Value} (h : WI s B w v) : ∃ p n c,v = .slice p n c := by
 obtain ⟨p,n,c,rfl,_⟩ := h
 exact ⟨_,_,_,rfl⟩
theorem WF.head {s B : Nat} {w : World} {op a b : Int} {n h : Nat} {l : List Int} {ot : Bool} {body els rest : Fo} {g o : Nat} (H : WF s B w (.cons op a b n h l ot body els rest) g o) : (s ≤ g ∧ g < B ∧ w.frozen? ⟨g,o,none⟩ = false) ∧ ∃ (op : Int) (p5 p6 p7 : Option Addr) (n5 n6 n7 c5 c6 c7 : Nat),w.cell? ⟨g,o,none⟩ = some (.int .i64 op) ∧ w.cell? ⟨g,o + 5,none⟩ = some (.slice p5 n5 c5) ∧ w.cell? ⟨g,o + 6,none⟩ = some (.slice p6 n6 c6) ∧ w.cell? ⟨g,o + 7,none⟩ = some (.slice p7 n7 c7) ∧ WI s B w (.slice p5 n5 c5) ∧ WS s B w (.slice p6 n6 c6) body ∧ WS s B w (.slice p7 n7 c7) els := by
 obtain ⟨hg,⟨op,vl,vb,ve,h0,h5,h6,h7,hl,hb,he⟩,hr⟩ := H
 have hb : WS s B w vb body := hb
 have he : WS s B w ve els := he
 obtain ⟨p5,n5,c5,rfl⟩ := hl.sl
 obtain ⟨p6,n6,c6,rfl⟩ := hb.sl
 obtain ⟨p7,n7,c7,rfl⟩ := he.sl
 exact ⟨hg,op,p5,p6,p7,n5,n6,n7,c5,c6,c7,h0,h5,h6,h7,hl,hb,he⟩
set_option maxHeartbeats 8000000 in
theorem spoilCode_says (s B : Nat) : ∀ (N : Nat) (f : Fo),f.cnt < N → f.cnt < 9223372036854775807 → ∀ (v : Value) (w : World),WS s B w v f → Calls Tryz.prog 96 #[v] w fun e w' => e = .returned (.tuple #[]) ∧ KS s B w w' := by
 intro N
 induction N with
 | zero => intro f h; omega
 | succ N ih =>
  intro f0 hf0 hc0 v w hs
  obtain ⟨p,m,c,g0,o0,f,rfl,hm,hp,hwf,hf,hc⟩ : ∃ p m c g0 o0 f,v = .slice p m c ∧ m = Fo.len f ∧ (m ≠ 0 → p = some ⟨g0,o0,none⟩) ∧ WF s B w f g0 o0 ∧ f.cnt < N + 1 ∧ f.cnt < 9223372036854775807 := by
   rcases hs with rfl | ⟨p,c,g,o,rfl,h1,h2⟩
   ·exact ⟨none,0,0,0,0,.nil,rfl,rfl,fun h => absurd rfl h,trivial,by simp only [Fo.cnt]; omega,by simp only [Fo.cnt]; omega⟩
   ·exact ⟨p,f0.len,c,g,o,f0,rfl,rfl,h1,h2,hf0,hc0⟩
  have hlc : f.len ≤ f.cnt := (show ∀ f : Fo,f.len ≤ f.cnt from fun f => by
   induction f with
   | nil => exact Nat.le_refl _
   | cons op a b n h l ot body els rest _ _ ihr => simp only [Fo.len,Fo.cnt]; omega) f
  have hm62 : (m : Int) < 9223372036854775807 := by omega
  have HIH := hid ih
  have HP := hid hp
  have HS : Hid (0 + f.len = m ∧ f.cnt < N + 1 ∧ f.cnt < 9223372036854775807 ∧ WF s B w f g0 (o0 + 0 * 9)) := ⟨by omega,hf,hc,by simpa using hwf⟩
  clear ih hp hm hwf hf hc hlc hs hf0 hc0
  go_enter Tryz.func96,Tryz.ntmps96
  go_wp2
  go_loopw [2] (fun vi wr => ∃ (i : Nat) (fi : Fo),i ≤ m ∧ vi = .int .i64 i ∧ Hid (i + fi.len = m ∧ fi.cnt < N + 1 ∧ fi.cnt < 9223372036854775807 ∧ WF s B wr fi g0 (o0 + i * 9)) ∧ Hid (KS s B w wr)) (fun vi _ => m - (intOf vi).toNat)
  case atStart => exact ⟨0,f,Nat.zero_le _,rfl,HS,KS.refl _ _ _⟩
  case round =>
   obtain ⟨i,fi,him,rfl,HI,HK⟩ := hrel
   cases fi with
   | nil =>
    have hi : i = m := HI.out.1
    subst hi
    go_wp2
    (first | go_end0 | refine bodyPost_ret (results_none rfl _ _ _) rfl ?_)
    exact ⟨rfl,HK.out⟩
   | cons op a b n h l ot body els rest =>
    have hlt : i < m := by have := HI.out.1; simp only [Fo.len] at this; omega
    obtain rfl := HP.out (by omega)
    have hcn := HI.out.2.1
    have hcm := HI.out.2.2.1
    simp only [Fo.cnt] at hcn hcm
    obtain ⟨hg,op0,p5,p6,p7,n5,n6,n7,c5,c6,c7,x0,x5,x6,x7,hl,hb,he⟩ := WF.head HI.out.2.2.2
    have KL := hid (turn_says s B _ wr hl)
    have KB := fun (v : Value) (W : World) (h : WS s B W v body) => hid (HIH.out body (by omega) (by omega) v W h)
    have KE := fun (v : Value) (W : World) (h : WS s B W v els) => hid (HIH.out els (by omega) (by omega) v W h)
    have HLE := hid (show i + 1 + rest.len = m ∧ rest.cnt < N + 1 ∧ rest.cnt < 9223372036854775807 by have h1 := HI.out.1; simp only [Fo.len] at h1; omega)
    have HWF := hid HI.out.2.2.2
    clear hl hb he hcn hcm HI x0 x6 x7 hg
    go_upto_region 4 with (go_at_call 95; (with_reducible refine KL.out.mono ?_); rintro e w1 ⟨rfl,hk⟩; have HK1 := hid hk; have HWF1 := hid (WF.ks hk _ _ _ HWF.out); clear hk)
    clear x5
    obtain ⟨hg,op1,p5,p6,p7,n5,n6,n7,c5,c6,c7,x0,x5,x6,x7,hl,hb,he⟩ := WF.head HWF1.out
    have KB1 := KB _ _ hb
    clear x0 x5 x7 hl hb he hg KB
    go_upto_region 5 with (go_at_call 96; (with_reducible refine KB1.out.mono ?_); rintro e w2 ⟨rfl,hk⟩; have HK2 := hid (HK1.out.trans hk); have HWF2 := hid (WF.ks hk _ _ _ HWF1.out); clear hk)
    clear x6
    obtain ⟨hg,op2,p5,p6,p7,n5,n6,n7,c5,c6,c7,x0,x5,x6,x7,hl,hb,he⟩ := WF.head HWF2.out
    have KE1 := KE _ _ he
    clear x0 x5 x6 hl hb he hg KE
    go_upto_region 6 with (go_at_call 96; (with_reducible refine KE1.out.mono ?_); rintro e w3 ⟨rfl,hk⟩; have HK3 := hid (HK2.out.trans hk); have HWF3 := hid (WF.ks hk _ _ _ HWF2.out); clear hk)
    clear x7
    obtain ⟨hg,op3,p5,p6,p7,n5,n6,n7,c5,c6,c7,x0,x5,x6,x7,hl,hb,he⟩ := WF.head HWF3.out
    have hfz := hg.2.2
    have HSB := hid (And.intro hg.1 hg.2.1)
    have HX0 := hid x0
    clear x5 x6 x7 hl hb he hg
    go_wp2
    go_roundw
    case rel =>
     have hset := fun y => KS.set (v := .int .i64 y) HSB.out.1 HSB.out.2 HX0.out ⟨y,rfl⟩
     refine ⟨i + 1,rest,hlt,by go_num,⟨HLE.out.1,HLE.out.2.1,HLE.out.2.2,?_⟩,(HK.out.trans HK3.out).trans (hset _)⟩
     have h9 : o0 + (i + 1) * 9 = o0 + i * 9 + 9 := by omega
     rw [h9]
     exact WF.ks (hset _) _ _ _ HWF3.out.2.2
    case measure => simp [intOf]; omega
end Go.Proofs.YtjgeedgphcjhoaaGreat
