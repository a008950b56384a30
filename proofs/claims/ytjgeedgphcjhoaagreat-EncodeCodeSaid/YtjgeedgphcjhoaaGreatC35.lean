/-
  Ref1, Ref2, Ones, OpenN, Expr, ECode: merged, what the law does not reach left out (each text says what it holds where it lies in wip). No condition.
-/
import Derived.Test.YtjgeedgphcjhoaaGreatC34
import Derived.Test.YtjgeedgphcjhoaaGreatC09
import Derived.Test.YtjgeedgphcjhoaaGreatC25
import Derived.Test.YtjgeedgphcjhoaaGreatC02
set_option linter.unusedSimpArgs false
set_option linter.unusedVariables false
set_option maxRecDepth 100000
namespace Go.Proofs.YtjgeedgphcjhoaaGreat
open Go.RowKit
/-- How many more instructions there may be, behind these. -/
def wg : Fo → Int → Int → Int
 | .nil,_,left => left
 | .cons _ _ _ _ _ l _ body els rest,d,left =>
  if 0 ≤ left then
   wg rest d (if 1000 < l.length then -1 else (if 0 ≤ (if 600 < d + 1 then -1 else wg body (d + 1) (left - 1)) then (if 600 < d + 1 then -1 else wg els (d + 1) (if 600 < d + 1 then -1 else wg body (d + 1) (left - 1))) else (if 600 < d + 1 then -1 else wg body (d + 1) (left - 1))))
  else left
def wgT (f : Fo) (d left : Int) : Int := if 600 < d then -1 else wg f d left
theorem wg_cons (op a b : Int) (n h : Nat) (l : List Int) (ot : Bool) (body els rest : Fo) (d left : Int) (h0 : 0 ≤ left) (A : Int) (hA : wgT body (d + 1) (left - 1) = A) (E : Int) (hE : wgT els (d + 1) A = E) :
  wg (.cons op a b n h l ot body els rest) d left = wg rest d (if 1000 < l.length then -1 else if 0 ≤ A then E else A) := by
 unfold wgT at hA hE
 rw [wg,if_pos h0,hA,hE]
theorem wg_neg : ∀ (f : Fo) (d left : Int),left < 0 → wg f d left = left
 | .nil,_,_,_ => rfl
 | .cons _ _ _ _ _ _ _ _ _ _,d,left,h => by rw [wg,if_neg (by omega)]
theorem wg_bound : ∀ (f : Fo) (d left : Int),-1 ≤ left → -1 ≤ wg f d left ∧ wg f d left ≤ left ∧ (0 ≤ wg f d left → (f.cnt : Int) ≤ left - wg f d left)
 | .nil,_,left,h => ⟨h,Int.le_refl _,fun _ => by simp [wg,Fo.cnt]⟩
 | .cons op a b n hh l ot body els rest,d,left,h => by
  by_cases h0 : 0 ≤ left
  ·have b1 := wg_bound body (d + 1) (left - 1) (by omega)
   have hA : ∃ A,wgT body (d + 1) (left - 1) = A ∧ -1 ≤ A ∧ A ≤ left - 1 ∧ (0 ≤ A → (body.cnt : Int) ≤ left - 1 - A) := by
    unfold wgT
    split
    ·exact ⟨-1,rfl,by omega,by omega,by omega⟩
    ·exact ⟨_,rfl,b1⟩
   obtain ⟨A,hA,a1,a2,a3⟩ := hA
   have b2 := wg_bound els (d + 1) A a1
   have hE : ∃ E,wgT els (d + 1) A = E ∧ -1 ≤ E ∧ E ≤ A ∧ (0 ≤ E → (els.cnt : Int) ≤ A - E) := by
    unfold wgT
    split
    ·exact ⟨-1,rfl,by omega,by omega,by omega⟩
    ·exact ⟨_,rfl,b2⟩
   obtain ⟨E,hE,e1,e2,e3⟩ := hE
   rw [wg_cons op a b n hh l ot body els rest d left h0 A hA E hE]
   obtain ⟨C,hC⟩ : ∃ C,C = (if 1000 < l.length then -1 else if 0 ≤ A then E else A) := ⟨_,rfl⟩
   have hc : -1 ≤ C ∧ C ≤ left - 1 ∧ (0 ≤ C → (body.cnt : Int) + els.cnt ≤ left - 1 - C) := by
    rw [hC]
    split
    ·omega
    ·split
     ·refine ⟨by omega,by omega,fun hc => ?_⟩
      have := a3 (by omega)
      have := e3 hc
      omega
     ·omega
   rw [← hC]
   have b3 := wg_bound rest d C hc.1
   refine ⟨b3.1,by omega,fun hr => ?_⟩
   have := b3.2.2 hr
   have := hc.2.2 (by omega)
   simp only [Fo.cnt]
   omega
  ·rw [wg_neg _ _ _ (by omega)]
   exact ⟨h,Int.le_refl _,fun hr => absurd hr h0⟩
theorem wgT_bound (f : Fo) (d left : Int) (h : -1 ≤ left) : -1 ≤ wgT f d left ∧ (wgT f d left ≤ left ∨ wgT f d left = -1) := by
 unfold wgT
 split
 ·exact ⟨by omega,.inr rfl⟩
 ·have := wg_bound f d left h
  exact ⟨this.1,.inl this.2.1⟩
set_option maxHeartbeats 8000000 in
theorem weigh_says (B : Nat) (w : World) (hB : B ≤ w.heap.size) : ∀ (N : Nat) (f : Fo),f.cnt < N → Lens f → f.len < 9223372036854775807 → ∀ (d left : Int) (v : Value),0 ≤ d → d ≤ 601 → -1 ≤ left → left ≤ 3000 → SA B w v f →
  Calls Tryz.prog 59 #[v,.int .i64 d,.int .i64 left] w fun e w' => e = .returned (.int .i64 (wgT f d left)) ∧ w = w' := by
 intro N
 induction N with
 | zero => intro f h; omega
 | succ N ih =>
  intro f hf hL hlen d left v hd hd1 hl0 hl1 hs
  by_cases h600 : 600 < d
  ·have dd : decide (600 < d) = true := by simpa using h600
   have hr : wgT f d left = -1 := by unfold wgT; rw [if_pos h600]
   rw [hr]
   clear hr h600 hs ih
   go_enter Tryz.func59,Tryz.ntmps59
   go_wp2
   go_ret
   exact ⟨rfl,rfl⟩
  ·have dd : decide (600 < d) = false := by simpa using h600
   have hr : wgT f d left = wg f d left := by unfold wgT; rw [if_neg h600]
   rw [hr]
   obtain ⟨p,c,g0,o0,rfl,hp,hfa⟩ := hs
   obtain ⟨R,hR⟩ : ∃ R,R = wg f d left := ⟨_,rfl⟩
   rw [← hR]
   obtain ⟨m,hm⟩ : ∃ m,m = f.len := ⟨_,rfl⟩
   rw [← hm] at hp hlen ⊢
   have HIH := hid ih
   have HP := hid hp
   have HS : Hid (0 + f.len = m ∧ f.cnt < N + 1 ∧ FA B w f g0 (o0 + 0 * 9) ∧ R = wg f d left ∧ Lens f) := ⟨by rw [hm]; omega,hf,by simpa using hfa,hR,hL⟩
   have hm62 : (m : Int) < 9223372036854775807 := by omega
   have hdw : wrap64 (d + 1) = d + 1 := by unfold wrap64; omega
   have HD := hid hd
   have HD1 := hid (show d ≤ 600 by omega)
   have HLL := hid (And.intro hl0 hl1)
   clear ih hp hR hm hfa hf hL hr h600 hlen hd hd1 hl0 hl1
   go_enter Tryz.func59,Tryz.ntmps59
   go_wp2
   go_loop [2,7] (fun vl vi => ∃ (i : Nat) (fi : Fo) (li : Int),i ≤ m ∧ vi = .int .i64 i ∧ vl = .int .i64 li ∧ Hid (-1 ≤ li ∧ li ≤ 3000) ∧ Hid (i + fi.len = m ∧ fi.cnt < N + 1 ∧ FA B w fi g0 (o0 + i * 9) ∧ R = wg fi d li ∧ Lens fi)) (fun _ vi => m - (intOf vi).toNat)
   case atStart => exact ⟨0,f,left,Nat.zero_le _,rfl,rfl,HLL,HS⟩
   case round =>
    obtain ⟨i,fi,li,him,rfl,rfl,HLI,HI⟩ := hrel
    by_cases hli : 0 ≤ li
    ·have dl : decide (0 ≤ li) = true := by simpa using hli
     cases fi with
     | nil =>
      have hi : i = m := HI.out.1
      subst hi
      have HE : Hid (R = li) := HI.out.2.2.2.1
      go_wp2
      go_ret
      exact ⟨by rw [HE.out]; rfl,rfl⟩
     | cons op a b n h l ot body els rest =>
      obtain ⟨hg,⟨vl,vb,ve,x0,x1,x2,x3,x4,x5,x6,x7,x8,hl,hbo,hel⟩,hrest⟩ := HI.out.2.2.1
      obtain ⟨pl,cl,evl,_⟩ := id hl
      obtain ⟨nl,hnl⟩ : ∃ x,x = l.length := ⟨_,rfl⟩
      rw [← hnl] at evl
      subst evl
      have hlt : i < m := by have := HI.out.1; simp only [Fo.len] at this; omega
      obtain rfl := HP.out (by omega)
      obtain ⟨q1,q2,q3,q4,q5⟩ := HI.out.2.2.2.2
      have hcn := HI.out.2.1
      simp only [Fo.cnt] at hcn
      obtain ⟨A,hA⟩ : ∃ A,wgT body (d + 1) (li - 1) = A := ⟨_,rfl⟩
      obtain ⟨E,hE⟩ : ∃ E,wgT els (d + 1) A = E := ⟨_,rfl⟩
      have hev := HI.out.2.2.2.1
      rw [wg_cons op a b n h l ot body els rest d li hli A hA E hE,← hnl] at hev
      have bA := wgT_bound body (d + 1) (li - 1) (by omega)
      rw [hA] at bA
      have hA3 : A ≤ 3000 := by have := HLI.out.2; omega
      have bE := wgT_bound els (d + 1) A bA.1
      rw [hE] at bE
      have hE3 : E ≤ 3000 := by omega
      have hsw : wrap64 (li - 1) = li - 1 := by unfold wrap64; have := HLI.out.2; omega
      have KB := hid (HIH.out body (by omega) q3 q1 (d + 1) (li - 1) vb (by have := HD.out; omega) (by have := HD1.out; omega) (by omega) (by have := HLI.out.2; omega) hbo)
      have KE := hid (HIH.out els (by omega) q4 q2 (d + 1) A ve (by have := HD.out; omega) (by have := HD1.out; omega) bA.1 hA3 hel)
      rw [hA] at KB
      rw [hE] at KE
      have HEV := hid hev
      have HLE := hid (show i + 1 + rest.len = m ∧ rest.cnt < N + 1 by have h1 := HI.out.1; simp only [Fo.len] at h1; omega)
      have HRS := hid (show FA B w rest g0 (o0 + (i + 1) * 9) by (have h9 : o0 + (i + 1) * 9 = o0 + i * 9 + 9 := by omega); rw [h9]; exact hrest)
      have HLR := hid q5
      have HBA := hid (And.intro bA.1 hA3)
      have HBE := hid (And.intro bE.1 hE3)
      clear hl hbo hel hrest HI hg hcn hA hE hev bA bE hA3 hE3 q1 q2 q3 q4 q5 hnl x0 x1 x2 x3 x4 x8
      rcases (show (0 ≤ A ∨ A < 0) ∧ (1000 < nl ∨ ¬ 1000 < nl) by omega) with ⟨ha | ha,hn | hn⟩
      ·have da : decide (0 ≤ A) = true := by simp; omega
       have dn : decide (1000 < (nl : Int)) = true := by simp; omega
       have HF : Hid (R = wg rest d (-1)) := by
        have := HEV.out
        rw [if_pos hn] at this
        exact this
       clear ha hn HEV
       go_wp2_with (first | (go_at_call 59; (with_reducible refine KB.out.mono ?_); rintro e w2 ⟨rfl,rfl⟩) | (go_at_call 59; (with_reducible refine KE.out.mono ?_); rintro e w3 ⟨rfl,rfl⟩))
       go_round
       case rel => exact ⟨i + 1,rest,(-1),hlt,by go_num,rfl,⟨by omega,by omega⟩,HLE.out.1,HLE.out.2,HRS.out,HF.out,HLR.out⟩
       case measure => simp [intOf]; omega
      ·have da : decide (0 ≤ A) = true := by simp; omega
       have dn : decide (1000 < (nl : Int)) = false := by simp; omega
       have HF : Hid (R = wg rest d E) := by
        have := HEV.out
        rw [if_neg hn,if_pos ha] at this
        exact this
       clear ha hn HEV
       go_wp2_with (first | (go_at_call 59; (with_reducible refine KB.out.mono ?_); rintro e w2 ⟨rfl,rfl⟩) | (go_at_call 59; (with_reducible refine KE.out.mono ?_); rintro e w3 ⟨rfl,rfl⟩))
       go_round
       case rel => exact ⟨i + 1,rest,E,hlt,by go_num,rfl,HBE,HLE.out.1,HLE.out.2,HRS.out,HF.out,HLR.out⟩
       case measure => simp [intOf]; omega
      ·have da : decide (0 ≤ A) = false := by simp; omega
       have dn : decide (1000 < (nl : Int)) = true := by simp; omega
       have HF : Hid (R = wg rest d (-1)) := by
        have := HEV.out
        rw [if_pos hn] at this
        exact this
       clear ha hn HEV
       go_wp2_with (go_at_call 59; (with_reducible refine KB.out.mono ?_); rintro e w2 ⟨rfl,rfl⟩)
       go_round
       case rel => exact ⟨i + 1,rest,(-1),hlt,by go_num,rfl,⟨by omega,by omega⟩,HLE.out.1,HLE.out.2,HRS.out,HF.out,HLR.out⟩
       case measure => simp [intOf]; omega
      ·have da : decide (0 ≤ A) = false := by simp; omega
       have dn : decide (1000 < (nl : Int)) = false := by simp; omega
       have HF : Hid (R = wg rest d A) := by
        have := HEV.out
        rw [if_neg hn,if_neg (by omega)] at this
        exact this
       clear ha hn HEV
       go_wp2_with (go_at_call 59; (with_reducible refine KB.out.mono ?_); rintro e w2 ⟨rfl,rfl⟩)
       go_round
       case rel => exact ⟨i + 1,rest,A,hlt,by go_num,rfl,HBA,HLE.out.1,HLE.out.2,HRS.out,HF.out,HLR.out⟩
       case measure => simp [intOf]; omega
    ·have dl : decide (0 ≤ li) = false := by simpa using hli
     have HE : Hid (R = li) := by rw [HI.out.2.2.2.1]; exact wg_neg _ _ _ (by omega)
     have hlt : i < m ∨ i = m := by omega
     clear hli HI
     rcases hlt with hlt | rfl
     ·go_wp2
      go_ret
      exact ⟨by rw [HE.out]; rfl,rfl⟩
     ·go_wp2
      go_ret
      exact ⟨by rw [HE.out]; rfl,rfl⟩
theorem Few_says (f : Fo) (v : Value) (w : World) (hL : Lens f) (hlen : f.len < 9223372036854775807) (hs : SA w.heap.size w v f) : Calls Tryz.prog 17 #[v] w fun e w' => e = .returned (.bool (decide (0 ≤ wg f 0 3000))) ∧ w = w' := by
 have H := hid (weigh_says w.heap.size w (Nat.le_refl _) (f.cnt + 1) f (Nat.lt_succ_self _) hL hlen 0 3000 v (by decide) (by decide) (by decide) (by decide) hs)
 rw [show wgT f 0 3000 = wg f 0 3000 from if_neg (by decide)] at H
 generalize wg f 0 3000 = r at *
 clear hL hs hlen
 go_enter Tryz.func17,Tryz.ntmps17
 go_wp2_with (go_at_call 59; (with_reducible refine H.out.mono ?_); rintro e w2 ⟨rfl,rfl⟩)
 go_ret
 exact ⟨rfl,rfl⟩
theorem few_cnt (f : Fo) (h : 0 ≤ wg f 0 3000) : f.cnt ≤ 3000 := by
 have := (wg_bound f 0 3000 (by decide)).2.2 h
 omega
end Go.Proofs.YtjgeedgphcjhoaaGreat
namespace Go.Proofs.YtjgeedgphcjhoaaGreat
open Go.RowKit
theorem nst_cnt : ∀ f : Fo,f.nst ≤ f.cnt ∧ f.len ≤ f.cnt
 | .nil => ⟨Nat.le_refl _,Nat.le_refl _⟩
 | .cons _ _ _ _ _ _ _ b e r => by
  have h1 := nst_cnt b
  have h2 := nst_cnt e
  have h3 := nst_cnt r
  simp only [Fo.nst,Fo.cnt,Fo.len]
  omega
set_option maxHeartbeats 8000000 in
theorem RNest_says (B : Nat) (w : World) (hc62 : True) : ∀ (N : Nat) (f : Fo),f.cnt < N ∧ f.cnt < 9223372036854775806 → ∀ (v : Value),SA B w v f →
  Calls Tryz.prog 138 #[v] w fun e w' => e = .returned (.int .i64 (f.nst : Nat)) ∧ w = w' := by
 intro N
 induction N with
 | zero => intro f h; omega
 | succ N ih =>
  intro f hf v hs
  obtain ⟨p,c,g0,o0,rfl,hp,hfa⟩ := hs
  have hcl := nst_cnt f
  obtain ⟨m,hm⟩ : ∃ m,m = f.len := ⟨_,rfl⟩
  rw [← hm] at hp ⊢
  have HIH := hid ih
  have HP := hid hp
  have hm62 : (m : Int) < 9223372036854775807 := by omega
  obtain ⟨R,hR⟩ : ∃ R,R = f.nst := ⟨_,rfl⟩
  rw [← hR]
  have HS : Hid (0 + f.len = m ∧ f.cnt < N + 1 ∧ FA B w f g0 (o0 + 0 * 9) ∧ R = max 0 f.nst ∧ f.cnt < 9223372036854775806) := ⟨by rw [hm]; omega,hf.1,by simpa using hfa,by omega,hf.2⟩
  clear ih hp hR hm hfa hf hcl
  go_enter Tryz.func138,Tryz.ntmps138
  go_wp2
  go_loop [3,4] (fun vn vi => ∃ (i : Nat) (fi : Fo) (n : Nat),i ≤ m ∧ vi = .int .i64 i ∧ vn = .int .i64 n ∧ Hid (i + fi.len = m ∧ fi.cnt < N + 1 ∧ FA B w fi g0 (o0 + i * 9) ∧ R = max n fi.nst ∧ fi.cnt < 9223372036854775806)) (fun _ vi => m - (intOf vi).toNat)
  case atStart => exact ⟨0,f,0,Nat.zero_le _,rfl,rfl,HS⟩
  case round =>
   obtain ⟨i,fi,n,him,rfl,rfl,HI⟩ := hrel
   cases fi with
   | nil =>
    have hi : i = m := HI.out.1
    subst hi
    have HE : Hid (R = n) := by have := HI.out.2.2.2.1; simp only [Fo.nst] at this; (show R = n); omega
    go_wp2
    go_ret
    exact ⟨by rw [HE.out]; rfl,rfl⟩
   | cons op a b nn h l ot body els rest =>
    obtain ⟨hg,⟨vl,vb,ve,x0,x1,x2,x3,x4,x5,x6,x7,x8,hl,hbo,hel⟩,hrest⟩ := HI.out.2.2.1
    have hlt : i < m := by have := HI.out.1; simp only [Fo.len] at this; omega
    obtain rfl := HP.out (by omega)
    have hcn := HI.out.2.1
    simp only [Fo.cnt] at hcn
    have nb := nst_cnt body
    have ne := nst_cnt els
    have nr := nst_cnt rest
    have h62 := HI.out.2.2.2.2
    simp only [Fo.cnt] at h62
    have KB := hid (HIH.out body ⟨by omega,by omega⟩ vb hbo)
    have KE := hid (HIH.out els ⟨by omega,by omega⟩ ve hel)
    have hR := HI.out.2.2.2.1
    simp only [Fo.nst] at hR
    have HR := hid hR
    have HLE := hid (show i + 1 + rest.len = m ∧ rest.cnt < N + 1 ∧ rest.cnt < 9223372036854775806 by have h1 := HI.out.1; simp only [Fo.len] at h1; omega)
    have HRS := hid (show FA B w rest g0 (o0 + (i + 1) * 9) by (have h9 : o0 + (i + 1) * 9 = o0 + i * 9 + 9 := by omega); rw [h9]; exact hrest)
    obtain ⟨x,hx⟩ : ∃ x,x = body.nst := ⟨_,rfl⟩
    obtain ⟨y,hy⟩ : ∃ y,y = els.nst := ⟨_,rfl⟩
    rw [← hx,← hy] at HR
    rw [← hx] at KB nb
    rw [← hy] at KE ne
    have hwx : wrap64 ((x : Int) + 1) = (x : Int) + 1 := by unfold wrap64; omega
    have hwy : wrap64 ((y : Int) + 1) = (y : Int) + 1 := by unfold wrap64; omega
    clear hbo hel hrest HI hg hcn hl hR hx hy x0 x1 x2 x3 x4 x5 x8 nb ne nr h62
    rcases (show (x < y ∨ ¬ x < y) by omega) with hxy | hxy
    ·have d1 : decide ((x : Int) < (y : Int)) = true := by simp; omega
     rcases (show (n < y + 1 ∨ ¬ n < y + 1) by omega) with hn | hn
     ·have d2 : decide ((n : Int) < (y : Int) + 1) = true := by simp; omega
      go_wp2_with (first
       | (go_at_call 138; (with_reducible refine KB.out.mono ?_); rintro e w2 ⟨rfl,rfl⟩)
       | (go_at_call 138; (with_reducible refine KE.out.mono ?_); rintro e w3 ⟨rfl,rfl⟩))
      go_round
      case rel => exact ⟨i + 1,rest,y + 1,hlt,by go_num,by go_num,HLE.out.1,HLE.out.2.1,HRS.out,by have := HR.out; omega,HLE.out.2.2⟩
      case measure => simp [intOf]; omega
     ·have d2 : decide ((n : Int) < (y : Int) + 1) = false := by simp; omega
      go_wp2_with (first
       | (go_at_call 138; (with_reducible refine KB.out.mono ?_); rintro e w2 ⟨rfl,rfl⟩)
       | (go_at_call 138; (with_reducible refine KE.out.mono ?_); rintro e w3 ⟨rfl,rfl⟩))
      go_round
      case rel => exact ⟨i + 1,rest,n,hlt,by go_num,rfl,HLE.out.1,HLE.out.2.1,HRS.out,by have := HR.out; omega,HLE.out.2.2⟩
      case measure => simp [intOf]; omega
    ·have d1 : decide ((x : Int) < (y : Int)) = false := by simp; omega
     rcases (show (n < x + 1 ∨ ¬ n < x + 1) by omega) with hn | hn
     ·have d2 : decide ((n : Int) < (x : Int) + 1) = true := by simp; omega
      go_wp2_with (first
       | (go_at_call 138; (with_reducible refine KB.out.mono ?_); rintro e w2 ⟨rfl,rfl⟩)
       | (go_at_call 138; (with_reducible refine KE.out.mono ?_); rintro e w3 ⟨rfl,rfl⟩))
      go_round
      case rel => exact ⟨i + 1,rest,x + 1,hlt,by go_num,by go_num,HLE.out.1,HLE.out.2.1,HRS.out,by have := HR.out; omega,HLE.out.2.2⟩
      case measure => simp [intOf]; omega
     ·have d2 : decide ((n : Int) < (x : Int) + 1) = false := by simp; omega
      go_wp2_with (first
       | (go_at_call 138; (with_reducible refine KB.out.mono ?_); rintro e w2 ⟨rfl,rfl⟩)
       | (go_at_call 138; (with_reducible refine KE.out.mono ?_); rintro e w3 ⟨rfl,rfl⟩))
      go_round
      case rel => exact ⟨i + 1,rest,n,hlt,by go_num,rfl,HLE.out.1,HLE.out.2.1,HRS.out,by have := HR.out; omega,HLE.out.2.2⟩
      case measure => simp [intOf]; omega
end Go.Proofs.YtjgeedgphcjhoaaGreat
namespace Go.Proofs.YtjgeedgphcjhoaaGreat
open Go.RowKit
noncomputable def onesB : Fo → Bool
 | .nil => true
 | .cons op a b n h l ot body els rest => insB op a b n h l ot body.len els.len && onesB body && onesB els && onesB rest
/-- The numbers are integers of the machine. -/
def Rng : Fo → Prop
 | .nil => True
 | .cons _ a b _ _ l _ body els rest => i64B a ∧ i64B b ∧ (∀ x ∈ l,i64B x) ∧ Rng body ∧ Rng els ∧ Rng rest
set_option maxHeartbeats 8000000 in
theorem ones_says (B : Nat) : ∀ (N : Nat) (f : Fo),f.cnt < N ∧ f.cnt < 9223372036854775806 → Rng f → ∀ (v : Value) (w : World),B ≤ w.heap.size → SA B w v f →
  Calls Tryz.prog 137 #[v] w fun e w' => e = .returned (.bool (onesB f)) ∧ Below w.heap.size w w' := by
 intro N
 induction N with
 | zero => intro f h; omega
 | succ N ih =>
  intro f hf hr v w hB hs
  obtain ⟨p,c,g0,o0,rfl,hp,hfa⟩ := hs
  have hcl := nst_cnt f
  obtain ⟨m,hm⟩ : ∃ m,m = f.len := ⟨_,rfl⟩
  rw [← hm] at hp ⊢
  have HIH := hid ih
  have HP := hid hp
  have HBB := hid hB
  have hm62 : (m : Int) < 9223372036854775807 := by omega
  obtain ⟨R,hR⟩ : ∃ R,R = onesB f := ⟨_,rfl⟩
  rw [← hR]
  have HS : Hid (0 + f.len = m ∧ f.cnt < N + 1 ∧ FA B w f g0 (o0 + 0 * 9) ∧ R = onesB f ∧ (f.cnt < 9223372036854775806 ∧ Rng f) ∧ Below w.heap.size w w) := ⟨by rw [hm]; omega,hf.1,by simpa using hfa,hR,⟨hf.2,hr⟩,Below.refl _ _⟩
  clear ih hp hR hm hfa hf hcl hB hr
  go_enter Tryz.func137,Tryz.ntmps137
  go_wp2
  go_loopw [3] (fun vi wr => ∃ (i : Nat) (fi : Fo),i ≤ m ∧ vi = .int .i64 i ∧ Hid (i + fi.len = m ∧ fi.cnt < N + 1 ∧ FA B w fi g0 (o0 + i * 9) ∧ R = onesB fi ∧ (fi.cnt < 9223372036854775806 ∧ Rng fi) ∧ Below w.heap.size w wr)) (fun vi _ => m - (intOf vi).toNat)
  case atStart => exact ⟨0,f,Nat.zero_le _,rfl,HS⟩
  case round =>
   obtain ⟨i,fi,him,rfl,HI⟩ := hrel
   cases fi with
   | nil =>
    have hi : i = m := HI.out.1
    subst hi
    have HE : Hid (R = true) := HI.out.2.2.2.1
    have HW := hid HI.out.2.2.2.2.2
    go_wp2
    go_ret
    exact ⟨by rw [HE.out]; rfl,HW.out⟩
   | cons op a b nn h l ot body els rest =>
    obtain ⟨hg,⟨vl,vb,ve,x0,x1,x2,x3,x4,x5,x6,x7,x8,hl,hbo,hel⟩,hrest⟩ := HI.out.2.2.1
    have hlt : i < m := by have := HI.out.1; simp only [Fo.len] at this; omega
    obtain rfl := HP.out (by omega)
    have hcn := HI.out.2.1
    simp only [Fo.cnt] at hcn
    have h62 := HI.out.2.2.2.2.1.1
    simp only [Fo.cnt] at h62
    obtain ⟨ra,rb,rl,rbo,rel',rre⟩ := HI.out.2.2.2.2.1.2
    have HL := hid hl
    have HBO := hid hbo
    have HEL := hid hel
    have KB := fun (W : World) (hW : Below w.heap.size w W) => hid (HIH.out body ⟨by omega,by omega⟩ rbo vb W (Nat.le_trans HBB.out hW.size) (SA.below HBO.out (hW.mono HBB.out)))
    have KE := fun (W : World) (hW : Below w.heap.size w W) => hid (HIH.out els ⟨by omega,by omega⟩ rel' ve W (Nat.le_trans HBB.out hW.size) (SA.below HEL.out (hW.mono HBB.out)))
    obtain ⟨pl,cl,evl,_⟩ := id hl
    obtain ⟨pb,cb,_,_,evb,_,_⟩ := id hbo
    obtain ⟨pe,ce,_,_,eve,_,_⟩ := id hel
    obtain ⟨nl,hnl⟩ : ∃ x,x = l.length := ⟨_,rfl⟩
    obtain ⟨nb,hnb⟩ : ∃ x,x = body.len := ⟨_,rfl⟩
    obtain ⟨ne,hne⟩ : ∃ x,x = els.len := ⟨_,rfl⟩
    rw [← hnl] at evl
    rw [← hnb] at evb
    rw [← hne] at eve
    subst evl evb eve
    have K1 := fun (W : World) (hW : Below w.heap.size w W) => hid (One_says op a b nn h l nl hnl pl pb pe cl nb cb ne ce ot B W (Nat.le_trans HBB.out hW.size) (HL.out.below (hW.mono HBB.out)) ra rb rl)
    have hR := HI.out.2.2.2.1
    simp only [onesB] at hR
    rw [← hnb,← hne] at hR
    have HR := hid hR
    have HLE := hid (show i + 1 + rest.len = m ∧ rest.cnt < N + 1 ∧ rest.cnt < 9223372036854775806 by have h1 := HI.out.1; simp only [Fo.len] at h1; omega)
    have HRR := hid rre
    have HRS := hid (show FA B w rest g0 (o0 + (i + 1) * 9) by (have h9 : o0 + (i + 1) * 9 = o0 + i * 9 + 9 := by omega); rw [h9]; exact hrest)
    have HGW := hid (Nat.lt_of_lt_of_le hg HBB.out)
    have hS0 := HI.out.2.2.2.2.2
    generalize insB op a b nn h l ot nb ne = q1 at *
    generalize onesB body = q2 at *
    generalize onesB els = q3 at *
    clear hR hl hbo hel hrest HI hg hcn h62 ra rb rl rbo rel' rre hnl hnb hne
    have HX := hid (And.intro x0 (And.intro x1 (And.intro x2 (And.intro x3 (And.intro x4 (And.intro x5 (And.intro x6 (And.intro x7 x8))))))))
    clear x0 x1 x2 x3 x4 x5 x6 x7 x8
    obtain ⟨x0,x1,x2,x3,x4,x5,x6,x7,x8⟩ := HX.out; have z0 := (hS0.cell (p := ⟨g0,o0 + i * 9,none⟩) HGW.out).trans x0; have z1 := (hS0.cell (p := ⟨g0,o0 + i * 9 + 1,none⟩) HGW.out).trans x1; have z2 := (hS0.cell (p := ⟨g0,o0 + i * 9 + 2,none⟩) HGW.out).trans x2; have z3 := (hS0.cell (p := ⟨g0,o0 + i * 9 + 3,none⟩) HGW.out).trans x3; have z4 := (hS0.cell (p := ⟨g0,o0 + i * 9 + 4,none⟩) HGW.out).trans x4; have z5 := (hS0.cell (p := ⟨g0,o0 + i * 9 + 5,none⟩) HGW.out).trans x5; have z6 := (hS0.cell (p := ⟨g0,o0 + i * 9 + 6,none⟩) HGW.out).trans x6; have z7 := (hS0.cell (p := ⟨g0,o0 + i * 9 + 7,none⟩) HGW.out).trans x7; have z8 := (hS0.cell (p := ⟨g0,o0 + i * 9 + 8,none⟩) HGW.out).trans x8; clear x0 x1 x2 x3 x4 x5 x6 x7 x8
    rcases (show q1 = false ∨ (q1 = true ∧ q2 = false) ∨ (q1 = true ∧ q2 = true ∧ q3 = false) ∨ (q1 = true ∧ q2 = true ∧ q3 = true) by cases q1 <;> cases q2 <;> cases q3 <;> simp) with rfl | ⟨rfl,rfl⟩ | ⟨rfl,rfl,rfl⟩ | ⟨rfl,rfl,rfl⟩
    ·go_wp2_with (first
      | (go_at_call 209; (with_reducible refine (K1 _ hS0).out.mono ?_); rintro e W1 ⟨rfl,hb⟩; have hS1 := hS0.trans (hb.mono hS0.size); clear hb; clear z0 z1 z2 z3 z4 z5 z6 z7 z8; obtain ⟨x0,x1,x2,x3,x4,x5,x6,x7,x8⟩ := HX.out; have u0 := (hS1.cell (p := ⟨g0,o0 + i * 9,none⟩) HGW.out).trans x0; have u1 := (hS1.cell (p := ⟨g0,o0 + i * 9 + 1,none⟩) HGW.out).trans x1; have u2 := (hS1.cell (p := ⟨g0,o0 + i * 9 + 2,none⟩) HGW.out).trans x2; have u3 := (hS1.cell (p := ⟨g0,o0 + i * 9 + 3,none⟩) HGW.out).trans x3; have u4 := (hS1.cell (p := ⟨g0,o0 + i * 9 + 4,none⟩) HGW.out).trans x4; have u5 := (hS1.cell (p := ⟨g0,o0 + i * 9 + 5,none⟩) HGW.out).trans x5; have u6 := (hS1.cell (p := ⟨g0,o0 + i * 9 + 6,none⟩) HGW.out).trans x6; have u7 := (hS1.cell (p := ⟨g0,o0 + i * 9 + 7,none⟩) HGW.out).trans x7; have u8 := (hS1.cell (p := ⟨g0,o0 + i * 9 + 8,none⟩) HGW.out).trans x8; clear x0 x1 x2 x3 x4 x5 x6 x7 x8)
      | (go_at_call 137; (with_reducible refine (KB _ hS1).out.mono ?_); rintro e W2 ⟨rfl,hb⟩; have hS2 := hS1.trans (hb.mono hS1.size); clear hb; clear u0 u1 u2 u3 u4 u5 u6 u7 u8; obtain ⟨x0,x1,x2,x3,x4,x5,x6,x7,x8⟩ := HX.out; have s0 := (hS2.cell (p := ⟨g0,o0 + i * 9,none⟩) HGW.out).trans x0; have s1 := (hS2.cell (p := ⟨g0,o0 + i * 9 + 1,none⟩) HGW.out).trans x1; have s2 := (hS2.cell (p := ⟨g0,o0 + i * 9 + 2,none⟩) HGW.out).trans x2; have s3 := (hS2.cell (p := ⟨g0,o0 + i * 9 + 3,none⟩) HGW.out).trans x3; have s4 := (hS2.cell (p := ⟨g0,o0 + i * 9 + 4,none⟩) HGW.out).trans x4; have s5 := (hS2.cell (p := ⟨g0,o0 + i * 9 + 5,none⟩) HGW.out).trans x5; have s6 := (hS2.cell (p := ⟨g0,o0 + i * 9 + 6,none⟩) HGW.out).trans x6; have s7 := (hS2.cell (p := ⟨g0,o0 + i * 9 + 7,none⟩) HGW.out).trans x7; have s8 := (hS2.cell (p := ⟨g0,o0 + i * 9 + 8,none⟩) HGW.out).trans x8; clear x0 x1 x2 x3 x4 x5 x6 x7 x8)
      | (go_at_call 137; (with_reducible refine (KE _ hS2).out.mono ?_); rintro e W3 ⟨rfl,hb⟩; have hS3 := hS2.trans (hb.mono hS2.size); clear hb; clear s0 s1 s2 s3 s4 s5 s6 s7 s8))
     go_ret
     exact ⟨by rw [HR.out]; simp,hS3⟩
    ·go_wp2_with (first
      | (go_at_call 209; (with_reducible refine (K1 _ hS0).out.mono ?_); rintro e W1 ⟨rfl,hb⟩; have hS1 := hS0.trans (hb.mono hS0.size); clear hb; clear z0 z1 z2 z3 z4 z5 z6 z7 z8; obtain ⟨x0,x1,x2,x3,x4,x5,x6,x7,x8⟩ := HX.out; have u0 := (hS1.cell (p := ⟨g0,o0 + i * 9,none⟩) HGW.out).trans x0; have u1 := (hS1.cell (p := ⟨g0,o0 + i * 9 + 1,none⟩) HGW.out).trans x1; have u2 := (hS1.cell (p := ⟨g0,o0 + i * 9 + 2,none⟩) HGW.out).trans x2; have u3 := (hS1.cell (p := ⟨g0,o0 + i * 9 + 3,none⟩) HGW.out).trans x3; have u4 := (hS1.cell (p := ⟨g0,o0 + i * 9 + 4,none⟩) HGW.out).trans x4; have u5 := (hS1.cell (p := ⟨g0,o0 + i * 9 + 5,none⟩) HGW.out).trans x5; have u6 := (hS1.cell (p := ⟨g0,o0 + i * 9 + 6,none⟩) HGW.out).trans x6; have u7 := (hS1.cell (p := ⟨g0,o0 + i * 9 + 7,none⟩) HGW.out).trans x7; have u8 := (hS1.cell (p := ⟨g0,o0 + i * 9 + 8,none⟩) HGW.out).trans x8; clear x0 x1 x2 x3 x4 x5 x6 x7 x8)
      | (go_at_call 137; (with_reducible refine (KB _ hS1).out.mono ?_); rintro e W2 ⟨rfl,hb⟩; have hS2 := hS1.trans (hb.mono hS1.size); clear hb; clear u0 u1 u2 u3 u4 u5 u6 u7 u8; obtain ⟨x0,x1,x2,x3,x4,x5,x6,x7,x8⟩ := HX.out; have s0 := (hS2.cell (p := ⟨g0,o0 + i * 9,none⟩) HGW.out).trans x0; have s1 := (hS2.cell (p := ⟨g0,o0 + i * 9 + 1,none⟩) HGW.out).trans x1; have s2 := (hS2.cell (p := ⟨g0,o0 + i * 9 + 2,none⟩) HGW.out).trans x2; have s3 := (hS2.cell (p := ⟨g0,o0 + i * 9 + 3,none⟩) HGW.out).trans x3; have s4 := (hS2.cell (p := ⟨g0,o0 + i * 9 + 4,none⟩) HGW.out).trans x4; have s5 := (hS2.cell (p := ⟨g0,o0 + i * 9 + 5,none⟩) HGW.out).trans x5; have s6 := (hS2.cell (p := ⟨g0,o0 + i * 9 + 6,none⟩) HGW.out).trans x6; have s7 := (hS2.cell (p := ⟨g0,o0 + i * 9 + 7,none⟩) HGW.out).trans x7; have s8 := (hS2.cell (p := ⟨g0,o0 + i * 9 + 8,none⟩) HGW.out).trans x8; clear x0 x1 x2 x3 x4 x5 x6 x7 x8)
      | (go_at_call 137; (with_reducible refine (KE _ hS2).out.mono ?_); rintro e W3 ⟨rfl,hb⟩; have hS3 := hS2.trans (hb.mono hS2.size); clear hb; clear s0 s1 s2 s3 s4 s5 s6 s7 s8))
     go_ret
     exact ⟨by rw [HR.out]; simp,hS3⟩
    ·go_wp2_with (first
      | (go_at_call 209; (with_reducible refine (K1 _ hS0).out.mono ?_); rintro e W1 ⟨rfl,hb⟩; have hS1 := hS0.trans (hb.mono hS0.size); clear hb; clear z0 z1 z2 z3 z4 z5 z6 z7 z8; obtain ⟨x0,x1,x2,x3,x4,x5,x6,x7,x8⟩ := HX.out; have u0 := (hS1.cell (p := ⟨g0,o0 + i * 9,none⟩) HGW.out).trans x0; have u1 := (hS1.cell (p := ⟨g0,o0 + i * 9 + 1,none⟩) HGW.out).trans x1; have u2 := (hS1.cell (p := ⟨g0,o0 + i * 9 + 2,none⟩) HGW.out).trans x2; have u3 := (hS1.cell (p := ⟨g0,o0 + i * 9 + 3,none⟩) HGW.out).trans x3; have u4 := (hS1.cell (p := ⟨g0,o0 + i * 9 + 4,none⟩) HGW.out).trans x4; have u5 := (hS1.cell (p := ⟨g0,o0 + i * 9 + 5,none⟩) HGW.out).trans x5; have u6 := (hS1.cell (p := ⟨g0,o0 + i * 9 + 6,none⟩) HGW.out).trans x6; have u7 := (hS1.cell (p := ⟨g0,o0 + i * 9 + 7,none⟩) HGW.out).trans x7; have u8 := (hS1.cell (p := ⟨g0,o0 + i * 9 + 8,none⟩) HGW.out).trans x8; clear x0 x1 x2 x3 x4 x5 x6 x7 x8)
      | (go_at_call 137; (with_reducible refine (KB _ hS1).out.mono ?_); rintro e W2 ⟨rfl,hb⟩; have hS2 := hS1.trans (hb.mono hS1.size); clear hb; clear u0 u1 u2 u3 u4 u5 u6 u7 u8; obtain ⟨x0,x1,x2,x3,x4,x5,x6,x7,x8⟩ := HX.out; have s0 := (hS2.cell (p := ⟨g0,o0 + i * 9,none⟩) HGW.out).trans x0; have s1 := (hS2.cell (p := ⟨g0,o0 + i * 9 + 1,none⟩) HGW.out).trans x1; have s2 := (hS2.cell (p := ⟨g0,o0 + i * 9 + 2,none⟩) HGW.out).trans x2; have s3 := (hS2.cell (p := ⟨g0,o0 + i * 9 + 3,none⟩) HGW.out).trans x3; have s4 := (hS2.cell (p := ⟨g0,o0 + i * 9 + 4,none⟩) HGW.out).trans x4; have s5 := (hS2.cell (p := ⟨g0,o0 + i * 9 + 5,none⟩) HGW.out).trans x5; have s6 := (hS2.cell (p := ⟨g0,o0 + i * 9 + 6,none⟩) HGW.out).trans x6; have s7 := (hS2.cell (p := ⟨g0,o0 + i * 9 + 7,none⟩) HGW.out).trans x7; have s8 := (hS2.cell (p := ⟨g0,o0 + i * 9 + 8,none⟩) HGW.out).trans x8; clear x0 x1 x2 x3 x4 x5 x6 x7 x8)
      | (go_at_call 137; (with_reducible refine (KE _ hS2).out.mono ?_); rintro e W3 ⟨rfl,hb⟩; have hS3 := hS2.trans (hb.mono hS2.size); clear hb; clear s0 s1 s2 s3 s4 s5 s6 s7 s8))
     go_ret
     exact ⟨by rw [HR.out]; simp,hS3⟩
    ·have HF : Hid (R = onesB rest) := by have := HR.out; (show R = onesB rest); simpa using this
     go_wp2_with (first
      | (go_at_call 209; (with_reducible refine (K1 _ hS0).out.mono ?_); rintro e W1 ⟨rfl,hb⟩; have hS1 := hS0.trans (hb.mono hS0.size); clear hb; clear z0 z1 z2 z3 z4 z5 z6 z7 z8; obtain ⟨x0,x1,x2,x3,x4,x5,x6,x7,x8⟩ := HX.out; have u0 := (hS1.cell (p := ⟨g0,o0 + i * 9,none⟩) HGW.out).trans x0; have u1 := (hS1.cell (p := ⟨g0,o0 + i * 9 + 1,none⟩) HGW.out).trans x1; have u2 := (hS1.cell (p := ⟨g0,o0 + i * 9 + 2,none⟩) HGW.out).trans x2; have u3 := (hS1.cell (p := ⟨g0,o0 + i * 9 + 3,none⟩) HGW.out).trans x3; have u4 := (hS1.cell (p := ⟨g0,o0 + i * 9 + 4,none⟩) HGW.out).trans x4; have u5 := (hS1.cell (p := ⟨g0,o0 + i * 9 + 5,none⟩) HGW.out).trans x5; have u6 := (hS1.cell (p := ⟨g0,o0 + i * 9 + 6,none⟩) HGW.out).trans x6; have u7 := (hS1.cell (p := ⟨g0,o0 + i * 9 + 7,none⟩) HGW.out).trans x7; have u8 := (hS1.cell (p := ⟨g0,o0 + i * 9 + 8,none⟩) HGW.out).trans x8; clear x0 x1 x2 x3 x4 x5 x6 x7 x8)
      | (go_at_call 137; (with_reducible refine (KB _ hS1).out.mono ?_); rintro e W2 ⟨rfl,hb⟩; have hS2 := hS1.trans (hb.mono hS1.size); clear hb; clear u0 u1 u2 u3 u4 u5 u6 u7 u8; obtain ⟨x0,x1,x2,x3,x4,x5,x6,x7,x8⟩ := HX.out; have s0 := (hS2.cell (p := ⟨g0,o0 + i * 9,none⟩) HGW.out).trans x0; have s1 := (hS2.cell (p := ⟨g0,o0 + i * 9 + 1,none⟩) HGW.out).trans x1; have s2 := (hS2.cell (p := ⟨g0,o0 + i * 9 + 2,none⟩) HGW.out).trans x2; have s3 := (hS2.cell (p := ⟨g0,o0 + i * 9 + 3,none⟩) HGW.out).trans x3; have s4 := (hS2.cell (p := ⟨g0,o0 + i * 9 + 4,none⟩) HGW.out).trans x4; have s5 := (hS2.cell (p := ⟨g0,o0 + i * 9 + 5,none⟩) HGW.out).trans x5; have s6 := (hS2.cell (p := ⟨g0,o0 + i * 9 + 6,none⟩) HGW.out).trans x6; have s7 := (hS2.cell (p := ⟨g0,o0 + i * 9 + 7,none⟩) HGW.out).trans x7; have s8 := (hS2.cell (p := ⟨g0,o0 + i * 9 + 8,none⟩) HGW.out).trans x8; clear x0 x1 x2 x3 x4 x5 x6 x7 x8)
      | (go_at_call 137; (with_reducible refine (KE _ hS2).out.mono ?_); rintro e W3 ⟨rfl,hb⟩; have hS3 := hS2.trans (hb.mono hS2.size); clear hb; clear s0 s1 s2 s3 s4 s5 s6 s7 s8))
     go_roundw
     case rel => exact ⟨i + 1,rest,hlt,by go_num,HLE.out.1,HLE.out.2.1,HRS.out,HF.out,⟨HLE.out.2.2,HRR.out⟩,hS3⟩
     case measure => simp [intOf]; omega
end Go.Proofs.YtjgeedgphcjhoaaGreat
namespace Go.Proofs.YtjgeedgphcjhoaaGreat
open Go.ChangeShapes Go.WideShapes Go.ChangeAt Go.RowKit
/-- The numbers are integers of the machine, of either kind. -/
def RN : Fo → Prop
 | .nil => True
 | .cons _ a b n h l _ body els rest => i64B a ∧ i64B b ∧ (∀ x ∈ l,i64B x) ∧ RN body ∧ RN els ∧ RN rest ∧ n < 18446744073709551616 ∧ h < 18446744073709551616
theorem RN.rng : ∀ {f : Fo},RN f → Rng f
 | .nil,_ => trivial
 | .cons _ _ _ _ _ _ _ _ _ _,h => ⟨h.1,h.2.1,h.2.2.1,RN.rng h.2.2.2.1,RN.rng h.2.2.2.2.1,RN.rng h.2.2.2.2.2.1⟩
section
variable {H : Type} {enc : TypeId × Value → H} {W : World} {sp : Nat → Bool} {held : Bool}
end
end Go.Proofs.YtjgeedgphcjhoaaGreat
namespace Go.Proofs.YtjgeedgphcjhoaaGreat
open Go.RowKit
theorem if_chain (b1 b2 b3 r : Bool) : (if b1 = true then (if b2 = true then (if b3 = true then (r,()) else (false,())) else (false,())) else (false,())) = (b1 && b2 && b3 && r,()) := by
 cases b1 <;> cases b2 <;> cases b3 <;> rfl
theorem code_ev : ∀ (f : Fo) (d : Int),1 ≤ d → d ≤ 501 → evF codeSt f d () = ((onesB f && decide (d - 1 + (f.nst : Int) ≤ 500)),())
 | .nil,d,h,h2 => by
  refine Prod.ext (Bool.eq_iff_iff.2 ?_) rfl
  simp [evF,onesB,Fo.nst]
  omega
 | .cons op a b n hh l ot body els rest,d,h,h2 => by
  have hX : (Fo.cons op a b n hh l ot body els rest).nst = max (max body.nst els.nst + 1) rest.nst := rfl
  generalize (Fo.cons op a b n hh l ot body els rest).nst = X at *
  by_cases hd : d ≤ 500
  ·rw [evF_cons codeSt op a b n hh l ot body els rest d () (decide (d ≤ 500) && insB op a b n hh l ot body.len els.len) () rfl _ _ (code_ev body (d + 1) (by omega) (by omega)) _ _ (code_ev els (d + 1) (by omega) (by omega)),code_ev rest d h h2]
   refine (if_chain _ _ _ _).trans ?_
   rw [show decide (d ≤ 500) = true by simpa using hd]
   refine Prod.ext (Bool.eq_iff_iff.2 ?_) rfl
   simp only [onesB,Bool.true_and,Bool.and_eq_true,decide_eq_true_eq]
   constructor
   ·rintro ⟨⟨⟨h1,h2,h3⟩,h4,h5⟩,h6,h7⟩
    exact ⟨⟨⟨⟨h1,h2⟩,h4⟩,h6⟩,by omega⟩
   ·rintro ⟨⟨⟨⟨h1,h2⟩,h4⟩,h6⟩,h⟩
    exact ⟨⟨⟨h1,h2,by omega⟩,h4,by omega⟩,h6,by omega⟩
  ·have : d = 501 := by omega
   subst this
   rw [evF_cons codeSt op a b n hh l ot body els rest 501 () false () (by simp [codeSt]) _ _ rfl _ _ rfl]
   refine Prod.ext (Bool.eq_iff_iff.2 ?_) rfl
   simp only [onesB,Bool.and_eq_true,decide_eq_true_eq]
   constructor
   ·intro h; simp at h
   ·rintro ⟨_,h⟩; exact absurd h (by omega)
theorem code_eq (f : Fo) : codeB f = (onesB f && decide ((f.nst : Int) ≤ 500)) := by
 unfold codeB
 rw [code_ev f 1 (by decide) (by decide)]
 simp
theorem Expr_says (f : Fo) (v : Value) (B : Nat) (w : World) (hn : f.cnt < 9223372036854775806) (hr : Rng f) (hB : B ≤ w.heap.size) (hs : SA B w v f) : Calls Tryz.prog 26 #[v] w fun e w' => e = .returned (.bool (codeB f)) ∧ Below w.heap.size w w' := by
 rw [code_eq]
 have HO := hid (ones_says B (f.cnt + 1) f ⟨Nat.lt_succ_self _,hn⟩ hr v w hB hs)
 have HN := fun W (hW : Below w.heap.size w W) => hid (RNest_says B W trivial (f.cnt + 1) f ⟨Nat.lt_succ_self _,hn⟩ v (SA.below hs (hW.mono hB)))
 obtain ⟨x,hx⟩ : ∃ x,x = f.nst := ⟨_,rfl⟩
 rw [← hx] at HN ⊢
 generalize onesB f = r at *
 obtain ⟨p,c,g0,o0,rfl,hp,hfa⟩ := hs
 generalize f.len = m at *
 clear hp hfa hr hn hx
 cases r
 ·go_enter Tryz.func26,Tryz.ntmps26
  go_wp2_with (first | (go_at_call 137; (with_reducible refine HO.out.mono ?_); rintro e w1 ⟨rfl,hb⟩))
  go_ret
  exact ⟨rfl,hb⟩
 ·go_enter Tryz.func26,Tryz.ntmps26
  go_wp2_with (first | (go_at_call 137; (with_reducible refine HO.out.mono ?_); rintro e w1 ⟨rfl,hb⟩) | (go_at_call 138; (with_reducible refine (HN _ hb).out.mono ?_); rintro e w2 ⟨rfl,rfl⟩))
  go_ret
  exact ⟨rfl,hb⟩
end Go.Proofs.YtjgeedgphcjhoaaGreat
namespace Go.Proofs.YtjgeedgphcjhoaaGreat
open Go.RowKit
theorem kn_range (op : Int) (h : knB (lineL op) = true) : 0 ≤ op ∧ op < 65024 := by
 rcases Classical.em (0 ≤ op ∧ op < 65024) with hr | hr
 ·exact hr
 ·have : lineL op = ln0 := by
   unfold lineL
   by_cases h0 : op < 0
   ·rw [if_pos h0]
   ·rw [if_neg h0,if_neg (by omega),if_neg (by omega),if_neg (by omega)]
  rw [this,show knB ln0 = false by kernel_rfl] at h
  cases h
theorem ok_block (op a b : Int) (n h : Nat) (l : List Int) (ot : Bool) (nb ne : Nat) (hi : insB op a b n h l ot nb ne = true) (hk : (lineL op).2.1 = 1) : a = 0 ∨ a = 1 ∨ a = 2 := by
 unfold insB at hi
 rw [hk] at hi
 simp only [okB,if_pos,Bool.and_eq_true] at hi
 obtain ⟨_,h2⟩ := hi
 unfold blB at h2
 by_cases h0 : a = 0
 ·exact .inl h0
 ·by_cases h1 : a = 1
  ·exact .inr (.inl h1)
  ·by_cases h2' : a = 2
   ·exact .inr (.inr h2')
   ·exfalso
    simp [h0,h1,h2'] at h2
theorem okE_of : ∀ f : Fo,onesB f = true → RN f → okE f
 | .nil,_,_ => trivial
 | .cons op a b n h l ot body els rest,h1,h2 => by
  simp only [onesB,Bool.and_eq_true] at h1
  obtain ⟨⟨⟨hi,hb⟩,he⟩,hr⟩ := h1
  obtain ⟨ra,rb,rl,rbo,rel,rre,rn,rh⟩ := h2
  have hk : knB (lineL op) = true := by
   have := hi
   unfold insB at this
   exact (Bool.and_eq_true _ _ ▸ this : _ ∧ _).1
  exact ⟨⟨(kn_range op hk).1,(kn_range op hk).2,rn,rh,rb,ok_block op a b n h l ot _ _ hi⟩,okE_of body hb rbo,okE_of els he rel,okE_of rest hr rre⟩
theorem okE_code (f : Fo) (h : codeB f = true) (hr : RN f) : okE f := by
 rw [code_eq,Bool.and_eq_true] at h
 exact okE_of f h.1 hr
set_option maxHeartbeats 4000000 in
/-- May of a module of one global. -/
theorem May_global (f : Fo) (hn : f.cnt < 9223372036854775806) (p : Option Addr) (n c gv : Nat) (w : World) (hc : CA gv #[.int .i64 127,.bool false,.slice p n c] 46 w) (hs : SA w.heap.size w (.slice p n c) f) :
  Calls Tryz.prog 15 #[.agg #[.slice none 0 0,.slice none 0 0,.slice none 0 0,.slice none 0 0,.slice none 0 0,.slice (some ⟨gv,0,none⟩) 1 1,.slice none 0 0,.int .i64 0,.slice none 0 0,.slice none 0 0,.bool false]] w fun e w' => e = .returned (.bool (codeB f)) ∧ Below w.heap.size w w' := by
 have hgv : ∀ W,Below w.heap.size w W → Calls Tryz.prog 40 #[.slice (some ⟨gv,0,none⟩) 1 1,.func (.func 41) #[] #[]] W fun e w' => e = .returned (.bool (codeB f)) ∧ Below W.heap.size W w' := by
  intro W hW
  have hcW := hc.below hW hc.lt
  have := all_var 41 (fun _ _ => rfl) (fun _ => valB 127 && codeB f) 1 gv 0 1 (fun _ => 127) (fun _ => false) (fun _ => p) (fun _ => n) (fun _ => c) W (fun _ => hcW.lt) (by decide) (some ⟨gv,0,none⟩) (fun _ => rfl)
   (fun i hi => by
    obtain rfl : i = 0 := by omega
    exact ⟨hcW.at rfl,hcW.at rfl,hcW.at rfl⟩)
   (fun i hi W' hW' => isGlobal_says 127 false f p n c w.heap.size W' hn (Nat.le_trans hW.size hW'.size) (SA.below hs (hW.trans (hW'.mono hW.size))))
  simpa [show valB 127 = true from rfl,List.range_succ] using this
 have key := MayG_says none none none none none (some ⟨gv,0,none⟩) none none none 0 0 0 0 0 0 0 0 0 0 1 1 0 0 0 0 0 0 true true true true true (codeB f) true true true true true false 0 w
  (fun W _ => (all_nil_22 31 none 0 W).mono fun e w' h => ⟨h.1,h.2 ▸ Below.refl _ _⟩)
  (fun W _ => (all_nil_24 33 none 0 W).mono fun e w' h => ⟨h.1,h.2 ▸ Below.refl _ _⟩)
  (fun W _ => (all_nil_26 35 none 0 W).mono fun e w' h => ⟨h.1,h.2 ▸ Below.refl _ _⟩)
  (fun W _ => (all_nil_28 37 none 0 W).mono fun e w' h => ⟨h.1,h.2 ▸ Below.refl _ _⟩)
  (fun W _ => (all_nil_30 39 none 0 W).mono fun e w' h => ⟨h.1,h.2 ▸ Below.refl _ _⟩)
  hgv
  (fun W _ => (all_nil_34 43 none 0 W).mono fun e w' h => ⟨h.1,h.2 ▸ Below.refl _ _⟩)
  (fun W => isStart_says 0 W)
  (fun W _ => (all_nil_37 46 none 0 W).mono fun e w' h => ⟨h.1,h.2 ▸ Below.refl _ _⟩)
  (fun W _ => (all_nil_39 48 none 0 W).mono fun e w' h => ⟨h.1,h.2 ▸ Below.refl _ _⟩)
  (fun W _ => (all_nil_26 49 none 0 W).mono fun e w' h => ⟨h.1,h.2 ▸ Below.refl _ _⟩)
 simpa using key
set_option maxHeartbeats 4000000 in
theorem encCode_no (f : Fo) (hn : f.cnt < 9223372036854775806) (v : Value) (w : World) (hs : SA w.heap.size w v f) (hc : codeB f = false) :
  Calls Tryz.prog 25 #[v] w fun e w' => e = .returned (.tuple #[.slice none 0 0,.int .i64 1]) ∧ Below w.heap.size w w' := by
 obtain ⟨p,c,g',o',rfl,_,_⟩ := id hs
 have hb1 := (Below.refl w.heap.size w).alloc (Nat.le_refl _) (.cells #[.int .i64 127,.bool false,.slice p f.len c] 46)
 have hc1 := (CA.new w #[.int .i64 127,.bool false,.slice p f.len c] 46)
 have hc2 := hc1.alloc (.cells #[.slice none 0 0,.slice none 0 0,.slice none 0 0,.slice none 0 0,.slice none 0 0,.slice (some ⟨w.heap.size,0,none⟩) 1 1,.slice none 0 0,.int .i64 0,.slice none 0 0,.slice none 0 0,.bool false] 32)
 have hb2 := hb1.alloc (by rw [size_al]; omega) (.cells #[.slice none 0 0,.slice none 0 0,.slice none 0 0,.slice none 0 0,.slice none 0 0,.slice (some ⟨w.heap.size,0,none⟩) 1 1,.slice none 0 0,.int .i64 0,.slice none 0 0,.slice none 0 0,.bool false] 32)
 have HM := hid (May_global f hn p f.len c w.heap.size _ hc2 (SA.mono (SA.below hs hb2) hb2.size))
 rw [hc] at HM
 have HB2 := hid hb2
 clear hb1 hc1 hc2 hb2 hs hn hc
 generalize f.len = m at *
 go_enter Tryz.func25,Tryz.ntmps25
 go_wp2_with (go_at_call 15; (with_reducible refine HM.out.mono ?_); rintro e w1 ⟨rfl,hb⟩; have HB3 := hid (HB2.out.trans (hb.mono HB2.out.size)); clear hb)
 go_ret2
 exact ⟨rfl,HB3.out⟩
set_option maxHeartbeats 4000000 in
theorem encCode_yes (f : Fo) (hn : f.cnt < 9223372036854775806) (hok : okE f) (hsz : 20 + f.siz ≤ 140737488355000) (v : Value) (w : World) (hs : SA w.heap.size w v f) (hc : codeB f = true) :
  Calls Tryz.prog 25 #[v] w fun e w' => ∃ p n c,e = .returned (.tuple #[.slice p n c,.int .i64 0]) ∧ w'.ownsRow w.heap.size 5 1 (.slice p n c) (f.enc ++ [11]).length (Lib.byteCells (f.enc ++ [11])) ∧ Below w.heap.size w w' := by
 obtain ⟨p,c,g',o',rfl,_,_⟩ := id hs
 have hb1 := (Below.refl w.heap.size w).alloc (Nat.le_refl _) (.cells #[.int .i64 127,.bool false,.slice p f.len c] 46)
 have hc1 := (CA.new w #[.int .i64 127,.bool false,.slice p f.len c] 46)
 have hc2 := hc1.alloc (.cells #[.slice none 0 0,.slice none 0 0,.slice none 0 0,.slice none 0 0,.slice none 0 0,.slice (some ⟨w.heap.size,0,none⟩) 1 1,.slice none 0 0,.int .i64 0,.slice none 0 0,.slice none 0 0,.bool false] 32)
 have hb2 := hb1.alloc (by rw [size_al]; omega) (.cells #[.slice none 0 0,.slice none 0 0,.slice none 0 0,.slice none 0 0,.slice none 0 0,.slice (some ⟨w.heap.size,0,none⟩) 1 1,.slice none 0 0,.int .i64 0,.slice none 0 0,.slice none 0 0,.bool false] 32)
 have HM := hid (May_global f hn p f.len c w.heap.size _ hc2 (SA.mono (SA.below hs hb2) hb2.size))
 rw [hc] at HM
 have HB2 := hid hb2
 have HC := fun W (hW : Below w.heap.size w W) => hid (code_says w.heap.size W.heap.size f hn hok (.slice p f.len c) [] (W.alloc (.cells #[.slice none 0 0] 137)) ⟨hW.size,_,CA.new W #[.slice none 0 0] 137,World.ownsRow_nil _ _ _ _⟩ (SA.below hs (hW.alloc hW.size _)) (by simpa using hsz))
 obtain ⟨E,hE⟩ : ∃ E,E = f.enc ++ [11] := ⟨_,rfl⟩
 rw [← hE] at HC ⊢
 rw [List.nil_append] at HC
 clear hb1 hc1 hc2 hb2 hs hn hc hok hsz hE
 generalize f.len = m at *
 go_enter Tryz.func25,Tryz.ntmps25
 go_wp2_with (first
  | (go_at_call 15; (with_reducible refine HM.out.mono ?_); rintro e w1 ⟨rfl,hb⟩; have HB3 := hid (HB2.out.trans (hb.mono HB2.out.size)); clear hb)
  | (go_at_call 136; (with_reducible refine (HC _ HB3.out).out.mono ?_); rintro e w2 ⟨rfl,⟨hg,u,hcu,hou⟩,hf⟩; have HF := hid (((FR.refl w.heap.size w1.heap.size w1).alloc _).trans hf); obtain ⟨pu,nu,cu,rfl⟩ := own_slice hou; have y0 := hcu.at (k := 0) (v := .slice pu nu cu) rfl; have HOU := hid hou; clear hg hcu hou hf))
 go_ret2
 exact ⟨pu,nu,cu,rfl,HOU.out,HB3.out.trans (HF.out.below HB3.out.size HB3.out.size)⟩
end Go.Proofs.YtjgeedgphcjhoaaGreat
