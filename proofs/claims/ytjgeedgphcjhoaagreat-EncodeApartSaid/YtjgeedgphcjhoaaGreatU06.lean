/-
  Instr, OneS, Ref1, Code, Ones, OpenN: merged, what the law does not reach left out (each text says what it holds where it lies in wip). No condition.
-/
import Derived.Test.YtjgeedgphcjhoaaGreatU04
import Derived.Test.YtjgeedgphcjhoaaGreatU05
import Derived.Test.YtjgeedgphcjhoaaGreatU03
import Derived.Test.YtjgeedgphcjhoaaGreatU02
import Derived.Test.YtjgeedgphcjhoaaGreatU01
set_option linter.unusedSimpArgs false
set_option linter.unusedVariables false
set_option maxRecDepth 100000
namespace Go.Proofs.YtjgeedgphcjhoaaGreat
open Go.RowKit
def okB (k op a b : Int) (n h : Nat) (l : List Int) (ot : Bool) (nb ne : Nat) : Bool :=
 if k = 1 then blB op a b n h ot l.length nb ne
 else if k = 2 ∨ k = 4 ∨ k = 7 ∨ k = 8 ∨ k = 9 ∨ k = 17 ∨ k = 18 ∨ k = 21 then idxB a && unB 0 b n h ot l.length nb ne
 else if k = 3 then (idxB a && l.all idxB) && unB 0 b n h ot 0 nb ne
 else if k = 5 ∨ k = 20 ∨ k = 22 ∨ k = 10 then (idxB a && idxB b) && unB 0 0 n h ot l.length nb ne
 else if k = 6 then l.all valB && unB a b n h ot 0 nb ne
 else if k = 26 then (idxB a && idxB b && ((l.length : Int) == 1) && byteB (l.headD 0)) && unB 0 0 n h ot 0 nb ne
 else if k = 12 ∨ k = 14 then decide ((n : Int) ≤ 4294967295) && unB a b 0 h ot l.length nb ne
 else if k = 13 ∨ k = 15 then unB a b 0 h ot l.length nb ne
 else if k = 23 then unB a b 0 0 ot l.length nb ne
 else if k = 16 then refB a && unB 0 b n h ot l.length nb ne
 else if k = 24 then (((l.length : Int) == 16) && l.all byteB) && unB a b n h ot 0 nb ne
 else if k = 25 then byteB a && unB 0 b n h ot l.length nb ne
 else unB a b n h ot l.length nb ne
noncomputable def insB (op a b : Int) (n h : Nat) (l : List Int) (ot : Bool) (nb ne : Nat) : Bool := knB (lineL op) && okB (lineL op).2.1 op a b n h l ot nb ne
set_option maxHeartbeats 4000000 in
theorem ins_unknown (op : Int) (a b : Int) (n h : Nat) (nl : Nat) (pl pb pe : Option Addr) (cl nb cb ne ce : Nat) (ot : Bool) (w : World)
  (hk : ∀ W,Calls Tryz.prog 233 #[.int .i64 op] W fun e w' => e = .returned (.bool false) ∧ Below W.heap.size W w') :
  Calls Tryz.prog 214 #[.agg #[.int .i64 op,.int .i64 a,.int .i64 b,.int .u64 n,.int .u64 h,.slice pl nl cl,.slice pb nb cb,.slice pe ne ce,.bool ot]] w fun e w' => e = .returned (.bool false) ∧ Below w.heap.size w w' := by
 have HK := fun W => hid (hk W)
 have HBX := hid ((Below.refl w.heap.size w).alloc (Nat.le_refl _) (.cells #[.int .i64 op,.int .i64 a,.int .i64 b,.int .u64 n,.int .u64 h,.slice pl nl cl,.slice pb nb cb,.slice pe ne ce,.bool ot] 39))
 clear hk
 go_enter Tryz.func214,Tryz.ntmps214
 go_wp2_with (go_at_call 233; (with_reducible refine (HK _).out.mono ?_); rintro e w1 ⟨rfl,hb1⟩; have HB1 := hid (HBX.out.trans (hb1.mono HBX.out.size)); clear hb1)
 go_ret
 exact ⟨rfl,HB1.out⟩
theorem isInstr_says (op a b : Int) (n h : Nat) (l : List Int) (nl : Nat) (hnl : nl = l.length) (pl pb pe : Option Addr) (cl nb cb ne ce : Nat) (ot : Bool) (B : Nat) (w : World) (hB : B ≤ w.heap.size) (hl : LI B w (.slice pl nl cl) l) (hn : nl < 9223372036854775807) :
  Calls Tryz.prog 214 #[.agg #[.int .i64 op,.int .i64 a,.int .i64 b,.int .u64 n,.int .u64 h,.slice pl nl cl,.slice pb nb cb,.slice pe ne ce,.bool ot]] w fun e w' => e = .returned (.bool (insB op a b n h l ot nb ne)) ∧ Below w.heap.size w w' := by
 have hK := Known_says op
 have hI := Imm_says op
 obtain ⟨h0,h1,_⟩ := line_ok op
 unfold insB
 generalize knB (lineL op) = kn at *
 generalize (lineL op).2.1 = k at *
 cases kn with
 | false => exact ins_unknown op a b n h nl pl pb pe cl nb cb ne ce ot w hK
 | true =>
  rw [Bool.true_and]
  rcases (show k = 0 ∨ k = 1 ∨ k = 2 ∨ k = 3 ∨ k = 4 ∨ k = 5 ∨ k = 6 ∨ k = 7 ∨ k = 8 ∨ k = 9 ∨ k = 10 ∨ k = 11 ∨ k = 12 ∨ k = 13 ∨ k = 14 ∨ k = 15 ∨ k = 16 ∨ k = 17 ∨ k = 18 ∨ k = 19 ∨ k = 20 ∨ k = 21 ∨ k = 22 ∨ k = 23 ∨ k = 24 ∨ k = 25 ∨ k = 26 by omega) with rfl | rfl | rfl | rfl | rfl | rfl | rfl | rfl | rfl | rfl | rfl | rfl | rfl | rfl | rfl | rfl | rfl | rfl | rfl | rfl | rfl | rfl | rfl | rfl | rfl | rfl | rfl
  ·have := ins_0 0 (by simp) op a b n h l nl hnl pl pb pe cl nb cb ne ce ot B w hB hl hn hK hI
   rw [hnl] at this ⊢
   exact this
  ·have := ins_1 op a b n h nl pl pb pe cl nb cb ne ce ot w hK hI
   rw [hnl] at this ⊢
   exact this
  ·have := ins_2 2 (by simp) op a b n h l nl hnl pl pb pe cl nb cb ne ce ot B w hB hl hn hK hI
   rw [hnl] at this ⊢
   exact this
  ·have := ins_3 op a b n h l nl hnl pl pb pe cl nb cb ne ce ot B w hB hl hn hK hI
   rw [hnl] at this ⊢
   exact this
  ·have := ins_2 4 (by simp) op a b n h l nl hnl pl pb pe cl nb cb ne ce ot B w hB hl hn hK hI
   rw [hnl] at this ⊢
   exact this
  ·have := ins_5 5 (by simp) op a b n h l nl hnl pl pb pe cl nb cb ne ce ot B w hB hl hn hK hI
   rw [hnl] at this ⊢
   exact this
  ·have := ins_6 op a b n h l nl hnl pl pb pe cl nb cb ne ce ot B w hB hl hn hK hI
   rw [hnl] at this ⊢
   exact this
  ·have := ins_2 7 (by simp) op a b n h l nl hnl pl pb pe cl nb cb ne ce ot B w hB hl hn hK hI
   rw [hnl] at this ⊢
   exact this
  ·have := ins_8 op a b n h l nl hnl pl pb pe cl nb cb ne ce ot B w hB hl hn hK hI
   rw [hnl] at this ⊢
   exact this
  ·have := ins_2 9 (by simp) op a b n h l nl hnl pl pb pe cl nb cb ne ce ot B w hB hl hn hK hI
   rw [hnl] at this ⊢
   exact this
  ·have := ins_10 op a b n h l nl hnl pl pb pe cl nb cb ne ce ot B w hB hl hn hK hI
   rw [hnl] at this ⊢
   exact this
  ·have := ins_0 11 (by simp) op a b n h l nl hnl pl pb pe cl nb cb ne ce ot B w hB hl hn hK hI
   rw [hnl] at this ⊢
   exact this
  ·have := ins_12 12 (by simp) op a b n h l nl hnl pl pb pe cl nb cb ne ce ot B w hB hl hn hK hI
   rw [hnl] at this ⊢
   exact this
  ·have := ins_13 13 (by simp) op a b n h l nl hnl pl pb pe cl nb cb ne ce ot B w hB hl hn hK hI
   rw [hnl] at this ⊢
   exact this
  ·have := ins_12 14 (by simp) op a b n h l nl hnl pl pb pe cl nb cb ne ce ot B w hB hl hn hK hI
   rw [hnl] at this ⊢
   exact this
  ·have := ins_13 15 (by simp) op a b n h l nl hnl pl pb pe cl nb cb ne ce ot B w hB hl hn hK hI
   rw [hnl] at this ⊢
   exact this
  ·have := ins_16 op a b n h l nl hnl pl pb pe cl nb cb ne ce ot B w hB hl hn hK hI
   rw [hnl] at this ⊢
   exact this
  ·have := ins_2 17 (by simp) op a b n h l nl hnl pl pb pe cl nb cb ne ce ot B w hB hl hn hK hI
   rw [hnl] at this ⊢
   exact this
  ·have := ins_2 18 (by simp) op a b n h l nl hnl pl pb pe cl nb cb ne ce ot B w hB hl hn hK hI
   rw [hnl] at this ⊢
   exact this
  ·have := ins_0 19 (by simp) op a b n h l nl hnl pl pb pe cl nb cb ne ce ot B w hB hl hn hK hI
   rw [hnl] at this ⊢
   exact this
  ·have := ins_5 20 (by simp) op a b n h l nl hnl pl pb pe cl nb cb ne ce ot B w hB hl hn hK hI
   rw [hnl] at this ⊢
   exact this
  ·have := ins_2 21 (by simp) op a b n h l nl hnl pl pb pe cl nb cb ne ce ot B w hB hl hn hK hI
   rw [hnl] at this ⊢
   exact this
  ·have := ins_5 22 (by simp) op a b n h l nl hnl pl pb pe cl nb cb ne ce ot B w hB hl hn hK hI
   rw [hnl] at this ⊢
   exact this
  ·have := ins_23 op a b n h l nl hnl pl pb pe cl nb cb ne ce ot B w hB hl hn hK hI
   rw [hnl] at this ⊢
   exact this
  ·have := ins_24 op a b n h l nl hnl pl pb pe cl nb cb ne ce ot B w hB hl hn hK hI
   rw [hnl] at this ⊢
   exact this
  ·have := ins_25 op a b n h l nl hnl pl pb pe cl nb cb ne ce ot B w hB hl hn hK hI
   rw [hnl] at this ⊢
   exact this
  have := ins_26 op a b n h l nl hnl pl pb pe cl nb cb ne ce ot B w hB hl hK hI
  rw [hnl] at this ⊢
  exact this
end Go.Proofs.YtjgeedgphcjhoaaGreat
namespace Go.Proofs.YtjgeedgphcjhoaaGreat
open Go.RowKit
def i64B (a : Int) : Prop := -9223372036854775808 ≤ a ∧ a < 9223372036854775808
end Go.Proofs.YtjgeedgphcjhoaaGreat
namespace Go.Proofs.YtjgeedgphcjhoaaGreat
open Go.RowKit
def wg : Fo → Int → Int → Int
 | .nil,_,left => left
 | .cons _ _ _ _ _ l _ body els rest,d,left =>
  if 0 ≤ left then
   wg rest d (if 1000 < l.length then -1 else (if 0 ≤ (if 600 < d + 1 then -1 else wg body (d + 1) (left - 1)) then (if 600 < d + 1 then -1 else wg els (d + 1) (if 600 < d + 1 then -1 else wg body (d + 1) (left - 1))) else (if 600 < d + 1 then -1 else wg body (d + 1) (left - 1))))
  else left
def wgT (f : Fo) (d left : Int) : Int := if 600 < d then -1 else wg f d left
theorem wg_cons (op a b : Int) (n h : Nat) (l : List Int) (ot : Bool) (body els rest : Fo) (d left : Int) (h0 : 0 ≤ left) (A : Int) (hA : wgT body (d + 1) (left - 1) = A) (E : Int) (hE : wgT els (d + 1) A = E) :
  wg (.cons op a b n h l ot body els rest) d left = wg rest d (if 1000 < l.length then -1 else if 0 ≤ A then E else A) := by
 unfold wgT at hA hE
 rw [wg,if_pos h0,hA,hE]
theorem wg_neg : ∀ (f : Fo) (d left : Int),left < 0 → wg f d left = left
 | .nil,_,_,_ => rfl
 | .cons _ _ _ _ _ _ _ _ _ _,d,left,h => by rw [wg,if_neg (by omega)]
theorem wg_bound : ∀ (f : Fo) (d left : Int),-1 ≤ left → -1 ≤ wg f d left ∧ wg f d left ≤ left ∧ (0 ≤ wg f d left → (f.cnt : Int) ≤ left - wg f d left)
 | .nil,_,left,h => ⟨h,Int.le_refl _,fun _ => by simp [wg,Fo.cnt]⟩
 | .cons op a b n hh l ot body els rest,d,left,h => by
  by_cases h0 : 0 ≤ left
  ·have b1 := wg_bound body (d + 1) (left - 1) (by omega)
   have hA : ∃ A,wgT body (d + 1) (left - 1) = A ∧ -1 ≤ A ∧ A ≤ left - 1 ∧ (0 ≤ A → (body.cnt : Int) ≤ left - 1 - A) := by
    unfold wgT
    split
    ·exact ⟨-1,rfl,by omega,by omega,by omega⟩
    exact ⟨_,rfl,b1⟩
   obtain ⟨A,hA,a1,a2,a3⟩ := hA
   have b2 := wg_bound els (d + 1) A a1
   have hE : ∃ E,wgT els (d + 1) A = E ∧ -1 ≤ E ∧ E ≤ A ∧ (0 ≤ E → (els.cnt : Int) ≤ A - E) := by
    unfold wgT
    split
    ·exact ⟨-1,rfl,by omega,by omega,by omega⟩
    exact ⟨_,rfl,b2⟩
   obtain ⟨E,hE,e1,e2,e3⟩ := hE
   rw [wg_cons op a b n hh l ot body els rest d left h0 A hA E hE]
   obtain ⟨C,hC⟩ : ∃ C,C = (if 1000 < l.length then -1 else if 0 ≤ A then E else A) := ⟨_,rfl⟩
   have hc : -1 ≤ C ∧ C ≤ left - 1 ∧ (0 ≤ C → (body.cnt : Int) + els.cnt ≤ left - 1 - C) := by
    rw [hC]
    split
    ·omega
    split
    ·refine ⟨by omega,by omega,fun hc => ?_⟩
     have := a3 (by omega)
     have := e3 hc
     omega
    omega
   rw [← hC]
   have b3 := wg_bound rest d C hc.1
   refine ⟨b3.1,by omega,fun hr => ?_⟩
   have := b3.2.2 hr
   have := hc.2.2 (by omega)
   simp only [Fo.cnt]
   omega
  rw [wg_neg _ _ _ (by omega)]
  exact ⟨h,Int.le_refl _,fun hr => absurd hr h0⟩
theorem wgT_bound (f : Fo) (d left : Int) (h : -1 ≤ left) : -1 ≤ wgT f d left ∧ (wgT f d left ≤ left ∨ wgT f d left = -1) := by
 unfold wgT
 split
 ·exact ⟨by omega,.inr rfl⟩
 have := wg_bound f d left h
 exact ⟨this.1,.inl this.2.1⟩
set_option maxHeartbeats 8000000 in
theorem weigh_says (B : Nat) (w : World) (hB : B ≤ w.heap.size) : ∀ (N : Nat) (f : Fo),f.cnt < N → Lens f → f.len < 9223372036854775807 → ∀ (d left : Int) (v : Value),0 ≤ d → d ≤ 601 → -1 ≤ left → left ≤ 3000 → SA B w v f →
  Calls Tryz.prog 59 #[v,.int .i64 d,.int .i64 left] w fun e w' => e = .returned (.int .i64 (wgT f d left)) ∧ w = w' := by
 intro N
 induction N with
 | zero => intro f h; omega
 | succ N ih =>
  intro f hf hL hlen d left v hd hd1 hl0 hl1 hs
  by_cases h600 : 600 < d
  ·have dd : decide (600 < d) = true := by simpa using h600
   have hr : wgT f d left = -1 := by unfold wgT; rw [if_pos h600]
   rw [hr]
   clear hr h600 hs ih
   go_enter Tryz.func59,Tryz.ntmps59
   go_wp2
   go_ret
   exact ⟨rfl,rfl⟩
  have dd : decide (600 < d) = false := by simpa using h600
  have hr : wgT f d left = wg f d left := by unfold wgT; rw [if_neg h600]
  rw [hr]
  obtain ⟨p,c,g0,o0,rfl,hp,hfa⟩ := hs
  obtain ⟨R,hR⟩ : ∃ R,R = wg f d left := ⟨_,rfl⟩
  rw [← hR]
  obtain ⟨m,hm⟩ : ∃ m,m = f.len := ⟨_,rfl⟩
  rw [← hm] at hp hlen ⊢
  have HIH := hid ih
  have HP := hid hp
  have HS : Hid (0 + f.len = m ∧ f.cnt < N + 1 ∧ FA B w f g0 (o0 + 0 * 9) ∧ R = wg f d left ∧ Lens f) := ⟨by rw [hm]; omega,hf,by simpa using hfa,hR,hL⟩
  have hm62 : (m : Int) < 9223372036854775807 := by omega
  have hdw : wrap64 (d + 1) = d + 1 := by unfold wrap64; omega
  have HD := hid hd
  have HD1 := hid (show d ≤ 600 by omega)
  have HLL := hid (And.intro hl0 hl1)
  clear ih hp hR hm hfa hf hL hr h600 hlen hd hd1 hl0 hl1
  go_enter Tryz.func59,Tryz.ntmps59
  go_wp2
  go_loop [2,7] (fun vl vi => ∃ (i : Nat) (fi : Fo) (li : Int),i ≤ m ∧ vi = .int .i64 i ∧ vl = .int .i64 li ∧ Hid (-1 ≤ li ∧ li ≤ 3000) ∧ Hid (i + fi.len = m ∧ fi.cnt < N + 1 ∧ FA B w fi g0 (o0 + i * 9) ∧ R = wg fi d li ∧ Lens fi)) (fun _ vi => m - (intOf vi).toNat)
  case atStart => exact ⟨0,f,left,Nat.zero_le _,rfl,rfl,HLL,HS⟩
  obtain ⟨i,fi,li,him,rfl,rfl,HLI,HI⟩ := hrel
  by_cases hli : 0 ≤ li
  ·have dl : decide (0 ≤ li) = true := by simpa using hli
   cases fi with
   | nil =>
    have hi : i = m := HI.out.1
    subst hi
    have HE : Hid (R = li) := HI.out.2.2.2.1
    go_wp2
    go_ret
    exact ⟨by rw [HE.out]; rfl,rfl⟩
   | cons op a b n h l ot body els rest =>
    obtain ⟨hg,⟨vl,vb,ve,x0,x1,x2,x3,x4,x5,x6,x7,x8,hl,hbo,hel⟩,hrest⟩ := HI.out.2.2.1
    obtain ⟨pl,cl,evl,_⟩ := id hl
    obtain ⟨nl,hnl⟩ : ∃ x,x = l.length := ⟨_,rfl⟩
    rw [← hnl] at evl
    subst evl
    have hlt : i < m := by have := HI.out.1; simp only [Fo.len] at this; omega
    obtain rfl := HP.out (by omega)
    obtain ⟨q1,q2,q3,q4,q5⟩ := HI.out.2.2.2.2
    have hcn := HI.out.2.1
    simp only [Fo.cnt] at hcn
    obtain ⟨A,hA⟩ : ∃ A,wgT body (d + 1) (li - 1) = A := ⟨_,rfl⟩
    obtain ⟨E,hE⟩ : ∃ E,wgT els (d + 1) A = E := ⟨_,rfl⟩
    have hev := HI.out.2.2.2.1
    rw [wg_cons op a b n h l ot body els rest d li hli A hA E hE,← hnl] at hev
    have bA := wgT_bound body (d + 1) (li - 1) (by omega)
    rw [hA] at bA
    have hA3 : A ≤ 3000 := by have := HLI.out.2; omega
    have bE := wgT_bound els (d + 1) A bA.1
    rw [hE] at bE
    have hE3 : E ≤ 3000 := by omega
    have hsw : wrap64 (li - 1) = li - 1 := by unfold wrap64; have := HLI.out.2; omega
    have KB := hid (HIH.out body (by omega) q3 q1 (d + 1) (li - 1) vb (by have := HD.out; omega) (by have := HD1.out; omega) (by omega) (by have := HLI.out.2; omega) hbo)
    have KE := hid (HIH.out els (by omega) q4 q2 (d + 1) A ve (by have := HD.out; omega) (by have := HD1.out; omega) bA.1 hA3 hel)
    rw [hA] at KB
    rw [hE] at KE
    have HEV := hid hev
    have HLE := hid (show i + 1 + rest.len = m ∧ rest.cnt < N + 1 by have h1 := HI.out.1; simp only [Fo.len] at h1; omega)
    have HRS := hid (show FA B w rest g0 (o0 + (i + 1) * 9) by (have h9 : o0 + (i + 1) * 9 = o0 + i * 9 + 9 := by omega); rw [h9]; exact hrest)
    have HLR := hid q5
    have HBA := hid (And.intro bA.1 hA3)
    have HBE := hid (And.intro bE.1 hE3)
    clear hl hbo hel hrest HI hg hcn hA hE hev bA bE hA3 hE3 q1 q2 q3 q4 q5 hnl x0 x1 x2 x3 x4 x8
    rcases (show (0 ≤ A ∨ A < 0) ∧ (1000 < nl ∨ ¬ 1000 < nl) by omega) with ⟨ha | ha,hn | hn⟩
    ·have da : decide (0 ≤ A) = true := by simp; omega
     have dn : decide (1000 < (nl : Int)) = true := by simp; omega
     have HF : Hid (R = wg rest d (-1)) := by
      have := HEV.out
      rw [if_pos hn] at this
      exact this
     clear ha hn HEV
     go_wp2_with (first | (go_at_call 59; (with_reducible refine KB.out.mono ?_); rintro e w2 ⟨rfl,rfl⟩) | (go_at_call 59; (with_reducible refine KE.out.mono ?_); rintro e w3 ⟨rfl,rfl⟩))
     go_round
     case rel => exact ⟨i + 1,rest,(-1),hlt,by go_num,rfl,⟨by omega,by omega⟩,HLE.out.1,HLE.out.2,HRS.out,HF.out,HLR.out⟩
     case measure => simp [intOf]; omega
    ·have da : decide (0 ≤ A) = true := by simp; omega
     have dn : decide (1000 < (nl : Int)) = false := by simp; omega
     have HF : Hid (R = wg rest d E) := by
      have := HEV.out
      rw [if_neg hn,if_pos ha] at this
      exact this
     clear ha hn HEV
     go_wp2_with (first | (go_at_call 59; (with_reducible refine KB.out.mono ?_); rintro e w2 ⟨rfl,rfl⟩) | (go_at_call 59; (with_reducible refine KE.out.mono ?_); rintro e w3 ⟨rfl,rfl⟩))
     go_round
     case rel => exact ⟨i + 1,rest,E,hlt,by go_num,rfl,HBE,HLE.out.1,HLE.out.2,HRS.out,HF.out,HLR.out⟩
     case measure => simp [intOf]; omega
    ·have da : decide (0 ≤ A) = false := by simp; omega
     have dn : decide (1000 < (nl : Int)) = true := by simp; omega
     have HF : Hid (R = wg rest d (-1)) := by
      have := HEV.out
      rw [if_pos hn] at this
      exact this
     clear ha hn HEV
     go_wp2_with (go_at_call 59; (with_reducible refine KB.out.mono ?_); rintro e w2 ⟨rfl,rfl⟩)
     go_round
     case rel => exact ⟨i + 1,rest,(-1),hlt,by go_num,rfl,⟨by omega,by omega⟩,HLE.out.1,HLE.out.2,HRS.out,HF.out,HLR.out⟩
     case measure => simp [intOf]; omega
    have da : decide (0 ≤ A) = false := by simp; omega
    have dn : decide (1000 < (nl : Int)) = false := by simp; omega
    have HF : Hid (R = wg rest d A) := by
     have := HEV.out
     rw [if_neg hn,if_neg (by omega)] at this
     exact this
    clear ha hn HEV
    go_wp2_with (go_at_call 59; (with_reducible refine KB.out.mono ?_); rintro e w2 ⟨rfl,rfl⟩)
    go_round
    case rel => exact ⟨i + 1,rest,A,hlt,by go_num,rfl,HBA,HLE.out.1,HLE.out.2,HRS.out,HF.out,HLR.out⟩
    case measure => simp [intOf]; omega
  have dl : decide (0 ≤ li) = false := by simpa using hli
  have HE : Hid (R = li) := by rw [HI.out.2.2.2.1]; exact wg_neg _ _ _ (by omega)
  have hlt : i < m ∨ i = m := by omega
  clear hli HI
  rcases hlt with hlt | rfl
  ·go_wp2
   go_ret
   exact ⟨by rw [HE.out]; rfl,rfl⟩
  go_wp2
  go_ret
  exact ⟨by rw [HE.out]; rfl,rfl⟩
theorem Few_says (f : Fo) (v : Value) (w : World) (hL : Lens f) (hlen : f.len < 9223372036854775807) (hs : SA w.heap.size w v f) : Calls Tryz.prog 17 #[v] w fun e w' => e = .returned (.bool (decide (0 ≤ wg f 0 3000))) ∧ w = w' := by
 have H := hid (weigh_says w.heap.size w (Nat.le_refl _) (f.cnt + 1) f (Nat.lt_succ_self _) hL hlen 0 3000 v (by decide) (by decide) (by decide) (by decide) hs)
 rw [show wgT f 0 3000 = wg f 0 3000 from if_neg (by decide)] at H
 generalize wg f 0 3000 = r at *
 clear hL hs hlen
 go_enter Tryz.func17,Tryz.ntmps17
 go_wp2_with (go_at_call 59; (with_reducible refine H.out.mono ?_); rintro e w2 ⟨rfl,rfl⟩)
 go_ret
 exact ⟨rfl,rfl⟩
theorem few_cnt (f : Fo) (h : 0 ≤ wg f 0 3000) : f.cnt ≤ 3000 := by
 have := (wg_bound f 0 3000 (by decide)).2.2 h
 omega
end Go.Proofs.YtjgeedgphcjhoaaGreat
namespace Go.Proofs.YtjgeedgphcjhoaaGreat
open Go.RowKit
theorem KP.set (w : World) (g k : Nat) (v : Value) : KP (some g) w (w.setCell ⟨g,k,none⟩ v) := ⟨rfl,rfl,rfl,by simp [World.setCell],fun i hi hc => Below.heap_setCell _ _ _ _ (fun e => hc (by rw [e]))⟩
noncomputable def codeSt (_ : Unit) (d op a b : Int) (n h : Nat) (l : List Int) (ot : Bool) (body els : Fo) : Bool × Unit := (decide (d ≤ 500) && insB op a b n h l ot body.len els.len,())
noncomputable def codeB (f : Fo) : Bool := (evF codeSt f 1 ()).1
noncomputable def dataSt (_ : Unit) (d op a b : Int) (n h : Nat) (l : List Int) (ot : Bool) (body els : Fo) : Bool × Unit := ((lineL op).2.1 != 17 && (lineL op).2.1 != 18,())
noncomputable def dataB (f : Fo) : Bool := (evF dataSt f 1 ()).1
set_option maxHeartbeats 2000000 in
theorem asks_code (B : Nat) : Asked 213 #[] (fun (_ : Unit) _ => True) codeSt B none := by
 intro s d op a b n h l ot body els vl vb ve w hd hB hc hl hbo hel hs
 obtain ⟨pl,cl,rfl,hq,_⟩ := id hl
 obtain ⟨pb,cb,_,_,rfl,_,_⟩ := hbo
 obtain ⟨pe,ce,_,_,rfl,_,_⟩ := hel
 show Calls Tryz.prog 213 #[.agg #[.int .i64 op,.int .i64 a,.int .i64 b,.int .u64 n,.int .u64 h,.slice pl l.length cl,.slice pb body.len cb,.slice pe els.len ce,.bool ot],.int .i64 d] w fun e w' => e = .returned (.bool (decide (d ≤ 500) && insB op a b n h l ot body.len els.len)) ∧ True ∧ KP none w w'
 have HI : ∀ W,Below w.heap.size w W → Hid (Calls Tryz.prog 214 #[.agg #[.int .i64 op,.int .i64 a,.int .i64 b,.int .u64 n,.int .u64 h,.slice pl l.length cl,.slice pb body.len cb,.slice pe els.len ce,.bool ot]] W fun e w' => e = .returned (.bool (insB op a b n h l ot body.len els.len)) ∧ Below W.heap.size W w') := fun W hW => isInstr_says op a b n h l l.length rfl pl pb pe cl body.len cb els.len ce ot B W (Nat.le_trans hB hW.size) (hl.below (hW.mono hB)) hq
 generalize insB op a b n h l ot body.len els.len = u at *
 generalize l.length = nl at *
 generalize body.len = nb at *
 generalize els.len = ne at *
 have HBX := hid ((Below.refl w.heap.size w).alloc (Nat.le_refl _) (.cells #[.int .i64 op,.int .i64 a,.int .i64 b,.int .u64 n,.int .u64 h,.slice pl nl cl,.slice pb nb cb,.slice pe ne ce,.bool ot] 39))
 obtain ⟨b5,d5⟩ : ∃ x,decide (d ≤ 500) = x := ⟨_,rfl⟩
 rw [d5]
 clear hl hq hd hs hB hc
 cases b5 with
 | false =>
  go_enter Tryz.func213,Tryz.ntmps213
  go_wp2
  go_ret
  exact ⟨rfl,trivial,KP.of HBX.out⟩
 | true =>
  go_enter Tryz.func213,Tryz.ntmps213
  go_wp2_with (go_at_call 214; (with_reducible refine (HI _ HBX.out).out.mono ?_); rintro e w1 ⟨rfl,hb1⟩; have HB1 := hid (HBX.out.trans (hb1.mono HBX.out.size)); clear hb1)
  go_ret
  exact ⟨by simp,trivial,KP.of HB1.out⟩
theorem isCode_says (f : Fo) (v : Value) (B : Nat) (w : World) (hn : f.cnt < 9223372036854775806) (hB : B ≤ w.heap.size) (hs : SA B w v f) : Calls Tryz.prog 148 #[v] w fun e w' => e = .returned (.bool (codeB f)) ∧ Below w.heap.size w w' := by
 have H := hid (every_says 213 #[] (fun _ _ => rfl) (fun (_ : Unit) _ => True) codeSt B none (fun k e => by cases e) (fun _ _ _ _ _ => trivial) (asks_code B) f () v w hn hB (fun k e => by cases e) hs trivial)
 unfold codeB
 generalize (evF codeSt f 1 ()).1 = r at *
 clear hs hn
 go_enter Tryz.func148,Tryz.ntmps148
 go_wp2_with (go_at_call 140; (with_reducible refine H.out.mono ?_); rintro e w1 ⟨rfl,_,hk1⟩)
 go_ret
 exact ⟨rfl,hk1.pure⟩
set_option maxHeartbeats 2000000 in
theorem asks_data (B : Nat) : Asked 151 #[] (fun (_ : Unit) _ => True) dataSt B none := by
 intro s d op a b n h l ot body els vl vb ve w hd hB hc hl hbo hel hs
 obtain ⟨pl,cl,rfl,hq,_⟩ := id hl
 obtain ⟨pb,cb,_,_,rfl,_,_⟩ := hbo
 obtain ⟨pe,ce,_,_,rfl,_,_⟩ := hel
 have HI := fun W => hid (Imm_says op W)
 unfold dataSt
 generalize (lineL op).2.1 = k at *
 show Calls Tryz.prog 151 #[.agg #[.int .i64 op,.int .i64 a,.int .i64 b,.int .u64 n,.int .u64 h,.slice pl l.length cl,.slice pb body.len cb,.slice pe els.len ce,.bool ot],.int .i64 d] w fun e w' => e = .returned (.bool (k != 17 && k != 18)) ∧ True ∧ KP none w w'
 generalize l.length = nl at *
 generalize body.len = nb at *
 generalize els.len = ne at *
 have HBX := hid ((Below.refl w.heap.size w).alloc (Nat.le_refl _) (.cells #[.int .i64 op,.int .i64 a,.int .i64 b,.int .u64 n,.int .u64 h,.slice pl nl cl,.slice pb nb cb,.slice pe ne ce,.bool ot] 39))
 obtain ⟨b5,d5⟩ : ∃ x,(k != 17) = x := ⟨_,rfl⟩
 rw [d5]
 clear hl hq hd hs hB hc
 cases b5
 all_goals
  go_enter Tryz.func151,Tryz.ntmps151
  go_wp2_with (go_at_call 152; (with_reducible refine (HI _).out.mono ?_); rintro e w1 ⟨rfl,hb1⟩; have HB1 := hid (HBX.out.trans (hb1.mono HBX.out.size)); clear hb1)
  go_ret
  exact ⟨by simp,trivial,KP.of HB1.out⟩
end Go.Proofs.YtjgeedgphcjhoaaGreat
namespace Go.Proofs.YtjgeedgphcjhoaaGreat
open Go.RowKit
noncomputable def onesB : Fo → Bool
 | .nil => true
 | .cons op a b n h l ot body els rest => insB op a b n h l ot body.len els.len && onesB body && onesB els && onesB rest
end Go.Proofs.YtjgeedgphcjhoaaGreat
namespace Go.Proofs.YtjgeedgphcjhoaaGreat
open Go.ChangeShapes Go.WideShapes Go.ChangeAt Go.RowKit
def RN : Fo → Prop
 | .nil => True
 | .cons _ a b n h l _ body els rest => i64B a ∧ i64B b ∧ (∀ x ∈ l,i64B x) ∧ RN body ∧ RN els ∧ RN rest ∧ n < 18446744073709551616 ∧ h < 18446744073709551616
section
variable {H : Type} {enc : TypeId × Value → H} {W : World} {sp : Nat → Bool} {held : Bool}
theorem open_listN {fuel : Nat} {v : Value} {x : DataW H × List MemPlace} (h : DataW.trod enc Tryz.prog W 0 sp held fuel 36 [v] = some x) (hw : WB 36 x.1) : ∃ l p c,v = .slice p l.length c ∧ LI W.heap.size W v l ∧ ∀ x ∈ l,i64B x := by
 rcases DataW.trod_slice Tryz.underlying36 h with ⟨hc,rfl⟩ | ⟨a,len,cap,elems,rest,n,rfl,hc,rfl,hb,hl,hm,he,hat,_,_⟩
 ·obtain rfl : v = .slice none 0 0 := by simpa using hc
  exact ⟨[],none,0,rfl,LI.nil _ _ _ _,fun x hx => absurd hx (by simp)⟩
 obtain rfl : v = .slice (some a) len cap := by simpa using hc
 obtain ⟨hs,hel⟩ := wb_slice Tryz.underlying36 hw
 rw [by3] at hs
 simp only [List.length_map] at hs
 have hall : ∀ i,i < len → ∃ z : Int,W.cell? (a.add i) = some (.int .i64 z) ∧ i64B z := by
  intro i hi
  have h1 := hat i hi
  rw [c3,Nat.mul_one] at h1
  obtain ⟨y,hy⟩ : ∃ y,elems[i]? = some y := ⟨_,List.getElem?_eq_getElem (by omega)⟩
  rw [hy] at h1
  obtain ⟨cs,hcs,htr⟩ := Option.bind_eq_some_iff.1 h1
  obtain ⟨_,hlen,hcell⟩ := World.cells?_some hcs
  obtain ⟨z,rfl,_,wz⟩ := DataW.trod_int Tryz.underlying3 htr
  have := hcell 0 (by decide)
  have bz := bounds_i64 wz
  refine ⟨z,?_,⟨bz.1,by omega⟩⟩
  rw [add_zero'] at this
  simpa using this
 obtain ⟨f,hf⟩ : ∃ f : Nat → Int,∀ i,i < len → W.cell? (a.add i) = some (.int .i64 (f i)) ∧ i64B (f i) := ⟨fun i => if h : i < len then Classical.choose (hall i h) else 0,fun i hi => by simp only [hi,dif_pos]; exact Classical.choose_spec (hall i hi)⟩
 refine ⟨(List.range len).map f,some a,cap,by simp,⟨some a,cap,by simp,by simp [reachBytes] at hs ⊢; omega,fun hne => ?_⟩,fun x hx => by
  obtain ⟨i,hi,rfl⟩ := List.mem_map.1 hx
  exact (hf i (List.mem_range.1 hi)).2⟩
 have hpos : 0 < len := by
  rcases Nat.eq_zero_or_pos len with h0 | h0
  ·subst h0; simp at hne
  exact h0
 have hsp := spot_none (hf 0 hpos).1
 refine ⟨a.block,a.off,by cases a; simp_all,?_,fun j x hj => ?_⟩
 ·have hlt := World.block_lt_of_cell? _ _ (cell_plain hsp (hf 0 hpos).1)
  exact hlt
 have hjl : j < len := by
  have := (List.getElem?_eq_some_iff.1 hj).1
  simpa using this
 simp [List.getElem?_map,List.getElem?_range hjl] at hj
 rw [← hj]
 exact cell_plain hsp (hf j hjl).1
theorem open_nodeN {n : Nat} {cs : List Value} {y : DataW H × List MemPlace} (h : DataW.trod enc Tryz.prog W 0 sp held n 39 cs = some y) (hw : WB 39 y.1)
  (hrec : ∀ m,m < n → ∀ v z,DataW.trod enc Tryz.prog W 0 sp held m 37 [v] = some z → WB 37 z.1 → ∃ f,SA W.heap.size W v f ∧ f.len < 9223372036854775807 ∧ (Lens f ∧ RN f)) :
  ∃ (op a b : Int) (nn hh : Nat) (l : List Int) (ot : Bool) (body els : Fo) (vl vb ve : Value),cs = [.int .i64 op,.int .i64 a,.int .i64 b,.int .u64 (nn : Nat),.int .u64 (hh : Nat),vl,vb,ve,.bool ot] ∧ nn < 18446744073709551616 ∧ hh < 18446744073709551616 ∧
   LI W.heap.size W vl l ∧ SA W.heap.size W vb body ∧ SA W.heap.size W ve els ∧ body.len < 9223372036854775807 ∧ els.len < 9223372036854775807 ∧ (Lens body ∧ RN body) ∧ (Lens els ∧ RN els) ∧ i64B a ∧ i64B b ∧ ∀ x ∈ l,i64B x := by
 obtain ⟨f0,f1,f2,f3,f4,f5,f6,f7,f8,hu,⟨t0,t1,t2,t3,t4,t5,t6,t7,t8⟩,⟨o0,o1,o2,o3,o4,o5,o6,o7,o8⟩⟩ := fields39
 obtain ⟨xs,m,rfl,hx,hl,hlen,hat⟩ := DataW.trod_struct hu h
 rw [c39] at hl
 obtain ⟨k0,k1,k2,k3,k4,k5,k6,k7,k8,rfl⟩ : ∃ k0 k1 k2 k3 k4 k5 k6 k7 k8,cs = [k0,k1,k2,k3,k4,k5,k6,k7,k8] := by
  match cs,hl with
  | [_,_,_,_,_,_,_,_,_],_ => exact ⟨_,_,_,_,_,_,_,_,_,rfl⟩
 obtain ⟨y0,y1,y2,y3,y4,y5,y6,y7,y8,rfl⟩ : ∃ y0 y1 y2 y3 y4 y5 y6 y7 y8,xs = [y0,y1,y2,y3,y4,y5,y6,y7,y8] := by
  match xs,hlen with
  | [_,_,_,_,_,_,_,_,_],_ => exact ⟨_,_,_,_,_,_,_,_,_,rfl⟩
 have h0 := hat 0 f0 rfl
 have h1 := hat 1 f1 rfl
 have h2 := hat 2 f2 rfl
 have h3 := hat 3 f3 rfl
 have h4 := hat 4 f4 rfl
 have h5 := hat 5 f5 rfl
 have h6 := hat 6 f6 rfl
 have h7 := hat 7 f7 rfl
 have h8 := hat 8 f8 rfl
 rw [t0,o0,c3] at h0
 rw [t1,o1,c3] at h1
 rw [t2,o2,c3] at h2
 rw [t3,o3,c35] at h3
 rw [t4,o4,c35] at h4
 rw [t5,o5,c36] at h5
 rw [t6,o6,c37] at h6
 rw [t7,o7,c37] at h7
 rw [t8,o8,c4] at h8
 obtain ⟨z0,e0,_,_⟩ := DataW.trod_int Tryz.underlying3 h0
 obtain ⟨z1,e1,_,w1⟩ := DataW.trod_int Tryz.underlying3 h1
 obtain ⟨z2,e2,_,w2⟩ := DataW.trod_int Tryz.underlying3 h2
 obtain ⟨z3,e3,_,w3⟩ := DataW.trod_int Tryz.underlying35 h3
 obtain ⟨z4,e4,_,w4⟩ := DataW.trod_int Tryz.underlying35 h4
 obtain ⟨z8,e8,_⟩ := DataW.trod_bool Tryz.underlying4 h8
 obtain rfl : k0 = .int .i64 z0 := by simpa using e0
 obtain rfl : k1 = .int .i64 z1 := by simpa using e1
 obtain rfl : k2 = .int .i64 z2 := by simpa using e2
 obtain rfl : k3 = .int .u64 z3 := by simpa using e3
 obtain rfl : k4 = .int .u64 z4 := by simpa using e4
 obtain rfl : k8 = .bool z8 := by simpa using e8
 obtain ⟨b1,b2⟩ := bounds_u64 w3
 obtain ⟨b3,b4⟩ := bounds_u64 w4
 obtain ⟨n3,rfl⟩ := Int.eq_ofNat_of_zero_le b1
 obtain ⟨n4,rfl⟩ := Int.eq_ofNat_of_zero_le b3
 rw [hx] at hw
 have q5 := wb_part hu hw 5 f5 y5.1 rfl rfl
 have q6 := wb_part hu hw 6 f6 y6.1 rfl rfl
 have q7 := wb_part hu hw 7 f7 y7.1 rfl rfl
 rw [t5] at q5
 rw [t6] at q6
 rw [t7] at q7
 obtain ⟨l,p5,c5,e5,hl5,r5⟩ := open_listN (v := k5) h5 q5
 obtain ⟨fb,sb,lb,nb⟩ := hrec m (Nat.lt_succ_self _) k6 y6 h6 q6
 obtain ⟨fe,se,le,ne⟩ := hrec m (Nat.lt_succ_self _) k7 y7 h7 q7
 exact ⟨z0,z1,z2,n3,n4,l,z8,fb,fe,k5,k6,k7,rfl,by omega,by omega,hl5,sb,se,lb,le,nb,ne,⟨(bounds_i64 w1).1,by have := (bounds_i64 w1).2; omega⟩,⟨(bounds_i64 w2).1,by have := (bounds_i64 w2).2; omega⟩,r5⟩
theorem open_codeN : ∀ (fuel : Nat) (v : Value) (x : DataW H × List MemPlace),DataW.trod enc Tryz.prog W 0 sp held fuel 37 [v] = some x → WB 37 x.1 → ∃ f,SA W.heap.size W v f ∧ f.len < 9223372036854775807 ∧ (Lens f ∧ RN f) := by
 intro fuel
 induction fuel using Nat.strongRecOn with
 | ind fuel ih =>
  intro v x h hw
  rcases DataW.trod_slice Tryz.underlying37 h with ⟨hc,rfl⟩ | ⟨a,len,cap,elems,rest,n,rfl,hc,rfl,hb,hl,hm,he,hat,_,_⟩
  ·obtain rfl : v = .slice none 0 0 := by simpa using hc
   exact ⟨.nil,SA.nil _ _ _ _,by decide,trivial,trivial⟩
  obtain rfl : v = .slice (some a) len cap := by simpa using hc
  obtain ⟨hs,hel⟩ := wb_slice Tryz.underlying37 hw
  simp only [List.length_map] at hs
  have hlen : len < 9223372036854775807 := by
   have h8 := by39
   have : (elems.length + rest.length) * 8 ≤ reachBytes := Nat.le_trans (Nat.mul_le_mul_left _ h8) hs
   simp [reachBytes] at this
   omega
  have hnode : ∀ i,i < len → ∃ cs,(∀ k,k < 9 → W.cell? ((a.add (i * 9)).add k) = cs[k]?) ∧ ∃ (op a b : Int) (nn hh : Nat) (l : List Int) (ot : Bool) (body els : Fo) (vl vb ve : Value),cs = [.int .i64 op,.int .i64 a,.int .i64 b,.int .u64 (nn : Nat),.int .u64 (hh : Nat),vl,vb,ve,.bool ot] ∧ nn < 18446744073709551616 ∧ hh < 18446744073709551616 ∧
    LI W.heap.size W vl l ∧ SA W.heap.size W vb body ∧ SA W.heap.size W ve els ∧ body.len < 9223372036854775807 ∧ els.len < 9223372036854775807 ∧ (Lens body ∧ RN body) ∧ (Lens els ∧ RN els) ∧ i64B a ∧ i64B b ∧ ∀ x ∈ l,i64B x := by
   intro i hi
   have h1 := hat i hi
   rw [c39] at h1
   obtain ⟨y,hy⟩ : ∃ y,elems[i]? = some y := ⟨_,List.getElem?_eq_getElem (by omega)⟩
   rw [hy] at h1
   obtain ⟨cs,hcs,htr⟩ := Option.bind_eq_some_iff.1 h1
   obtain ⟨_,_,hcell⟩ := World.cells?_some hcs
   exact ⟨cs,hcell,open_nodeN htr (hel y.1 (List.mem_map.2 ⟨y,List.mem_of_getElem? hy,rfl⟩)) (fun m hm v z hv hz => ih m (by omega) v z hv hz)⟩
  rcases Nat.eq_zero_or_pos len with h0 | hpos
  ·subst h0
   exact ⟨.nil,SA.nil _ _ _ _,by decide,trivial,trivial⟩
  have hsp : a.spot = none := by
   obtain ⟨cs,hcell,op,_,_,_,_,_,_,_,_,_,_,_,rfl,_⟩ := hnode 0 hpos
   have := hcell 0 (by decide)
   rw [Nat.zero_mul] at this
   rw [add_zero'] at this
   exact spot_none (by simpa using this)
  have key : ∀ m,m ≤ len → ∃ f : Fo,f.len = m ∧ FA W.heap.size W f a.block (a.off + (len - m) * 9) ∧ (Lens f ∧ RN f) := by
   intro m
   induction m with
   | zero => exact fun _ => ⟨.nil,rfl,trivial,trivial,trivial⟩
   | succ m ihm =>
    intro hm1
    obtain ⟨fr,hfl,hfa,hln⟩ := ihm (by omega)
    obtain ⟨cs,hcell,op,x1,x2,nn,hh,l,ot,body,els,vl,vb,ve,rfl,n1,n2,hL,hB,hE,lb,le,nb,ne,r1,r2,rl⟩ := hnode (len - (m + 1)) (by omega)
    have hc : ∀ k v,k < 9 → [Value.int .i64 op,.int .i64 x1,.int .i64 x2,.int .u64 (nn : Nat),.int .u64 (hh : Nat),vl,vb,ve,.bool ot][k]? = some v → W.cell? ⟨a.block,a.off + (len - (m + 1)) * 9 + k,none⟩ = some v := by
     intro k v hk hv
     have h1 := (hcell k hk).trans hv
     have hs2 : (a.add ((len - (m + 1)) * 9)).spot = none := by
      unfold Addr.add
      split
      ·exact hsp
      rfl
     have h2 := cell_plain hs2 h1
     have e1 : (a.add ((len - (m + 1)) * 9)).block = a.block := by unfold Addr.add; split <;> rfl
     have e2 : (a.add ((len - (m + 1)) * 9)).off = a.off + (len - (m + 1)) * 9 := by
      unfold Addr.add
      split
      ·omega
      rfl
     rw [e1,e2] at h2
     exact h2
    have hg := World.block_lt_of_cell? _ _ (hc 0 _ (by decide) rfl)
    have ho : a.off + (len - (m + 1)) * 9 + 9 = a.off + (len - m) * 9 := by omega
    refine ⟨.cons op x1 x2 nn hh l ot body els fr,by simp only [Fo.len]; omega,⟨hg,⟨vl,vb,ve,hc 0 _ (by decide) rfl,hc 1 _ (by decide) rfl,hc 2 _ (by decide) rfl,hc 3 _ (by decide) rfl,hc 4 _ (by decide) rfl,hc 5 _ (by decide) rfl,hc 6 _ (by decide) rfl,hc 7 _ (by decide) rfl,hc 8 _ (by decide) rfl,hL,hB,hE⟩,by rw [ho]; exact hfa⟩,⟨lb,le,nb.1,ne.1,hln.1⟩,⟨r1,r2,rl,nb.2,ne.2,hln.2,n1,n2⟩⟩
  obtain ⟨f,hfl,hfa,hln⟩ := key len (Nat.le_refl _)
  rw [Nat.sub_self,Nat.zero_mul,Nat.add_zero] at hfa
  exact ⟨f,⟨some a,cap,a.block,a.off,by rw [hfl],fun _ => by cases a; simp_all,hfa⟩,by omega,hln⟩
end
end Go.Proofs.YtjgeedgphcjhoaaGreat
