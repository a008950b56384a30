/-
  Ones, Expr, Asks, DataEq, LNums, EMath, OpenN: merged, what the law does not reach left out (each text says what it holds where it lies in wip). No condition.
-/
import Derived.Test.YtjgeedgphcjhoaaGreatO23
import Derived.Laws.BitsLemmas
import Derived.Laws.Bits64
import Derived.Laws.Bits64b
import Derived.Lib.UnsafeStr
import Derived.Test.YtjgeedgphcjhoaaGreatO02
set_option linter.unusedSimpArgs false
set_option linter.unusedVariables false
set_option maxRecDepth 100000
namespace Go.Proofs.YtjgeedgphcjhoaaGreat
open Go.RowKit
noncomputable def onesB : Fo → Bool
 | .nil => true
 | .cons op a b n h l ot body els rest => insB op a b n h l ot body.len els.len && onesB body && onesB els && onesB rest
/-- The numbers are integers of the machine. -/
def Rng : Fo → Prop
 | .nil => True
 | .cons _ a b _ _ l _ body els rest => i64B a ∧ i64B b ∧ (∀ x ∈ l,i64B x) ∧ Rng body ∧ Rng els ∧ Rng rest
set_option maxHeartbeats 8000000 in
theorem ones_says (B : Nat) : ∀ (N : Nat) (f : Fo),f.cnt < N ∧ f.cnt < 9223372036854775806 → Rng f → ∀ (v : Value) (w : World),B ≤ w.heap.size → SA B w v f →
  Calls Tryz.prog 137 #[v] w fun e w' => e = .returned (.bool (onesB f)) ∧ Below w.heap.size w w' := by
 intro N
 induction N with
 | zero => intro f h; omega
 | succ N ih =>
  intro f hf hr v w hB hs
  obtain ⟨p,c,g0,o0,rfl,hp,hfa⟩ := hs
  have hcl := nst_cnt f
  obtain ⟨m,hm⟩ : ∃ m,m = f.len := ⟨_,rfl⟩
  rw [← hm] at hp ⊢
  have HIH := hid ih
  have HP := hid hp
  have HBB := hid hB
  have hm62 : (m : Int) < 9223372036854775807 := by omega
  obtain ⟨R,hR⟩ : ∃ R,R = onesB f := ⟨_,rfl⟩
  rw [← hR]
  have HS : Hid (0 + f.len = m ∧ f.cnt < N + 1 ∧ FA B w f g0 (o0 + 0 * 9) ∧ R = onesB f ∧ (f.cnt < 9223372036854775806 ∧ Rng f) ∧ Below w.heap.size w w) := ⟨by rw [hm]; omega,hf.1,by simpa using hfa,hR,⟨hf.2,hr⟩,Below.refl _ _⟩
  clear ih hp hR hm hfa hf hcl hB hr
  go_enter Tryz.func137,Tryz.ntmps137
  go_wp2
  go_loopw [3] (fun vi wr => ∃ (i : Nat) (fi : Fo),i ≤ m ∧ vi = .int .i64 i ∧ Hid (i + fi.len = m ∧ fi.cnt < N + 1 ∧ FA B w fi g0 (o0 + i * 9) ∧ R = onesB fi ∧ (fi.cnt < 9223372036854775806 ∧ Rng fi) ∧ Below w.heap.size w wr)) (fun vi _ => m - (intOf vi).toNat)
  case atStart => exact ⟨0,f,Nat.zero_le _,rfl,HS⟩
  case round =>
   obtain ⟨i,fi,him,rfl,HI⟩ := hrel
   cases fi with
   | nil =>
    have hi : i = m := HI.out.1
    subst hi
    have HE : Hid (R = true) := HI.out.2.2.2.1
    have HW := hid HI.out.2.2.2.2.2
    go_wp2
    go_ret
    exact ⟨by rw [HE.out]; rfl,HW.out⟩
   | cons op a b nn h l ot body els rest =>
    obtain ⟨hg,⟨vl,vb,ve,x0,x1,x2,x3,x4,x5,x6,x7,x8,hl,hbo,hel⟩,hrest⟩ := HI.out.2.2.1
    have hlt : i < m := by have := HI.out.1; simp only [Fo.len] at this; omega
    obtain rfl := HP.out (by omega)
    have hcn := HI.out.2.1
    simp only [Fo.cnt] at hcn
    have h62 := HI.out.2.2.2.2.1.1
    simp only [Fo.cnt] at h62
    obtain ⟨ra,rb,rl,rbo,rel',rre⟩ := HI.out.2.2.2.2.1.2
    have HL := hid hl
    have HBO := hid hbo
    have HEL := hid hel
    have KB := fun (W : World) (hW : Below w.heap.size w W) => hid (HIH.out body ⟨by omega,by omega⟩ rbo vb W (Nat.le_trans HBB.out hW.size) (SA.below HBO.out (hW.mono HBB.out)))
    have KE := fun (W : World) (hW : Below w.heap.size w W) => hid (HIH.out els ⟨by omega,by omega⟩ rel' ve W (Nat.le_trans HBB.out hW.size) (SA.below HEL.out (hW.mono HBB.out)))
    obtain ⟨pl,cl,evl,_⟩ := id hl
    obtain ⟨pb,cb,_,_,evb,_,_⟩ := id hbo
    obtain ⟨pe,ce,_,_,eve,_,_⟩ := id hel
    obtain ⟨nl,hnl⟩ : ∃ x,x = l.length := ⟨_,rfl⟩
    obtain ⟨nb,hnb⟩ : ∃ x,x = body.len := ⟨_,rfl⟩
    obtain ⟨ne,hne⟩ : ∃ x,x = els.len := ⟨_,rfl⟩
    rw [← hnl] at evl
    rw [← hnb] at evb
    rw [← hne] at eve
    subst evl evb eve
    have K1 := fun (W : World) (hW : Below w.heap.size w W) => hid (One_says op a b nn h l nl hnl pl pb pe cl nb cb ne ce ot B W (Nat.le_trans HBB.out hW.size) (HL.out.below (hW.mono HBB.out)) ra rb rl)
    have hR := HI.out.2.2.2.1
    simp only [onesB] at hR
    rw [← hnb,← hne] at hR
    have HR := hid hR
    have HLE := hid (show i + 1 + rest.len = m ∧ rest.cnt < N + 1 ∧ rest.cnt < 9223372036854775806 by have h1 := HI.out.1; simp only [Fo.len] at h1; omega)
    have HRR := hid rre
    have HRS := hid (show FA B w rest g0 (o0 + (i + 1) * 9) by (have h9 : o0 + (i + 1) * 9 = o0 + i * 9 + 9 := by omega); rw [h9]; exact hrest)
    have HGW := hid (Nat.lt_of_lt_of_le hg HBB.out)
    have hS0 := HI.out.2.2.2.2.2
    generalize insB op a b nn h l ot nb ne = q1 at *
    generalize onesB body = q2 at *
    generalize onesB els = q3 at *
    clear hR hl hbo hel hrest HI hg hcn h62 ra rb rl rbo rel' rre hnl hnb hne
    have HX := hid (And.intro x0 (And.intro x1 (And.intro x2 (And.intro x3 (And.intro x4 (And.intro x5 (And.intro x6 (And.intro x7 x8))))))))
    clear x0 x1 x2 x3 x4 x5 x6 x7 x8
    obtain ⟨x0,x1,x2,x3,x4,x5,x6,x7,x8⟩ := HX.out; have z0 := (hS0.cell (p := ⟨g0,o0 + i * 9,none⟩) HGW.out).trans x0; have z1 := (hS0.cell (p := ⟨g0,o0 + i * 9 + 1,none⟩) HGW.out).trans x1; have z2 := (hS0.cell (p := ⟨g0,o0 + i * 9 + 2,none⟩) HGW.out).trans x2; have z3 := (hS0.cell (p := ⟨g0,o0 + i * 9 + 3,none⟩) HGW.out).trans x3; have z4 := (hS0.cell (p := ⟨g0,o0 + i * 9 + 4,none⟩) HGW.out).trans x4; have z5 := (hS0.cell (p := ⟨g0,o0 + i * 9 + 5,none⟩) HGW.out).trans x5; have z6 := (hS0.cell (p := ⟨g0,o0 + i * 9 + 6,none⟩) HGW.out).trans x6; have z7 := (hS0.cell (p := ⟨g0,o0 + i * 9 + 7,none⟩) HGW.out).trans x7; have z8 := (hS0.cell (p := ⟨g0,o0 + i * 9 + 8,none⟩) HGW.out).trans x8; clear x0 x1 x2 x3 x4 x5 x6 x7 x8
    rcases (show q1 = false ∨ (q1 = true ∧ q2 = false) ∨ (q1 = true ∧ q2 = true ∧ q3 = false) ∨ (q1 = true ∧ q2 = true ∧ q3 = true) by cases q1 <;> cases q2 <;> cases q3 <;> simp) with rfl | ⟨rfl,rfl⟩ | ⟨rfl,rfl,rfl⟩ | ⟨rfl,rfl,rfl⟩
    ·go_wp2_with (first
      | (go_at_call 209; (with_reducible refine (K1 _ hS0).out.mono ?_); rintro e W1 ⟨rfl,hb⟩; have hS1 := hS0.trans (hb.mono hS0.size); clear hb; clear z0 z1 z2 z3 z4 z5 z6 z7 z8; obtain ⟨x0,x1,x2,x3,x4,x5,x6,x7,x8⟩ := HX.out; have u0 := (hS1.cell (p := ⟨g0,o0 + i * 9,none⟩) HGW.out).trans x0; have u1 := (hS1.cell (p := ⟨g0,o0 + i * 9 + 1,none⟩) HGW.out).trans x1; have u2 := (hS1.cell (p := ⟨g0,o0 + i * 9 + 2,none⟩) HGW.out).trans x2; have u3 := (hS1.cell (p := ⟨g0,o0 + i * 9 + 3,none⟩) HGW.out).trans x3; have u4 := (hS1.cell (p := ⟨g0,o0 + i * 9 + 4,none⟩) HGW.out).trans x4; have u5 := (hS1.cell (p := ⟨g0,o0 + i * 9 + 5,none⟩) HGW.out).trans x5; have u6 := (hS1.cell (p := ⟨g0,o0 + i * 9 + 6,none⟩) HGW.out).trans x6; have u7 := (hS1.cell (p := ⟨g0,o0 + i * 9 + 7,none⟩) HGW.out).trans x7; have u8 := (hS1.cell (p := ⟨g0,o0 + i * 9 + 8,none⟩) HGW.out).trans x8; clear x0 x1 x2 x3 x4 x5 x6 x7 x8)
      | (go_at_call 137; (with_reducible refine (KB _ hS1).out.mono ?_); rintro e W2 ⟨rfl,hb⟩; have hS2 := hS1.trans (hb.mono hS1.size); clear hb; clear u0 u1 u2 u3 u4 u5 u6 u7 u8; obtain ⟨x0,x1,x2,x3,x4,x5,x6,x7,x8⟩ := HX.out; have s0 := (hS2.cell (p := ⟨g0,o0 + i * 9,none⟩) HGW.out).trans x0; have s1 := (hS2.cell (p := ⟨g0,o0 + i * 9 + 1,none⟩) HGW.out).trans x1; have s2 := (hS2.cell (p := ⟨g0,o0 + i * 9 + 2,none⟩) HGW.out).trans x2; have s3 := (hS2.cell (p := ⟨g0,o0 + i * 9 + 3,none⟩) HGW.out).trans x3; have s4 := (hS2.cell (p := ⟨g0,o0 + i * 9 + 4,none⟩) HGW.out).trans x4; have s5 := (hS2.cell (p := ⟨g0,o0 + i * 9 + 5,none⟩) HGW.out).trans x5; have s6 := (hS2.cell (p := ⟨g0,o0 + i * 9 + 6,none⟩) HGW.out).trans x6; have s7 := (hS2.cell (p := ⟨g0,o0 + i * 9 + 7,none⟩) HGW.out).trans x7; have s8 := (hS2.cell (p := ⟨g0,o0 + i * 9 + 8,none⟩) HGW.out).trans x8; clear x0 x1 x2 x3 x4 x5 x6 x7 x8)
      | (go_at_call 137; (with_reducible refine (KE _ hS2).out.mono ?_); rintro e W3 ⟨rfl,hb⟩; have hS3 := hS2.trans (hb.mono hS2.size); clear hb; clear s0 s1 s2 s3 s4 s5 s6 s7 s8))
     go_ret
     exact ⟨by rw [HR.out]; simp,hS3⟩
    ·go_wp2_with (first
      | (go_at_call 209; (with_reducible refine (K1 _ hS0).out.mono ?_); rintro e W1 ⟨rfl,hb⟩; have hS1 := hS0.trans (hb.mono hS0.size); clear hb; clear z0 z1 z2 z3 z4 z5 z6 z7 z8; obtain ⟨x0,x1,x2,x3,x4,x5,x6,x7,x8⟩ := HX.out; have u0 := (hS1.cell (p := ⟨g0,o0 + i * 9,none⟩) HGW.out).trans x0; have u1 := (hS1.cell (p := ⟨g0,o0 + i * 9 + 1,none⟩) HGW.out).trans x1; have u2 := (hS1.cell (p := ⟨g0,o0 + i * 9 + 2,none⟩) HGW.out).trans x2; have u3 := (hS1.cell (p := ⟨g0,o0 + i * 9 + 3,none⟩) HGW.out).trans x3; have u4 := (hS1.cell (p := ⟨g0,o0 + i * 9 + 4,none⟩) HGW.out).trans x4; have u5 := (hS1.cell (p := ⟨g0,o0 + i * 9 + 5,none⟩) HGW.out).trans x5; have u6 := (hS1.cell (p := ⟨g0,o0 + i * 9 + 6,none⟩) HGW.out).trans x6; have u7 := (hS1.cell (p := ⟨g0,o0 + i * 9 + 7,none⟩) HGW.out).trans x7; have u8 := (hS1.cell (p := ⟨g0,o0 + i * 9 + 8,none⟩) HGW.out).trans x8; clear x0 x1 x2 x3 x4 x5 x6 x7 x8)
      | (go_at_call 137; (with_reducible refine (KB _ hS1).out.mono ?_); rintro e W2 ⟨rfl,hb⟩; have hS2 := hS1.trans (hb.mono hS1.size); clear hb; clear u0 u1 u2 u3 u4 u5 u6 u7 u8; obtain ⟨x0,x1,x2,x3,x4,x5,x6,x7,x8⟩ := HX.out; have s0 := (hS2.cell (p := ⟨g0,o0 + i * 9,none⟩) HGW.out).trans x0; have s1 := (hS2.cell (p := ⟨g0,o0 + i * 9 + 1,none⟩) HGW.out).trans x1; have s2 := (hS2.cell (p := ⟨g0,o0 + i * 9 + 2,none⟩) HGW.out).trans x2; have s3 := (hS2.cell (p := ⟨g0,o0 + i * 9 + 3,none⟩) HGW.out).trans x3; have s4 := (hS2.cell (p := ⟨g0,o0 + i * 9 + 4,none⟩) HGW.out).trans x4; have s5 := (hS2.cell (p := ⟨g0,o0 + i * 9 + 5,none⟩) HGW.out).trans x5; have s6 := (hS2.cell (p := ⟨g0,o0 + i * 9 + 6,none⟩) HGW.out).trans x6; have s7 := (hS2.cell (p := ⟨g0,o0 + i * 9 + 7,none⟩) HGW.out).trans x7; have s8 := (hS2.cell (p := ⟨g0,o0 + i * 9 + 8,none⟩) HGW.out).trans x8; clear x0 x1 x2 x3 x4 x5 x6 x7 x8)
      | (go_at_call 137; (with_reducible refine (KE _ hS2).out.mono ?_); rintro e W3 ⟨rfl,hb⟩; have hS3 := hS2.trans (hb.mono hS2.size); clear hb; clear s0 s1 s2 s3 s4 s5 s6 s7 s8))
     go_ret
     exact ⟨by rw [HR.out]; simp,hS3⟩
    ·go_wp2_with (first
      | (go_at_call 209; (with_reducible refine (K1 _ hS0).out.mono ?_); rintro e W1 ⟨rfl,hb⟩; have hS1 := hS0.trans (hb.mono hS0.size); clear hb; clear z0 z1 z2 z3 z4 z5 z6 z7 z8; obtain ⟨x0,x1,x2,x3,x4,x5,x6,x7,x8⟩ := HX.out; have u0 := (hS1.cell (p := ⟨g0,o0 + i * 9,none⟩) HGW.out).trans x0; have u1 := (hS1.cell (p := ⟨g0,o0 + i * 9 + 1,none⟩) HGW.out).trans x1; have u2 := (hS1.cell (p := ⟨g0,o0 + i * 9 + 2,none⟩) HGW.out).trans x2; have u3 := (hS1.cell (p := ⟨g0,o0 + i * 9 + 3,none⟩) HGW.out).trans x3; have u4 := (hS1.cell (p := ⟨g0,o0 + i * 9 + 4,none⟩) HGW.out).trans x4; have u5 := (hS1.cell (p := ⟨g0,o0 + i * 9 + 5,none⟩) HGW.out).trans x5; have u6 := (hS1.cell (p := ⟨g0,o0 + i * 9 + 6,none⟩) HGW.out).trans x6; have u7 := (hS1.cell (p := ⟨g0,o0 + i * 9 + 7,none⟩) HGW.out).trans x7; have u8 := (hS1.cell (p := ⟨g0,o0 + i * 9 + 8,none⟩) HGW.out).trans x8; clear x0 x1 x2 x3 x4 x5 x6 x7 x8)
      | (go_at_call 137; (with_reducible refine (KB _ hS1).out.mono ?_); rintro e W2 ⟨rfl,hb⟩; have hS2 := hS1.trans (hb.mono hS1.size); clear hb; clear u0 u1 u2 u3 u4 u5 u6 u7 u8; obtain ⟨x0,x1,x2,x3,x4,x5,x6,x7,x8⟩ := HX.out; have s0 := (hS2.cell (p := ⟨g0,o0 + i * 9,none⟩) HGW.out).trans x0; have s1 := (hS2.cell (p := ⟨g0,o0 + i * 9 + 1,none⟩) HGW.out).trans x1; have s2 := (hS2.cell (p := ⟨g0,o0 + i * 9 + 2,none⟩) HGW.out).trans x2; have s3 := (hS2.cell (p := ⟨g0,o0 + i * 9 + 3,none⟩) HGW.out).trans x3; have s4 := (hS2.cell (p := ⟨g0,o0 + i * 9 + 4,none⟩) HGW.out).trans x4; have s5 := (hS2.cell (p := ⟨g0,o0 + i * 9 + 5,none⟩) HGW.out).trans x5; have s6 := (hS2.cell (p := ⟨g0,o0 + i * 9 + 6,none⟩) HGW.out).trans x6; have s7 := (hS2.cell (p := ⟨g0,o0 + i * 9 + 7,none⟩) HGW.out).trans x7; have s8 := (hS2.cell (p := ⟨g0,o0 + i * 9 + 8,none⟩) HGW.out).trans x8; clear x0 x1 x2 x3 x4 x5 x6 x7 x8)
      | (go_at_call 137; (with_reducible refine (KE _ hS2).out.mono ?_); rintro e W3 ⟨rfl,hb⟩; have hS3 := hS2.trans (hb.mono hS2.size); clear hb; clear s0 s1 s2 s3 s4 s5 s6 s7 s8))
     go_ret
     exact ⟨by rw [HR.out]; simp,hS3⟩
    ·have HF : Hid (R = onesB rest) := by have := HR.out; (show R = onesB rest); simpa using this
     go_wp2_with (first
      | (go_at_call 209; (with_reducible refine (K1 _ hS0).out.mono ?_); rintro e W1 ⟨rfl,hb⟩; have hS1 := hS0.trans (hb.mono hS0.size); clear hb; clear z0 z1 z2 z3 z4 z5 z6 z7 z8; obtain ⟨x0,x1,x2,x3,x4,x5,x6,x7,x8⟩ := HX.out; have u0 := (hS1.cell (p := ⟨g0,o0 + i * 9,none⟩) HGW.out).trans x0; have u1 := (hS1.cell (p := ⟨g0,o0 + i * 9 + 1,none⟩) HGW.out).trans x1; have u2 := (hS1.cell (p := ⟨g0,o0 + i * 9 + 2,none⟩) HGW.out).trans x2; have u3 := (hS1.cell (p := ⟨g0,o0 + i * 9 + 3,none⟩) HGW.out).trans x3; have u4 := (hS1.cell (p := ⟨g0,o0 + i * 9 + 4,none⟩) HGW.out).trans x4; have u5 := (hS1.cell (p := ⟨g0,o0 + i * 9 + 5,none⟩) HGW.out).trans x5; have u6 := (hS1.cell (p := ⟨g0,o0 + i * 9 + 6,none⟩) HGW.out).trans x6; have u7 := (hS1.cell (p := ⟨g0,o0 + i * 9 + 7,none⟩) HGW.out).trans x7; have u8 := (hS1.cell (p := ⟨g0,o0 + i * 9 + 8,none⟩) HGW.out).trans x8; clear x0 x1 x2 x3 x4 x5 x6 x7 x8)
      | (go_at_call 137; (with_reducible refine (KB _ hS1).out.mono ?_); rintro e W2 ⟨rfl,hb⟩; have hS2 := hS1.trans (hb.mono hS1.size); clear hb; clear u0 u1 u2 u3 u4 u5 u6 u7 u8; obtain ⟨x0,x1,x2,x3,x4,x5,x6,x7,x8⟩ := HX.out; have s0 := (hS2.cell (p := ⟨g0,o0 + i * 9,none⟩) HGW.out).trans x0; have s1 := (hS2.cell (p := ⟨g0,o0 + i * 9 + 1,none⟩) HGW.out).trans x1; have s2 := (hS2.cell (p := ⟨g0,o0 + i * 9 + 2,none⟩) HGW.out).trans x2; have s3 := (hS2.cell (p := ⟨g0,o0 + i * 9 + 3,none⟩) HGW.out).trans x3; have s4 := (hS2.cell (p := ⟨g0,o0 + i * 9 + 4,none⟩) HGW.out).trans x4; have s5 := (hS2.cell (p := ⟨g0,o0 + i * 9 + 5,none⟩) HGW.out).trans x5; have s6 := (hS2.cell (p := ⟨g0,o0 + i * 9 + 6,none⟩) HGW.out).trans x6; have s7 := (hS2.cell (p := ⟨g0,o0 + i * 9 + 7,none⟩) HGW.out).trans x7; have s8 := (hS2.cell (p := ⟨g0,o0 + i * 9 + 8,none⟩) HGW.out).trans x8; clear x0 x1 x2 x3 x4 x5 x6 x7 x8)
      | (go_at_call 137; (with_reducible refine (KE _ hS2).out.mono ?_); rintro e W3 ⟨rfl,hb⟩; have hS3 := hS2.trans (hb.mono hS2.size); clear hb; clear s0 s1 s2 s3 s4 s5 s6 s7 s8))
     go_roundw
     case rel => exact ⟨i + 1,rest,hlt,by go_num,HLE.out.1,HLE.out.2.1,HRS.out,HF.out,⟨HLE.out.2.2,HRR.out⟩,hS3⟩
     case measure => simp [intOf]; omega
end Go.Proofs.YtjgeedgphcjhoaaGreat
namespace Go.Proofs.YtjgeedgphcjhoaaGreat
open Go.RowKit
theorem if_chain (b1 b2 b3 r : Bool) : (if b1 = true then (if b2 = true then (if b3 = true then (r,()) else (false,())) else (false,())) else (false,())) = (b1 && b2 && b3 && r,()) := by
 cases b1 <;> cases b2 <;> cases b3 <;> rfl
theorem code_ev : ∀ (f : Fo) (d : Int),1 ≤ d → d ≤ 501 → evF codeSt f d () = ((onesB f && decide (d - 1 + (f.nst : Int) ≤ 500)),())
 | .nil,d,h,h2 => by
  refine Prod.ext (Bool.eq_iff_iff.2 ?_) rfl
  simp [evF,onesB,Fo.nst]
  omega
 | .cons op a b n hh l ot body els rest,d,h,h2 => by
  have hX : (Fo.cons op a b n hh l ot body els rest).nst = max (max body.nst els.nst + 1) rest.nst := rfl
  generalize (Fo.cons op a b n hh l ot body els rest).nst = X at *
  by_cases hd : d ≤ 500
  ·rw [evF_cons codeSt op a b n hh l ot body els rest d () (decide (d ≤ 500) && insB op a b n hh l ot body.len els.len) () rfl _ _ (code_ev body (d + 1) (by omega) (by omega)) _ _ (code_ev els (d + 1) (by omega) (by omega)),code_ev rest d h h2]
   refine (if_chain _ _ _ _).trans ?_
   rw [show decide (d ≤ 500) = true by simpa using hd]
   refine Prod.ext (Bool.eq_iff_iff.2 ?_) rfl
   simp only [onesB,Bool.true_and,Bool.and_eq_true,decide_eq_true_eq]
   constructor
   ·rintro ⟨⟨⟨h1,h2,h3⟩,h4,h5⟩,h6,h7⟩
    exact ⟨⟨⟨⟨h1,h2⟩,h4⟩,h6⟩,by omega⟩
   ·rintro ⟨⟨⟨⟨h1,h2⟩,h4⟩,h6⟩,h⟩
    exact ⟨⟨⟨h1,h2,by omega⟩,h4,by omega⟩,h6,by omega⟩
  ·have : d = 501 := by omega
   subst this
   rw [evF_cons codeSt op a b n hh l ot body els rest 501 () false () (by simp [codeSt]) _ _ rfl _ _ rfl]
   refine Prod.ext (Bool.eq_iff_iff.2 ?_) rfl
   simp only [onesB,Bool.and_eq_true,decide_eq_true_eq]
   constructor
   ·intro h; simp at h
   ·rintro ⟨_,h⟩; exact absurd h (by omega)
theorem code_eq (f : Fo) : codeB f = (onesB f && decide ((f.nst : Int) ≤ 500)) := by
 unfold codeB
 rw [code_ev f 1 (by decide) (by decide)]
 simp
theorem Expr_says (f : Fo) (v : Value) (B : Nat) (w : World) (hn : f.cnt < 9223372036854775806) (hr : Rng f) (hB : B ≤ w.heap.size) (hs : SA B w v f) : Calls Tryz.prog 26 #[v] w fun e w' => e = .returned (.bool (codeB f)) ∧ Below w.heap.size w w' := by
 rw [code_eq]
 have HO := hid (ones_says B (f.cnt + 1) f ⟨Nat.lt_succ_self _,hn⟩ hr v w hB hs)
 have HN := fun W (hW : Below w.heap.size w W) => hid (RNest_says B W trivial (f.cnt + 1) f ⟨Nat.lt_succ_self _,hn⟩ v (SA.below hs (hW.mono hB)))
 obtain ⟨x,hx⟩ : ∃ x,x = f.nst := ⟨_,rfl⟩
 rw [← hx] at HN ⊢
 generalize onesB f = r at *
 obtain ⟨p,c,g0,o0,rfl,hp,hfa⟩ := hs
 generalize f.len = m at *
 clear hp hfa hr hn hx
 cases r
 ·go_enter Tryz.func26,Tryz.ntmps26
  go_wp2_with (first | (go_at_call 137; (with_reducible refine HO.out.mono ?_); rintro e w1 ⟨rfl,hb⟩))
  go_ret
  exact ⟨rfl,hb⟩
 ·go_enter Tryz.func26,Tryz.ntmps26
  go_wp2_with (first | (go_at_call 137; (with_reducible refine HO.out.mono ?_); rintro e w1 ⟨rfl,hb⟩) | (go_at_call 138; (with_reducible refine (HN _ hb).out.mono ?_); rintro e w2 ⟨rfl,rfl⟩))
  go_ret
  exact ⟨rfl,hb⟩
end Go.Proofs.YtjgeedgphcjhoaaGreat
namespace Go.Proofs.YtjgeedgphcjhoaaGreat
open Go.RowKit
noncomputable def askI (op : Int) : Bool := knB (lineL op) && ((lineL op).2.1 == 17 || (lineL op).2.1 == 18)
noncomputable def asksB : Fo → Bool
 | .nil => false
 | .cons op _ _ _ _ _ _ body els rest => askI op || asksB body || asksB els || asksB rest
set_option maxHeartbeats 8000000 in
theorem Asks_says (B : Nat) : ∀ (N : Nat) (f : Fo),f.cnt < N ∧ f.cnt < 9223372036854775806 → ∀ (v : Value) (w : World),B ≤ w.heap.size → SA B w v f →
  Calls Tryz.prog 53 #[v] w fun e w' => e = .returned (.bool (asksB f)) ∧ Below w.heap.size w w' := by
 intro N
 induction N with
 | zero => intro f h; omega
 | succ N ih =>
  intro f hf v w hB hs
  obtain ⟨p,c,g0,o0,rfl,hp,hfa⟩ := hs
  have hcl := nst_cnt f
  obtain ⟨m,hm⟩ : ∃ m,m = f.len := ⟨_,rfl⟩
  rw [← hm] at hp ⊢
  have HIH := hid ih
  have HP := hid hp
  have HBB := hid hB
  have hm62 : (m : Int) < 9223372036854775807 := by omega
  obtain ⟨R,hR⟩ : ∃ R,R = asksB f := ⟨_,rfl⟩
  rw [← hR]
  have HS : Hid (0 + f.len = m ∧ f.cnt < N + 1 ∧ FA B w f g0 (o0 + 0 * 9) ∧ R = asksB f ∧ f.cnt < 9223372036854775806 ∧ Below w.heap.size w w) := ⟨by rw [hm]; omega,hf.1,by simpa using hfa,hR,hf.2,Below.refl _ _⟩
  clear ih hp hR hm hfa hf hcl hB
  go_enter Tryz.func53,Tryz.ntmps53
  go_wp2
  go_loopw [3] (fun vi wr => ∃ (i : Nat) (fi : Fo),i ≤ m ∧ vi = .int .i64 i ∧ Hid (i + fi.len = m ∧ fi.cnt < N + 1 ∧ FA B w fi g0 (o0 + i * 9) ∧ R = asksB fi ∧ fi.cnt < 9223372036854775806 ∧ Below w.heap.size w wr)) (fun vi _ => m - (intOf vi).toNat)
  case atStart => exact ⟨0,f,Nat.zero_le _,rfl,HS⟩
  case round =>
   obtain ⟨i,fi,him,rfl,HI⟩ := hrel
   cases fi with
   | nil =>
    have hi : i = m := HI.out.1
    subst hi
    have HE : Hid (R = false) := HI.out.2.2.2.1
    have HW := hid HI.out.2.2.2.2.2
    go_wp2
    go_ret
    exact ⟨by rw [HE.out]; rfl,HW.out⟩
   | cons op a b nn h l ot body els rest =>
    obtain ⟨hg,⟨vl,vb,ve,x0,x1,x2,x3,x4,x5,x6,x7,x8,hl,hbo,hel⟩,hrest⟩ := HI.out.2.2.1
    have hlt : i < m := by have := HI.out.1; simp only [Fo.len] at this; omega
    obtain rfl := HP.out (by omega)
    have hcn := HI.out.2.1
    simp only [Fo.cnt] at hcn
    have h62 := HI.out.2.2.2.2.1
    simp only [Fo.cnt] at h62
    have HBO := hid hbo
    have HEL := hid hel
    have KB := fun (W : World) (hW : Below w.heap.size w W) => hid (HIH.out body ⟨by omega,by omega⟩ vb W (Nat.le_trans HBB.out hW.size) (SA.below HBO.out (hW.mono HBB.out)))
    have KE := fun (W : World) (hW : Below w.heap.size w W) => hid (HIH.out els ⟨by omega,by omega⟩ ve W (Nat.le_trans HBB.out hW.size) (SA.below HEL.out (hW.mono HBB.out)))
    have hR := HI.out.2.2.2.1
    simp only [asksB] at hR
    have HLE := hid (show i + 1 + rest.len = m ∧ rest.cnt < N + 1 ∧ rest.cnt < 9223372036854775806 by have h1 := HI.out.1; simp only [Fo.len] at h1; omega)
    have HRS := hid (show FA B w rest g0 (o0 + (i + 1) * 9) by (have h9 : o0 + (i + 1) * 9 = o0 + i * 9 + 9 := by omega); rw [h9]; exact hrest)
    have HGW := hid (Nat.lt_of_lt_of_le hg HBB.out)
    have hS0 := HI.out.2.2.2.2.2
    obtain ⟨o,nm,k,tk,lv,fx,hof⟩ : ∃ o nm k tk lv fx,ofL op = (o,nm,k,tk,lv,fx) := ⟨_,_,_,_,_,_,rfl⟩
    have hk := fun W => Of_says op W
    rw [hof] at hk
    have HK := fun W => hid (show Calls Tryz.prog 153 #[.int .i64 op] W fun e w' => e = .returned (.agg #[.int .i64 o,.string (str nm),.int .i64 k,.string (str tk),.string (str lv),.bool fx]) ∧ Below W.heap.size W w' from hk W)
    obtain ⟨g1,g2⟩ := agree_two op hof
    unfold askI at hR
    rw [g1,g2] at hR
    obtain ⟨qo,dqo⟩ : ∃ x,decide (0 ≤ o) = x := ⟨_,rfl⟩
    obtain ⟨k7,dk7⟩ : ∃ x,(k == 17) = x := ⟨_,rfl⟩
    obtain ⟨k8,dk8⟩ : ∃ x,(k == 18) = x := ⟨_,rfl⟩
    rw [dqo,dk7,dk8] at hR
    have HR := hid hR
    generalize asksB body = q2 at *
    generalize asksB els = q3 at *
    clear hR hl hbo hel hrest HI hg hcn h62 hk hof g1 g2
    have HX := hid (And.intro x0 (And.intro x6 x7))
    clear x0 x1 x2 x3 x4 x5 x6 x7 x8
    obtain ⟨x0,x6,x7⟩ := HX.out; have z0 := (hS0.cell (p := ⟨g0,o0 + i * 9,none⟩) HGW.out).trans x0; have z6 := (hS0.cell (p := ⟨g0,o0 + i * 9 + 6,none⟩) HGW.out).trans x6; have z7 := (hS0.cell (p := ⟨g0,o0 + i * 9 + 7,none⟩) HGW.out).trans x7; clear x0 x6 x7
    go_upto_region 5 with (go_at_call 153; (with_reducible refine (HK _).out.mono ?_); rintro e W1 ⟨rfl,hb⟩; have hS1 := hS0.trans (hb.mono hS0.size); clear hb; clear z0 z6 z7)
    have hS2 := hS1.alloc hS1.size (.cells #[.int .i64 o,.string (str nm),.int .i64 k,.string (str tk),.string (str lv),.bool fx] 172)
    have HR2 := hid (CA.new W1 #[.int .i64 o,.string (str nm),.int .i64 k,.string (str tk),.string (str lv),.bool fx] 172)
    generalize W1.alloc (.cells #[.int .i64 o,.string (str nm),.int .i64 k,.string (str tk),.string (str lv),.bool fx] 172) = W2 at *
    obtain ⟨gr,hgr⟩ : ∃ g,g = W1.heap.size := ⟨_,rfl⟩
    rw [← hgr] at HR2 ⊢
    clear hgr hS1
    obtain ⟨x0,x6,x7⟩ := HX.out; have u0 := (hS2.cell (p := ⟨g0,o0 + i * 9,none⟩) HGW.out).trans x0; have u6 := (hS2.cell (p := ⟨g0,o0 + i * 9 + 6,none⟩) HGW.out).trans x6; have u7 := (hS2.cell (p := ⟨g0,o0 + i * 9 + 7,none⟩) HGW.out).trans x7; clear x0 x6 x7
    cases qo with
    | false =>
     cases q2 with
     | true =>
      go_wp2_with (first
      | (go_at_call 53; (with_reducible refine (KB _ hS2).out.mono ?_); rintro e W3 ⟨rfl,hb⟩; have hS3 := hS2.trans (hb.mono hS2.size); have HR3 := hid (HR2.out.below hb HR2.out.lt); clear hb; clear u0 u6 u7; obtain ⟨x0,x6,x7⟩ := HX.out; have s0 := (hS3.cell (p := ⟨g0,o0 + i * 9,none⟩) HGW.out).trans x0; have s6 := (hS3.cell (p := ⟨g0,o0 + i * 9 + 6,none⟩) HGW.out).trans x6; have s7 := (hS3.cell (p := ⟨g0,o0 + i * 9 + 7,none⟩) HGW.out).trans x7; clear x0 x6 x7)
      | (go_at_call 53; (with_reducible refine (KE _ hS3).out.mono ?_); rintro e W4 ⟨rfl,hb⟩; have hS4 := hS3.trans (hb.mono hS3.size); have HR4 := hid (HR3.out.below hb HR3.out.lt); clear hb; clear s0 s6 s7; have r0 := HR4.out.at (k := 0) (v := .int .i64 o) rfl; have r2 := HR4.out.at (k := 2) (v := .int .i64 k) rfl))
      go_ret
      exact ⟨by rw [HR.out]; simp,hS4⟩
     | false =>
      cases q3 with
      | true =>
       go_wp2_with (first
      | (go_at_call 53; (with_reducible refine (KB _ hS2).out.mono ?_); rintro e W3 ⟨rfl,hb⟩; have hS3 := hS2.trans (hb.mono hS2.size); have HR3 := hid (HR2.out.below hb HR2.out.lt); clear hb; clear u0 u6 u7; obtain ⟨x0,x6,x7⟩ := HX.out; have s0 := (hS3.cell (p := ⟨g0,o0 + i * 9,none⟩) HGW.out).trans x0; have s6 := (hS3.cell (p := ⟨g0,o0 + i * 9 + 6,none⟩) HGW.out).trans x6; have s7 := (hS3.cell (p := ⟨g0,o0 + i * 9 + 7,none⟩) HGW.out).trans x7; clear x0 x6 x7)
      | (go_at_call 53; (with_reducible refine (KE _ hS3).out.mono ?_); rintro e W4 ⟨rfl,hb⟩; have hS4 := hS3.trans (hb.mono hS3.size); have HR4 := hid (HR3.out.below hb HR3.out.lt); clear hb; clear s0 s6 s7; have r0 := HR4.out.at (k := 0) (v := .int .i64 o) rfl; have r2 := HR4.out.at (k := 2) (v := .int .i64 k) rfl))
       go_ret
       exact ⟨by rw [HR.out]; simp,hS4⟩
      | false =>
       have HF : Hid (R = asksB rest) := by have := HR.out; (show R = asksB rest); simpa using this
       go_wp2_with (first
      | (go_at_call 53; (with_reducible refine (KB _ hS2).out.mono ?_); rintro e W3 ⟨rfl,hb⟩; have hS3 := hS2.trans (hb.mono hS2.size); have HR3 := hid (HR2.out.below hb HR2.out.lt); clear hb; clear u0 u6 u7; obtain ⟨x0,x6,x7⟩ := HX.out; have s0 := (hS3.cell (p := ⟨g0,o0 + i * 9,none⟩) HGW.out).trans x0; have s6 := (hS3.cell (p := ⟨g0,o0 + i * 9 + 6,none⟩) HGW.out).trans x6; have s7 := (hS3.cell (p := ⟨g0,o0 + i * 9 + 7,none⟩) HGW.out).trans x7; clear x0 x6 x7)
      | (go_at_call 53; (with_reducible refine (KE _ hS3).out.mono ?_); rintro e W4 ⟨rfl,hb⟩; have hS4 := hS3.trans (hb.mono hS3.size); have HR4 := hid (HR3.out.below hb HR3.out.lt); clear hb; clear s0 s6 s7; have r0 := HR4.out.at (k := 0) (v := .int .i64 o) rfl; have r2 := HR4.out.at (k := 2) (v := .int .i64 k) rfl))
       go_roundw
       case rel => exact ⟨i + 1,rest,hlt,by go_num,HLE.out.1,HLE.out.2.1,HRS.out,HF.out,HLE.out.2.2,hS4⟩
       case measure => simp [intOf]; omega
    | true =>
     cases k7 with
     | true =>
      go_wp2_with (first
      | (go_at_call 53; (with_reducible refine (KB _ hS2).out.mono ?_); rintro e W3 ⟨rfl,hb⟩; have hS3 := hS2.trans (hb.mono hS2.size); have HR3 := hid (HR2.out.below hb HR2.out.lt); clear hb; clear u0 u6 u7; obtain ⟨x0,x6,x7⟩ := HX.out; have s0 := (hS3.cell (p := ⟨g0,o0 + i * 9,none⟩) HGW.out).trans x0; have s6 := (hS3.cell (p := ⟨g0,o0 + i * 9 + 6,none⟩) HGW.out).trans x6; have s7 := (hS3.cell (p := ⟨g0,o0 + i * 9 + 7,none⟩) HGW.out).trans x7; clear x0 x6 x7)
      | (go_at_call 53; (with_reducible refine (KE _ hS3).out.mono ?_); rintro e W4 ⟨rfl,hb⟩; have hS4 := hS3.trans (hb.mono hS3.size); have HR4 := hid (HR3.out.below hb HR3.out.lt); clear hb; clear s0 s6 s7; have r0 := HR4.out.at (k := 0) (v := .int .i64 o) rfl; have r2 := HR4.out.at (k := 2) (v := .int .i64 k) rfl))
      go_ret
      exact ⟨by rw [HR.out]; simp,hS4⟩
     | false =>
      cases k8 with
      | true =>
       go_wp2_with (first
      | (go_at_call 53; (with_reducible refine (KB _ hS2).out.mono ?_); rintro e W3 ⟨rfl,hb⟩; have hS3 := hS2.trans (hb.mono hS2.size); have HR3 := hid (HR2.out.below hb HR2.out.lt); clear hb; clear u0 u6 u7; obtain ⟨x0,x6,x7⟩ := HX.out; have s0 := (hS3.cell (p := ⟨g0,o0 + i * 9,none⟩) HGW.out).trans x0; have s6 := (hS3.cell (p := ⟨g0,o0 + i * 9 + 6,none⟩) HGW.out).trans x6; have s7 := (hS3.cell (p := ⟨g0,o0 + i * 9 + 7,none⟩) HGW.out).trans x7; clear x0 x6 x7)
      | (go_at_call 53; (with_reducible refine (KE _ hS3).out.mono ?_); rintro e W4 ⟨rfl,hb⟩; have hS4 := hS3.trans (hb.mono hS3.size); have HR4 := hid (HR3.out.below hb HR3.out.lt); clear hb; clear s0 s6 s7; have r0 := HR4.out.at (k := 0) (v := .int .i64 o) rfl; have r2 := HR4.out.at (k := 2) (v := .int .i64 k) rfl))
       go_ret
       exact ⟨by rw [HR.out]; simp,hS4⟩
      | false =>
       cases q2 with
       | true =>
        go_wp2_with (first
      | (go_at_call 53; (with_reducible refine (KB _ hS2).out.mono ?_); rintro e W3 ⟨rfl,hb⟩; have hS3 := hS2.trans (hb.mono hS2.size); have HR3 := hid (HR2.out.below hb HR2.out.lt); clear hb; clear u0 u6 u7; obtain ⟨x0,x6,x7⟩ := HX.out; have s0 := (hS3.cell (p := ⟨g0,o0 + i * 9,none⟩) HGW.out).trans x0; have s6 := (hS3.cell (p := ⟨g0,o0 + i * 9 + 6,none⟩) HGW.out).trans x6; have s7 := (hS3.cell (p := ⟨g0,o0 + i * 9 + 7,none⟩) HGW.out).trans x7; clear x0 x6 x7)
      | (go_at_call 53; (with_reducible refine (KE _ hS3).out.mono ?_); rintro e W4 ⟨rfl,hb⟩; have hS4 := hS3.trans (hb.mono hS3.size); have HR4 := hid (HR3.out.below hb HR3.out.lt); clear hb; clear s0 s6 s7; have r0 := HR4.out.at (k := 0) (v := .int .i64 o) rfl; have r2 := HR4.out.at (k := 2) (v := .int .i64 k) rfl))
        go_ret
        exact ⟨by rw [HR.out]; simp,hS4⟩
       | false =>
        cases q3 with
        | true =>
         go_wp2_with (first
      | (go_at_call 53; (with_reducible refine (KB _ hS2).out.mono ?_); rintro e W3 ⟨rfl,hb⟩; have hS3 := hS2.trans (hb.mono hS2.size); have HR3 := hid (HR2.out.below hb HR2.out.lt); clear hb; clear u0 u6 u7; obtain ⟨x0,x6,x7⟩ := HX.out; have s0 := (hS3.cell (p := ⟨g0,o0 + i * 9,none⟩) HGW.out).trans x0; have s6 := (hS3.cell (p := ⟨g0,o0 + i * 9 + 6,none⟩) HGW.out).trans x6; have s7 := (hS3.cell (p := ⟨g0,o0 + i * 9 + 7,none⟩) HGW.out).trans x7; clear x0 x6 x7)
      | (go_at_call 53; (with_reducible refine (KE _ hS3).out.mono ?_); rintro e W4 ⟨rfl,hb⟩; have hS4 := hS3.trans (hb.mono hS3.size); have HR4 := hid (HR3.out.below hb HR3.out.lt); clear hb; clear s0 s6 s7; have r0 := HR4.out.at (k := 0) (v := .int .i64 o) rfl; have r2 := HR4.out.at (k := 2) (v := .int .i64 k) rfl))
         go_ret
         exact ⟨by rw [HR.out]; simp,hS4⟩
        | false =>
         have HF : Hid (R = asksB rest) := by have := HR.out; (show R = asksB rest); simpa using this
         go_wp2_with (first
      | (go_at_call 53; (with_reducible refine (KB _ hS2).out.mono ?_); rintro e W3 ⟨rfl,hb⟩; have hS3 := hS2.trans (hb.mono hS2.size); have HR3 := hid (HR2.out.below hb HR2.out.lt); clear hb; clear u0 u6 u7; obtain ⟨x0,x6,x7⟩ := HX.out; have s0 := (hS3.cell (p := ⟨g0,o0 + i * 9,none⟩) HGW.out).trans x0; have s6 := (hS3.cell (p := ⟨g0,o0 + i * 9 + 6,none⟩) HGW.out).trans x6; have s7 := (hS3.cell (p := ⟨g0,o0 + i * 9 + 7,none⟩) HGW.out).trans x7; clear x0 x6 x7)
      | (go_at_call 53; (with_reducible refine (KE _ hS3).out.mono ?_); rintro e W4 ⟨rfl,hb⟩; have hS4 := hS3.trans (hb.mono hS3.size); have HR4 := hid (HR3.out.below hb HR3.out.lt); clear hb; clear s0 s6 s7; have r0 := HR4.out.at (k := 0) (v := .int .i64 o) rfl; have r2 := HR4.out.at (k := 2) (v := .int .i64 k) rfl))
         go_roundw
         case rel => exact ⟨i + 1,rest,hlt,by go_num,HLE.out.1,HLE.out.2.1,HRS.out,HF.out,HLE.out.2.2,hS4⟩
         case measure => simp [intOf]; omega
end Go.Proofs.YtjgeedgphcjhoaaGreat
namespace Go.Proofs.YtjgeedgphcjhoaaGreat
open Go.RowKit
noncomputable def okLine (op : Int) : Bool := knB (lineL op) || !((lineL op).2.1 == 17 || (lineL op).2.1 == 18)
theorem ok_lines : (rangeOps.all okLine) = true := by kernel_rfl
theorem ok_line (op : Int) : okLine op = true := by
 by_cases h : op ∈ rangeOps
 ·exact List.all_eq_true.1 ok_lines op h
 ·unfold okLine
  rw [lineL_out op h]
  kernel_rfl
theorem ask_eq (op : Int) : askI op = ((lineL op).2.1 == 17 || (lineL op).2.1 == 18) := by
 have h := ok_line op
 unfold okLine at h
 unfold askI
 generalize knB (lineL op) = k at *
 generalize ((lineL op).2.1 == 17 || (lineL op).2.1 == 18) = q at *
 cases k <;> cases q <;> simp at h ⊢
theorem data_ev : ∀ (f : Fo) (d : Int),evF dataSt f d () = (!asksB f,())
 | .nil,d => rfl
 | .cons op a b n hh l ot body els rest,d => by
  rw [evF_cons dataSt op a b n hh l ot body els rest d () (!askI op) () (by unfold dataSt; rw [ask_eq]; simp [bne]) _ _ (data_ev body (d + 1)) _ _ (data_ev els (d + 1)),data_ev rest d]
  refine (if_chain _ _ _ _).trans ?_
  simp only [asksB]
  cases askI op <;> cases asksB body <;> cases asksB els <;> cases asksB rest <;> rfl
theorem data_eq (f : Fo) : dataB f = !asksB f := by
 unfold dataB
 rw [data_ev f 1]
end Go.Proofs.YtjgeedgphcjhoaaGreat
namespace Go.Proofs.YtjgeedgphcjhoaaGreat
open Go
/-- The bytes of an unsigned number. -/
def ulist (x : Nat) : List UInt8 :=
 if h : x < 128 then [x.toUInt8] else (x % 128 + 128).toUInt8 :: ulist (x / 128)
termination_by x
decreasing_by omega
/-- The bytes of a number of either sign. -/
def slist (m : Int) : List UInt8 :=
 if h : -64 ≤ m ∧ m < 64 then [(m % 128).toNat.toUInt8] else ((m % 128).toNat + 128).toUInt8 :: slist (m / 128)
termination_by m.natAbs
decreasing_by omega
end Go.Proofs.YtjgeedgphcjhoaaGreat
namespace Go.Proofs.YtjgeedgphcjhoaaGreat
open Go.RowKit
/-- A number's lowest byte. -/
def byI (n : Int) : UInt8 := (n % 256).toNat.toUInt8
/-- An integer of the machine as one without a sign, in groups. -/
def uI (n : Int) : List UInt8 := ulist (n % 18446744073709551616).toNat
/-- The lowest k bytes. -/
def lowL : Nat → Nat → List UInt8
 | 0,_ => []
 | k + 1,v => (v % 256).toUInt8 :: lowL k (v / 256)
def opL (op : Int) : List UInt8 := if 64768 ≤ op then 253 :: uI (op - 64768) else if 64512 ≤ op then 252 :: uI (op - 64512) else [byI op]
def sgnN (b : Nat) (n : Nat) : Int := if n % 2 ^ b < 2 ^ (b - 1) then ((n % 2 ^ b : Nat) : Int) else ((n % 2 ^ b : Nat) : Int) - ((2 ^ b : Nat) : Int)
def blL (a b : Int) : List UInt8 := if a = 1 then [byI b] else if a = 2 then slist b else [64]
def usL : List Int → List UInt8
 | [] => []
 | x :: l => uI x ++ usL l
/-- What stands behind an instruction's number. -/
def behL (k a b : Int) (n h : Nat) (l : List Int) (ot : Bool) (eb ee : List UInt8) : List UInt8 :=
 if k = 0 then []
 else if k = 1 then blL a b ++ eb ++ (if ot = true then 5 :: ee else []) ++ [11]
 else if k = 3 then uI l.length ++ usL l ++ uI a
 else if k = 5 ∨ k = 10 ∨ k = 20 ∨ k = 22 then uI a ++ uI b
 else if k = 26 then uI a ++ uI b ++ l.map byI
 else if k = 6 then uI l.length ++ l.map byI
 else if k = 11 then [0]
 else if k = 19 then [0,0]
 else if k = 17 then uI a ++ [0]
 else if k = 12 then slist (sgnN 32 n)
 else if k = 13 then slist (sgnN 64 n)
 else if k = 14 then lowL 4 n
 else if k = 15 then lowL 8 n
 else if k = 23 then lowL 8 n ++ lowL 8 h
 else if k = 16 ∨ k = 25 then [byI a]
 else if k = 24 then l.map byI
 else uI a
noncomputable def Fo.enc : Fo → List UInt8
 | .nil => []
 | .cons op a b n h l ot body els rest => opL op ++ behL (lineL op).2.1 a b n h l ot body.enc els.enc ++ rest.enc
end Go.Proofs.YtjgeedgphcjhoaaGreat
namespace Go.Proofs.YtjgeedgphcjhoaaGreat
open Go.ChangeShapes Go.WideShapes Go.ChangeAt Go.RowKit
/-- The numbers are integers of the machine, of either kind. -/
def RN : Fo → Prop
 | .nil => True
 | .cons _ a b n h l _ body els rest => i64B a ∧ i64B b ∧ (∀ x ∈ l,i64B x) ∧ RN body ∧ RN els ∧ RN rest ∧ n < 18446744073709551616 ∧ h < 18446744073709551616
theorem RN.rng : ∀ {f : Fo},RN f → Rng f
 | .nil,_ => trivial
 | .cons _ _ _ _ _ _ _ _ _ _,h => ⟨h.1,h.2.1,h.2.2.1,RN.rng h.2.2.2.1,RN.rng h.2.2.2.2.1,RN.rng h.2.2.2.2.2.1⟩
section
variable {H : Type} {enc : TypeId × Value → H} {W : World} {sp : Nat → Bool} {held : Bool}
end
end Go.Proofs.YtjgeedgphcjhoaaGreat
