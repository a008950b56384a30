/-
  WInstrs, EMod: merged, what the law does not reach left out (each text says what it holds where it lies in wip). No condition.
-/
import Derived.Test.YtjgeedgphcjhoaaGreatU14
import Derived.Test.YtjgeedgphcjhoaaGreatU15
import Derived.Test.YtjgeedgphcjhoaaGreatU16
import Derived.Test.YtjgeedgphcjhoaaGreatU12
import Derived.Test.YtjgeedgphcjhoaaGreatU01
set_option linter.unusedSimpArgs false
set_option linter.unusedVariables false
set_option maxRecDepth 100000
namespace Go.Proofs.YtjgeedgphcjhoaaGreat
open Go.RowKit
def okE : Fo → Prop
 | .nil => True
 | .cons op a b n h l ot body els rest => (0 ≤ op ∧ op < 65024 ∧ n < 18446744073709551616 ∧ h < 18446744073709551616 ∧ i64C b ∧ ((lineL op).2.1 = 1 → a = 0 ∨ a = 1 ∨ a = 2)) ∧ okE body ∧ okE els ∧ okE rest
def Fo.siz : Fo → Nat
 | .nil => 0
 | .cons _ _ _ _ _ l _ body els rest => 400 + 20 * l.length + body.siz + els.siz + rest.siz
theorem enc_siz : ∀ f : Fo,okE f → f.enc.length ≤ f.siz
 | .nil,_ => Nat.le_refl _
 | .cons op a b n h l ot body els rest,ho => by
  have h1 := enc_siz body ho.2.1
  have h2 := enc_siz els ho.2.2.1
  have h3 := enc_siz rest ho.2.2.2
  have h4 := opL_len op
  have h5 := behL_len (lineL op).2.1 a b n h l ot body.enc els.enc ho.1.2.2.2.2.1
  simp only [Fo.enc,Fo.siz,List.length_append]
  omega
theorem instr_says (B g : Nat) (bs : List UInt8) (op a b : Int) (n h : Nat) (l : List Int) (pl pb pe : Option Addr) (nl cl nb cb ne ce : Nat) (ot : Bool) (w : World) (hw : WR B g bs w)
  (ho : 0 ≤ op ∧ op < 65024 ∧ n < 18446744073709551616 ∧ h < 18446744073709551616 ∧ i64C b ∧ ((lineL op).2.1 = 1 → a = 0 ∨ a = 1 ∨ a = 2)) (eb ee : List UInt8) (sb se : Nat) (hl : LT B g w (.slice pl nl cl) l)
  (hr1 : Wrote B g w (.slice pb nb cb) eb sb) (hr2 : Wrote B g w (.slice pe ne ce) ee se) (hn : bs.length + 300 + 20 * l.length + sb + se ≤ 140737488355000) (he1 : eb.length ≤ sb) (he2 : ee.length ≤ se) :
  Calls Tryz.prog 230 #[.pointer (some ⟨g,0,none⟩),.agg #[.int .i64 op,.int .i64 a,.int .i64 b,.int .u64 n,.int .u64 h,.slice pl nl cl,.slice pb nb cb,.slice pe ne ce,.bool ot]] w fun e w' => e = .returned (.tuple #[]) ∧ WR B g (bs ++ (opL op ++ behL (lineL op).2.1 a b n h l ot eb ee)) w' ∧ FR B g w w' := by
 have hI := Imm_says op
 obtain ⟨h0,h1,_⟩ := line_ok op
 obtain ⟨o0,o1,o2,o3,o4,o5⟩ := ho
 generalize (lineL op).2.1 = k at *
 have hn' : bs.length + 300 + 20 * l.length ≤ 140737488355000 := by omega
 have m0 : List.map byI [0] = [0] := rfl
 have m00 : List.map byI [0,0] = [0,0] := rfl
 have ma : List.map byI [a] = [byI a] := rfl
 rcases (show k = 0 ∨ k = 1 ∨ k = 2 ∨ k = 3 ∨ k = 4 ∨ k = 5 ∨ k = 6 ∨ k = 7 ∨ k = 8 ∨ k = 9 ∨ k = 10 ∨ k = 11 ∨ k = 12 ∨ k = 13 ∨ k = 14 ∨ k = 15 ∨ k = 16 ∨ k = 17 ∨ k = 18 ∨ k = 19 ∨ k = 20 ∨ k = 21 ∨ k = 22 ∨ k = 23 ∨ k = 24 ∨ k = 25 ∨ k = 26 by omega) with rfl | rfl | rfl | rfl | rfl | rfl | rfl | rfl | rfl | rfl | rfl | rfl | rfl | rfl | rfl | rfl | rfl | rfl | rfl | rfl | rfl | rfl | rfl | rfl | rfl | rfl | rfl
 ·have := instr_0 B g bs op a b n h l pl pb pe nl cl nb cb ne ce ot w hw o0 o1 o2 o3 hI hl hn'
  simpa [behL,m0,m00,ma,List.append_assoc] using this
 ·have := instr_1 B g bs op a b n h pl pb pe nl cl nb cb ne ce ot w hw o0 o1 (o5 rfl) o4 eb ee sb se hI hr1 hr2 (by omega) he1 he2
  rw [List.append_assoc] at this
  exact this
 ·have := instr_2 2 (by decide) B g bs op a b n h l pl pb pe nl cl nb cb ne ce ot w hw o0 o1 o2 o3 hI hl hn'
  simpa [behL,m0,m00,ma,List.append_assoc] using this
 ·have := instr_3 B g bs op a b n h l pl pb pe nl cl nb cb ne ce ot w hw o0 o1 o2 o3 hI hl hn'
  simpa [behL,m0,m00,ma,List.append_assoc] using this
 ·have := instr_2 4 (by decide) B g bs op a b n h l pl pb pe nl cl nb cb ne ce ot w hw o0 o1 o2 o3 hI hl hn'
  simpa [behL,m0,m00,ma,List.append_assoc] using this
 ·have := instr_5 5 (by decide) B g bs op a b n h l pl pb pe nl cl nb cb ne ce ot w hw o0 o1 o2 o3 hI hl hn'
  simpa [behL,m0,m00,ma,List.append_assoc] using this
 ·have := instr_6 B g bs op a b n h l pl pb pe nl cl nb cb ne ce ot w hw o0 o1 o2 o3 hI hl hn'
  simpa [behL,m0,m00,ma,List.append_assoc] using this
 ·have := instr_2 7 (by decide) B g bs op a b n h l pl pb pe nl cl nb cb ne ce ot w hw o0 o1 o2 o3 hI hl hn'
  simpa [behL,m0,m00,ma,List.append_assoc] using this
 ·have := instr_2 8 (by decide) B g bs op a b n h l pl pb pe nl cl nb cb ne ce ot w hw o0 o1 o2 o3 hI hl hn'
  simpa [behL,m0,m00,ma,List.append_assoc] using this
 ·have := instr_2 9 (by decide) B g bs op a b n h l pl pb pe nl cl nb cb ne ce ot w hw o0 o1 o2 o3 hI hl hn'
  simpa [behL,m0,m00,ma,List.append_assoc] using this
 ·have := instr_5 10 (by decide) B g bs op a b n h l pl pb pe nl cl nb cb ne ce ot w hw o0 o1 o2 o3 hI hl hn'
  simpa [behL,m0,m00,ma,List.append_assoc] using this
 ·have := instr_11 B g bs op a b n h l pl pb pe nl cl nb cb ne ce ot w hw o0 o1 o2 o3 hI hl hn'
  simpa [behL,m0,m00,ma,List.append_assoc] using this
 ·have := instr_12 B g bs op a b n h l pl pb pe nl cl nb cb ne ce ot w hw o0 o1 o2 o3 hI hl hn'
  simpa [behL,m0,m00,ma,List.append_assoc] using this
 ·have := instr_13 B g bs op a b n h l pl pb pe nl cl nb cb ne ce ot w hw o0 o1 o2 o3 hI hl hn'
  simpa [behL,m0,m00,ma,List.append_assoc] using this
 ·have := instr_14 B g bs op a b n h l pl pb pe nl cl nb cb ne ce ot w hw o0 o1 o2 o3 hI hl hn'
  simpa [behL,m0,m00,ma,List.append_assoc] using this
 ·have := instr_15 B g bs op a b n h l pl pb pe nl cl nb cb ne ce ot w hw o0 o1 o2 o3 hI hl hn'
  simpa [behL,m0,m00,ma,List.append_assoc] using this
 ·have := instr_16 16 (by decide) B g bs op a b n h l pl pb pe nl cl nb cb ne ce ot w hw o0 o1 o2 o3 hI hl hn'
  simpa [behL,m0,m00,ma,List.append_assoc] using this
 ·have := instr_17 B g bs op a b n h l pl pb pe nl cl nb cb ne ce ot w hw o0 o1 o2 o3 hI hl hn'
  simpa [behL,m0,m00,ma,List.append_assoc] using this
 ·have := instr_2 18 (by decide) B g bs op a b n h l pl pb pe nl cl nb cb ne ce ot w hw o0 o1 o2 o3 hI hl hn'
  simpa [behL,m0,m00,ma,List.append_assoc] using this
 ·have := instr_19 B g bs op a b n h l pl pb pe nl cl nb cb ne ce ot w hw o0 o1 o2 o3 hI hl hn'
  simpa [behL,m0,m00,ma,List.append_assoc] using this
 ·have := instr_5 20 (by decide) B g bs op a b n h l pl pb pe nl cl nb cb ne ce ot w hw o0 o1 o2 o3 hI hl hn'
  simpa [behL,m0,m00,ma,List.append_assoc] using this
 ·have := instr_2 21 (by decide) B g bs op a b n h l pl pb pe nl cl nb cb ne ce ot w hw o0 o1 o2 o3 hI hl hn'
  simpa [behL,m0,m00,ma,List.append_assoc] using this
 ·have := instr_5 22 (by decide) B g bs op a b n h l pl pb pe nl cl nb cb ne ce ot w hw o0 o1 o2 o3 hI hl hn'
  simpa [behL,m0,m00,ma,List.append_assoc] using this
 ·have := instr_23 B g bs op a b n h l pl pb pe nl cl nb cb ne ce ot w hw o0 o1 o2 o3 hI hl hn'
  simpa [behL,m0,m00,ma,List.append_assoc] using this
 ·have := instr_24 B g bs op a b n h l pl pb pe nl cl nb cb ne ce ot w hw o0 o1 o2 o3 hI hl hn'
  simpa [behL,m0,m00,ma,List.append_assoc] using this
 ·have := instr_16 25 (by decide) B g bs op a b n h l pl pb pe nl cl nb cb ne ce ot w hw o0 o1 o2 o3 hI hl hn'
  simpa [behL,m0,m00,ma,List.append_assoc] using this
 have := instr_26 B g bs op a b n h l pl pb pe nl cl nb cb ne ce ot w hw o0 o1 o2 o3 hI hl hn'
 simpa [behL,m0,m00,ma,List.append_assoc] using this
set_option maxHeartbeats 4000000 in
theorem instrs_says (B g : Nat) : ∀ (N : Nat) (f : Fo),f.cnt < N → f.cnt < 9223372036854775806 → okE f → ∀ (v : Value) (w : World),B ≤ w.heap.size → SA (lo B g) w v f → Wrote B g w v f.enc f.siz := by
 intro N
 induction N with
 | zero => intro f h; omega
 | succ N ih =>
  intro f hf hf2 hok v w0 hB0 hs0 bs w hbw hw hn
  have hs := SA.below hs0 hbw
  clear hs0 hB0
  obtain ⟨p,cp,g0,o0,rfl,hp,hfa⟩ := hs
  have HIH := hid ih
  have HP := hid hp
  have HBW := hid hw.base
  obtain ⟨m,hm⟩ : ∃ m,m = f.len := ⟨_,rfl⟩
  rw [← hm] at HP ⊢
  have hml : m ≤ f.cnt := by
   have : ∀ f : Fo,f.len ≤ f.cnt := by
    intro f
    induction f with
    | nil => exact Nat.le_refl _
    | cons _ _ _ _ _ _ _ _ _ _ _ _ ihr => simp only [Fo.len,Fo.cnt]; omega
   rw [hm]; exact this f
  obtain ⟨E,hE⟩ : ∃ E,E = bs ++ f.enc := ⟨_,rfl⟩
  rw [← hE]
  have HS : Hid (0 + f.len = m ∧ (f.cnt < N + 1 ∧ f.cnt < 9223372036854775806) ∧ FA (lo B g) w f g0 (o0 + 0 * 9) ∧ okE f ∧ E = bs ++ f.enc ∧ bs.length + f.siz ≤ 140737488355000) := ⟨by rw [hm]; omega,⟨hf,hf2⟩,by simpa using hfa,hok,hE,hn⟩
  have hm62 : (m : Int) < 9223372036854775807 := by omega
  have HW := hid hw
  clear ih hp hm hml hfa hf hf2 hE hn hok hw hbw
  go_enter Tryz.func208,Tryz.ntmps208
  go_wp2
  go_loopw [8] (fun vi wr => ∃ (i : Nat) (fi : Fo) (bi : List UInt8),i ≤ m ∧ vi = .int .i64 i ∧ Hid (WR B g bi wr) ∧ Hid (FR B g w wr) ∧ Hid (i + fi.len = m ∧ (fi.cnt < N + 1 ∧ fi.cnt < 9223372036854775806) ∧ FA (lo B g) wr fi g0 (o0 + i * 9) ∧ okE fi ∧ E = bi ++ fi.enc ∧ bi.length + fi.siz ≤ 140737488355000)) (fun vi _ => m - (intOf vi).toNat)
  case atStart => exact ⟨0,f,bs,Nat.zero_le _,rfl,HW,FR.refl _ _ _,HS⟩
  obtain ⟨i,fi,bi,him,rfl,HWR,HFR,HI⟩ := hrel
  cases fi with
  | nil =>
   have hi : i = m := HI.out.1
   subst hi
   have HE := hid HI.out.2.2.2.2.1
   go_wp2
   (first | go_end0 | refine bodyPost_ret (results_none rfl _ _ _) rfl ?_)
   exact ⟨rfl,by rw [HE.out]; simpa [Fo.enc] using HWR.out,HFR.out⟩
  | cons op a b n h l ot body els rest =>
   obtain ⟨hg,⟨vl,vb,ve,x0,x1,x2,x3,x4,x5,x6,x7,x8,hl,hbo,hel⟩,hrest⟩ := HI.out.2.2.1
   obtain ⟨pl,cl,evl,_⟩ := id hl
   obtain ⟨pb,cb,gb',ob',evb,_⟩ := id hbo
   obtain ⟨pe,ce,ge',oe',eve,_⟩ := id hel
   obtain ⟨nl,hnl⟩ : ∃ x,x = l.length := ⟨_,rfl⟩
   obtain ⟨nb,hnb⟩ : ∃ x,x = body.len := ⟨_,rfl⟩
   obtain ⟨ne,hne⟩ : ∃ x,x = els.len := ⟨_,rfl⟩
   rw [← hnl] at evl
   rw [← hnb] at evb
   rw [← hne] at eve
   subst evl evb eve
   clear hnl hnb hne
   have hlt : i < m := by have := HI.out.1; simp only [Fo.len] at this; omega
   obtain rfl := HP.out (by omega)
   have hcn := HI.out.2.1
   simp only [Fo.cnt] at hcn
   have hBr : B ≤ wr.heap.size := HWR.out.base
   have hok := HI.out.2.2.2.1
   have hsz := HI.out.2.2.2.2.2
   simp only [Fo.siz] at hsz
   have hbe := enc_siz body hok.2.1
   have hee := enc_siz els hok.2.2.1
   have HLE := hid (show i + 1 + rest.len = m ∧ (rest.cnt < N + 1 ∧ rest.cnt < 9223372036854775806) by have h1 := HI.out.1; simp only [Fo.len] at h1; omega)
   have HEQ : Hid (E = bi ++ (opL op ++ behL (lineL op).2.1 a b n h l ot body.enc els.enc) ++ rest.enc) := by
    have := HI.out.2.2.2.2.1
    simp only [Fo.enc] at this
    simpa [Hid,List.append_assoc] using this
   have HOKR := hid hok.2.2.2
   have hb5 := behL_len (lineL op).2.1 a b n h l ot body.enc els.enc hok.1.2.2.2.2.1
   have hb6 := opL_len op
   have HSZ := hid (show (bi ++ (opL op ++ behL (lineL op).2.1 a b n h l ot body.enc els.enc)).length + rest.siz ≤ 140737488355000 by simp only [List.length_append]; omega)
   have HIN := hid (instr_says B g bi op a b n h l pl pb pe nl cl nb cb ne ce ot)
   have HC := fun (W : World) (h1 : WR B g bi W) (h2 : FR B g wr W) => hid (instr_says B g bi op a b n h l pl pb pe nl cl nb cb ne ce ot W h1 hok.1 body.enc els.enc body.siz els.siz ((LT.of hl (Nat.le_refl _) hBr).fr h2) (HIH.out body (by omega) (by omega) hok.2.1 _ W (Nat.le_trans hBr h2.size) (SA.below hbo (h2.belowL hBr))) (HIH.out els (by omega) (by omega) hok.2.2.1 _ W (Nat.le_trans hBr h2.size) (SA.below hel (h2.belowL hBr))) (by omega) hbe hee)
   obtain ⟨X,hX⟩ : ∃ X,X = opL op ++ behL (lineL op).2.1 a b n h l ot body.enc els.enc := ⟨_,rfl⟩
   rw [← hX] at HC HSZ HEQ
   have HREST := hid hrest
   have HX := hid (CA.new wr #[.int .i64 op,.int .i64 a,.int .i64 b,.int .u64 n,.int .u64 h,.slice pl nl cl,.slice pb nb cb,.slice pe ne ce,.bool ot] 39)
   have HF1 := hid ((FR.refl B g wr).alloc (.cells #[.int .i64 op,.int .i64 a,.int .i64 b,.int .u64 n,.int .u64 h,.slice pl nl cl,.slice pb nb cb,.slice pe ne ce,.bool ot] 39))
   have HW1 := hid (HWR.out.alloc (.cells #[.int .i64 op,.int .i64 a,.int .i64 b,.int .u64 n,.int .u64 h,.slice pl nl cl,.slice pb nb cb,.slice pe ne ce,.bool ot] 39))
   have HBR := hid hBr
   clear hl hbo hel hrest HI hg hcn HS hok hsz hbe hee hb5 hb6 hX HIN hBr
   go_wp2_with (go_at_call 230; (with_reducible refine (HC _ HW1.out HF1.out).out.mono ?_); rintro e w2 ⟨rfl,hw2,hf2⟩; have HW2 := hid hw2; have HFF := hid (HF1.out.trans hf2); clear hw2 hf2)
   go_roundw
   case rel =>
    refine ⟨i + 1,rest,bi ++ X,hlt,by go_num,HW2,hid (HFR.out.trans HFF.out),HLE.out.1,HLE.out.2,?_,HOKR.out,HEQ.out,HSZ.out⟩
    have h9 : o0 + (i + 1) * 9 = o0 + i * 9 + 9 := by omega
    rw [h9]
    exact FA.below (HFF.out.belowL HBR.out) _ _ _ HREST.out
   case measure => simp [intOf]; omega
end Go.Proofs.YtjgeedgphcjhoaaGreat
namespace Go.Proofs.YtjgeedgphcjhoaaGreat
open Go.RowKit
def flB : Nat → (Nat → List UInt8) → List UInt8
  | 0, _ => []
  | n + 1, P => flB n P ++ P n
theorem flB_le (P : Nat → List UInt8) : ∀ {i n : Nat}, i ≤ n → (flB i P).length ≤ (flB n P).length
  | i, n, h => by
    induction n with
    | zero => obtain rfl : i = 0 := by omega
              exact Nat.le_refl _
    | succ n ih =>
      by_cases e : i = n + 1
      · subst e
        exact Nat.le_refl _
      · have := ih (by omega)
        simp only [flB, List.length_append]
        omega
theorem flB_bound (P : Nat → List UInt8) (k : Nat) : ∀ n, (∀ i, i < n → (P i).length ≤ k) → (flB n P).length ≤ n * k
  | 0, _ => by simp [flB]
  | n + 1, h => by
    have := flB_bound P k n (fun i hi => h i (by omega))
    have := h n (by omega)
    simp only [flB, List.length_append, Nat.add_mul, Nat.one_mul]
    omega
theorem flB_congr {P Q : Nat → List UInt8} : ∀ n, (∀ i, i < n → P i = Q i) → flB n P = flB n Q
  | 0, _ => rfl
  | n + 1, h => by rw [flB, flB, flB_congr n (fun i hi => h i (by omega)), h n (by omega)]
def strL (s : ByteArray) : List UInt8 := uI s.size ++ s.data.toList
def lsL (l : List Int) : List UInt8 := uI l.length ++ l.map byI
def limL (mn mx : Int) (h : Bool) : List UInt8 := if h = true then 1 :: (uI mn ++ uI mx) else 0 :: uI mn
def tabL (r mn mx : Int) (h : Bool) : List UInt8 := byI r :: limL mn mx h
def gloL (t : Int) (m : Bool) : List UInt8 := [byI t, if m = true then 1 else 0]
noncomputable def codL (f : Fo) : List UInt8 := f.enc ++ [11]
def mtL (e : ETyp) : List UInt8 := 96 :: (lsL e.a ++ lsL e.b)
def miL (e : EImp) : List UInt8 := strL e.s0 ++ strL e.s1 ++ byI e.kd :: (if e.kd = 0 then uI e.ty else if e.kd = 1 then tabL e.tr e.tmn e.tmx e.th else if e.kd = 2 then limL e.mmn e.mmx e.mh else gloL e.gt e.gm)
def mbL (e : ETab) : List UInt8 := tabL e.r e.mn e.mx e.h
def mlL (e : ELim) : List UInt8 := limL e.mn e.mx e.h
noncomputable def mgL (e : EGlo) : List UInt8 := gloL e.t e.m ++ codL e.f
def mxL (e : EExp) : List UInt8 := strL e.s ++ byI e.k :: uI e.ix
def runsL : List Int → List (Nat × Int)
  | [] => []
  | x :: l => match runsL l with
    | [] => [(1, x)]
    | (n, y) :: r => if x = y then (n + 1, y) :: r else (1, x) :: (n, y) :: r
def runB (r : Nat × Int) : List UInt8 := uI r.1 ++ [byI r.2]
def rbL : List (Nat × Int) → List UInt8
  | [] => []
  | r :: l => runB r ++ rbL l
def locL (l : List Int) : List UInt8 := uI (runsL l).length ++ rbL (runsL l)
def szL (x : List UInt8) : List UInt8 := uI x.length ++ x
noncomputable def mfL (e : EFun) : List UInt8 := szL (locL e.l ++ codL e.f)
def secL (id : Int) (n : Nat) (b : List UInt8) : List UInt8 := if n = 0 then [] else byI id :: szL (uI n ++ b)
def isFun (f : Fo) : Bool := match f with
  | .cons op _ _ _ _ _ _ _ _ .nil => op == 210
  | _ => false
def fstA (f : Fo) : Int := match f with
  | .cons _ a _ _ _ _ _ _ _ _ => a
  | .nil => 0
def funsB (e : EElm) : Bool := (List.range e.ng).all (fun k => isFun (e.g k)) && (e.r == 112)
noncomputable def iniL (b : Bool) (f : Fo) : List UInt8 := if b = true then uI (fstA f) else codL f
noncomputable def meL (e : EElm) : List UInt8 :=
  (if e.m = 0 then (if e.t = 0 ∧ e.r = 112 then (if funsB e = true then 0 else 4) :: codL e.f else (if funsB e = true then 2 else 6) :: (uI e.t ++ codL e.f ++ [if funsB e = true then 0 else byI e.r]))
   else if e.m = 1 then [if funsB e = true then 1 else 5, if funsB e = true then 0 else byI e.r] else [if funsB e = true then 3 else 7, if funsB e = true then 0 else byI e.r]) ++
  (uI e.ng ++ flB e.ng (fun k => iniL (funsB e) (e.g k)))
noncomputable def mdL (e : EDat) : List UInt8 := (if e.m = 1 then [1] else if e.t = 0 then 0 :: codL e.f else 2 :: (uI e.t ++ codL e.f)) ++ szL e.b
noncomputable def headsL (M : MD) : List UInt8 := secL 1 M.tn (flB M.tn fun i => mtL (M.t i)) ++ secL 2 M.imn (flB M.imn fun i => miL (M.im i)) ++ secL 3 M.fn (flB M.fn fun i => uI (M.f i).ty)
def starL (st : Int) : List UInt8 := if st = 0 then [] else 8 :: szL (uI (st - 1))
noncomputable def midL (M : MD) : List UInt8 := secL 4 M.tbn (flB M.tbn fun i => mbL (M.tb i)) ++ secL 5 M.mn (flB M.mn fun i => mlL (M.m i)) ++ secL 6 M.gn (flB M.gn fun i => mgL (M.g i)) ++ secL 7 M.xn (flB M.xn fun i => mxL (M.x i)) ++ starL M.st
noncomputable def modL (M : MD) : List UInt8 := [0, 97, 115, 109, 1, 0, 0, 0] ++ headsL M ++ midL M ++ secL 9 M.en (flB M.en fun i => meL (M.e i)) ++ (if M.cnt = true then 12 :: szL (uI M.dn) else []) ++ secL 10 M.fn (flB M.fn fun i => mfL (M.f i)) ++ secL 11 M.dn (flB M.dn fun i => mdL (M.d i))
end Go.Proofs.YtjgeedgphcjhoaaGreat
