/-
  Code, Ref2, Ones, LNums, EMath, OpenN: merged, what the law does not reach left out (each text says what it holds where it lies in wip). No condition.
-/
import Derived.Test.YtjgeedgphcjhoaaGreatP16
import Derived.Test.YtjgeedgphcjhoaaGreatP17
import Derived.Laws.BitsLemmas
import Derived.Laws.Bits64
import Derived.Laws.Bits64b
import Derived.Lib.UnsafeStr
import Derived.Test.YtjgeedgphcjhoaaGreatP02
set_option linter.unusedSimpArgs false
set_option linter.unusedVariables false
set_option maxRecDepth 100000
namespace Go.Proofs.YtjgeedgphcjhoaaGreat
open Go.RowKit
theorem KP.set (w : World) (g k : Nat) (v : Value) : KP (some g) w (w.setCell ⟨g,k,none⟩ v) := ⟨rfl,rfl,rfl,by simp [World.setCell],fun i hi hc => Below.heap_setCell _ _ _ _ (fun e => hc (by rw [e]))⟩
noncomputable def codeSt (_ : Unit) (d op a b : Int) (n h : Nat) (l : List Int) (ot : Bool) (body els : Fo) : Bool × Unit := (decide (d ≤ 500) && insB op a b n h l ot body.len els.len,())
noncomputable def codeB (f : Fo) : Bool := (evF codeSt f 1 ()).1
noncomputable def dataSt (_ : Unit) (d op a b : Int) (n h : Nat) (l : List Int) (ot : Bool) (body els : Fo) : Bool × Unit := ((lineL op).2.1 != 17 && (lineL op).2.1 != 18,())
noncomputable def dataB (f : Fo) : Bool := (evF dataSt f 1 ()).1
def nestSt (s : Int) (d op a b : Int) (n h : Nat) (l : List Int) (ot : Bool) (body els : Fo) : Bool × Int := (true,max s d)
def countSt (s : Int) (d op a b : Int) (n h : Nat) (l : List Int) (ot : Bool) (body els : Fo) : Bool × Int := (true,wrap64 (s + 1))
set_option maxHeartbeats 2000000 in
theorem asks_code (B : Nat) : Asked 213 #[] (fun (_ : Unit) _ => True) codeSt B none := by
 intro s d op a b n h l ot body els vl vb ve w hd hB hc hl hbo hel hs
 obtain ⟨pl,cl,rfl,hq,_⟩ := id hl
 obtain ⟨pb,cb,_,_,rfl,_,_⟩ := hbo
 obtain ⟨pe,ce,_,_,rfl,_,_⟩ := hel
 show Calls Tryz.prog 213 #[.agg #[.int .i64 op,.int .i64 a,.int .i64 b,.int .u64 (n : Nat),.int .u64 (h : Nat),.slice pl l.length cl,.slice pb body.len cb,.slice pe els.len ce,.bool ot],.int .i64 d] w fun e w' => e = .returned (.bool (decide (d ≤ 500) && insB op a b n h l ot body.len els.len)) ∧ True ∧ KP none w w'
 have HI : ∀ W,Below w.heap.size w W → Hid (Calls Tryz.prog 214 #[.agg #[.int .i64 op,.int .i64 a,.int .i64 b,.int .u64 (n : Nat),.int .u64 (h : Nat),.slice pl l.length cl,.slice pb body.len cb,.slice pe els.len ce,.bool ot]] W fun e w' => e = .returned (.bool (insB op a b n h l ot body.len els.len)) ∧ Below W.heap.size W w') := fun W hW => isInstr_says op a b n h l l.length rfl pl pb pe cl body.len cb els.len ce ot B W (Nat.le_trans hB hW.size) (hl.below (hW.mono hB)) hq
 generalize insB op a b n h l ot body.len els.len = u at *
 generalize l.length = nl at *
 generalize body.len = nb at *
 generalize els.len = ne at *
 have HBX := hid ((Below.refl w.heap.size w).alloc (Nat.le_refl _) (.cells #[.int .i64 op,.int .i64 a,.int .i64 b,.int .u64 (n : Nat),.int .u64 (h : Nat),.slice pl nl cl,.slice pb nb cb,.slice pe ne ce,.bool ot] 39))
 obtain ⟨b5,d5⟩ : ∃ x,decide (d ≤ 500) = x := ⟨_,rfl⟩
 rw [d5]
 clear hl hq hd hs hB hc
 cases b5 with
 | false =>
  go_enter Tryz.func213,Tryz.ntmps213
  go_wp2
  go_ret
  exact ⟨rfl,trivial,KP.of HBX.out⟩
 | true =>
  go_enter Tryz.func213,Tryz.ntmps213
  go_wp2_with (go_at_call 214; (with_reducible refine (HI _ HBX.out).out.mono ?_); rintro e w1 ⟨rfl,hb1⟩; have HB1 := hid (HBX.out.trans (hb1.mono HBX.out.size)); clear hb1)
  go_ret
  exact ⟨by simp,trivial,KP.of HB1.out⟩
theorem isCode_says (f : Fo) (v : Value) (B : Nat) (w : World) (hn : f.cnt < 9223372036854775806) (hB : B ≤ w.heap.size) (hs : SA B w v f) : Calls Tryz.prog 148 #[v] w fun e w' => e = .returned (.bool (codeB f)) ∧ Below w.heap.size w w' := by
 have H := hid (every_says 213 #[] (fun _ _ => rfl) (fun (_ : Unit) _ => True) codeSt B none (fun k e => by cases e) (fun _ _ _ _ _ => trivial) (asks_code B) f () v w hn hB (fun k e => by cases e) hs trivial)
 unfold codeB
 generalize (evF codeSt f 1 ()).1 = r at *
 clear hs hn
 go_enter Tryz.func148,Tryz.ntmps148
 go_wp2_with (go_at_call 140; (with_reducible refine H.out.mono ?_); rintro e w1 ⟨rfl,_,hk1⟩)
 go_ret
 exact ⟨rfl,hk1.pure⟩
set_option maxHeartbeats 2000000 in
theorem asks_data (B : Nat) : Asked 151 #[] (fun (_ : Unit) _ => True) dataSt B none := by
 intro s d op a b n h l ot body els vl vb ve w hd hB hc hl hbo hel hs
 obtain ⟨pl,cl,rfl,hq,_⟩ := id hl
 obtain ⟨pb,cb,_,_,rfl,_,_⟩ := hbo
 obtain ⟨pe,ce,_,_,rfl,_,_⟩ := hel
 have HI := fun W => hid (Imm_says op W)
 unfold dataSt
 generalize (lineL op).2.1 = k at *
 show Calls Tryz.prog 151 #[.agg #[.int .i64 op,.int .i64 a,.int .i64 b,.int .u64 (n : Nat),.int .u64 (h : Nat),.slice pl l.length cl,.slice pb body.len cb,.slice pe els.len ce,.bool ot],.int .i64 d] w fun e w' => e = .returned (.bool (k != 17 && k != 18)) ∧ True ∧ KP none w w'
 generalize l.length = nl at *
 generalize body.len = nb at *
 generalize els.len = ne at *
 have HBX := hid ((Below.refl w.heap.size w).alloc (Nat.le_refl _) (.cells #[.int .i64 op,.int .i64 a,.int .i64 b,.int .u64 (n : Nat),.int .u64 (h : Nat),.slice pl nl cl,.slice pb nb cb,.slice pe ne ce,.bool ot] 39))
 obtain ⟨b5,d5⟩ : ∃ x,(k != 17) = x := ⟨_,rfl⟩
 rw [d5]
 clear hl hq hd hs hB hc
 cases b5
 all_goals
  go_enter Tryz.func151,Tryz.ntmps151
  go_wp2_with (go_at_call 152; (with_reducible refine (HI _).out.mono ?_); rintro e w1 ⟨rfl,hb1⟩; have HB1 := hid (HBX.out.trans (hb1.mono HBX.out.size)); clear hb1)
  go_ret
  exact ⟨by simp,trivial,KP.of HB1.out⟩
/-- The box of a counter. -/
def Cnt (g : Nat) (s : Int) (W : World) : Prop := CA g #[.int .i64 s] 3 W
set_option maxHeartbeats 2000000 in
theorem asks_nest (B g : Nat) (hg : B ≤ g) : Asked 141 #[.pointer (some ⟨g,0,none⟩)] (Cnt g) nestSt B (some g) := by
 intro s d op a b n h l ot body els vl vb ve w hd hB hc hl hbo hel hs
 obtain ⟨pl,cl,rfl,hq,_⟩ := id hl
 obtain ⟨pb,cb,_,_,rfl,_,_⟩ := hbo
 obtain ⟨pe,ce,_,_,rfl,_,_⟩ := hel
 have hgw := hc g rfl
 show Calls Tryz.prog 141 #[.agg #[.int .i64 op,.int .i64 a,.int .i64 b,.int .u64 (n : Nat),.int .u64 (h : Nat),.slice pl l.length cl,.slice pb body.len cb,.slice pe els.len ce,.bool ot],.int .i64 d,.pointer (some ⟨g,0,none⟩)] w fun e w' => e = .returned (.bool true) ∧ Cnt g (max s d) w' ∧ KP (some g) w w'
 generalize l.length = nl at *
 generalize body.len = nb at *
 generalize els.len = ne at *
 have HC := hid (CA.alloc hs (.cells #[.int .i64 op,.int .i64 a,.int .i64 b,.int .u64 (n : Nat),.int .u64 (h : Nat),.slice pl nl cl,.slice pb nb cb,.slice pe ne ce,.bool ot] 39))
 have HK := hid (KP.alloc (KP.refl (some g) w) (.cells #[.int .i64 op,.int .i64 a,.int .i64 b,.int .u64 (n : Nat),.int .u64 (h : Nat),.slice pl nl cl,.slice pb nb cb,.slice pe ne ce,.bool ot] 39))
 clear hl hq hd hs hB hc
 go_enter Tryz.func141,Tryz.ntmps141
 go_upto_region 1 with fail
 generalize w.alloc (.cells #[.int .i64 op,.int .i64 a,.int .i64 b,.int .u64 (n : Nat),.int .u64 (h : Nat),.slice pl nl cl,.slice pb nb cb,.slice pe ne ce,.bool ot] 39) = W1 at *
 have x0 := HC.out.at (k := 0) (v := .int .i64 s) rfl
 have f0 := HC.out.free 0
 go_wp2
 all_goals go_ret
 ·have hm : max s d = d := by omega
  rw [hm]
  exact ⟨rfl,CA.set HC.out (k := 0) (.int .i64 d),HK.out.trans (KP.set W1 g 0 _)⟩
 ·have hm : max s d = s := by omega
  rw [hm]
  exact ⟨rfl,CA.set HC.out (k := 0) (.int .i64 s),HK.out.trans (KP.set W1 g 0 _)⟩
set_option maxHeartbeats 2000000 in
theorem asks_count (B g : Nat) (hg : B ≤ g) : Asked 142 #[.pointer (some ⟨g,0,none⟩)] (Cnt g) countSt B (some g) := by
 intro s d op a b n h l ot body els vl vb ve w hd hB hc hl hbo hel hs
 obtain ⟨pl,cl,rfl,hq,_⟩ := id hl
 obtain ⟨pb,cb,_,_,rfl,_,_⟩ := hbo
 obtain ⟨pe,ce,_,_,rfl,_,_⟩ := hel
 have hgw := hc g rfl
 show Calls Tryz.prog 142 #[.agg #[.int .i64 op,.int .i64 a,.int .i64 b,.int .u64 (n : Nat),.int .u64 (h : Nat),.slice pl l.length cl,.slice pb body.len cb,.slice pe els.len ce,.bool ot],.int .i64 d,.pointer (some ⟨g,0,none⟩)] w fun e w' => e = .returned (.bool true) ∧ Cnt g (wrap64 (s + 1)) w' ∧ KP (some g) w w'
 generalize l.length = nl at *
 generalize body.len = nb at *
 generalize els.len = ne at *
 have HC := hid (CA.alloc hs (.cells #[.int .i64 op,.int .i64 a,.int .i64 b,.int .u64 (n : Nat),.int .u64 (h : Nat),.slice pl nl cl,.slice pb nb cb,.slice pe ne ce,.bool ot] 39))
 have HK := hid (KP.alloc (KP.refl (some g) w) (.cells #[.int .i64 op,.int .i64 a,.int .i64 b,.int .u64 (n : Nat),.int .u64 (h : Nat),.slice pl nl cl,.slice pb nb cb,.slice pe ne ce,.bool ot] 39))
 clear hl hq hd hs hB hc
 go_enter Tryz.func142,Tryz.ntmps142
 go_upto_region 1 with fail
 generalize w.alloc (.cells #[.int .i64 op,.int .i64 a,.int .i64 b,.int .u64 (n : Nat),.int .u64 (h : Nat),.slice pl nl cl,.slice pb nb cb,.slice pe ne ce,.bool ot] 39) = W1 at *
 have x0 := HC.out.at (k := 0) (v := .int .i64 s) rfl
 have f0 := HC.out.free 0
 go_wp2
 go_ret
 exact ⟨rfl,HC.out.set (k := 0) (.int .i64 (wrap64 (s + 1))),HK.out.trans (KP.set W1 g 0 _)⟩
set_option maxHeartbeats 2000000 in
theorem Nest_says (f : Fo) (v : Value) (w : World) (hn : f.cnt < 9223372036854775806) (hs : SA w.heap.size w v f) : Calls Tryz.prog 28 #[v] w fun e w' => e = .returned (.int .i64 (evF nestSt f 1 0).2) ∧ Below w.heap.size w w' := by
 have hb := (Below.refl w.heap.size w).alloc (Nat.le_refl _) (.cells #[.int .i64 0] 3)
 have H := hid (every_says 141 #[.pointer (some ⟨w.heap.size,0,none⟩)] (fun _ _ => rfl) (Cnt w.heap.size) nestSt w.heap.size (some w.heap.size) (fun k e => by cases e; exact Nat.le_refl _) (fun _ _ o _ h => CA.alloc h o) (asks_nest w.heap.size w.heap.size (Nat.le_refl _)) f 0 v (w.alloc (.cells #[.int .i64 0] 3)) hn hb.size (fun k e => by cases e; rw [size_al]; omega) (SA.below hs hb) (CA.new w #[.int .i64 0] 3))
 generalize evF nestSt f 1 0 = r at *
 have HB := hid hb
 clear hs hn hb
 go_enter Tryz.func28,Tryz.ntmps28
 go_wp2_with (go_at_call 140; (with_reducible refine H.out.mono ?_); rintro e w1 ⟨rfl,hc1,hk1⟩; have y0 := CA.at (k := 0) (v := .int .i64 r.2) hc1 rfl; have HK1 := hid (HB.out.trans (hk1.below HB.out.size (fun k e => by cases e; exact Nat.le_refl _))); clear hc1 hk1)
 go_ret
 exact ⟨rfl,HK1.out⟩
set_option maxHeartbeats 2000000 in
theorem Count_says (f : Fo) (v : Value) (w : World) (hn : f.cnt < 9223372036854775806) (hs : SA w.heap.size w v f) : Calls Tryz.prog 29 #[v] w fun e w' => e = .returned (.int .i64 (evF countSt f 1 0).2) ∧ Below w.heap.size w w' := by
 have hb := (Below.refl w.heap.size w).alloc (Nat.le_refl _) (.cells #[.int .i64 0] 3)
 have H := hid (every_says 142 #[.pointer (some ⟨w.heap.size,0,none⟩)] (fun _ _ => rfl) (Cnt w.heap.size) countSt w.heap.size (some w.heap.size) (fun k e => by cases e; exact Nat.le_refl _) (fun _ _ o _ h => CA.alloc h o) (asks_count w.heap.size w.heap.size (Nat.le_refl _)) f 0 v (w.alloc (.cells #[.int .i64 0] 3)) hn hb.size (fun k e => by cases e; rw [size_al]; omega) (SA.below hs hb) (CA.new w #[.int .i64 0] 3))
 generalize evF countSt f 1 0 = r at *
 have HB := hid hb
 clear hs hn hb
 go_enter Tryz.func29,Tryz.ntmps29
 go_wp2_with (go_at_call 140; (with_reducible refine H.out.mono ?_); rintro e w1 ⟨rfl,hc1,hk1⟩; have y0 := CA.at (k := 0) (v := .int .i64 r.2) hc1 rfl; have HK1 := hid (HB.out.trans (hk1.below HB.out.size (fun k e => by cases e; exact Nat.le_refl _))); clear hc1 hk1)
 go_ret
 exact ⟨rfl,HK1.out⟩
end Go.Proofs.YtjgeedgphcjhoaaGreat
namespace Go.Proofs.YtjgeedgphcjhoaaGreat
open Go.RowKit
theorem nst_cnt : ∀ f : Fo,f.nst ≤ f.cnt ∧ f.len ≤ f.cnt
 | .nil => ⟨Nat.le_refl _,Nat.le_refl _⟩
 | .cons _ _ _ _ _ _ _ b e r => by
  have h1 := nst_cnt b
  have h2 := nst_cnt e
  have h3 := nst_cnt r
  simp only [Fo.nst,Fo.cnt,Fo.len]
  omega
set_option maxHeartbeats 8000000 in
theorem RNest_says (B : Nat) (w : World) (hc62 : True) : ∀ (N : Nat) (f : Fo),f.cnt < N ∧ f.cnt < 9223372036854775806 → ∀ (v : Value),SA B w v f →
  Calls Tryz.prog 138 #[v] w fun e w' => e = .returned (.int .i64 (f.nst : Nat)) ∧ w = w' := by
 intro N
 induction N with
 | zero => intro f h; omega
 | succ N ih =>
  intro f hf v hs
  obtain ⟨p,c,g0,o0,rfl,hp,hfa⟩ := hs
  have hcl := nst_cnt f
  obtain ⟨m,hm⟩ : ∃ m,m = f.len := ⟨_,rfl⟩
  rw [← hm] at hp ⊢
  have HIH := hid ih
  have HP := hid hp
  have hm62 : (m : Int) < 9223372036854775807 := by omega
  obtain ⟨R,hR⟩ : ∃ R,R = f.nst := ⟨_,rfl⟩
  rw [← hR]
  have HS : Hid (0 + f.len = m ∧ f.cnt < N + 1 ∧ FA B w f g0 (o0 + 0 * 9) ∧ R = max 0 f.nst ∧ f.cnt < 9223372036854775806) := ⟨by rw [hm]; omega,hf.1,by simpa using hfa,by omega,hf.2⟩
  clear ih hp hR hm hfa hf hcl
  go_enter Tryz.func138,Tryz.ntmps138
  go_wp2
  go_loop [3,4] (fun vn vi => ∃ (i : Nat) (fi : Fo) (n : Nat),i ≤ m ∧ vi = .int .i64 i ∧ vn = .int .i64 n ∧ Hid (i + fi.len = m ∧ fi.cnt < N + 1 ∧ FA B w fi g0 (o0 + i * 9) ∧ R = max n fi.nst ∧ fi.cnt < 9223372036854775806)) (fun _ vi => m - (intOf vi).toNat)
  case atStart => exact ⟨0,f,0,Nat.zero_le _,rfl,rfl,HS⟩
  case round =>
   obtain ⟨i,fi,n,him,rfl,rfl,HI⟩ := hrel
   cases fi with
   | nil =>
    have hi : i = m := HI.out.1
    subst hi
    have HE : Hid (R = n) := by have := HI.out.2.2.2.1; simp only [Fo.nst] at this; (show R = n); omega
    go_wp2
    go_ret
    exact ⟨by rw [HE.out]; rfl,rfl⟩
   | cons op a b nn h l ot body els rest =>
    obtain ⟨hg,⟨vl,vb,ve,x0,x1,x2,x3,x4,x5,x6,x7,x8,hl,hbo,hel⟩,hrest⟩ := HI.out.2.2.1
    have hlt : i < m := by have := HI.out.1; simp only [Fo.len] at this; omega
    obtain rfl := HP.out (by omega)
    have hcn := HI.out.2.1
    simp only [Fo.cnt] at hcn
    have nb := nst_cnt body
    have ne := nst_cnt els
    have nr := nst_cnt rest
    have h62 := HI.out.2.2.2.2
    simp only [Fo.cnt] at h62
    have KB := hid (HIH.out body ⟨by omega,by omega⟩ vb hbo)
    have KE := hid (HIH.out els ⟨by omega,by omega⟩ ve hel)
    have hR := HI.out.2.2.2.1
    simp only [Fo.nst] at hR
    have HR := hid hR
    have HLE := hid (show i + 1 + rest.len = m ∧ rest.cnt < N + 1 ∧ rest.cnt < 9223372036854775806 by have h1 := HI.out.1; simp only [Fo.len] at h1; omega)
    have HRS := hid (show FA B w rest g0 (o0 + (i + 1) * 9) by (have h9 : o0 + (i + 1) * 9 = o0 + i * 9 + 9 := by omega); rw [h9]; exact hrest)
    obtain ⟨x,hx⟩ : ∃ x,x = body.nst := ⟨_,rfl⟩
    obtain ⟨y,hy⟩ : ∃ y,y = els.nst := ⟨_,rfl⟩
    rw [← hx,← hy] at HR
    rw [← hx] at KB nb
    rw [← hy] at KE ne
    have hwx : wrap64 ((x : Int) + 1) = (x : Int) + 1 := by unfold wrap64; omega
    have hwy : wrap64 ((y : Int) + 1) = (y : Int) + 1 := by unfold wrap64; omega
    clear hbo hel hrest HI hg hcn hl hR hx hy x0 x1 x2 x3 x4 x5 x8 nb ne nr h62
    rcases (show (x < y ∨ ¬ x < y) by omega) with hxy | hxy
    ·have d1 : decide ((x : Int) < (y : Int)) = true := by simp; omega
     rcases (show (n < y + 1 ∨ ¬ n < y + 1) by omega) with hn | hn
     ·have d2 : decide ((n : Int) < (y : Int) + 1) = true := by simp; omega
      go_wp2_with (first
       | (go_at_call 138; (with_reducible refine KB.out.mono ?_); rintro e w2 ⟨rfl,rfl⟩)
       | (go_at_call 138; (with_reducible refine KE.out.mono ?_); rintro e w3 ⟨rfl,rfl⟩))
      go_round
      case rel => exact ⟨i + 1,rest,y + 1,hlt,by go_num,by go_num,HLE.out.1,HLE.out.2.1,HRS.out,by have := HR.out; omega,HLE.out.2.2⟩
      case measure => simp [intOf]; omega
     ·have d2 : decide ((n : Int) < (y : Int) + 1) = false := by simp; omega
      go_wp2_with (first
       | (go_at_call 138; (with_reducible refine KB.out.mono ?_); rintro e w2 ⟨rfl,rfl⟩)
       | (go_at_call 138; (with_reducible refine KE.out.mono ?_); rintro e w3 ⟨rfl,rfl⟩))
      go_round
      case rel => exact ⟨i + 1,rest,n,hlt,by go_num,rfl,HLE.out.1,HLE.out.2.1,HRS.out,by have := HR.out; omega,HLE.out.2.2⟩
      case measure => simp [intOf]; omega
    ·have d1 : decide ((x : Int) < (y : Int)) = false := by simp; omega
     rcases (show (n < x + 1 ∨ ¬ n < x + 1) by omega) with hn | hn
     ·have d2 : decide ((n : Int) < (x : Int) + 1) = true := by simp; omega
      go_wp2_with (first
       | (go_at_call 138; (with_reducible refine KB.out.mono ?_); rintro e w2 ⟨rfl,rfl⟩)
       | (go_at_call 138; (with_reducible refine KE.out.mono ?_); rintro e w3 ⟨rfl,rfl⟩))
      go_round
      case rel => exact ⟨i + 1,rest,x + 1,hlt,by go_num,by go_num,HLE.out.1,HLE.out.2.1,HRS.out,by have := HR.out; omega,HLE.out.2.2⟩
      case measure => simp [intOf]; omega
     ·have d2 : decide ((n : Int) < (x : Int) + 1) = false := by simp; omega
      go_wp2_with (first
       | (go_at_call 138; (with_reducible refine KB.out.mono ?_); rintro e w2 ⟨rfl,rfl⟩)
       | (go_at_call 138; (with_reducible refine KE.out.mono ?_); rintro e w3 ⟨rfl,rfl⟩))
      go_round
      case rel => exact ⟨i + 1,rest,n,hlt,by go_num,rfl,HLE.out.1,HLE.out.2.1,HRS.out,by have := HR.out; omega,HLE.out.2.2⟩
      case measure => simp [intOf]; omega
end Go.Proofs.YtjgeedgphcjhoaaGreat
namespace Go.Proofs.YtjgeedgphcjhoaaGreat
open Go.RowKit
noncomputable def onesB : Fo → Bool
 | .nil => true
 | .cons op a b n h l ot body els rest => insB op a b n h l ot body.len els.len && onesB body && onesB els && onesB rest
/-- The numbers are integers of the machine. -/
def Rng : Fo → Prop
 | .nil => True
 | .cons _ a b _ _ l _ body els rest => i64B a ∧ i64B b ∧ (∀ x ∈ l,i64B x) ∧ Rng body ∧ Rng els ∧ Rng rest
set_option maxHeartbeats 8000000 in
theorem ones_says (B : Nat) : ∀ (N : Nat) (f : Fo),f.cnt < N ∧ f.cnt < 9223372036854775806 → Rng f → ∀ (v : Value) (w : World),B ≤ w.heap.size → SA B w v f →
  Calls Tryz.prog 137 #[v] w fun e w' => e = .returned (.bool (onesB f)) ∧ Below w.heap.size w w' := by
 intro N
 induction N with
 | zero => intro f h; omega
 | succ N ih =>
  intro f hf hr v w hB hs
  obtain ⟨p,c,g0,o0,rfl,hp,hfa⟩ := hs
  have hcl := nst_cnt f
  obtain ⟨m,hm⟩ : ∃ m,m = f.len := ⟨_,rfl⟩
  rw [← hm] at hp ⊢
  have HIH := hid ih
  have HP := hid hp
  have HBB := hid hB
  have hm62 : (m : Int) < 9223372036854775807 := by omega
  obtain ⟨R,hR⟩ : ∃ R,R = onesB f := ⟨_,rfl⟩
  rw [← hR]
  have HS : Hid (0 + f.len = m ∧ f.cnt < N + 1 ∧ FA B w f g0 (o0 + 0 * 9) ∧ R = onesB f ∧ (f.cnt < 9223372036854775806 ∧ Rng f) ∧ Below w.heap.size w w) := ⟨by rw [hm]; omega,hf.1,by simpa using hfa,hR,⟨hf.2,hr⟩,Below.refl _ _⟩
  clear ih hp hR hm hfa hf hcl hB hr
  go_enter Tryz.func137,Tryz.ntmps137
  go_wp2
  go_loopw [3] (fun vi wr => ∃ (i : Nat) (fi : Fo),i ≤ m ∧ vi = .int .i64 i ∧ Hid (i + fi.len = m ∧ fi.cnt < N + 1 ∧ FA B w fi g0 (o0 + i * 9) ∧ R = onesB fi ∧ (fi.cnt < 9223372036854775806 ∧ Rng fi) ∧ Below w.heap.size w wr)) (fun vi _ => m - (intOf vi).toNat)
  case atStart => exact ⟨0,f,Nat.zero_le _,rfl,HS⟩
  case round =>
   obtain ⟨i,fi,him,rfl,HI⟩ := hrel
   cases fi with
   | nil =>
    have hi : i = m := HI.out.1
    subst hi
    have HE : Hid (R = true) := HI.out.2.2.2.1
    have HW := hid HI.out.2.2.2.2.2
    go_wp2
    go_ret
    exact ⟨by rw [HE.out]; rfl,HW.out⟩
   | cons op a b nn h l ot body els rest =>
    obtain ⟨hg,⟨vl,vb,ve,x0,x1,x2,x3,x4,x5,x6,x7,x8,hl,hbo,hel⟩,hrest⟩ := HI.out.2.2.1
    have hlt : i < m := by have := HI.out.1; simp only [Fo.len] at this; omega
    obtain rfl := HP.out (by omega)
    have hcn := HI.out.2.1
    simp only [Fo.cnt] at hcn
    have h62 := HI.out.2.2.2.2.1.1
    simp only [Fo.cnt] at h62
    obtain ⟨ra,rb,rl,rbo,rel',rre⟩ := HI.out.2.2.2.2.1.2
    have HL := hid hl
    have HBO := hid hbo
    have HEL := hid hel
    have KB := fun (W : World) (hW : Below w.heap.size w W) => hid (HIH.out body ⟨by omega,by omega⟩ rbo vb W (Nat.le_trans HBB.out hW.size) (SA.below HBO.out (hW.mono HBB.out)))
    have KE := fun (W : World) (hW : Below w.heap.size w W) => hid (HIH.out els ⟨by omega,by omega⟩ rel' ve W (Nat.le_trans HBB.out hW.size) (SA.below HEL.out (hW.mono HBB.out)))
    obtain ⟨pl,cl,evl,_⟩ := id hl
    obtain ⟨pb,cb,_,_,evb,_,_⟩ := id hbo
    obtain ⟨pe,ce,_,_,eve,_,_⟩ := id hel
    obtain ⟨nl,hnl⟩ : ∃ x,x = l.length := ⟨_,rfl⟩
    obtain ⟨nb,hnb⟩ : ∃ x,x = body.len := ⟨_,rfl⟩
    obtain ⟨ne,hne⟩ : ∃ x,x = els.len := ⟨_,rfl⟩
    rw [← hnl] at evl
    rw [← hnb] at evb
    rw [← hne] at eve
    subst evl evb eve
    have K1 := fun (W : World) (hW : Below w.heap.size w W) => hid (One_says op a b nn h l nl hnl pl pb pe cl nb cb ne ce ot B W (Nat.le_trans HBB.out hW.size) (HL.out.below (hW.mono HBB.out)) ra rb rl)
    have hR := HI.out.2.2.2.1
    simp only [onesB] at hR
    rw [← hnb,← hne] at hR
    have HR := hid hR
    have HLE := hid (show i + 1 + rest.len = m ∧ rest.cnt < N + 1 ∧ rest.cnt < 9223372036854775806 by have h1 := HI.out.1; simp only [Fo.len] at h1; omega)
    have HRR := hid rre
    have HRS := hid (show FA B w rest g0 (o0 + (i + 1) * 9) by (have h9 : o0 + (i + 1) * 9 = o0 + i * 9 + 9 := by omega); rw [h9]; exact hrest)
    have HGW := hid (Nat.lt_of_lt_of_le hg HBB.out)
    have hS0 := HI.out.2.2.2.2.2
    generalize insB op a b nn h l ot nb ne = q1 at *
    generalize onesB body = q2 at *
    generalize onesB els = q3 at *
    clear hR hl hbo hel hrest HI hg hcn h62 ra rb rl rbo rel' rre hnl hnb hne
    have HX := hid (And.intro x0 (And.intro x1 (And.intro x2 (And.intro x3 (And.intro x4 (And.intro x5 (And.intro x6 (And.intro x7 x8))))))))
    clear x0 x1 x2 x3 x4 x5 x6 x7 x8
    obtain ⟨x0,x1,x2,x3,x4,x5,x6,x7,x8⟩ := HX.out; have z0 := (hS0.cell (p := ⟨g0,o0 + i * 9,none⟩) HGW.out).trans x0; have z1 := (hS0.cell (p := ⟨g0,o0 + i * 9 + 1,none⟩) HGW.out).trans x1; have z2 := (hS0.cell (p := ⟨g0,o0 + i * 9 + 2,none⟩) HGW.out).trans x2; have z3 := (hS0.cell (p := ⟨g0,o0 + i * 9 + 3,none⟩) HGW.out).trans x3; have z4 := (hS0.cell (p := ⟨g0,o0 + i * 9 + 4,none⟩) HGW.out).trans x4; have z5 := (hS0.cell (p := ⟨g0,o0 + i * 9 + 5,none⟩) HGW.out).trans x5; have z6 := (hS0.cell (p := ⟨g0,o0 + i * 9 + 6,none⟩) HGW.out).trans x6; have z7 := (hS0.cell (p := ⟨g0,o0 + i * 9 + 7,none⟩) HGW.out).trans x7; have z8 := (hS0.cell (p := ⟨g0,o0 + i * 9 + 8,none⟩) HGW.out).trans x8; clear x0 x1 x2 x3 x4 x5 x6 x7 x8
    rcases (show q1 = false ∨ (q1 = true ∧ q2 = false) ∨ (q1 = true ∧ q2 = true ∧ q3 = false) ∨ (q1 = true ∧ q2 = true ∧ q3 = true) by cases q1 <;> cases q2 <;> cases q3 <;> simp) with rfl | ⟨rfl,rfl⟩ | ⟨rfl,rfl,rfl⟩ | ⟨rfl,rfl,rfl⟩
    ·go_wp2_with (first
      | (go_at_call 209; (with_reducible refine (K1 _ hS0).out.mono ?_); rintro e W1 ⟨rfl,hb⟩; have hS1 := hS0.trans (hb.mono hS0.size); clear hb; clear z0 z1 z2 z3 z4 z5 z6 z7 z8; obtain ⟨x0,x1,x2,x3,x4,x5,x6,x7,x8⟩ := HX.out; have u0 := (hS1.cell (p := ⟨g0,o0 + i * 9,none⟩) HGW.out).trans x0; have u1 := (hS1.cell (p := ⟨g0,o0 + i * 9 + 1,none⟩) HGW.out).trans x1; have u2 := (hS1.cell (p := ⟨g0,o0 + i * 9 + 2,none⟩) HGW.out).trans x2; have u3 := (hS1.cell (p := ⟨g0,o0 + i * 9 + 3,none⟩) HGW.out).trans x3; have u4 := (hS1.cell (p := ⟨g0,o0 + i * 9 + 4,none⟩) HGW.out).trans x4; have u5 := (hS1.cell (p := ⟨g0,o0 + i * 9 + 5,none⟩) HGW.out).trans x5; have u6 := (hS1.cell (p := ⟨g0,o0 + i * 9 + 6,none⟩) HGW.out).trans x6; have u7 := (hS1.cell (p := ⟨g0,o0 + i * 9 + 7,none⟩) HGW.out).trans x7; have u8 := (hS1.cell (p := ⟨g0,o0 + i * 9 + 8,none⟩) HGW.out).trans x8; clear x0 x1 x2 x3 x4 x5 x6 x7 x8)
      | (go_at_call 137; (with_reducible refine (KB _ hS1).out.mono ?_); rintro e W2 ⟨rfl,hb⟩; have hS2 := hS1.trans (hb.mono hS1.size); clear hb; clear u0 u1 u2 u3 u4 u5 u6 u7 u8; obtain ⟨x0,x1,x2,x3,x4,x5,x6,x7,x8⟩ := HX.out; have s0 := (hS2.cell (p := ⟨g0,o0 + i * 9,none⟩) HGW.out).trans x0; have s1 := (hS2.cell (p := ⟨g0,o0 + i * 9 + 1,none⟩) HGW.out).trans x1; have s2 := (hS2.cell (p := ⟨g0,o0 + i * 9 + 2,none⟩) HGW.out).trans x2; have s3 := (hS2.cell (p := ⟨g0,o0 + i * 9 + 3,none⟩) HGW.out).trans x3; have s4 := (hS2.cell (p := ⟨g0,o0 + i * 9 + 4,none⟩) HGW.out).trans x4; have s5 := (hS2.cell (p := ⟨g0,o0 + i * 9 + 5,none⟩) HGW.out).trans x5; have s6 := (hS2.cell (p := ⟨g0,o0 + i * 9 + 6,none⟩) HGW.out).trans x6; have s7 := (hS2.cell (p := ⟨g0,o0 + i * 9 + 7,none⟩) HGW.out).trans x7; have s8 := (hS2.cell (p := ⟨g0,o0 + i * 9 + 8,none⟩) HGW.out).trans x8; clear x0 x1 x2 x3 x4 x5 x6 x7 x8)
      | (go_at_call 137; (with_reducible refine (KE _ hS2).out.mono ?_); rintro e W3 ⟨rfl,hb⟩; have hS3 := hS2.trans (hb.mono hS2.size); clear hb; clear s0 s1 s2 s3 s4 s5 s6 s7 s8))
     go_ret
     exact ⟨by rw [HR.out]; simp,hS3⟩
    ·go_wp2_with (first
      | (go_at_call 209; (with_reducible refine (K1 _ hS0).out.mono ?_); rintro e W1 ⟨rfl,hb⟩; have hS1 := hS0.trans (hb.mono hS0.size); clear hb; clear z0 z1 z2 z3 z4 z5 z6 z7 z8; obtain ⟨x0,x1,x2,x3,x4,x5,x6,x7,x8⟩ := HX.out; have u0 := (hS1.cell (p := ⟨g0,o0 + i * 9,none⟩) HGW.out).trans x0; have u1 := (hS1.cell (p := ⟨g0,o0 + i * 9 + 1,none⟩) HGW.out).trans x1; have u2 := (hS1.cell (p := ⟨g0,o0 + i * 9 + 2,none⟩) HGW.out).trans x2; have u3 := (hS1.cell (p := ⟨g0,o0 + i * 9 + 3,none⟩) HGW.out).trans x3; have u4 := (hS1.cell (p := ⟨g0,o0 + i * 9 + 4,none⟩) HGW.out).trans x4; have u5 := (hS1.cell (p := ⟨g0,o0 + i * 9 + 5,none⟩) HGW.out).trans x5; have u6 := (hS1.cell (p := ⟨g0,o0 + i * 9 + 6,none⟩) HGW.out).trans x6; have u7 := (hS1.cell (p := ⟨g0,o0 + i * 9 + 7,none⟩) HGW.out).trans x7; have u8 := (hS1.cell (p := ⟨g0,o0 + i * 9 + 8,none⟩) HGW.out).trans x8; clear x0 x1 x2 x3 x4 x5 x6 x7 x8)
      | (go_at_call 137; (with_reducible refine (KB _ hS1).out.mono ?_); rintro e W2 ⟨rfl,hb⟩; have hS2 := hS1.trans (hb.mono hS1.size); clear hb; clear u0 u1 u2 u3 u4 u5 u6 u7 u8; obtain ⟨x0,x1,x2,x3,x4,x5,x6,x7,x8⟩ := HX.out; have s0 := (hS2.cell (p := ⟨g0,o0 + i * 9,none⟩) HGW.out).trans x0; have s1 := (hS2.cell (p := ⟨g0,o0 + i * 9 + 1,none⟩) HGW.out).trans x1; have s2 := (hS2.cell (p := ⟨g0,o0 + i * 9 + 2,none⟩) HGW.out).trans x2; have s3 := (hS2.cell (p := ⟨g0,o0 + i * 9 + 3,none⟩) HGW.out).trans x3; have s4 := (hS2.cell (p := ⟨g0,o0 + i * 9 + 4,none⟩) HGW.out).trans x4; have s5 := (hS2.cell (p := ⟨g0,o0 + i * 9 + 5,none⟩) HGW.out).trans x5; have s6 := (hS2.cell (p := ⟨g0,o0 + i * 9 + 6,none⟩) HGW.out).trans x6; have s7 := (hS2.cell (p := ⟨g0,o0 + i * 9 + 7,none⟩) HGW.out).trans x7; have s8 := (hS2.cell (p := ⟨g0,o0 + i * 9 + 8,none⟩) HGW.out).trans x8; clear x0 x1 x2 x3 x4 x5 x6 x7 x8)
      | (go_at_call 137; (with_reducible refine (KE _ hS2).out.mono ?_); rintro e W3 ⟨rfl,hb⟩; have hS3 := hS2.trans (hb.mono hS2.size); clear hb; clear s0 s1 s2 s3 s4 s5 s6 s7 s8))
     go_ret
     exact ⟨by rw [HR.out]; simp,hS3⟩
    ·go_wp2_with (first
      | (go_at_call 209; (with_reducible refine (K1 _ hS0).out.mono ?_); rintro e W1 ⟨rfl,hb⟩; have hS1 := hS0.trans (hb.mono hS0.size); clear hb; clear z0 z1 z2 z3 z4 z5 z6 z7 z8; obtain ⟨x0,x1,x2,x3,x4,x5,x6,x7,x8⟩ := HX.out; have u0 := (hS1.cell (p := ⟨g0,o0 + i * 9,none⟩) HGW.out).trans x0; have u1 := (hS1.cell (p := ⟨g0,o0 + i * 9 + 1,none⟩) HGW.out).trans x1; have u2 := (hS1.cell (p := ⟨g0,o0 + i * 9 + 2,none⟩) HGW.out).trans x2; have u3 := (hS1.cell (p := ⟨g0,o0 + i * 9 + 3,none⟩) HGW.out).trans x3; have u4 := (hS1.cell (p := ⟨g0,o0 + i * 9 + 4,none⟩) HGW.out).trans x4; have u5 := (hS1.cell (p := ⟨g0,o0 + i * 9 + 5,none⟩) HGW.out).trans x5; have u6 := (hS1.cell (p := ⟨g0,o0 + i * 9 + 6,none⟩) HGW.out).trans x6; have u7 := (hS1.cell (p := ⟨g0,o0 + i * 9 + 7,none⟩) HGW.out).trans x7; have u8 := (hS1.cell (p := ⟨g0,o0 + i * 9 + 8,none⟩) HGW.out).trans x8; clear x0 x1 x2 x3 x4 x5 x6 x7 x8)
      | (go_at_call 137; (with_reducible refine (KB _ hS1).out.mono ?_); rintro e W2 ⟨rfl,hb⟩; have hS2 := hS1.trans (hb.mono hS1.size); clear hb; clear u0 u1 u2 u3 u4 u5 u6 u7 u8; obtain ⟨x0,x1,x2,x3,x4,x5,x6,x7,x8⟩ := HX.out; have s0 := (hS2.cell (p := ⟨g0,o0 + i * 9,none⟩) HGW.out).trans x0; have s1 := (hS2.cell (p := ⟨g0,o0 + i * 9 + 1,none⟩) HGW.out).trans x1; have s2 := (hS2.cell (p := ⟨g0,o0 + i * 9 + 2,none⟩) HGW.out).trans x2; have s3 := (hS2.cell (p := ⟨g0,o0 + i * 9 + 3,none⟩) HGW.out).trans x3; have s4 := (hS2.cell (p := ⟨g0,o0 + i * 9 + 4,none⟩) HGW.out).trans x4; have s5 := (hS2.cell (p := ⟨g0,o0 + i * 9 + 5,none⟩) HGW.out).trans x5; have s6 := (hS2.cell (p := ⟨g0,o0 + i * 9 + 6,none⟩) HGW.out).trans x6; have s7 := (hS2.cell (p := ⟨g0,o0 + i * 9 + 7,none⟩) HGW.out).trans x7; have s8 := (hS2.cell (p := ⟨g0,o0 + i * 9 + 8,none⟩) HGW.out).trans x8; clear x0 x1 x2 x3 x4 x5 x6 x7 x8)
      | (go_at_call 137; (with_reducible refine (KE _ hS2).out.mono ?_); rintro e W3 ⟨rfl,hb⟩; have hS3 := hS2.trans (hb.mono hS2.size); clear hb; clear s0 s1 s2 s3 s4 s5 s6 s7 s8))
     go_ret
     exact ⟨by rw [HR.out]; simp,hS3⟩
    ·have HF : Hid (R = onesB rest) := by have := HR.out; (show R = onesB rest); simpa using this
     go_wp2_with (first
      | (go_at_call 209; (with_reducible refine (K1 _ hS0).out.mono ?_); rintro e W1 ⟨rfl,hb⟩; have hS1 := hS0.trans (hb.mono hS0.size); clear hb; clear z0 z1 z2 z3 z4 z5 z6 z7 z8; obtain ⟨x0,x1,x2,x3,x4,x5,x6,x7,x8⟩ := HX.out; have u0 := (hS1.cell (p := ⟨g0,o0 + i * 9,none⟩) HGW.out).trans x0; have u1 := (hS1.cell (p := ⟨g0,o0 + i * 9 + 1,none⟩) HGW.out).trans x1; have u2 := (hS1.cell (p := ⟨g0,o0 + i * 9 + 2,none⟩) HGW.out).trans x2; have u3 := (hS1.cell (p := ⟨g0,o0 + i * 9 + 3,none⟩) HGW.out).trans x3; have u4 := (hS1.cell (p := ⟨g0,o0 + i * 9 + 4,none⟩) HGW.out).trans x4; have u5 := (hS1.cell (p := ⟨g0,o0 + i * 9 + 5,none⟩) HGW.out).trans x5; have u6 := (hS1.cell (p := ⟨g0,o0 + i * 9 + 6,none⟩) HGW.out).trans x6; have u7 := (hS1.cell (p := ⟨g0,o0 + i * 9 + 7,none⟩) HGW.out).trans x7; have u8 := (hS1.cell (p := ⟨g0,o0 + i * 9 + 8,none⟩) HGW.out).trans x8; clear x0 x1 x2 x3 x4 x5 x6 x7 x8)
      | (go_at_call 137; (with_reducible refine (KB _ hS1).out.mono ?_); rintro e W2 ⟨rfl,hb⟩; have hS2 := hS1.trans (hb.mono hS1.size); clear hb; clear u0 u1 u2 u3 u4 u5 u6 u7 u8; obtain ⟨x0,x1,x2,x3,x4,x5,x6,x7,x8⟩ := HX.out; have s0 := (hS2.cell (p := ⟨g0,o0 + i * 9,none⟩) HGW.out).trans x0; have s1 := (hS2.cell (p := ⟨g0,o0 + i * 9 + 1,none⟩) HGW.out).trans x1; have s2 := (hS2.cell (p := ⟨g0,o0 + i * 9 + 2,none⟩) HGW.out).trans x2; have s3 := (hS2.cell (p := ⟨g0,o0 + i * 9 + 3,none⟩) HGW.out).trans x3; have s4 := (hS2.cell (p := ⟨g0,o0 + i * 9 + 4,none⟩) HGW.out).trans x4; have s5 := (hS2.cell (p := ⟨g0,o0 + i * 9 + 5,none⟩) HGW.out).trans x5; have s6 := (hS2.cell (p := ⟨g0,o0 + i * 9 + 6,none⟩) HGW.out).trans x6; have s7 := (hS2.cell (p := ⟨g0,o0 + i * 9 + 7,none⟩) HGW.out).trans x7; have s8 := (hS2.cell (p := ⟨g0,o0 + i * 9 + 8,none⟩) HGW.out).trans x8; clear x0 x1 x2 x3 x4 x5 x6 x7 x8)
      | (go_at_call 137; (with_reducible refine (KE _ hS2).out.mono ?_); rintro e W3 ⟨rfl,hb⟩; have hS3 := hS2.trans (hb.mono hS2.size); clear hb; clear s0 s1 s2 s3 s4 s5 s6 s7 s8))
     go_roundw
     case rel => exact ⟨i + 1,rest,hlt,by go_num,HLE.out.1,HLE.out.2.1,HRS.out,HF.out,⟨HLE.out.2.2,HRR.out⟩,hS3⟩
     case measure => simp [intOf]; omega
end Go.Proofs.YtjgeedgphcjhoaaGreat
namespace Go.Proofs.YtjgeedgphcjhoaaGreat
open Go
/-- The bytes of an unsigned number. -/
def ulist (x : Nat) : List UInt8 :=
 if h : x < 128 then [x.toUInt8] else (x % 128 + 128).toUInt8 :: ulist (x / 128)
termination_by x
decreasing_by omega
/-- The bytes of a number of either sign. -/
def slist (m : Int) : List UInt8 :=
 if h : -64 ≤ m ∧ m < 64 then [(m % 128).toNat.toUInt8] else ((m % 128).toNat + 128).toUInt8 :: slist (m / 128)
termination_by m.natAbs
decreasing_by omega
end Go.Proofs.YtjgeedgphcjhoaaGreat
namespace Go.Proofs.YtjgeedgphcjhoaaGreat
open Go.RowKit
/-- A number's lowest byte. -/
def byI (n : Int) : UInt8 := (n % 256).toNat.toUInt8
/-- An integer of the machine as one without a sign, in groups. -/
def uI (n : Int) : List UInt8 := ulist (n % 18446744073709551616).toNat
/-- The lowest k bytes. -/
def lowL : Nat → Nat → List UInt8
 | 0,_ => []
 | k + 1,v => (v % 256).toUInt8 :: lowL k (v / 256)
def opL (op : Int) : List UInt8 := if 64768 ≤ op then 253 :: uI (op - 64768) else if 64512 ≤ op then 252 :: uI (op - 64512) else [byI op]
def sgnN (b : Nat) (n : Nat) : Int := if n % 2 ^ b < 2 ^ (b - 1) then ((n % 2 ^ b : Nat) : Int) else ((n % 2 ^ b : Nat) : Int) - ((2 ^ b : Nat) : Int)
def blL (a b : Int) : List UInt8 := if a = 1 then [byI b] else if a = 2 then slist b else [64]
def usL : List Int → List UInt8
 | [] => []
 | x :: l => uI x ++ usL l
/-- What stands behind an instruction's number. -/
def behL (k a b : Int) (n h : Nat) (l : List Int) (ot : Bool) (eb ee : List UInt8) : List UInt8 :=
 if k = 0 then []
 else if k = 1 then blL a b ++ eb ++ (if ot = true then 5 :: ee else []) ++ [11]
 else if k = 3 then uI l.length ++ usL l ++ uI a
 else if k = 5 ∨ k = 10 ∨ k = 20 ∨ k = 22 then uI a ++ uI b
 else if k = 26 then uI a ++ uI b ++ l.map byI
 else if k = 6 then uI l.length ++ l.map byI
 else if k = 11 then [0]
 else if k = 19 then [0,0]
 else if k = 17 then uI a ++ [0]
 else if k = 12 then slist (sgnN 32 n)
 else if k = 13 then slist (sgnN 64 n)
 else if k = 14 then lowL 4 n
 else if k = 15 then lowL 8 n
 else if k = 23 then lowL 8 n ++ lowL 8 h
 else if k = 16 ∨ k = 25 then [byI a]
 else if k = 24 then l.map byI
 else uI a
noncomputable def Fo.enc : Fo → List UInt8
 | .nil => []
 | .cons op a b n h l ot body els rest => opL op ++ behL (lineL op).2.1 a b n h l ot body.enc els.enc ++ rest.enc
end Go.Proofs.YtjgeedgphcjhoaaGreat
namespace Go.Proofs.YtjgeedgphcjhoaaGreat
open Go.ChangeShapes Go.WideShapes Go.ChangeAt Go.RowKit
/-- The numbers are integers of the machine, of either kind. -/
def RN : Fo → Prop
 | .nil => True
 | .cons _ a b n h l _ body els rest => i64B a ∧ i64B b ∧ (∀ x ∈ l,i64B x) ∧ RN body ∧ RN els ∧ RN rest ∧ n < 18446744073709551616 ∧ h < 18446744073709551616
theorem RN.rng : ∀ {f : Fo},RN f → Rng f
 | .nil,_ => trivial
 | .cons _ _ _ _ _ _ _ _ _ _,h => ⟨h.1,h.2.1,h.2.2.1,RN.rng h.2.2.2.1,RN.rng h.2.2.2.2.1,RN.rng h.2.2.2.2.2.1⟩
section
variable {H : Type} {enc : TypeId × Value → H} {W : World} {sp : Nat → Bool} {held : Bool}
theorem open_listN {fuel : Nat} {v : Value} {x : DataW H × List MemPlace} (h : DataW.trod enc Tryz.prog W 0 sp held fuel 36 [v] = some x) (hw : WB 36 x.1) : ∃ l p c,v = .slice p l.length c ∧ LI W.heap.size W v l ∧ ∀ x ∈ l,i64B x := by
 rcases DataW.trod_slice Tryz.underlying36 h with ⟨hc,rfl⟩ | ⟨a,len,cap,elems,rest,n,rfl,hc,rfl,hb,hl,hm,he,hat,_,_⟩
 ·obtain rfl : v = .slice none 0 0 := by simpa using hc
  exact ⟨[],none,0,rfl,LI.nil _ _ _ _,fun x hx => absurd hx (by simp)⟩
 ·obtain rfl : v = .slice (some a) len cap := by simpa using hc
  obtain ⟨hs,hel⟩ := wb_slice Tryz.underlying36 hw
  rw [by3] at hs
  simp only [List.length_map] at hs
  have hall : ∀ i,i < len → ∃ z : Int,W.cell? (a.add i) = some (.int .i64 z) ∧ i64B z := by
   intro i hi
   have h1 := hat i hi
   rw [c3,Nat.mul_one] at h1
   obtain ⟨y,hy⟩ : ∃ y,elems[i]? = some y := ⟨_,List.getElem?_eq_getElem (by omega)⟩
   rw [hy] at h1
   obtain ⟨cs,hcs,htr⟩ := Option.bind_eq_some_iff.1 h1
   obtain ⟨_,hlen,hcell⟩ := World.cells?_some hcs
   obtain ⟨z,rfl,_,wz⟩ := DataW.trod_int Tryz.underlying3 htr
   have := hcell 0 (by decide)
   have bz := bounds_i64 wz
   refine ⟨z,?_,⟨bz.1,by omega⟩⟩
   rw [add_zero'] at this
   simpa using this
  obtain ⟨f,hf⟩ : ∃ f : Nat → Int,∀ i,i < len → W.cell? (a.add i) = some (.int .i64 (f i)) ∧ i64B (f i) := ⟨fun i => if h : i < len then Classical.choose (hall i h) else 0,fun i hi => by simp only [hi,dif_pos]; exact Classical.choose_spec (hall i hi)⟩
  refine ⟨(List.range len).map f,some a,cap,by simp,⟨some a,cap,by simp,by simp [reachBytes] at hs ⊢; omega,fun hne => ?_⟩,fun x hx => by
   obtain ⟨i,hi,rfl⟩ := List.mem_map.1 hx
   exact (hf i (List.mem_range.1 hi)).2⟩
  have hpos : 0 < len := by
   rcases Nat.eq_zero_or_pos len with h0 | h0
   ·subst h0; simp at hne
   ·exact h0
  have hsp := spot_none (hf 0 hpos).1
  refine ⟨a.block,a.off,by cases a; simp_all,?_,fun j x hj => ?_⟩
  ·have hlt := World.block_lt_of_cell? _ _ (cell_plain hsp (hf 0 hpos).1)
   exact hlt
  ·have hjl : j < len := by
    have := (List.getElem?_eq_some_iff.1 hj).1
    simpa using this
   simp [List.getElem?_map,List.getElem?_range hjl] at hj
   rw [← hj]
   exact cell_plain hsp (hf j hjl).1
/-- One instruction, of nine cells. -/
theorem open_nodeN {n : Nat} {cs : List Value} {y : DataW H × List MemPlace} (h : DataW.trod enc Tryz.prog W 0 sp held n 39 cs = some y) (hw : WB 39 y.1)
  (hrec : ∀ m,m < n → ∀ v z,DataW.trod enc Tryz.prog W 0 sp held m 37 [v] = some z → WB 37 z.1 → ∃ f,SA W.heap.size W v f ∧ f.len < 9223372036854775807 ∧ (Lens f ∧ RN f)) :
  ∃ (op a b : Int) (nn hh : Nat) (l : List Int) (ot : Bool) (body els : Fo) (vl vb ve : Value),cs = [.int .i64 op,.int .i64 a,.int .i64 b,.int .u64 (nn : Nat),.int .u64 (hh : Nat),vl,vb,ve,.bool ot] ∧ nn < 18446744073709551616 ∧ hh < 18446744073709551616 ∧
   LI W.heap.size W vl l ∧ SA W.heap.size W vb body ∧ SA W.heap.size W ve els ∧ body.len < 9223372036854775807 ∧ els.len < 9223372036854775807 ∧ (Lens body ∧ RN body) ∧ (Lens els ∧ RN els) ∧ i64B a ∧ i64B b ∧ ∀ x ∈ l,i64B x := by
 obtain ⟨f0,f1,f2,f3,f4,f5,f6,f7,f8,hu,⟨t0,t1,t2,t3,t4,t5,t6,t7,t8⟩,⟨o0,o1,o2,o3,o4,o5,o6,o7,o8⟩⟩ := fields39
 obtain ⟨xs,m,rfl,hx,hl,hlen,hat⟩ := DataW.trod_struct hu h
 rw [c39] at hl
 obtain ⟨k0,k1,k2,k3,k4,k5,k6,k7,k8,rfl⟩ : ∃ k0 k1 k2 k3 k4 k5 k6 k7 k8,cs = [k0,k1,k2,k3,k4,k5,k6,k7,k8] := by
  match cs,hl with
  | [_,_,_,_,_,_,_,_,_],_ => exact ⟨_,_,_,_,_,_,_,_,_,rfl⟩
 obtain ⟨y0,y1,y2,y3,y4,y5,y6,y7,y8,rfl⟩ : ∃ y0 y1 y2 y3 y4 y5 y6 y7 y8,xs = [y0,y1,y2,y3,y4,y5,y6,y7,y8] := by
  match xs,hlen with
  | [_,_,_,_,_,_,_,_,_],_ => exact ⟨_,_,_,_,_,_,_,_,_,rfl⟩
 have h0 := hat 0 f0 rfl
 have h1 := hat 1 f1 rfl
 have h2 := hat 2 f2 rfl
 have h3 := hat 3 f3 rfl
 have h4 := hat 4 f4 rfl
 have h5 := hat 5 f5 rfl
 have h6 := hat 6 f6 rfl
 have h7 := hat 7 f7 rfl
 have h8 := hat 8 f8 rfl
 rw [t0,o0,c3] at h0
 rw [t1,o1,c3] at h1
 rw [t2,o2,c3] at h2
 rw [t3,o3,c35] at h3
 rw [t4,o4,c35] at h4
 rw [t5,o5,c36] at h5
 rw [t6,o6,c37] at h6
 rw [t7,o7,c37] at h7
 rw [t8,o8,c4] at h8
 obtain ⟨z0,e0,_,_⟩ := DataW.trod_int Tryz.underlying3 h0
 obtain ⟨z1,e1,_,w1⟩ := DataW.trod_int Tryz.underlying3 h1
 obtain ⟨z2,e2,_,w2⟩ := DataW.trod_int Tryz.underlying3 h2
 obtain ⟨z3,e3,_,w3⟩ := DataW.trod_int Tryz.underlying35 h3
 obtain ⟨z4,e4,_,w4⟩ := DataW.trod_int Tryz.underlying35 h4
 obtain ⟨z8,e8,_⟩ := DataW.trod_bool Tryz.underlying4 h8
 obtain rfl : k0 = .int .i64 z0 := by simpa using e0
 obtain rfl : k1 = .int .i64 z1 := by simpa using e1
 obtain rfl : k2 = .int .i64 z2 := by simpa using e2
 obtain rfl : k3 = .int .u64 z3 := by simpa using e3
 obtain rfl : k4 = .int .u64 z4 := by simpa using e4
 obtain rfl : k8 = .bool z8 := by simpa using e8
 obtain ⟨b1,b2⟩ := bounds_u64 w3
 obtain ⟨b3,b4⟩ := bounds_u64 w4
 obtain ⟨n3,rfl⟩ := Int.eq_ofNat_of_zero_le b1
 obtain ⟨n4,rfl⟩ := Int.eq_ofNat_of_zero_le b3
 rw [hx] at hw
 have q5 := wb_part hu hw 5 f5 y5.1 rfl rfl
 have q6 := wb_part hu hw 6 f6 y6.1 rfl rfl
 have q7 := wb_part hu hw 7 f7 y7.1 rfl rfl
 rw [t5] at q5
 rw [t6] at q6
 rw [t7] at q7
 obtain ⟨l,p5,c5,e5,hl5,r5⟩ := open_listN (v := k5) h5 q5
 obtain ⟨fb,sb,lb,nb⟩ := hrec m (Nat.lt_succ_self _) k6 y6 h6 q6
 obtain ⟨fe,se,le,ne⟩ := hrec m (Nat.lt_succ_self _) k7 y7 h7 q7
 exact ⟨z0,z1,z2,n3,n4,l,z8,fb,fe,k5,k6,k7,rfl,by omega,by omega,hl5,sb,se,lb,le,nb,ne,⟨(bounds_i64 w1).1,by have := (bounds_i64 w1).2; omega⟩,⟨(bounds_i64 w2).1,by have := (bounds_i64 w2).2; omega⟩,r5⟩
theorem open_codeN : ∀ (fuel : Nat) (v : Value) (x : DataW H × List MemPlace),DataW.trod enc Tryz.prog W 0 sp held fuel 37 [v] = some x → WB 37 x.1 → ∃ f,SA W.heap.size W v f ∧ f.len < 9223372036854775807 ∧ (Lens f ∧ RN f) := by
 intro fuel
 induction fuel using Nat.strongRecOn with
 | ind fuel ih =>
  intro v x h hw
  rcases DataW.trod_slice Tryz.underlying37 h with ⟨hc,rfl⟩ | ⟨a,len,cap,elems,rest,n,rfl,hc,rfl,hb,hl,hm,he,hat,_,_⟩
  ·obtain rfl : v = .slice none 0 0 := by simpa using hc
   exact ⟨.nil,SA.nil _ _ _ _,by decide,trivial,trivial⟩
  ·obtain rfl : v = .slice (some a) len cap := by simpa using hc
   obtain ⟨hs,hel⟩ := wb_slice Tryz.underlying37 hw
   simp only [List.length_map] at hs
   have hlen : len < 9223372036854775807 := by
    have h8 := by39
    have : (elems.length + rest.length) * 8 ≤ reachBytes := Nat.le_trans (Nat.mul_le_mul_left _ h8) hs
    simp [reachBytes] at this
    omega
   have hnode : ∀ i,i < len → ∃ cs,(∀ k,k < 9 → W.cell? ((a.add (i * 9)).add k) = cs[k]?) ∧ ∃ (op a b : Int) (nn hh : Nat) (l : List Int) (ot : Bool) (body els : Fo) (vl vb ve : Value),cs = [.int .i64 op,.int .i64 a,.int .i64 b,.int .u64 (nn : Nat),.int .u64 (hh : Nat),vl,vb,ve,.bool ot] ∧ nn < 18446744073709551616 ∧ hh < 18446744073709551616 ∧
     LI W.heap.size W vl l ∧ SA W.heap.size W vb body ∧ SA W.heap.size W ve els ∧ body.len < 9223372036854775807 ∧ els.len < 9223372036854775807 ∧ (Lens body ∧ RN body) ∧ (Lens els ∧ RN els) ∧ i64B a ∧ i64B b ∧ ∀ x ∈ l,i64B x := by
    intro i hi
    have h1 := hat i hi
    rw [c39] at h1
    obtain ⟨y,hy⟩ : ∃ y,elems[i]? = some y := ⟨_,List.getElem?_eq_getElem (by omega)⟩
    rw [hy] at h1
    obtain ⟨cs,hcs,htr⟩ := Option.bind_eq_some_iff.1 h1
    obtain ⟨_,_,hcell⟩ := World.cells?_some hcs
    exact ⟨cs,hcell,open_nodeN htr (hel y.1 (List.mem_map.2 ⟨y,List.mem_of_getElem? hy,rfl⟩)) (fun m hm v z hv hz => ih m (by omega) v z hv hz)⟩
   rcases Nat.eq_zero_or_pos len with h0 | hpos
   ·subst h0
    exact ⟨.nil,SA.nil _ _ _ _,by decide,trivial,trivial⟩
   ·have hsp : a.spot = none := by
     obtain ⟨cs,hcell,op,_,_,_,_,_,_,_,_,_,_,_,rfl,_⟩ := hnode 0 hpos
     have := hcell 0 (by decide)
     rw [Nat.zero_mul] at this
     rw [add_zero'] at this
     exact spot_none (by simpa using this)
    have key : ∀ m,m ≤ len → ∃ f : Fo,f.len = m ∧ FA W.heap.size W f a.block (a.off + (len - m) * 9) ∧ (Lens f ∧ RN f) := by
     intro m
     induction m with
     | zero => exact fun _ => ⟨.nil,rfl,trivial,trivial,trivial⟩
     | succ m ihm =>
      intro hm1
      obtain ⟨fr,hfl,hfa,hln⟩ := ihm (by omega)
      obtain ⟨cs,hcell,op,x1,x2,nn,hh,l,ot,body,els,vl,vb,ve,rfl,n1,n2,hL,hB,hE,lb,le,nb,ne,r1,r2,rl⟩ := hnode (len - (m + 1)) (by omega)
      have hc : ∀ k v,k < 9 → [Value.int .i64 op,.int .i64 x1,.int .i64 x2,.int .u64 (nn : Nat),.int .u64 (hh : Nat),vl,vb,ve,.bool ot][k]? = some v → W.cell? ⟨a.block,a.off + (len - (m + 1)) * 9 + k,none⟩ = some v := by
       intro k v hk hv
       have h1 := (hcell k hk).trans hv
       have hs2 : (a.add ((len - (m + 1)) * 9)).spot = none := by
        unfold Addr.add
        split
        ·exact hsp
        ·rfl
       have h2 := cell_plain hs2 h1
       have e1 : (a.add ((len - (m + 1)) * 9)).block = a.block := by unfold Addr.add; split <;> rfl
       have e2 : (a.add ((len - (m + 1)) * 9)).off = a.off + (len - (m + 1)) * 9 := by
        unfold Addr.add
        split
        ·omega
        ·rfl
       rw [e1,e2] at h2
       exact h2
      have hg := World.block_lt_of_cell? _ _ (hc 0 _ (by decide) rfl)
      have ho : a.off + (len - (m + 1)) * 9 + 9 = a.off + (len - m) * 9 := by omega
      refine ⟨.cons op x1 x2 nn hh l ot body els fr,by simp only [Fo.len]; omega,⟨hg,⟨vl,vb,ve,hc 0 _ (by decide) rfl,hc 1 _ (by decide) rfl,hc 2 _ (by decide) rfl,hc 3 _ (by decide) rfl,hc 4 _ (by decide) rfl,hc 5 _ (by decide) rfl,hc 6 _ (by decide) rfl,hc 7 _ (by decide) rfl,hc 8 _ (by decide) rfl,hL,hB,hE⟩,by rw [ho]; exact hfa⟩,⟨lb,le,nb.1,ne.1,hln.1⟩,⟨r1,r2,rl,nb.2,ne.2,hln.2,n1,n2⟩⟩
    obtain ⟨f,hfl,hfa,hln⟩ := key len (Nat.le_refl _)
    rw [Nat.sub_self,Nat.zero_mul,Nat.add_zero] at hfa
    exact ⟨f,⟨some a,cap,a.block,a.off,by rw [hfl],fun _ => by cases a; simp_all,hfa⟩,by omega,hln⟩
end
end Go.Proofs.YtjgeedgphcjhoaaGreat
