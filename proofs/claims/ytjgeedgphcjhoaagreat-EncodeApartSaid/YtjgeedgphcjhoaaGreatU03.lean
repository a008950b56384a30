/-
  EInj, Open, Every, Small, RStr, RTabs, RDig, Types, RTypes, ROfM, ROf, One8: merged, what the law does not reach left out (each text says what it holds where it lies in wip). No condition.
-/
import Derived.Test.YtjgeedgphcjhoaaGreatU02
import Derived.Test.YtjgeedgphcjhoaaGreatRows
import Derived.ProofKit
import Derived.OpenShut
import Derived.ChangeArms
import Derived.SizedLaws
import Derived.Deep.DeepCutAuto
import Derived.Deep.RegionHeld3
import Derived.Shelf.Abstract
import Derived.Laws.AppendOwnNone
import Derived.Laws.Concat
import Derived.RegionTactic
import Derived.Test.YtjgeedgphcjhoaaGreatU01
set_option linter.unusedSimpArgs false
set_option linter.unusedVariables false
set_option maxRecDepth 100000
namespace Go.Proofs.YtjgeedgphcjhoaaGreat
open Go.RowKit
theorem u8_inj {a b : Nat} (ha : a < 256) (hb : b < 256) (h : a.toUInt8 = b.toUInt8) : a = b := by
 have := congrArg UInt8.toNat h
 simp only [Nat.toUInt8_eq,UInt8.toNat_ofNat'] at this
 omega
theorem ulist_inj : ∀ (n x y : Nat) (X Y : List UInt8),x < n → ulist x ++ X = ulist y ++ Y → x = y ∧ X = Y := by
 intro n
 induction n with
 | zero => intro x y X Y h; omega
 | succ n ih =>
  intro x y X Y hx h
  by_cases h1 : x < 128
  ·rw [ulist_small h1] at h
   by_cases h2 : y < 128
   ·rw [ulist_small h2] at h
    simp only [List.cons_append,List.nil_append,List.cons.injEq] at h
    exact ⟨u8_inj (by omega) (by omega) h.1,h.2⟩
   rw [ulist_big (by omega)] at h
   simp only [List.cons_append,List.nil_append,List.cons.injEq] at h
   have := u8_inj (by omega) (by omega) h.1
   omega
  rw [ulist_big (by omega)] at h
  by_cases h2 : y < 128
  ·rw [ulist_small h2] at h
   simp only [List.cons_append,List.nil_append,List.cons.injEq] at h
   have := u8_inj (by omega) (by omega) h.1
   omega
  rw [ulist_big (x := y) (by omega)] at h
  simp only [List.cons_append,List.cons.injEq] at h
  have h3 := u8_inj (by omega) (by omega) h.1
  obtain ⟨h4,h5⟩ := ih (x / 128) (y / 128) X Y (by omega) h.2
  exact ⟨by omega,h5⟩
theorem slist_inj : ∀ (n : Nat) (x y : Int) (X Y : List UInt8),x.natAbs < n → slist x ++ X = slist y ++ Y → x = y ∧ X = Y := by
 intro n
 induction n with
 | zero => intro x y X Y h; omega
 | succ n ih =>
  intro x y X Y hx h
  by_cases h1 : -64 ≤ x ∧ x < 64
  ·rw [slist_small h1] at h
   by_cases h2 : -64 ≤ y ∧ y < 64
   ·rw [slist_small h2] at h
    simp only [List.cons_append,List.nil_append,List.cons.injEq] at h
    have := u8_inj (by omega) (by omega) h.1
    exact ⟨by omega,h.2⟩
   rw [slist_big h2] at h
   simp only [List.cons_append,List.nil_append,List.cons.injEq] at h
   have := u8_inj (by omega) (by omega) h.1
   omega
  rw [slist_big h1] at h
  by_cases h2 : -64 ≤ y ∧ y < 64
  ·rw [slist_small h2] at h
   simp only [List.cons_append,List.nil_append,List.cons.injEq] at h
   have := u8_inj (by omega) (by omega) h.1
   omega
  rw [slist_big (m := y) h2] at h
  simp only [List.cons_append,List.cons.injEq] at h
  have h3 := u8_inj (by omega) (by omega) h.1
  obtain ⟨h4,h5⟩ := ih (x / 128) (y / 128) X Y (by omega) h.2
  exact ⟨by omega,h5⟩
def uR (n : Int) : Prop := 0 ≤ n ∧ n < 18446744073709551616
theorem uI_inj {x y : Int} {X Y : List UInt8} (hx : uR x) (hy : uR y) (h : uI x ++ X = uI y ++ Y) : x = y ∧ X = Y := by
 unfold uR at hx hy
 unfold uI at h
 obtain ⟨h1,h2⟩ := ulist_inj _ _ _ _ _ (Nat.lt_succ_self _) h
 exact ⟨by omega,h2⟩
theorem sI_inj {x y : Int} {X Y : List UInt8} (h : slist x ++ X = slist y ++ Y) : x = y ∧ X = Y := slist_inj _ _ _ _ _ (Nat.lt_succ_self _) h
def bR (n : Int) : Prop := 0 ≤ n ∧ n < 256
theorem byI_inj {x y : Int} (hx : bR x) (hy : bR y) (h : byI x = byI y) : x = y := by
 unfold bR at hx hy
 unfold byI at h
 have := u8_inj (by omega) (by omega) h
 omega
theorem lowL_inj : ∀ (k v u : Nat) (X Y : List UInt8),v < 256 ^ k → u < 256 ^ k → lowL k v ++ X = lowL k u ++ Y → v = u ∧ X = Y := by
 intro k
 induction k with
 | zero =>
  intro v u X Y hv hu h
  simp only [Nat.pow_zero] at hv hu
  exact ⟨by omega,by simpa [lowL] using h⟩
 | succ k ih =>
  intro v u X Y hv hu h
  simp only [lowL,List.cons_append,List.cons.injEq] at h
  have h3 := u8_inj (by omega) (by omega) h.1
  rw [Nat.pow_succ] at hv hu
  obtain ⟨h4,h5⟩ := ih (v / 256) (u / 256) X Y (by omega) (by omega) h.2
  exact ⟨by omega,h5⟩
theorem usL_inj : ∀ (l m : List Int) (X Y : List UInt8),l.length = m.length → (∀ x ∈ l,uR x) → (∀ x ∈ m,uR x) → usL l ++ X = usL m ++ Y → l = m ∧ X = Y := by
 intro l
 induction l with
 | nil =>
  intro m X Y hl _ _ h
  obtain rfl : m = [] := List.length_eq_zero_iff.1 hl.symm
  exact ⟨rfl,by simpa [usL] using h⟩
 | cons x l ih =>
  intro m X Y hl hx hm h
  cases m with
  | nil => simp at hl
  | cons y m =>
   simp only [usL,List.append_assoc] at h
   obtain ⟨rfl,h2⟩ := uI_inj (hx x (by simp)) (hm y (by simp)) h
   obtain ⟨rfl,h3⟩ := ih m X Y (by simpa using hl) (fun z hz => hx z (by simp [hz])) (fun z hz => hm z (by simp [hz])) h2
   exact ⟨rfl,h3⟩
theorem bys_inj : ∀ (l m : List Int) (X Y : List UInt8),l.length = m.length → (∀ x ∈ l,bR x) → (∀ x ∈ m,bR x) → l.map byI ++ X = m.map byI ++ Y → l = m ∧ X = Y := by
 intro l
 induction l with
 | nil =>
  intro m X Y hl _ _ h
  obtain rfl : m = [] := List.length_eq_zero_iff.1 hl.symm
  exact ⟨rfl,by simpa using h⟩
 | cons x l ih =>
  intro m X Y hl hx hm h
  cases m with
  | nil => simp at hl
  | cons y m =>
   simp only [List.map_cons,List.cons_append,List.cons.injEq] at h
   obtain rfl := byI_inj (hx x (by simp)) (hm y (by simp)) h.1
   obtain ⟨rfl,h3⟩ := ih m X Y (by simpa using hl) (fun z hz => hx z (by simp [hz])) (fun z hz => hm z (by simp [hz])) h.2
   exact ⟨rfl,h3⟩
def oR (op : Int) : Prop := (0 ≤ op ∧ op < 252) ∨ (64512 ≤ op ∧ op < 65536)
theorem opL_inj {x y : Int} {X Y : List UInt8} (hx : oR x) (hy : oR y) (h : opL x ++ X = opL y ++ Y) : x = y ∧ X = Y := by
 unfold oR at hx hy
 have small : ∀ z : Int,0 ≤ z → z < 252 → opL z = [byI z] := fun z h1 h2 => by
  unfold opL
  rw [if_neg (by omega),if_neg (by omega)]
 have b252 : (252 : UInt8) = byI 252 := rfl
 have b253 : (253 : UInt8) = byI 253 := rfl
 have mid : ∀ z : Int,64512 ≤ z → z < 64768 → opL z = byI 252 :: uI (z - 64512) := fun z h1 h2 => by
  unfold opL
  rw [if_neg (by omega),if_pos (by omega)]
  rfl
 have great : ∀ z : Int,64768 ≤ z → z < 65536 → opL z = byI 253 :: uI (z - 64768) := fun z h1 h2 => by
  unfold opL
  rw [if_pos (by omega)]
  rfl
 have cls : ∀ z : Int,((0 ≤ z ∧ z < 252) ∨ (64512 ≤ z ∧ z < 65536)) → (0 ≤ z ∧ z < 252 ∧ opL z = byI z :: []) ∨ (64512 ≤ z ∧ z < 64768 ∧ opL z = byI 252 :: uI (z - 64512)) ∨ (64768 ≤ z ∧ z < 65536 ∧ opL z = byI 253 :: uI (z - 64768)) := fun z hz => by
  rcases hz with ⟨h1,h2⟩ | ⟨h1,h2⟩
  ·exact .inl ⟨h1,h2,small z h1 h2⟩
  by_cases h3 : z < 64768
  ·exact .inr (.inl ⟨h1,h3,mid z h1 h3⟩)
  exact .inr (.inr ⟨by omega,h2,great z (by omega) h2⟩)
 have B : ∀ n : Int,0 ≤ n → n < 256 → bR n := fun n h1 h2 => ⟨h1,h2⟩
 rcases cls x hx with ⟨x1,x2,x3⟩ | ⟨x1,x2,x3⟩ | ⟨x1,x2,x3⟩ <;> rcases cls y hy with ⟨y1,y2,y3⟩ | ⟨y1,y2,y3⟩ | ⟨y1,y2,y3⟩ <;> rw [x3,y3] at h <;> simp only [List.cons_append,List.cons.injEq,List.nil_append] at h
 ·exact ⟨byI_inj (B _ x1 (by omega)) (B _ y1 (by omega)) h.1,h.2⟩
 ·have := byI_inj (B _ x1 (by omega)) (B 252 (by decide) (by decide)) h.1; omega
 ·have := byI_inj (B _ x1 (by omega)) (B 253 (by decide) (by decide)) h.1; omega
 ·have := byI_inj (B 252 (by decide) (by decide)) (B _ y1 (by omega)) h.1; omega
 ·obtain ⟨h1,h2⟩ := uI_inj (x := x - 64512) (y := y - 64512) ⟨by omega,by omega⟩ ⟨by omega,by omega⟩ h.2
  exact ⟨by omega,h2⟩
 ·have := byI_inj (B 252 (by decide) (by decide)) (B 253 (by decide) (by decide)) h.1; omega
 ·have := byI_inj (B 253 (by decide) (by decide)) (B _ y1 (by omega)) h.1; omega
 ·have := byI_inj (B 253 (by decide) (by decide)) (B 252 (by decide) (by decide)) h.1; omega
 obtain ⟨h1,h2⟩ := uI_inj (x := x - 64768) (y := y - 64768) ⟨by omega,by omega⟩ ⟨by omega,by omega⟩ h.2
 exact ⟨by omega,h2⟩
end Go.Proofs.YtjgeedgphcjhoaaGreat
namespace Go.Proofs.YtjgeedgphcjhoaaGreat
open Go.ChangeShapes Go.WideShapes Go.ChangeAt Go.RowKit
theorem c3 : Tryz.prog.cellsOf 3 = 1 := by kernel_rfl
theorem c4 : Tryz.prog.cellsOf 4 = 1 := by kernel_rfl
theorem c35 : Tryz.prog.cellsOf 35 = 1 := by kernel_rfl
theorem c36 : Tryz.prog.cellsOf 36 = 1 := by kernel_rfl
theorem c37 : Tryz.prog.cellsOf 37 = 1 := by kernel_rfl
theorem c39 : Tryz.prog.cellsOf 39 = 9 := by kernel_rfl
theorem by3 : Tryz.prog.bytesOf 3 = 8 := by kernel_rfl
theorem by39 : 8 ≤ Tryz.prog.bytesOf 39 := by
 have : decide (8 ≤ Tryz.prog.bytesOf 39) = true := by kernel_rfl
 exact of_decide_eq_true this
def WB {H : Type} (t : TypeId) (d : DataW H) : Prop := ∀ n ∈ d.weights Tryz.prog t,n ≤ reachBytes
theorem wb_all {H : Type} {e : TypeId} : ∀ {l : List (DataW H)},(∀ n ∈ DataW.weightsAll Tryz.prog e l,n ≤ reachBytes) → ∀ d ∈ l,WB e d
 | [],_,d,hd => by simp at hd
 | x :: l,h,d,hd => by
  simp only [DataW.weightsAll,List.mem_append] at h
  rcases List.mem_cons.1 hd with rfl | hd
  ·exact fun n hn => h n (.inl hn)
  exact wb_all (fun n hn => h n (.inr hn)) d hd
theorem wb_slice {H : Type} {t e : TypeId} {elems spare : List (DataW H)} (hu : Tryz.prog.underlying t = some (.slice e)) (h : WB t (.slice elems spare)) : (elems.length + spare.length) * Tryz.prog.bytesOf e ≤ reachBytes ∧ ∀ d ∈ elems,WB e d := by
 unfold WB at h
 simp only [DataW.weights,hu,List.mem_cons,List.mem_append] at h
 exact ⟨h _ (.inl rfl),wb_all fun n hn => h n (.inr (.inl hn))⟩
theorem wb_part {H : Type} {t : TypeId} {fs : Array Field} {parts : List (DataW H)} (hu : Tryz.prog.underlying t = some (.struct fs)) (h : WB t (.agg parts)) (j : Nat) (f : Field) (d : DataW H) (hf : fs[j]? = some f) (hd : parts[j]? = some d) : WB f.type d := by
 intro n hn
 unfold WB at h
 simp only [DataW.weights,hu] at h
 exact h n (DataW.weights_mem_each (by simp [hf]) hd n hn)
def Lens : Fo → Prop
 | .nil => True
 | .cons _ _ _ _ _ _ _ body els rest => body.len < 9223372036854775807 ∧ els.len < 9223372036854775807 ∧ Lens body ∧ Lens els ∧ Lens rest
theorem add_zero' (b : Addr) : b.add 0 = b := by unfold Addr.add; exact if_pos rfl
theorem cell_plain {w : World} {a : Addr} {k : Nat} {v : Value} (h0 : a.spot = none) (h : w.cell? (a.add k) = some v) : w.cell? ⟨a.block,a.off + k,none⟩ = some v := by
 have e : a.add k = ⟨a.block,a.off + k,none⟩ := by
  unfold Addr.add
  split
  ·rename_i hk
   subst hk
   cases a
   simp_all
  rfl
 rw [← e]
 exact h
theorem spot_none {w : World} {a : Addr} {v : Value} (h : w.cell? (a.add 0) = some v) : a.spot = none := by
 have e : a.add 0 = a := by unfold Addr.add; simp
 rw [e] at h
 unfold World.cell? at h
 split at h
 ·split at h
  ·cases h
  rename_i hs
  simpa using hs
 cases h
section
variable {H : Type} {enc : TypeId × Value → H} {W : World} {sp : Nat → Bool} {held : Bool}
theorem fields39 : ∃ f0 f1 f2 f3 f4 f5 f6 f7 f8 : Field,Tryz.prog.underlying 39 = some (.struct #[f0,f1,f2,f3,f4,f5,f6,f7,f8]) ∧ (f0.type = 3 ∧ f1.type = 3 ∧ f2.type = 3 ∧ f3.type = 35 ∧ f4.type = 35 ∧ f5.type = 36 ∧ f6.type = 37 ∧ f7.type = 37 ∧ f8.type = 4) ∧
  (f0.offset = 0 ∧ f1.offset = 1 ∧ f2.offset = 2 ∧ f3.offset = 3 ∧ f4.offset = 4 ∧ f5.offset = 5 ∧ f6.offset = 6 ∧ f7.offset = 7 ∧ f8.offset = 8) :=
 ⟨_,_,_,_,_,_,_,_,_,Tryz.underlying39,⟨rfl,rfl,rfl,rfl,rfl,rfl,rfl,rfl,rfl⟩,⟨rfl,rfl,rfl,rfl,rfl,rfl,rfl,rfl,rfl⟩⟩
end
end Go.Proofs.YtjgeedgphcjhoaaGreat
namespace Go.Proofs.YtjgeedgphcjhoaaGreat
open Go.RowKit
theorem evF_cons {σ : Type} (st : σ → Int → Int → Int → Int → Nat → Nat → List Int → Bool → Fo → Fo → Bool × σ) (op a b : Int) (n h : Nat) (l : List Int) (ot : Bool) (body els rest : Fo) (d : Int) (s : σ) (b1 : Bool) (s1 : σ) (h1 : st s d op a b n h l ot body els = (b1,s1)) (b2 : Bool) (s2 : σ) (h2 : evF st body (d + 1) s1 = (b2,s2)) (b3 : Bool) (s3 : σ) (h3 : evF st els (d + 1) s2 = (b3,s3)) :
  evF st (.cons op a b n h l ot body els rest) d s = if b1 = true then (if b2 = true then (if b3 = true then evF st rest d s3 else (false,s3)) else (false,s2)) else (false,s1) := by
 rw [evF,h1]
 simp only
 rw [h2]
 simp only
 rw [h3]
def Asked {σ : Type} (k : Nat) (caps : Array Value) (St : σ → World → Prop) (st : σ → Int → Int → Int → Int → Nat → Nat → List Int → Bool → Fo → Fo → Bool × σ) (B : Nat) (c : Option Nat) : Prop :=
 ∀ s (d op a b : Int) (n h : Nat) l ot body els vl vb ve W,0 ≤ d → B ≤ W.heap.size → (∀ k,c = some k → k < W.heap.size) → LI B W vl l → SA B W vb body → SA B W ve els → St s W →
  Calls Tryz.prog k (#[.agg #[.int .i64 op,.int .i64 a,.int .i64 b,.int .u64 n,.int .u64 h,vl,vb,ve,.bool ot],.int .i64 d] ++ caps) W fun e w' => e = .returned (.bool (st s d op a b n h l ot body els).1) ∧ St (st s d op a b n h l ot body els).2 w' ∧ KP c W w'
set_option maxHeartbeats 4000000 in
theorem from_says {σ : Type} (k : Nat) (caps : Array Value) (eg : ∀ args w,(callFunc k args).run Tryz.prog w = .ok (.enter k args) w)
  (St : σ → World → Prop) (st : σ → Int → Int → Int → Int → Nat → Nat → List Int → Bool → Fo → Fo → Bool × σ) (B : Nat) (c : Option Nat) (hBc : ∀ k,c = some k → B ≤ k) (hal : ∀ s W o,(∀ k,c = some k → k < W.heap.size) → St s W → St s (W.alloc o)) (hcl : Asked k caps St st B c) :
  ∀ (N : Nat) (f : Fo),f.cnt < N → ∀ (d : Int) (s : σ) (v : Value) (w : World),0 ≤ d → d + f.cnt < 9223372036854775807 → B ≤ w.heap.size → (∀ k,c = some k → k < w.heap.size) → SA B w v f → St s w →
   Calls Tryz.prog 211 #[.int .i64 d,v,.func (.func k) #[] caps] w fun e w' => e = .returned (.bool (evF st f d s).1) ∧ St (evF st f d s).2 w' ∧ KP c w w' := by
 intro N
 induction N with
 | zero => intro f h; omega
 | succ N ih =>
  intro f hf d s v w hd hdn hB hcw hs hst
  obtain ⟨p,cp,g0,o0,rfl,hp,hfa⟩ := hs
  have HBC := hid hBc
  have HCW := hid hcw
  clear hBc hcw
  have HIH := hid ih
  have HCL := hid hcl
  have HP := hid hp
  have HAL := hid hal
  obtain ⟨R,hR⟩ : ∃ R,R = evF st f d s := ⟨_,rfl⟩
  rw [← hR]
  obtain ⟨m,hm⟩ : ∃ m,m = f.len := ⟨_,rfl⟩
  rw [← hm] at HP ⊢
  have hml : m ≤ f.cnt := by
   have : ∀ f : Fo,f.len ≤ f.cnt := by
    intro f
    induction f with
    | nil => exact Nat.le_refl _
    | cons _ _ _ _ _ _ _ _ _ _ _ _ ihr => simp only [Fo.len,Fo.cnt]; omega
   rw [hm]; exact this f
  have HS : Hid (0 + f.len = m ∧ f.cnt ≤ f.cnt ∧ FA B w f g0 (o0 + 0 * 9) ∧ R = evF st f d s ∧ St s w ∧ KP c w w) := ⟨by rw [hm]; omega,Nat.le_refl _,by simpa using hfa,hR,hst,KP.refl _ _⟩
  have hm62 : (m : Int) < 9223372036854775807 := by omega
  obtain ⟨C,hC⟩ : ∃ C,C = f.cnt := ⟨_,rfl⟩
  rw [← hC] at hf hdn
  have HCC := hid hC
  have HSC : Hid (∀ fi : Fo,fi.cnt ≤ f.cnt → fi.cnt < N + 1 ∧ d + fi.cnt < 9223372036854775807) := fun fi h => by rw [← hC] at h; omega
  have HD := hid hd
  clear ih hcl hp hal hR hm hml hst hfa hf hdn hC HCC
  go_enter Tryz.func211,Tryz.ntmps211
  go_wp2
  go_loopw [11] (fun vi wr => ∃ (i : Nat) (fi : Fo) (si : σ),i ≤ m ∧ vi = .int .i64 i ∧ Hid (i + fi.len = m ∧ fi.cnt ≤ f.cnt ∧ FA B wr fi g0 (o0 + i * 9) ∧ R = evF st fi d si ∧ St si wr ∧ KP c w wr)) (fun vi _ => m - (intOf vi).toNat)
  case atStart => exact ⟨0,f,s,Nat.zero_le _,rfl,HS⟩
  obtain ⟨i,fi,si,him,rfl,HI⟩ := hrel
  cases fi with
  | nil =>
   have hi : i = m := HI.out.1
   subst hi
   have HE := hid HI.out.2.2.2.1
   have HF := hid HI.out.2.2.2.2
   go_wp2
   go_ret
   exact ⟨by rw [HE.out]; rfl,by rw [HE.out]; exact HF.out.1,HF.out.2⟩
  | cons op a b n h l ot body els rest =>
   obtain ⟨hg,⟨vl,vb,ve,x0,x1,x2,x3,x4,x5,x6,x7,x8,hl,hbo,hel⟩,hrest⟩ := HI.out.2.2.1
   obtain ⟨pl,cl,evl,_⟩ := id hl
   obtain ⟨pb,cb,gb',ob',evb,_⟩ := id hbo
   obtain ⟨pe,ce,ge',oe',eve,_⟩ := id hel
   obtain ⟨nl,hnl⟩ : ∃ x,x = l.length := ⟨_,rfl⟩
   obtain ⟨nb,hnb⟩ : ∃ x,x = body.len := ⟨_,rfl⟩
   obtain ⟨ne,hne⟩ : ∃ x,x = els.len := ⟨_,rfl⟩
   rw [← hnl] at evl
   rw [← hnb] at evb
   rw [← hne] at eve
   subst evl evb eve
   clear hnl hnb hne
   have hlt : i < m := by have := HI.out.1; simp only [Fo.len] at this; omega
   obtain rfl := HP.out (by omega)
   have hcn := (HSC.out _ HI.out.2.1)
   simp only [Fo.cnt] at hcn
   have HR := hid HI.out.2.2.2.1
   have HK0 := hid HI.out.2.2.2.2.2
   have hBr : B ≤ wr.heap.size := Nat.le_trans hB HK0.out.size
   have HCR := hid (fun q hq => Nat.lt_of_lt_of_le (HCW.out q hq) HK0.out.size)
   have hst0 := HI.out.2.2.2.2.1
   have HLE := hid (show i + 1 + rest.len = m ∧ rest.cnt ≤ f.cnt by have h1 := HI.out.1; have h2 := HI.out.2.1; simp only [Fo.len,Fo.cnt] at h1 h2; omega)
   rcases hr1 : st si d op a b n h l ot body els with ⟨b1,s1⟩
   rcases hr2 : evF st body (d + 1) s1 with ⟨b2,s2⟩
   rcases hr3 : evF st els (d + 1) s2 with ⟨b3,s3⟩
   have hev := HR.out
   rw [evF_cons st op a b n h l ot body els rest d si b1 s1 hr1 b2 s2 hr2 b3 s3 hr3] at hev
   have HEV := hid hev
   have HST := hid hst0
   have HLI := hid hl
   have HBD := hid hbo
   have HEE := hid hel
   have HRS := hid hrest
   have HR1 := hid hr1
   have HR2 := hid hr2
   have HR3 := hid hr3
   have hdw : wrap64 (d + 1) = d + 1 := by unfold wrap64; have := HD.out; omega
   have HCN := hid hcn
   clear hl hbo hel hrest hst0 HI hg hcn hr1 hr2 hr3 hev HR HS
   go_upto_region 4 with fail
   have hb1 := (Below.refl B wr).alloc hBr (.cells #[.int .i64 op,.int .i64 a,.int .i64 b,.int .u64 n,.int .u64 h,.slice pl nl cl,.slice pb nb cb,.slice pe ne ce,.bool ot] 39)
   have HX := hid (CA.new wr #[.int .i64 op,.int .i64 a,.int .i64 b,.int .u64 n,.int .u64 h,.slice pl nl cl,.slice pb nb cb,.slice pe ne ce,.bool ot] 39)
   have HK1 := hid (HK0.out.alloc (.cells #[.int .i64 op,.int .i64 a,.int .i64 b,.int .u64 n,.int .u64 h,.slice pl nl cl,.slice pb nb cb,.slice pe ne ce,.bool ot] 39))
   have HSA := hid (HAL.out si wr (.cells #[.int .i64 op,.int .i64 a,.int .i64 b,.int .u64 n,.int .u64 h,.slice pl nl cl,.slice pb nb cb,.slice pe ne ce,.bool ot] 39) HCR.out HST.out)
   have HC1W := hid (fun (q : Nat) (hq : c = some q) => show q < (wr.alloc (.cells #[.int .i64 op,.int .i64 a,.int .i64 b,.int .u64 n,.int .u64 h,.slice pl nl cl,.slice pb nb cb,.slice pe ne ce,.bool ot] 39)).heap.size by rw [size_al]; have := HCR.out q hq; omega)
   have HNG := hid (show c ≠ some wr.heap.size from fun e => by have := HCR.out _ e; omega)
   have hBo : B ≤ (wr.alloc (.cells #[.int .i64 op,.int .i64 a,.int .i64 b,.int .u64 n,.int .u64 h,.slice pl nl cl,.slice pb nb cb,.slice pe ne ce,.bool ot] 39)).heap.size := by rw [size_al]; omega
   have HLI1 := hid (LI.below HLI.out hb1)
   have HBO := hid (SA.below HBD.out hb1)
   have HEL := hid (SA.below HEE.out hb1)
   have HRE := hid (FA.below hb1 _ _ _ HRS.out)
   clear hb1 HLI HBD HEE HRS HK0 HST
   generalize wr.alloc (.cells #[.int .i64 op,.int .i64 a,.int .i64 b,.int .u64 n,.int .u64 h,.slice pl nl cl,.slice pb nb cb,.slice pe ne ce,.bool ot] 39) = W1 at *
   generalize wr.heap.size = gb at *
   have hc1 := HCL.out si d op a b n h l ot body els (.slice pl nl cl) (.slice pb nb cb) (.slice pe ne ce) W1 HD.out hBo HC1W.out HLI1.out HBO.out HEL.out HSA.out
   rw [HR1.out] at hc1
   have HC := hid hc1
   obtain ⟨y0,y1,y2,y3,y4,y5,y6,y7,y8⟩ := ca9 HX.out
   have HIB := fun W h1 h2 h3 h4 => hid (HIH.out body (by have := HCN.out; omega) (d + 1) s1 (.slice pb nb cb) W (by have := HD.out; omega) (by have := HCN.out; omega) h1 h2 h3 h4)
   have HIE := fun W h1 h2 h3 h4 => hid (HIH.out els (by have := HCN.out; omega) (d + 1) s2 (.slice pe ne ce) W (by have := HD.out; omega) (by have := HCN.out; omega) h1 h2 h3 h4)
   rw [HR2.out] at HIB
   rw [HR3.out] at HIE
   clear hc1 x0 x1 x2 x3 x4 x5 x6 x7 x8 HLI1 HSA
   cases b1 with
   | false =>
    clear HIB HIE
    go_wp2_with (first
       | (go_at_fn k; (with_reducible refine HC.out.mono ?_); rintro e w2 ⟨rfl,hs2,hk2⟩; have HS2 := hid hs2; have HK2 := hid (HK1.out.trans hk2); have HKK2 := hid hk2; have HX2 := hid (HX.out.keep hk2 HNG.out); have y6 := HX2.out.at (k := 6) (v := .slice pb nb cb) rfl; clear hs2 hk2))
    go_ret
    exact ⟨by rw [HEV.out]; rfl,by rw [HEV.out]; exact HS2.out,HK2.out⟩
   | true =>
    cases b2 with
    | false =>
     clear HIE
     go_wp2_with (first
       | (go_at_fn k; (with_reducible refine HC.out.mono ?_); rintro e w2 ⟨rfl,hs2,hk2⟩; have HS2 := hid hs2; have HK2 := hid (HK1.out.trans hk2); have HKK2 := hid hk2; have HX2 := hid (HX.out.keep hk2 HNG.out); have y6 := HX2.out.at (k := 6) (v := .slice pb nb cb) rfl; clear hs2 hk2)
       | (go_at_call 211; (with_reducible refine (HIB _ (Nat.le_trans hBo HKK2.out.size) (fun q hq => Nat.lt_of_lt_of_le (HC1W.out q hq) HKK2.out.size) (SA.below HBO.out (HKK2.out.below hBo HBC.out)) HS2.out).out.mono ?_); rintro e w3 ⟨rfl,hs3,hk3⟩; have HS3 := hid hs3; have HK3 := hid (HK2.out.trans hk3); have HKK3 := hid (HKK2.out.trans hk3); have HX3 := hid (HX2.out.keep hk3 HNG.out); have y7 := HX3.out.at (k := 7) (v := .slice pe ne ce) rfl; clear hs3 hk3))
     go_ret
     exact ⟨by rw [HEV.out]; rfl,by rw [HEV.out]; exact HS3.out,HK3.out⟩
    | true =>
     cases b3 with
     | false =>
      go_wp2_with (first
       | (go_at_fn k; (with_reducible refine HC.out.mono ?_); rintro e w2 ⟨rfl,hs2,hk2⟩; have HS2 := hid hs2; have HK2 := hid (HK1.out.trans hk2); have HKK2 := hid hk2; have HX2 := hid (HX.out.keep hk2 HNG.out); have y6 := HX2.out.at (k := 6) (v := .slice pb nb cb) rfl; clear hs2 hk2)
       | (go_at_call 211; (with_reducible refine (HIB _ (Nat.le_trans hBo HKK2.out.size) (fun q hq => Nat.lt_of_lt_of_le (HC1W.out q hq) HKK2.out.size) (SA.below HBO.out (HKK2.out.below hBo HBC.out)) HS2.out).out.mono ?_); rintro e w3 ⟨rfl,hs3,hk3⟩; have HS3 := hid hs3; have HK3 := hid (HK2.out.trans hk3); have HKK3 := hid (HKK2.out.trans hk3); have HX3 := hid (HX2.out.keep hk3 HNG.out); have y7 := HX3.out.at (k := 7) (v := .slice pe ne ce) rfl; clear hs3 hk3)
       | (go_at_call 211; (with_reducible refine (HIE _ (Nat.le_trans hBo HKK3.out.size) (fun q hq => Nat.lt_of_lt_of_le (HC1W.out q hq) HKK3.out.size) (SA.below HEL.out (HKK3.out.below hBo HBC.out)) HS3.out).out.mono ?_); rintro e w4 ⟨rfl,hs4,hk4⟩; have HS4 := hid hs4; have HK4 := hid (HK3.out.trans hk4); have HKK4 := hid (HKK3.out.trans hk4); clear hs4 hk4))
      go_ret
      exact ⟨by rw [HEV.out]; rfl,by rw [HEV.out]; exact HS4.out,HK4.out⟩
     | true =>
      go_wp2_with (first
       | (go_at_fn k; (with_reducible refine HC.out.mono ?_); rintro e w2 ⟨rfl,hs2,hk2⟩; have HS2 := hid hs2; have HK2 := hid (HK1.out.trans hk2); have HKK2 := hid hk2; have HX2 := hid (HX.out.keep hk2 HNG.out); have y6 := HX2.out.at (k := 6) (v := .slice pb nb cb) rfl; clear hs2 hk2)
       | (go_at_call 211; (with_reducible refine (HIB _ (Nat.le_trans hBo HKK2.out.size) (fun q hq => Nat.lt_of_lt_of_le (HC1W.out q hq) HKK2.out.size) (SA.below HBO.out (HKK2.out.below hBo HBC.out)) HS2.out).out.mono ?_); rintro e w3 ⟨rfl,hs3,hk3⟩; have HS3 := hid hs3; have HK3 := hid (HK2.out.trans hk3); have HKK3 := hid (HKK2.out.trans hk3); have HX3 := hid (HX2.out.keep hk3 HNG.out); have y7 := HX3.out.at (k := 7) (v := .slice pe ne ce) rfl; clear hs3 hk3)
       | (go_at_call 211; (with_reducible refine (HIE _ (Nat.le_trans hBo HKK3.out.size) (fun q hq => Nat.lt_of_lt_of_le (HC1W.out q hq) HKK3.out.size) (SA.below HEL.out (HKK3.out.below hBo HBC.out)) HS3.out).out.mono ?_); rintro e w4 ⟨rfl,hs4,hk4⟩; have HS4 := hid hs4; have HK4 := hid (HK3.out.trans hk4); have HKK4 := hid (HKK3.out.trans hk4); clear hs4 hk4))
      go_roundw
      case rel => exact ⟨i + 1,rest,s3,hlt,by go_num,HLE.out.1,HLE.out.2,by (have h9 : o0 + (i + 1) * 9 = o0 + i * 9 + 9 := by omega); rw [h9]; exact FA.below (HKK4.out.below hBo HBC.out) _ _ _ HRE.out,by have := HEV.out; simpa using this,HS4.out,HK4.out⟩
      case measure => simp [intOf]; omega
theorem every_says {σ : Type} (k : Nat) (caps : Array Value) (eg : ∀ args w,(callFunc k args).run Tryz.prog w = .ok (.enter k args) w)
  (St : σ → World → Prop) (st : σ → Int → Int → Int → Int → Nat → Nat → List Int → Bool → Fo → Fo → Bool × σ) (B : Nat) (c : Option Nat) (hBc : ∀ k,c = some k → B ≤ k) (hal : ∀ s W o,(∀ k,c = some k → k < W.heap.size) → St s W → St s (W.alloc o)) (hcl : Asked k caps St st B c)
  (f : Fo) (s : σ) (v : Value) (w : World) (hn : f.cnt < 9223372036854775806) (hB : B ≤ w.heap.size) (hcw : ∀ k,c = some k → k < w.heap.size) (hs : SA B w v f) (hst : St s w) :
  Calls Tryz.prog 140 #[v,.func (.func k) #[] caps] w fun e w' => e = .returned (.bool (evF st f 1 s).1) ∧ St (evF st f 1 s).2 w' ∧ KP c w w' := by
 have H := hid (from_says k caps eg St st B c hBc hal hcl (f.cnt + 1) f (Nat.lt_succ_self _) 1 s v w (by decide) (by omega) hB hcw hs hst)
 generalize evF st f 1 s = R at *
 clear hs hst hcl hal hn hcw hBc
 go_enter Tryz.func140,Tryz.ntmps140
 go_wp2_with (go_at_call 211; (with_reducible refine H.out.mono ?_); rintro e w2 ⟨rfl,hs2,hb2⟩)
 go_ret
 exact ⟨rfl,hs2,hb2⟩
end Go.Proofs.YtjgeedgphcjhoaaGreat
namespace Go.Proofs.YtjgeedgphcjhoaaGreat
open Go.RowKit
def idxB (a : Int) : Bool := decide (IntKind.u64.wrap a ≤ 4294967295)
def refB (a : Int) : Bool := a == 112 || a == 111
def valB (a : Int) : Bool := a == 127 || a == 126 || a == 125 || a == 124 || a == 123 || refB a
def byteB (a : Int) : Bool := decide (0 ≤ a) && decide (a ≤ 255)
theorem isIndex_says (a : Int) (w : World) : Calls Tryz.prog 145 #[.int .i64 a] w fun e w' => e = .returned (.bool (idxB a)) ∧ w = w' := by
 unfold idxB
 go_enter Tryz.func145,Tryz.ntmps145
 go_wp2
 go_ret
 exact ⟨rfl,rfl⟩
theorem isStart_says (a : Int) (w : World) : Calls Tryz.prog 44 #[.int .i64 a] w fun e w' => e = .returned (.bool (decide (IntKind.u64.wrap a ≤ 4294967296))) ∧ w = w' := by
 go_enter Tryz.func44,Tryz.ntmps44
 go_wp2
 go_ret
 exact ⟨rfl,rfl⟩
theorem isRef_says (a : Int) (w : World) : Calls Tryz.prog 149 #[.int .i64 a] w fun e w' => e = .returned (.bool (refB a)) ∧ w = w' := by
 unfold refB
 obtain ⟨b1,d1⟩ : ∃ b,(a == 112) = b := ⟨_,rfl⟩
 rw [d1]
 cases b1
 all_goals
  go_enter Tryz.func149,Tryz.ntmps149
  go_wp2
  go_ret
  exact ⟨rfl,rfl⟩
theorem isByte_says (a : Int) (w : World) : Calls Tryz.prog 235 #[.int .i64 a] w fun e w' => e = .returned (.bool (byteB a)) ∧ w = w' := by
 unfold byteB
 obtain ⟨b1,d1⟩ : ∃ b,decide (0 ≤ a) = b := ⟨_,rfl⟩
 rw [d1]
 cases b1
 all_goals
  go_enter Tryz.func235,Tryz.ntmps235
  go_wp2
  go_ret
  exact ⟨rfl,rfl⟩
theorem isVal_says (a : Int) (w : World) : Calls Tryz.prog 144 #[.int .i64 a] w fun e w' => e = .returned (.bool (valB a)) ∧ w = w' := by
 have HR := fun W => hid (isRef_says a W)
 unfold valB
 generalize refB a = r at *
 obtain ⟨b1,d1⟩ : ∃ b,(a == 127) = b := ⟨_,rfl⟩
 obtain ⟨b2,d2⟩ : ∃ b,(a == 126) = b := ⟨_,rfl⟩
 obtain ⟨b3,d3⟩ : ∃ b,(a == 125) = b := ⟨_,rfl⟩
 obtain ⟨b4,d4⟩ : ∃ b,(a == 124) = b := ⟨_,rfl⟩
 obtain ⟨b5,d5⟩ : ∃ b,(a == 123) = b := ⟨_,rfl⟩
 rw [d1,d2,d3,d4,d5]
 rcases (show b1 = true ∨ (b1 = false ∧ b2 = true) ∨ (b1 = false ∧ b2 = false ∧ b3 = true) ∨ (b1 = false ∧ b2 = false ∧ b3 = false ∧ b4 = true) ∨ (b1 = false ∧ b2 = false ∧ b3 = false ∧ b4 = false ∧ b5 = true) ∨ (b1 = false ∧ b2 = false ∧ b3 = false ∧ b4 = false ∧ b5 = false) by cases b1 <;> cases b2 <;> cases b3 <;> cases b4 <;> cases b5 <;> simp) with rfl | ⟨rfl,rfl⟩ | ⟨rfl,rfl,rfl⟩ | ⟨rfl,rfl,rfl,rfl⟩ | ⟨rfl,rfl,rfl,rfl,rfl⟩ | ⟨rfl,rfl,rfl,rfl,rfl⟩
 all_goals
  go_enter Tryz.func144,Tryz.ntmps144
  go_wp2_with (go_at_call 149; (with_reducible refine (HR _).out.mono ?_); rintro e w1 ⟨rfl,rfl⟩)
  go_ret
  exact ⟨by simp,rfl⟩
set_option maxHeartbeats 2000000 in
theorem all_int (k : Nat) (eg : ∀ args w,(callFunc k args).run Tryz.prog w = .ok (.enter k args) w) (P : Int → Bool) (hP : ∀ x W,Calls Tryz.prog k #[.int .i64 x] W fun e w' => e = .returned (.bool (P x)) ∧ W = w')
  (l : List Int) (v : Value) (B : Nat) (w : World) (hl : LI B w v l) (hB : B ≤ w.heap.size) (hn : l.length < 9223372036854775807) : Calls Tryz.prog 143 #[v,.func (.func k) #[] #[]] w fun e w' => e = .returned (.bool (l.all P)) ∧ w = w' := by
 obtain ⟨p,c,rfl,_,hc⟩ := hl
 have HP := fun x W => hid (hP x W)
 obtain ⟨r,hr⟩ : ∃ r,r = l.all P := ⟨_,rfl⟩
 rw [← hr]
 obtain ⟨n,hnn⟩ : ∃ n,n = l.length := ⟨_,rfl⟩
 rw [← hnn] at hn ⊢
 have HR := hid hr
 have HC := hid hc
 have HN := hid hnn
 have hn' : (n : Int) < 9223372036854775807 := by omega
 clear hP hr hc hnn hn
 go_enter Tryz.func143,Tryz.ntmps143
 go_wp2
 go_loop [9] (fun vi => ∃ i : Nat,i ≤ n ∧ vi = .int .i64 i ∧ Hid (r = (l.drop i).all P)) (fun vi => n - (intOf vi).toNat)
 case atStart => exact ⟨0,Nat.zero_le _,rfl,by (have := HR.out; show r = _; simpa using this)⟩
 obtain ⟨i,hi,rfl,HI⟩ := hrel
 by_cases hlt : i < n
 ·have hll : i < l.length := by rw [← HN.out]; exact hlt
  obtain ⟨g,o,rfl,hg,hx⟩ := HC.out (fun e => by rw [e] at hll; simp at hll)
  have hd := List.drop_eq_getElem_cons hll
  obtain ⟨x,hxe⟩ : ∃ x,x = l[i] := ⟨_,rfl⟩
  have x0 := hx i x (by rw [hxe]; simp [List.getElem?_eq_getElem hll])
  have HE : Hid (r = (P x && (l.drop (i + 1)).all P)) := by have := HI.out; rw [hd,← hxe] at this; (show r = _); simpa using this
  have HPX := fun W => HP x W
  clear hx hd hxe hll
  rcases hpx : P x with _ | _
  ·rw [hpx] at HPX HE
   clear hpx
   go_wp2_with (go_at_fn k; (with_reducible refine (HPX _).out.mono ?_); rintro e w1 ⟨rfl,rfl⟩)
   go_ret
   exact ⟨by rw [HE.out]; rfl,rfl⟩
  rw [hpx] at HPX HE
  clear hpx
  go_wp2_with (go_at_fn k; (with_reducible refine (HPX _).out.mono ?_); rintro e w1 ⟨rfl,rfl⟩)
  go_round
  case rel => exact ⟨i + 1,hlt,by go_num,by (have := HE.out; show r = _; simpa using this)⟩
  case measure => simp [intOf]; omega
 obtain rfl : i = n := by omega
 have HE : Hid (r = true) := by have := HI.out; rw [List.drop_of_length_le (by rw [← HN.out]; exact Nat.le_refl _)] at this; exact this
 go_wp2
 go_ret
 exact ⟨by rw [HE.out]; rfl,rfl⟩
def unB (a b : Int) (n h : Nat) (ot : Bool) (nl nb ne : Nat) : Bool := (a == 0) && (b == 0) && ((n : Int) == 0) && ((h : Int) == 0) && !ot && ((nl : Int) == 0) && ((nb : Int) == 0) && ((ne : Int) == 0)
set_option maxHeartbeats 4000000 in
theorem isUnused_says (op a b : Int) (n h : Nat) (pl pb pe : Option Addr) (nl cl nb cb ne ce : Nat) (ot : Bool) (w : World) : Calls Tryz.prog 236 #[.agg #[.int .i64 op,.int .i64 a,.int .i64 b,.int .u64 n,.int .u64 h,.slice pl nl cl,.slice pb nb cb,.slice pe ne ce,.bool ot]] w fun e w' => e = .returned (.bool (unB a b n h ot nl nb ne)) ∧ Below w.heap.size w w' := by
 unfold unB
 obtain ⟨b1,d1⟩ : ∃ x,(a == 0) = x := ⟨_,rfl⟩
 obtain ⟨b2,d2⟩ : ∃ x,(b == 0) = x := ⟨_,rfl⟩
 obtain ⟨b3,d3⟩ : ∃ x,((n : Int) == 0) = x := ⟨_,rfl⟩
 obtain ⟨b4,d4⟩ : ∃ x,((h : Int) == 0) = x := ⟨_,rfl⟩
 obtain ⟨b6,d6⟩ : ∃ x,((nl : Int) == 0) = x := ⟨_,rfl⟩
 obtain ⟨b7,d7⟩ : ∃ x,((nb : Int) == 0) = x := ⟨_,rfl⟩
 obtain ⟨b8,d8⟩ : ∃ x,((ne : Int) == 0) = x := ⟨_,rfl⟩
 rw [d1,d2,d3,d4,d6,d7,d8]
 cases b1 with
 | false =>
  go_enter Tryz.func236,Tryz.ntmps236
  go_wp2
  go_ret
  exact ⟨by simp,(Below.refl _ _).alloc (Nat.le_refl _) _⟩
 | true =>
  cases b2 with
  | false =>
   go_enter Tryz.func236,Tryz.ntmps236
   go_wp2
   go_ret
   exact ⟨by simp,(Below.refl _ _).alloc (Nat.le_refl _) _⟩
  | true =>
   cases b3 with
   | false =>
    go_enter Tryz.func236,Tryz.ntmps236
    go_wp2
    go_ret
    exact ⟨by simp,(Below.refl _ _).alloc (Nat.le_refl _) _⟩
   | true =>
    cases b4 with
    | false =>
     go_enter Tryz.func236,Tryz.ntmps236
     go_wp2
     go_ret
     exact ⟨by simp,(Below.refl _ _).alloc (Nat.le_refl _) _⟩
    | true =>
     cases ot with
     | true =>
      go_enter Tryz.func236,Tryz.ntmps236
      go_wp2
      go_ret
      exact ⟨by simp,(Below.refl _ _).alloc (Nat.le_refl _) _⟩
     | false =>
      cases b6 with
      | false =>
       go_enter Tryz.func236,Tryz.ntmps236
       go_wp2
       go_ret
       exact ⟨by simp,(Below.refl _ _).alloc (Nat.le_refl _) _⟩
      | true =>
       cases b7 with
       | false =>
        go_enter Tryz.func236,Tryz.ntmps236
        go_wp2
        go_ret
        exact ⟨by simp,(Below.refl _ _).alloc (Nat.le_refl _) _⟩
       | true =>
        go_enter Tryz.func236,Tryz.ntmps236
        go_wp2
        go_ret
        exact ⟨by simp,(Below.refl _ _).alloc (Nat.le_refl _) _⟩
end Go.Proofs.YtjgeedgphcjhoaaGreat
namespace Go.Proofs.YtjgeedgphcjhoaaGreat
open Go.RowKit
def str (l : List UInt8) : ByteArray := ⟨l.toArray⟩
def sc (l : List (List UInt8)) : List Value := l.map fun x => Value.string (str x)
def stepW (p : List (List UInt8) × List UInt8) (c : UInt8) : List (List UInt8) × List UInt8 :=
 match p with
 | (o,x) => if c = 32 then (if x = [] then (o,[]) else (o ++ [x],[])) else (o,x ++ [c])
def wst (l : List UInt8) (n : Nat) : List (List UInt8) × List UInt8 := ((l ++ [32]).take n).foldl stepW ([],[])
def wordsL (l : List UInt8) : List (List UInt8) := (wst l (l.length + 1)).1
end Go.Proofs.YtjgeedgphcjhoaaGreat
namespace Go.Proofs.YtjgeedgphcjhoaaGreat
open Go.RowKit
def buildOf (f : Func) : Oper := match f.body with
 | some (.seq _ (.seq (.region _ ops _) _)) => ops.getD 0 default
 | _ => default
def partsOf (o : Oper) : Array (Nat × Operand) := match o.op with
 | .build _ parts => parts
 | _ => #[]
def strOf (v : Value) : List UInt8 := match v with
 | .string s => s.data.toList
 | _ => []
def refTab (n : Nat) (f : Func) : List (List UInt8) := (List.range n).map fun k => match (partsOf (buildOf f)).toList.find? fun x => x.1 == k with
 | some (_,.const v) => strOf v
 | _ => []
noncomputable def tabOne : List (List UInt8) := refTab 211 Tryz.f216
noncomputable def tabTwo : List (List UInt8) := refTab 18 Tryz.f217
noncomputable def tabThree : List (List UInt8) := refTab 256 Tryz.f218
end Go.Proofs.YtjgeedgphcjhoaaGreat
namespace Go.Proofs.YtjgeedgphcjhoaaGreat
open Go.RowKit
abbrev Rw := Int × List UInt8 × Int × List UInt8 × List UInt8 × Bool
def rw0 : Rw := (-1,[],0,[],[],false)
def digF (n : Int) (c : UInt8) : Int := n * 10 + (c.toNat : Int) - 48
def digL (l : List UInt8) : Int := l.foldl digF 0
end Go.Proofs.YtjgeedgphcjhoaaGreat
namespace Go.Proofs.YtjgeedgphcjhoaaGreat
open Go.RowKit
def typesL (t : Nat) : List Int := ((glob5.drop (3 * t)).take 3).takeWhile fun z => z != 0
end Go.Proofs.YtjgeedgphcjhoaaGreat
namespace Go.Proofs.YtjgeedgphcjhoaaGreat
open Go.RowKit
def tyOf (c : UInt8) : Option Int := if c = 105 then some 127 else if c = 108 then some 126 else if c = 102 then some 125 else if c = 100 then some 124 else if c = 118 then some 123 else if c = 110 then some 112 else none
def tyL (l : List UInt8) : List Int := l.filterMap tyOf
end Go.Proofs.YtjgeedgphcjhoaaGreat
namespace Go.Proofs.YtjgeedgphcjhoaaGreat
open Go.RowKit
noncomputable def textOf (op : Int) : List UInt8 :=
 if 0 ≤ op ∧ op < 211 then tabOne.getD op.toNat [] else if 64512 ≤ op ∧ op < 64530 then tabTwo.getD (op - 64512).toNat [] else if 64768 ≤ op ∧ op < 65024 then tabThree.getD (op - 64768).toNat [] else []
def stepS (p : Bool × List UInt8 × List UInt8) (c : UInt8) : Bool × List UInt8 × List UInt8 :=
 match p with
 | (b,t,l) => if c = 62 then (true,t,l) else if b then (b,t,l ++ [c]) else (b,t ++ [c],l)
def sst (l : List UInt8) (n : Nat) : Bool × List UInt8 × List UInt8 := (l.take n).foldl stepS (false,[],[])
def ofText (op : Int) (t : List UInt8) : Rw :=
 match wordsL t with
 | [a,b,c] => if c = [63] then (op,a,digL b,[],[],false) else (op,a,digL b,(sst c c.length).2.1,(sst c c.length).2.2,true)
 | _ => rw0
noncomputable def ofL (op : Int) : Rw := ofText op (textOf op)
noncomputable def agree (op : Int) : Bool :=
 let r := ofL op
 let l := lineL op
 (knB l == decide (0 ≤ r.1)) && (l.1.data.toList == r.2.1) && (l.2.1 == r.2.2.1) && (fxB l == r.2.2.2.2.2) &&
 ((if fxB l then typesL l.2.2.1.toNat else []) == tyL r.2.2.2.1) && ((if fxB l then typesL l.2.2.2.toNat else []) == tyL r.2.2.2.2.1) && decide (r.2.2.2.1.length ≤ 100) && decide (r.2.2.2.2.1.length ≤ 100) &&
 (r.1 == -1 || r.1 == op)
end Go.Proofs.YtjgeedgphcjhoaaGreat
namespace Go.Proofs.YtjgeedgphcjhoaaGreat
open Go.RowKit
def rwz : Rw := (0,[],0,[],[],false)
def rwCells (r : Rw) : Array Value := #[.int .i64 r.1,.string (str r.2.1),.int .i64 r.2.2.1,.string (str r.2.2.2.1),.string (str r.2.2.2.2.1),.bool r.2.2.2.2.2]
def RB (g : Nat) (r : Rw) (W : World) : Prop := W.heap[g]? = some (.cells (rwCells r) 172 (0,0))
theorem RB.lt {g : Nat} {r : Rw} {W : World} (h : RB g r W) : g < W.heap.size := (Array.getElem?_eq_some_iff.1 h).1
theorem RB.new (w : World) : RB w.heap.size rwz (w.alloc (.cells (rwCells rwz) 172)) := by
 show (w.heap.push _)[w.heap.size]? = _
 simp
theorem RB.call {g : Nat} {r : Rw} {W W' : World} (h : RB g r W) (hb : Below W.heap.size W W') : RB g r W' := by
 unfold RB at h ⊢
 rw [hb.block g (RB.lt h),h]
theorem RB.alloc {g : Nat} {r : Rw} {W : World} (h : RB g r W) (o : Obj) : RB g r (W.alloc o) := h.call ((Below.refl _ _).alloc (Nat.le_refl _) o)
theorem RB.drew {g : Nat} {r : Rw} {W : World} (h : RB g r W) : RB g r W.drew := h
theorem RB.cells {g : Nat} {r : Rw} {W : World} (h : RB g r W) : W.cell? ⟨g,0,none⟩ = some (.int .i64 r.1) ∧ W.cell? ⟨g,1,none⟩ = some (.string (str r.2.1)) ∧ W.cell? ⟨g,2,none⟩ = some (.int .i64 r.2.2.1) ∧ W.cell? ⟨g,3,none⟩ = some (.string (str r.2.2.2.1)) ∧ W.cell? ⟨g,4,none⟩ = some (.string (str r.2.2.2.2.1)) ∧ W.cell? ⟨g,5,none⟩ = some (.bool r.2.2.2.2.2) := by
 unfold RB at h
 refine ⟨?_,?_,?_,?_,?_,?_⟩ <;> (rw [World.cell?,h]; rfl)
theorem RB.free {g : Nat} {r : Rw} {W : World} (h : RB g r W) (k : Nat) : W.frozen? ⟨g,k,none⟩ = false := by
 unfold RB at h
 rw [World.frozen?,h]
 simp
theorem RB.set {g k : Nat} {r r' : Rw} {W : World} {v : Value} (h : RB g r W) (he : (rwCells r).setIfInBounds k v = rwCells r') : RB g r' (W.setCell ⟨g,k,none⟩ v) := by
 unfold RB at h ⊢
 rw [World.setCell,Array.getElem?_modify,if_pos rfl,h]
 simp only [Option.map_some]
 rw [← he]
 rfl
theorem RB.store {g : Nat} {r : Rw} {W : World} (h : RB g r W) (a : Int) (b : List UInt8) (c : Int) (d e : List UInt8) (f : Bool) :
  RB g (a,b,c,d,e,f) ((((((W.setCell ⟨g,0,none⟩ (.int .i64 a)).setCell ⟨g,1,none⟩ (.string (str b))).setCell ⟨g,2,none⟩ (.int .i64 c)).setCell ⟨g,3,none⟩ (.string (str d))).setCell ⟨g,4,none⟩ (.string (str e))).setCell ⟨g,5,none⟩ (.bool f)) := by
 obtain ⟨a0,b0,c0,d0,e0,f0⟩ := r
 exact (((((h.set (r' := (a,b0,c0,d0,e0,f0)) rfl).set (r' := (a,b,c0,d0,e0,f0)) rfl).set (r' := (a,b,c,d0,e0,f0)) rfl).set (r' := (a,b,c,d,e0,f0)) rfl).set (r' := (a,b,c,d,e,f0)) rfl).set (r' := (a,b,c,d,e,f)) rfl
end Go.Proofs.YtjgeedgphcjhoaaGreat
namespace Go.Proofs.YtjgeedgphcjhoaaGreat
open Go.RowKit
theorem three (a : Int) : ((a == 0) = true ∧ (a == 1) = false ∧ (a == 2) = false) ∨ ((a == 0) = false ∧ (a == 1) = true ∧ (a == 2) = false) ∨ ((a == 0) = false ∧ (a == 1) = false ∧ (a == 2) = true) ∨ ((a == 0) = false ∧ (a == 1) = false ∧ (a == 2) = false) := by
 by_cases h0 : a = 0
 ·subst h0; exact .inl ⟨rfl,rfl,rfl⟩
 by_cases h1 : a = 1
 ·subst h1; exact .inr (.inl ⟨rfl,rfl,rfl⟩)
 by_cases h2 : a = 2
 ·subst h2; exact .inr (.inr (.inl ⟨rfl,rfl,rfl⟩))
 exact .inr (.inr (.inr ⟨by simp [h0],by simp [h1],by simp [h2]⟩))
end Go.Proofs.YtjgeedgphcjhoaaGreat
