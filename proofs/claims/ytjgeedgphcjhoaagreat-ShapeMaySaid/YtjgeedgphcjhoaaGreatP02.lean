/-
  Ops1, Fo, Open, Every, Small: merged, what the law does not reach left out (each text says what it holds where it lies in wip). No condition.
-/
import Derived.Test.YtjgeedgphcjhoaaGreatP01
import Derived.OwnWalk
import Derived.Test.YtjgeedgphcjhoaaGreatRows
import Derived.ProofKit
import Derived.OpenShut
import Derived.ChangeArms
import Derived.SizedLaws
import Derived.Deep.DeepCutAuto
import Derived.Deep.RegionHeld3
import Derived.Shelf.Abstract
set_option linter.unusedSimpArgs false
set_option linter.unusedVariables false
set_option maxRecDepth 100000
namespace Go.Proofs.YtjgeedgphcjhoaaGreat
open Go.RowKit
def glob0 : List Int := [2,3,2,3,0,0,1,1,0,0,1,1,2,2,2,3,2,3,0,1,0,1,2]
def glob1 : List Int := [4,3,3,3,3,3,3,0,1,2,3,4]
def glob2 : List Int := [0,1,2,3,0,1,2,3,2,3]
def glob3 : List Int := [16,16,16,8,8,8,4,4,2,2,4,4,2,2]
def glob5 : List Int := [0,0,0,0,0,0,127,0,0,126,0,0,125,0,0,124,0,0,123,0,0,112,0,0,127,127,0,127,126,0,127,125,0,127,124,0,127,123,0,126,126,0,125,125,0,124,124,0,123,127,0,123,126,0,123,125,0,123,124,0,123,123,0,127,127,127,123,123,123]
/-- Five tables lie in the first six blocks. -/
structure Glob (w : World) : Prop where
 size : 6 ≤ w.heap.size
 c0 : ∀ j,j < 23 → w.cell? ⟨3,j,none⟩ = some (.int .i64 (glob0.getD j 0))
 c1 : ∀ j,j < 12 → w.cell? ⟨4,j,none⟩ = some (.int .i64 (glob1.getD j 0))
 c2 : ∀ j,j < 10 → w.cell? ⟨5,j,none⟩ = some (.int .i64 (glob2.getD j 0))
 c3 : ∀ j,j < 14 → w.cell? ⟨2,j,none⟩ = some (.int .i64 (glob3.getD j 0))
 c5 : ∀ j,j < 69 → w.cell? ⟨0,j,none⟩ = some (.int .i64 (glob5.getD j 0))
theorem Glob.below {B : Nat} {w w' : World} (h : Glob w) (hb : Below B w w') (hB : 6 ≤ B) : Glob w' where
 size := Nat.le_trans h.size hb.size
 c0 j hj := by rw [hb.cell (p := ⟨3,j,none⟩) (show 3 < B by omega),h.c0 j hj]
 c1 j hj := by rw [hb.cell (p := ⟨4,j,none⟩) (show 4 < B by omega),h.c1 j hj]
 c2 j hj := by rw [hb.cell (p := ⟨5,j,none⟩) (show 5 < B by omega),h.c2 j hj]
 c3 j hj := by rw [hb.cell (p := ⟨2,j,none⟩) (show 2 < B by omega),h.c3 j hj]
 c5 j hj := by rw [hb.cell (p := ⟨0,j,none⟩) (show 0 < B by omega),h.c5 j hj]
theorem Glob.next {w w' : World} (h : Glob w) (hb : Below w.heap.size w w') : Glob w' := h.below hb h.size
/-- The numbers that may be an instruction's. -/
def rangeOps : List Int := (List.range 211).map (fun k : Nat => (k : Int)) ++ (List.range 18).map (fun k : Nat => 64512 + (k : Int)) ++ (List.range 256).map (fun k : Nat => 64768 + (k : Int))
theorem mem_rangeOps (op : Int) : op ∈ rangeOps ↔ (0 ≤ op ∧ op < 211) ∨ (64512 ≤ op ∧ op < 64530) ∨ (64768 ≤ op ∧ op < 65024) := by
 unfold rangeOps
 simp only [List.mem_append,List.mem_map,List.mem_range]
 constructor
 ·rintro ((⟨k,hk,rfl⟩ | ⟨k,hk,rfl⟩) | ⟨k,hk,rfl⟩) <;> omega
 ·rintro (⟨h0,h1⟩ | ⟨h0,h1⟩ | ⟨h0,h1⟩)
  ·exact .inl (.inl ⟨op.toNat,by omega,by omega⟩)
  ·exact .inl (.inr ⟨(op - 64512).toNat,by omega,by omega⟩)
  ·exact .inr ⟨(op - 64768).toNat,by omega,by omega⟩
theorem lineL_out (op : Int) (h : ¬ op ∈ rangeOps) : lineL op = ln0 := by
 rw [mem_rangeOps] at h
 unfold lineL
 by_cases c0 : op < 0
 ·rw [if_pos c0]
 rw [if_neg c0,if_neg (by omega),if_neg (by omega),if_neg (by omega)]
def okLn (r : Ln) : Bool := decide (0 ≤ r.2.1) && decide (r.2.1 ≤ 26) && decide (0 ≤ r.2.2.1) && decide (r.2.2.1 < 23) && decide (0 ≤ r.2.2.2) && decide (r.2.2.2 < 23)
theorem all_ok : (rangeOps.all fun op => okLn (lineL op)) = true := by kernel_rfl
theorem line_ok (op : Int) : 0 ≤ (lineL op).2.1 ∧ (lineL op).2.1 ≤ 26 ∧ 0 ≤ (lineL op).2.2.1 ∧ (lineL op).2.2.1 < 23 ∧ 0 ≤ (lineL op).2.2.2 ∧ (lineL op).2.2.2 < 23 := by
 have h : okLn (lineL op) = true := by
  by_cases hin : op ∈ rangeOps
  ·exact List.all_eq_true.1 all_ok op hin
  ·rw [lineL_out op hin]; rfl
 unfold okLn at h
 simp only [Bool.and_eq_true,decide_eq_true_eq] at h
 omega
/-- Is there such an instruction? -/
def knB (r : Ln) : Bool := !r.1.toList.isEmpty
def fxB (r : Ln) : Bool := r.2.2.1 != 0
theorem known_says (r : Ln) (w : World) : Calls Tryz.prog 249 #[lnV r] w fun e w' => e = .returned (.bool (knB r)) ∧ Below w.heap.size w w' := by
 obtain ⟨s,a,b,c⟩ := r
 show Calls Tryz.prog 249 #[.agg #[.string s,.int .u8 a,.int .u8 b,.int .u8 c]] w fun e w' => e = .returned (.bool (!s.toList.isEmpty)) ∧ Below w.heap.size w w'
 go_enter Tryz.func249,Tryz.ntmps249
 go_wp2
 go_ret
 exact ⟨rfl,(Below.refl _ _).alloc (Nat.le_refl _) _⟩
theorem run_imm (r : Ln) (w : World) : (Instr.field 215 (lnV r) 1).run Tryz.prog w = .ok (.int .u8 r.2.1) w := by kernel_rfl
theorem Known_says (op : Int) (w : World) : Calls Tryz.prog 233 #[.int .i64 op] w fun e w' => e = .returned (.bool (knB (lineL op))) ∧ Below w.heap.size w w' := by
 obtain ⟨r,hr⟩ : ∃ r,r = lineL op := ⟨_,rfl⟩
 have H := fun W => hid (line_says op W)
 have HK := fun W => hid (known_says r W)
 rw [← hr] at H ⊢
 clear hr
 obtain ⟨b,hb0⟩ : ∃ b,b = knB r := ⟨_,rfl⟩
 rw [← hb0] at HK ⊢
 clear hb0
 obtain ⟨v,hv⟩ : ∃ v,v = lnV r := ⟨_,rfl⟩
 rw [← hv] at H HK
 clear hv
 go_enter Tryz.func233,Tryz.ntmps233
 go_wp2_with (first | (go_at_call 215; refine (H _).out.mono ?_; rintro e w1 ⟨rfl,hb⟩) | (go_at_call 249; refine (HK _).out.mono ?_; rintro e w2 ⟨rfl,hb2⟩))
 go_ret
 exact ⟨rfl,hb.trans (hb2.mono hb.size)⟩
theorem Imm_says (op : Int) (w : World) : Calls Tryz.prog 152 #[.int .i64 op] w fun e w' => e = .returned (.int .i64 (lineL op).2.1) ∧ Below w.heap.size w w' := by
 obtain ⟨h0,h1,_⟩ := line_ok op
 obtain ⟨r,hr⟩ : ∃ r,r = lineL op := ⟨_,rfl⟩
 have H := fun W => hid (line_says op W)
 have HF := run_imm r
 rw [← hr] at H h0 h1 ⊢
 clear hr
 obtain ⟨v,hv⟩ : ∃ v,v = lnV r := ⟨_,rfl⟩
 rw [← hv] at H HF
 clear hv
 go_enter Tryz.func152,Tryz.ntmps152
 go_wp2_with (go_at_call 215; refine (H _).out.mono ?_; rintro e w1 ⟨rfl,hb⟩)
 go_ret
 exact ⟨rfl,hb⟩
end Go.Proofs.YtjgeedgphcjhoaaGreat
namespace Go.Proofs.YtjgeedgphcjhoaaGreat
open Go.RowKit
/-- Block g holds these cells. -/
def CA (g : Nat) (cs : Array Value) (T : TypeId) (W : World) : Prop := W.heap[g]? = some (.cells cs T (0,0))
theorem CA.lt {g : Nat} {cs : Array Value} {T : TypeId} {W : World} (h : CA g cs T W) : g < W.heap.size := (Array.getElem?_eq_some_iff.1 h).1
theorem CA.new (w : World) (cs : Array Value) (T : TypeId) : CA w.heap.size cs T (w.alloc (.cells cs T)) := by
 show (w.heap.push _)[w.heap.size]? = _
 simp
theorem CA.at {g k : Nat} {cs : Array Value} {T : TypeId} {W : World} {v : Value} (h : CA g cs T W) (hk : cs[k]? = some v) : W.cell? ⟨g,k,none⟩ = some v := by
 unfold CA at h
 rw [World.cell?,h]
 simp [hk]
theorem ca9 {g : Nat} {T : TypeId} {W : World} {v0 v1 v2 v3 v4 v5 v6 v7 v8 : Value} (h : CA g #[v0, v1, v2, v3, v4, v5, v6, v7, v8] T W) : W.cell? ⟨g, 0, none⟩ = some v0 ∧ W.cell? ⟨g, 1, none⟩ = some v1 ∧ W.cell? ⟨g, 2, none⟩ = some v2 ∧ W.cell? ⟨g, 3, none⟩ = some v3 ∧ W.cell? ⟨g, 4, none⟩ = some v4 ∧ W.cell? ⟨g, 5, none⟩ = some v5 ∧ W.cell? ⟨g, 6, none⟩ = some v6 ∧ W.cell? ⟨g, 7, none⟩ = some v7 ∧ W.cell? ⟨g, 8, none⟩ = some v8 := ⟨h.at rfl, h.at rfl, h.at rfl, h.at rfl, h.at rfl, h.at rfl, h.at rfl, h.at rfl, h.at rfl⟩
theorem ca11 {g : Nat} {T : TypeId} {W : World} {v0 v1 v2 v3 v4 v5 v6 v7 v8 v9 v10 : Value} (h : CA g #[v0, v1, v2, v3, v4, v5, v6, v7, v8, v9, v10] T W) : W.cell? ⟨g, 0, none⟩ = some v0 ∧ W.cell? ⟨g, 1, none⟩ = some v1 ∧ W.cell? ⟨g, 2, none⟩ = some v2 ∧ W.cell? ⟨g, 3, none⟩ = some v3 ∧ W.cell? ⟨g, 4, none⟩ = some v4 ∧ W.cell? ⟨g, 5, none⟩ = some v5 ∧ W.cell? ⟨g, 6, none⟩ = some v6 ∧ W.cell? ⟨g, 7, none⟩ = some v7 ∧ W.cell? ⟨g, 8, none⟩ = some v8 ∧ W.cell? ⟨g, 9, none⟩ = some v9 ∧ W.cell? ⟨g, 10, none⟩ = some v10 := ⟨h.at rfl, h.at rfl, h.at rfl, h.at rfl, h.at rfl, h.at rfl, h.at rfl, h.at rfl, h.at rfl, h.at rfl, h.at rfl⟩
theorem CA.free {g : Nat} {cs : Array Value} {T : TypeId} {W : World} (h : CA g cs T W) (k : Nat) : W.frozen? ⟨g,k,none⟩ = false := by
 unfold CA at h
 rw [World.frozen?,h]
 simp
theorem CA.set {g k : Nat} {cs : Array Value} {T : TypeId} {W : World} (h : CA g cs T W) (v : Value) : CA g (cs.setIfInBounds k v) T (W.setCell ⟨g,k,none⟩ v) := by
 unfold CA at h ⊢
 rw [World.setCell,Array.getElem?_modify,if_pos rfl,h]
 rfl
theorem CA.below {g B : Nat} {cs : Array Value} {T : TypeId} {W W' : World} (h : CA g cs T W) (hb : Below B W W') (hg : g < B) : CA g cs T W' := by
 unfold CA at h ⊢
 rw [hb.block g hg,h]
theorem CA.alloc {g : Nat} {cs : Array Value} {T : TypeId} {W : World} (h : CA g cs T W) (o : Obj) : CA g cs T (W.alloc o) := h.below ((Below.refl _ _).alloc (Nat.le_refl _) o) h.lt
theorem size_al (w : World) (o : Obj) : (w.alloc o).heap.size = w.heap.size + 1 := by simp
/-- All blocks stay but perhaps one. -/
structure KP (c : Option Nat) (w w' : World) : Prop where
 os : w'.os = w.os
 tape : w'.tape = w.tape
 output : w'.output = w.output
 size : w.heap.size ≤ w'.heap.size
 block : ∀ k,k < w.heap.size → c ≠ some k → w'.heap[k]? = w.heap[k]?
theorem KP.refl (c : Option Nat) (w : World) : KP c w w := ⟨rfl,rfl,rfl,Nat.le_refl _,fun _ _ _ => rfl⟩
theorem KP.trans {c : Option Nat} {a b w : World} (h : KP c a b) (k : KP c b w) : KP c a w :=
 ⟨k.os.trans h.os,k.tape.trans h.tape,k.output.trans h.output,Nat.le_trans h.size k.size,fun i hi hc => (k.block i (Nat.lt_of_lt_of_le hi h.size) hc).trans (h.block i hi hc)⟩
theorem KP.of {c : Option Nat} {w w' : World} (h : Below w.heap.size w w') : KP c w w' := ⟨h.os,h.tape,h.output,h.size,fun k hk _ => h.block k hk⟩
theorem KP.pure {w w' : World} (h : KP none w w') : Below w.heap.size w w' := ⟨h.os,h.tape,h.output,h.size,fun k hk => h.block k hk (by simp)⟩
theorem KP.alloc {c : Option Nat} {a w : World} (h : KP c a w) (o : Obj) : KP c a (w.alloc o) := h.trans (KP.of ((Below.refl _ _).alloc (Nat.le_refl _) o))
theorem KP.below {c : Option Nat} {w w' : World} {B : Nat} (h : KP c w w') (hB : B ≤ w.heap.size) (hc : ∀ k,c = some k → B ≤ k) : Below B w w' :=
 ⟨h.os,h.tape,h.output,h.size,fun k hk => h.block k (by omega) (fun e => by have := hc k e; omega)⟩
theorem CA.keep {g : Nat} {cs : Array Value} {T : TypeId} {W W' : World} {c : Option Nat} (h : CA g cs T W) (hb : KP c W W') (hg : c ≠ some g) : CA g cs T W' := by
 have hl := h.lt
 unfold CA at h ⊢
 rw [hb.block g hl hg,h]
/-- Instructions in a row, with those nested in each. -/
inductive Fo where
 | nil : Fo
 | cons (op a b : Int) (n h : Nat) (l : List Int) (ot : Bool) (body els rest : Fo) : Fo
def Fo.len : Fo → Nat
 | .nil => 0
 | .cons _ _ _ _ _ _ _ _ _ r => r.len + 1
/-- How many there are. -/
def Fo.cnt : Fo → Nat
 | .nil => 0
 | .cons _ _ _ _ _ _ _ b e r => b.cnt + e.cnt + r.cnt + 1
/-- How deep they are nested. -/
def Fo.nst : Fo → Nat
 | .nil => 0
 | .cons _ _ _ _ _ _ _ b e r => max (max b.nst e.nst + 1) r.nst
/-- A slice of integers, below block B. -/
def LI (B : Nat) (w : World) (v : Value) (l : List Int) : Prop := ∃ p c,v = .slice p l.length c ∧ l.length < 9223372036854775807 ∧ (l ≠ [] → ∃ g o,p = some ⟨g,o,none⟩ ∧ g < B ∧ ∀ j x,l[j]? = some x → w.cell? ⟨g,o + j,none⟩ = some (.int .i64 x))
theorem LI.below {B : Nat} {w w' : World} {v : Value} {l : List Int} (h : LI B w v l) (hb : Below B w w') : LI B w' v l := by
 obtain ⟨p,c,rfl,hq,h⟩ := h
 refine ⟨p,c,rfl,hq,fun hn => ?_⟩
 obtain ⟨g,o,rfl,hg,hc⟩ := h hn
 exact ⟨g,o,rfl,hg,fun j x hj => by rw [hb.cell (p := ⟨g,o + j,none⟩) hg]; exact hc j x hj⟩
theorem LI.mono {B B' : Nat} {w : World} {v : Value} {l : List Int} (h : LI B w v l) (hb : B ≤ B') : LI B' w v l := by
 obtain ⟨p,c,rfl,hq,h⟩ := h
 refine ⟨p,c,rfl,hq,fun hn => ?_⟩
 obtain ⟨g,o,rfl,hg,hc⟩ := h hn
 exact ⟨g,o,rfl,Nat.lt_of_lt_of_le hg hb,hc⟩
/-- Instructions from a place of a block on, below block B. -/
def FA (B : Nat) (w : World) : Fo → Nat → Nat → Prop
 | .nil,_,_ => True
 | .cons op a b n h l ot body els rest,g,o => g < B ∧ (∃ vl vb ve,
   w.cell? ⟨g,o,none⟩ = some (.int .i64 op) ∧ w.cell? ⟨g,o + 1,none⟩ = some (.int .i64 a) ∧ w.cell? ⟨g,o + 2,none⟩ = some (.int .i64 b) ∧
   w.cell? ⟨g,o + 3,none⟩ = some (.int .u64 (n : Nat)) ∧ w.cell? ⟨g,o + 4,none⟩ = some (.int .u64 (h : Nat)) ∧ w.cell? ⟨g,o + 5,none⟩ = some vl ∧
   w.cell? ⟨g,o + 6,none⟩ = some vb ∧ w.cell? ⟨g,o + 7,none⟩ = some ve ∧ w.cell? ⟨g,o + 8,none⟩ = some (.bool ot) ∧ LI B w vl l ∧
   (∃ p c g' o',vb = .slice p body.len c ∧ (body.len ≠ 0 → p = some ⟨g',o',none⟩) ∧ FA B w body g' o') ∧
   (∃ p c g' o',ve = .slice p els.len c ∧ (els.len ≠ 0 → p = some ⟨g',o',none⟩) ∧ FA B w els g' o')) ∧ FA B w rest g (o + 9)
/-- A slice of instructions. -/
def SA (B : Nat) (w : World) (v : Value) (f : Fo) : Prop := ∃ p c g' o',v = .slice p f.len c ∧ (f.len ≠ 0 → p = some ⟨g',o',none⟩) ∧ FA B w f g' o'
theorem FA.below {B : Nat} {w w' : World} (hb : Below B w w') : ∀ (f : Fo) (g o : Nat),FA B w f g o → FA B w' f g o := by
 intro f
 induction f with
 | nil => intro g o h; trivial
 | cons op a b n h l ot body els rest ihb ihe ihr =>
  rintro g o ⟨hg,⟨vl,vb,ve,h0,h1,h2,h3,h4,h5,h6,h7,h8,hl,⟨p,c,g',o',e1,e2,e3⟩,⟨p2,c2,g2,o2,f1,f2,f3⟩⟩,hr⟩
  have hc : ∀ k,w'.cell? ⟨g,k,none⟩ = w.cell? ⟨g,k,none⟩ := fun k => hb.cell (p := ⟨g,k,none⟩) hg
  exact ⟨hg,⟨vl,vb,ve,by rw [hc,h0],by rw [hc,h1],by rw [hc,h2],by rw [hc,h3],by rw [hc,h4],by rw [hc,h5],by rw [hc,h6],by rw [hc,h7],by rw [hc,h8],hl.below hb,⟨p,c,g',o',e1,e2,ihb _ _ e3⟩,⟨p2,c2,g2,o2,f1,f2,ihe _ _ f3⟩⟩,ihr _ _ hr⟩
theorem FA.mono {B B' : Nat} {w : World} (hb : B ≤ B') : ∀ (f : Fo) (g o : Nat),FA B w f g o → FA B' w f g o := by
 intro f
 induction f with
 | nil => intro g o h; trivial
 | cons op a b n h l ot body els rest ihb ihe ihr =>
  rintro g o ⟨hg,⟨vl,vb,ve,h0,h1,h2,h3,h4,h5,h6,h7,h8,hl,⟨p,c,g',o',e1,e2,e3⟩,⟨p2,c2,g2,o2,f1,f2,f3⟩⟩,hr⟩
  exact ⟨Nat.lt_of_lt_of_le hg hb,⟨vl,vb,ve,h0,h1,h2,h3,h4,h5,h6,h7,h8,hl.mono hb,⟨p,c,g',o',e1,e2,ihb _ _ e3⟩,⟨p2,c2,g2,o2,f1,f2,ihe _ _ f3⟩⟩,ihr _ _ hr⟩
theorem SA.below {B : Nat} {w w' : World} {v : Value} {f : Fo} (h : SA B w v f) (hb : Below B w w') : SA B w' v f := by
 obtain ⟨p,c,g,o,e1,e2,e3⟩ := h
 exact ⟨p,c,g,o,e1,e2,FA.below hb _ _ _ e3⟩
theorem SA.mono {B B' : Nat} {w : World} {v : Value} {f : Fo} (h : SA B w v f) (hb : B ≤ B') : SA B' w v f := by
 obtain ⟨p,c,g,o,e1,e2,e3⟩ := h
 exact ⟨p,c,g,o,e1,e2,FA.mono hb _ _ _ e3⟩
theorem SA.nil (B : Nat) (w : World) (p : Option Addr) (c : Nat) : SA B w (.slice p 0 c) .nil := ⟨p,c,0,0,rfl,fun h => absurd rfl h,trivial⟩
theorem LI.nil (B : Nat) (w : World) (p : Option Addr) (c : Nat) : LI B w (.slice p 0 c) [] := ⟨p,c,rfl,by decide,fun h => absurd rfl h⟩
/-- What is asked of all instructions, one behind the other, those nested in one behind it: the answer, and what has come of the asking. -/
def evF {σ : Type} (st : σ → Int → Int → Int → Int → Nat → Nat → List Int → Bool → Fo → Fo → Bool × σ) : Fo → Int → σ → Bool × σ
 | .nil,_,s => (true,s)
 | .cons op a b n h l ot body els rest,d,s =>
  if (st s d op a b n h l ot body els).1 = true then
   if (evF st body (d + 1) (st s d op a b n h l ot body els).2).1 = true then
    if (evF st els (d + 1) (evF st body (d + 1) (st s d op a b n h l ot body els).2).2).1 = true then
     evF st rest d (evF st els (d + 1) (evF st body (d + 1) (st s d op a b n h l ot body els).2).2).2
    else (false,(evF st els (d + 1) (evF st body (d + 1) (st s d op a b n h l ot body els).2).2).2)
   else (false,(evF st body (d + 1) (st s d op a b n h l ot body els).2).2)
  else (false,(st s d op a b n h l ot body els).2)
end Go.Proofs.YtjgeedgphcjhoaaGreat
namespace Go.Proofs.YtjgeedgphcjhoaaGreat
open Go.ChangeShapes Go.WideShapes Go.ChangeAt Go.RowKit
theorem c3 : Tryz.prog.cellsOf 3 = 1 := by kernel_rfl
theorem c4 : Tryz.prog.cellsOf 4 = 1 := by kernel_rfl
theorem c35 : Tryz.prog.cellsOf 35 = 1 := by kernel_rfl
theorem c36 : Tryz.prog.cellsOf 36 = 1 := by kernel_rfl
theorem c37 : Tryz.prog.cellsOf 37 = 1 := by kernel_rfl
theorem c39 : Tryz.prog.cellsOf 39 = 9 := by kernel_rfl
theorem by3 : Tryz.prog.bytesOf 3 = 8 := by kernel_rfl
theorem by39 : 8 ≤ Tryz.prog.bytesOf 39 := by
 have : decide (8 ≤ Tryz.prog.bytesOf 39) = true := by kernel_rfl
 exact of_decide_eq_true this
/-- No list in it is longer than a machine holds. -/
def WB {H : Type} (t : TypeId) (d : DataW H) : Prop := ∀ n ∈ d.weights Tryz.prog t,n ≤ reachBytes
theorem wb_all {H : Type} {e : TypeId} : ∀ {l : List (DataW H)},(∀ n ∈ DataW.weightsAll Tryz.prog e l,n ≤ reachBytes) → ∀ d ∈ l,WB e d
 | [],_,d,hd => by simp at hd
 | x :: l,h,d,hd => by
  simp only [DataW.weightsAll,List.mem_append] at h
  rcases List.mem_cons.1 hd with rfl | hd
  ·exact fun n hn => h n (.inl hn)
  ·exact wb_all (fun n hn => h n (.inr hn)) d hd
theorem wb_slice {H : Type} {t e : TypeId} {elems spare : List (DataW H)} (hu : Tryz.prog.underlying t = some (.slice e)) (h : WB t (.slice elems spare)) : (elems.length + spare.length) * Tryz.prog.bytesOf e ≤ reachBytes ∧ ∀ d ∈ elems,WB e d := by
 unfold WB at h
 simp only [DataW.weights,hu,List.mem_cons,List.mem_append] at h
 exact ⟨h _ (.inl rfl),wb_all fun n hn => h n (.inr (.inl hn))⟩
theorem wb_part {H : Type} {t : TypeId} {fs : Array Field} {parts : List (DataW H)} (hu : Tryz.prog.underlying t = some (.struct fs)) (h : WB t (.agg parts)) (j : Nat) (f : Field) (d : DataW H) (hf : fs[j]? = some f) (hd : parts[j]? = some d) : WB f.type d := by
 intro n hn
 unfold WB at h
 simp only [DataW.weights,hu] at h
 exact h n (DataW.weights_mem_each (by simp [hf]) hd n hn)
/-- All lists are shorter than there are integers. -/
def Lens : Fo → Prop
 | .nil => True
 | .cons _ _ _ _ _ _ _ body els rest => body.len < 9223372036854775807 ∧ els.len < 9223372036854775807 ∧ Lens body ∧ Lens els ∧ Lens rest
theorem add_zero' (b : Addr) : b.add 0 = b := by unfold Addr.add; exact if_pos rfl
theorem cell_plain {w : World} {a : Addr} {k : Nat} {v : Value} (h0 : a.spot = none) (h : w.cell? (a.add k) = some v) : w.cell? ⟨a.block,a.off + k,none⟩ = some v := by
 have e : a.add k = ⟨a.block,a.off + k,none⟩ := by
  unfold Addr.add
  split
  ·rename_i hk
   subst hk
   cases a
   simp_all
  ·rfl
 rw [← e]
 exact h
theorem spot_none {w : World} {a : Addr} {v : Value} (h : w.cell? (a.add 0) = some v) : a.spot = none := by
 have e : a.add 0 = a := by unfold Addr.add; simp
 rw [e] at h
 unfold World.cell? at h
 split at h
 ·split at h
  ·cases h
  ·rename_i hs
   simpa using hs
 ·cases h
section
variable {H : Type} {enc : TypeId × Value → H} {W : World} {sp : Nat → Bool} {held : Bool}
theorem fields39 : ∃ f0 f1 f2 f3 f4 f5 f6 f7 f8 : Field,Tryz.prog.underlying 39 = some (.struct #[f0,f1,f2,f3,f4,f5,f6,f7,f8]) ∧ (f0.type = 3 ∧ f1.type = 3 ∧ f2.type = 3 ∧ f3.type = 35 ∧ f4.type = 35 ∧ f5.type = 36 ∧ f6.type = 37 ∧ f7.type = 37 ∧ f8.type = 4) ∧
  (f0.offset = 0 ∧ f1.offset = 1 ∧ f2.offset = 2 ∧ f3.offset = 3 ∧ f4.offset = 4 ∧ f5.offset = 5 ∧ f6.offset = 6 ∧ f7.offset = 7 ∧ f8.offset = 8) :=
 ⟨_,_,_,_,_,_,_,_,_,Tryz.underlying39,⟨rfl,rfl,rfl,rfl,rfl,rfl,rfl,rfl,rfl⟩,⟨rfl,rfl,rfl,rfl,rfl,rfl,rfl,rfl,rfl⟩⟩
end
end Go.Proofs.YtjgeedgphcjhoaaGreat
namespace Go.Proofs.YtjgeedgphcjhoaaGreat
open Go.RowKit
theorem evF_cons {σ : Type} (st : σ → Int → Int → Int → Int → Nat → Nat → List Int → Bool → Fo → Fo → Bool × σ) (op a b : Int) (n h : Nat) (l : List Int) (ot : Bool) (body els rest : Fo) (d : Int) (s : σ) (b1 : Bool) (s1 : σ) (h1 : st s d op a b n h l ot body els = (b1,s1)) (b2 : Bool) (s2 : σ) (h2 : evF st body (d + 1) s1 = (b2,s2)) (b3 : Bool) (s3 : σ) (h3 : evF st els (d + 1) s2 = (b3,s3)) :
  evF st (.cons op a b n h l ot body els rest) d s = if b1 = true then (if b2 = true then (if b3 = true then evF st rest d s3 else (false,s3)) else (false,s2)) else (false,s1) := by
 rw [evF,h1]
 simp only
 rw [h2]
 simp only
 rw [h3]
/-- What the question's own contract says. -/
def Asked {σ : Type} (k : Nat) (caps : Array Value) (St : σ → World → Prop) (st : σ → Int → Int → Int → Int → Nat → Nat → List Int → Bool → Fo → Fo → Bool × σ) (B : Nat) (c : Option Nat) : Prop :=
 ∀ s (d op a b : Int) (n h : Nat) l ot body els vl vb ve W,0 ≤ d → B ≤ W.heap.size → (∀ k,c = some k → k < W.heap.size) → LI B W vl l → SA B W vb body → SA B W ve els → St s W →
  Calls Tryz.prog k (#[.agg #[.int .i64 op,.int .i64 a,.int .i64 b,.int .u64 (n : Nat),.int .u64 (h : Nat),vl,vb,ve,.bool ot],.int .i64 d] ++ caps) W fun e w' => e = .returned (.bool (st s d op a b n h l ot body els).1) ∧ St (st s d op a b n h l ot body els).2 w' ∧ KP c W w'
set_option maxHeartbeats 4000000 in
theorem from_says {σ : Type} (k : Nat) (caps : Array Value) (eg : ∀ args w,(callFunc k args).run Tryz.prog w = .ok (.enter k args) w)
  (St : σ → World → Prop) (st : σ → Int → Int → Int → Int → Nat → Nat → List Int → Bool → Fo → Fo → Bool × σ) (B : Nat) (c : Option Nat) (hBc : ∀ k,c = some k → B ≤ k) (hal : ∀ s W o,(∀ k,c = some k → k < W.heap.size) → St s W → St s (W.alloc o)) (hcl : Asked k caps St st B c) :
  ∀ (N : Nat) (f : Fo),f.cnt < N → ∀ (d : Int) (s : σ) (v : Value) (w : World),0 ≤ d → d + f.cnt < 9223372036854775807 → B ≤ w.heap.size → (∀ k,c = some k → k < w.heap.size) → SA B w v f → St s w →
   Calls Tryz.prog 211 #[.int .i64 d,v,.func (.func k) #[] caps] w fun e w' => e = .returned (.bool (evF st f d s).1) ∧ St (evF st f d s).2 w' ∧ KP c w w' := by
 intro N
 induction N with
 | zero => intro f h; omega
 | succ N ih =>
  intro f hf d s v w hd hdn hB hcw hs hst
  obtain ⟨p,cp,g0,o0,rfl,hp,hfa⟩ := hs
  have HBC := hid hBc
  have HCW := hid hcw
  clear hBc hcw
  have HIH := hid ih
  have HCL := hid hcl
  have HP := hid hp
  have HAL := hid hal
  obtain ⟨R,hR⟩ : ∃ R,R = evF st f d s := ⟨_,rfl⟩
  rw [← hR]
  obtain ⟨m,hm⟩ : ∃ m,m = f.len := ⟨_,rfl⟩
  rw [← hm] at HP ⊢
  have hml : m ≤ f.cnt := by
   have : ∀ f : Fo,f.len ≤ f.cnt := by
    intro f
    induction f with
    | nil => exact Nat.le_refl _
    | cons _ _ _ _ _ _ _ _ _ _ _ _ ihr => simp only [Fo.len,Fo.cnt]; omega
   rw [hm]; exact this f
  have HS : Hid (0 + f.len = m ∧ f.cnt ≤ f.cnt ∧ FA B w f g0 (o0 + 0 * 9) ∧ R = evF st f d s ∧ St s w ∧ KP c w w) := ⟨by rw [hm]; omega,Nat.le_refl _,by simpa using hfa,hR,hst,KP.refl _ _⟩
  have hm62 : (m : Int) < 9223372036854775807 := by omega
  obtain ⟨C,hC⟩ : ∃ C,C = f.cnt := ⟨_,rfl⟩
  rw [← hC] at hf hdn
  have HCC := hid hC
  have HSC : Hid (∀ fi : Fo,fi.cnt ≤ f.cnt → fi.cnt < N + 1 ∧ d + fi.cnt < 9223372036854775807) := fun fi h => by rw [← hC] at h; omega
  have HD := hid hd
  clear ih hcl hp hal hR hm hml hst hfa hf hdn hC HCC
  go_enter Tryz.func211,Tryz.ntmps211
  go_wp2
  go_loopw [11] (fun vi wr => ∃ (i : Nat) (fi : Fo) (si : σ),i ≤ m ∧ vi = .int .i64 i ∧ Hid (i + fi.len = m ∧ fi.cnt ≤ f.cnt ∧ FA B wr fi g0 (o0 + i * 9) ∧ R = evF st fi d si ∧ St si wr ∧ KP c w wr)) (fun vi _ => m - (intOf vi).toNat)
  case atStart => exact ⟨0,f,s,Nat.zero_le _,rfl,HS⟩
  case round =>
   obtain ⟨i,fi,si,him,rfl,HI⟩ := hrel
   cases fi with
   | nil =>
    have hi : i = m := HI.out.1
    subst hi
    have HE := hid HI.out.2.2.2.1
    have HF := hid HI.out.2.2.2.2
    go_wp2
    go_ret
    exact ⟨by rw [HE.out]; rfl,by rw [HE.out]; exact HF.out.1,HF.out.2⟩
   | cons op a b n h l ot body els rest =>
    obtain ⟨hg,⟨vl,vb,ve,x0,x1,x2,x3,x4,x5,x6,x7,x8,hl,hbo,hel⟩,hrest⟩ := HI.out.2.2.1
    obtain ⟨pl,cl,evl,_⟩ := id hl
    obtain ⟨pb,cb,gb',ob',evb,_⟩ := id hbo
    obtain ⟨pe,ce,ge',oe',eve,_⟩ := id hel
    obtain ⟨nl,hnl⟩ : ∃ x,x = l.length := ⟨_,rfl⟩
    obtain ⟨nb,hnb⟩ : ∃ x,x = body.len := ⟨_,rfl⟩
    obtain ⟨ne,hne⟩ : ∃ x,x = els.len := ⟨_,rfl⟩
    rw [← hnl] at evl
    rw [← hnb] at evb
    rw [← hne] at eve
    subst evl evb eve
    clear hnl hnb hne
    have hlt : i < m := by have := HI.out.1; simp only [Fo.len] at this; omega
    obtain rfl := HP.out (by omega)
    have hcn := (HSC.out _ HI.out.2.1)
    simp only [Fo.cnt] at hcn
    have HR := hid HI.out.2.2.2.1
    have HK0 := hid HI.out.2.2.2.2.2
    have hBr : B ≤ wr.heap.size := Nat.le_trans hB HK0.out.size
    have HCR := hid (fun q hq => Nat.lt_of_lt_of_le (HCW.out q hq) HK0.out.size)
    have hst0 := HI.out.2.2.2.2.1
    have HLE := hid (show i + 1 + rest.len = m ∧ rest.cnt ≤ f.cnt by have h1 := HI.out.1; have h2 := HI.out.2.1; simp only [Fo.len,Fo.cnt] at h1 h2; omega)
    rcases hr1 : st si d op a b n h l ot body els with ⟨b1,s1⟩
    rcases hr2 : evF st body (d + 1) s1 with ⟨b2,s2⟩
    rcases hr3 : evF st els (d + 1) s2 with ⟨b3,s3⟩
    have hev := HR.out
    rw [evF_cons st op a b n h l ot body els rest d si b1 s1 hr1 b2 s2 hr2 b3 s3 hr3] at hev
    have HEV := hid hev
    have HST := hid hst0
    have HLI := hid hl
    have HBD := hid hbo
    have HEE := hid hel
    have HRS := hid hrest
    have HR1 := hid hr1
    have HR2 := hid hr2
    have HR3 := hid hr3
    have hdw : wrap64 (d + 1) = d + 1 := by unfold wrap64; have := HD.out; omega
    have HCN := hid hcn
    clear hl hbo hel hrest hst0 HI hg hcn hr1 hr2 hr3 hev HR HS
    go_upto_region 4 with fail
    have hb1 := (Below.refl B wr).alloc hBr (.cells #[.int .i64 op,.int .i64 a,.int .i64 b,.int .u64 (n : Nat),.int .u64 (h : Nat),.slice pl nl cl,.slice pb nb cb,.slice pe ne ce,.bool ot] 39)
    have HX := hid (CA.new wr #[.int .i64 op,.int .i64 a,.int .i64 b,.int .u64 (n : Nat),.int .u64 (h : Nat),.slice pl nl cl,.slice pb nb cb,.slice pe ne ce,.bool ot] 39)
    have HK1 := hid (HK0.out.alloc (.cells #[.int .i64 op,.int .i64 a,.int .i64 b,.int .u64 (n : Nat),.int .u64 (h : Nat),.slice pl nl cl,.slice pb nb cb,.slice pe ne ce,.bool ot] 39))
    have HSA := hid (HAL.out si wr (.cells #[.int .i64 op,.int .i64 a,.int .i64 b,.int .u64 (n : Nat),.int .u64 (h : Nat),.slice pl nl cl,.slice pb nb cb,.slice pe ne ce,.bool ot] 39) HCR.out HST.out)
    have HC1W := hid (fun (q : Nat) (hq : c = some q) => show q < (wr.alloc (.cells #[.int .i64 op,.int .i64 a,.int .i64 b,.int .u64 (n : Nat),.int .u64 (h : Nat),.slice pl nl cl,.slice pb nb cb,.slice pe ne ce,.bool ot] 39)).heap.size by rw [size_al]; have := HCR.out q hq; omega)
    have HNG := hid (show c ≠ some wr.heap.size from fun e => by have := HCR.out _ e; omega)
    have hBo : B ≤ (wr.alloc (.cells #[.int .i64 op,.int .i64 a,.int .i64 b,.int .u64 (n : Nat),.int .u64 (h : Nat),.slice pl nl cl,.slice pb nb cb,.slice pe ne ce,.bool ot] 39)).heap.size := by rw [size_al]; omega
    have HLI1 := hid (LI.below HLI.out hb1)
    have HBO := hid (SA.below HBD.out hb1)
    have HEL := hid (SA.below HEE.out hb1)
    have HRE := hid (FA.below hb1 _ _ _ HRS.out)
    clear hb1 HLI HBD HEE HRS HK0 HST
    generalize wr.alloc (.cells #[.int .i64 op,.int .i64 a,.int .i64 b,.int .u64 (n : Nat),.int .u64 (h : Nat),.slice pl nl cl,.slice pb nb cb,.slice pe ne ce,.bool ot] 39) = W1 at *
    generalize wr.heap.size = gb at *
    have hc1 := HCL.out si d op a b n h l ot body els (.slice pl nl cl) (.slice pb nb cb) (.slice pe ne ce) W1 HD.out hBo HC1W.out HLI1.out HBO.out HEL.out HSA.out
    rw [HR1.out] at hc1
    have HC := hid hc1
    obtain ⟨y0,y1,y2,y3,y4,y5,y6,y7,y8⟩ := ca9 HX.out
    have HIB := fun W h1 h2 h3 h4 => hid (HIH.out body (by have := HCN.out; omega) (d + 1) s1 (.slice pb nb cb) W (by have := HD.out; omega) (by have := HCN.out; omega) h1 h2 h3 h4)
    have HIE := fun W h1 h2 h3 h4 => hid (HIH.out els (by have := HCN.out; omega) (d + 1) s2 (.slice pe ne ce) W (by have := HD.out; omega) (by have := HCN.out; omega) h1 h2 h3 h4)
    rw [HR2.out] at HIB
    rw [HR3.out] at HIE
    clear hc1 x0 x1 x2 x3 x4 x5 x6 x7 x8 HLI1 HSA
    cases b1 with
    | false =>
     clear HIB HIE
     go_wp2_with (first
        | (go_at_fn k; (with_reducible refine HC.out.mono ?_); rintro e w2 ⟨rfl,hs2,hk2⟩; have HS2 := hid hs2; have HK2 := hid (HK1.out.trans hk2); have HKK2 := hid hk2; have HX2 := hid (HX.out.keep hk2 HNG.out); have y6 := HX2.out.at (k := 6) (v := .slice pb nb cb) rfl; clear hs2 hk2))
     go_ret
     exact ⟨by rw [HEV.out]; rfl,by rw [HEV.out]; exact HS2.out,HK2.out⟩
    | true =>
     cases b2 with
     | false =>
      clear HIE
      go_wp2_with (first
        | (go_at_fn k; (with_reducible refine HC.out.mono ?_); rintro e w2 ⟨rfl,hs2,hk2⟩; have HS2 := hid hs2; have HK2 := hid (HK1.out.trans hk2); have HKK2 := hid hk2; have HX2 := hid (HX.out.keep hk2 HNG.out); have y6 := HX2.out.at (k := 6) (v := .slice pb nb cb) rfl; clear hs2 hk2)
        | (go_at_call 211; (with_reducible refine (HIB _ (Nat.le_trans hBo HKK2.out.size) (fun q hq => Nat.lt_of_lt_of_le (HC1W.out q hq) HKK2.out.size) (SA.below HBO.out (HKK2.out.below hBo HBC.out)) HS2.out).out.mono ?_); rintro e w3 ⟨rfl,hs3,hk3⟩; have HS3 := hid hs3; have HK3 := hid (HK2.out.trans hk3); have HKK3 := hid (HKK2.out.trans hk3); have HX3 := hid (HX2.out.keep hk3 HNG.out); have y7 := HX3.out.at (k := 7) (v := .slice pe ne ce) rfl; clear hs3 hk3))
      go_ret
      exact ⟨by rw [HEV.out]; rfl,by rw [HEV.out]; exact HS3.out,HK3.out⟩
     | true =>
      cases b3 with
      | false =>
       go_wp2_with (first
        | (go_at_fn k; (with_reducible refine HC.out.mono ?_); rintro e w2 ⟨rfl,hs2,hk2⟩; have HS2 := hid hs2; have HK2 := hid (HK1.out.trans hk2); have HKK2 := hid hk2; have HX2 := hid (HX.out.keep hk2 HNG.out); have y6 := HX2.out.at (k := 6) (v := .slice pb nb cb) rfl; clear hs2 hk2)
        | (go_at_call 211; (with_reducible refine (HIB _ (Nat.le_trans hBo HKK2.out.size) (fun q hq => Nat.lt_of_lt_of_le (HC1W.out q hq) HKK2.out.size) (SA.below HBO.out (HKK2.out.below hBo HBC.out)) HS2.out).out.mono ?_); rintro e w3 ⟨rfl,hs3,hk3⟩; have HS3 := hid hs3; have HK3 := hid (HK2.out.trans hk3); have HKK3 := hid (HKK2.out.trans hk3); have HX3 := hid (HX2.out.keep hk3 HNG.out); have y7 := HX3.out.at (k := 7) (v := .slice pe ne ce) rfl; clear hs3 hk3)
        | (go_at_call 211; (with_reducible refine (HIE _ (Nat.le_trans hBo HKK3.out.size) (fun q hq => Nat.lt_of_lt_of_le (HC1W.out q hq) HKK3.out.size) (SA.below HEL.out (HKK3.out.below hBo HBC.out)) HS3.out).out.mono ?_); rintro e w4 ⟨rfl,hs4,hk4⟩; have HS4 := hid hs4; have HK4 := hid (HK3.out.trans hk4); have HKK4 := hid (HKK3.out.trans hk4); clear hs4 hk4))
       go_ret
       exact ⟨by rw [HEV.out]; rfl,by rw [HEV.out]; exact HS4.out,HK4.out⟩
      | true =>
       go_wp2_with (first
        | (go_at_fn k; (with_reducible refine HC.out.mono ?_); rintro e w2 ⟨rfl,hs2,hk2⟩; have HS2 := hid hs2; have HK2 := hid (HK1.out.trans hk2); have HKK2 := hid hk2; have HX2 := hid (HX.out.keep hk2 HNG.out); have y6 := HX2.out.at (k := 6) (v := .slice pb nb cb) rfl; clear hs2 hk2)
        | (go_at_call 211; (with_reducible refine (HIB _ (Nat.le_trans hBo HKK2.out.size) (fun q hq => Nat.lt_of_lt_of_le (HC1W.out q hq) HKK2.out.size) (SA.below HBO.out (HKK2.out.below hBo HBC.out)) HS2.out).out.mono ?_); rintro e w3 ⟨rfl,hs3,hk3⟩; have HS3 := hid hs3; have HK3 := hid (HK2.out.trans hk3); have HKK3 := hid (HKK2.out.trans hk3); have HX3 := hid (HX2.out.keep hk3 HNG.out); have y7 := HX3.out.at (k := 7) (v := .slice pe ne ce) rfl; clear hs3 hk3)
        | (go_at_call 211; (with_reducible refine (HIE _ (Nat.le_trans hBo HKK3.out.size) (fun q hq => Nat.lt_of_lt_of_le (HC1W.out q hq) HKK3.out.size) (SA.below HEL.out (HKK3.out.below hBo HBC.out)) HS3.out).out.mono ?_); rintro e w4 ⟨rfl,hs4,hk4⟩; have HS4 := hid hs4; have HK4 := hid (HK3.out.trans hk4); have HKK4 := hid (HKK3.out.trans hk4); clear hs4 hk4))
       go_roundw
       case rel => exact ⟨i + 1,rest,s3,hlt,by go_num,HLE.out.1,HLE.out.2,by (have h9 : o0 + (i + 1) * 9 = o0 + i * 9 + 9 := by omega); rw [h9]; exact FA.below (HKK4.out.below hBo HBC.out) _ _ _ HRE.out,by have := HEV.out; simpa using this,HS4.out,HK4.out⟩
       case measure => simp [intOf]; omega
/-- every itself. -/
theorem every_says {σ : Type} (k : Nat) (caps : Array Value) (eg : ∀ args w,(callFunc k args).run Tryz.prog w = .ok (.enter k args) w)
  (St : σ → World → Prop) (st : σ → Int → Int → Int → Int → Nat → Nat → List Int → Bool → Fo → Fo → Bool × σ) (B : Nat) (c : Option Nat) (hBc : ∀ k,c = some k → B ≤ k) (hal : ∀ s W o,(∀ k,c = some k → k < W.heap.size) → St s W → St s (W.alloc o)) (hcl : Asked k caps St st B c)
  (f : Fo) (s : σ) (v : Value) (w : World) (hn : f.cnt < 9223372036854775806) (hB : B ≤ w.heap.size) (hcw : ∀ k,c = some k → k < w.heap.size) (hs : SA B w v f) (hst : St s w) :
  Calls Tryz.prog 140 #[v,.func (.func k) #[] caps] w fun e w' => e = .returned (.bool (evF st f 1 s).1) ∧ St (evF st f 1 s).2 w' ∧ KP c w w' := by
 have H := hid (from_says k caps eg St st B c hBc hal hcl (f.cnt + 1) f (Nat.lt_succ_self _) 1 s v w (by decide) (by omega) hB hcw hs hst)
 generalize evF st f 1 s = R at *
 clear hs hst hcl hal hn hcw hBc
 go_enter Tryz.func140,Tryz.ntmps140
 go_wp2_with (go_at_call 211; (with_reducible refine H.out.mono ?_); rintro e w2 ⟨rfl,hs2,hb2⟩)
 go_ret
 exact ⟨rfl,hs2,hb2⟩
end Go.Proofs.YtjgeedgphcjhoaaGreat
namespace Go.Proofs.YtjgeedgphcjhoaaGreat
open Go.RowKit
def idxB (a : Int) : Bool := decide (IntKind.u64.wrap a ≤ 4294967295)
def refB (a : Int) : Bool := a == 112 || a == 111
def valB (a : Int) : Bool := a == 127 || a == 126 || a == 125 || a == 124 || a == 123 || refB a
def byteB (a : Int) : Bool := decide (0 ≤ a) && decide (a ≤ 255)
theorem isIndex_says (a : Int) (w : World) : Calls Tryz.prog 145 #[.int .i64 a] w fun e w' => e = .returned (.bool (idxB a)) ∧ w = w' := by
 unfold idxB
 go_enter Tryz.func145,Tryz.ntmps145
 go_wp2
 go_ret
 exact ⟨rfl,rfl⟩
theorem isStart_says (a : Int) (w : World) : Calls Tryz.prog 44 #[.int .i64 a] w fun e w' => e = .returned (.bool (decide (IntKind.u64.wrap a ≤ 4294967296))) ∧ w = w' := by
 go_enter Tryz.func44,Tryz.ntmps44
 go_wp2
 go_ret
 exact ⟨rfl,rfl⟩
theorem isRef_says (a : Int) (w : World) : Calls Tryz.prog 149 #[.int .i64 a] w fun e w' => e = .returned (.bool (refB a)) ∧ w = w' := by
 unfold refB
 obtain ⟨b1,d1⟩ : ∃ b,(a == 112) = b := ⟨_,rfl⟩
 rw [d1]
 cases b1
 all_goals
  go_enter Tryz.func149,Tryz.ntmps149
  go_wp2
  go_ret
  exact ⟨rfl,rfl⟩
theorem isByte_says (a : Int) (w : World) : Calls Tryz.prog 235 #[.int .i64 a] w fun e w' => e = .returned (.bool (byteB a)) ∧ w = w' := by
 unfold byteB
 obtain ⟨b1,d1⟩ : ∃ b,decide (0 ≤ a) = b := ⟨_,rfl⟩
 rw [d1]
 cases b1
 all_goals
  go_enter Tryz.func235,Tryz.ntmps235
  go_wp2
  go_ret
  exact ⟨rfl,rfl⟩
theorem isVal_says (a : Int) (w : World) : Calls Tryz.prog 144 #[.int .i64 a] w fun e w' => e = .returned (.bool (valB a)) ∧ w = w' := by
 have HR := fun W => hid (isRef_says a W)
 unfold valB
 generalize refB a = r at *
 obtain ⟨b1,d1⟩ : ∃ b,(a == 127) = b := ⟨_,rfl⟩
 obtain ⟨b2,d2⟩ : ∃ b,(a == 126) = b := ⟨_,rfl⟩
 obtain ⟨b3,d3⟩ : ∃ b,(a == 125) = b := ⟨_,rfl⟩
 obtain ⟨b4,d4⟩ : ∃ b,(a == 124) = b := ⟨_,rfl⟩
 obtain ⟨b5,d5⟩ : ∃ b,(a == 123) = b := ⟨_,rfl⟩
 rw [d1,d2,d3,d4,d5]
 rcases (show b1 = true ∨ (b1 = false ∧ b2 = true) ∨ (b1 = false ∧ b2 = false ∧ b3 = true) ∨ (b1 = false ∧ b2 = false ∧ b3 = false ∧ b4 = true) ∨ (b1 = false ∧ b2 = false ∧ b3 = false ∧ b4 = false ∧ b5 = true) ∨ (b1 = false ∧ b2 = false ∧ b3 = false ∧ b4 = false ∧ b5 = false) by cases b1 <;> cases b2 <;> cases b3 <;> cases b4 <;> cases b5 <;> simp) with rfl | ⟨rfl,rfl⟩ | ⟨rfl,rfl,rfl⟩ | ⟨rfl,rfl,rfl,rfl⟩ | ⟨rfl,rfl,rfl,rfl,rfl⟩ | ⟨rfl,rfl,rfl,rfl,rfl⟩
 all_goals
  go_enter Tryz.func144,Tryz.ntmps144
  go_wp2_with (go_at_call 149; (with_reducible refine (HR _).out.mono ?_); rintro e w1 ⟨rfl,rfl⟩)
  go_ret
  exact ⟨by simp,rfl⟩
set_option maxHeartbeats 2000000 in
/-- all of a list of integers. -/
theorem all_int (k : Nat) (eg : ∀ args w,(callFunc k args).run Tryz.prog w = .ok (.enter k args) w) (P : Int → Bool) (hP : ∀ x W,Calls Tryz.prog k #[.int .i64 x] W fun e w' => e = .returned (.bool (P x)) ∧ W = w')
  (l : List Int) (v : Value) (B : Nat) (w : World) (hl : LI B w v l) (hB : B ≤ w.heap.size) (hn : l.length < 9223372036854775807) : Calls Tryz.prog 143 #[v,.func (.func k) #[] #[]] w fun e w' => e = .returned (.bool (l.all P)) ∧ w = w' := by
 obtain ⟨p,c,rfl,_,hc⟩ := hl
 have HP := fun x W => hid (hP x W)
 obtain ⟨r,hr⟩ : ∃ r,r = l.all P := ⟨_,rfl⟩
 rw [← hr]
 obtain ⟨n,hnn⟩ : ∃ n,n = l.length := ⟨_,rfl⟩
 rw [← hnn] at hn ⊢
 have HR := hid hr
 have HC := hid hc
 have HN := hid hnn
 have hn' : (n : Int) < 9223372036854775807 := by omega
 clear hP hr hc hnn hn
 go_enter Tryz.func143,Tryz.ntmps143
 go_wp2
 go_loop [9] (fun vi => ∃ i : Nat,i ≤ n ∧ vi = .int .i64 i ∧ Hid (r = (l.drop i).all P)) (fun vi => n - (intOf vi).toNat)
 case atStart => exact ⟨0,Nat.zero_le _,rfl,by (have := HR.out; show r = _; simpa using this)⟩
 case round =>
  obtain ⟨i,hi,rfl,HI⟩ := hrel
  by_cases hlt : i < n
  ·have hll : i < l.length := by rw [← HN.out]; exact hlt
   obtain ⟨g,o,rfl,hg,hx⟩ := HC.out (fun e => by rw [e] at hll; simp at hll)
   have hd := List.drop_eq_getElem_cons hll
   obtain ⟨x,hxe⟩ : ∃ x,x = l[i] := ⟨_,rfl⟩
   have x0 := hx i x (by rw [hxe]; simp [List.getElem?_eq_getElem hll])
   have HE : Hid (r = (P x && (l.drop (i + 1)).all P)) := by have := HI.out; rw [hd,← hxe] at this; (show r = _); simpa using this
   have HPX := fun W => HP x W
   clear hx hd hxe hll
   rcases hpx : P x with _ | _
   ·rw [hpx] at HPX HE
    clear hpx
    go_wp2_with (go_at_fn k; (with_reducible refine (HPX _).out.mono ?_); rintro e w1 ⟨rfl,rfl⟩)
    go_ret
    exact ⟨by rw [HE.out]; rfl,rfl⟩
   ·rw [hpx] at HPX HE
    clear hpx
    go_wp2_with (go_at_fn k; (with_reducible refine (HPX _).out.mono ?_); rintro e w1 ⟨rfl,rfl⟩)
    go_round
    case rel => exact ⟨i + 1,hlt,by go_num,by (have := HE.out; show r = _; simpa using this)⟩
    case measure => simp [intOf]; omega
  ·obtain rfl : i = n := by omega
   have HE : Hid (r = true) := by have := HI.out; rw [List.drop_of_length_le (by rw [← HN.out]; exact Nat.le_refl _)] at this; exact this
   go_wp2
   go_ret
   exact ⟨by rw [HE.out]; rfl,rfl⟩
/-- Are all fields unused? -/
def unB (a b : Int) (n h : Nat) (ot : Bool) (nl nb ne : Nat) : Bool := (a == 0) && (b == 0) && ((n : Int) == 0) && ((h : Int) == 0) && !ot && ((nl : Int) == 0) && ((nb : Int) == 0) && ((ne : Int) == 0)
set_option maxHeartbeats 4000000 in
theorem isUnused_says (op a b : Int) (n h : Nat) (pl pb pe : Option Addr) (nl cl nb cb ne ce : Nat) (ot : Bool) (w : World) : Calls Tryz.prog 236 #[.agg #[.int .i64 op,.int .i64 a,.int .i64 b,.int .u64 (n : Nat),.int .u64 (h : Nat),.slice pl nl cl,.slice pb nb cb,.slice pe ne ce,.bool ot]] w fun e w' => e = .returned (.bool (unB a b n h ot nl nb ne)) ∧ Below w.heap.size w w' := by
 unfold unB
 obtain ⟨b1,d1⟩ : ∃ x,(a == 0) = x := ⟨_,rfl⟩
 obtain ⟨b2,d2⟩ : ∃ x,(b == 0) = x := ⟨_,rfl⟩
 obtain ⟨b3,d3⟩ : ∃ x,((n : Int) == 0) = x := ⟨_,rfl⟩
 obtain ⟨b4,d4⟩ : ∃ x,((h : Int) == 0) = x := ⟨_,rfl⟩
 obtain ⟨b6,d6⟩ : ∃ x,((nl : Int) == 0) = x := ⟨_,rfl⟩
 obtain ⟨b7,d7⟩ : ∃ x,((nb : Int) == 0) = x := ⟨_,rfl⟩
 obtain ⟨b8,d8⟩ : ∃ x,((ne : Int) == 0) = x := ⟨_,rfl⟩
 rw [d1,d2,d3,d4,d6,d7,d8]
 cases b1 with
 | false =>
  go_enter Tryz.func236,Tryz.ntmps236
  go_wp2
  go_ret
  exact ⟨by simp,(Below.refl _ _).alloc (Nat.le_refl _) _⟩
 | true =>
  cases b2 with
  | false =>
   go_enter Tryz.func236,Tryz.ntmps236
   go_wp2
   go_ret
   exact ⟨by simp,(Below.refl _ _).alloc (Nat.le_refl _) _⟩
  | true =>
   cases b3 with
   | false =>
    go_enter Tryz.func236,Tryz.ntmps236
    go_wp2
    go_ret
    exact ⟨by simp,(Below.refl _ _).alloc (Nat.le_refl _) _⟩
   | true =>
    cases b4 with
    | false =>
     go_enter Tryz.func236,Tryz.ntmps236
     go_wp2
     go_ret
     exact ⟨by simp,(Below.refl _ _).alloc (Nat.le_refl _) _⟩
    | true =>
     cases ot with
     | true =>
      go_enter Tryz.func236,Tryz.ntmps236
      go_wp2
      go_ret
      exact ⟨by simp,(Below.refl _ _).alloc (Nat.le_refl _) _⟩
     | false =>
      cases b6 with
      | false =>
       go_enter Tryz.func236,Tryz.ntmps236
       go_wp2
       go_ret
       exact ⟨by simp,(Below.refl _ _).alloc (Nat.le_refl _) _⟩
      | true =>
       cases b7 with
       | false =>
        go_enter Tryz.func236,Tryz.ntmps236
        go_wp2
        go_ret
        exact ⟨by simp,(Below.refl _ _).alloc (Nat.le_refl _) _⟩
       | true =>
        go_enter Tryz.func236,Tryz.ntmps236
        go_wp2
        go_ret
        exact ⟨by simp,(Below.refl _ _).alloc (Nat.le_refl _) _⟩
end Go.Proofs.YtjgeedgphcjhoaaGreat
