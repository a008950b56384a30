/-
  Aw1: merged, what the law does not reach left out (each text says what it holds where it lies in wip). No condition.
-/
import Derived.Test.YtjgeedgphcjhoaaGreatT07
import Derived.Test.YtjgeedgphcjhoaaGreatT11
import Derived.Test.YtjgeedgphcjhoaaGreatT12
import Derived.Test.YtjgeedgphcjhoaaGreatT01
set_option linter.unusedSimpArgs false
set_option linter.unusedVariables false
set_option maxRecDepth 100000
namespace Go.Proofs.YtjgeedgphcjhoaaGreat
open Go.RowKit
def insFo (op : Int) (body : Fo) : Fo := .cons op 0 0 0 0 [] false body .nil .nil
def blkFo : Fo := insFo 2 (insFo 1 .nil)
theorem SA_ins {B r c : Nat} {w : World} {op : Int} {vb : Value} {body : Fo} (h : InsAt w r op vb) (hr : r < B) (hb : SA B w vb body) : SA B w (.slice (some ⟨r,0,none⟩) 1 c) (insFo op body) := by
 obtain ⟨h0,h1,h2,h3,h4,h5,h6,h7,h8⟩ := h
 refine ⟨some ⟨r,0,none⟩,c,r,0,rfl,fun _ => rfl,hr,⟨.slice none 0 0,vb,.slice none 0 0,h0,h1,h2,h3,h4,h5,h6,h7,h8,LI.nil _ _ _ _,?_,?_⟩,trivial⟩
 ·obtain ⟨p,c',g',o',e,e2,e3⟩ := hb
  exact ⟨p,c',g',o',e,e2,e3⟩
 ·exact ⟨none,0,0,0,rfl,fun h => absurd rfl h,trivial⟩
theorem SA_blk {B r r' c : Nat} {w : World} (h : InsAt w r 2 (.slice (some ⟨r',0,none⟩) 1 1)) (h' : InsAt w r' 1 (.slice none 0 0)) (hr : r < B) (hr' : r' < B) : SA B w (.slice (some ⟨r,0,none⟩) 1 c) blkFo :=
 SA_ins h hr (SA_ins h' hr' (SA.nil _ _ _ _))
theorem code_blk : codeB blkFo = true := by kernel_rfl
theorem data_blk : dataB blkFo = true := by kernel_rfl
theorem code_x : codeB (insFo 64520 .nil) = true := by kernel_rfl
theorem data_x : dataB (insFo 64520 .nil) = false := by kernel_rfl
theorem nest_blk : (evF nestSt blkFo 1 0).2 = 2 := by kernel_rfl
theorem count_blk : (evF countSt blkFo 1 0).2 = 2 := by kernel_rfl
theorem idx0 : idxB 0 = true := by kernel_rfl
theorem range1 (b : Bool) : (List.range 1).all (fun _ => b) = b := by cases b <;> rfl
theorem funcs_says (g b : Nat) (f : Fo) (w : World) (hf : f.cnt < 9223372036854775806) (hl : f.len = 1) (hg : g < w.heap.size) (h0 : w.cell? ⟨g,0,none⟩ = some (.int .i64 0)) (h1 : w.cell? ⟨g,1,none⟩ = some (.slice none 0 0)) (h2 : w.cell? ⟨g,2,none⟩ = some (.slice (some ⟨b,0,none⟩) 1 1))
  (hs : SA w.heap.size w (.slice (some ⟨b,0,none⟩) 1 1) f) :
  (Calls Tryz.prog 34 #[.slice (some ⟨g,0,none⟩) 1 1,.func (.func 35) #[] #[]] w fun e w' => e = .returned (.bool (codeB f)) ∧ Below w.heap.size w w') ∧
  (Calls Tryz.prog 34 #[.slice (some ⟨g,0,none⟩) 1 1,.func (.func 49) #[] #[]] w fun e w' => e = .returned (.bool (dataB f)) ∧ Below w.heap.size w w') := by
 constructor
 ·have := all_code 35 (fun _ _ => rfl) (fun _ => codeB f) 1 g 0 1 (fun _ => 0) (fun _ => none) (fun _ => 0) (fun _ => 0) (fun _ => some ⟨b,0,none⟩) (fun _ => 1) (fun _ => 1) w hg (by decide) (fun i hi => by (obtain rfl : i = 0 := by omega); exact ⟨h0,h1,h2⟩) (fun i hi W hW => by
   have hq := isFunc_says 0 [] f none (some ⟨b,0,none⟩) 0 1 w.heap.size W hf hW.size (LI.nil _ _ _ _) (by rw [hl]; exact SA.below hs hW)
   rw [hl] at hq
   refine hq.mono ?_
   rintro e w' ⟨rfl,hb⟩
   exact ⟨by rw [idx0]; simp,hb⟩)
  rw [range1] at this
  exact this
 ·have := all_code 49 (fun _ _ => rfl) (fun _ => dataB f) 1 g 0 1 (fun _ => 0) (fun _ => none) (fun _ => 0) (fun _ => 0) (fun _ => some ⟨b,0,none⟩) (fun _ => 1) (fun _ => 1) w hg (by decide) (fun i hi => by (obtain rfl : i = 0 := by omega); exact ⟨h0,h1,h2⟩) (fun i hi W hW => by
   have hq := isDataless_says 0 f none (some ⟨b,0,none⟩) 0 0 1 w.heap.size W hf hW.size (by rw [hl]; exact SA.below hs hW)
   rw [hl] at hq
   exact hq)
  rw [range1] at this
  exact this
theorem types_says (g : Nat) (l : List Int) (p : Option Addr) (n c : Nat) (w : World) (hn : n = l.length) (hg : g < w.heap.size) (h0 : w.cell? ⟨g,0,none⟩ = some (.slice p n c)) (h1 : w.cell? ⟨g,1,none⟩ = some (.slice none 0 0)) (hl : LI w.heap.size w (.slice p n c) l) :
  Calls Tryz.prog 30 #[.slice (some ⟨g,0,none⟩) 1 1,.func (.func 31) #[] #[]] w fun e w' => e = .returned (.bool (l.all valB)) ∧ Below w.heap.size w w' := by
 subst hn
 have := all_ft 31 (fun _ _ => rfl) (fun _ => l.all valB) 1 g 0 1 (fun _ => p) (fun _ => l.length) (fun _ => c) (fun _ => none) (fun _ => 0) (fun _ => 0) w hg (by decide) (fun i hi => by (obtain rfl : i = 0 := by omega); exact ⟨h0,h1⟩) (fun i hi W hW => by
  refine (isFT_says l [] p none c 0 w.heap.size W hW.size (hl.below hW) (LI.nil _ _ _ _)).mono ?_
  rintro e w' ⟨rfl,hb⟩
  exact ⟨by simp,hb⟩)
 rw [range1] at this
 exact this
structure Ex (w : World) (gt gf gb : Nat) (l : List Int) (p : Option Addr) (n c : Nat) (f : Fo) : Prop where
 t : gt < w.heap.size
 fn : gf < w.heap.size
 n1 : n = l.length
 t0 : w.cell? ⟨gt,0,none⟩ = some (.slice p n c)
 t1 : w.cell? ⟨gt,1,none⟩ = some (.slice none 0 0)
 l0 : LI w.heap.size w (.slice p n c) l
 f0 : w.cell? ⟨gf,0,none⟩ = some (.int .i64 0)
 f1 : w.cell? ⟨gf,1,none⟩ = some (.slice none 0 0)
 f2 : w.cell? ⟨gf,2,none⟩ = some (.slice (some ⟨gb,0,none⟩) 1 1)
 s : SA w.heap.size w (.slice (some ⟨gb,0,none⟩) 1 1) f
theorem Ex.below {w W : World} {gt gf gb : Nat} {l : List Int} {p : Option Addr} {n c : Nat} {f : Fo} (h : Ex w gt gf gb l p n c f) (hb : Below w.heap.size w W) : Ex W gt gf gb l p n c f where
 t := Nat.lt_of_lt_of_le h.t hb.size
 fn := Nat.lt_of_lt_of_le h.fn hb.size
 n1 := h.n1
 t0 := (hb.cell (p := ⟨gt,0,none⟩) h.t).trans h.t0
 t1 := (hb.cell (p := ⟨gt,1,none⟩) h.t).trans h.t1
 l0 := (h.l0.below hb).mono hb.size
 f0 := (hb.cell (p := ⟨gf,0,none⟩) h.fn).trans h.f0
 f1 := (hb.cell (p := ⟨gf,1,none⟩) h.fn).trans h.f1
 f2 := (hb.cell (p := ⟨gf,2,none⟩) h.fn).trans h.f2
 s := SA.mono (SA.below h.s hb) hb.size
theorem May_ex (gt gf gb : Nat) (l : List Int) (p : Option Addr) (n c : Nat) (f : Fo) (w : World) (h : Ex w gt gf gb l p n c f) (hf : f.cnt < 9223372036854775806) (hl : f.len = 1) :
  Calls Tryz.prog 15 #[.agg #[.slice (some ⟨gt,0,none⟩) 1 1,.slice none 0 0,.slice (some ⟨gf,0,none⟩) 1 1,.slice none 0 0,.slice none 0 0,.slice none 0 0,.slice none 0 0,.int .i64 0,.slice none 0 0,.slice none 0 0,.bool false]] w fun e w' => e = .returned (.bool (l.all valB && codeB f && dataB f)) ∧ Below w.heap.size w w' :=
 May_says (some ⟨gt,0,none⟩) 1 1 gf 0 1 (l.all valB) (codeB f) (dataB f) w (fun W hW => types_says gt l p n c W (h.below hW).n1 (h.below hW).t (h.below hW).t0 (h.below hW).t1 (h.below hW).l0)
  (fun W hW => (funcs_says gf gb f W hf hl (h.below hW).fn (h.below hW).f0 (h.below hW).f1 (h.below hW).f2 (h.below hW).s).1)
  (fun W hW => (funcs_says gf gb f W hf hl (h.below hW).fn (h.below hW).f0 (h.below hW).f1 (h.below hW).f2 (h.below hW).s).2)
theorem same_types (gt gt' : Nat) (l l' : List Int) (p p' : Option Addr) (n c n' c' : Nat) (w : World) (hg : gt < w.heap.size) (hg' : gt' < w.heap.size) (h0 : w.cell? ⟨gt,0,none⟩ = some (.slice p n c)) (h1 : w.cell? ⟨gt,1,none⟩ = some (.slice none 0 0)) (hl : LI w.heap.size w (.slice p n c) l)
  (h0' : w.cell? ⟨gt',0,none⟩ = some (.slice p' n' c')) (h1' : w.cell? ⟨gt',1,none⟩ = some (.slice none 0 0)) (hl' : LI w.heap.size w (.slice p' n' c') l') :
  Calls Tryz.prog 78 #[.slice (some ⟨gt,0,none⟩) 1 1,.slice (some ⟨gt',0,none⟩) 1 1,.func (.func 79) #[] #[]] w fun e w' => e = .returned (.bool (l == l')) ∧ Below w.heap.size w w' :=
 eqf_ft 79 (fun _ _ => rfl) (l == l') gt gt' 1 1 p n c none 0 0 p' n' c' none 0 0 w hg hg' ⟨h0,h1⟩ ⟨h0',h1'⟩ fun W hW =>
  sameT p p' n c n' c' (l == l') W fun W' hW' => eq_int l l' _ _ w.heap.size W' (hl.below (hW.trans (hW'.mono hW.size))) (hl'.below (hW.trans (hW'.mono hW.size))) (Nat.le_trans hW.size hW'.size)
theorem same_nops (r r' : Nat) (w : World) (hr : r < w.heap.size) (hr' : r' < w.heap.size) (h : InsAt w r 1 (.slice none 0 0)) (h' : InsAt w r' 1 (.slice none 0 0)) :
  Calls Tryz.prog 164 #[.slice (some ⟨r,0,none⟩) 1 1,.slice (some ⟨r',0,none⟩) 1 1] w fun e w' => e = .returned (.bool true) ∧ Below w.heap.size w w' :=
 sameCode_of _ _ true w (eqf_ins 225 (fun _ _ => rfl) true r r' 1 1 1 0 0 0 0 none 0 0 none 0 0 none 0 0 false 1 0 0 0 0 none 0 0 none 0 0 none 0 0 false w hr hr' h h' fun W hW =>
  sameI 1 none none 0 0 0 0 true W fun W' _ => (sameCode_nil W').mono (by rintro e w' ⟨rfl,rfl⟩; exact ⟨rfl,Below.refl _ _⟩))
theorem same_blks (r b r' b' : Nat) (w : World) (hr : r < w.heap.size) (hr' : r' < w.heap.size) (hb : b < w.heap.size) (hb' : b' < w.heap.size) (h : InsAt w r 2 (.slice (some ⟨b,0,none⟩) 1 1)) (h' : InsAt w r' 2 (.slice (some ⟨b',0,none⟩) 1 1)) (k : InsAt w b 1 (.slice none 0 0)) (k' : InsAt w b' 1 (.slice none 0 0)) :
  Calls Tryz.prog 164 #[.slice (some ⟨r,0,none⟩) 1 1,.slice (some ⟨r',0,none⟩) 1 1] w fun e w' => e = .returned (.bool true) ∧ Below w.heap.size w w' :=
 sameCode_of _ _ true w (eqf_ins 225 (fun _ _ => rfl) true r r' 1 1 2 0 0 0 0 none 0 0 (some ⟨b,0,none⟩) 1 1 none 0 0 false 2 0 0 0 0 none 0 0 (some ⟨b',0,none⟩) 1 1 none 0 0 false w hr hr' h h' fun W hW =>
  sameI 2 (some ⟨b,0,none⟩) (some ⟨b',0,none⟩) 1 1 1 1 true W fun W' hW' =>
   have hw := hW.trans (hW'.mono hW.size)
   same_nops b b' W' (Nat.lt_of_lt_of_le hb hw.size) (Nat.lt_of_lt_of_le hb' hw.size) (k.below hw hb) (k'.below hw hb'))
theorem same_fns (g r b g' r' b' : Nat) (w : World) (hg : g < w.heap.size) (hg' : g' < w.heap.size) (hr : r < w.heap.size) (hr' : r' < w.heap.size) (hb : b < w.heap.size) (hb' : b' < w.heap.size)
  (f0 : w.cell? ⟨g,0,none⟩ = some (.int .i64 0)) (f1 : w.cell? ⟨g,1,none⟩ = some (.slice none 0 0)) (f2 : w.cell? ⟨g,2,none⟩ = some (.slice (some ⟨r,0,none⟩) 1 1))
  (f0' : w.cell? ⟨g',0,none⟩ = some (.int .i64 0)) (f1' : w.cell? ⟨g',1,none⟩ = some (.slice none 0 0)) (f2' : w.cell? ⟨g',2,none⟩ = some (.slice (some ⟨r',0,none⟩) 1 1))
  (h : InsAt w r 2 (.slice (some ⟨b,0,none⟩) 1 1)) (h' : InsAt w r' 2 (.slice (some ⟨b',0,none⟩) 1 1)) (k : InsAt w b 1 (.slice none 0 0)) (k' : InsAt w b' 1 (.slice none 0 0)) :
  Calls Tryz.prog 81 #[.slice (some ⟨g,0,none⟩) 1 1,.slice (some ⟨g',0,none⟩) 1 1,.func (.func 82) #[] #[]] w fun e w' => e = .returned (.bool true) ∧ Below w.heap.size w w' :=
 eqf_code 82 (fun _ _ => rfl) true g g' 1 1 0 none 0 0 (some ⟨r,0,none⟩) 1 1 0 none 0 0 (some ⟨r',0,none⟩) 1 1 w hg hg' ⟨f0,f1,f2⟩ ⟨f0',f1',f2'⟩ fun W hW =>
  sameF (some ⟨r,0,none⟩) (some ⟨r',0,none⟩) 1 1 1 1 true W fun W' hW' =>
   have hw := hW.trans (hW'.mono hW.size)
   same_blks r b r' b' W' (Nat.lt_of_lt_of_le hr hw.size) (Nat.lt_of_lt_of_le hr' hw.size) (Nat.lt_of_lt_of_le hb hw.size) (Nat.lt_of_lt_of_le hb' hw.size) (h.below hw hr) (h'.below hw hr') (k.below hw hb) (k'.below hw hb')
end Go.Proofs.YtjgeedgphcjhoaaGreat
