/-
  Ops1, Fo, LBase, LNums, LWrites, LRefs, EMath: merged, what the law does not reach left out (each text says what it holds where it lies in wip). No condition.
-/
import Derived.Test.YtjgeedgphcjhoaaGreatC01
import Derived.OwnWalk
import Derived.Test.YtjgeedgphcjhoaaGreatProg
import Derived.WalkKit
import Derived.WalkSpells
import Derived.WalkLawsBesides
import Derived.Lib.UnsafeStr
import Derived.Laws.AppendOwnNone
import Derived.Laws.BitsLemmas
import Derived.Laws.Bits64
import Derived.Laws.Bits64b
import Derived.Lib.AppendStr
set_option linter.unusedSimpArgs false
set_option linter.unusedVariables false
set_option maxRecDepth 100000
namespace Go.Proofs.YtjgeedgphcjhoaaGreat
open Go.RowKit
def glob0 : List Int := [2,3,2,3,0,0,1,1,0,0,1,1,2,2,2,3,2,3,0,1,0,1,2]
def glob1 : List Int := [4,3,3,3,3,3,3,0,1,2,3,4]
def glob2 : List Int := [0,1,2,3,0,1,2,3,2,3]
def glob3 : List Int := [16,16,16,8,8,8,4,4,2,2,4,4,2,2]
def glob5 : List Int := [0,0,0,0,0,0,127,0,0,126,0,0,125,0,0,124,0,0,123,0,0,112,0,0,127,127,0,127,126,0,127,125,0,127,124,0,127,123,0,126,126,0,125,125,0,124,124,0,123,127,0,123,126,0,123,125,0,123,124,0,123,123,0,127,127,127,123,123,123]
/-- Five tables lie in the first six blocks. -/
structure Glob (w : World) : Prop where
 size : 6 ≤ w.heap.size
 c0 : ∀ j,j < 23 → w.cell? ⟨3,j,none⟩ = some (.int .i64 (glob0.getD j 0))
 c1 : ∀ j,j < 12 → w.cell? ⟨4,j,none⟩ = some (.int .i64 (glob1.getD j 0))
 c2 : ∀ j,j < 10 → w.cell? ⟨5,j,none⟩ = some (.int .i64 (glob2.getD j 0))
 c3 : ∀ j,j < 14 → w.cell? ⟨2,j,none⟩ = some (.int .i64 (glob3.getD j 0))
 c5 : ∀ j,j < 69 → w.cell? ⟨0,j,none⟩ = some (.int .i64 (glob5.getD j 0))
theorem Glob.below {B : Nat} {w w' : World} (h : Glob w) (hb : Below B w w') (hB : 6 ≤ B) : Glob w' where
 size := Nat.le_trans h.size hb.size
 c0 j hj := by rw [hb.cell (p := ⟨3,j,none⟩) (show 3 < B by omega),h.c0 j hj]
 c1 j hj := by rw [hb.cell (p := ⟨4,j,none⟩) (show 4 < B by omega),h.c1 j hj]
 c2 j hj := by rw [hb.cell (p := ⟨5,j,none⟩) (show 5 < B by omega),h.c2 j hj]
 c3 j hj := by rw [hb.cell (p := ⟨2,j,none⟩) (show 2 < B by omega),h.c3 j hj]
 c5 j hj := by rw [hb.cell (p := ⟨0,j,none⟩) (show 0 < B by omega),h.c5 j hj]
theorem Glob.next {w w' : World} (h : Glob w) (hb : Below w.heap.size w w') : Glob w' := h.below hb h.size
/-- The numbers that may be an instruction's. -/
def rangeOps : List Int := (List.range 211).map (fun k : Nat => (k : Int)) ++ (List.range 18).map (fun k : Nat => 64512 + (k : Int)) ++ (List.range 256).map (fun k : Nat => 64768 + (k : Int))
theorem mem_rangeOps (op : Int) : op ∈ rangeOps ↔ (0 ≤ op ∧ op < 211) ∨ (64512 ≤ op ∧ op < 64530) ∨ (64768 ≤ op ∧ op < 65024) := by
 unfold rangeOps
 simp only [List.mem_append,List.mem_map,List.mem_range]
 constructor
 ·rintro ((⟨k,hk,rfl⟩ | ⟨k,hk,rfl⟩) | ⟨k,hk,rfl⟩) <;> omega
 ·rintro (⟨h0,h1⟩ | ⟨h0,h1⟩ | ⟨h0,h1⟩)
  ·exact .inl (.inl ⟨op.toNat,by omega,by omega⟩)
  ·exact .inl (.inr ⟨(op - 64512).toNat,by omega,by omega⟩)
  ·exact .inr ⟨(op - 64768).toNat,by omega,by omega⟩
theorem lineL_out (op : Int) (h : ¬ op ∈ rangeOps) : lineL op = ln0 := by
 rw [mem_rangeOps] at h
 unfold lineL
 by_cases c0 : op < 0
 ·rw [if_pos c0]
 rw [if_neg c0,if_neg (by omega),if_neg (by omega),if_neg (by omega)]
def okLn (r : Ln) : Bool := decide (0 ≤ r.2.1) && decide (r.2.1 ≤ 26) && decide (0 ≤ r.2.2.1) && decide (r.2.2.1 < 23) && decide (0 ≤ r.2.2.2) && decide (r.2.2.2 < 23)
theorem all_ok : (rangeOps.all fun op => okLn (lineL op)) = true := by kernel_rfl
theorem line_ok (op : Int) : 0 ≤ (lineL op).2.1 ∧ (lineL op).2.1 ≤ 26 ∧ 0 ≤ (lineL op).2.2.1 ∧ (lineL op).2.2.1 < 23 ∧ 0 ≤ (lineL op).2.2.2 ∧ (lineL op).2.2.2 < 23 := by
 have h : okLn (lineL op) = true := by
  by_cases hin : op ∈ rangeOps
  ·exact List.all_eq_true.1 all_ok op hin
  ·rw [lineL_out op hin]; rfl
 unfold okLn at h
 simp only [Bool.and_eq_true,decide_eq_true_eq] at h
 omega
/-- Is there such an instruction? -/
def knB (r : Ln) : Bool := !r.1.toList.isEmpty
def fxB (r : Ln) : Bool := r.2.2.1 != 0
theorem known_says (r : Ln) (w : World) : Calls Tryz.prog 249 #[lnV r] w fun e w' => e = .returned (.bool (knB r)) ∧ Below w.heap.size w w' := by
 obtain ⟨s,a,b,c⟩ := r
 show Calls Tryz.prog 249 #[.agg #[.string s,.int .u8 a,.int .u8 b,.int .u8 c]] w fun e w' => e = .returned (.bool (!s.toList.isEmpty)) ∧ Below w.heap.size w w'
 go_enter Tryz.func249,Tryz.ntmps249
 go_wp2
 go_ret
 exact ⟨rfl,(Below.refl _ _).alloc (Nat.le_refl _) _⟩
theorem run_imm (r : Ln) (w : World) : (Instr.field 215 (lnV r) 1).run Tryz.prog w = .ok (.int .u8 r.2.1) w := by kernel_rfl
theorem Known_says (op : Int) (w : World) : Calls Tryz.prog 233 #[.int .i64 op] w fun e w' => e = .returned (.bool (knB (lineL op))) ∧ Below w.heap.size w w' := by
 obtain ⟨r,hr⟩ : ∃ r,r = lineL op := ⟨_,rfl⟩
 have H := fun W => hid (line_says op W)
 have HK := fun W => hid (known_says r W)
 rw [← hr] at H ⊢
 clear hr
 obtain ⟨b,hb0⟩ : ∃ b,b = knB r := ⟨_,rfl⟩
 rw [← hb0] at HK ⊢
 clear hb0
 obtain ⟨v,hv⟩ : ∃ v,v = lnV r := ⟨_,rfl⟩
 rw [← hv] at H HK
 clear hv
 go_enter Tryz.func233,Tryz.ntmps233
 go_wp2_with (first | (go_at_call 215; refine (H _).out.mono ?_; rintro e w1 ⟨rfl,hb⟩) | (go_at_call 249; refine (HK _).out.mono ?_; rintro e w2 ⟨rfl,hb2⟩))
 go_ret
 exact ⟨rfl,hb.trans (hb2.mono hb.size)⟩
theorem Imm_says (op : Int) (w : World) : Calls Tryz.prog 152 #[.int .i64 op] w fun e w' => e = .returned (.int .i64 (lineL op).2.1) ∧ Below w.heap.size w w' := by
 obtain ⟨h0,h1,_⟩ := line_ok op
 obtain ⟨r,hr⟩ : ∃ r,r = lineL op := ⟨_,rfl⟩
 have H := fun W => hid (line_says op W)
 have HF := run_imm r
 rw [← hr] at H h0 h1 ⊢
 clear hr
 obtain ⟨v,hv⟩ : ∃ v,v = lnV r := ⟨_,rfl⟩
 rw [← hv] at H HF
 clear hv
 go_enter Tryz.func152,Tryz.ntmps152
 go_wp2_with (go_at_call 215; refine (H _).out.mono ?_; rintro e w1 ⟨rfl,hb⟩)
 go_ret
 exact ⟨rfl,hb⟩
end Go.Proofs.YtjgeedgphcjhoaaGreat
namespace Go.Proofs.YtjgeedgphcjhoaaGreat
open Go.RowKit
/-- Block g holds these cells. -/
def CA (g : Nat) (cs : Array Value) (T : TypeId) (W : World) : Prop := W.heap[g]? = some (.cells cs T (0,0))
theorem CA.lt {g : Nat} {cs : Array Value} {T : TypeId} {W : World} (h : CA g cs T W) : g < W.heap.size := (Array.getElem?_eq_some_iff.1 h).1
theorem CA.new (w : World) (cs : Array Value) (T : TypeId) : CA w.heap.size cs T (w.alloc (.cells cs T)) := by
 show (w.heap.push _)[w.heap.size]? = _
 simp
theorem CA.at {g k : Nat} {cs : Array Value} {T : TypeId} {W : World} {v : Value} (h : CA g cs T W) (hk : cs[k]? = some v) : W.cell? ⟨g,k,none⟩ = some v := by
 unfold CA at h
 rw [World.cell?,h]
 simp [hk]
theorem CA.free {g : Nat} {cs : Array Value} {T : TypeId} {W : World} (h : CA g cs T W) (k : Nat) : W.frozen? ⟨g,k,none⟩ = false := by
 unfold CA at h
 rw [World.frozen?,h]
 simp
theorem CA.set {g k : Nat} {cs : Array Value} {T : TypeId} {W : World} (h : CA g cs T W) (v : Value) : CA g (cs.setIfInBounds k v) T (W.setCell ⟨g,k,none⟩ v) := by
 unfold CA at h ⊢
 rw [World.setCell,Array.getElem?_modify,if_pos rfl,h]
 rfl
theorem CA.below {g B : Nat} {cs : Array Value} {T : TypeId} {W W' : World} (h : CA g cs T W) (hb : Below B W W') (hg : g < B) : CA g cs T W' := by
 unfold CA at h ⊢
 rw [hb.block g hg,h]
theorem CA.alloc {g : Nat} {cs : Array Value} {T : TypeId} {W : World} (h : CA g cs T W) (o : Obj) : CA g cs T (W.alloc o) := h.below ((Below.refl _ _).alloc (Nat.le_refl _) o) h.lt
theorem size_al (w : World) (o : Obj) : (w.alloc o).heap.size = w.heap.size + 1 := by simp
/-- All blocks stay but perhaps one. -/
structure KP (c : Option Nat) (w w' : World) : Prop where
 os : w'.os = w.os
 tape : w'.tape = w.tape
 output : w'.output = w.output
 size : w.heap.size ≤ w'.heap.size
 block : ∀ k,k < w.heap.size → c ≠ some k → w'.heap[k]? = w.heap[k]?
theorem KP.refl (c : Option Nat) (w : World) : KP c w w := ⟨rfl,rfl,rfl,Nat.le_refl _,fun _ _ _ => rfl⟩
theorem KP.trans {c : Option Nat} {a b w : World} (h : KP c a b) (k : KP c b w) : KP c a w :=
 ⟨k.os.trans h.os,k.tape.trans h.tape,k.output.trans h.output,Nat.le_trans h.size k.size,fun i hi hc => (k.block i (Nat.lt_of_lt_of_le hi h.size) hc).trans (h.block i hi hc)⟩
theorem KP.of {c : Option Nat} {w w' : World} (h : Below w.heap.size w w') : KP c w w' := ⟨h.os,h.tape,h.output,h.size,fun k hk _ => h.block k hk⟩
theorem KP.pure {w w' : World} (h : KP none w w') : Below w.heap.size w w' := ⟨h.os,h.tape,h.output,h.size,fun k hk => h.block k hk (by simp)⟩
theorem KP.alloc {c : Option Nat} {a w : World} (h : KP c a w) (o : Obj) : KP c a (w.alloc o) := h.trans (KP.of ((Below.refl _ _).alloc (Nat.le_refl _) o))
theorem KP.below {c : Option Nat} {w w' : World} {B : Nat} (h : KP c w w') (hB : B ≤ w.heap.size) (hc : ∀ k,c = some k → B ≤ k) : Below B w w' :=
 ⟨h.os,h.tape,h.output,h.size,fun k hk => h.block k (by omega) (fun e => by have := hc k e; omega)⟩
theorem CA.keep {g : Nat} {cs : Array Value} {T : TypeId} {W W' : World} {c : Option Nat} (h : CA g cs T W) (hb : KP c W W') (hg : c ≠ some g) : CA g cs T W' := by
 have hl := h.lt
 unfold CA at h ⊢
 rw [hb.block g hl hg,h]
/-- Instructions in a row, with those nested in each. -/
inductive Fo where
 | nil : Fo
 | cons (op a b : Int) (n h : Nat) (l : List Int) (ot : Bool) (body els rest : Fo) : Fo
def Fo.len : Fo → Nat
 | .nil => 0
 | .cons _ _ _ _ _ _ _ _ _ r => r.len + 1
/-- How many there are. -/
def Fo.cnt : Fo → Nat
 | .nil => 0
 | .cons _ _ _ _ _ _ _ b e r => b.cnt + e.cnt + r.cnt + 1
/-- How deep they are nested. -/
def Fo.nst : Fo → Nat
 | .nil => 0
 | .cons _ _ _ _ _ _ _ b e r => max (max b.nst e.nst + 1) r.nst
/-- A slice of integers, below block B. -/
def LI (B : Nat) (w : World) (v : Value) (l : List Int) : Prop := ∃ p c,v = .slice p l.length c ∧ l.length < 9223372036854775807 ∧ (l ≠ [] → ∃ g o,p = some ⟨g,o,none⟩ ∧ g < B ∧ ∀ j x,l[j]? = some x → w.cell? ⟨g,o + j,none⟩ = some (.int .i64 x))
theorem LI.below {B : Nat} {w w' : World} {v : Value} {l : List Int} (h : LI B w v l) (hb : Below B w w') : LI B w' v l := by
 obtain ⟨p,c,rfl,hq,h⟩ := h
 refine ⟨p,c,rfl,hq,fun hn => ?_⟩
 obtain ⟨g,o,rfl,hg,hc⟩ := h hn
 exact ⟨g,o,rfl,hg,fun j x hj => by rw [hb.cell (p := ⟨g,o + j,none⟩) hg]; exact hc j x hj⟩
theorem LI.mono {B B' : Nat} {w : World} {v : Value} {l : List Int} (h : LI B w v l) (hb : B ≤ B') : LI B' w v l := by
 obtain ⟨p,c,rfl,hq,h⟩ := h
 refine ⟨p,c,rfl,hq,fun hn => ?_⟩
 obtain ⟨g,o,rfl,hg,hc⟩ := h hn
 exact ⟨g,o,rfl,Nat.lt_of_lt_of_le hg hb,hc⟩
/-- Instructions from a place of a block on, below block B. -/
def FA (B : Nat) (w : World) : Fo → Nat → Nat → Prop
 | .nil,_,_ => True
 | .cons op a b n h l ot body els rest,g,o => g < B ∧ (∃ vl vb ve,
   w.cell? ⟨g,o,none⟩ = some (.int .i64 op) ∧ w.cell? ⟨g,o + 1,none⟩ = some (.int .i64 a) ∧ w.cell? ⟨g,o + 2,none⟩ = some (.int .i64 b) ∧
   w.cell? ⟨g,o + 3,none⟩ = some (.int .u64 (n : Nat)) ∧ w.cell? ⟨g,o + 4,none⟩ = some (.int .u64 (h : Nat)) ∧ w.cell? ⟨g,o + 5,none⟩ = some vl ∧
   w.cell? ⟨g,o + 6,none⟩ = some vb ∧ w.cell? ⟨g,o + 7,none⟩ = some ve ∧ w.cell? ⟨g,o + 8,none⟩ = some (.bool ot) ∧ LI B w vl l ∧
   (∃ p c g' o',vb = .slice p body.len c ∧ (body.len ≠ 0 → p = some ⟨g',o',none⟩) ∧ FA B w body g' o') ∧
   (∃ p c g' o',ve = .slice p els.len c ∧ (els.len ≠ 0 → p = some ⟨g',o',none⟩) ∧ FA B w els g' o')) ∧ FA B w rest g (o + 9)
/-- A slice of instructions. -/
def SA (B : Nat) (w : World) (v : Value) (f : Fo) : Prop := ∃ p c g' o',v = .slice p f.len c ∧ (f.len ≠ 0 → p = some ⟨g',o',none⟩) ∧ FA B w f g' o'
theorem FA.below {B : Nat} {w w' : World} (hb : Below B w w') : ∀ (f : Fo) (g o : Nat),FA B w f g o → FA B w' f g o := by
 intro f
 induction f with
 | nil => intro g o h; trivial
 | cons op a b n h l ot body els rest ihb ihe ihr =>
  rintro g o ⟨hg,⟨vl,vb,ve,h0,h1,h2,h3,h4,h5,h6,h7,h8,hl,⟨p,c,g',o',e1,e2,e3⟩,⟨p2,c2,g2,o2,f1,f2,f3⟩⟩,hr⟩
  have hc : ∀ k,w'.cell? ⟨g,k,none⟩ = w.cell? ⟨g,k,none⟩ := fun k => hb.cell (p := ⟨g,k,none⟩) hg
  exact ⟨hg,⟨vl,vb,ve,by rw [hc,h0],by rw [hc,h1],by rw [hc,h2],by rw [hc,h3],by rw [hc,h4],by rw [hc,h5],by rw [hc,h6],by rw [hc,h7],by rw [hc,h8],hl.below hb,⟨p,c,g',o',e1,e2,ihb _ _ e3⟩,⟨p2,c2,g2,o2,f1,f2,ihe _ _ f3⟩⟩,ihr _ _ hr⟩
theorem FA.mono {B B' : Nat} {w : World} (hb : B ≤ B') : ∀ (f : Fo) (g o : Nat),FA B w f g o → FA B' w f g o := by
 intro f
 induction f with
 | nil => intro g o h; trivial
 | cons op a b n h l ot body els rest ihb ihe ihr =>
  rintro g o ⟨hg,⟨vl,vb,ve,h0,h1,h2,h3,h4,h5,h6,h7,h8,hl,⟨p,c,g',o',e1,e2,e3⟩,⟨p2,c2,g2,o2,f1,f2,f3⟩⟩,hr⟩
  exact ⟨Nat.lt_of_lt_of_le hg hb,⟨vl,vb,ve,h0,h1,h2,h3,h4,h5,h6,h7,h8,hl.mono hb,⟨p,c,g',o',e1,e2,ihb _ _ e3⟩,⟨p2,c2,g2,o2,f1,f2,ihe _ _ f3⟩⟩,ihr _ _ hr⟩
theorem SA.below {B : Nat} {w w' : World} {v : Value} {f : Fo} (h : SA B w v f) (hb : Below B w w') : SA B w' v f := by
 obtain ⟨p,c,g,o,e1,e2,e3⟩ := h
 exact ⟨p,c,g,o,e1,e2,FA.below hb _ _ _ e3⟩
theorem SA.mono {B B' : Nat} {w : World} {v : Value} {f : Fo} (h : SA B w v f) (hb : B ≤ B') : SA B' w v f := by
 obtain ⟨p,c,g,o,e1,e2,e3⟩ := h
 exact ⟨p,c,g,o,e1,e2,FA.mono hb _ _ _ e3⟩
theorem SA.nil (B : Nat) (w : World) (p : Option Addr) (c : Nat) : SA B w (.slice p 0 c) .nil := ⟨p,c,0,0,rfl,fun h => absurd rfl h,trivial⟩
theorem LI.nil (B : Nat) (w : World) (p : Option Addr) (c : Nat) : LI B w (.slice p 0 c) [] := ⟨p,c,rfl,by decide,fun h => absurd rfl h⟩
/-- What is asked of all instructions, one behind the other, those nested in one behind it: the answer, and what has come of the asking. -/
def evF {σ : Type} (st : σ → Int → Int → Int → Int → Nat → Nat → List Int → Bool → Fo → Fo → Bool × σ) : Fo → Int → σ → Bool × σ
 | .nil,_,s => (true,s)
 | .cons op a b n h l ot body els rest,d,s =>
  if (st s d op a b n h l ot body els).1 = true then
   if (evF st body (d + 1) (st s d op a b n h l ot body els).2).1 = true then
    if (evF st els (d + 1) (evF st body (d + 1) (st s d op a b n h l ot body els).2).2).1 = true then
     evF st rest d (evF st els (d + 1) (evF st body (d + 1) (st s d op a b n h l ot body els).2).2).2
    else (false,(evF st els (d + 1) (evF st body (d + 1) (st s d op a b n h l ot body els).2).2).2)
   else (false,(evF st body (d + 1) (st s d op a b n h l ot body els).2).2)
  else (false,(st s d op a b n h l ot body els).2)
end Go.Proofs.YtjgeedgphcjhoaaGreat
namespace Go.Proofs.YtjgeedgphcjhoaaGreat
open Go.RowKit
theorem info5 : (Tryz.prog.info? 5).map (fun i => (i.zero,i.size,i.bytes)) = some (some (.int .u8 0),1,1) := by kernel_rfl
/-- The value v reads as the bytes l, all of whose cells lie below block B. -/
def BytesAt (B : Nat) (w : World) (v : Value) (l : List UInt8) : Prop :=
 (v = .slice none 0 0 ∧ l = []) ∨
 ∃ g off cap,v = .slice (some ⟨g,off,none⟩) l.length cap ∧ g < B ∧ l.length ≤ cap ∧ (cap ≤ 9223372036854775807 ∧ l.length ≤ 140737488351232) ∧
  ∀ j u,l[j]? = some u → w.cell? ⟨g,off + j,none⟩ = some (.int .u8 u.toNat)
theorem BytesAt.mono {B B' : Nat} {w : World} {v : Value} {l : List UInt8} (h : BytesAt B w v l) (hB : B ≤ B') : BytesAt B' w v l := by
 rcases h with h | ⟨g,off,cap,h1,h2,h3⟩
 ·exact .inl h
 ·exact .inr ⟨g,off,cap,h1,by omega,h3⟩
theorem BytesAt.below {B : Nat} {w w' : World} {v : Value} {l : List UInt8} (h : BytesAt B w v l) (hb : Below B w w') : BytesAt B w' v l := by
 rcases h with h | ⟨g,off,cap,h1,h2,h3,h4,h5⟩
 ·exact .inl h
 ·exact .inr ⟨g,off,cap,h1,h2,h3,h4,fun j u hj => by rw [hb.cell (p := ⟨g,off + j,none⟩) h2]; exact h5 j u hj⟩
theorem byteCells_one (l : List UInt8) : ∀ u ∈ Lib.byteCells l,u.oneCell' = true := by
 intro u hu
 simp only [Lib.byteCells,List.mem_map] at hu
 obtain ⟨b,_,rfl⟩ := hu
 rfl
theorem addr_add (g off j : Nat) : (⟨g,off,none⟩ : Addr).add j = ⟨g,off + j,none⟩ := by unfold Addr.add; split <;> simp_all
theorem cells_of_bytes {w : World} {g off : Nat} {l : List UInt8} (h : ∀ j u,l[j]? = some u → w.cell? ⟨g,off + j,none⟩ = some (.int .u8 u.toNat)) :
  ∀ j u,(Lib.byteCells l)[j]? = some u → w.cell? ((⟨g,off,none⟩ : Addr).add j) = some u := by
 intro j u hj
 rw [addr_add]
 simp only [Lib.byteCells,List.getElem?_map,Option.map_eq_some_iff] at hj
 obtain ⟨b,hb,rfl⟩ := hj
 exact h j b hb
set_option maxHeartbeats 400000 in
/-- copied: the bytes in new memory. -/
theorem copied_any (B : Nat) (v : Value) (l : List UInt8) (m : Nat) (w : World) (hv : BytesAt B w v l) (hB : B ≤ w.heap.size) (hm : m ≤ 100) (hl : l.length + 100 ≤ 140737488355328) :
  Calls Tryz.prog 229 #[v,.int .i64 m] w fun e w' => ∃ v',e = .returned v' ∧ w'.ownsRow w.heap.size 5 1 v' l.length (Lib.byteCells l) ∧ Below w.heap.size w w' := by
 obtain ⟨i0,hi,hz0,hz1,hz2⟩ := info_parts info5
 have hbl := Lib.byteCells_length l
 rcases hv with ⟨rfl,rfl⟩ | ⟨g,off,cap,rfl,hg,hlc,hc,hcell⟩
 ·go_enter Tryz.func229,Tryz.ntmps229
  go_wp2_with (first
   | (at_make; refine wpList_make_own _ rfl _ _ 52 rfl w.heap.size 5 i0 (.int .u8 0) 1 Tryz.underlying52 hi hz0 hz1 .i64 .i64 _ m rfl rfl (by omega) (by rw [hz2]; omega) (by unfold maxLen; omega) (Nat.le_refl _) ?_; intro w1 hown1 hgrow1)
   | (at_builtin; refine wpList_append_own_none rfl _ _ 52 rfl w.heap.size 5 i0 1 Tryz.underlying52 hi _ _ _ rfl hown1 rfl ?_))
  go_ret
  exact ⟨_,rfl,hown1,(Below.refl _ _).grown hgrow1 (Nat.le_refl _) (fun k hk => by cases hk)⟩
 ·go_enter Tryz.func229,Tryz.ntmps229
  go_wp2_with (first
   | (at_make; refine wpList_make_own _ rfl _ _ 52 rfl w.heap.size 5 i0 (.int .u8 0) 1 Tryz.underlying52 hi hz0 hz1 .i64 .i64 _ (l.length + m) rfl rfl (by omega) (by rw [hz2]; omega) (by unfold maxLen; omega) (Nat.le_refl _) ?_; intro w1 hown1 hgrow1)
   | (at_builtin; refine wpList_append_own _ rfl _ _ 52 rfl w.heap.size 5 i0 (.int .u8 0) 1 1 Tryz.underlying52 hi hz0 hz1 hz2 rfl (by decide) _ _ _ rfl hown1 ⟨g,off,none⟩ l.length cap (Lib.byteCells l) rfl (by rw [hbl]; omega) ?c1 (byteCells_one l) ?c3 ?c4 ?c5 ?_))
  case c1 => exact cells_of_bytes fun j u hj => by rw [World.cell?_of_block (hgrow1.block g (by omega) (by simp))]; exact hcell j u hj
  case c3 => unfold maxLen; omega
  case c4 => omega
  case c5 => exact hgrow1.size
  intro v' w2 hown2 hgrow2 _
  go_wp2
  go_ret
  refine ⟨v',rfl,hown2,((Below.refl _ _).grown hgrow1 (Nat.le_refl _) (fun k hk => by cases hk)).grown hgrow2 hgrow1.size (fun k hk => (hown1.lt k hk).1)⟩
/-- One byte appended to what the call owns: 'out = append(out, x)'. -/
theorem append_byte {w : World} {ops : Array Oper} {rest : List Oper} {o : Oper} {a : Act} {Q : Exit → Act → World → Prop} (hgd : o.guard = none) (s x : Operand)
  (ho : o.op = .call { callee := .builtin .append,args := #[s,x],argTypes := #[52,52] }) (W : World) (base : Nat) (v : Value) (n : Nat) (xs : List Value) (q : Int)
  (hown : w.ownsRow base 5 1 v n xs) (hb : Below base W w) (hbase : base ≤ w.heap.size) (hn : n + 1 ≤ 140737488355328) (hs : a.eval s = v) (hx : a.eval x = .slice (some ⟨w.heap.size,0,none⟩) 1 1)
  (h : ∀ v' w',w'.ownsRow base 5 1 v' (n + 1) (xs ++ [.int .u8 q]) → Below base W w' → base ≤ w'.heap.size → wpList Tryz.prog ops Q rest (a.put o.dst v') w') :
  wpList Tryz.prog ops Q (o :: rest) a (w.alloc (.cells #[.int .u8 q] 5)) := by
 obtain ⟨i0,hi,hz0,hz1,hz2⟩ := info_parts info5
 have hb1 := hb.alloc hbase (.cells #[.int .u8 q] 5)
 refine wpList_append_own _ hgd s x 52 ho base 5 i0 (.int .u8 0) 1 1 Tryz.underlying52 hi hz0 hz1 hz2 rfl (by decide) v n xs hs (hown.alloc _) ⟨w.heap.size,0,none⟩ 1 1 [.int .u8 q] hx rfl (cell_one_new _ _ _)
  (fun u hu => by simp at hu; subst hu; rfl) (by unfold maxLen; omega) (by omega) (by simp; omega) ?_
 intro v' w1 hown' hgrow _
 have hb2 := hb1.grown hgrow (by simp; omega) (fun k hk => (hown.lt k hk).1)
 exact h v' w1 hown' hb2 (by have := hgrow.size; simp at this; omega)
theorem BytesAt.len {B : Nat} {w : World} {v : Value} {l : List UInt8} (h : BytesAt B w v l) : l.length ≤ 140737488351232 := by
 rcases h with ⟨_,rfl⟩ | ⟨_,_,_,_,_,_,h,_⟩
 ·simp
 ·exact h.2
theorem ownsRow_mono {w : World} {base base' : Nat} {e : TypeId} {size : Nat} {v : Value} {n : Nat} {xs : List Value} (h : w.ownsRow base e size v n xs) (hb : base' ≤ base) : w.ownsRow base' e size v n xs := by
 refine ⟨h.1,?_⟩
 rcases h.2 with h | ⟨g,cap,cur,h1,h2,h3⟩
 ·exact .inl h
 ·exact .inr ⟨g,cap,cur,h1,by omega,h3⟩
/-- What the call owns reads as those bytes. -/
theorem bytes_of_owned {w : World} {base : Nat} {v : Value} {l : List UInt8} (h : w.ownsRow base 5 1 v l.length (Lib.byteCells l)) (hl : l.length ≤ 140737488351232) : BytesAt w.heap.size w v l := by
 rcases h.2 with ⟨h1,h2⟩ | ⟨g,cap,cur,rfl,h2,h3,h4,h5,h6,h7⟩
 ·exact .inl ⟨h1,List.eq_nil_of_length_eq_zero h2⟩
 ·refine .inr ⟨g,0,cap,rfl,(Array.getElem?_eq_some_iff.1 h3).1,h4,⟨by unfold maxLen at h5; omega,hl⟩,fun j u hj => ?_⟩
  have hlt : j < l.length := by
   rcases Nat.lt_or_ge j l.length with h | h
   ·exact h
   ·rw [List.getElem?_eq_none h] at hj; cases hj
  rw [Nat.zero_add,h.cellAt j (by omega)]
  simp only [Lib.byteCells,List.getElem?_map,hj,Option.map_some]
/-- As BytesAt; or no byte at whatever address. -/
def BytesIn (B : Nat) (w : World) (v : Value) (l : List UInt8) : Prop := BytesAt B w v l ∨ ∃ x c,v = .slice (some x) 0 c ∧ l = []
theorem BytesIn.below {B : Nat} {w w' : World} {v : Value} {l : List UInt8} (h : BytesIn B w v l) (hb : Below B w w') : BytesIn B w' v l := h.imp (fun h => h.below hb) (fun h => h)
theorem BytesIn.mono {B B' : Nat} {w : World} {v : Value} {l : List UInt8} (h : BytesIn B w v l) (hB : B ≤ B') : BytesIn B' w v l := h.imp (fun h => h.mono hB) (fun h => h)
theorem BytesIn.len {B : Nat} {w : World} {v : Value} {l : List UInt8} (h : BytesIn B w v l) : l.length ≤ 140737488351232 := by
 rcases h with h | ⟨_,_,_,rfl⟩
 ·exact h.len
 ·simp
set_option maxHeartbeats 400000 in
theorem copied_in (B : Nat) (v : Value) (l : List UInt8) (m : Nat) (w : World) (hv : BytesIn B w v l) (hB : B ≤ w.heap.size) (hm : m ≤ 100) (hl : l.length + 100 ≤ 140737488355328) :
  Calls Tryz.prog 229 #[v,.int .i64 m] w fun e w' => ∃ v',e = .returned v' ∧ w'.ownsRow w.heap.size 5 1 v' l.length (Lib.byteCells l) ∧ Below w.heap.size w w' := by
 rcases hv with hv | ⟨x,cap,rfl,rfl⟩
 ·exact copied_any B v l m w hv hB hm hl
 ·obtain ⟨i0,hi,hz0,hz1,hz2⟩ := info_parts info5
  go_enter Tryz.func229,Tryz.ntmps229
  go_wp2_with (first
   | (at_make; refine wpList_make_own _ rfl _ _ 52 rfl w.heap.size 5 i0 (.int .u8 0) 1 Tryz.underlying52 hi hz0 hz1 .i64 .i64 _ m rfl rfl (by omega) (by rw [hz2]; omega) (by unfold maxLen; omega) (Nat.le_refl _) ?_; intro w1 hown1 hgrow1)
   | (at_builtin; refine wpList_append_own _ rfl _ _ 52 rfl w.heap.size 5 i0 (.int .u8 0) 1 1 Tryz.underlying52 hi hz0 hz1 hz2 rfl (by decide) _ _ _ rfl hown1 x 0 cap [] rfl rfl (fun j u hj => by cases hj) (fun u hu => by cases hu) ?c3 ?c4 ?c5 ?_))
  case c3 => unfold maxLen; omega
  case c4 => omega
  case c5 => exact hgrow1.size
  intro v' w2 hown2 hgrow2 _
  go_wp2
  go_ret
  refine ⟨v',rfl,hown2,((Below.refl _ _).grown hgrow1 (Nat.le_refl _) (fun k hk => by cases hk)).grown hgrow2 hgrow1.size (fun k hk => (hown1.lt k hk).1)⟩
end Go.Proofs.YtjgeedgphcjhoaaGreat
namespace Go.Proofs.YtjgeedgphcjhoaaGreat
open Go
/-- The bytes of an unsigned number. -/
def ulist (x : Nat) : List UInt8 :=
 if h : x < 128 then [x.toUInt8] else (x % 128 + 128).toUInt8 :: ulist (x / 128)
termination_by x
decreasing_by omega
theorem ulist_small {x : Nat} (h : x < 128) : ulist x = [x.toUInt8] := by rw [ulist,dif_pos h]
theorem ulist_big {x : Nat} (h : 128 ≤ x) : ulist x = (x % 128 + 128).toUInt8 :: ulist (x / 128) := by rw [ulist,dif_neg (by omega)]
theorem ulist_length : ∀ (k x : Nat),x < 128 ^ (k + 1) → (ulist x).length ≤ k + 1
 | 0,x,h => by rw [ulist_small (by simpa using h)]; simp
 | k + 1,x,h => by
  by_cases hx : x < 128
  ·rw [ulist_small hx]; simp
  ·rw [ulist_big (by omega),List.length_cons]
   have := ulist_length k (x / 128) (by rw [Nat.pow_succ] at h; exact Nat.div_lt_of_lt_mul (by rw [Nat.mul_comm]; exact h))
   omega
theorem ulist_length64 {x : Nat} (h : x < 18446744073709551616) : (ulist x).length ≤ 10 :=
 ulist_length 9 x (Nat.lt_of_lt_of_le h (by decide))
theorem ulist_pos (x : Nat) : 1 ≤ (ulist x).length := by
 by_cases hx : x < 128
 ·rw [ulist_small hx]; simp
 ·rw [ulist_big (by omega)]; simp
/-- The bytes of a number of either sign. -/
def slist (m : Int) : List UInt8 :=
 if h : -64 ≤ m ∧ m < 64 then [(m % 128).toNat.toUInt8] else ((m % 128).toNat + 128).toUInt8 :: slist (m / 128)
termination_by m.natAbs
decreasing_by omega
theorem slist_small {m : Int} (h : -64 ≤ m ∧ m < 64) : slist m = [(m % 128).toNat.toUInt8] := by rw [slist,dif_pos h]
theorem slist_big {m : Int} (h : ¬ (-64 ≤ m ∧ m < 64)) : slist m = ((m % 128).toNat + 128).toUInt8 :: slist (m / 128) := by rw [slist,dif_neg h]
theorem slist_length : ∀ (k : Nat) (m : Int),-(64 * 128 ^ k : Nat) ≤ m → m < (64 * 128 ^ k : Nat) → (slist m).length ≤ k + 1
 | 0,m,h,h' => by rw [slist_small (by constructor <;> simpa using by assumption)]; simp
 | k + 1,m,h,h' => by
  by_cases hx : -64 ≤ m ∧ m < 64
  ·rw [slist_small hx]; simp
  ·rw [slist_big hx,List.length_cons]
   have e : (64 * 128 ^ (k + 1) : Nat) = 128 * (64 * 128 ^ k) := by rw [Nat.pow_succ]; omega
   rw [e] at h h'
   have := slist_length k (m / 128) (by omega) (by omega)
   omega
theorem slist_length64 {m : Int} (h0 : -9223372036854775808 ≤ m) (h1 : m ≤ 9223372036854775807) : (slist m).length ≤ 10 :=
 slist_length 9 m (Int.le_trans (by decide) h0) (Int.lt_of_le_of_lt h1 (by decide))
theorem slist_pos (m : Int) : 1 ≤ (slist m).length := by
 by_cases hx : -64 ≤ m ∧ m < 64
 ·rw [slist_small hx]; simp
 ·rw [slist_big hx]; simp
theorem toUInt8_toNat {a : Nat} (h : a < 256) : (a.toUInt8).toNat = a := by
 simp [Nat.toUInt8,UInt8.toNat_ofNat']
 omega
theorem byteCells_snoc (pre : List UInt8) {a : Nat} (h : a < 256) : Lib.byteCells (pre ++ [a.toUInt8]) = Lib.byteCells pre ++ [Value.int .u8 (a : Int)] := by
 rw [Lib.byteCells_append]
 simp [Lib.byteCells,toUInt8_toNat h]
theorem or128_nat : ∀ a : Fin 256,(a.val ||| 128) = a.val % 128 + 128 := by decide
theorem u8_or128 (a : Int) (h₀ : 0 ≤ a) (h₁ : a < 256) : bits .or .u8 a 128 = a % 128 + 128 := by
 obtain ⟨n,rfl⟩ := Int.eq_ofNat_of_zero_le h₀
 have hn : n < 256 := by omega
 have h := (bits_nat .u8 8 (by decide) wraps_u8 n 128 (by simpa using hn) (by decide)).2
 have e : ((128 : Nat) : Int) = 128 := rfl
 rw [e] at h
 have h2 : (n ||| 128) = n % 128 + 128 := or128_nat ⟨n,hn⟩
 rw [h,h2]
 omega
theorem u8_and127 (x : Int) (h₀ : 0 ≤ x) (h₁ : x < 256) : bits .and .u8 x 127 = x % 128 := bits_mask .u8 8 (by decide) wraps_u8 7 (by decide) x h₀ h₁
theorem tmod128_neg {y : Int} (h : y < 0) : y.tmod 128 = -((-y) % 128) := by
 have := Int.neg_tmod (-y) 128
 rw [Int.neg_neg] at this
 rw [this,Int.tmod_eq_emod_of_nonneg (by omega)]
theorem tmod128_pos {y : Int} (h : 0 ≤ y) : y.tmod 128 = y % 128 := Int.tmod_eq_emod_of_nonneg h
theorem tdiv128_exact {y d : Int} (h : y % 128 = d) : (y - d).tdiv 128 = y / 128 := by
 have e : y - d = 128 * (y / 128) := by omega
 rw [e,Int.mul_tdiv_cancel_left _ (by decide)]
end Go.Proofs.YtjgeedgphcjhoaaGreat
namespace Go.Proofs.YtjgeedgphcjhoaaGreat
open Go.RowKit
set_option maxHeartbeats 800000 in
theorem U_in (B : Nat) (v : Value) (l : List UInt8) (x : Nat) (hx : x < 18446744073709551616) (w : World) (hv : BytesIn B w v l) (hB : B ≤ w.heap.size) (hl : l.length + 200 ≤ 140737488355328) :
  Calls Tryz.prog 177 #[v,.int .u64 x] w fun e w' => ∃ v',e = .returned v' ∧ w'.ownsRow w.heap.size 5 1 v' (l ++ ulist x).length (Lib.byteCells (l ++ ulist x)) ∧ Below w.heap.size w w' := by
 have hlen := ulist_length64 hx
 go_enter Tryz.func177,Tryz.ntmps177
 go_wp2_with (go_at_call 229; refine (copied_in B _ l 10 _ hv hB (by omega) (by omega)).mono ?_; rintro e w1 ⟨v1,rfl,hown1,hbel1⟩)
 go_loopw [1,5] (fun vx vb wr => ∃ (y : Nat) (pre : List UInt8),vx = .int .u64 y ∧ y ≤ x ∧ ulist x = pre ++ ulist y ∧ wr.ownsRow w.heap.size 5 1 vb (l.length + pre.length) (Lib.byteCells l ++ Lib.byteCells pre) ∧ Below w.heap.size w wr)
  (fun vx _ _ => (intOf vx).toNat)
 case atStart => exact ⟨x,[],rfl,Nat.le_refl _,rfl,by simpa [Lib.byteCells] using hown1,hbel1⟩
 case round =>
  obtain ⟨y,pre,rfl,hy,hsplit,hown1,hnx⟩ := hrel
  have hpl : pre.length + (ulist y).length ≤ 10 := by
   have h2 := congrArg List.length hsplit
   rw [List.length_append] at h2
   omega
  have hyp := ulist_pos y
  have hwr := hnx.size
  have HS := hid hsplit
  clear hsplit
  by_cases h128 : 128 ≤ y
  ·have hor : bits .or .u8 ((y : Int) % 256) 128 = ((y % 128 + 128 : Nat) : Int) := by
    rw [u8_or128 _ (by omega) (by omega)]
    omega
   go_wp2_with (at_builtin; refine append_byte rfl _ _ rfl w w.heap.size _ _ _ _ hown1 hnx hwr (by omega) rfl rfl ?_; intro v' w1 hown' hnx1 hsz1)
   go_roundw
   case rel =>
    refine ⟨y / 128,pre ++ [(y % 128 + 128).toUInt8],by go_num,by omega,by rw [HS.out,ulist_big h128]; simp,?_,hnx1⟩
    have ec : ((y % 128 + 128 : Nat) : Int) = (y : Int) % 128 + 128 := by omega
    rw [byteCells_snoc pre (by omega),List.length_append,List.length_singleton,← Nat.add_assoc,ec,← List.append_assoc]
    exact hown'
   case measure => simp [intOf]; omega
  ·have HM := hid (ulist_small (x := y) (by omega))
   go_wp2_with (at_builtin; refine append_byte rfl _ _ rfl w w.heap.size _ _ _ _ hown1 hnx hwr (by omega) rfl rfl ?_; intro v' w1 hown' hnx1 hsz1)
   go_ret
   refine ⟨v',rfl,?_,hnx1⟩
   rw [HS.out,HM.out,Lib.byteCells_append,byteCells_snoc pre (by omega)]
   simp only [List.length_append,List.length_singleton,← List.append_assoc] at hown' ⊢
   exact hown'
set_option maxHeartbeats 1600000 in
theorem S_in (B : Nat) (v : Value) (l : List UInt8) (x : Int) (hx0 : -9223372036854775808 ≤ x) (hx : x ≤ 9223372036854775807) (w : World) (hv : BytesIn B w v l) (hB : B ≤ w.heap.size) (hl : l.length + 200 ≤ 140737488355328) :
  Calls Tryz.prog 267 #[v,.int .i64 x] w fun e w' => ∃ v',e = .returned v' ∧ w'.ownsRow w.heap.size 5 1 v' (l ++ slist x).length (Lib.byteCells (l ++ slist x)) ∧ Below w.heap.size w w' := by
 have hlen := slist_length64 hx0 hx
 go_enter Tryz.func267,Tryz.ntmps267
 go_wp2_with (go_at_call 229; refine (copied_in B _ l 10 _ hv hB (by omega) (by omega)).mono ?_; rintro e w1 ⟨v1,rfl,hown1,hbel1⟩)
 go_loopw [1,5] (fun vx vb wr => ∃ (y : Int) (pre : List UInt8),vx = .int .i64 y ∧ -9223372036854775808 ≤ y ∧ y ≤ 9223372036854775807 ∧ slist x = pre ++ slist y ∧ wr.ownsRow w.heap.size 5 1 vb (l.length + pre.length) (Lib.byteCells l ++ Lib.byteCells pre) ∧ Below w.heap.size w wr)
  (fun vx _ _ => (intOf vx).natAbs)
 case atStart => exact ⟨x,[],rfl,hx0,hx,rfl,by simpa [Lib.byteCells] using hown1,hbel1⟩
 case round =>
  obtain ⟨y,pre,rfl,hy0,hy,hsplit,hown1,hnx⟩ := hrel
  have hpl : pre.length + (slist y).length ≤ 10 := by
   have h2 := congrArg List.length hsplit
   rw [List.length_append] at h2
   omega
  have hyp := slist_pos y
  have hwr := hnx.size
  have HS := hid hsplit
  clear hsplit
  obtain ⟨d,hd⟩ : ∃ d : Nat,y % 128 = (d : Int) := ⟨(y % 128).toNat,by omega⟩
  have hdl : d < 128 := by omega
  have HD := hid hd
  by_cases hsm : -64 ≤ y ∧ y < 64
  ·obtain ⟨h1,h2⟩ := hsm
   have hand : bits .and .u8 ((y : Int) % 256) 127 = (d : Int) := by
    rw [u8_and127 _ (by omega) (by omega)]
    omega
   have hd1 : decide (y < -64) = false := by simp; omega
   have hd2 : decide (63 < y) = false := by simp; omega
   have HM := hid (slist_small (m := y) ⟨h1,h2⟩)
   clear hd
   go_wp2_with (at_builtin; refine append_byte rfl _ _ rfl w w.heap.size _ _ _ _ hown1 hnx hwr (by omega) rfl rfl ?_; intro v' w1 hown' hnx1 hsz1)
   go_ret
   refine ⟨v',rfl,?_,hnx1⟩
   rw [HS.out,HM.out,Lib.byteCells_append,HD.out,Int.toNat_natCast,byteCells_snoc pre (by omega)]
   simp only [List.length_append,List.length_singleton,← List.append_assoc] at hown' ⊢
   exact hown'
  ·have hor : bits .or .u8 ((y : Int) % 256) 128 = (d : Int) + 128 := by
    rw [u8_or128 _ (by omega) (by omega)]
    omega
   have HB := hid (slist_big hsm)
   rcases (show y < -64 ∨ 63 < y by omega) with hneg | hneg
   all_goals
    first
     | have hd1 : decide (y < -64) = true := by simp; omega
     | have hd1 : decide (y < -64) = false := by simp; omega
    first
     | have hd2 : decide (63 < y) = true := by simp; omega
     | have hd2 : decide (63 < y) = false := by simp; omega
    clear hsm hd
    go_wp2_with (at_builtin; refine append_byte rfl _ _ rfl w w.heap.size _ _ _ _ hown1 hnx hwr (by omega) rfl rfl ?_; intro v' w1 hown' hnx1 hsz1)
    go_roundw
    case rel =>
     refine ⟨y / 128,pre ++ [(d + 128).toUInt8],by go_num,by omega,by omega,by rw [HS.out,HB.out,HD.out,Int.toNat_natCast]; simp,?_,hnx1⟩
     rw [byteCells_snoc pre (by omega),List.length_append,List.length_singleton,← Nat.add_assoc,← List.append_assoc,Int.natCast_add]
     exact hown'
    case measure => simp [intOf]; omega
end Go.Proofs.YtjgeedgphcjhoaaGreat
namespace Go.Proofs.YtjgeedgphcjhoaaGreat
open Go.RowKit
set_option maxHeartbeats 800000 in
theorem refU_any (x : Nat) (hx : x < 18446744073709551616) (w : World) :
  Calls Tryz.prog 207 #[.int .u64 x] w fun e w' => ∃ v',e = .returned v' ∧ w'.ownsRow w.heap.size 5 1 v' (ulist x).length (Lib.byteCells (ulist x)) ∧ Below w.heap.size w w' := by
 have hlen := ulist_length64 hx
 go_enter Tryz.func207,Tryz.ntmps207
 go_wp2
 go_loopw [0,3] (fun vx vb wr => ∃ (y : Nat) (pre : List UInt8),vx = .int .u64 y ∧ y ≤ x ∧ ulist x = pre ++ ulist y ∧ wr.ownsRow w.heap.size 5 1 vb pre.length (Lib.byteCells pre) ∧ Below w.heap.size w wr)
  (fun vx _ _ => (intOf vx).toNat)
 case atStart => exact ⟨x,[],rfl,Nat.le_refl _,rfl,World.ownsRow_nil _ _ _ _,Below.refl _ _⟩
 case round =>
  obtain ⟨y,pre,rfl,hy,hsplit,hown1,hnx⟩ := hrel
  have hpl : pre.length + (ulist y).length ≤ 10 := by
   have h2 := congrArg List.length hsplit
   rw [List.length_append] at h2
   omega
  have hyp := ulist_pos y
  have hwr := hnx.size
  have HS := hid hsplit
  clear hsplit
  by_cases h128 : 128 ≤ y
  ·go_wp2_with (at_builtin; refine append_byte rfl _ _ rfl w w.heap.size _ _ _ _ hown1 hnx hwr (by omega) rfl rfl ?_; intro v' w1 hown' hnx1 hsz1)
   go_roundw
   case rel =>
    refine ⟨y / 128,pre ++ [(y % 128 + 128).toUInt8],by go_num,by omega,by rw [HS.out,ulist_big h128]; simp,?_,hnx1⟩
    have ec : ((y % 128 + 128 : Nat) : Int) = 128 + (y : Int) % 128 := by omega
    rw [byteCells_snoc pre (by omega),List.length_append,List.length_singleton,ec]
    exact hown'
   case measure => simp [intOf]; omega
  ·have HM := hid (ulist_small (x := y) (by omega))
   go_wp2_with (at_builtin; refine append_byte rfl _ _ rfl w w.heap.size _ _ _ _ hown1 hnx hwr (by omega) rfl rfl ?_; intro v' w1 hown' hnx1 hsz1)
   go_ret
   refine ⟨v',rfl,?_,hnx1⟩
   rw [HS.out,HM.out,byteCells_snoc pre (by omega)]
   simp only [List.length_append,List.length_singleton]
   exact hown'
set_option maxHeartbeats 1600000 in
theorem refS_any (x : Int) (hx0 : -9223372036854775808 ≤ x) (hx : x ≤ 9223372036854775807) (w : World) :
  Calls Tryz.prog 246 #[.int .i64 x] w fun e w' => ∃ v',e = .returned v' ∧ w'.ownsRow w.heap.size 5 1 v' (slist x).length (Lib.byteCells (slist x)) ∧ Below w.heap.size w w' := by
 have hlen := slist_length64 hx0 hx
 go_enter Tryz.func246,Tryz.ntmps246
 go_wp2
 go_loopw [0,3] (fun vx vb wr => ∃ (y : Int) (pre : List UInt8),vx = .int .i64 y ∧ -9223372036854775808 ≤ y ∧ y ≤ 9223372036854775807 ∧ slist x = pre ++ slist y ∧ wr.ownsRow w.heap.size 5 1 vb pre.length (Lib.byteCells pre) ∧ Below w.heap.size w wr)
  (fun vx _ _ => (intOf vx).natAbs)
 case atStart => exact ⟨x,[],rfl,hx0,hx,rfl,World.ownsRow_nil _ _ _ _,Below.refl _ _⟩
 case round =>
  obtain ⟨y,pre,rfl,hy0,hy,hsplit,hown1,hnx⟩ := hrel
  have hpl : pre.length + (slist y).length ≤ 10 := by
   have h2 := congrArg List.length hsplit
   rw [List.length_append] at h2
   omega
  have hyp := slist_pos y
  have hwr := hnx.size
  have HS := hid hsplit
  clear hsplit
  obtain ⟨d,hd⟩ : ∃ d : Nat,y % 128 = (d : Int) := ⟨(y % 128).toNat,by omega⟩
  have hdl : d < 128 := by omega
  have HD := hid hd
  by_cases hsm : -64 ≤ y ∧ y < 64
  ·obtain ⟨h1,h2⟩ := hsm
   have hd1 : decide (y < -64) = false := by simp; omega
   have hd2 : decide (63 < y) = false := by simp; omega
   have HM := hid (slist_small (m := y) ⟨h1,h2⟩)
   by_cases hneg : y < 0
   ·have he : y + 128 = (d : Int) := by omega
    clear hd
    go_wp2_with (at_builtin; refine append_byte rfl _ _ rfl w w.heap.size _ _ _ _ hown1 hnx hwr (by omega) rfl rfl ?_; intro v' w1 hown' hnx1 hsz1)
    go_ret
    refine ⟨v',rfl,?_,hnx1⟩
    rw [HS.out,HM.out,HD.out,Int.toNat_natCast,byteCells_snoc pre (by omega)]
    simp only [List.length_append,List.length_singleton]
    exact hown'
   ·obtain rfl : y = (d : Int) := by omega
    clear hd
    go_wp2_with (at_builtin; refine append_byte rfl _ _ rfl w w.heap.size _ _ _ _ hown1 hnx hwr (by omega) rfl rfl ?_; intro v' w1 hown' hnx1 hsz1)
    go_ret
    refine ⟨v',rfl,?_,hnx1⟩
    rw [HS.out,HM.out,HD.out,Int.toNat_natCast,byteCells_snoc pre (by omega)]
    simp only [List.length_append,List.length_singleton]
    exact hown'
  ·have HB := hid (slist_big hsm)
   have hq := tdiv128_exact hd
   have hlo : -9223372036854775808 ≤ y - (d : Int) := by omega
   rcases (show y < -64 ∨ 63 < y by omega) with hneg | hneg
   ·have hd1 : decide (y < -64) = true := by simp; omega
    have hd2 : decide (63 < y) = false := by simp; omega
    have hm := tmod128_neg (y := y) (by omega)
    by_cases hd0 : d = 0
    ·have he : y.tmod 128 = (d : Int) := by omega
     clear hsm hd hm hd0
     go_wp2_with (at_builtin; refine append_byte rfl _ _ rfl w w.heap.size _ _ _ _ hown1 hnx hwr (by omega) rfl rfl ?_; intro v' w1 hown' hnx1 hsz1)
     go_roundw
     case rel =>
      refine ⟨y / 128,pre ++ [(d + 128).toUInt8],by go_num,by omega,by omega,by rw [HS.out,HB.out,HD.out,Int.toNat_natCast]; simp,?_,hnx1⟩
      have ec : ((d + 128 : Nat) : Int) = 128 + (d : Int) := by omega
      rw [byteCells_snoc pre (by omega),List.length_append,List.length_singleton,ec]
      exact hown'
     case measure => simp [intOf]; omega
    ·have he : y.tmod 128 = (d : Int) - 128 := by omega
     clear hsm hd hm hd0
     go_wp2_with (at_builtin; refine append_byte rfl _ _ rfl w w.heap.size _ _ _ _ hown1 hnx hwr (by omega) rfl rfl ?_; intro v' w1 hown' hnx1 hsz1)
     go_roundw
     case rel =>
      refine ⟨y / 128,pre ++ [(d + 128).toUInt8],by go_num,by omega,by omega,by rw [HS.out,HB.out,HD.out,Int.toNat_natCast]; simp,?_,hnx1⟩
      have ec : ((d + 128 : Nat) : Int) = 128 + (d : Int) := by omega
      rw [byteCells_snoc pre (by omega),List.length_append,List.length_singleton,ec]
      exact hown'
     case measure => simp [intOf]; omega
   ·have hd1 : decide (y < -64) = false := by simp; omega
    have hd2 : decide (63 < y) = true := by simp; omega
    have he : y.tmod 128 = (d : Int) := by rw [tmod128_pos (by omega),hd]
    clear hsm hd
    go_wp2_with (at_builtin; refine append_byte rfl _ _ rfl w w.heap.size _ _ _ _ hown1 hnx hwr (by omega) rfl rfl ?_; intro v' w1 hown' hnx1 hsz1)
    go_roundw
    case rel =>
     refine ⟨y / 128,pre ++ [(d + 128).toUInt8],by go_num,by omega,by omega,by rw [HS.out,HB.out,HD.out,Int.toNat_natCast]; simp,?_,hnx1⟩
     have ec : ((d + 128 : Nat) : Int) = 128 + (d : Int) := by omega
     rw [byteCells_snoc pre (by omega),List.length_append,List.length_singleton,ec]
     exact hown'
    case measure => simp [intOf]; omega
end Go.Proofs.YtjgeedgphcjhoaaGreat
namespace Go.Proofs.YtjgeedgphcjhoaaGreat
open Go.RowKit
/-- A number's lowest byte. -/
def byI (n : Int) : UInt8 := (n % 256).toNat.toUInt8
/-- An integer of the machine as one without a sign, in groups. -/
def uI (n : Int) : List UInt8 := ulist (n % 18446744073709551616).toNat
/-- The lowest k bytes. -/
def lowL : Nat → Nat → List UInt8
 | 0,_ => []
 | k + 1,v => (v % 256).toUInt8 :: lowL k (v / 256)
def opL (op : Int) : List UInt8 := if 64768 ≤ op then 253 :: uI (op - 64768) else if 64512 ≤ op then 252 :: uI (op - 64512) else [byI op]
def sgnN (b : Nat) (n : Nat) : Int := if n % 2 ^ b < 2 ^ (b - 1) then ((n % 2 ^ b : Nat) : Int) else ((n % 2 ^ b : Nat) : Int) - ((2 ^ b : Nat) : Int)
def blL (a b : Int) : List UInt8 := if a = 1 then [byI b] else if a = 2 then slist b else [64]
def usL : List Int → List UInt8
 | [] => []
 | x :: l => uI x ++ usL l
/-- What stands behind an instruction's number. -/
def behL (k a b : Int) (n h : Nat) (l : List Int) (ot : Bool) (eb ee : List UInt8) : List UInt8 :=
 if k = 0 then []
 else if k = 1 then blL a b ++ eb ++ (if ot = true then 5 :: ee else []) ++ [11]
 else if k = 3 then uI l.length ++ usL l ++ uI a
 else if k = 5 ∨ k = 10 ∨ k = 20 ∨ k = 22 then uI a ++ uI b
 else if k = 26 then uI a ++ uI b ++ l.map byI
 else if k = 6 then uI l.length ++ l.map byI
 else if k = 11 then [0]
 else if k = 19 then [0,0]
 else if k = 17 then uI a ++ [0]
 else if k = 12 then slist (sgnN 32 n)
 else if k = 13 then slist (sgnN 64 n)
 else if k = 14 then lowL 4 n
 else if k = 15 then lowL 8 n
 else if k = 23 then lowL 8 n ++ lowL 8 h
 else if k = 16 ∨ k = 25 then [byI a]
 else if k = 24 then l.map byI
 else uI a
noncomputable def Fo.enc : Fo → List UInt8
 | .nil => []
 | .cons op a b n h l ot body els rest => opL op ++ behL (lineL op).2.1 a b n h l ot body.enc els.enc ++ rest.enc
theorem uI_len (n : Int) : (uI n).length ≤ 10 := ulist_length64 (by omega)
theorem lowL_len (v : Nat) : ∀ (k : Nat) (v : Nat),(lowL k v).length = k
 | 0,_ => rfl
 | k + 1,v => by rw [lowL,List.length_cons,lowL_len v k]
theorem usL_len : ∀ l : List Int,(usL l).length ≤ 10 * l.length
 | [] => Nat.le_refl _
 | x :: l => by
  have := usL_len l
  have := uI_len x
  simp only [usL,List.length_append,List.length_cons]
  omega
theorem usL_snoc : ∀ (l : List Int) (x : Int),usL (l ++ [x]) = usL l ++ uI x
 | [],x => by simp [usL]
 | y :: l,x => by simp [usL,usL_snoc l x]
theorem opL_len (op : Int) : (opL op).length ≤ 11 := by
 unfold opL
 have h1 := uI_len (op - 64768)
 have h2 := uI_len (op - 64512)
 split
 ·simp only [List.length_cons]; omega
 ·split
  ·simp only [List.length_cons]; omega
  ·simp
theorem sgnN_in (b n : Nat) (hb : b = 32 ∨ b = 64) : -9223372036854775808 ≤ sgnN b n ∧ sgnN b n ≤ 9223372036854775807 := by
 unfold sgnN
 rcases hb with rfl | rfl
 ·split <;> omega
 ·split <;> omega
theorem slist_len (x : Int) (h : -9223372036854775808 ≤ x ∧ x ≤ 9223372036854775807) : (slist x).length ≤ 10 := slist_length64 h.1 h.2
def i64C (a : Int) : Prop := -9223372036854775808 ≤ a ∧ a < 9223372036854775808
theorem ite_len {c : Prop} [Decidable c] {x y : List UInt8} {n : Nat} (hx : c → x.length ≤ n) (hy : ¬ c → y.length ≤ n) : (if c then x else y).length ≤ n := by
 by_cases h : c
 ·rw [if_pos h]; exact hx h
 ·rw [if_neg h]; exact hy h
theorem behL_len (k a b : Int) (n h : Nat) (l : List Int) (ot : Bool) (eb ee : List UInt8) (hb : i64C b) : (behL k a b n h l ot eb ee).length ≤ 40 + 10 * l.length + eb.length + ee.length := by
 have h1 := uI_len a
 have h2 := uI_len b
 have h3 := uI_len l.length
 have h4 := usL_len l
 have h5 : (l.map byI).length = l.length := List.length_map _
 have h6 := slist_len _ (sgnN_in 32 n (.inl rfl))
 have h7 := slist_len _ (sgnN_in 64 n (.inr rfl))
 have h8 := lowL_len 0 4 n
 have h9 := lowL_len 0 8 n
 have h10 := lowL_len 0 8 h
 have h11 := slist_len b ⟨hb.1,by have := hb.2; omega⟩
 have h12 : (blL a b).length ≤ 10 := by
  unfold blL
  split
  ·simp
  ·split
   ·exact h11
   ·simp
 have h13 : (if ot = true then 5 :: ee else []).length ≤ ee.length + 1 := ite_len (fun _ => by simp) (fun _ => by simp)
 unfold behL
 repeat' (refine ite_len (fun _ => ?_) (fun _ => ?_))
 all_goals try simp only [List.length_append,List.length_cons,List.length_nil]
 all_goals omega
end Go.Proofs.YtjgeedgphcjhoaaGreat
