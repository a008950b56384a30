/-
  CIns: what a copy is in memory, and what becomes of it (the text says what it holds where it lies in wip). No condition.
-/
import Derived.Test.YtjgeedgphcjhoaaGreatT24
import Derived.Test.YtjgeedgphcjhoaaGreatT08
import Derived.Test.YtjgeedgphcjhoaaGreatT14
import Derived.Test.YtjgeedgphcjhoaaGreatV26
import Derived.Test.YtjgeedgphcjhoaaGreatV27
import Derived.Test.YtjgeedgphcjhoaaGreatV28
set_option linter.unusedSimpArgs false
set_option linter.unusedVariables false
set_option maxRecDepth 100000
namespace Go.Proofs.YtjgeedgphcjhoaaGreat
open Go.RowKit
structure EIns where
 op : Int
 a : Int
 b : Int
 n : Nat
 h : Nat
 l : List Int
 ot : Bool
 body : Fo
 els : Fo
def Fo.nth : Fo → Nat → EIns
 | .nil,_ => ⟨0,0,0,0,0,[],false,.nil,.nil⟩
 | .cons op a b n h l ot body els _,0 => ⟨op,a,b,n,h,l,ot,body,els⟩
 | .cons _ _ _ _ _ _ _ _ _ rest,i + 1 => rest.nth i
def Shorts : Fo → Prop
 | .nil => True
 | .cons _ _ _ _ _ l _ body els rest => l.length ≤ 1000 ∧ Shorts body ∧ Shorts els ∧ Shorts rest
theorem few_short : ∀ (f : Fo) (d left : Int),0 ≤ wg f d left → 0 ≤ left → Shorts f := by
 intro f
 induction f with
 | nil => intro d left _ _; trivial
 | cons op a b n h l ot body els rest ihb ihe ihr =>
  intro d left hw hl
  rw [wg_cons op a b n h l ot body els rest d left hl _ rfl _ rfl] at hw
  have key : ∀ x,0 ≤ wg rest d x → 0 ≤ x := fun x hx => by
   rcases Int.lt_or_le x 0 with h1 | h1
   ·rw [wg_neg _ _ _ h1] at hx; omega
   ·exact h1
  have h0 := key _ hw
  by_cases h1 : 1000 < l.length
  ·rw [if_pos h1] at h0; omega
  ·rw [if_neg h1] at h0 hw
   by_cases h2 : 0 ≤ wgT body (d + 1) (left - 1)
   ·rw [if_pos h2] at h0 hw
    have hb : 0 ≤ wg body (d + 1) (left - 1) := by
     unfold wgT at h2
     by_cases h3 : 600 < d + 1
     ·rw [if_pos h3] at h2; omega
     ·rw [if_neg h3] at h2; exact h2
    have he : 0 ≤ wg els (d + 1) (wgT body (d + 1) (left - 1)) := by
     rw [wgT] at h0
     by_cases h3 : 600 < d + 1
     ·rw [if_pos h3] at h0; omega
     ·rw [if_neg h3] at h0; exact h0
    have hl1 : 0 ≤ left - 1 := by
     rcases Int.lt_or_le (left - 1) 0 with h4 | h4
     ·rw [wg_neg _ _ _ h4] at hb; omega
     ·exact h4
    exact ⟨by omega,ihb _ _ hb hl1,ihe _ _ he h2,ihr _ _ hw h0⟩
   ·rw [if_neg h2] at h0; omega
theorem nth_facts : ∀ (f : Fo) (i : Nat),i < f.len → (Shorts f → (f.nth i).l.length ≤ 1000 ∧ Shorts (f.nth i).body ∧ Shorts (f.nth i).els) ∧ (f.nth i).body.cnt < f.cnt ∧ (f.nth i).els.cnt < f.cnt := by
 intro f
 induction f with
 | nil => intro i h; simp [Fo.len] at h
 | cons op a b n h l ot body els rest _ _ ihr =>
  intro i hi
  cases i with
  | zero => exact ⟨fun hs => ⟨hs.1,hs.2.1,hs.2.2.1⟩,by simp only [Fo.nth,Fo.cnt]; omega,by simp only [Fo.nth,Fo.cnt]; omega⟩
  | succ i =>
   have := ihr i (by simp only [Fo.len] at hi; omega)
   exact ⟨fun hs => this.1 hs.2.2.2,by simp only [Fo.nth,Fo.cnt]; omega,by simp only [Fo.nth,Fo.cnt]; omega⟩
theorem len_cnt : ∀ f : Fo,f.len ≤ f.cnt := by
 intro f
 induction f with
 | nil => exact Nat.le_refl _
 | cons op a b n h l ot body els rest _ _ ihr => simp only [Fo.len,Fo.cnt]; omega
theorem FA.nth {B : Nat} {w : World} : ∀ (f : Fo) (g o i : Nat),FA B w f g o → i < f.len → g < B ∧ ∃ q5 q6 q7 : Option Addr × Nat × Nat,
  (w.cell? ⟨g,o + i * 9,none⟩ = some (.int .i64 (f.nth i).op) ∧ w.cell? ⟨g,o + i * 9 + 1,none⟩ = some (.int .i64 (f.nth i).a) ∧ w.cell? ⟨g,o + i * 9 + 2,none⟩ = some (.int .i64 (f.nth i).b) ∧
  w.cell? ⟨g,o + i * 9 + 3,none⟩ = some (.int .u64 ((f.nth i).n : Nat)) ∧ w.cell? ⟨g,o + i * 9 + 4,none⟩ = some (.int .u64 ((f.nth i).h : Nat)) ∧ w.cell? ⟨g,o + i * 9 + 5,none⟩ = some (.slice q5.1 q5.2.1 q5.2.2) ∧
  w.cell? ⟨g,o + i * 9 + 6,none⟩ = some (.slice q6.1 q6.2.1 q6.2.2) ∧ w.cell? ⟨g,o + i * 9 + 7,none⟩ = some (.slice q7.1 q7.2.1 q7.2.2) ∧ w.cell? ⟨g,o + i * 9 + 8,none⟩ = some (.bool (f.nth i).ot)) ∧
  LI B w (.slice q5.1 q5.2.1 q5.2.2) (f.nth i).l ∧ SA B w (.slice q6.1 q6.2.1 q6.2.2) (f.nth i).body ∧ SA B w (.slice q7.1 q7.2.1 q7.2.2) (f.nth i).els := by
 intro f
 induction f with
 | nil => intro g o i _ hi; simp [Fo.len] at hi
 | cons op a b n h l ot body els rest _ _ ihr =>
  rintro g o i ⟨hg,⟨vl,vb,ve,h0,h1,h2,h3,h4,h5,h6,h7,h8,hl,hb,he⟩,hr⟩ hi
  cases i with
  | zero =>
   have hb : SA B w vb body := hb
   have he : SA B w ve els := he
   obtain ⟨pl,cl,rfl,hq⟩ := id hl
   obtain ⟨pb,cb,gb,ob,rfl,hbq⟩ := id hb
   obtain ⟨pe,ce,ge,oe,rfl,heq⟩ := id he
   simp only [Nat.zero_mul,Nat.add_zero]
   exact ⟨hg,(pl,l.length,cl),(pb,body.len,cb),(pe,els.len,ce),⟨h0,h1,h2,h3,h4,h5,h6,h7,h8⟩,hl,hb,he⟩
  | succ i =>
   have := ihr g (o + 9) i hr (by simp only [Fo.len] at hi; omega)
   have e : o + (i + 1) * 9 = o + 9 + i * 9 := by omega
   rw [e]
   exact this
theorem FP.of {s g : Nat} {w : World} (hg : s ≤ g) (hz : ∀ k,w.frozen? ⟨g,k,none⟩ = false) : ∀ (f : Fo) (o : Nat),(∀ i,i < f.len → ∃ q5 q6 q7 : Option Addr × Nat × Nat,
  (∀ k v,[.int .i64 (f.nth i).op,.int .i64 (f.nth i).a,.int .i64 (f.nth i).b,.int .u64 ((f.nth i).n : Nat),.int .u64 ((f.nth i).h : Nat),.slice q5.1 q5.2.1 q5.2.2,.slice q6.1 q6.2.1 q6.2.2,.slice q7.1 q7.2.1 q7.2.2,.bool (f.nth i).ot][k]? = some v → w.cell? ⟨g,o + i * 9 + k,none⟩ = some v) ∧
  LP s w (.slice q5.1 q5.2.1 q5.2.2) (f.nth i).l ∧ SP s w (.slice q6.1 q6.2.1 q6.2.2) (f.nth i).body ∧ SP s w (.slice q7.1 q7.2.1 q7.2.2) (f.nth i).els) → FP s w f g o := by
 intro f
 induction f with
 | nil => intro o _; trivial
 | cons op a b n h l ot body els rest _ _ ihr =>
  intro o H
  obtain ⟨q5,q6,q7,hc,hl,hb,he⟩ := H 0 (by simp only [Fo.len]; omega)
  simp only [Nat.zero_mul,Nat.add_zero] at hc
  refine ⟨⟨hg,hz _⟩,⟨_,_,_,hc 0 _ rfl,hc 1 _ rfl,hc 2 _ rfl,hc 3 _ rfl,hc 4 _ rfl,hc 5 _ rfl,hc 6 _ rfl,hc 7 _ rfl,hc 8 _ rfl,hl,hb,he⟩,ihr (o + 9) fun i hi => ?_⟩
  obtain ⟨q5,q6,q7,hc,hl,hb,he⟩ := H (i + 1) (by simp only [Fo.len]; omega)
  refine ⟨q5,q6,q7,fun k v hk => ?_,hl,hb,he⟩
  have := hc k v hk
  rw [← this,show o + 9 + i * 9 + k = o + (i + 1) * 9 + k by omega]
theorem itself_i (x : Int) (w : World) : Calls Tryz.prog 158 #[.int .i64 x] w fun e w' => e = .returned (.int .i64 x) ∧ Below w.heap.size w w' := by
 go_enter Tryz.func158,Tryz.ntmps158
 go_wp2
 go_ret
 exact ⟨rfl,Below.refl _ _⟩
theorem itself_y (x : Nat) (w : World) : Calls Tryz.prog 162 #[.int .u8 (x : Nat)] w fun e w' => e = .returned (.int .u8 (x : Nat)) ∧ Below w.heap.size w w' := by
 go_enter Tryz.func162,Tryz.ntmps162
 go_wp2
 go_ret
 exact ⟨rfl,Below.refl _ _⟩
abbrev Sl := Option Addr × Nat × Nat
theorem copyInts_says (l : List Int) (p : Option Addr) (c B : Nat) (w : World) (hB : B ≤ w.heap.size) (hn : l.length ≤ 1000000) (h : LI B w (.slice p l.length c) l) :
  Calls Tryz.prog 157 #[.slice p l.length c,.func (.func 158) #[] #[]] w fun e w' => ∃ q : Sl,e = .returned (.slice q.1 q.2.1 q.2.2) ∧ LP w.heap.size w' (.slice q.1 q.2.1 q.2.2) l ∧ Below w.heap.size w w' := by
 obtain ⟨p2,c2,hv,hq,hc⟩ := h
 obtain ⟨rfl,-,rfl⟩ := Value.slice.inj hv
 have hx : ∃ g o,(l.length ≠ 0 → p = some ⟨g,o,none⟩ ∧ g < w.heap.size) ∧ ∀ i,i < l.length → w.cell? ⟨g,o + i,none⟩ = some (.int .i64 (l.getD i 0)) := by
  cases l with
  | nil => exact ⟨0,0,fun h => absurd rfl h,fun i hi => absurd hi (Nat.not_lt_zero i)⟩
  | cons a l =>
   obtain ⟨g,o,e,hg,hc⟩ := hc (by simp)
   exact ⟨g,o,fun _ => ⟨e,Nat.lt_of_lt_of_le hg hB⟩,fun i hi => hc i _ (by rw [List.getD_eq_getElem?_getD,List.getElem?_eq_getElem hi]; rfl)⟩
 obtain ⟨g,o,hg,hx⟩ := hx
 refine (cp_int 158 (fun _ _ => rfl) l.length c g o p (fun i => l.getD i 0) w hn hg hx (fun i _ W _ => itself_i _ W)).mono ?_
 rintro e w' ⟨⟨p',c',b',rfl,hp,hall⟩,hb⟩
 refine ⟨(p',l.length,c'),rfl,⟨p',c',rfl,hq,fun hne => ?_⟩,hb⟩
 have hl0 : l.length ≠ 0 := fun h => hne (List.length_eq_zero_iff.1 h)
 refine ⟨b',0,(hp hl0).1,(hp hl0).2.1,(hp hl0).2.2.2,fun j x hj => ?_⟩
 have hjl := (List.getElem?_eq_some_iff.1 hj).1
 have := hall j hjl 0 _ rfl
 rw [Nat.add_zero,List.getD_eq_getElem?_getD,hj] at this
 rw [Nat.zero_add]
 exact this
def XIn (f : Fo) (i s : Nat) (q5 q6 q7 : Sl) (w : World) : Prop := LP s w (.slice q5.1 q5.2.1 q5.2.2) (f.nth i).l ∧ SP s w (.slice q6.1 q6.2.1 q6.2.2) (f.nth i).body ∧ SP s w (.slice q7.1 q7.2.1 q7.2.2) (f.nth i).els
theorem copyCode_of (p : Option Addr) (n c : Nat) (X : Sl → World → Prop) (w : World) (h : Calls Tryz.prog 222 #[.slice p n c,.func (.func 223) #[] #[]] w fun e w' => ∃ q : Sl,e = .returned (.slice q.1 q.2.1 q.2.2) ∧ X q w' ∧ Below w.heap.size w w') :
  Calls Tryz.prog 159 #[.slice p n c] w fun e w' => ∃ q : Sl,e = .returned (.slice q.1 q.2.1 q.2.2) ∧ X q w' ∧ Below w.heap.size w w' := by
 have H := hid h
 clear h
 go_enter Tryz.func159,Tryz.ntmps159
 go_wp2_with (go_at_call 222; (with_reducible refine H.out.mono ?_); rintro e w1 ⟨q,rfl,hx,hb⟩; have HX := hid hx; have HB := hid hb; clear hx hb)
 go_ret
 exact ⟨q,rfl,HX.out,HB.out⟩
theorem copyIns_says : ∀ (N : Nat) (f : Fo),f.cnt < N → f.cnt ≤ 1000000 → Shorts f → ∀ (B : Nat) (p : Option Addr) (c : Nat) (w : World),B ≤ w.heap.size → SA B w (.slice p f.len c) f →
  Calls Tryz.prog 222 #[.slice p f.len c,.func (.func 223) #[] #[]] w fun e w' => ∃ q : Sl,e = .returned (.slice q.1 q.2.1 q.2.2) ∧ SP w.heap.size w' (.slice q.1 q.2.1 q.2.2) f ∧ Below w.heap.size w w' := by
 intro N
 induction N with
 | zero => intro f h; omega
 | succ N ih =>
  intro f hf hc hs B p c w hB h
  obtain ⟨p2,c2,g,o,hv,hp,hfa⟩ := h
  obtain ⟨rfl,-,rfl⟩ := Value.slice.inj hv
  have hlen := len_cnt f
  have hn : ∀ i,∃ q : Sl × Sl × Sl,i < f.len → (g < B ∧ (w.cell? ⟨g,o + i * 9,none⟩ = some (.int .i64 (f.nth i).op) ∧ w.cell? ⟨g,o + i * 9 + 1,none⟩ = some (.int .i64 (f.nth i).a) ∧ w.cell? ⟨g,o + i * 9 + 2,none⟩ = some (.int .i64 (f.nth i).b) ∧
   w.cell? ⟨g,o + i * 9 + 3,none⟩ = some (.int .u64 ((f.nth i).n : Nat)) ∧ w.cell? ⟨g,o + i * 9 + 4,none⟩ = some (.int .u64 ((f.nth i).h : Nat)) ∧ w.cell? ⟨g,o + i * 9 + 5,none⟩ = some (.slice q.1.1 q.1.2.1 q.1.2.2) ∧
   w.cell? ⟨g,o + i * 9 + 6,none⟩ = some (.slice q.2.1.1 q.2.1.2.1 q.2.1.2.2) ∧ w.cell? ⟨g,o + i * 9 + 7,none⟩ = some (.slice q.2.2.1 q.2.2.2.1 q.2.2.2.2) ∧ w.cell? ⟨g,o + i * 9 + 8,none⟩ = some (.bool (f.nth i).ot)) ∧
   LI B w (.slice q.1.1 q.1.2.1 q.1.2.2) (f.nth i).l ∧ SA B w (.slice q.2.1.1 q.2.1.2.1 q.2.1.2.2) (f.nth i).body ∧ SA B w (.slice q.2.2.1 q.2.2.2.1 q.2.2.2.2) (f.nth i).els) := by
   intro i
   by_cases hi : i < f.len
   ·obtain ⟨h1,q5,q6,q7,h2⟩ := FA.nth f g o i hfa hi
    exact ⟨(q5,q6,q7),fun _ => ⟨h1,h2⟩⟩
   ·exact ⟨((none,0,0),(none,0,0),(none,0,0)),fun h => absurd h hi⟩
  obtain ⟨Q,hQ⟩ := Classical.axiomOfChoice hn
  refine (cp_ins 223 (fun _ _ => rfl) (XIn f) (fun j s s' q5 q6 q7 W hs h => ⟨h.1.mono hs,h.2.1.mono hs,h.2.2.mono hs⟩) (fun j s q5 q6 q7 W W' hu h => ⟨h.1.up hu,h.2.1.up hu,h.2.2.up hu⟩)
   f.len c g o p (fun i => (f.nth i).op) (fun i => (f.nth i).a) (fun i => (f.nth i).b) (fun i => (f.nth i).n) (fun i => (f.nth i).h) (fun i => (Q i).1.1) (fun i => (Q i).1.2.1) (fun i => (Q i).1.2.2) (fun i => (Q i).2.1.1) (fun i => (Q i).2.1.2.1) (fun i => (Q i).2.1.2.2) (fun i => (Q i).2.2.1) (fun i => (Q i).2.2.2.1) (fun i => (Q i).2.2.2.2) (fun i => (f.nth i).ot) w (by omega) (fun h => ⟨hp h,Nat.lt_of_lt_of_le (hQ 0 (by omega)).1 hB⟩) (fun i hi => (hQ i hi).2.1) ?_).mono ?_
  ·intro i hi W hW
   obtain ⟨_,_,hl,hb,he⟩ := hQ i hi
   obtain ⟨hsh,hcb,hce⟩ := nth_facts f i hi
   obtain ⟨s1,s2,s3⟩ := hsh hs
   have hBW := Nat.le_trans hB hW.size
   have hl' := hl.below (hW.mono hB)
   have hb' := hb.below (hW.mono hB)
   have he' := he.below (hW.mono hB)
   generalize (Q i).1 = q5 at *
   generalize (Q i).2.1 = q6 at *
   generalize (Q i).2.2 = q7 at *
   obtain ⟨a5,b5,c5⟩ := q5
   obtain ⟨a6,b6,c6⟩ := q6
   obtain ⟨a7,b7,c7⟩ := q7
   obtain rfl : b5 = (f.nth i).l.length := by obtain ⟨_,_,e,_⟩ := hl; exact (Value.slice.inj e).2.1
   obtain rfl : b6 = (f.nth i).body.len := by obtain ⟨_,_,_,_,e,_⟩ := hb; exact (Value.slice.inj e).2.1
   obtain rfl : b7 = (f.nth i).els.len := by obtain ⟨_,_,_,_,e,_⟩ := he; exact (Value.slice.inj e).2.1
   refine (cpInstr (fun s q w => LP s w (.slice q.1 q.2.1 q.2.2) (f.nth i).l) (fun s s' q W h1 h2 => h2.mono h1) (fun s q W W' h1 h2 => h2.up h1) (fun s q w => SP s w (.slice q.1 q.2.1 q.2.2) (f.nth i).body) (fun s s' q W h1 h2 => h2.mono h1) (fun s q W W' h1 h2 => h2.up h1) (fun s q w => SP s w (.slice q.1 q.2.1 q.2.2) (f.nth i).els) (fun s s' q W h1 h2 => h2.mono h1) (fun s q W W' h1 h2 => h2.up h1) _ _ _ _ _ _ _ _ _ _ _ _ _ _ _ W ?_ ?_ ?_).mono ?_
   ·exact fun W2 h2 => copyInts_says _ _ _ B W2 (Nat.le_trans hBW h2.size) (by omega) (hl'.below (h2.mono hBW))
   ·exact fun W2 h2 => copyCode_of _ _ _ _ W2 (ih _ (by omega) (by omega) s2 B _ _ W2 (Nat.le_trans hBW h2.size) (hb'.below (h2.mono hBW)))
   ·exact fun W2 h2 => copyCode_of _ _ _ _ W2 (ih _ (by omega) (by omega) s3 B _ _ W2 (Nat.le_trans hBW h2.size) (he'.below (h2.mono hBW)))
   ·rintro e w' ⟨q5,q6,q7,rfl,h5,h6,h7,hb⟩
    exact ⟨q5,q6,q7,rfl,⟨h5,h6,h7⟩,hb⟩
  ·rintro e w' ⟨⟨p',c',b',rfl,hp',hall⟩,hb⟩
   refine ⟨(p',f.len,c'),rfl,⟨p',c',b',0,rfl,fun h => (hp' h).1,?_⟩,hb⟩
   cases f with
   | nil => trivial
   | cons op a b n h l ot body els rest =>
    refine FP.of (hp' (by simp only [Fo.len]; omega)).2.1 (hp' (by simp only [Fo.len]; omega)).2.2.2 _ 0 fun i hi => ?_
    obtain ⟨q5,q6,q7,hcell,h1,h2,h3⟩ := hall i hi
    exact ⟨q5,q6,q7,fun k v hk => by rw [Nat.zero_add]; exact hcell k v hk,h1,h2,h3⟩
theorem copyCode_says (f : Fo) (hf : 0 ≤ wg f 0 3000) (p : Option Addr) (c B : Nat) (w : World) (hB : B ≤ w.heap.size) (h : SA B w (.slice p f.len c) f) :
  Calls Tryz.prog 159 #[.slice p f.len c] w fun e w' => ∃ q : Sl,e = .returned (.slice q.1 q.2.1 q.2.2) ∧ SP w.heap.size w' (.slice q.1 q.2.1 q.2.2) f ∧ Below w.heap.size w w' :=
 copyCode_of p f.len c _ w (copyIns_says (f.cnt + 1) f (Nat.lt_succ_self _) (by have := few_cnt f hf; omega) (few_short f 0 3000 hf (by decide)) B p c w hB h)
end Go.Proofs.YtjgeedgphcjhoaaGreat
