/-
  CMod: what a copy is in memory, and what becomes of it (the text says what it holds where it lies in wip). No condition.
-/
import Derived.Test.YtjgeedgphcjhoaaGreatT24
import Derived.Test.YtjgeedgphcjhoaaGreatT08
import Derived.Test.YtjgeedgphcjhoaaGreatT14
import Derived.Test.YtjgeedgphcjhoaaGreatV29
set_option linter.unusedSimpArgs false
set_option linter.unusedVariables false
set_option maxRecDepth 100000
namespace Go.Proofs.YtjgeedgphcjhoaaGreat
open Go.RowKit
def CL {E : Type} (n N : Nat) (cs : E → List Value) (R : Nat → Nat → E → World → Prop) (s : Nat) (q : Sl) (W : World) : Prop := q.2.1 = n ∧ ∃ (b : Nat) (T : Nat → E),(n ≠ 0 → q.1 = some ⟨b,0,none⟩ ∧ s ≤ b ∧ b < W.heap.size ∧ ∀ k,W.frozen? ⟨b,k,none⟩ = false) ∧ ∀ i,i < n → (∀ k v,(cs (T i))[k]? = some v → W.cell? ⟨b,i * N + k,none⟩ = some v) ∧ R i s (T i) W
section
variable {E : Type} {n N : Nat} {cs : E → List Value} {R : Nat → Nat → E → World → Prop}
theorem CL.mono (hR : ∀ i s s' e W,s' ≤ s → R i s e W → R i s' e W) (s s' : Nat) (q : Sl) (W : World) (hs : s' ≤ s) (h : CL n N cs R s q W) : CL n N cs R s' q W := by
 obtain ⟨h1,b,T,h2,h3⟩ := h
 exact ⟨h1,b,T,fun hn => ⟨(h2 hn).1,Nat.le_trans hs (h2 hn).2.1,(h2 hn).2.2⟩,fun i hi => ⟨(h3 i hi).1,hR i s s' _ W hs (h3 i hi).2⟩⟩
theorem CL.up (hR : ∀ i s e W W',UP s W W' → R i s e W → R i s e W') (s : Nat) (q : Sl) (W W' : World) (hu : UP s W W') (h : CL n N cs R s q W) : CL n N cs R s q W' := by
 obtain ⟨h1,b,T,h2,h3⟩ := h
 exact ⟨h1,b,T,fun hn => ⟨(h2 hn).1,(h2 hn).2.1,hu.lt (h2 hn).2.1 (h2 hn).2.2.1,fun k => hu.frozen (h2 hn).2.1 (h2 hn).2.2.1 ((h2 hn).2.2.2 k)⟩,fun i hi => ⟨fun k v hk => hu.cell (h2 (by omega)).2.1 ((h3 i hi).1 k v hk),hR i s _ W W' hu (h3 i hi).2⟩⟩
theorem CL.of (d : E) {s b c : Nat} {p : Option Addr} {W : World} (hp : n ≠ 0 → p = some ⟨b,0,none⟩ ∧ s ≤ b ∧ b < W.heap.size ∧ ∀ k,W.frozen? ⟨b,k,none⟩ = false) (h : ∀ i,i < n → ∃ e,(∀ k v,(cs e)[k]? = some v → W.cell? ⟨b,i * N + k,none⟩ = some v) ∧ R i s e W) : CL n N cs R s (p,n,c) W := by
 have h2 : ∀ i,∃ e,i < n → (∀ k v,(cs e)[k]? = some v → W.cell? ⟨b,i * N + k,none⟩ = some v) ∧ R i s e W := by
  intro i
  by_cases hi : i < n
  ·obtain ⟨e,he⟩ := h i hi
   exact ⟨e,fun _ => he⟩
  ·exact ⟨d,fun h => absurd h hi⟩
 obtain ⟨T,hT⟩ := Classical.axiomOfChoice h2
 exact ⟨rfl,b,T,hp,hT⟩
end
theorem LP.len {s : Nat} {w : World} {q : Sl} {l : List Int} (h : LP s w (.slice q.1 q.2.1 q.2.2) l) : q = (q.1,l.length,q.2.2) := by
 obtain ⟨_,_,e,_⟩ := h
 rw [← (Value.slice.inj e).2.1]
theorem SP.len {s : Nat} {w : World} {q : Sl} {f : Fo} (h : SP s w (.slice q.1 q.2.1 q.2.2) f) : q = (q.1,f.len,q.2.2) := by
 obtain ⟨_,_,_,_,e,_⟩ := h
 rw [← (Value.slice.inj e).2.1]
def YP (s : Nat) (W : World) (p : Option Addr) (l : List UInt8) : Prop := l ≠ [] → ∃ g o,p = some ⟨g,o,none⟩ ∧ s ≤ g ∧ (∀ k,W.frozen? ⟨g,k,none⟩ = false) ∧ ∀ j x,l[j]? = some x → W.cell? ⟨g,o + j,none⟩ = some (.int .u8 (x.toNat : Nat))
theorem YP.mono {s s' : Nat} {W : World} {p : Option Addr} {l : List UInt8} (h : YP s W p l) (hs : s' ≤ s) : YP s' W p l := fun hn => by
 obtain ⟨g,o,e,hg,hz,hc⟩ := h hn
 exact ⟨g,o,e,Nat.le_trans hs hg,hz,hc⟩
theorem YP.up {s : Nat} {W W' : World} {p : Option Addr} {l : List UInt8} (h : YP s W p l) (hu : UP s W W') : YP s W' p l := fun hn => by
 obtain ⟨g,o,e,hg,hz,hc⟩ := h hn
 have hl : g < W.heap.size := by
  cases l with
  | nil => exact absurd rfl hn
  | cons x l => exact cell_in (hc 0 x rfl)
 exact ⟨g,o,e,hg,fun k => hu.frozen hg hl (hz k),fun j x hj => hu.cell hg (hc j x hj)⟩
def KP2 (s : Nat) (W : World) (e : EElm) : Prop := (e.ng ≠ 0 → e.pg = some ⟨e.bg,e.og,none⟩ ∧ s ≤ e.bg) ∧ ∀ k,k < e.ng → W.cell? ⟨e.bg,e.og + k,none⟩ = some (.slice (e.qg k) (e.g k).len (e.dg k)) ∧ SP s W (.slice (e.qg k) (e.g k).len (e.dg k)) (e.g k)
theorem KP2.mono {s s' : Nat} {W : World} {e : EElm} (h : KP2 s W e) (hs : s' ≤ s) : KP2 s' W e := ⟨fun hn => ⟨(h.1 hn).1,Nat.le_trans hs (h.1 hn).2⟩,fun k hk => ⟨(h.2 k hk).1,(h.2 k hk).2.mono hs⟩⟩
theorem KP2.up {s : Nat} {W W' : World} {e : EElm} (h : KP2 s W e) (hu : UP s W W') : KP2 s W' e := ⟨h.1,fun k hk => ⟨hu.cell (h.1 (by omega)).2 (h.2 k hk).1,(h.2 k hk).2.up hu⟩⟩
def RT (x : ETyp) (s : Nat) (e : ETyp) (W : World) : Prop := (e.a = x.a ∧ e.b = x.b) ∧ LP s W (.slice e.pa e.a.length e.ca) e.a ∧ LP s W (.slice e.pb e.b.length e.cb) e.b
def RFn (x : EFun) (s : Nat) (e : EFun) (W : World) : Prop := (e.ty = x.ty ∧ e.l = x.l ∧ e.f = x.f) ∧ LP s W (.slice e.pl e.l.length e.cl) e.l ∧ SP s W (.slice e.pf e.f.len e.cf) e.f
def RG (x : EGlo) (s : Nat) (e : EGlo) (W : World) : Prop := (e.t = x.t ∧ e.m = x.m ∧ e.f = x.f) ∧ SP s W (.slice e.pf e.f.len e.cf) e.f
def RE (x : EElm) (s : Nat) (e : EElm) (W : World) : Prop := (e.r = x.r ∧ e.m = x.m ∧ e.t = x.t ∧ e.f = x.f ∧ e.ng = x.ng ∧ ∀ k,k < e.ng → e.g k = x.g k) ∧ SP s W (.slice e.pf e.f.len e.cf) e.f ∧ KP2 s W e
def RD (x : EDat) (s : Nat) (e : EDat) (W : World) : Prop := (e.m = x.m ∧ e.t = x.t ∧ e.f = x.f ∧ e.b = x.b) ∧ SP s W (.slice e.pf e.f.len e.cf) e.f ∧ YP s W e.pb e.b
theorem RT.mono (x : ETyp) (s s' : Nat) (e : ETyp) (W : World) (hs : s' ≤ s) (h : RT x s e W) : RT x s' e W := ⟨h.1,h.2.1.mono hs,h.2.2.mono hs⟩
theorem RT.up (x : ETyp) (s : Nat) (e : ETyp) (W W' : World) (hu : UP s W W') (h : RT x s e W) : RT x s e W' := ⟨h.1,h.2.1.up hu,h.2.2.up hu⟩
theorem RFn.mono (x : EFun) (s s' : Nat) (e : EFun) (W : World) (hs : s' ≤ s) (h : RFn x s e W) : RFn x s' e W := ⟨h.1,h.2.1.mono hs,h.2.2.mono hs⟩
theorem RFn.up (x : EFun) (s : Nat) (e : EFun) (W W' : World) (hu : UP s W W') (h : RFn x s e W) : RFn x s e W' := ⟨h.1,h.2.1.up hu,h.2.2.up hu⟩
theorem RG.mono (x : EGlo) (s s' : Nat) (e : EGlo) (W : World) (hs : s' ≤ s) (h : RG x s e W) : RG x s' e W := ⟨h.1,h.2.mono hs⟩
theorem RG.up (x : EGlo) (s : Nat) (e : EGlo) (W W' : World) (hu : UP s W W') (h : RG x s e W) : RG x s e W' := ⟨h.1,h.2.up hu⟩
theorem RE.mono (x : EElm) (s s' : Nat) (e : EElm) (W : World) (hs : s' ≤ s) (h : RE x s e W) : RE x s' e W := ⟨h.1,h.2.1.mono hs,h.2.2.mono hs⟩
theorem RE.up (x : EElm) (s : Nat) (e : EElm) (W W' : World) (hu : UP s W W') (h : RE x s e W) : RE x s e W' := ⟨h.1,h.2.1.up hu,h.2.2.up hu⟩
theorem RD.mono (x : EDat) (s s' : Nat) (e : EDat) (W : World) (hs : s' ≤ s) (h : RD x s e W) : RD x s' e W := ⟨h.1,h.2.1.mono hs,h.2.2.mono hs⟩
theorem RD.up (x : EDat) (s : Nat) (e : EDat) (W W' : World) (hu : UP s W W') (h : RD x s e W) : RD x s e W' := ⟨h.1,h.2.1.up hu,h.2.2.up hu⟩
set_option maxHeartbeats 4000000 in
theorem itself_im (x : EImp) (w : World) : Calls Tryz.prog 63 #[.agg #[.string x.s0,.string x.s1,.int .i64 x.kd,.int .i64 x.ty,.int .i64 x.tr,.int .i64 x.tmn,.int .i64 x.tmx,.bool x.th,.int .i64 x.mmn,.int .i64 x.mmx,.bool x.mh,.int .i64 x.gt,.bool x.gm]] w fun e w' => e = .returned (.agg #[.string x.s0,.string x.s1,.int .i64 x.kd,.int .i64 x.ty,.int .i64 x.tr,.int .i64 x.tmn,.int .i64 x.tmx,.bool x.th,.int .i64 x.mmn,.int .i64 x.mmx,.bool x.mh,.int .i64 x.gt,.bool x.gm]) ∧ Below w.heap.size w w' := by
 rcases x with ⟨a0,a1,a2,a3,a4,a5,a6,a7,a8,a9,a10,a11,a12⟩
 dsimp only
 have HX := hid ((CA.new w #[.string a0,.string a1,.int .i64 a2,.int .i64 a3,.int .i64 a4,.int .i64 a5,.int .i64 a6,.bool a7,.int .i64 a8,.int .i64 a9,.bool a10,.int .i64 a11,.bool a12] 74).alloc (.cells #[.string ⟨#[]⟩,.string ⟨#[]⟩,.int .i64 0,.int .i64 0,.int .i64 0,.int .i64 0,.int .i64 0,.bool false,.int .i64 0,.int .i64 0,.bool false,.int .i64 0,.bool false] 74))
 have HZ := hid (CA.new (w.alloc (.cells #[.string a0,.string a1,.int .i64 a2,.int .i64 a3,.int .i64 a4,.int .i64 a5,.int .i64 a6,.bool a7,.int .i64 a8,.int .i64 a9,.bool a10,.int .i64 a11,.bool a12] 74)) #[.string ⟨#[]⟩,.string ⟨#[]⟩,.int .i64 0,.int .i64 0,.int .i64 0,.int .i64 0,.int .i64 0,.bool false,.int .i64 0,.int .i64 0,.bool false,.int .i64 0,.bool false] 74)
 rw [size_al] at HZ
 have HB := hid (((Below.refl w.heap.size w).alloc (Nat.le_refl _) (.cells #[.string a0,.string a1,.int .i64 a2,.int .i64 a3,.int .i64 a4,.int .i64 a5,.int .i64 a6,.bool a7,.int .i64 a8,.int .i64 a9,.bool a10,.int .i64 a11,.bool a12] 74)).alloc (by rw [size_al]; omega) (.cells #[.string ⟨#[]⟩,.string ⟨#[]⟩,.int .i64 0,.int .i64 0,.int .i64 0,.int .i64 0,.int .i64 0,.bool false,.int .i64 0,.int .i64 0,.bool false,.int .i64 0,.bool false] 74))
 go_enter Tryz.func63,Tryz.ntmps63
 go_upto_region 1 with fail
 generalize ((w.alloc (.cells #[.string a0,.string a1,.int .i64 a2,.int .i64 a3,.int .i64 a4,.int .i64 a5,.int .i64 a6,.bool a7,.int .i64 a8,.int .i64 a9,.bool a10,.int .i64 a11,.bool a12] 74)).alloc (.cells #[.string ⟨#[]⟩,.string ⟨#[]⟩,.int .i64 0,.int .i64 0,.int .i64 0,.int .i64 0,.int .i64 0,.bool false,.int .i64 0,.int .i64 0,.bool false,.int .i64 0,.bool false] 74)) = W0 at *
 have x0 := HX.out.at (k := 0) (v := .string a0) rfl
 have z0 := HZ.out.at (k := 0) (v := .string ⟨#[]⟩) rfl
 have f0 := HZ.out.free 0
 have x1 := HX.out.at (k := 1) (v := .string a1) rfl
 have z1 := HZ.out.at (k := 1) (v := .string ⟨#[]⟩) rfl
 have f1 := HZ.out.free 1
 have x2 := HX.out.at (k := 2) (v := .int .i64 a2) rfl
 have z2 := HZ.out.at (k := 2) (v := .int .i64 0) rfl
 have f2 := HZ.out.free 2
 have x3 := HX.out.at (k := 3) (v := .int .i64 a3) rfl
 have z3 := HZ.out.at (k := 3) (v := .int .i64 0) rfl
 have f3 := HZ.out.free 3
 have x4 := HX.out.at (k := 4) (v := .int .i64 a4) rfl
 have z4 := HZ.out.at (k := 4) (v := .int .i64 0) rfl
 have f4 := HZ.out.free 4
 have x5 := HX.out.at (k := 5) (v := .int .i64 a5) rfl
 have z5 := HZ.out.at (k := 5) (v := .int .i64 0) rfl
 have f5 := HZ.out.free 5
 have x6 := HX.out.at (k := 6) (v := .int .i64 a6) rfl
 have z6 := HZ.out.at (k := 6) (v := .int .i64 0) rfl
 have f6 := HZ.out.free 6
 have x7 := HX.out.at (k := 7) (v := .bool a7) rfl
 have z7 := HZ.out.at (k := 7) (v := .bool false) rfl
 have f7 := HZ.out.free 7
 have x8 := HX.out.at (k := 8) (v := .int .i64 a8) rfl
 have z8 := HZ.out.at (k := 8) (v := .int .i64 0) rfl
 have f8 := HZ.out.free 8
 have x9 := HX.out.at (k := 9) (v := .int .i64 a9) rfl
 have z9 := HZ.out.at (k := 9) (v := .int .i64 0) rfl
 have f9 := HZ.out.free 9
 have x10 := HX.out.at (k := 10) (v := .bool a10) rfl
 have z10 := HZ.out.at (k := 10) (v := .bool false) rfl
 have f10 := HZ.out.free 10
 have x11 := HX.out.at (k := 11) (v := .int .i64 a11) rfl
 have z11 := HZ.out.at (k := 11) (v := .int .i64 0) rfl
 have f11 := HZ.out.free 11
 have x12 := HX.out.at (k := 12) (v := .bool a12) rfl
 have z12 := HZ.out.at (k := 12) (v := .bool false) rfl
 have f12 := HZ.out.free 12
 go_wp2
 have hS := setL_ok 74 (w.heap.size + 1) 13 [.string a0,.string a1,.int .i64 a2,.int .i64 a3,.int .i64 a4,.int .i64 a5,.int .i64 a6,.bool a7,.int .i64 a8,.int .i64 a9,.bool a10,.int .i64 a11,.bool a12] 0 W0 #[.string ⟨#[]⟩,.string ⟨#[]⟩,.int .i64 0,.int .i64 0,.int .i64 0,.int .i64 0,.int .i64 0,.bool false,.int .i64 0,.int .i64 0,.bool false,.int .i64 0,.bool false] HZ.out rfl (by simp)
 have r0 := hS.here 0 _ rfl
 have r1 := hS.here 1 _ rfl
 have r2 := hS.here 2 _ rfl
 have r3 := hS.here 3 _ rfl
 have r4 := hS.here 4 _ rfl
 have r5 := hS.here 5 _ rfl
 have r6 := hS.here 6 _ rfl
 have r7 := hS.here 7 _ rfl
 have r8 := hS.here 8 _ rfl
 have r9 := hS.here 9 _ rfl
 have r10 := hS.here 10 _ rfl
 have r11 := hS.here 11 _ rfl
 have r12 := hS.here 12 _ rfl
 simp only [setL,Nat.zero_add] at r0 r1 r2 r3 r4 r5 r6 r7 r8 r9 r10 r11 r12
 have hb : Below w.heap.size w (setL W0 (w.heap.size + 1) 0 [.string a0,.string a1,.int .i64 a2,.int .i64 a3,.int .i64 a4,.int .i64 a5,.int .i64 a6,.bool a7,.int .i64 a8,.int .i64 a9,.bool a10,.int .i64 a11,.bool a12]) := (((((((((((((HB.out.setCell (p := ⟨w.heap.size + 1,0,none⟩) (Nat.le_succ _) (.string a0)).setCell (p := ⟨w.heap.size + 1,1,none⟩) (Nat.le_succ _) (.string a1)).setCell (p := ⟨w.heap.size + 1,2,none⟩) (Nat.le_succ _) (.int .i64 a2)).setCell (p := ⟨w.heap.size + 1,3,none⟩) (Nat.le_succ _) (.int .i64 a3)).setCell (p := ⟨w.heap.size + 1,4,none⟩) (Nat.le_succ _) (.int .i64 a4)).setCell (p := ⟨w.heap.size + 1,5,none⟩) (Nat.le_succ _) (.int .i64 a5)).setCell (p := ⟨w.heap.size + 1,6,none⟩) (Nat.le_succ _) (.int .i64 a6)).setCell (p := ⟨w.heap.size + 1,7,none⟩) (Nat.le_succ _) (.bool a7)).setCell (p := ⟨w.heap.size + 1,8,none⟩) (Nat.le_succ _) (.int .i64 a8)).setCell (p := ⟨w.heap.size + 1,9,none⟩) (Nat.le_succ _) (.int .i64 a9)).setCell (p := ⟨w.heap.size + 1,10,none⟩) (Nat.le_succ _) (.bool a10)).setCell (p := ⟨w.heap.size + 1,11,none⟩) (Nat.le_succ _) (.int .i64 a11)).setCell (p := ⟨w.heap.size + 1,12,none⟩) (Nat.le_succ _) (.bool a12))
 exact bodyPost_ret (v := .agg #[.string a0,.string a1,.int .i64 a2,.int .i64 a3,.int .i64 a4,.int .i64 a5,.int .i64 a6,.bool a7,.int .i64 a8,.int .i64 a9,.bool a10,.int .i64 a11,.bool a12]) (by simp [results,Tryz.results63,go_sem,r0,r1,r2,r3,r4,r5,r6,r7,r8,r9,r10,r11,r12]) rfl ⟨rfl,hb⟩
set_option maxHeartbeats 4000000 in
theorem itself_tb (x : ETab) (w : World) : Calls Tryz.prog 67 #[.agg #[.int .i64 x.r,.int .i64 x.mn,.int .i64 x.mx,.bool x.h]] w fun e w' => e = .returned (.agg #[.int .i64 x.r,.int .i64 x.mn,.int .i64 x.mx,.bool x.h]) ∧ Below w.heap.size w w' := by
 rcases x with ⟨a0,a1,a2,a3⟩
 dsimp only
 have HX := hid ((CA.new w #[.int .i64 a0,.int .i64 a1,.int .i64 a2,.bool a3] 72).alloc (.cells #[.int .i64 0,.int .i64 0,.int .i64 0,.bool false] 72))
 have HZ := hid (CA.new (w.alloc (.cells #[.int .i64 a0,.int .i64 a1,.int .i64 a2,.bool a3] 72)) #[.int .i64 0,.int .i64 0,.int .i64 0,.bool false] 72)
 rw [size_al] at HZ
 have HB := hid (((Below.refl w.heap.size w).alloc (Nat.le_refl _) (.cells #[.int .i64 a0,.int .i64 a1,.int .i64 a2,.bool a3] 72)).alloc (by rw [size_al]; omega) (.cells #[.int .i64 0,.int .i64 0,.int .i64 0,.bool false] 72))
 go_enter Tryz.func67,Tryz.ntmps67
 go_upto_region 1 with fail
 generalize ((w.alloc (.cells #[.int .i64 a0,.int .i64 a1,.int .i64 a2,.bool a3] 72)).alloc (.cells #[.int .i64 0,.int .i64 0,.int .i64 0,.bool false] 72)) = W0 at *
 have x0 := HX.out.at (k := 0) (v := .int .i64 a0) rfl
 have z0 := HZ.out.at (k := 0) (v := .int .i64 0) rfl
 have f0 := HZ.out.free 0
 have x1 := HX.out.at (k := 1) (v := .int .i64 a1) rfl
 have z1 := HZ.out.at (k := 1) (v := .int .i64 0) rfl
 have f1 := HZ.out.free 1
 have x2 := HX.out.at (k := 2) (v := .int .i64 a2) rfl
 have z2 := HZ.out.at (k := 2) (v := .int .i64 0) rfl
 have f2 := HZ.out.free 2
 have x3 := HX.out.at (k := 3) (v := .bool a3) rfl
 have z3 := HZ.out.at (k := 3) (v := .bool false) rfl
 have f3 := HZ.out.free 3
 go_wp2
 have hS := setL_ok 72 (w.heap.size + 1) 4 [.int .i64 a0,.int .i64 a1,.int .i64 a2,.bool a3] 0 W0 #[.int .i64 0,.int .i64 0,.int .i64 0,.bool false] HZ.out rfl (by simp)
 have r0 := hS.here 0 _ rfl
 have r1 := hS.here 1 _ rfl
 have r2 := hS.here 2 _ rfl
 have r3 := hS.here 3 _ rfl
 simp only [setL,Nat.zero_add] at r0 r1 r2 r3
 have hb : Below w.heap.size w (setL W0 (w.heap.size + 1) 0 [.int .i64 a0,.int .i64 a1,.int .i64 a2,.bool a3]) := ((((HB.out.setCell (p := ⟨w.heap.size + 1,0,none⟩) (Nat.le_succ _) (.int .i64 a0)).setCell (p := ⟨w.heap.size + 1,1,none⟩) (Nat.le_succ _) (.int .i64 a1)).setCell (p := ⟨w.heap.size + 1,2,none⟩) (Nat.le_succ _) (.int .i64 a2)).setCell (p := ⟨w.heap.size + 1,3,none⟩) (Nat.le_succ _) (.bool a3))
 exact bodyPost_ret (v := .agg #[.int .i64 a0,.int .i64 a1,.int .i64 a2,.bool a3]) (by simp [results,Tryz.results67,go_sem,r0,r1,r2,r3]) rfl ⟨rfl,hb⟩
set_option maxHeartbeats 4000000 in
theorem itself_m (x : ELim) (w : World) : Calls Tryz.prog 69 #[.agg #[.int .i64 x.mn,.int .i64 x.mx,.bool x.h]] w fun e w' => e = .returned (.agg #[.int .i64 x.mn,.int .i64 x.mx,.bool x.h]) ∧ Below w.heap.size w w' := by
 rcases x with ⟨a0,a1,a2⟩
 dsimp only
 have HX := hid ((CA.new w #[.int .i64 a0,.int .i64 a1,.bool a2] 70).alloc (.cells #[.int .i64 0,.int .i64 0,.bool false] 70))
 have HZ := hid (CA.new (w.alloc (.cells #[.int .i64 a0,.int .i64 a1,.bool a2] 70)) #[.int .i64 0,.int .i64 0,.bool false] 70)
 rw [size_al] at HZ
 have HB := hid (((Below.refl w.heap.size w).alloc (Nat.le_refl _) (.cells #[.int .i64 a0,.int .i64 a1,.bool a2] 70)).alloc (by rw [size_al]; omega) (.cells #[.int .i64 0,.int .i64 0,.bool false] 70))
 go_enter Tryz.func69,Tryz.ntmps69
 go_upto_region 1 with fail
 generalize ((w.alloc (.cells #[.int .i64 a0,.int .i64 a1,.bool a2] 70)).alloc (.cells #[.int .i64 0,.int .i64 0,.bool false] 70)) = W0 at *
 have x0 := HX.out.at (k := 0) (v := .int .i64 a0) rfl
 have z0 := HZ.out.at (k := 0) (v := .int .i64 0) rfl
 have f0 := HZ.out.free 0
 have x1 := HX.out.at (k := 1) (v := .int .i64 a1) rfl
 have z1 := HZ.out.at (k := 1) (v := .int .i64 0) rfl
 have f1 := HZ.out.free 1
 have x2 := HX.out.at (k := 2) (v := .bool a2) rfl
 have z2 := HZ.out.at (k := 2) (v := .bool false) rfl
 have f2 := HZ.out.free 2
 go_wp2
 have hS := setL_ok 70 (w.heap.size + 1) 3 [.int .i64 a0,.int .i64 a1,.bool a2] 0 W0 #[.int .i64 0,.int .i64 0,.bool false] HZ.out rfl (by simp)
 have r0 := hS.here 0 _ rfl
 have r1 := hS.here 1 _ rfl
 have r2 := hS.here 2 _ rfl
 simp only [setL,Nat.zero_add] at r0 r1 r2
 have hb : Below w.heap.size w (setL W0 (w.heap.size + 1) 0 [.int .i64 a0,.int .i64 a1,.bool a2]) := (((HB.out.setCell (p := ⟨w.heap.size + 1,0,none⟩) (Nat.le_succ _) (.int .i64 a0)).setCell (p := ⟨w.heap.size + 1,1,none⟩) (Nat.le_succ _) (.int .i64 a1)).setCell (p := ⟨w.heap.size + 1,2,none⟩) (Nat.le_succ _) (.bool a2))
 exact bodyPost_ret (v := .agg #[.int .i64 a0,.int .i64 a1,.bool a2]) (by simp [results,Tryz.results69,go_sem,r0,r1,r2]) rfl ⟨rfl,hb⟩
set_option maxHeartbeats 4000000 in
theorem itself_x (x : EExp) (w : World) : Calls Tryz.prog 73 #[.agg #[.string x.s,.int .i64 x.k,.int .i64 x.ix]] w fun e w' => e = .returned (.agg #[.string x.s,.int .i64 x.k,.int .i64 x.ix]) ∧ Below w.heap.size w w' := by
 rcases x with ⟨a0,a1,a2⟩
 dsimp only
 have HX := hid ((CA.new w #[.string a0,.int .i64 a1,.int .i64 a2] 76).alloc (.cells #[.string ⟨#[]⟩,.int .i64 0,.int .i64 0] 76))
 have HZ := hid (CA.new (w.alloc (.cells #[.string a0,.int .i64 a1,.int .i64 a2] 76)) #[.string ⟨#[]⟩,.int .i64 0,.int .i64 0] 76)
 rw [size_al] at HZ
 have HB := hid (((Below.refl w.heap.size w).alloc (Nat.le_refl _) (.cells #[.string a0,.int .i64 a1,.int .i64 a2] 76)).alloc (by rw [size_al]; omega) (.cells #[.string ⟨#[]⟩,.int .i64 0,.int .i64 0] 76))
 go_enter Tryz.func73,Tryz.ntmps73
 go_upto_region 1 with fail
 generalize ((w.alloc (.cells #[.string a0,.int .i64 a1,.int .i64 a2] 76)).alloc (.cells #[.string ⟨#[]⟩,.int .i64 0,.int .i64 0] 76)) = W0 at *
 have x0 := HX.out.at (k := 0) (v := .string a0) rfl
 have z0 := HZ.out.at (k := 0) (v := .string ⟨#[]⟩) rfl
 have f0 := HZ.out.free 0
 have x1 := HX.out.at (k := 1) (v := .int .i64 a1) rfl
 have z1 := HZ.out.at (k := 1) (v := .int .i64 0) rfl
 have f1 := HZ.out.free 1
 have x2 := HX.out.at (k := 2) (v := .int .i64 a2) rfl
 have z2 := HZ.out.at (k := 2) (v := .int .i64 0) rfl
 have f2 := HZ.out.free 2
 go_wp2
 have hS := setL_ok 76 (w.heap.size + 1) 3 [.string a0,.int .i64 a1,.int .i64 a2] 0 W0 #[.string ⟨#[]⟩,.int .i64 0,.int .i64 0] HZ.out rfl (by simp)
 have r0 := hS.here 0 _ rfl
 have r1 := hS.here 1 _ rfl
 have r2 := hS.here 2 _ rfl
 simp only [setL,Nat.zero_add] at r0 r1 r2
 have hb : Below w.heap.size w (setL W0 (w.heap.size + 1) 0 [.string a0,.int .i64 a1,.int .i64 a2]) := (((HB.out.setCell (p := ⟨w.heap.size + 1,0,none⟩) (Nat.le_succ _) (.string a0)).setCell (p := ⟨w.heap.size + 1,1,none⟩) (Nat.le_succ _) (.int .i64 a1)).setCell (p := ⟨w.heap.size + 1,2,none⟩) (Nat.le_succ _) (.int .i64 a2))
 exact bodyPost_ret (v := .agg #[.string a0,.int .i64 a1,.int .i64 a2]) (by simp [results,Tryz.results73,go_sem,r0,r1,r2]) rfl ⟨rfl,hb⟩
section
variable {B : Nat} {w : World}
theorem cpy_t {x : ETyp} (hx : x.ok B w) (hB : B ≤ w.heap.size) (h1 : x.a.length ≤ 1000) (h2 : x.b.length ≤ 1000) : Calls Tryz.prog 61 #[.agg #[.slice x.pa x.a.length x.ca,.slice x.pb x.b.length x.cb]] w fun e w' => ∃ q0 q1 : Sl,e = .returned (.agg #[.slice q0.1 q0.2.1 q0.2.2,.slice q1.1 q1.2.1 q1.2.2]) ∧ (LP w.heap.size w' (.slice q0.1 q0.2.1 q0.2.2) x.a ∧ LP w.heap.size w' (.slice q1.1 q1.2.1 q1.2.2) x.b) ∧ Below w.heap.size w w' := by
 refine (cpFuncType (fun s q w => LP s w (.slice q.1 q.2.1 q.2.2) x.a) (fun s s' q W h1 h2 => h2.mono h1) (fun s q W W' h1 h2 => h2.up h1) (fun s q w => LP s w (.slice q.1 q.2.1 q.2.2) x.b) (fun s s' q W h1 h2 => h2.mono h1) (fun s q W W' h1 h2 => h2.up h1) _ _ _ _ _ _ w ?_ ?_).mono ?_
 ·exact fun W h => copyInts_says x.a x.pa x.ca B W (Nat.le_trans hB h.size) (by omega) (hx.h0.1.below (h.mono hB))
 ·exact fun W h => copyInts_says x.b x.pb x.cb B W (Nat.le_trans hB h.size) (by omega) (hx.h1.1.below (h.mono hB))
 ·rintro e w' ⟨q0,q1,rfl,h0,h1,hb⟩
  exact ⟨q0,q1,rfl,⟨h0,h1⟩,hb⟩
theorem cpy_f {x : EFun} (hx : x.ok B w) (hB : B ≤ w.heap.size) (h1 : 0 ≤ wg x.f 0 3000) (h2 : x.l.length ≤ 60000) : Calls Tryz.prog 65 #[.agg #[.int .i64 x.ty,.slice x.pl x.l.length x.cl,.slice x.pf x.f.len x.cf]] w fun e w' => ∃ q0 q1 : Sl,e = .returned (.agg #[.int .i64 x.ty,.slice q0.1 q0.2.1 q0.2.2,.slice q1.1 q1.2.1 q1.2.2]) ∧ (LP w.heap.size w' (.slice q0.1 q0.2.1 q0.2.2) x.l ∧ SP w.heap.size w' (.slice q1.1 q1.2.1 q1.2.2) x.f) ∧ Below w.heap.size w w' := by
 refine (cpFunc (fun s q w => LP s w (.slice q.1 q.2.1 q.2.2) x.l) (fun s s' q W h1 h2 => h2.mono h1) (fun s q W W' h1 h2 => h2.up h1) (fun s q w => SP s w (.slice q.1 q.2.1 q.2.2) x.f) (fun s s' q W h1 h2 => h2.mono h1) (fun s q W W' h1 h2 => h2.up h1) _ _ _ _ _ _ _ w ?_ ?_).mono ?_
 ·exact fun W h => copyInts_says x.l x.pl x.cl B W (Nat.le_trans hB h.size) (by omega) (hx.h1.1.below (h.mono hB))
 ·exact fun W h => copyCode_says x.f h1 x.pf x.cf B W (Nat.le_trans hB h.size) (hx.h2.1.below (h.mono hB))
 ·rintro e w' ⟨q0,q1,rfl,h0,h1,hb⟩
  exact ⟨q0,q1,rfl,⟨h0,h1⟩,hb⟩
theorem cpy_g {x : EGlo} (hx : x.ok B w) (hB : B ≤ w.heap.size) (h1 : 0 ≤ wg x.f 0 3000) : Calls Tryz.prog 71 #[.agg #[.int .i64 x.t,.bool x.m,.slice x.pf x.f.len x.cf]] w fun e w' => ∃ q0 : Sl,e = .returned (.agg #[.int .i64 x.t,.bool x.m,.slice q0.1 q0.2.1 q0.2.2]) ∧ SP w.heap.size w' (.slice q0.1 q0.2.1 q0.2.2) x.f ∧ Below w.heap.size w w' :=
 cpGlobal (fun s q w => SP s w (.slice q.1 q.2.1 q.2.2) x.f) (fun s s' q W h1 h2 => h2.mono h1) (fun s q W W' h1 h2 => h2.up h1) _ _ _ _ _ w
  (fun W h => copyCode_says x.f h1 x.pf x.cf B W (Nat.le_trans hB h.size) (hx.h1.1.below (h.mono hB)))
def XK (x : EElm) (s : Nat) (q : Sl) (W : World) : Prop := ∃ e : EElm,q = (e.pg,e.ng,e.cg) ∧ e.ng = x.ng ∧ (∀ k,k < e.ng → e.g k = x.g k) ∧ KP2 s W e
theorem cpy_K {x : EElm} (hx : KO B w x.pg x.ng x.bg x.og x.g x.qg x.dg) (hB : B ≤ w.heap.size) (h1 : x.ng ≤ 100) (h2 : ∀ k,k < x.ng → 0 ≤ wg (x.g k) 0 3000) : Calls Tryz.prog 160 #[.slice x.pg x.ng x.cg,.func (.func 159) #[] #[]] w fun e w' => ∃ q : Sl,e = .returned (.slice q.1 q.2.1 q.2.2) ∧ XK x w.heap.size q w' ∧ Below w.heap.size w w' := by
 refine (cp_cs 159 (fun _ _ => rfl) (fun i s q W => SP s W (.slice q.1 q.2.1 q.2.2) (x.g i)) (fun j s s' q W h1 h2 => h2.mono h1) (fun j s q W W' h1 h2 => h2.up h1) x.ng x.cg x.bg x.og x.pg x.qg (fun i => (x.g i).len) x.dg w (by omega) (fun h => ⟨(hx.1.2.1 h).1,Nat.lt_of_lt_of_le (hx.1.2.1 h).2 hB⟩) (fun i hi => by have := hx.1.2.2 i hi 0 _ rfl; rw [Nat.mul_one] at this; exact this) (fun i hi W hW => copyCode_says (x.g i) (h2 i hi) (x.qg i) (x.dg i) B W (Nat.le_trans hB hW.size) ((hx.2 i hi).1.below (hW.mono hB)))).mono ?_
 rintro e w' ⟨⟨p,c,b,rfl,hp,hall⟩,hb⟩
 have h3 : ∀ i,∃ q : Sl,i < x.ng → (w'.cell? ⟨b,i,none⟩ = some (.slice q.1 (x.g i).len q.2.2) ∧ SP w.heap.size w' (.slice q.1 (x.g i).len q.2.2) (x.g i)) := by
  intro i
  by_cases hi : i < x.ng
  ·obtain ⟨q,hc,hs⟩ := hall i hi
   have hl := hs.len
   have := hc 0 _ rfl
   refine ⟨q,fun _ => ?_⟩
   rw [hl] at this hs
   exact ⟨this,hs⟩
  ·exact ⟨(none,0,0),fun h => absurd h hi⟩
 obtain ⟨Q,hQ⟩ := Classical.axiomOfChoice h3
 refine ⟨(p,x.ng,c),rfl,⟨⟨x.r,x.m,x.t,x.f,x.pf,x.cf,x.ng,p,c,b,0,x.g,fun k => (Q k).1,fun k => (Q k).2.2⟩,rfl,rfl,fun _ _ => rfl,⟨fun h => ⟨(hp h).1,(hp h).2.1⟩,fun k hk => ?_⟩⟩,hb⟩
 have := hQ k hk
 exact ⟨by simpa using this.1,this.2⟩
theorem cpy_e {x : EElm} (hx : x.ok B w) (hB : B ≤ w.heap.size) (h0 : 0 ≤ wg x.f 0 3000) (h1 : x.ng ≤ 100) (h2 : ∀ k,k < x.ng → 0 ≤ wg (x.g k) 0 3000) : Calls Tryz.prog 75 #[.agg #[.int .i64 x.r,.int .i64 x.m,.int .i64 x.t,.slice x.pf x.f.len x.cf,.slice x.pg x.ng x.cg]] w fun e w' => ∃ q0 q1 : Sl,e = .returned (.agg #[.int .i64 x.r,.int .i64 x.m,.int .i64 x.t,.slice q0.1 q0.2.1 q0.2.2,.slice q1.1 q1.2.1 q1.2.2]) ∧ (SP w.heap.size w' (.slice q0.1 q0.2.1 q0.2.2) x.f ∧ XK x w.heap.size q1 w') ∧ Below w.heap.size w w' := by
 refine (cpElem (fun s q w => SP s w (.slice q.1 q.2.1 q.2.2) x.f) (fun s s' q W h1 h2 => h2.mono h1) (fun s q W W' h1 h2 => h2.up h1) (fun s q w => XK x s q w) (fun s s' q W h1 ⟨e,a,b,c,d⟩ => ⟨e,a,b,c,d.mono h1⟩) (fun s q W W' h1 ⟨e,a,b,c,d⟩ => ⟨e,a,b,c,d.up h1⟩) _ _ _ _ _ _ _ _ _ w ?_ ?_).mono ?_
 ·exact fun W h => copyCode_says x.f h0 x.pf x.cf B W (Nat.le_trans hB h.size) (hx.h3.1.below (h.mono hB))
 ·exact fun W h => cpy_K (hx.h4.below (h.mono hB)) (Nat.le_trans hB h.size) h1 h2
 ·rintro e w' ⟨q0,q1,rfl,h0,h1,hb⟩
  exact ⟨q0,q1,rfl,⟨h0,h1⟩,hb⟩
theorem cpy_Y {p : Option Addr} {c : Nat} {l : List UInt8} (hx : YO B w p c l) (hB : B ≤ w.heap.size) (h1 : l.length ≤ 100000) : Calls Tryz.prog 161 #[.slice p l.length c,.func (.func 162) #[] #[]] w fun e w' => ∃ q : Sl,e = .returned (.slice q.1 q.2.1 q.2.2) ∧ (q.2.1 = l.length ∧ YP w.heap.size w' q.1 l) ∧ Below w.heap.size w w' := by
 have row : ∃ g o,(l.length ≠ 0 → p = some ⟨g,o,none⟩ ∧ g < w.heap.size) ∧ ∀ i,i < l.length → w.cell? ⟨g,o + i,none⟩ = some (.int .u8 ((l.getD i 0).toNat : Nat)) := by
  cases l with
  | nil => exact ⟨0,0,fun h => absurd rfl h,fun i hi => absurd hi (Nat.not_lt_zero i)⟩
  | cons a l =>
   obtain ⟨g,o,e,hg,hc⟩ := hx.2 (by simp)
   exact ⟨g,o,fun _ => ⟨e,Nat.lt_of_lt_of_le hg hB⟩,fun i hi => hc i _ (by rw [List.getD_eq_getElem?_getD,List.getElem?_eq_getElem hi]; rfl)⟩
 obtain ⟨g,o,hg,hc⟩ := row
 refine (cp_byte 162 (fun _ _ => rfl) l.length c g o p (fun i => (l.getD i 0).toNat) w (by omega) hg hc (fun i _ W _ => itself_y _ W)).mono ?_
 rintro e w' ⟨⟨p',c',b',rfl,hp,hall⟩,hb⟩
 refine ⟨(p',l.length,c'),rfl,⟨rfl,fun hne => ?_⟩,hb⟩
 have hl0 : l.length ≠ 0 := fun h => hne (List.length_eq_zero_iff.1 h)
 refine ⟨b',0,(hp hl0).1,(hp hl0).2.1,(hp hl0).2.2.2,fun j x hj => ?_⟩
 have hjl := (List.getElem?_eq_some_iff.1 hj).1
 have := hall j hjl 0 _ rfl
 rw [Nat.add_zero,List.getD_eq_getElem?_getD,hj] at this
 rw [Nat.zero_add]
 exact this
theorem cpy_d {x : EDat} (hx : x.ok B w) (hB : B ≤ w.heap.size) (h0 : 0 ≤ wg x.f 0 3000) (h1 : x.b.length ≤ 100000) : Calls Tryz.prog 77 #[.agg #[.int .i64 x.m,.int .i64 x.t,.slice x.pf x.f.len x.cf,.slice x.pb x.b.length x.cb]] w fun e w' => ∃ q0 q1 : Sl,e = .returned (.agg #[.int .i64 x.m,.int .i64 x.t,.slice q0.1 q0.2.1 q0.2.2,.slice q1.1 q1.2.1 q1.2.2]) ∧ (SP w.heap.size w' (.slice q0.1 q0.2.1 q0.2.2) x.f ∧ q1.2.1 = x.b.length ∧ YP w.heap.size w' q1.1 x.b) ∧ Below w.heap.size w w' := by
 refine (cpData (fun s q w => SP s w (.slice q.1 q.2.1 q.2.2) x.f) (fun s s' q W h1 h2 => h2.mono h1) (fun s q W W' h1 h2 => h2.up h1) (fun s q w => q.2.1 = x.b.length ∧ YP s w q.1 x.b) (fun s s' q W h1 h2 => ⟨h2.1,h2.2.mono h1⟩) (fun s q W W' h1 h2 => ⟨h2.1,h2.2.up h1⟩) _ _ _ _ _ _ _ _ w ?_ ?_).mono ?_
 ·exact fun W h => copyCode_says x.f h0 x.pf x.cf B W (Nat.le_trans hB h.size) (hx.h2.1.below (h.mono hB))
 ·exact fun W h => cpy_Y (hx.h3.below (h.mono hB)) (Nat.le_trans hB h.size) h1
 ·rintro e w' ⟨q0,q1,rfl,h0,h1,hb⟩
  exact ⟨q0,q1,rfl,⟨h0,h1⟩,hb⟩
end
end Go.Proofs.YtjgeedgphcjhoaaGreat
