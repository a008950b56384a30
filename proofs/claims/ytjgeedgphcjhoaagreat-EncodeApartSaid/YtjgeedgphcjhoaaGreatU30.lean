/-
  WMod1: merged, what the law does not reach left out (each text says what it holds where it lies in wip). No condition.
-/
import Derived.Test.YtjgeedgphcjhoaaGreatU28
import Derived.Test.YtjgeedgphcjhoaaGreatU29
import Derived.Test.YtjgeedgphcjhoaaGreatU01
set_option linter.unusedSimpArgs false
set_option linter.unusedVariables false
set_option maxRecDepth 100000
namespace Go.Proofs.YtjgeedgphcjhoaaGreat
open Go.RowKit
theorem few_siz {f : Fo} (h : 0 ≤ wg f 0 3000) : f.siz ≤ 61200000 := by
 have h1 := wg_siz f 0 3000 h
 have h2 := few_cnt f h
 have : 20400 * f.cnt ≤ 20400 * 3000 := Nat.mul_le_mul_left _ h2
 omega
theorem place_ok {m t top : Int} {f : Fo} (h : placeB m t (codeB f) f.len top = true) (hr : RN f) : okE f ∧ 0 ≤ m ∧ m ≤ top ∨ m = 0 ∧ okE f := by
 unfold placeB at h
 split at h
 ·rename_i h0
  simp only [Bool.and_eq_true] at h
  exact .inr ⟨h0,okE_code f h.2 hr⟩
 simp only [Bool.and_eq_true,decide_eq_true_eq,beq_iff_eq] at h
 obtain ⟨⟨h1,h2⟩,_,h3⟩ := h
 have : f = .nil := by
  match f,h3 with
  | .nil,_ => rfl
  | .cons _ _ _ _ _ _ _ _ _ _,h3 => simp only [Fo.len] at h3; omega
 subst this
 exact .inl ⟨trivial,by omega,h2⟩
structure MayF (M : MD) : Prop where
 im : ∀ i,i < M.imn → kindB (M.im i).kd = true
 f : ∀ i,i < M.fn → okE (M.f i).f
 g : ∀ i,i < M.gn → okE (M.g i).f
 e : ∀ i,i < M.en → okE (M.e i).f ∧ 0 ≤ (M.e i).m ∧ (M.e i).m ≤ 2
 ek : ∀ i,i < M.en → ∀ k,k < (M.e i).ng → okE ((M.e i).g k)
 d : ∀ i,i < M.dn → okE (M.d i).f ∧ 0 ≤ (M.d i).m ∧ (M.d i).m ≤ 1
theorem may_f {M : MD} {B : Nat} {w : World} (h : M.ok B w) (hm : mayP M = true) : MayF M := by
 unfold mayP at hm
 simp only [Bool.and_eq_true,List.all_eq_true,List.mem_range] at hm
 obtain ⟨⟨⟨⟨⟨⟨⟨⟨⟨⟨h1,h2⟩,h3⟩,h4⟩,h5⟩,h6⟩,h7⟩,h8⟩,h9⟩,h10⟩,h11⟩ := hm
 refine ⟨fun i hi => ?_,fun i hi => ?_,fun i hi => ?_,fun i hi => ?_,fun i hi k hk => ?_,fun i hi => ?_⟩
 ·have := h2 i hi
  unfold miP impP at this
  unfold kindB
  by_cases a0 : (M.im i).kd = 0
  ·simp [a0]
  by_cases a1 : (M.im i).kd = 1
  ·simp [a1]
  by_cases a2 : (M.im i).kd = 2
  ·simp [a2]
  by_cases a3 : (M.im i).kd = 3
  ·simp [a3]
  simp [a0,a1,a2,a3] at this
 ·have := h3 i hi
  unfold mfP at this
  simp only [Bool.and_eq_true] at this
  exact okE_code _ this.2 (h.fz i hi).h2.2.2.2
 ·have := h6 i hi
  unfold mgP at this
  simp only [Bool.and_eq_true] at this
  exact okE_code _ this.2 (h.gz i hi).h1.2.2.2
 ·have := h9 i hi
  unfold meP at this
  simp only [Bool.and_eq_true] at this
  rcases place_ok this.2 (h.ez i hi).h3.2.2.2 with ⟨a,b,c⟩ | ⟨a,b⟩
  ·exact ⟨a,b,c⟩
  exact ⟨b,by omega,by omega⟩
 ·have := h9 i hi
  unfold meP at this
  simp only [Bool.and_eq_true,List.all_eq_true,List.mem_range] at this
  exact okE_code _ (this.1.2 k hk) ((h.ez i hi).h4.2 k hk).2.2.2
 have := h10 i hi
 unfold mdP at this
 rcases place_ok this (h.dz i hi).h2.2.2.2 with ⟨a,b,c⟩ | ⟨a,b⟩
 ·exact ⟨a,b,c⟩
 exact ⟨b,by omega,by omega⟩
theorem flB_small {n : Nat} {P : Nat → List UInt8} {k : Nat} (hn : n ≤ 100) (h : ∀ i,i < n → (P i).length ≤ k) (hk : k ≤ 10000000000) : (flB n P).length ≤ 1000000000000 := by
 have h1 := flB_bound P k n h
 have h2 : n * k ≤ 100 * k := Nat.mul_le_mul_right _ hn
 omega
set_option maxHeartbeats 4000000 in
theorem elem_says (B g L : Nat) (bs : List UInt8) (e : EElm) (w : World) (hL : L ≤ lo B g) (hk : e.ok L w) (h0 : 0 ≤ wg e.f 0 3000) (hok : okE e.f) (hg : Goods e.ng e.g) (hm : 0 ≤ e.m ∧ e.m ≤ 2) (hw : WR B g bs w) (hn : bs.length ≤ 3000000000000) :
  Calls Tryz.prog 122 #[.pointer (some ⟨g,0,none⟩),.agg #[.int .i64 e.r,.int .i64 e.m,.int .i64 e.t,.slice e.pf e.f.len e.cf,.slice e.pg e.ng e.cg]] w fun x w' => x = .returned (.tuple #[]) ∧ WR B g (bs ++ meL e) w' ∧ FR B g w w' := by
 have hct := few_lt h0
 have hsz := few_siz h0
 have hs := hk.h3.1
 have hko := hk.h4
 rcases e with ⟨r,m,t,f,pf,cf,ng,pg,cg,bg,og,gf,qg,dg⟩
 dsimp only at *
 have hm' : m = 0 ∨ m = 1 ∨ m = 2 := by omega
 cases hb : funsB ⟨r,m,t,f,pf,cf,ng,pg,cg,bg,og,gf,qg,dg⟩ with
 | false =>
  have hfs : ((List.range ng).all (fun k => isFun (gf k)) && ((r : Int) == 112)) = false := hb
  rcases hm' with rfl | rfl | rfl
  ·by_cases ht : t = 0
   ·subst ht
    by_cases hr : r = 112
    ·subst hr
     have := elem_fA B g L bs f pf pg cf cg ng bg og gf qg dg w hL hct hok hsz hs hg hko hfs hw hn
     simpa [meL,hb,codL,show byI 4 = 4 from rfl] using this
    have := elem_fB B g L bs r 0 f pf pg cf cg ng bg og gf qg dg w (.inr hr) hL hct hok hsz hs hg hko hfs hw hn
    simpa [meL,hb,codL,hr,show byI 6 = 6 from rfl] using this
   have := elem_fB B g L bs r t f pf pg cf cg ng bg og gf qg dg w (.inl ht) hL hct hok hsz hs hg hko hfs hw hn
   simpa [meL,hb,codL,ht,show byI 6 = 6 from rfl] using this
  ·have := elem_fC B g L bs r t f pf pg cf cg ng bg og gf qg dg w hL hct hok hsz hs hg hko hfs hw hn
   simpa [meL,hb,codL,show byI 5 = 5 from rfl] using this
  ·have := elem_fD B g L bs r t f pf pg cf cg ng bg og gf qg dg w hL hct hok hsz hs hg hko hfs hw hn
   simpa [meL,hb,codL,show byI 7 = 7 from rfl] using this
 | true =>
  have hfs : ((List.range ng).all (fun k => isFun (gf k)) && ((r : Int) == 112)) = true := hb
  rcases hm' with rfl | rfl | rfl
  ·by_cases ht : t = 0
   ·subst ht
    by_cases hr : r = 112
    ·subst hr
     have := elem_tA B g L bs f pf pg cf cg ng bg og gf qg dg w hL hct hok hsz hs hg hko hfs hw hn
     simpa [meL,hb,codL,show byI 0 = 0 from rfl] using this
    have := elem_tB B g L bs r 0 f pf pg cf cg ng bg og gf qg dg w (.inr hr) hL hct hok hsz hs hg hko hfs hw hn
    simpa [meL,hb,codL,hr,show byI 2 = 2 from rfl,show byI 0 = 0 from rfl] using this
   have := elem_tB B g L bs r t f pf pg cf cg ng bg og gf qg dg w (.inl ht) hL hct hok hsz hs hg hko hfs hw hn
   simpa [meL,hb,codL,ht,show byI 2 = 2 from rfl,show byI 0 = 0 from rfl] using this
  ·have := elem_tC B g L bs r t f pf pg cf cg ng bg og gf qg dg w hL hct hok hsz hs hg hko hfs hw hn
   simpa [meL,hb,codL,show byI 1 = 1 from rfl,show byI 0 = 0 from rfl] using this
  have := elem_tD B g L bs r t f pf pg cf cg ng bg og gf qg dg w hL hct hok hsz hs hg hko hfs hw hn
  simpa [meL,hb,codL,show byI 3 = 3 from rfl,show byI 0 = 0 from rfl] using this
theorem data_says (B g L : Nat) (bs : List UInt8) (e : EDat) (w : World) (hL : L ≤ lo B g) (hk : e.ok L w) (h0 : 0 ≤ wg e.f 0 3000) (hok : okE e.f) (hl : e.b.length ≤ 100000) (hw : WR B g bs w) (hn : bs.length ≤ 3000000000000) :
  Calls Tryz.prog 128 #[.pointer (some ⟨g,0,none⟩),.agg #[.int .i64 e.m,.int .i64 e.t,.slice e.pf e.f.len e.cf,.slice e.pb e.b.length e.cb]] w fun x w' => x = .returned (.tuple #[]) ∧ WR B g (bs ++ mdL e) w' ∧ FR B g w w' := by
 have hct := few_lt h0
 have hsz := few_siz h0
 have hs := hk.h2.1
 have hy := hk.h3
 rcases e with ⟨m,t,f,pf,cf,b,pb,cb⟩
 dsimp only at *
 by_cases hm : m = 1
 ·subst hm
  have := data_P B g L bs t f pf pb cf cb b w hL hct hok hsz hs hl hy hw hn
  simpa [mdL,codL,show byI 1 = 1 from rfl] using this
 by_cases ht : t = 0
 ·subst ht
  have := data_Z B g L bs m f pf pb cf cb b w hm hL hct hok hsz hs hl hy hw hn
  simpa [mdL,codL,hm,show byI 0 = 0 from rfl] using this
 have := data_T B g L bs m t f pf pb cf cb b w hm ht hL hct hok hsz hs hl hy hw hn
 simpa [mdL,codL,hm,ht,show byI 2 = 2 from rfl] using this
theorem lsL_len (l : List Int) (h : l.length ≤ 1000) : (lsL l).length ≤ 1010 := by
 have := uI_len l.length
 unfold lsL
 simp only [List.length_append,List.length_map]
 omega
theorem mtL_len (e : ETyp) (h1 : e.a.length ≤ 1000) (h2 : e.b.length ≤ 1000) : (mtL e).length ≤ 3000 := by
 have := lsL_len e.a h1
 have := lsL_len e.b h2
 unfold mtL
 simp only [List.length_cons,List.length_append]
 omega
theorem miL_len (e : EImp) (h1 : e.s0.size ≤ 1000) (h2 : e.s1.size ≤ 1000) : (miL e).length ≤ 3000 := by
 have := strL_len e.s0
 have := strL_len e.s1
 have := uI_len e.ty
 have := limL_len e.tmn e.tmx e.th
 have := limL_len e.mmn e.mmx e.mh
 unfold miL tabL gloL
 simp only [List.length_append,List.length_cons]
 split
 ·omega
 split
 ·simp only [List.length_cons]; omega
 split
 ·omega
 simp only [List.length_cons,List.length_nil]; omega
theorem meL_len (e : EElm) (h0 : 0 ≤ wg e.f 0 3000) (hok : okE e.f) (hg : Goods e.ng e.g) : (meL e).length ≤ 7000000000 := by
 have h1 := codL_len e.f hok (few_siz h0)
 have h2 := inis_len hg (funsB e)
 have h3 := uI_len e.t
 have h4 := uI_len e.ng
 unfold meL
 simp only [List.length_append]
 split
 ·split <;> simp only [List.length_cons,List.length_append,List.length_nil] <;> omega
 split <;> simp only [List.length_cons,List.length_append,List.length_nil] <;> omega
theorem mdL_len (e : EDat) (h0 : 0 ≤ wg e.f 0 3000) (hok : okE e.f) (hl : e.b.length ≤ 100000) : (mdL e).length ≤ 7000000000 := by
 have h1 := codL_len e.f hok (few_siz h0)
 have h3 := uI_len e.t
 have h4 := uI_len e.b.length
 unfold mdL szL
 simp only [List.length_append]
 split
 ·simp only [List.length_cons,List.length_nil]; omega
 split <;> simp only [List.length_cons,List.length_append,List.length_nil] <;> omega
theorem secM_t (B g bw L : Nat) (M : MD) (W : World) (hL : L ≤ lo B g) (hf : FitM M) (hmf : MayF M) (hM : M.ok L W) (hbw : CA bw #[.pointer (some ⟨g,0,none⟩)] 135 W) (hbg : bw ≠ g) (bs : List UInt8) (hw : WR0 B g bs W) (hn : bs.length ≤ 90000000000000) :
  Calls Tryz.prog 97 #[.pointer (some ⟨g,0,none⟩),.int .i64 1,.slice M.tp M.tn M.tc,.func (.func 98) #[] #[.pointer (some ⟨bw,0,none⟩)]] W fun e w' => e = .returned (.tuple #[]) ∧ WR0 B g (bs ++ secL 1 M.tn (flB M.tn fun i => mtL (M.t i))) w' ∧ FR B g W w' := by
 have hX : (flB M.tn fun i => mtL (M.t i)).length ≤ 1000000000000 := flB_small (k := 3000) hf.tn (fun i hi => mtL_len _ (hf.t i hi).1 (hf.t i hi).2) (by decide)
 refine sec_Typ B g bw 98 L (fun _ _ => rfl) 1 _ M.tp M.tn M.tc M.tg M.tw M.t W hL hM.tr ?_ hX bs hw hn
 intro B' i hi hBB bs' W' hF hW hl
 have k := ((((hM.below ((hF.belowL hw.base).mono hL))).tz i hi))
 exact mc_Typ B' g bw bs' (M.t i).a (M.t i).b (M.t i).pa (M.t i).pb (M.t i).ca (M.t i).cb L W' (le_lo (Nat.le_trans hL (Nat.le_trans (lo_B B g) hBB)) (Nat.le_trans hL (lo_g B g))) k.h0.1 k.h1.1 (hf.t i hi).1 (hf.t i hi).2 hbg (hbw.fr hF (by decide) hbg) hW hl
theorem secM_im (B g bw L : Nat) (M : MD) (W : World) (hL : L ≤ lo B g) (hf : FitM M) (hmf : MayF M) (hM : M.ok L W) (hbw : CA bw #[.pointer (some ⟨g,0,none⟩)] 135 W) (hbg : bw ≠ g) (bs : List UInt8) (hw : WR0 B g bs W) (hn : bs.length ≤ 90000000000000) :
  Calls Tryz.prog 100 #[.pointer (some ⟨g,0,none⟩),.int .i64 2,.slice M.imp M.imn M.imc,.func (.func 101) #[] #[.pointer (some ⟨bw,0,none⟩)]] W fun e w' => e = .returned (.tuple #[]) ∧ WR0 B g (bs ++ secL 2 M.imn (flB M.imn fun i => miL (M.im i))) w' ∧ FR B g W w' := by
 have hX : (flB M.imn fun i => miL (M.im i)).length ≤ 1000000000000 := flB_small (k := 3000) hf.imn (fun i hi => miL_len _ (hf.im i hi).1 (hf.im i hi).2) (by decide)
 refine sec_Imp B g bw 101 L (fun _ _ => rfl) 2 _ M.imp M.imn M.imc M.img M.imw M.im W hL hM.imr ?_ hX bs hw hn
 intro B' i hi hBB bs' W' hF hW hl
 exact mc_Imp B' g bw bs' (M.im i).s0 (M.im i).s1 (M.im i).kd (M.im i).ty (M.im i).tr (M.im i).tmn (M.im i).tmx (M.im i).th (M.im i).mmn (M.im i).mmx (M.im i).mh (M.im i).gt (M.im i).gm W' (hmf.im i hi) (hf.im i hi).1 (hf.im i hi).2 hbg (hbw.fr hF (by decide) hbg) hW hl
theorem secM_fT (B g bw L : Nat) (M : MD) (W : World) (hL : L ≤ lo B g) (hf : FitM M) (hmf : MayF M) (hM : M.ok L W) (hbw : CA bw #[.pointer (some ⟨g,0,none⟩)] 135 W) (hbg : bw ≠ g) (bs : List UInt8) (hw : WR0 B g bs W) (hn : bs.length ≤ 90000000000000) :
  Calls Tryz.prog 103 #[.pointer (some ⟨g,0,none⟩),.int .i64 3,.slice M.fp M.fn M.fc,.func (.func 104) #[] #[.pointer (some ⟨bw,0,none⟩)]] W fun e w' => e = .returned (.tuple #[]) ∧ WR0 B g (bs ++ secL 3 M.fn (flB M.fn fun i => uI (M.f i).ty)) w' ∧ FR B g W w' := by
 have hX : (flB M.fn fun i => uI (M.f i).ty).length ≤ 1000000000000 := flB_small (k := 10) (Nat.le_trans hf.fn (by decide)) (fun i hi => uI_len _) (by decide)
 refine sec_Fun B g bw 104 L (fun _ _ => rfl) 3 _ M.fp M.fn M.fc M.fg M.fw M.f W hL hM.fr ?_ hX bs hw hn
 intro B' i hi hBB bs' W' hF hW hl
 exact mc_FunT B' g bw bs' (M.f i).ty (M.f i).pl (M.f i).pf (M.f i).l.length (M.f i).cl (M.f i).f.len (M.f i).cf W' hbg (hbw.fr hF (by decide) hbg) hW hl
theorem secM_tb (B g bw L : Nat) (M : MD) (W : World) (hL : L ≤ lo B g) (hf : FitM M) (hmf : MayF M) (hM : M.ok L W) (hbw : CA bw #[.pointer (some ⟨g,0,none⟩)] 135 W) (hbg : bw ≠ g) (bs : List UInt8) (hw : WR0 B g bs W) (hn : bs.length ≤ 90000000000000) :
  Calls Tryz.prog 106 #[.pointer (some ⟨g,0,none⟩),.int .i64 4,.slice M.tbp M.tbn M.tbc,.func (.func 107) #[] #[.pointer (some ⟨bw,0,none⟩)]] W fun e w' => e = .returned (.tuple #[]) ∧ WR0 B g (bs ++ secL 4 M.tbn (flB M.tbn fun i => mbL (M.tb i))) w' ∧ FR B g W w' := by
 have hX : (flB M.tbn fun i => mbL (M.tb i)).length ≤ 1000000000000 := flB_small (k := 30) hf.tbn (fun i hi => (by have := limL_len (M.tb i).mn (M.tb i).mx (M.tb i).h; simp only [mbL,tabL,List.length_cons]; omega)) (by decide)
 refine sec_Tab B g bw 107 L (fun _ _ => rfl) 4 _ M.tbp M.tbn M.tbc M.tbg M.tbw M.tb W hL hM.tbr ?_ hX bs hw hn
 intro B' i hi hBB bs' W' hF hW hl
 exact mc_Tab B' g bw bs' (M.tb i).r (M.tb i).mn (M.tb i).mx (M.tb i).h W' hbg (hbw.fr hF (by decide) hbg) hW hl
theorem secM_m (B g bw L : Nat) (M : MD) (W : World) (hL : L ≤ lo B g) (hf : FitM M) (hmf : MayF M) (hM : M.ok L W) (hbw : CA bw #[.pointer (some ⟨g,0,none⟩)] 135 W) (hbg : bw ≠ g) (bs : List UInt8) (hw : WR0 B g bs W) (hn : bs.length ≤ 90000000000000) :
  Calls Tryz.prog 109 #[.pointer (some ⟨g,0,none⟩),.int .i64 5,.slice M.mp M.mn M.mc,.func (.func 110) #[] #[.pointer (some ⟨bw,0,none⟩)]] W fun e w' => e = .returned (.tuple #[]) ∧ WR0 B g (bs ++ secL 5 M.mn (flB M.mn fun i => mlL (M.m i))) w' ∧ FR B g W w' := by
 have hX : (flB M.mn fun i => mlL (M.m i)).length ≤ 1000000000000 := flB_small (k := 30) hf.mn (fun i hi => (by have := limL_len (M.m i).mn (M.m i).mx (M.m i).h; simp only [mlL]; omega)) (by decide)
 refine sec_Lim B g bw 110 L (fun _ _ => rfl) 5 _ M.mp M.mn M.mc M.mg M.mw M.m W hL hM.mr ?_ hX bs hw hn
 intro B' i hi hBB bs' W' hF hW hl
 exact mc_Lim B' g bw bs' (M.m i).mn (M.m i).mx (M.m i).h W' hbg (hbw.fr hF (by decide) hbg) hW hl
theorem secM_g (B g bw L : Nat) (M : MD) (W : World) (hL : L ≤ lo B g) (hf : FitM M) (hmf : MayF M) (hM : M.ok L W) (hbw : CA bw #[.pointer (some ⟨g,0,none⟩)] 135 W) (hbg : bw ≠ g) (bs : List UInt8) (hw : WR0 B g bs W) (hn : bs.length ≤ 90000000000000) :
  Calls Tryz.prog 112 #[.pointer (some ⟨g,0,none⟩),.int .i64 6,.slice M.gp M.gn M.gc,.func (.func 113) #[] #[.pointer (some ⟨bw,0,none⟩)]] W fun e w' => e = .returned (.tuple #[]) ∧ WR0 B g (bs ++ secL 6 M.gn (flB M.gn fun i => mgL (M.g i))) w' ∧ FR B g W w' := by
 have hX : (flB M.gn fun i => mgL (M.g i)).length ≤ 1000000000000 := flB_small (k := 70000000) (Nat.le_trans hf.gn (by decide)) (fun i hi => (by have := codL_len _ (hmf.g i hi) (few_siz (hf.g i hi)); simp only [mgL,gloL,List.length_append,List.length_cons,List.length_nil]; omega)) (by decide)
 refine sec_Glo B g bw 113 L (fun _ _ => rfl) 6 _ M.gp M.gn M.gc M.gg M.gw M.g W hL hM.gr ?_ hX bs hw hn
 intro B' i hi hBB bs' W' hF hW hl
 have k := ((((hM.below ((hF.belowL hw.base).mono hL))).gz i hi))
 exact mc_Glo B' g bw bs' (M.g i).t (M.g i).m (M.g i).f (M.g i).pf (M.g i).cf W' (few_lt (hf.g i hi)) (hmf.g i hi) (few_siz (hf.g i hi)) (SA.mono k.h1.1 (le_lo (Nat.le_trans hL (Nat.le_trans (lo_B B g) hBB)) (Nat.le_trans hL (lo_g B g)))) hbg (hbw.fr hF (by decide) hbg) hW hl
theorem secM_x (B g bw L : Nat) (M : MD) (W : World) (hL : L ≤ lo B g) (hf : FitM M) (hmf : MayF M) (hM : M.ok L W) (hbw : CA bw #[.pointer (some ⟨g,0,none⟩)] 135 W) (hbg : bw ≠ g) (bs : List UInt8) (hw : WR0 B g bs W) (hn : bs.length ≤ 90000000000000) :
  Calls Tryz.prog 115 #[.pointer (some ⟨g,0,none⟩),.int .i64 7,.slice M.xp M.xn M.xc,.func (.func 116) #[] #[.pointer (some ⟨bw,0,none⟩)]] W fun e w' => e = .returned (.tuple #[]) ∧ WR0 B g (bs ++ secL 7 M.xn (flB M.xn fun i => mxL (M.x i))) w' ∧ FR B g W w' := by
 have hX : (flB M.xn fun i => mxL (M.x i)).length ≤ 1000000000000 := flB_small (k := 3000) hf.xn (fun i hi => (by have h1 := strL_len (M.x i).s; have h2 := uI_len (M.x i).ix; have h3 := hf.x i hi; simp only [mxL,List.length_append,List.length_cons]; omega)) (by decide)
 refine sec_Exp B g bw 116 L (fun _ _ => rfl) 7 _ M.xp M.xn M.xc M.xg M.xw M.x W hL hM.xr ?_ hX bs hw hn
 intro B' i hi hBB bs' W' hF hW hl
 exact mc_Exp B' g bw bs' (M.x i).s (M.x i).k (M.x i).ix W' (hf.x i hi) hbg (hbw.fr hF (by decide) hbg) hW hl
theorem secM_e (B g bw L : Nat) (M : MD) (W : World) (hL : L ≤ lo B g) (hf : FitM M) (hmf : MayF M) (hM : M.ok L W) (hbw : CA bw #[.pointer (some ⟨g,0,none⟩)] 135 W) (hbg : bw ≠ g) (bs : List UInt8) (hw : WR0 B g bs W) (hn : bs.length ≤ 90000000000000) :
  Calls Tryz.prog 120 #[.pointer (some ⟨g,0,none⟩),.int .i64 9,.slice M.ep M.en M.ec,.func (.func 121) #[] #[.pointer (some ⟨bw,0,none⟩)]] W fun e w' => e = .returned (.tuple #[]) ∧ WR0 B g (bs ++ secL 9 M.en (flB M.en fun i => meL (M.e i))) w' ∧ FR B g W w' := by
 have goods : ∀ i,i < M.en → Goods (M.e i).ng (M.e i).g := fun i hi => ⟨(hf.e i hi).2,fun k hk => few_lt (hf.ek i hi k hk),hmf.ek i hi,fun k hk => few_siz (hf.ek i hi k hk)⟩
 have hX : (flB M.en fun i => meL (M.e i)).length ≤ 1000000000000 := flB_small (k := 7000000000) (Nat.le_trans hf.en (by decide)) (fun i hi => meL_len _ (hf.e i hi).1 (hmf.e i hi).1 (goods i hi)) (by decide)
 refine sec_Elm B g bw 121 L (fun _ _ => rfl) 9 _ M.ep M.en M.ec M.eg M.ew M.e W hL hM.er ?_ hX bs hw hn
 intro B' i hi hBB bs' W' hF hW hl
 have k := ((((hM.below ((hF.belowL hw.base).mono hL))).ez i hi))
 exact mc_Elm B' g bw bs' (M.e i).r (M.e i).m (M.e i).t (M.e i).f (M.e i).pf (M.e i).pg (M.e i).cf (M.e i).cg (M.e i).ng (meL (M.e i)) W' (fun W2 h2 h3 => elem_says B' g L bs' (M.e i) W2 (le_lo (Nat.le_trans hL (Nat.le_trans (lo_B B g) hBB)) (Nat.le_trans hL (lo_g B g))) (k.below ((h2.belowL hW.1).mono (le_lo (Nat.le_trans hL (Nat.le_trans (lo_B B g) hBB)) (Nat.le_trans hL (lo_g B g))))) (hf.e i hi).1 (hmf.e i hi).1 (goods i hi) ⟨(hmf.e i hi).2.1,(hmf.e i hi).2.2⟩ h3 hl) hbg (hbw.fr hF (by decide) hbg) hW hl
theorem secM_fF (B g bw L : Nat) (M : MD) (W : World) (hL : L ≤ lo B g) (hf : FitM M) (hmf : MayF M) (hM : M.ok L W) (hbw : CA bw #[.pointer (some ⟨g,0,none⟩)] 135 W) (hbg : bw ≠ g) (bs : List UInt8) (hw : WR0 B g bs W) (hn : bs.length ≤ 90000000000000) :
  Calls Tryz.prog 103 #[.pointer (some ⟨g,0,none⟩),.int .i64 10,.slice M.fp M.fn M.fc,.func (.func 124) #[] #[.pointer (some ⟨bw,0,none⟩)]] W fun e w' => e = .returned (.tuple #[]) ∧ WR0 B g (bs ++ secL 10 M.fn (flB M.fn fun i => mfL (M.f i))) w' ∧ FR B g W w' := by
 have hX : (flB M.fn fun i => mfL (M.f i)).length ≤ 1000000000000 := flB_small (k := 80000000) (Nat.le_trans hf.fn (by decide)) (fun i hi => (by have h1 := mfX_len (M.f i).l (M.f i).f (hf.f i hi).2 (hmf.f i hi) (few_siz (hf.f i hi).1); have h2 := uI_len (locL (M.f i).l ++ codL (M.f i).f).length; unfold mfL szL; rw [List.length_append]; omega)) (by decide)
 refine sec_Fun B g bw 124 L (fun _ _ => rfl) 10 _ M.fp M.fn M.fc M.fg M.fw M.f W hL hM.fr ?_ hX bs hw hn
 intro B' i hi hBB bs' W' hF hW hl
 have k := ((((hM.below ((hF.belowL hw.base).mono hL))).fz i hi))
 exact mc_Fun B' g bw L bs' (M.f i).ty (M.f i).l (M.f i).f (M.f i).pl (M.f i).pf (M.f i).cl (M.f i).cf W' (le_lo (Nat.le_trans hL (Nat.le_trans (lo_B B g) hBB)) (Nat.le_trans hL (lo_g B g))) (hf.f i hi).2 k.h1.1 (few_lt (hf.f i hi).1) (hmf.f i hi) (few_siz (hf.f i hi).1) k.h2.1 (hbw.fr hF (by decide) hbg) hW hl
theorem secM_d (B g bw L : Nat) (M : MD) (W : World) (hL : L ≤ lo B g) (hf : FitM M) (hmf : MayF M) (hM : M.ok L W) (hbw : CA bw #[.pointer (some ⟨g,0,none⟩)] 135 W) (hbg : bw ≠ g) (bs : List UInt8) (hw : WR0 B g bs W) (hn : bs.length ≤ 90000000000000) :
  Calls Tryz.prog 126 #[.pointer (some ⟨g,0,none⟩),.int .i64 11,.slice M.dp M.dn M.dc,.func (.func 127) #[] #[.pointer (some ⟨bw,0,none⟩)]] W fun e w' => e = .returned (.tuple #[]) ∧ WR0 B g (bs ++ secL 11 M.dn (flB M.dn fun i => mdL (M.d i))) w' ∧ FR B g W w' := by
 have hX : (flB M.dn fun i => mdL (M.d i)).length ≤ 1000000000000 := flB_small (k := 7000000000) (Nat.le_trans hf.dn (by decide)) (fun i hi => mdL_len _ (hf.d i hi).1 (hmf.d i hi).1 (hf.d i hi).2) (by decide)
 refine sec_Dat B g bw 127 L (fun _ _ => rfl) 11 _ M.dp M.dn M.dc M.dg M.dw M.d W hL hM.dr ?_ hX bs hw hn
 intro B' i hi hBB bs' W' hF hW hl
 have k := ((((hM.below ((hF.belowL hw.base).mono hL))).dz i hi))
 exact mc_Dat B' g bw bs' (M.d i).m (M.d i).t (M.d i).f (M.d i).pf (M.d i).pb (M.d i).cf (M.d i).cb (M.d i).b.length (mdL (M.d i)) W' (fun W2 h2 h3 => data_says B' g L bs' (M.d i) W2 (le_lo (Nat.le_trans hL (Nat.le_trans (lo_B B g) hBB)) (Nat.le_trans hL (lo_g B g))) (k.below ((h2.belowL hW.1).mono (le_lo (Nat.le_trans hL (Nat.le_trans (lo_B B g) hBB)) (Nat.le_trans hL (lo_g B g))))) (hf.d i hi).1 (hmf.d i hi).1 (hf.d i hi).2 h3 hl) hbg (hbw.fr hF (by decide) hbg) hW hl
end Go.Proofs.YtjgeedgphcjhoaaGreat
