/-
  FZip, Tabs, Line, Ops1, Fo, Open: merged, what the law does not reach left out (each text says what it holds where it lies in wip). No condition.
-/
import Derived.Deep.RegionHeld3
import Derived.Deep.DeepCutAuto
import Derived.Test.YtjgeedgphcjhoaaGreatProg
import Derived.WalkKit
import Derived.WalkSpells
import Derived.WalkLawsBesides
import Derived.Below
import Derived.Great.BuildSlice
import Derived.OwnWalk
import Derived.Test.YtjgeedgphcjhoaaGreatRows
import Derived.ProofKit
import Derived.OpenShut
import Derived.ChangeArms
import Derived.SizedLaws
set_option linter.unusedSimpArgs false
set_option linter.unusedVariables false
set_option maxRecDepth 100000
set_option maxHeartbeats 64000000
namespace Go.Proofs.YtjgeedgphcjhoaaGreat
open Go.RowKit
theorem sl0 {α : Type} (a b : α) (l : List α) : (a :: l).set 0 b = b :: l := rfl
theorem sl1 {α : Type} (a b : α) (l : List α) (n : Nat) : (a :: l).set (n + 1) b = a :: l.set n b := rfl
theorem sl2 {α : Type} (l : List α) (i : Nat) (a : α) : l.toArray.setIfInBounds i a = (l.set i a).toArray := by simp
section
variable {P : Program} {ops : Array Oper} {Q : Exit → Act → World → Prop} {md : Region.Mode} {S : World → Prop} {fuel : Nat} {listed : Array Bool} {a : Act} {w : World}
theorem zt (i : Nat) (v : Value) {c1 c2 c3 c4 c5 c6} (hi : ops[i]? = some ⟨c1,c2,c3,c4,c5,c6⟩) (hy : ∀ w,S w → (execOp a.eval ⟨c1,c2,c3,c4,c5,c6⟩).run P w = .ok (.value v) w)
  (h : wpAnyH P md ops Q S fuel (listed.setIfInBounds i true) (a.put c1 v) w) (hs : Region.noSelect ops = true := by kernel_rfl) (hf : Region.free md ops listed i = true := by kernel_rfl) (hr : (Region.ready md ops listed).contains i = true := by kernel_rfl)
  (hQ : ∀ c a w,Q (.panic c) (a.put c1 v) w → Q (.panic c) a w := by exact fun _ _ _ h => h) (hw : Region.wanted ⟨c1,c2,c3,c4,c5,c6⟩ (yielded ops a.tmps) = true := by rfl) (hS : S w := by assumption) : wpAnyH P md ops Q S (fuel + 1) listed a w :=
 wpAnyH_take hi hs hf hr hQ (Or.inl ⟨hw,hy⟩) hS h
theorem zu (i : Nat) {c1 c2 c3 c4 c5 c6} (hi : ops[i]? = some ⟨c1,c2,c3,c4,c5,c6⟩)
  (h : wpAnyH P md ops Q S fuel (listed.setIfInBounds i true) (a.put c1 undef) w) (hs : Region.noSelect ops = true := by kernel_rfl) (hf : Region.free md ops listed i = true := by kernel_rfl) (hr : (Region.ready md ops listed).contains i = true := by kernel_rfl)
  (hQ : ∀ c a w,Q (.panic c) (a.put c1 undef) w → Q (.panic c) a w := by exact fun _ _ _ h => h) (hw : Region.wanted ⟨c1,c2,c3,c4,c5,c6⟩ (yielded ops a.tmps) = false := by rfl) (hS : S w := by assumption) : wpAnyH P md ops Q S (fuel + 1) listed a w :=
 wpAnyH_take hi hs hf hr hQ (Or.inr ⟨hw,rfl⟩) hS h
theorem zr (i : Nat) {c1 c2 c3 c4 c5 c6} (ho : ops[i]? = some ⟨c1,c2,c3,c4,c5,c6⟩)
  (h : ∀ K' : Act → World → Prop,Shut (∀ a w,S w → (S w → wpAnyH P md ops Q S fuel (listed.setIfInBounds i true) a w) → K' a w) → if Region.wanted ⟨c1,c2,c3,c4,c5,c6⟩ (yielded ops a.tmps) = true then Oper.wp P ⟨c1,c2,c3,c4,c5,c6⟩ a w K' Q else K' (a.put c1 undef) w)
  (hr : Region.ready md ops listed = [i] := by kernel_rfl) : wpAnyH P md ops Q S (fuel + 1) listed a w :=
 wpAnyH_ready hr (by simp) (AllReadyH.cons ho h AllReadyH.nil)
theorem zm (rs : List Nat) (h : AllReadyH P md ops Q S fuel listed a w rs) (hr : Region.ready md ops listed = rs := by kernel_rfl) (hne : rs ≠ [] := by simp) : wpAnyH P md ops Q S (fuel + 1) listed a w :=
 wpAnyH_ready hr hne h
theorem zc {i : Nat} {rs : List Nat} {c1 c2 c3 c4 c5 c6} (ho : ops[i]? = some ⟨c1,c2,c3,c4,c5,c6⟩)
  (h : ∀ K' : Act → World → Prop,Shut (∀ a w,S w → (S w → wpAnyH P md ops Q S fuel (listed.setIfInBounds i true) a w) → K' a w) → if Region.wanted ⟨c1,c2,c3,c4,c5,c6⟩ (yielded ops a.tmps) = true then Oper.wp P ⟨c1,c2,c3,c4,c5,c6⟩ a w K' Q else K' (a.put c1 undef) w)
  (hs : AllReadyH P md ops Q S fuel listed a w rs) : AllReadyH P md ops Q S fuel listed a w (i :: rs) := AllReadyH.cons ho h hs
theorem zn : AllReadyH P md ops Q S fuel listed a w [] := AllReadyH.nil
end
theorem hid {p : Prop} (h : p) : Hid p := h
abbrev Ln := ByteArray × Int × Int × Int
def ln0 : Ln := (⟨#[]⟩,0,0,0)
def opLn : Op → Option Ln
 | .build _ parts => match parts.toList with
  | [(_,.const (.string s)),(_,.const (.int _ a)),(_,.const (.int _ b)),(_,.const (.int _ c))] => some (s,a,b,c)
  | [] => some ln0
  | _ => none
 | _ => none
def opKeys : Op → Option (List (Nat × Nat))
 | .build _ parts => parts.toList.mapM fun x => match x.2 with
  | .tmp t => some (x.1,t)
  | _ => none
 | _ => none
def opsOf (f : Func) : List Oper := match f.body with
 | some (.seq (.region _ _ _) (.seq (.region _ ops _) .ret)) => ops.toList
 | _ => []
def tabOf (n : Nat) (f : Func) : List Ln :=
 let rows := (opsOf f).filterMap fun o => opLn o.op
 let keys := ((opsOf f).filterMap fun o => (opKeys o.op).bind fun l => if l = [] then none else some l).headD []
 (List.range n).map fun k => match keys.find? fun x => x.1 == k with
  | some x => rows.getD (x.2 - 3) ln0
  | none => ln0
def lnCells (r : Ln) : List Value := [.string r.1,.int .u8 r.2.1,.int .u8 r.2.2.1,.int .u8 r.2.2.2]
def lnV (r : Ln) : Value := .agg #[.string r.1,.int .u8 r.2.1,.int .u8 r.2.2.1,.int .u8 r.2.2.2]
def tabCells (l : List Ln) : Array Value := (l.flatMap lnCells).toArray
theorem size43 : (Tryz.prog.info? 215).map (·.size) = some 4 := by kernel_rfl
theorem flat_length (l : List Ln) : (l.flatMap lnCells).length = l.length * 4 := by
 induction l with
 | nil => rfl
 | cons r l ih => rw [List.flatMap_cons,List.length_append,ih]; simp [lnCells]; try omega
theorem flat_take (l : List Ln) (k : Nat) (h : k < l.length) : ((l.flatMap lnCells).drop (k * 4)).take 4 = lnCells (l.getD k ln0) := by
 induction l generalizing k with
 | nil => simp at h
 | cons r l ih =>
  cases k with
  | zero => simp [lnCells]
  | succ k =>
   have e : (k + 1) * 4 = (lnCells r).length + k * 4 := by simp [lnCells]; omega
   rw [List.flatMap_cons,e,List.drop_append,List.drop_eq_nil_of_le (by omega)]
   simp only [List.nil_append,Nat.add_sub_cancel_left]
   rw [ih k (by simpa using h)]
   rfl
theorem run_index_tab {T : TypeId} {n : Nat} (hu : Tryz.prog.underlying T = some (.array n 215)) (l : List Ln) (hl : l.length = n) (i : Int) (h0 : 0 ≤ i) (h1 : i < n) (W : World) :
  (Instr.index T (.agg (tabCells l)) (.int .i64 i)).run Tryz.prog W = .ok (lnV (l.getD i.toNat ln0)) W := by
 have hs : (sizeOf 215).run Tryz.prog W = .ok 4 W := by kernel_rfl
 have hsz : (tabCells l).size = n * 4 := by unfold tabCells; rw [List.size_toArray,flat_length,hl]
 have hlt : i.toNat < l.length := by omega
 have e : (tabCells l).extract (i.toNat * 4) (i.toNat * 4 + 4) = (lnCells (l.getD i.toNat ln0)).toArray := by
  unfold tabCells
  rw [← flat_take l i.toNat hlt]
  simp
 have hc : (0 : Int) ≤ i ∧ i < (n : Int) := ⟨h0,h1⟩
 simp [Instr.index,asIntOf,run_underlying hu,hc,part,hs]
 rw [e]
 simp [lnV,lnCells]
def LnSays (f : FuncId) (n : Nat) (l : List Ln) : Prop := ∀ (i : Int) (w : World),0 ≤ i → i < n → Calls Tryz.prog f #[.int .i64 i] w fun e w' => e = .returned (lnV (l.getD i.toNat ln0)) ∧ Below w.heap.size w w'
def buildsRun (P : Program) : List Oper → Act → Option Act
 | [],a => some a
 | o :: l,a => match o.guard,o.op with
  | none,.build t parts => (P.built t (parts.map fun (i,x) => (i,a.eval x)).toList).bind fun cs => buildsRun P l (a.put o.dst (.agg cs))
  | _,_ => none
theorem wpList_builds {P : Program} {ops : Array Oper} {Q : Exit → Act → World → Prop} {w : World} {rest : List Oper} : ∀ (l : List Oper) (a a' : Act),buildsRun P l a = some a' → wpList P ops Q rest a' w → wpList P ops Q (l ++ rest) a w
 | [],a,a',h,k => by simp [buildsRun] at h; subst h; exact k
 | o :: l,a,a',h,k => by
  unfold buildsRun at h
  split at h
  ·rename_i t parts hg ho
   obtain ⟨cs,hc,h'⟩ := Option.bind_eq_some_iff.1 h
   exact wpList_buildTo hg t parts ho o.dst rfl cs hc (wpList_builds l _ a' h' k)
  cases h
def see (m : Nat) (a : Act) : Value × Value × Value × Nat × List Deferred := (a.tmps.getD 0 undef,a.tmps.getD 2 undef,a.tmps.getD m undef,a.tmps.size,a.defers)
def frame0 (i : Int) (p : Value) (m : Nat) : Act := { tmps := (.int .i64 i :: undef :: p :: List.replicate m undef).toArray,defers := [] }
theorem run_to {P : Program} {ops : Array Oper} {rest : List Oper} {o : Oper} {a : Act} {w : World} {Q : Exit → Act → World → Prop} (hg : o.guard = none) (dst : Option Tmp) (hdst : o.dst = dst)
  (v : Value) (w' : World) (hrun : (execOp a.eval o).run P w = .ok (.value v) w') (h : wpList P ops Q rest (a.put dst v) w') : wpList P ops Q (o :: rest) a w := by
 subst hdst
 refine wpList_plain hg fun K hK => ?_
 unfold Oper.wp
 rw [hrun,Oper.upon_value]
 exact hK _ _ h
def z43 : Array Value := #[.string ⟨#[]⟩,.int .u8 0,.int .u8 0,.int .u8 0]
theorem frame_put (i : Int) (p : Value) (m : Nat) : Act.put { tmps := #[Value.int .i64 i] ++ Array.replicate (m + 2) undef,defers := [] } (some 2) p = frame0 i p m := by
 unfold Act.put frame0
 congr 1
 simp [Array.replicate_succ',List.replicate_succ]
theorem part_says {f : FuncId} {fn : Func} {T : TypeId} {n m : Nat} {oa om oi os : Oper} {builds : List Oper} {tab : List Ln}
  (hf : Tryz.prog.funcs[f]? = some fn) (hb : fn.body = some (.seq (.region 0 #[oa] false) (.seq (.region 1 (builds ++ [om,oi,os]).toArray false) .ret)))
  (hr : fn.results = #[.cell 2 215]) (hn : fn.ntmps = m + 3) (hT : Tryz.prog.underlying T = some (.array n 215)) (hl : tab.length = n)
  (ha : oa.op = .alloc 215 ∧ oa.dst = some 2 ∧ oa.guard = none)
  (hm : om.op = .move (.tmp 0) ∧ om.dst = some (m + 1) ∧ om.guard = none)
  (hi : oi.op = .index T (.tmp m) (.tmp (m + 1)) ∧ oi.dst = some (m + 2) ∧ oi.guard = none)
  (hs : os.op = .store 215 (.tmp 2) (.tmp (m + 2)) ∧ os.dst = none ∧ os.guard = none)
  (h3 : 3 ≤ m)
  (hrun : ∀ (i : Int) (p : Value),(buildsRun Tryz.prog builds (frame0 i p m)).map (see m) = some (.int .i64 i,p,.agg (tabCells tab),m + 3,[])) :
  LnSays f n tab := by
 intro i w h0 h1
 obtain ⟨ha1,ha2,ha3⟩ := ha
 obtain ⟨hm1,hm2,hm3⟩ := hm
 obtain ⟨hi1,hi2,hi3⟩ := hi
 obtain ⟨hs1,hs2,hs3⟩ := hs
 refine calls_of_wp hf hb ?_
 have hsz : fn.ntmps - (#[Value.int .i64 i] : Array Value).size = m + 2 := by rw [hn]; simp
 rw [hsz]
 refine wp_seq (wp_region_lit (l := [oa]) ?_)
 refine run_to ha3 (some 2) ha2 (.pointer (some ⟨w.heap.size,0,none⟩)) (w.alloc (.cells z43 215)) (by unfold execOp; rw [ha1]; kernel_rfl) ?_
 rw [frame_put]
 show Exit.then _ _ .normal _ _
 show Code.wp _ _ _ _ _
 refine wp_seq (wp_region_lit (l := builds ++ [om,oi,os]) ?_)
 obtain ⟨a',ha',hsee⟩ := Option.map_eq_some_iff.1 (hrun i (.pointer (some ⟨w.heap.size,0,none⟩)))
 refine wpList_builds builds _ a' ha' ?_
 simp only [see,Prod.mk.injEq] at hsee
 obtain ⟨e0,e2,em,en,ed⟩ := hsee
 have x0 : a'.tmps[0]? = some (.int .i64 i) := by
  rw [Array.getElem?_eq_getElem (by omega)]; rw [Array.getD_eq_getD_getElem?,Array.getElem?_eq_getElem (by omega)] at e0; simpa using e0
 have x2 : a'.tmps[2]? = some (.pointer (some ⟨w.heap.size,0,none⟩)) := by
  rw [Array.getElem?_eq_getElem (by omega)]; rw [Array.getD_eq_getD_getElem?,Array.getElem?_eq_getElem (by omega)] at e2; simpa using e2
 have xm : a'.tmps[m]? = some (.agg (tabCells tab)) := by
  rw [Array.getElem?_eq_getElem (by omega)]; rw [Array.getD_eq_getD_getElem?,Array.getElem?_eq_getElem (by omega)] at em; simpa using em
 clear e0 e2 em ha' hrun
 refine run_to hm3 (some (m + 1)) hm2 (.int .i64 i) (w.alloc (.cells z43 215)) (by unfold execOp; rw [hm1]; simp [Act.eval,Frame.eval,x0]) ?_
 refine run_to hi3 (some (m + 2)) hi2 (lnV (tab.getD i.toNat ln0)) (w.alloc (.cells z43 215)) (by
  unfold execOp; rw [hi1]
  have q1 : Act.eval (a'.put (some (m + 1)) (.int .i64 i)) (.tmp m) = .agg (tabCells tab) := by
   simp [Act.eval,Act.put,xm,Array.getD_eq_getD_getElem?,Array.getElem?_setIfInBounds]
  have q2 : Act.eval (a'.put (some (m + 1)) (.int .i64 i)) (.tmp (m + 1)) = .int .i64 i := by
   simp [Act.eval,Act.put,Array.getD_eq_getD_getElem?,Array.getElem?_setIfInBounds,en]
  simp only [q1,q2]
  simp only [Sem.run_bind,run_index_tab hT tab hl i h0 h1,Result.andThen_ok]
  rfl) ?_
 obtain ⟨r,hr'⟩ : ∃ r,r = tab.getD i.toNat ln0 := ⟨_,rfl⟩
 rw [← hr']
 clear hr'
 have hheap : (w.alloc (.cells z43 215)).heap[w.heap.size]? = some (.cells z43 215 (0,0)) := by
  show (w.heap.push _)[w.heap.size]? = _
  simp
 have g2 : ∀ v1 v2 : Value,((a'.tmps.setIfInBounds (m + 1) v1).setIfInBounds (m + 2) v2)[2]? = some (.pointer (some ⟨w.heap.size,0,none⟩)) := fun v1 v2 => by
  rw [Array.getElem?_setIfInBounds_ne (by omega),Array.getElem?_setIfInBounds_ne (by omega),x2]
 have q : ∀ v1 v2 : Value,((a'.tmps.setIfInBounds (m + 1) v1).setIfInBounds (m + 2) v2).getD 2 undef = .pointer (some ⟨w.heap.size,0,none⟩) := fun v1 v2 => by
  rw [Array.getD_eq_getD_getElem?,g2]; rfl
 refine wpList_store_row hs3 215 (.tmp 2) (.tmp (m + 2)) hs1 w.heap.size (lnCells r).toArray (q _ _) ?_ 215 z43 hheap size43 rfl (by simp [lnCells,Value.oneCell']) ?_
 ·simp [Act.eval,Act.put,Array.getD_eq_getD_getElem?,Array.getElem?_setIfInBounds,en,lnV,lnCells]
 rw [hs2]
 show Exit.then _ _ .normal _ _
 show Code.wp _ _ _ _ _
 refine wp_ret ?_
 refine bodyPost_ret (v := lnV r) ?_ ?_ ⟨rfl,?_⟩
 ·have hl := run_loadVar_row (P := Tryz.prog) ((w.alloc (.cells z43 215)).setRow w.heap.size (lnCells r).toArray) w.heap.size 215 215 (lnCells r).toArray (0,0) _
   (setRow_heap _ _ _ _ _ _ hheap) Tryz.underlying215 rfl size43
  have q' := q (.int .i64 i) (lnV r)
  unfold results
  rw [hr]
  simp only [Act.put]
  generalize (a'.tmps.setIfInBounds (m + 1) (.int .i64 i)).setIfInBounds (m + 2) (lnV r) = arr at q' ⊢
  rw [Array.getD_eq_getD_getElem?] at q'
  simp [q',asAddr,hl]
  rfl
 ·simpa [Act.put] using ed
 exact ⟨rfl,rfl,rfl,by simp,fun k hk => by rw [setRow_other _ _ _ _ (by omega)]; exact Below.heap_alloc _ _ _ hk⟩
def opAt (f : Func) (k : Nat) : Oper := (opsOf f).getD k default
def op0 (f : Func) : Oper := match f.body with
 | some (.seq (.region _ ops _) _) => ops.toList.headD default
 | _ => default
noncomputable def tab37 : List Ln := tabOf 18 Tryz.f238
theorem says37 : LnSays 238 18 tab37 :=
 part_says (T := 241) (m := 21) (builds := (opsOf Tryz.f238).take 19) (oa := op0 Tryz.f238) (om := opAt Tryz.f238 19) (oi := opAt Tryz.f238 20) (os := opAt Tryz.f238 21) Tryz.func238 (by kernel_rfl) (by kernel_rfl) (by kernel_rfl) Tryz.underlying241 (by kernel_rfl)
  ⟨by kernel_rfl,by kernel_rfl,by kernel_rfl⟩ ⟨by kernel_rfl,by kernel_rfl,by kernel_rfl⟩ ⟨by kernel_rfl,by kernel_rfl,by kernel_rfl⟩ ⟨by kernel_rfl,by kernel_rfl,by kernel_rfl⟩ (by decide) (fun _ _ => by kernel_rfl)
noncomputable def tab39 : List Ln := tabOf 40 Tryz.f250
theorem says39 : LnSays 250 40 tab39 :=
 part_says (T := 245) (m := 24) (builds := (opsOf Tryz.f250).take 22) (oa := op0 Tryz.f250) (om := opAt Tryz.f250 22) (oi := opAt Tryz.f250 23) (os := opAt Tryz.f250 24) Tryz.func250 (by kernel_rfl) (by kernel_rfl) (by kernel_rfl) Tryz.underlying245 (by kernel_rfl)
  ⟨by kernel_rfl,by kernel_rfl,by kernel_rfl⟩ ⟨by kernel_rfl,by kernel_rfl,by kernel_rfl⟩ ⟨by kernel_rfl,by kernel_rfl,by kernel_rfl⟩ ⟨by kernel_rfl,by kernel_rfl,by kernel_rfl⟩ (by decide) (fun _ _ => by kernel_rfl)
noncomputable def tab40 : List Ln := tabOf 29 Tryz.f251
theorem says40 : LnSays 251 29 tab40 :=
 part_says (T := 246) (m := 32) (builds := (opsOf Tryz.f251).take 30) (oa := op0 Tryz.f251) (om := opAt Tryz.f251 30) (oi := opAt Tryz.f251 31) (os := opAt Tryz.f251 32) Tryz.func251 (by kernel_rfl) (by kernel_rfl) (by kernel_rfl) Tryz.underlying246 (by kernel_rfl)
  ⟨by kernel_rfl,by kernel_rfl,by kernel_rfl⟩ ⟨by kernel_rfl,by kernel_rfl,by kernel_rfl⟩ ⟨by kernel_rfl,by kernel_rfl,by kernel_rfl⟩ ⟨by kernel_rfl,by kernel_rfl,by kernel_rfl⟩ (by decide) (fun _ _ => by kernel_rfl)
noncomputable def tab41 : List Ln := tabOf 34 Tryz.f252
theorem says41 : LnSays 252 34 tab41 :=
 part_says (T := 247) (m := 37) (builds := (opsOf Tryz.f252).take 35) (oa := op0 Tryz.f252) (om := opAt Tryz.f252 35) (oi := opAt Tryz.f252 36) (os := opAt Tryz.f252 37) Tryz.func252 (by kernel_rfl) (by kernel_rfl) (by kernel_rfl) Tryz.underlying247 (by kernel_rfl)
  ⟨by kernel_rfl,by kernel_rfl,by kernel_rfl⟩ ⟨by kernel_rfl,by kernel_rfl,by kernel_rfl⟩ ⟨by kernel_rfl,by kernel_rfl,by kernel_rfl⟩ ⟨by kernel_rfl,by kernel_rfl,by kernel_rfl⟩ (by decide) (fun _ _ => by kernel_rfl)
noncomputable def tab42 : List Ln := tabOf 36 Tryz.f253
theorem says42 : LnSays 253 36 tab42 :=
 part_says (T := 248) (m := 39) (builds := (opsOf Tryz.f253).take 37) (oa := op0 Tryz.f253) (om := opAt Tryz.f253 37) (oi := opAt Tryz.f253 38) (os := opAt Tryz.f253 39) Tryz.func253 (by kernel_rfl) (by kernel_rfl) (by kernel_rfl) Tryz.underlying248 (by kernel_rfl)
  ⟨by kernel_rfl,by kernel_rfl,by kernel_rfl⟩ ⟨by kernel_rfl,by kernel_rfl,by kernel_rfl⟩ ⟨by kernel_rfl,by kernel_rfl,by kernel_rfl⟩ ⟨by kernel_rfl,by kernel_rfl,by kernel_rfl⟩ (by decide) (fun _ _ => by kernel_rfl)
noncomputable def tab43 : List Ln := tabOf 28 Tryz.f254
theorem says43 : LnSays 254 28 tab43 :=
 part_says (T := 249) (m := 31) (builds := (opsOf Tryz.f254).take 29) (oa := op0 Tryz.f254) (om := opAt Tryz.f254 29) (oi := opAt Tryz.f254 30) (os := opAt Tryz.f254 31) Tryz.func254 (by kernel_rfl) (by kernel_rfl) (by kernel_rfl) Tryz.underlying249 (by kernel_rfl)
  ⟨by kernel_rfl,by kernel_rfl,by kernel_rfl⟩ ⟨by kernel_rfl,by kernel_rfl,by kernel_rfl⟩ ⟨by kernel_rfl,by kernel_rfl,by kernel_rfl⟩ ⟨by kernel_rfl,by kernel_rfl,by kernel_rfl⟩ (by decide) (fun _ _ => by kernel_rfl)
noncomputable def tab44 : List Ln := tabOf 30 Tryz.f255
theorem says44 : LnSays 255 30 tab44 :=
 part_says (T := 250) (m := 33) (builds := (opsOf Tryz.f255).take 31) (oa := op0 Tryz.f255) (om := opAt Tryz.f255 31) (oi := opAt Tryz.f255 32) (os := opAt Tryz.f255 33) Tryz.func255 (by kernel_rfl) (by kernel_rfl) (by kernel_rfl) Tryz.underlying250 (by kernel_rfl)
  ⟨by kernel_rfl,by kernel_rfl,by kernel_rfl⟩ ⟨by kernel_rfl,by kernel_rfl,by kernel_rfl⟩ ⟨by kernel_rfl,by kernel_rfl,by kernel_rfl⟩ ⟨by kernel_rfl,by kernel_rfl,by kernel_rfl⟩ (by decide) (fun _ _ => by kernel_rfl)
noncomputable def tab45 : List Ln := tabOf 3 Tryz.f256
theorem says45 : LnSays 256 3 tab45 :=
 part_says (T := 251) (m := 6) (builds := (opsOf Tryz.f256).take 4) (oa := op0 Tryz.f256) (om := opAt Tryz.f256 4) (oi := opAt Tryz.f256 5) (os := opAt Tryz.f256 6) Tryz.func256 (by kernel_rfl) (by kernel_rfl) (by kernel_rfl) Tryz.underlying251 (by kernel_rfl)
  ⟨by kernel_rfl,by kernel_rfl,by kernel_rfl⟩ ⟨by kernel_rfl,by kernel_rfl,by kernel_rfl⟩ ⟨by kernel_rfl,by kernel_rfl,by kernel_rfl⟩ ⟨by kernel_rfl,by kernel_rfl,by kernel_rfl⟩ (by decide) (fun _ _ => by kernel_rfl)
noncomputable def tab46 : List Ln := tabOf 14 Tryz.f257
theorem says46 : LnSays 257 14 tab46 :=
 part_says (T := 252) (m := 17) (builds := (opsOf Tryz.f257).take 15) (oa := op0 Tryz.f257) (om := opAt Tryz.f257 15) (oi := opAt Tryz.f257 16) (os := opAt Tryz.f257 17) Tryz.func257 (by kernel_rfl) (by kernel_rfl) (by kernel_rfl) Tryz.underlying252 (by kernel_rfl)
  ⟨by kernel_rfl,by kernel_rfl,by kernel_rfl⟩ ⟨by kernel_rfl,by kernel_rfl,by kernel_rfl⟩ ⟨by kernel_rfl,by kernel_rfl,by kernel_rfl⟩ ⟨by kernel_rfl,by kernel_rfl,by kernel_rfl⟩ (by decide) (fun _ _ => by kernel_rfl)
noncomputable def tab47 : List Ln := tabOf 21 Tryz.f258
theorem says47 : LnSays 258 21 tab47 :=
 part_says (T := 253) (m := 24) (builds := (opsOf Tryz.f258).take 22) (oa := op0 Tryz.f258) (om := opAt Tryz.f258 22) (oi := opAt Tryz.f258 23) (os := opAt Tryz.f258 24) Tryz.func258 (by kernel_rfl) (by kernel_rfl) (by kernel_rfl) Tryz.underlying253 (by kernel_rfl)
  ⟨by kernel_rfl,by kernel_rfl,by kernel_rfl⟩ ⟨by kernel_rfl,by kernel_rfl,by kernel_rfl⟩ ⟨by kernel_rfl,by kernel_rfl,by kernel_rfl⟩ ⟨by kernel_rfl,by kernel_rfl,by kernel_rfl⟩ (by decide) (fun _ _ => by kernel_rfl)
noncomputable def tab48 : List Ln := tabOf 42 Tryz.f259
theorem says48 : LnSays 259 42 tab48 :=
 part_says (T := 254) (m := 45) (builds := (opsOf Tryz.f259).take 43) (oa := op0 Tryz.f259) (om := opAt Tryz.f259 43) (oi := opAt Tryz.f259 44) (os := opAt Tryz.f259 45) Tryz.func259 (by kernel_rfl) (by kernel_rfl) (by kernel_rfl) Tryz.underlying254 (by kernel_rfl)
  ⟨by kernel_rfl,by kernel_rfl,by kernel_rfl⟩ ⟨by kernel_rfl,by kernel_rfl,by kernel_rfl⟩ ⟨by kernel_rfl,by kernel_rfl,by kernel_rfl⟩ ⟨by kernel_rfl,by kernel_rfl,by kernel_rfl⟩ (by decide) (fun _ _ => by kernel_rfl)
noncomputable def tab49 : List Ln := tabOf 19 Tryz.f260
theorem says49 : LnSays 260 19 tab49 :=
 part_says (T := 255) (m := 22) (builds := (opsOf Tryz.f260).take 20) (oa := op0 Tryz.f260) (om := opAt Tryz.f260 20) (oi := opAt Tryz.f260 21) (os := opAt Tryz.f260 22) Tryz.func260 (by kernel_rfl) (by kernel_rfl) (by kernel_rfl) Tryz.underlying255 (by kernel_rfl)
  ⟨by kernel_rfl,by kernel_rfl,by kernel_rfl⟩ ⟨by kernel_rfl,by kernel_rfl,by kernel_rfl⟩ ⟨by kernel_rfl,by kernel_rfl,by kernel_rfl⟩ ⟨by kernel_rfl,by kernel_rfl,by kernel_rfl⟩ (by decide) (fun _ _ => by kernel_rfl)
noncomputable def tab50 : List Ln := tabOf 32 Tryz.f261
theorem says50 : LnSays 261 32 tab50 :=
 part_says (T := 256) (m := 35) (builds := (opsOf Tryz.f261).take 33) (oa := op0 Tryz.f261) (om := opAt Tryz.f261 33) (oi := opAt Tryz.f261 34) (os := opAt Tryz.f261 35) Tryz.func261 (by kernel_rfl) (by kernel_rfl) (by kernel_rfl) Tryz.underlying256 (by kernel_rfl)
  ⟨by kernel_rfl,by kernel_rfl,by kernel_rfl⟩ ⟨by kernel_rfl,by kernel_rfl,by kernel_rfl⟩ ⟨by kernel_rfl,by kernel_rfl,by kernel_rfl⟩ ⟨by kernel_rfl,by kernel_rfl,by kernel_rfl⟩ (by decide) (fun _ _ => by kernel_rfl)
noncomputable def tab51 : List Ln := tabOf 32 Tryz.f262
theorem says51 : LnSays 262 32 tab51 :=
 part_says (T := 256) (m := 35) (builds := (opsOf Tryz.f262).take 33) (oa := op0 Tryz.f262) (om := opAt Tryz.f262 33) (oi := opAt Tryz.f262 34) (os := opAt Tryz.f262 35) Tryz.func262 (by kernel_rfl) (by kernel_rfl) (by kernel_rfl) Tryz.underlying256 (by kernel_rfl)
  ⟨by kernel_rfl,by kernel_rfl,by kernel_rfl⟩ ⟨by kernel_rfl,by kernel_rfl,by kernel_rfl⟩ ⟨by kernel_rfl,by kernel_rfl,by kernel_rfl⟩ ⟨by kernel_rfl,by kernel_rfl,by kernel_rfl⟩ (by decide) (fun _ _ => by kernel_rfl)
noncomputable def tab52 : List Ln := tabOf 32 Tryz.f263
theorem says52 : LnSays 263 32 tab52 :=
 part_says (T := 256) (m := 35) (builds := (opsOf Tryz.f263).take 33) (oa := op0 Tryz.f263) (om := opAt Tryz.f263 33) (oi := opAt Tryz.f263 34) (os := opAt Tryz.f263 35) Tryz.func263 (by kernel_rfl) (by kernel_rfl) (by kernel_rfl) Tryz.underlying256 (by kernel_rfl)
  ⟨by kernel_rfl,by kernel_rfl,by kernel_rfl⟩ ⟨by kernel_rfl,by kernel_rfl,by kernel_rfl⟩ ⟨by kernel_rfl,by kernel_rfl,by kernel_rfl⟩ ⟨by kernel_rfl,by kernel_rfl,by kernel_rfl⟩ (by decide) (fun _ _ => by kernel_rfl)
noncomputable def tab53 : List Ln := tabOf 32 Tryz.f264
theorem says53 : LnSays 264 32 tab53 :=
 part_says (T := 256) (m := 35) (builds := (opsOf Tryz.f264).take 33) (oa := op0 Tryz.f264) (om := opAt Tryz.f264 33) (oi := opAt Tryz.f264 34) (os := opAt Tryz.f264 35) Tryz.func264 (by kernel_rfl) (by kernel_rfl) (by kernel_rfl) Tryz.underlying256 (by kernel_rfl)
  ⟨by kernel_rfl,by kernel_rfl,by kernel_rfl⟩ ⟨by kernel_rfl,by kernel_rfl,by kernel_rfl⟩ ⟨by kernel_rfl,by kernel_rfl,by kernel_rfl⟩ ⟨by kernel_rfl,by kernel_rfl,by kernel_rfl⟩ (by decide) (fun _ _ => by kernel_rfl)
noncomputable def tab54 : List Ln := tabOf 32 Tryz.f265
theorem says54 : LnSays 265 32 tab54 :=
 part_says (T := 256) (m := 35) (builds := (opsOf Tryz.f265).take 33) (oa := op0 Tryz.f265) (om := opAt Tryz.f265 33) (oi := opAt Tryz.f265 34) (os := opAt Tryz.f265 35) Tryz.func265 (by kernel_rfl) (by kernel_rfl) (by kernel_rfl) Tryz.underlying256 (by kernel_rfl)
  ⟨by kernel_rfl,by kernel_rfl,by kernel_rfl⟩ ⟨by kernel_rfl,by kernel_rfl,by kernel_rfl⟩ ⟨by kernel_rfl,by kernel_rfl,by kernel_rfl⟩ ⟨by kernel_rfl,by kernel_rfl,by kernel_rfl⟩ (by decide) (fun _ _ => by kernel_rfl)
theorem bcell {W w1 : World} (hb : Below W.heap.size W w1) : (∀ b o,b < W.heap.size → w1.cell? ⟨b,o,none⟩ = W.cell? ⟨b,o,none⟩) ∧ (∀ b o,b < W.heap.size → w1.frozen? ⟨b,o,none⟩ = W.frozen? ⟨b,o,none⟩) :=
 ⟨fun b o h => hb.cell (p := ⟨b,o,none⟩) h,fun b o h => hb.frozen (p := ⟨b,o,none⟩) h⟩
theorem below_four {w w1 : World} {o : Obj} (hb : Below (w.alloc o).heap.size (w.alloc o) w1) (a b c d : Value) :
  Below w.heap.size w ((((w1.setCell ⟨w.heap.size,0,none⟩ a).setCell ⟨w.heap.size,1,none⟩ b).setCell ⟨w.heap.size,2,none⟩ c).setCell ⟨w.heap.size,3,none⟩ d) :=
 ((((((Below.refl _ _).alloc (Nat.le_refl _) o).trans (hb.mono (by simp))).setCell (Nat.le_refl _) _).setCell (Nat.le_refl _) _).setCell (Nat.le_refl _) _).setCell (Nat.le_refl _) _
noncomputable def plainL (op : Int) : Ln :=
 if op < 40 then tab39.getD (op - 0).toNat ln0 else if op < 69 then tab40.getD (op - 40).toNat ln0 else if op < 103 then tab41.getD (op - 69).toNat ln0 else if op < 139 then tab42.getD (op - 103).toNat ln0 else if op < 167 then tab43.getD (op - 139).toNat ln0 else if op < 197 then tab44.getD (op - 167).toNat ln0 else if 208 ≤ op then tab45.getD (op - 208).toNat ln0 else ln0
noncomputable def vectorL (op : Int) : Ln :=
 if op < 14 then tab46.getD (op - 0).toNat ln0 else if op < 35 then tab47.getD (op - 14).toNat ln0 else if op < 77 then tab48.getD (op - 35).toNat ln0 else if op < 96 then tab49.getD (op - 77).toNat ln0 else if op < 128 then tab50.getD (op - 96).toNat ln0 else if op < 160 then tab51.getD (op - 128).toNat ln0 else if op < 192 then tab52.getD (op - 160).toNat ln0 else if op < 224 then tab53.getD (op - 192).toNat ln0 else tab54.getD (op - 224).toNat ln0
noncomputable def lineL (op : Int) : Ln :=
 if op < 0 then ln0 else if op < 211 then plainL op else if 64512 ≤ op ∧ op < 64530 then tab37.getD (op - 64512).toNat ln0 else if 64768 ≤ op ∧ op < 65024 then vectorL (op - 64768) else ln0
theorem plain_0 (op : Int) (w : World) (c0 : 0 ≤ op) (c1 : op < 40) : Calls Tryz.prog 237 #[.int .i64 op] w fun e w' => e = .returned (lnV (plainL op)) ∧ Below w.heap.size w w' := by
 obtain ⟨r,hr⟩ : ∃ r,r = tab39.getD (op - 0).toNat ln0 := ⟨_,rfl⟩
 have HP := hid (show plainL op = r by unfold plainL; rw [if_pos c1,hr])
 have H := fun W => hid (says39 op W (by omega) (by omega))
 rw [show op.toNat = (op - 0).toNat by simp,← hr] at H
 clear hr
 go_enter Tryz.func237,Tryz.ntmps237
 go_wp2_with fail
 refine (H _).out.mono ?_
 rintro e w1 ⟨rfl,hb⟩
 obtain ⟨hc,hf⟩ := bcell hb
 unfold lnV
 go_wp2
 exact bodyPost_ret (v := lnV r) (by simp [results,Tryz.results237,go_sem,hc,lnV]) rfl ⟨by rw [HP.out],below_four hb _ _ _ _⟩
theorem plain_1 (op : Int) (w : World) (c0 : 0 ≤ op) (c1 : ¬ op < 40) (c2 : op < 69) : Calls Tryz.prog 237 #[.int .i64 op] w fun e w' => e = .returned (lnV (plainL op)) ∧ Below w.heap.size w w' := by
 obtain ⟨r,hr⟩ : ∃ r,r = tab40.getD (op - 40).toNat ln0 := ⟨_,rfl⟩
 have HP := hid (show plainL op = r by unfold plainL; rw [if_neg c1,if_pos c2,hr])
 have H := fun W => hid (says40 (op - 40) W (by omega) (by omega))
 rw [show (op - 40).toNat = (op - 40).toNat by simp,← hr] at H
 clear hr
 go_enter Tryz.func237,Tryz.ntmps237
 go_wp2_with fail
 refine (H _).out.mono ?_
 rintro e w1 ⟨rfl,hb⟩
 obtain ⟨hc,hf⟩ := bcell hb
 unfold lnV
 go_wp2
 exact bodyPost_ret (v := lnV r) (by simp [results,Tryz.results237,go_sem,hc,lnV]) rfl ⟨by rw [HP.out],below_four hb _ _ _ _⟩
theorem plain_2 (op : Int) (w : World) (c0 : 0 ≤ op) (c1 : ¬ op < 40) (c2 : ¬ op < 69) (c3 : op < 103) : Calls Tryz.prog 237 #[.int .i64 op] w fun e w' => e = .returned (lnV (plainL op)) ∧ Below w.heap.size w w' := by
 obtain ⟨r,hr⟩ : ∃ r,r = tab41.getD (op - 69).toNat ln0 := ⟨_,rfl⟩
 have HP := hid (show plainL op = r by unfold plainL; rw [if_neg c1,if_neg c2,if_pos c3,hr])
 have H := fun W => hid (says41 (op - 69) W (by omega) (by omega))
 rw [show (op - 69).toNat = (op - 69).toNat by simp,← hr] at H
 clear hr
 go_enter Tryz.func237,Tryz.ntmps237
 go_wp2_with fail
 refine (H _).out.mono ?_
 rintro e w1 ⟨rfl,hb⟩
 obtain ⟨hc,hf⟩ := bcell hb
 unfold lnV
 go_wp2
 exact bodyPost_ret (v := lnV r) (by simp [results,Tryz.results237,go_sem,hc,lnV]) rfl ⟨by rw [HP.out],below_four hb _ _ _ _⟩
theorem plain_3 (op : Int) (w : World) (c0 : 0 ≤ op) (c1 : ¬ op < 40) (c2 : ¬ op < 69) (c3 : ¬ op < 103) (c4 : op < 139) : Calls Tryz.prog 237 #[.int .i64 op] w fun e w' => e = .returned (lnV (plainL op)) ∧ Below w.heap.size w w' := by
 obtain ⟨r,hr⟩ : ∃ r,r = tab42.getD (op - 103).toNat ln0 := ⟨_,rfl⟩
 have HP := hid (show plainL op = r by unfold plainL; rw [if_neg c1,if_neg c2,if_neg c3,if_pos c4,hr])
 have H := fun W => hid (says42 (op - 103) W (by omega) (by omega))
 rw [show (op - 103).toNat = (op - 103).toNat by simp,← hr] at H
 clear hr
 go_enter Tryz.func237,Tryz.ntmps237
 go_wp2_with fail
 refine (H _).out.mono ?_
 rintro e w1 ⟨rfl,hb⟩
 obtain ⟨hc,hf⟩ := bcell hb
 unfold lnV
 go_wp2
 exact bodyPost_ret (v := lnV r) (by simp [results,Tryz.results237,go_sem,hc,lnV]) rfl ⟨by rw [HP.out],below_four hb _ _ _ _⟩
theorem plain_4 (op : Int) (w : World) (c0 : 0 ≤ op) (c1 : ¬ op < 40) (c2 : ¬ op < 69) (c3 : ¬ op < 103) (c4 : ¬ op < 139) (c5 : op < 167) : Calls Tryz.prog 237 #[.int .i64 op] w fun e w' => e = .returned (lnV (plainL op)) ∧ Below w.heap.size w w' := by
 obtain ⟨r,hr⟩ : ∃ r,r = tab43.getD (op - 139).toNat ln0 := ⟨_,rfl⟩
 have HP := hid (show plainL op = r by unfold plainL; rw [if_neg c1,if_neg c2,if_neg c3,if_neg c4,if_pos c5,hr])
 have H := fun W => hid (says43 (op - 139) W (by omega) (by omega))
 rw [show (op - 139).toNat = (op - 139).toNat by simp,← hr] at H
 clear hr
 go_enter Tryz.func237,Tryz.ntmps237
 go_wp2_with fail
 refine (H _).out.mono ?_
 rintro e w1 ⟨rfl,hb⟩
 obtain ⟨hc,hf⟩ := bcell hb
 unfold lnV
 go_wp2
 exact bodyPost_ret (v := lnV r) (by simp [results,Tryz.results237,go_sem,hc,lnV]) rfl ⟨by rw [HP.out],below_four hb _ _ _ _⟩
theorem plain_5 (op : Int) (w : World) (c0 : 0 ≤ op) (c1 : ¬ op < 40) (c2 : ¬ op < 69) (c3 : ¬ op < 103) (c4 : ¬ op < 139) (c5 : ¬ op < 167) (c6 : op < 197) : Calls Tryz.prog 237 #[.int .i64 op] w fun e w' => e = .returned (lnV (plainL op)) ∧ Below w.heap.size w w' := by
 obtain ⟨r,hr⟩ : ∃ r,r = tab44.getD (op - 167).toNat ln0 := ⟨_,rfl⟩
 have HP := hid (show plainL op = r by unfold plainL; rw [if_neg c1,if_neg c2,if_neg c3,if_neg c4,if_neg c5,if_pos c6,hr])
 have H := fun W => hid (says44 (op - 167) W (by omega) (by omega))
 rw [show (op - 167).toNat = (op - 167).toNat by simp,← hr] at H
 clear hr
 go_enter Tryz.func237,Tryz.ntmps237
 go_wp2_with fail
 refine (H _).out.mono ?_
 rintro e w1 ⟨rfl,hb⟩
 obtain ⟨hc,hf⟩ := bcell hb
 unfold lnV
 go_wp2
 exact bodyPost_ret (v := lnV r) (by simp [results,Tryz.results237,go_sem,hc,lnV]) rfl ⟨by rw [HP.out],below_four hb _ _ _ _⟩
theorem plain_ref (op : Int) (w : World) (c0 : 0 ≤ op) (c1 : ¬ op < 40) (c2 : ¬ op < 69) (c3 : ¬ op < 103) (c4 : ¬ op < 139) (c5 : ¬ op < 167) (c6 : ¬ op < 197) (c7 : 208 ≤ op) (c8 : op < 211) : Calls Tryz.prog 237 #[.int .i64 op] w fun e w' => e = .returned (lnV (plainL op)) ∧ Below w.heap.size w w' := by
 obtain ⟨r,hr⟩ : ∃ r,r = tab45.getD (op - 208).toNat ln0 := ⟨_,rfl⟩
 have HP := hid (show plainL op = r by unfold plainL; rw [if_neg c1,if_neg c2,if_neg c3,if_neg c4,if_neg c5,if_neg c6,if_pos c7,hr])
 have H := fun W => hid (says45 (op - 208) W (by omega) (by omega))
 rw [← hr] at H
 clear hr
 go_enter Tryz.func237,Tryz.ntmps237
 go_wp2_with fail
 refine (H _).out.mono ?_
 rintro e w1 ⟨rfl,hb⟩
 obtain ⟨hc,hf⟩ := bcell hb
 unfold lnV
 go_wp2
 exact bodyPost_ret (v := lnV r) (by simp [results,Tryz.results237,go_sem,hc,lnV]) rfl ⟨by rw [HP.out],below_four hb _ _ _ _⟩
theorem plain_none (op : Int) (w : World) (c0 : 0 ≤ op) (c1 : ¬ op < 40) (c2 : ¬ op < 69) (c3 : ¬ op < 103) (c4 : ¬ op < 139) (c5 : ¬ op < 167) (c6 : ¬ op < 197) (c7 : ¬ 208 ≤ op) : Calls Tryz.prog 237 #[.int .i64 op] w fun e w' => e = .returned (lnV (plainL op)) ∧ Below w.heap.size w w' := by
 have HP := hid (show plainL op = ln0 by unfold plainL; rw [if_neg c1,if_neg c2,if_neg c3,if_neg c4,if_neg c5,if_neg c6,if_neg c7])
 go_enter Tryz.func237,Tryz.ntmps237
 go_wp2_with fail
 exact bodyPost_ret (v := lnV ln0) (by simp [results,Tryz.results237,go_sem,lnV,ln0]) rfl ⟨by rw [HP.out],(Below.refl _ _).alloc (Nat.le_refl _) _⟩
theorem plain_says (op : Int) (w : World) (h0 : 0 ≤ op) (h1 : op < 211) : Calls Tryz.prog 237 #[.int .i64 op] w fun e w' => e = .returned (lnV (plainL op)) ∧ Below w.heap.size w w' := by
 by_cases d0 : op < 40
 ·exact plain_0 op w h0 d0
 by_cases d1 : op < 69
 ·exact plain_1 op w h0 d0 d1
 by_cases d2 : op < 103
 ·exact plain_2 op w h0 d0 d1 d2
 by_cases d3 : op < 139
 ·exact plain_3 op w h0 d0 d1 d2 d3
 by_cases d4 : op < 167
 ·exact plain_4 op w h0 d0 d1 d2 d3 d4
 by_cases d5 : op < 197
 ·exact plain_5 op w h0 d0 d1 d2 d3 d4 d5
 by_cases e : 208 ≤ op
 ·exact plain_ref op w h0 d0 d1 d2 d3 d4 d5 e h1
 exact plain_none op w h0 d0 d1 d2 d3 d4 d5 e
theorem vec_0 (op : Int) (w : World) (c0 : 0 ≤ op) (c1 : op < 14) : Calls Tryz.prog 239 #[.int .i64 op] w fun e w' => e = .returned (lnV (vectorL op)) ∧ Below w.heap.size w w' := by
 obtain ⟨r,hr⟩ : ∃ r,r = tab46.getD (op - 0).toNat ln0 := ⟨_,rfl⟩
 have HP := hid (show vectorL op = r by unfold vectorL; rw [if_pos c1,hr])
 have H := fun W => hid (says46 op W (by omega) (by omega))
 rw [show op.toNat = (op - 0).toNat by simp,← hr] at H
 clear hr
 go_enter Tryz.func239,Tryz.ntmps239
 go_wp2_with fail
 refine (H _).out.mono ?_
 rintro e w1 ⟨rfl,hb⟩
 obtain ⟨hc,hf⟩ := bcell hb
 unfold lnV
 go_wp2
 exact bodyPost_ret (v := lnV r) (by simp [results,Tryz.results239,go_sem,hc,lnV]) rfl ⟨by rw [HP.out],below_four hb _ _ _ _⟩
theorem vec_1 (op : Int) (w : World) (c0 : 0 ≤ op) (c1 : ¬ op < 14) (c2 : op < 35) : Calls Tryz.prog 239 #[.int .i64 op] w fun e w' => e = .returned (lnV (vectorL op)) ∧ Below w.heap.size w w' := by
 obtain ⟨r,hr⟩ : ∃ r,r = tab47.getD (op - 14).toNat ln0 := ⟨_,rfl⟩
 have HP := hid (show vectorL op = r by unfold vectorL; rw [if_neg c1,if_pos c2,hr])
 have H := fun W => hid (says47 (op - 14) W (by omega) (by omega))
 rw [show (op - 14).toNat = (op - 14).toNat by simp,← hr] at H
 clear hr
 go_enter Tryz.func239,Tryz.ntmps239
 go_wp2_with fail
 refine (H _).out.mono ?_
 rintro e w1 ⟨rfl,hb⟩
 obtain ⟨hc,hf⟩ := bcell hb
 unfold lnV
 go_wp2
 exact bodyPost_ret (v := lnV r) (by simp [results,Tryz.results239,go_sem,hc,lnV]) rfl ⟨by rw [HP.out],below_four hb _ _ _ _⟩
theorem vec_2 (op : Int) (w : World) (c0 : 0 ≤ op) (c1 : ¬ op < 14) (c2 : ¬ op < 35) (c3 : op < 77) : Calls Tryz.prog 239 #[.int .i64 op] w fun e w' => e = .returned (lnV (vectorL op)) ∧ Below w.heap.size w w' := by
 obtain ⟨r,hr⟩ : ∃ r,r = tab48.getD (op - 35).toNat ln0 := ⟨_,rfl⟩
 have HP := hid (show vectorL op = r by unfold vectorL; rw [if_neg c1,if_neg c2,if_pos c3,hr])
 have H := fun W => hid (says48 (op - 35) W (by omega) (by omega))
 rw [show (op - 35).toNat = (op - 35).toNat by simp,← hr] at H
 clear hr
 go_enter Tryz.func239,Tryz.ntmps239
 go_wp2_with fail
 refine (H _).out.mono ?_
 rintro e w1 ⟨rfl,hb⟩
 obtain ⟨hc,hf⟩ := bcell hb
 unfold lnV
 go_wp2
 exact bodyPost_ret (v := lnV r) (by simp [results,Tryz.results239,go_sem,hc,lnV]) rfl ⟨by rw [HP.out],below_four hb _ _ _ _⟩
theorem vec_3 (op : Int) (w : World) (c0 : 0 ≤ op) (c1 : ¬ op < 14) (c2 : ¬ op < 35) (c3 : ¬ op < 77) (c4 : op < 96) : Calls Tryz.prog 239 #[.int .i64 op] w fun e w' => e = .returned (lnV (vectorL op)) ∧ Below w.heap.size w w' := by
 obtain ⟨r,hr⟩ : ∃ r,r = tab49.getD (op - 77).toNat ln0 := ⟨_,rfl⟩
 have HP := hid (show vectorL op = r by unfold vectorL; rw [if_neg c1,if_neg c2,if_neg c3,if_pos c4,hr])
 have H := fun W => hid (says49 (op - 77) W (by omega) (by omega))
 rw [show (op - 77).toNat = (op - 77).toNat by simp,← hr] at H
 clear hr
 go_enter Tryz.func239,Tryz.ntmps239
 go_wp2_with fail
 refine (H _).out.mono ?_
 rintro e w1 ⟨rfl,hb⟩
 obtain ⟨hc,hf⟩ := bcell hb
 unfold lnV
 go_wp2
 exact bodyPost_ret (v := lnV r) (by simp [results,Tryz.results239,go_sem,hc,lnV]) rfl ⟨by rw [HP.out],below_four hb _ _ _ _⟩
theorem vec_4 (op : Int) (w : World) (c0 : 0 ≤ op) (c1 : ¬ op < 14) (c2 : ¬ op < 35) (c3 : ¬ op < 77) (c4 : ¬ op < 96) (c5 : op < 128) : Calls Tryz.prog 239 #[.int .i64 op] w fun e w' => e = .returned (lnV (vectorL op)) ∧ Below w.heap.size w w' := by
 obtain ⟨r,hr⟩ : ∃ r,r = tab50.getD (op - 96).toNat ln0 := ⟨_,rfl⟩
 have HP := hid (show vectorL op = r by unfold vectorL; rw [if_neg c1,if_neg c2,if_neg c3,if_neg c4,if_pos c5,hr])
 have H := fun W => hid (says50 (op - 96) W (by omega) (by omega))
 rw [show (op - 96).toNat = (op - 96).toNat by simp,← hr] at H
 clear hr
 go_enter Tryz.func239,Tryz.ntmps239
 go_wp2_with fail
 refine (H _).out.mono ?_
 rintro e w1 ⟨rfl,hb⟩
 obtain ⟨hc,hf⟩ := bcell hb
 unfold lnV
 go_wp2
 exact bodyPost_ret (v := lnV r) (by simp [results,Tryz.results239,go_sem,hc,lnV]) rfl ⟨by rw [HP.out],below_four hb _ _ _ _⟩
theorem vec_5 (op : Int) (w : World) (c0 : 0 ≤ op) (c1 : ¬ op < 14) (c2 : ¬ op < 35) (c3 : ¬ op < 77) (c4 : ¬ op < 96) (c5 : ¬ op < 128) (c6 : op < 160) : Calls Tryz.prog 239 #[.int .i64 op] w fun e w' => e = .returned (lnV (vectorL op)) ∧ Below w.heap.size w w' := by
 obtain ⟨r,hr⟩ : ∃ r,r = tab51.getD (op - 128).toNat ln0 := ⟨_,rfl⟩
 have HP := hid (show vectorL op = r by unfold vectorL; rw [if_neg c1,if_neg c2,if_neg c3,if_neg c4,if_neg c5,if_pos c6,hr])
 have H := fun W => hid (says51 (op - 128) W (by omega) (by omega))
 rw [show (op - 128).toNat = (op - 128).toNat by simp,← hr] at H
 clear hr
 go_enter Tryz.func239,Tryz.ntmps239
 go_wp2_with fail
 refine (H _).out.mono ?_
 rintro e w1 ⟨rfl,hb⟩
 obtain ⟨hc,hf⟩ := bcell hb
 unfold lnV
 go_wp2
 exact bodyPost_ret (v := lnV r) (by simp [results,Tryz.results239,go_sem,hc,lnV]) rfl ⟨by rw [HP.out],below_four hb _ _ _ _⟩
theorem vec_6 (op : Int) (w : World) (c0 : 0 ≤ op) (c1 : ¬ op < 14) (c2 : ¬ op < 35) (c3 : ¬ op < 77) (c4 : ¬ op < 96) (c5 : ¬ op < 128) (c6 : ¬ op < 160) (c7 : op < 192) : Calls Tryz.prog 239 #[.int .i64 op] w fun e w' => e = .returned (lnV (vectorL op)) ∧ Below w.heap.size w w' := by
 obtain ⟨r,hr⟩ : ∃ r,r = tab52.getD (op - 160).toNat ln0 := ⟨_,rfl⟩
 have HP := hid (show vectorL op = r by unfold vectorL; rw [if_neg c1,if_neg c2,if_neg c3,if_neg c4,if_neg c5,if_neg c6,if_pos c7,hr])
 have H := fun W => hid (says52 (op - 160) W (by omega) (by omega))
 rw [show (op - 160).toNat = (op - 160).toNat by simp,← hr] at H
 clear hr
 go_enter Tryz.func239,Tryz.ntmps239
 go_wp2_with fail
 refine (H _).out.mono ?_
 rintro e w1 ⟨rfl,hb⟩
 obtain ⟨hc,hf⟩ := bcell hb
 unfold lnV
 go_wp2
 exact bodyPost_ret (v := lnV r) (by simp [results,Tryz.results239,go_sem,hc,lnV]) rfl ⟨by rw [HP.out],below_four hb _ _ _ _⟩
theorem vec_7 (op : Int) (w : World) (c0 : 0 ≤ op) (c1 : ¬ op < 14) (c2 : ¬ op < 35) (c3 : ¬ op < 77) (c4 : ¬ op < 96) (c5 : ¬ op < 128) (c6 : ¬ op < 160) (c7 : ¬ op < 192) (c8 : op < 224) : Calls Tryz.prog 239 #[.int .i64 op] w fun e w' => e = .returned (lnV (vectorL op)) ∧ Below w.heap.size w w' := by
 obtain ⟨r,hr⟩ : ∃ r,r = tab53.getD (op - 192).toNat ln0 := ⟨_,rfl⟩
 have HP := hid (show vectorL op = r by unfold vectorL; rw [if_neg c1,if_neg c2,if_neg c3,if_neg c4,if_neg c5,if_neg c6,if_neg c7,if_pos c8,hr])
 have H := fun W => hid (says53 (op - 192) W (by omega) (by omega))
 rw [show (op - 192).toNat = (op - 192).toNat by simp,← hr] at H
 clear hr
 go_enter Tryz.func239,Tryz.ntmps239
 go_wp2_with fail
 refine (H _).out.mono ?_
 rintro e w1 ⟨rfl,hb⟩
 obtain ⟨hc,hf⟩ := bcell hb
 unfold lnV
 go_wp2
 exact bodyPost_ret (v := lnV r) (by simp [results,Tryz.results239,go_sem,hc,lnV]) rfl ⟨by rw [HP.out],below_four hb _ _ _ _⟩
theorem vec_last (op : Int) (w : World) (c0 : 0 ≤ op) (c1 : ¬ op < 14) (c2 : ¬ op < 35) (c3 : ¬ op < 77) (c4 : ¬ op < 96) (c5 : ¬ op < 128) (c6 : ¬ op < 160) (c7 : ¬ op < 192) (c8 : ¬ op < 224) (c9 : op < 256) : Calls Tryz.prog 239 #[.int .i64 op] w fun e w' => e = .returned (lnV (vectorL op)) ∧ Below w.heap.size w w' := by
 obtain ⟨r,hr⟩ : ∃ r,r = tab54.getD (op - 224).toNat ln0 := ⟨_,rfl⟩
 have HP := hid (show vectorL op = r by unfold vectorL; rw [if_neg c1,if_neg c2,if_neg c3,if_neg c4,if_neg c5,if_neg c6,if_neg c7,if_neg c8,hr])
 have H := fun W => hid (says54 (op - 224) W (by omega) (by omega))
 rw [← hr] at H
 clear hr
 go_enter Tryz.func239,Tryz.ntmps239
 go_wp2_with fail
 refine (H _).out.mono ?_
 rintro e w1 ⟨rfl,hb⟩
 obtain ⟨hc,hf⟩ := bcell hb
 unfold lnV
 go_wp2
 exact bodyPost_ret (v := lnV r) (by simp [results,Tryz.results239,go_sem,hc,lnV]) rfl ⟨by rw [HP.out],below_four hb _ _ _ _⟩
theorem vector_says (op : Int) (w : World) (h0 : 0 ≤ op) (h1 : op < 256) : Calls Tryz.prog 239 #[.int .i64 op] w fun e w' => e = .returned (lnV (vectorL op)) ∧ Below w.heap.size w w' := by
 by_cases d0 : op < 14
 ·exact vec_0 op w h0 d0
 by_cases d1 : op < 35
 ·exact vec_1 op w h0 d0 d1
 by_cases d2 : op < 77
 ·exact vec_2 op w h0 d0 d1 d2
 by_cases d3 : op < 96
 ·exact vec_3 op w h0 d0 d1 d2 d3
 by_cases d4 : op < 128
 ·exact vec_4 op w h0 d0 d1 d2 d3 d4
 by_cases d5 : op < 160
 ·exact vec_5 op w h0 d0 d1 d2 d3 d4 d5
 by_cases d6 : op < 192
 ·exact vec_6 op w h0 d0 d1 d2 d3 d4 d5 d6
 by_cases d7 : op < 224
 ·exact vec_7 op w h0 d0 d1 d2 d3 d4 d5 d6 d7
 exact vec_last op w h0 d0 d1 d2 d3 d4 d5 d6 d7 h1
theorem line_neg (op : Int) (w : World) (c0 : op < 0) : Calls Tryz.prog 215 #[.int .i64 op] w fun e w' => e = .returned (lnV (lineL op)) ∧ Below w.heap.size w w' := by
 have HP := hid (show lineL op = ln0 by unfold lineL; rw [if_pos c0])
 go_enter Tryz.func215,Tryz.ntmps215
 go_wp2_with fail
 exact bodyPost_ret (v := lnV ln0) (by simp [results,Tryz.results215,go_sem,lnV,ln0]) rfl ⟨by rw [HP.out],(Below.refl _ _).alloc (Nat.le_refl _) _⟩
theorem line_plain (op : Int) (w : World) (c0 : ¬ op < 0) (c1 : op < 211) : Calls Tryz.prog 215 #[.int .i64 op] w fun e w' => e = .returned (lnV (lineL op)) ∧ Below w.heap.size w w' := by
 obtain ⟨r,hr⟩ : ∃ r,r = plainL op := ⟨_,rfl⟩
 have HP := hid (show lineL op = r by unfold lineL; rw [if_neg c0,if_pos c1,hr])
 have H := fun W => hid (plain_says op W (by omega) c1)
 rw [← hr] at H
 clear hr
 go_enter Tryz.func215,Tryz.ntmps215
 go_wp2_with fail
 refine (H _).out.mono ?_
 rintro e w1 ⟨rfl,hb⟩
 obtain ⟨hc,hf⟩ := bcell hb
 unfold lnV
 go_wp2
 exact bodyPost_ret (v := lnV r) (by simp [results,Tryz.results215,go_sem,hc,lnV]) rfl ⟨by rw [HP.out],below_four hb _ _ _ _⟩
theorem line_bulk (op : Int) (w : World) (c0 : ¬ op < 0) (c1 : ¬ op < 211) (c2 : 64512 ≤ op) (c3 : op < 64530) : Calls Tryz.prog 215 #[.int .i64 op] w fun e w' => e = .returned (lnV (lineL op)) ∧ Below w.heap.size w w' := by
 obtain ⟨r,hr⟩ : ∃ r,r = tab37.getD (op - 64512).toNat ln0 := ⟨_,rfl⟩
 have HP := hid (show lineL op = r by unfold lineL; rw [if_neg c0,if_neg c1,if_pos ⟨c2,c3⟩,hr])
 have H := fun W => hid (says37 (op - 64512) W (by omega) (by omega))
 rw [← hr] at H
 clear hr
 go_enter Tryz.func215,Tryz.ntmps215
 go_wp2_with fail
 refine (H _).out.mono ?_
 rintro e w1 ⟨rfl,hb⟩
 obtain ⟨hc,hf⟩ := bcell hb
 unfold lnV
 go_wp2
 exact bodyPost_ret (v := lnV r) (by simp [results,Tryz.results215,go_sem,hc,lnV]) rfl ⟨by rw [HP.out],below_four hb _ _ _ _⟩
theorem line_vec (op : Int) (w : World) (c0 : ¬ op < 0) (c1 : ¬ op < 211) (c2 : ¬ op < 64530) (c3 : 64768 ≤ op) (c4 : op < 65024) : Calls Tryz.prog 215 #[.int .i64 op] w fun e w' => e = .returned (lnV (lineL op)) ∧ Below w.heap.size w w' := by
 obtain ⟨r,hr⟩ : ∃ r,r = vectorL (op - 64768) := ⟨_,rfl⟩
 have HP := hid (show lineL op = r by unfold lineL; rw [if_neg c0,if_neg c1,if_neg (fun h => c2 h.2),if_pos ⟨c3,c4⟩,hr])
 have H := fun W => hid (vector_says (op - 64768) W (by omega) (by omega))
 rw [← hr] at H
 clear hr
 have q : 64512 ≤ op := by omega
 go_enter Tryz.func215,Tryz.ntmps215
 go_wp2_with fail
 refine (H _).out.mono ?_
 rintro e w1 ⟨rfl,hb⟩
 obtain ⟨hc,hf⟩ := bcell hb
 unfold lnV
 go_wp2
 exact bodyPost_ret (v := lnV r) (by simp [results,Tryz.results215,go_sem,hc,lnV]) rfl ⟨by rw [HP.out],below_four hb _ _ _ _⟩
theorem line_gap1 (op : Int) (w : World) (c0 : ¬ op < 0) (c1 : ¬ op < 211) (c2 : ¬ 64512 ≤ op) : Calls Tryz.prog 215 #[.int .i64 op] w fun e w' => e = .returned (lnV (lineL op)) ∧ Below w.heap.size w w' := by
 have HP := hid (show lineL op = ln0 by unfold lineL; rw [if_neg c0,if_neg c1,if_neg (fun h => c2 h.1),if_neg (fun h => c2 (by omega))])
 have q : ¬ 64768 ≤ op := by omega
 go_enter Tryz.func215,Tryz.ntmps215
 go_wp2_with fail
 exact bodyPost_ret (v := lnV ln0) (by simp [results,Tryz.results215,go_sem,lnV,ln0]) rfl ⟨by rw [HP.out],(Below.refl _ _).alloc (Nat.le_refl _) _⟩
theorem line_gap2 (op : Int) (w : World) (c0 : ¬ op < 0) (c1 : ¬ op < 211) (c2 : 64512 ≤ op) (c3 : ¬ op < 64530) (c4 : ¬ 64768 ≤ op) : Calls Tryz.prog 215 #[.int .i64 op] w fun e w' => e = .returned (lnV (lineL op)) ∧ Below w.heap.size w w' := by
 have HP := hid (show lineL op = ln0 by unfold lineL; rw [if_neg c0,if_neg c1,if_neg (fun h => c3 h.2),if_neg (fun h => c4 h.1)])
 go_enter Tryz.func215,Tryz.ntmps215
 go_wp2_with fail
 exact bodyPost_ret (v := lnV ln0) (by simp [results,Tryz.results215,go_sem,lnV,ln0]) rfl ⟨by rw [HP.out],(Below.refl _ _).alloc (Nat.le_refl _) _⟩
theorem line_gap3 (op : Int) (w : World) (c0 : ¬ op < 0) (c1 : ¬ op < 211) (c2 : 64512 ≤ op) (c3 : ¬ op < 64530) (c4 : 64768 ≤ op) (c5 : ¬ op < 65024) : Calls Tryz.prog 215 #[.int .i64 op] w fun e w' => e = .returned (lnV (lineL op)) ∧ Below w.heap.size w w' := by
 have HP := hid (show lineL op = ln0 by unfold lineL; rw [if_neg c0,if_neg c1,if_neg (fun h => c3 h.2),if_neg (fun h => c5 h.2)])
 go_enter Tryz.func215,Tryz.ntmps215
 go_wp2_with fail
 exact bodyPost_ret (v := lnV ln0) (by simp [results,Tryz.results215,go_sem,lnV,ln0]) rfl ⟨by rw [HP.out],(Below.refl _ _).alloc (Nat.le_refl _) _⟩
theorem line_says (op : Int) (w : World) : Calls Tryz.prog 215 #[.int .i64 op] w fun e w' => e = .returned (lnV (lineL op)) ∧ Below w.heap.size w w' := by
 by_cases c0 : op < 0
 ·exact line_neg op w c0
 by_cases c1 : op < 211
 ·exact line_plain op w c0 c1
 by_cases c2 : 64512 ≤ op
 ·by_cases c3 : op < 64530
  ·exact line_bulk op w c0 c1 c2 c3
  by_cases c4 : 64768 ≤ op
  ·by_cases c5 : op < 65024
   ·exact line_vec op w c0 c1 c3 c4 c5
   exact line_gap3 op w c0 c1 c2 c3 c4 c5
  exact line_gap2 op w c0 c1 c2 c3 c4
 exact line_gap1 op w c0 c1 c2
def glob0 : List Int := [2,3,2,3,0,0,1,1,0,0,1,1,2,2,2,3,2,3,0,1,0,1,2]
def glob1 : List Int := [4,3,3,3,3,3,3,0,1,2,3,4]
def glob2 : List Int := [0,1,2,3,0,1,2,3,2,3]
def glob3 : List Int := [16,16,16,8,8,8,4,4,2,2,4,4,2,2]
def glob5 : List Int := [0,0,0,0,0,0,127,0,0,126,0,0,125,0,0,124,0,0,123,0,0,112,0,0,127,127,0,127,126,0,127,125,0,127,124,0,127,123,0,126,126,0,125,125,0,124,124,0,123,127,0,123,126,0,123,125,0,123,124,0,123,123,0,127,127,127,123,123,123]
structure Glob (w : World) : Prop where
 size : 6 ≤ w.heap.size
 c0 : ∀ j,j < 23 → w.cell? ⟨3,j,none⟩ = some (.int .i64 (glob0.getD j 0))
 c1 : ∀ j,j < 12 → w.cell? ⟨4,j,none⟩ = some (.int .i64 (glob1.getD j 0))
 c2 : ∀ j,j < 10 → w.cell? ⟨5,j,none⟩ = some (.int .i64 (glob2.getD j 0))
 c3 : ∀ j,j < 14 → w.cell? ⟨2,j,none⟩ = some (.int .i64 (glob3.getD j 0))
 c5 : ∀ j,j < 69 → w.cell? ⟨0,j,none⟩ = some (.int .i64 (glob5.getD j 0))
theorem Glob.below {B : Nat} {w w' : World} (h : Glob w) (hb : Below B w w') (hB : 6 ≤ B) : Glob w' where
 size := Nat.le_trans h.size hb.size
 c0 j hj := by rw [hb.cell (p := ⟨3,j,none⟩) (show 3 < B by omega),h.c0 j hj]
 c1 j hj := by rw [hb.cell (p := ⟨4,j,none⟩) (show 4 < B by omega),h.c1 j hj]
 c2 j hj := by rw [hb.cell (p := ⟨5,j,none⟩) (show 5 < B by omega),h.c2 j hj]
 c3 j hj := by rw [hb.cell (p := ⟨2,j,none⟩) (show 2 < B by omega),h.c3 j hj]
 c5 j hj := by rw [hb.cell (p := ⟨0,j,none⟩) (show 0 < B by omega),h.c5 j hj]
theorem Glob.next {w w' : World} (h : Glob w) (hb : Below w.heap.size w w') : Glob w' := h.below hb h.size
def rangeOps : List Int := (List.range 211).map (fun k : Nat => (k : Int)) ++ (List.range 18).map (fun k : Nat => 64512 + (k : Int)) ++ (List.range 256).map (fun k : Nat => 64768 + (k : Int))
theorem mem_rangeOps (op : Int) : op ∈ rangeOps ↔ (0 ≤ op ∧ op < 211) ∨ (64512 ≤ op ∧ op < 64530) ∨ (64768 ≤ op ∧ op < 65024) := by
 unfold rangeOps
 simp only [List.mem_append,List.mem_map,List.mem_range]
 constructor
 ·rintro ((⟨k,hk,rfl⟩ | ⟨k,hk,rfl⟩) | ⟨k,hk,rfl⟩) <;> omega
 rintro (⟨h0,h1⟩ | ⟨h0,h1⟩ | ⟨h0,h1⟩)
 ·exact .inl (.inl ⟨op.toNat,by omega,by omega⟩)
 ·exact .inl (.inr ⟨(op - 64512).toNat,by omega,by omega⟩)
 exact .inr ⟨(op - 64768).toNat,by omega,by omega⟩
theorem lineL_out (op : Int) (h : ¬ op ∈ rangeOps) : lineL op = ln0 := by
 rw [mem_rangeOps] at h
 unfold lineL
 by_cases c0 : op < 0
 ·rw [if_pos c0]
 rw [if_neg c0,if_neg (by omega),if_neg (by omega),if_neg (by omega)]
def okLn (r : Ln) : Bool := decide (0 ≤ r.2.1) && decide (r.2.1 ≤ 26) && decide (0 ≤ r.2.2.1) && decide (r.2.2.1 < 23) && decide (0 ≤ r.2.2.2) && decide (r.2.2.2 < 23)
theorem all_ok : (rangeOps.all fun op => okLn (lineL op)) = true := by kernel_rfl
theorem line_ok (op : Int) : 0 ≤ (lineL op).2.1 ∧ (lineL op).2.1 ≤ 26 ∧ 0 ≤ (lineL op).2.2.1 ∧ (lineL op).2.2.1 < 23 ∧ 0 ≤ (lineL op).2.2.2 ∧ (lineL op).2.2.2 < 23 := by
 have h : okLn (lineL op) = true := by
  by_cases hin : op ∈ rangeOps
  ·exact List.all_eq_true.1 all_ok op hin
  rw [lineL_out op hin]; rfl
 unfold okLn at h
 simp only [Bool.and_eq_true,decide_eq_true_eq] at h
 omega
def knB (r : Ln) : Bool := !r.1.toList.isEmpty
def fxB (r : Ln) : Bool := r.2.2.1 != 0
theorem known_says (r : Ln) (w : World) : Calls Tryz.prog 249 #[lnV r] w fun e w' => e = .returned (.bool (knB r)) ∧ Below w.heap.size w w' := by
 obtain ⟨s,a,b,c⟩ := r
 show Calls Tryz.prog 249 #[.agg #[.string s,.int .u8 a,.int .u8 b,.int .u8 c]] w fun e w' => e = .returned (.bool (!s.toList.isEmpty)) ∧ Below w.heap.size w w'
 go_enter Tryz.func249,Tryz.ntmps249
 go_wp2
 go_ret
 exact ⟨rfl,(Below.refl _ _).alloc (Nat.le_refl _) _⟩
theorem run_imm (r : Ln) (w : World) : (Instr.field 215 (lnV r) 1).run Tryz.prog w = .ok (.int .u8 r.2.1) w := by kernel_rfl
theorem Known_says (op : Int) (w : World) : Calls Tryz.prog 233 #[.int .i64 op] w fun e w' => e = .returned (.bool (knB (lineL op))) ∧ Below w.heap.size w w' := by
 obtain ⟨r,hr⟩ : ∃ r,r = lineL op := ⟨_,rfl⟩
 have H := fun W => hid (line_says op W)
 have HK := fun W => hid (known_says r W)
 rw [← hr] at H ⊢
 clear hr
 obtain ⟨b,hb0⟩ : ∃ b,b = knB r := ⟨_,rfl⟩
 rw [← hb0] at HK ⊢
 clear hb0
 obtain ⟨v,hv⟩ : ∃ v,v = lnV r := ⟨_,rfl⟩
 rw [← hv] at H HK
 clear hv
 go_enter Tryz.func233,Tryz.ntmps233
 go_wp2_with (first | (go_at_call 215; refine (H _).out.mono ?_; rintro e w1 ⟨rfl,hb⟩) | (go_at_call 249; refine (HK _).out.mono ?_; rintro e w2 ⟨rfl,hb2⟩))
 go_ret
 exact ⟨rfl,hb.trans (hb2.mono hb.size)⟩
theorem Imm_says (op : Int) (w : World) : Calls Tryz.prog 152 #[.int .i64 op] w fun e w' => e = .returned (.int .i64 (lineL op).2.1) ∧ Below w.heap.size w w' := by
 obtain ⟨h0,h1,_⟩ := line_ok op
 obtain ⟨r,hr⟩ : ∃ r,r = lineL op := ⟨_,rfl⟩
 have H := fun W => hid (line_says op W)
 have HF := run_imm r
 rw [← hr] at H h0 h1 ⊢
 clear hr
 obtain ⟨v,hv⟩ : ∃ v,v = lnV r := ⟨_,rfl⟩
 rw [← hv] at H HF
 clear hv
 go_enter Tryz.func152,Tryz.ntmps152
 go_wp2_with (go_at_call 215; refine (H _).out.mono ?_; rintro e w1 ⟨rfl,hb⟩)
 go_ret
 exact ⟨rfl,hb⟩
def CA (g : Nat) (cs : Array Value) (T : TypeId) (W : World) : Prop := W.heap[g]? = some (.cells cs T (0,0))
theorem CA.lt {g : Nat} {cs : Array Value} {T : TypeId} {W : World} (h : CA g cs T W) : g < W.heap.size := (Array.getElem?_eq_some_iff.1 h).1
theorem CA.new (w : World) (cs : Array Value) (T : TypeId) : CA w.heap.size cs T (w.alloc (.cells cs T)) := by
 show (w.heap.push _)[w.heap.size]? = _
 simp
theorem CA.at {g k : Nat} {cs : Array Value} {T : TypeId} {W : World} {v : Value} (h : CA g cs T W) (hk : cs[k]? = some v) : W.cell? ⟨g,k,none⟩ = some v := by
 unfold CA at h
 rw [World.cell?,h]
 simp [hk]
theorem ca9 {g : Nat} {T : TypeId} {W : World} {v0 v1 v2 v3 v4 v5 v6 v7 v8 : Value} (h : CA g #[v0,v1,v2,v3,v4,v5,v6,v7,v8] T W) : W.cell? ⟨g,0,none⟩ = some v0 ∧ W.cell? ⟨g,1,none⟩ = some v1 ∧ W.cell? ⟨g,2,none⟩ = some v2 ∧ W.cell? ⟨g,3,none⟩ = some v3 ∧ W.cell? ⟨g,4,none⟩ = some v4 ∧ W.cell? ⟨g,5,none⟩ = some v5 ∧ W.cell? ⟨g,6,none⟩ = some v6 ∧ W.cell? ⟨g,7,none⟩ = some v7 ∧ W.cell? ⟨g,8,none⟩ = some v8 := ⟨h.at rfl,h.at rfl,h.at rfl,h.at rfl,h.at rfl,h.at rfl,h.at rfl,h.at rfl,h.at rfl⟩
theorem CA.free {g : Nat} {cs : Array Value} {T : TypeId} {W : World} (h : CA g cs T W) (k : Nat) : W.frozen? ⟨g,k,none⟩ = false := by
 unfold CA at h
 rw [World.frozen?,h]
 simp
theorem CA.set {g k : Nat} {cs : Array Value} {T : TypeId} {W : World} (h : CA g cs T W) (v : Value) : CA g (cs.setIfInBounds k v) T (W.setCell ⟨g,k,none⟩ v) := by
 unfold CA at h ⊢
 rw [World.setCell,Array.getElem?_modify,if_pos rfl,h]
 rfl
theorem CA.below {g B : Nat} {cs : Array Value} {T : TypeId} {W W' : World} (h : CA g cs T W) (hb : Below B W W') (hg : g < B) : CA g cs T W' := by
 unfold CA at h ⊢
 rw [hb.block g hg,h]
theorem CA.alloc {g : Nat} {cs : Array Value} {T : TypeId} {W : World} (h : CA g cs T W) (o : Obj) : CA g cs T (W.alloc o) := h.below ((Below.refl _ _).alloc (Nat.le_refl _) o) h.lt
theorem size_al (w : World) (o : Obj) : (w.alloc o).heap.size = w.heap.size + 1 := by simp
structure KP (c : Option Nat) (w w' : World) : Prop where
 os : w'.os = w.os
 tape : w'.tape = w.tape
 output : w'.output = w.output
 size : w.heap.size ≤ w'.heap.size
 block : ∀ k,k < w.heap.size → c ≠ some k → w'.heap[k]? = w.heap[k]?
theorem KP.refl (c : Option Nat) (w : World) : KP c w w := ⟨rfl,rfl,rfl,Nat.le_refl _,fun _ _ _ => rfl⟩
theorem KP.trans {c : Option Nat} {a b w : World} (h : KP c a b) (k : KP c b w) : KP c a w :=
 ⟨k.os.trans h.os,k.tape.trans h.tape,k.output.trans h.output,Nat.le_trans h.size k.size,fun i hi hc => (k.block i (Nat.lt_of_lt_of_le hi h.size) hc).trans (h.block i hi hc)⟩
theorem KP.of {c : Option Nat} {w w' : World} (h : Below w.heap.size w w') : KP c w w' := ⟨h.os,h.tape,h.output,h.size,fun k hk _ => h.block k hk⟩
theorem KP.pure {w w' : World} (h : KP none w w') : Below w.heap.size w w' := ⟨h.os,h.tape,h.output,h.size,fun k hk => h.block k hk (by simp)⟩
theorem KP.alloc {c : Option Nat} {a w : World} (h : KP c a w) (o : Obj) : KP c a (w.alloc o) := h.trans (KP.of ((Below.refl _ _).alloc (Nat.le_refl _) o))
theorem KP.below {c : Option Nat} {w w' : World} {B : Nat} (h : KP c w w') (hB : B ≤ w.heap.size) (hc : ∀ k,c = some k → B ≤ k) : Below B w w' :=
 ⟨h.os,h.tape,h.output,h.size,fun k hk => h.block k (by omega) (fun e => by have := hc k e; omega)⟩
theorem Qd {w w1 w2 : World} (h : Hid (Below w.heap.size w w1)) (k : Below w1.heap.size w1 w2) : Hid (Below w.heap.size w w2) := h.out.trans (k.mono h.out.size)
theorem Qe {g : Nat} {cs : Array Value} {T : TypeId} {W W' : World} (h : Hid (CA g cs T W)) (k : Below W.heap.size W W') : Hid (CA g cs T W') := h.out.below k h.out.lt
theorem CA.keep {g : Nat} {cs : Array Value} {T : TypeId} {W W' : World} {c : Option Nat} (h : CA g cs T W) (hb : KP c W W') (hg : c ≠ some g) : CA g cs T W' := by
 have hl := h.lt
 unfold CA at h ⊢
 rw [hb.block g hl hg,h]
inductive Fo where
 | nil : Fo
 | cons (op a b : Int) (n h : Nat) (l : List Int) (ot : Bool) (body els rest : Fo) : Fo
def Fo.len : Fo → Nat
 | .nil => 0
 | .cons _ _ _ _ _ _ _ _ _ r => r.len + 1
def Fo.cnt : Fo → Nat
 | .nil => 0
 | .cons _ _ _ _ _ _ _ b e r => b.cnt + e.cnt + r.cnt + 1
def Fo.nst : Fo → Nat
 | .nil => 0
 | .cons _ _ _ _ _ _ _ b e r => max (max b.nst e.nst + 1) r.nst
def LI (B : Nat) (w : World) (v : Value) (l : List Int) : Prop := ∃ p c,v = .slice p l.length c ∧ l.length < 9223372036854775807 ∧ (l ≠ [] → ∃ g o,p = some ⟨g,o,none⟩ ∧ g < B ∧ ∀ j x,l[j]? = some x → w.cell? ⟨g,o + j,none⟩ = some (.int .i64 x))
theorem LI.below {B : Nat} {w w' : World} {v : Value} {l : List Int} (h : LI B w v l) (hb : Below B w w') : LI B w' v l := by
 obtain ⟨p,c,rfl,hq,h⟩ := h
 refine ⟨p,c,rfl,hq,fun hn => ?_⟩
 obtain ⟨g,o,rfl,hg,hc⟩ := h hn
 exact ⟨g,o,rfl,hg,fun j x hj => by rw [hb.cell (p := ⟨g,o + j,none⟩) hg]; exact hc j x hj⟩
theorem LI.mono {B B' : Nat} {w : World} {v : Value} {l : List Int} (h : LI B w v l) (hb : B ≤ B') : LI B' w v l := by
 obtain ⟨p,c,rfl,hq,h⟩ := h
 refine ⟨p,c,rfl,hq,fun hn => ?_⟩
 obtain ⟨g,o,rfl,hg,hc⟩ := h hn
 exact ⟨g,o,rfl,Nat.lt_of_lt_of_le hg hb,hc⟩
def FA (B : Nat) (w : World) : Fo → Nat → Nat → Prop
 | .nil,_,_ => True
 | .cons op a b n h l ot body els rest,g,o => g < B ∧ (∃ vl vb ve,
   w.cell? ⟨g,o,none⟩ = some (.int .i64 op) ∧ w.cell? ⟨g,o + 1,none⟩ = some (.int .i64 a) ∧ w.cell? ⟨g,o + 2,none⟩ = some (.int .i64 b) ∧
   w.cell? ⟨g,o + 3,none⟩ = some (.int .u64 n) ∧ w.cell? ⟨g,o + 4,none⟩ = some (.int .u64 h) ∧ w.cell? ⟨g,o + 5,none⟩ = some vl ∧
   w.cell? ⟨g,o + 6,none⟩ = some vb ∧ w.cell? ⟨g,o + 7,none⟩ = some ve ∧ w.cell? ⟨g,o + 8,none⟩ = some (.bool ot) ∧ LI B w vl l ∧
   (∃ p c g' o',vb = .slice p body.len c ∧ (body.len ≠ 0 → p = some ⟨g',o',none⟩) ∧ FA B w body g' o') ∧
   (∃ p c g' o',ve = .slice p els.len c ∧ (els.len ≠ 0 → p = some ⟨g',o',none⟩) ∧ FA B w els g' o')) ∧ FA B w rest g (o + 9)
def SA (B : Nat) (w : World) (v : Value) (f : Fo) : Prop := ∃ p c g' o',v = .slice p f.len c ∧ (f.len ≠ 0 → p = some ⟨g',o',none⟩) ∧ FA B w f g' o'
theorem FA.below {B : Nat} {w w' : World} (hb : Below B w w') : ∀ (f : Fo) (g o : Nat),FA B w f g o → FA B w' f g o := by
 intro f
 induction f with
 | nil => intro g o h; trivial
 | cons op a b n h l ot body els rest ihb ihe ihr =>
  rintro g o ⟨hg,⟨vl,vb,ve,h0,h1,h2,h3,h4,h5,h6,h7,h8,hl,⟨p,c,g',o',e1,e2,e3⟩,⟨p2,c2,g2,o2,f1,f2,f3⟩⟩,hr⟩
  have hc : ∀ k,w'.cell? ⟨g,k,none⟩ = w.cell? ⟨g,k,none⟩ := fun k => hb.cell (p := ⟨g,k,none⟩) hg
  exact ⟨hg,⟨vl,vb,ve,by rw [hc,h0],by rw [hc,h1],by rw [hc,h2],by rw [hc,h3],by rw [hc,h4],by rw [hc,h5],by rw [hc,h6],by rw [hc,h7],by rw [hc,h8],hl.below hb,⟨p,c,g',o',e1,e2,ihb _ _ e3⟩,⟨p2,c2,g2,o2,f1,f2,ihe _ _ f3⟩⟩,ihr _ _ hr⟩
theorem FA.mono {B B' : Nat} {w : World} (hb : B ≤ B') : ∀ (f : Fo) (g o : Nat),FA B w f g o → FA B' w f g o := by
 intro f
 induction f with
 | nil => intro g o h; trivial
 | cons op a b n h l ot body els rest ihb ihe ihr =>
  rintro g o ⟨hg,⟨vl,vb,ve,h0,h1,h2,h3,h4,h5,h6,h7,h8,hl,⟨p,c,g',o',e1,e2,e3⟩,⟨p2,c2,g2,o2,f1,f2,f3⟩⟩,hr⟩
  exact ⟨Nat.lt_of_lt_of_le hg hb,⟨vl,vb,ve,h0,h1,h2,h3,h4,h5,h6,h7,h8,hl.mono hb,⟨p,c,g',o',e1,e2,ihb _ _ e3⟩,⟨p2,c2,g2,o2,f1,f2,ihe _ _ f3⟩⟩,ihr _ _ hr⟩
theorem SA.below {B : Nat} {w w' : World} {v : Value} {f : Fo} (h : SA B w v f) (hb : Below B w w') : SA B w' v f := by
 obtain ⟨p,c,g,o,e1,e2,e3⟩ := h
 exact ⟨p,c,g,o,e1,e2,FA.below hb _ _ _ e3⟩
theorem SA.mono {B B' : Nat} {w : World} {v : Value} {f : Fo} (h : SA B w v f) (hb : B ≤ B') : SA B' w v f := by
 obtain ⟨p,c,g,o,e1,e2,e3⟩ := h
 exact ⟨p,c,g,o,e1,e2,FA.mono hb _ _ _ e3⟩
theorem SA.nil (B : Nat) (w : World) (p : Option Addr) (c : Nat) : SA B w (.slice p 0 c) .nil := ⟨p,c,0,0,rfl,fun h => absurd rfl h,trivial⟩
theorem LI.nil (B : Nat) (w : World) (p : Option Addr) (c : Nat) : LI B w (.slice p 0 c) [] := ⟨p,c,rfl,by decide,fun h => absurd rfl h⟩
def evF {σ : Type} (st : σ → Int → Int → Int → Int → Nat → Nat → List Int → Bool → Fo → Fo → Bool × σ) : Fo → Int → σ → Bool × σ
 | .nil,_,s => (true,s)
 | .cons op a b n h l ot body els rest,d,s =>
  if (st s d op a b n h l ot body els).1 = true then
   if (evF st body (d + 1) (st s d op a b n h l ot body els).2).1 = true then
    if (evF st els (d + 1) (evF st body (d + 1) (st s d op a b n h l ot body els).2).2).1 = true then
     evF st rest d (evF st els (d + 1) (evF st body (d + 1) (st s d op a b n h l ot body els).2).2).2
    else (false,(evF st els (d + 1) (evF st body (d + 1) (st s d op a b n h l ot body els).2).2).2)
   else (false,(evF st body (d + 1) (st s d op a b n h l ot body els).2).2)
  else (false,(st s d op a b n h l ot body els).2)
section
open Go.ChangeShapes Go.WideShapes Go.ChangeAt
theorem c3 : Tryz.prog.cellsOf 3 = 1 := by kernel_rfl
theorem c4 : Tryz.prog.cellsOf 4 = 1 := by kernel_rfl
theorem c35 : Tryz.prog.cellsOf 35 = 1 := by kernel_rfl
theorem c36 : Tryz.prog.cellsOf 36 = 1 := by kernel_rfl
theorem c37 : Tryz.prog.cellsOf 37 = 1 := by kernel_rfl
theorem c39 : Tryz.prog.cellsOf 39 = 9 := by kernel_rfl
theorem by3 : Tryz.prog.bytesOf 3 = 8 := by kernel_rfl
theorem by39 : 8 ≤ Tryz.prog.bytesOf 39 := by
 have : decide (8 ≤ Tryz.prog.bytesOf 39) = true := by kernel_rfl
 exact of_decide_eq_true this
def WB {H : Type} (t : TypeId) (d : DataW H) : Prop := ∀ n ∈ d.weights Tryz.prog t,n ≤ reachBytes
theorem wb_all {H : Type} {e : TypeId} : ∀ {l : List (DataW H)},(∀ n ∈ DataW.weightsAll Tryz.prog e l,n ≤ reachBytes) → ∀ d ∈ l,WB e d
 | [],_,d,hd => by simp at hd
 | x :: l,h,d,hd => by
  simp only [DataW.weightsAll,List.mem_append] at h
  rcases List.mem_cons.1 hd with rfl | hd
  ·exact fun n hn => h n (.inl hn)
  exact wb_all (fun n hn => h n (.inr hn)) d hd
theorem wb_slice {H : Type} {t e : TypeId} {elems spare : List (DataW H)} (hu : Tryz.prog.underlying t = some (.slice e)) (h : WB t (.slice elems spare)) : (elems.length + spare.length) * Tryz.prog.bytesOf e ≤ reachBytes ∧ ∀ d ∈ elems,WB e d := by
 unfold WB at h
 simp only [DataW.weights,hu,List.mem_cons,List.mem_append] at h
 exact ⟨h _ (.inl rfl),wb_all fun n hn => h n (.inr (.inl hn))⟩
theorem wb_part {H : Type} {t : TypeId} {fs : Array Field} {parts : List (DataW H)} (hu : Tryz.prog.underlying t = some (.struct fs)) (h : WB t (.agg parts)) (j : Nat) (f : Field) (d : DataW H) (hf : fs[j]? = some f) (hd : parts[j]? = some d) : WB f.type d := by
 intro n hn
 unfold WB at h
 simp only [DataW.weights,hu] at h
 exact h n (DataW.weights_mem_each (by simp [hf]) hd n hn)
def Lens : Fo → Prop
 | .nil => True
 | .cons _ _ _ _ _ _ _ body els rest => body.len < 9223372036854775807 ∧ els.len < 9223372036854775807 ∧ Lens body ∧ Lens els ∧ Lens rest
theorem add_zero' (b : Addr) : b.add 0 = b := by unfold Addr.add; exact if_pos rfl
theorem cell_plain {w : World} {a : Addr} {k : Nat} {v : Value} (h0 : a.spot = none) (h : w.cell? (a.add k) = some v) : w.cell? ⟨a.block,a.off + k,none⟩ = some v := by
 have e : a.add k = ⟨a.block,a.off + k,none⟩ := by
  unfold Addr.add
  split
  ·rename_i hk
   subst hk
   cases a
   simp_all
  rfl
 rw [← e]
 exact h
theorem spot_none {w : World} {a : Addr} {v : Value} (h : w.cell? (a.add 0) = some v) : a.spot = none := by
 have e : a.add 0 = a := by unfold Addr.add; simp
 rw [e] at h
 unfold World.cell? at h
 split at h
 ·split at h
  ·cases h
  rename_i hs
  simpa using hs
 cases h
section
variable {H : Type} {enc : TypeId × Value → H} {W : World} {sp : Nat → Bool} {held : Bool}
theorem fields39 : ∃ f0 f1 f2 f3 f4 f5 f6 f7 f8 : Field,Tryz.prog.underlying 39 = some (.struct #[f0,f1,f2,f3,f4,f5,f6,f7,f8]) ∧ (f0.type = 3 ∧ f1.type = 3 ∧ f2.type = 3 ∧ f3.type = 35 ∧ f4.type = 35 ∧ f5.type = 36 ∧ f6.type = 37 ∧ f7.type = 37 ∧ f8.type = 4) ∧
  (f0.offset = 0 ∧ f1.offset = 1 ∧ f2.offset = 2 ∧ f3.offset = 3 ∧ f4.offset = 4 ∧ f5.offset = 5 ∧ f6.offset = 6 ∧ f7.offset = 7 ∧ f8.offset = 8) :=
 ⟨_,_,_,_,_,_,_,_,_,Tryz.underlying39,⟨rfl,rfl,rfl,rfl,rfl,rfl,rfl,rfl,rfl⟩,⟨rfl,rfl,rfl,rfl,rfl,rfl,rfl,rfl,rfl⟩⟩
end
end
end Go.Proofs.YtjgeedgphcjhoaaGreat
