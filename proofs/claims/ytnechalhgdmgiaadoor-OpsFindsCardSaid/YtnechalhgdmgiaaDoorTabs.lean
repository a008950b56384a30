/-
  The program's table of instructions, read off the program's own text, and the contract of each of its sixteen parts. Condition: the place is inside the part.
-/
import Derived.Test.YtnechalhgdmgiaaDoorProg
import Derived.WalkKit
import Derived.WalkSpells
import Derived.WalkLawsBesides
import Derived.Below
import Derived.Great.BuildSlice
set_option linter.unusedSimpArgs false
set_option linter.unusedVariables false
namespace Go.Proofs.YtnechalhgdmgiaaDoor
open Go.RowKit

theorem hid {p : Prop} (h : p) : Hid p := h

/-- A line of the table: the name, what stands behind, what it takes, what it leaves. -/
abbrev Ln := ByteArray × Int × Int × Int
def ln0 : Ln := (⟨#[]⟩, 0, 0, 0)

def opLn : Op → Option Ln
  | .build _ parts => match parts.toList with
    | [(_, .const (.string s)), (_, .const (.int _ a)), (_, .const (.int _ b)), (_, .const (.int _ c))] => some (s, a, b, c)
    | [] => some ln0
    | _ => none
  | _ => none
def opKeys : Op → Option (List (Nat × Nat))
  | .build _ parts => parts.toList.mapM fun x => match x.2 with
    | .tmp t => some (x.1, t)
    | _ => none
  | _ => none
def opsOf (f : Func) : List Oper := match f.body with
  | some (.seq (.region _ _ _) (.seq (.region _ ops _) .ret)) => ops.toList
  | _ => []
/-- The lines of a part, in their order. -/
def tabOf (n : Nat) (f : Func) : List Ln :=
  let rows := (opsOf f).filterMap fun o => opLn o.op
  let keys := ((opsOf f).filterMap fun o => (opKeys o.op).bind fun l => if l = [] then none else some l).headD []
  (List.range n).map fun k => match keys.find? fun x => x.1 == k with
    | some x => rows.getD (x.2 - 3) ln0
    | none => ln0

def lnCells (r : Ln) : List Value := [.string r.1, .int .u8 r.2.1, .int .u8 r.2.2.1, .int .u8 r.2.2.2]
def lnV (r : Ln) : Value := .agg #[.string r.1, .int .u8 r.2.1, .int .u8 r.2.2.1, .int .u8 r.2.2.2]
def tabCells (l : List Ln) : Array Value := (l.flatMap lnCells).toArray


theorem size43 : (Tryd.prog.info? 43).map (·.size) = some 4 := by kernel_rfl
theorem cells43 : Tryd.prog.cellsOf 43 = 4 := by kernel_rfl

theorem flat_length (l : List Ln) : (l.flatMap lnCells).length = l.length * 4 := by
  induction l with
  | nil => rfl
  | cons r l ih => rw [List.flatMap_cons, List.length_append, ih]; simp [lnCells]; try omega
theorem flat_take (l : List Ln) (k : Nat) (h : k < l.length) : ((l.flatMap lnCells).drop (k * 4)).take 4 = lnCells (l.getD k ln0) := by
  induction l generalizing k with
  | nil => simp at h
  | cons r l ih =>
    cases k with
    | zero => simp [lnCells]
    | succ k =>
      have e : (k + 1) * 4 = (lnCells r).length + k * 4 := by simp [lnCells]; omega
      rw [List.flatMap_cons, e, List.drop_append, List.drop_eq_nil_of_le (by omega)]
      simp only [List.nil_append, Nat.add_sub_cancel_left]
      rw [ih k (by simpa using h)]
      rfl

theorem run_index_tab {T : TypeId} {n : Nat} (hu : Tryd.prog.underlying T = some (.array n 43)) (l : List Ln) (hl : l.length = n) (i : Int) (h0 : 0 ≤ i) (h1 : i < n) (W : World) :
    (Instr.index T (.agg (tabCells l)) (.int .i64 i)).run Tryd.prog W = .ok (lnV (l.getD i.toNat ln0)) W := by
  have hs : (sizeOf 43).run Tryd.prog W = .ok 4 W := by kernel_rfl
  have hsz : (tabCells l).size = n * 4 := by unfold tabCells; rw [List.size_toArray, flat_length, hl]
  have hlt : i.toNat < l.length := by omega
  have e : (tabCells l).extract (i.toNat * 4) (i.toNat * 4 + 4) = (lnCells (l.getD i.toNat ln0)).toArray := by
    unfold tabCells
    rw [← flat_take l i.toNat hlt]
    simp
  have hc : (0 : Int) ≤ i ∧ i < (n : Int) := ⟨h0, h1⟩
  simp [Instr.index, asIntOf, run_underlying hu, hc, part, hs]
  rw [e]
  simp [lnV, lnCells]

/-- A part's contract: the line, in new memory. -/
def LnSays (f : FuncId) (n : Nat) (l : List Ln) : Prop := ∀ (i : Int) (w : World), 0 ≤ i → i < n → Calls Tryd.prog f #[.int .i64 i] w fun e w' => e = .returned (lnV (l.getD i.toNat ln0)) ∧ Below w.heap.size w w'


/-- Builds alone, one behind the other: what the frame holds behind them. -/
def buildsRun (P : Program) : List Oper → Act → Option Act
  | [], a => some a
  | o :: l, a => match o.guard, o.op with
    | none, .build t parts => (P.built t (parts.map fun (i, x) => (i, a.eval x)).toList).bind fun cs => buildsRun P l (a.put o.dst (.agg cs))
    | _, _ => none

theorem wpList_builds {P : Program} {ops : Array Oper} {Q : Exit → Act → World → Prop} {w : World} {rest : List Oper} : ∀ (l : List Oper) (a a' : Act), buildsRun P l a = some a' → wpList P ops Q rest a' w → wpList P ops Q (l ++ rest) a w
  | [], a, a', h, k => by simp [buildsRun] at h; subst h; exact k
  | o :: l, a, a', h, k => by
    unfold buildsRun at h
    split at h
    · rename_i t parts hg ho
      obtain ⟨cs, hc, h'⟩ := Option.bind_eq_some_iff.1 h
      exact wpList_buildTo hg t parts ho o.dst rfl cs hc (wpList_builds l _ a' h' k)
    · cases h

def see (m : Nat) (a : Act) : Value × Value × Value × Nat × List Deferred := (a.tmps.getD 0 undef, a.tmps.getD 2 undef, a.tmps.getD m undef, a.tmps.size, a.defers)
def frame0 (i : Int) (p : Value) (m : Nat) : Act := { tmps := (.int .i64 i :: undef :: p :: List.replicate m undef).toArray, defers := [] }

theorem run_to {P : Program} {ops : Array Oper} {rest : List Oper} {o : Oper} {a : Act} {w : World} {Q : Exit → Act → World → Prop} (hg : o.guard = none) (dst : Option Tmp) (hdst : o.dst = dst)
    (v : Value) (w' : World) (hrun : (execOp a.eval o).run P w = .ok (.value v) w') (h : wpList P ops Q rest (a.put dst v) w') : wpList P ops Q (o :: rest) a w := by
  subst hdst
  refine wpList_plain hg fun K hK => ?_
  unfold Oper.wp
  rw [hrun, Oper.upon_value]
  exact hK _ _ h

def z43 : Array Value := #[.string ⟨#[]⟩, .int .u8 0, .int .u8 0, .int .u8 0]

theorem frame_put (i : Int) (p : Value) (m : Nat) : Act.put { tmps := #[Value.int .i64 i] ++ Array.replicate (m + 2) undef, defers := [] } (some 2) p = frame0 i p m := by
  unfold Act.put frame0
  congr 1
  simp [Array.replicate_succ', List.replicate_succ]

theorem part_says {f : FuncId} {fn : Func} {T : TypeId} {n m : Nat} {oa om oi os : Oper} {builds : List Oper} {tab : List Ln}
    (hf : Tryd.prog.funcs[f]? = some fn) (hb : fn.body = some (.seq (.region 0 #[oa] false) (.seq (.region 1 (builds ++ [om, oi, os]).toArray false) .ret)))
    (hr : fn.results = #[.cell 2 43]) (hn : fn.ntmps = m + 3) (hT : Tryd.prog.underlying T = some (.array n 43)) (hl : tab.length = n)
    (ha : oa.op = .alloc 43 ∧ oa.dst = some 2 ∧ oa.guard = none)
    (hm : om.op = .move (.tmp 0) ∧ om.dst = some (m + 1) ∧ om.guard = none)
    (hi : oi.op = .index T (.tmp m) (.tmp (m + 1)) ∧ oi.dst = some (m + 2) ∧ oi.guard = none)
    (hs : os.op = .store 43 (.tmp 2) (.tmp (m + 2)) ∧ os.dst = none ∧ os.guard = none)
    (h3 : 3 ≤ m)
    (hrun : ∀ (i : Int) (p : Value), (buildsRun Tryd.prog builds (frame0 i p m)).map (see m) = some (.int .i64 i, p, .agg (tabCells tab), m + 3, [])) :
    LnSays f n tab := by
  intro i w h0 h1
  obtain ⟨ha1, ha2, ha3⟩ := ha
  obtain ⟨hm1, hm2, hm3⟩ := hm
  obtain ⟨hi1, hi2, hi3⟩ := hi
  obtain ⟨hs1, hs2, hs3⟩ := hs
  refine calls_of_wp hf hb ?_
  have hsz : fn.ntmps - (#[Value.int .i64 i] : Array Value).size = m + 2 := by rw [hn]; simp
  rw [hsz]
  refine wp_seq (wp_region_lit (l := [oa]) ?_)
  refine run_to ha3 (some 2) ha2 (.pointer (some ⟨w.heap.size, 0, none⟩)) (w.alloc (.cells z43 43)) (by unfold execOp; rw [ha1]; kernel_rfl) ?_
  rw [frame_put]
  show Exit.then _ _ .normal _ _
  show Code.wp _ _ _ _ _
  refine wp_seq (wp_region_lit (l := builds ++ [om, oi, os]) ?_)
  obtain ⟨a', ha', hsee⟩ := Option.map_eq_some_iff.1 (hrun i (.pointer (some ⟨w.heap.size, 0, none⟩)))
  refine wpList_builds builds _ a' ha' ?_
  simp only [see, Prod.mk.injEq] at hsee
  obtain ⟨e0, e2, em, en, ed⟩ := hsee
  have x0 : a'.tmps[0]? = some (.int .i64 i) := by
    rw [Array.getElem?_eq_getElem (by omega)]; rw [Array.getD_eq_getD_getElem?, Array.getElem?_eq_getElem (by omega)] at e0; simpa using e0
  have x2 : a'.tmps[2]? = some (.pointer (some ⟨w.heap.size, 0, none⟩)) := by
    rw [Array.getElem?_eq_getElem (by omega)]; rw [Array.getD_eq_getD_getElem?, Array.getElem?_eq_getElem (by omega)] at e2; simpa using e2
  have xm : a'.tmps[m]? = some (.agg (tabCells tab)) := by
    rw [Array.getElem?_eq_getElem (by omega)]; rw [Array.getD_eq_getD_getElem?, Array.getElem?_eq_getElem (by omega)] at em; simpa using em
  clear e0 e2 em ha' hrun
  refine run_to hm3 (some (m + 1)) hm2 (.int .i64 i) (w.alloc (.cells z43 43)) (by unfold execOp; rw [hm1]; simp [Act.eval, Frame.eval, x0]) ?_
  refine run_to hi3 (some (m + 2)) hi2 (lnV (tab.getD i.toNat ln0)) (w.alloc (.cells z43 43)) (by
    unfold execOp; rw [hi1]
    have q1 : Act.eval (a'.put (some (m + 1)) (.int .i64 i)) (.tmp m) = .agg (tabCells tab) := by
      simp [Act.eval, Act.put, xm, Array.getD_eq_getD_getElem?, Array.getElem?_setIfInBounds]
    have q2 : Act.eval (a'.put (some (m + 1)) (.int .i64 i)) (.tmp (m + 1)) = .int .i64 i := by
      simp [Act.eval, Act.put, Array.getD_eq_getD_getElem?, Array.getElem?_setIfInBounds, en]
    simp only [q1, q2]
    simp only [Sem.run_bind, run_index_tab hT tab hl i h0 h1, Result.andThen_ok]
    rfl) ?_
  obtain ⟨r, hr'⟩ : ∃ r, r = tab.getD i.toNat ln0 := ⟨_, rfl⟩
  rw [← hr']
  clear hr'
  have hheap : (w.alloc (.cells z43 43)).heap[w.heap.size]? = some (.cells z43 43 (0, 0)) := by
    show (w.heap.push _)[w.heap.size]? = _
    simp
  have g2 : ∀ v1 v2 : Value, ((a'.tmps.setIfInBounds (m + 1) v1).setIfInBounds (m + 2) v2)[2]? = some (.pointer (some ⟨w.heap.size, 0, none⟩)) := fun v1 v2 => by
    rw [Array.getElem?_setIfInBounds_ne (by omega), Array.getElem?_setIfInBounds_ne (by omega), x2]
  have q : ∀ v1 v2 : Value, ((a'.tmps.setIfInBounds (m + 1) v1).setIfInBounds (m + 2) v2).getD 2 undef = .pointer (some ⟨w.heap.size, 0, none⟩) := fun v1 v2 => by
    rw [Array.getD_eq_getD_getElem?, g2]; rfl
  refine wpList_store_row hs3 43 (.tmp 2) (.tmp (m + 2)) hs1 w.heap.size (lnCells r).toArray (q _ _) ?_ 43 z43 hheap size43 rfl (by simp [lnCells, Value.oneCell']) ?_
  · simp [Act.eval, Act.put, Array.getD_eq_getD_getElem?, Array.getElem?_setIfInBounds, en, lnV, lnCells]
  rw [hs2]
  show Exit.then _ _ .normal _ _
  show Code.wp _ _ _ _ _
  refine wp_ret ?_
  refine bodyPost_ret (v := lnV r) ?_ ?_ ⟨rfl, ?_⟩
  · have hl := run_loadVar_row (P := Tryd.prog) ((w.alloc (.cells z43 43)).setRow w.heap.size (lnCells r).toArray) w.heap.size 43 43 (lnCells r).toArray (0, 0) _
      (setRow_heap _ _ _ _ _ _ hheap) Tryd.underlying43 rfl size43
    have q' := q (.int .i64 i) (lnV r)
    unfold results
    rw [hr]
    simp only [Act.put]
    generalize (a'.tmps.setIfInBounds (m + 1) (.int .i64 i)).setIfInBounds (m + 2) (lnV r) = arr at q' ⊢
    rw [Array.getD_eq_getD_getElem?] at q'
    simp [q', asAddr, hl]
    rfl
  · simpa [Act.put] using ed
  · exact ⟨rfl, rfl, rfl, by simp, fun k hk => by rw [setRow_other _ _ _ _ (by omega)]; exact Below.heap_alloc _ _ _ hk⟩

/-- The k-th operation of a part. -/
def opAt (f : Func) (k : Nat) : Oper := (opsOf f).getD k default

def op0 (f : Func) : Oper := match f.body with
  | some (.seq (.region _ ops _) _) => ops.toList.headD default
  | _ => default

noncomputable def tab37 : List Ln := tabOf 18 Tryd.f37
set_option maxRecDepth 100000 in
theorem says37 : LnSays 37 18 tab37 :=
  part_says (T := 59) (m := 21) (builds := (opsOf Tryd.f37).take 19) (oa := op0 Tryd.f37) (om := opAt Tryd.f37 19) (oi := opAt Tryd.f37 20) (os := opAt Tryd.f37 21) Tryd.func37 (by kernel_rfl) (by kernel_rfl) (by kernel_rfl) Tryd.underlying59 (by kernel_rfl)
    ⟨by kernel_rfl, by kernel_rfl, by kernel_rfl⟩ ⟨by kernel_rfl, by kernel_rfl, by kernel_rfl⟩ ⟨by kernel_rfl, by kernel_rfl, by kernel_rfl⟩ ⟨by kernel_rfl, by kernel_rfl, by kernel_rfl⟩ (by decide) (fun _ _ => by kernel_rfl)
noncomputable def tab39 : List Ln := tabOf 40 Tryd.f39
set_option maxRecDepth 100000 in
theorem says39 : LnSays 39 40 tab39 :=
  part_says (T := 60) (m := 24) (builds := (opsOf Tryd.f39).take 22) (oa := op0 Tryd.f39) (om := opAt Tryd.f39 22) (oi := opAt Tryd.f39 23) (os := opAt Tryd.f39 24) Tryd.func39 (by kernel_rfl) (by kernel_rfl) (by kernel_rfl) Tryd.underlying60 (by kernel_rfl)
    ⟨by kernel_rfl, by kernel_rfl, by kernel_rfl⟩ ⟨by kernel_rfl, by kernel_rfl, by kernel_rfl⟩ ⟨by kernel_rfl, by kernel_rfl, by kernel_rfl⟩ ⟨by kernel_rfl, by kernel_rfl, by kernel_rfl⟩ (by decide) (fun _ _ => by kernel_rfl)
noncomputable def tab40 : List Ln := tabOf 29 Tryd.f40
set_option maxRecDepth 100000 in
theorem says40 : LnSays 40 29 tab40 :=
  part_says (T := 61) (m := 32) (builds := (opsOf Tryd.f40).take 30) (oa := op0 Tryd.f40) (om := opAt Tryd.f40 30) (oi := opAt Tryd.f40 31) (os := opAt Tryd.f40 32) Tryd.func40 (by kernel_rfl) (by kernel_rfl) (by kernel_rfl) Tryd.underlying61 (by kernel_rfl)
    ⟨by kernel_rfl, by kernel_rfl, by kernel_rfl⟩ ⟨by kernel_rfl, by kernel_rfl, by kernel_rfl⟩ ⟨by kernel_rfl, by kernel_rfl, by kernel_rfl⟩ ⟨by kernel_rfl, by kernel_rfl, by kernel_rfl⟩ (by decide) (fun _ _ => by kernel_rfl)
noncomputable def tab41 : List Ln := tabOf 34 Tryd.f41
set_option maxRecDepth 100000 in
theorem says41 : LnSays 41 34 tab41 :=
  part_says (T := 62) (m := 37) (builds := (opsOf Tryd.f41).take 35) (oa := op0 Tryd.f41) (om := opAt Tryd.f41 35) (oi := opAt Tryd.f41 36) (os := opAt Tryd.f41 37) Tryd.func41 (by kernel_rfl) (by kernel_rfl) (by kernel_rfl) Tryd.underlying62 (by kernel_rfl)
    ⟨by kernel_rfl, by kernel_rfl, by kernel_rfl⟩ ⟨by kernel_rfl, by kernel_rfl, by kernel_rfl⟩ ⟨by kernel_rfl, by kernel_rfl, by kernel_rfl⟩ ⟨by kernel_rfl, by kernel_rfl, by kernel_rfl⟩ (by decide) (fun _ _ => by kernel_rfl)
noncomputable def tab42 : List Ln := tabOf 36 Tryd.f42
set_option maxRecDepth 100000 in
theorem says42 : LnSays 42 36 tab42 :=
  part_says (T := 63) (m := 39) (builds := (opsOf Tryd.f42).take 37) (oa := op0 Tryd.f42) (om := opAt Tryd.f42 37) (oi := opAt Tryd.f42 38) (os := opAt Tryd.f42 39) Tryd.func42 (by kernel_rfl) (by kernel_rfl) (by kernel_rfl) Tryd.underlying63 (by kernel_rfl)
    ⟨by kernel_rfl, by kernel_rfl, by kernel_rfl⟩ ⟨by kernel_rfl, by kernel_rfl, by kernel_rfl⟩ ⟨by kernel_rfl, by kernel_rfl, by kernel_rfl⟩ ⟨by kernel_rfl, by kernel_rfl, by kernel_rfl⟩ (by decide) (fun _ _ => by kernel_rfl)
noncomputable def tab43 : List Ln := tabOf 28 Tryd.f43
set_option maxRecDepth 100000 in
theorem says43 : LnSays 43 28 tab43 :=
  part_says (T := 64) (m := 31) (builds := (opsOf Tryd.f43).take 29) (oa := op0 Tryd.f43) (om := opAt Tryd.f43 29) (oi := opAt Tryd.f43 30) (os := opAt Tryd.f43 31) Tryd.func43 (by kernel_rfl) (by kernel_rfl) (by kernel_rfl) Tryd.underlying64 (by kernel_rfl)
    ⟨by kernel_rfl, by kernel_rfl, by kernel_rfl⟩ ⟨by kernel_rfl, by kernel_rfl, by kernel_rfl⟩ ⟨by kernel_rfl, by kernel_rfl, by kernel_rfl⟩ ⟨by kernel_rfl, by kernel_rfl, by kernel_rfl⟩ (by decide) (fun _ _ => by kernel_rfl)
noncomputable def tab44 : List Ln := tabOf 30 Tryd.f44
set_option maxRecDepth 100000 in
theorem says44 : LnSays 44 30 tab44 :=
  part_says (T := 65) (m := 33) (builds := (opsOf Tryd.f44).take 31) (oa := op0 Tryd.f44) (om := opAt Tryd.f44 31) (oi := opAt Tryd.f44 32) (os := opAt Tryd.f44 33) Tryd.func44 (by kernel_rfl) (by kernel_rfl) (by kernel_rfl) Tryd.underlying65 (by kernel_rfl)
    ⟨by kernel_rfl, by kernel_rfl, by kernel_rfl⟩ ⟨by kernel_rfl, by kernel_rfl, by kernel_rfl⟩ ⟨by kernel_rfl, by kernel_rfl, by kernel_rfl⟩ ⟨by kernel_rfl, by kernel_rfl, by kernel_rfl⟩ (by decide) (fun _ _ => by kernel_rfl)
noncomputable def tab45 : List Ln := tabOf 3 Tryd.f45
set_option maxRecDepth 100000 in
theorem says45 : LnSays 45 3 tab45 :=
  part_says (T := 66) (m := 6) (builds := (opsOf Tryd.f45).take 4) (oa := op0 Tryd.f45) (om := opAt Tryd.f45 4) (oi := opAt Tryd.f45 5) (os := opAt Tryd.f45 6) Tryd.func45 (by kernel_rfl) (by kernel_rfl) (by kernel_rfl) Tryd.underlying66 (by kernel_rfl)
    ⟨by kernel_rfl, by kernel_rfl, by kernel_rfl⟩ ⟨by kernel_rfl, by kernel_rfl, by kernel_rfl⟩ ⟨by kernel_rfl, by kernel_rfl, by kernel_rfl⟩ ⟨by kernel_rfl, by kernel_rfl, by kernel_rfl⟩ (by decide) (fun _ _ => by kernel_rfl)
noncomputable def tab46 : List Ln := tabOf 14 Tryd.f46
set_option maxRecDepth 100000 in
theorem says46 : LnSays 46 14 tab46 :=
  part_says (T := 67) (m := 17) (builds := (opsOf Tryd.f46).take 15) (oa := op0 Tryd.f46) (om := opAt Tryd.f46 15) (oi := opAt Tryd.f46 16) (os := opAt Tryd.f46 17) Tryd.func46 (by kernel_rfl) (by kernel_rfl) (by kernel_rfl) Tryd.underlying67 (by kernel_rfl)
    ⟨by kernel_rfl, by kernel_rfl, by kernel_rfl⟩ ⟨by kernel_rfl, by kernel_rfl, by kernel_rfl⟩ ⟨by kernel_rfl, by kernel_rfl, by kernel_rfl⟩ ⟨by kernel_rfl, by kernel_rfl, by kernel_rfl⟩ (by decide) (fun _ _ => by kernel_rfl)
noncomputable def tab47 : List Ln := tabOf 21 Tryd.f47
set_option maxRecDepth 100000 in
theorem says47 : LnSays 47 21 tab47 :=
  part_says (T := 68) (m := 24) (builds := (opsOf Tryd.f47).take 22) (oa := op0 Tryd.f47) (om := opAt Tryd.f47 22) (oi := opAt Tryd.f47 23) (os := opAt Tryd.f47 24) Tryd.func47 (by kernel_rfl) (by kernel_rfl) (by kernel_rfl) Tryd.underlying68 (by kernel_rfl)
    ⟨by kernel_rfl, by kernel_rfl, by kernel_rfl⟩ ⟨by kernel_rfl, by kernel_rfl, by kernel_rfl⟩ ⟨by kernel_rfl, by kernel_rfl, by kernel_rfl⟩ ⟨by kernel_rfl, by kernel_rfl, by kernel_rfl⟩ (by decide) (fun _ _ => by kernel_rfl)
noncomputable def tab48 : List Ln := tabOf 42 Tryd.f48
set_option maxRecDepth 100000 in
theorem says48 : LnSays 48 42 tab48 :=
  part_says (T := 69) (m := 45) (builds := (opsOf Tryd.f48).take 43) (oa := op0 Tryd.f48) (om := opAt Tryd.f48 43) (oi := opAt Tryd.f48 44) (os := opAt Tryd.f48 45) Tryd.func48 (by kernel_rfl) (by kernel_rfl) (by kernel_rfl) Tryd.underlying69 (by kernel_rfl)
    ⟨by kernel_rfl, by kernel_rfl, by kernel_rfl⟩ ⟨by kernel_rfl, by kernel_rfl, by kernel_rfl⟩ ⟨by kernel_rfl, by kernel_rfl, by kernel_rfl⟩ ⟨by kernel_rfl, by kernel_rfl, by kernel_rfl⟩ (by decide) (fun _ _ => by kernel_rfl)
noncomputable def tab49 : List Ln := tabOf 19 Tryd.f49
set_option maxRecDepth 100000 in
theorem says49 : LnSays 49 19 tab49 :=
  part_says (T := 70) (m := 22) (builds := (opsOf Tryd.f49).take 20) (oa := op0 Tryd.f49) (om := opAt Tryd.f49 20) (oi := opAt Tryd.f49 21) (os := opAt Tryd.f49 22) Tryd.func49 (by kernel_rfl) (by kernel_rfl) (by kernel_rfl) Tryd.underlying70 (by kernel_rfl)
    ⟨by kernel_rfl, by kernel_rfl, by kernel_rfl⟩ ⟨by kernel_rfl, by kernel_rfl, by kernel_rfl⟩ ⟨by kernel_rfl, by kernel_rfl, by kernel_rfl⟩ ⟨by kernel_rfl, by kernel_rfl, by kernel_rfl⟩ (by decide) (fun _ _ => by kernel_rfl)
noncomputable def tab50 : List Ln := tabOf 32 Tryd.f50
set_option maxRecDepth 100000 in
theorem says50 : LnSays 50 32 tab50 :=
  part_says (T := 71) (m := 35) (builds := (opsOf Tryd.f50).take 33) (oa := op0 Tryd.f50) (om := opAt Tryd.f50 33) (oi := opAt Tryd.f50 34) (os := opAt Tryd.f50 35) Tryd.func50 (by kernel_rfl) (by kernel_rfl) (by kernel_rfl) Tryd.underlying71 (by kernel_rfl)
    ⟨by kernel_rfl, by kernel_rfl, by kernel_rfl⟩ ⟨by kernel_rfl, by kernel_rfl, by kernel_rfl⟩ ⟨by kernel_rfl, by kernel_rfl, by kernel_rfl⟩ ⟨by kernel_rfl, by kernel_rfl, by kernel_rfl⟩ (by decide) (fun _ _ => by kernel_rfl)
noncomputable def tab51 : List Ln := tabOf 32 Tryd.f51
set_option maxRecDepth 100000 in
theorem says51 : LnSays 51 32 tab51 :=
  part_says (T := 71) (m := 35) (builds := (opsOf Tryd.f51).take 33) (oa := op0 Tryd.f51) (om := opAt Tryd.f51 33) (oi := opAt Tryd.f51 34) (os := opAt Tryd.f51 35) Tryd.func51 (by kernel_rfl) (by kernel_rfl) (by kernel_rfl) Tryd.underlying71 (by kernel_rfl)
    ⟨by kernel_rfl, by kernel_rfl, by kernel_rfl⟩ ⟨by kernel_rfl, by kernel_rfl, by kernel_rfl⟩ ⟨by kernel_rfl, by kernel_rfl, by kernel_rfl⟩ ⟨by kernel_rfl, by kernel_rfl, by kernel_rfl⟩ (by decide) (fun _ _ => by kernel_rfl)
noncomputable def tab52 : List Ln := tabOf 32 Tryd.f52
set_option maxRecDepth 100000 in
theorem says52 : LnSays 52 32 tab52 :=
  part_says (T := 71) (m := 35) (builds := (opsOf Tryd.f52).take 33) (oa := op0 Tryd.f52) (om := opAt Tryd.f52 33) (oi := opAt Tryd.f52 34) (os := opAt Tryd.f52 35) Tryd.func52 (by kernel_rfl) (by kernel_rfl) (by kernel_rfl) Tryd.underlying71 (by kernel_rfl)
    ⟨by kernel_rfl, by kernel_rfl, by kernel_rfl⟩ ⟨by kernel_rfl, by kernel_rfl, by kernel_rfl⟩ ⟨by kernel_rfl, by kernel_rfl, by kernel_rfl⟩ ⟨by kernel_rfl, by kernel_rfl, by kernel_rfl⟩ (by decide) (fun _ _ => by kernel_rfl)
noncomputable def tab53 : List Ln := tabOf 32 Tryd.f53
set_option maxRecDepth 100000 in
theorem says53 : LnSays 53 32 tab53 :=
  part_says (T := 71) (m := 35) (builds := (opsOf Tryd.f53).take 33) (oa := op0 Tryd.f53) (om := opAt Tryd.f53 33) (oi := opAt Tryd.f53 34) (os := opAt Tryd.f53 35) Tryd.func53 (by kernel_rfl) (by kernel_rfl) (by kernel_rfl) Tryd.underlying71 (by kernel_rfl)
    ⟨by kernel_rfl, by kernel_rfl, by kernel_rfl⟩ ⟨by kernel_rfl, by kernel_rfl, by kernel_rfl⟩ ⟨by kernel_rfl, by kernel_rfl, by kernel_rfl⟩ ⟨by kernel_rfl, by kernel_rfl, by kernel_rfl⟩ (by decide) (fun _ _ => by kernel_rfl)
noncomputable def tab54 : List Ln := tabOf 32 Tryd.f54
set_option maxRecDepth 100000 in
theorem says54 : LnSays 54 32 tab54 :=
  part_says (T := 71) (m := 35) (builds := (opsOf Tryd.f54).take 33) (oa := op0 Tryd.f54) (om := opAt Tryd.f54 33) (oi := opAt Tryd.f54 34) (os := opAt Tryd.f54 35) Tryd.func54 (by kernel_rfl) (by kernel_rfl) (by kernel_rfl) Tryd.underlying71 (by kernel_rfl)
    ⟨by kernel_rfl, by kernel_rfl, by kernel_rfl⟩ ⟨by kernel_rfl, by kernel_rfl, by kernel_rfl⟩ ⟨by kernel_rfl, by kernel_rfl, by kernel_rfl⟩ ⟨by kernel_rfl, by kernel_rfl, by kernel_rfl⟩ (by decide) (fun _ _ => by kernel_rfl)
end Go.Proofs.YtnechalhgdmgiaaDoor
