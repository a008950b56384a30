/-
  The reference's three tables, read off its own text, and the contract of each. Condition: the place is inside the table.
-/
import Derived.Test.YtnechalhgdmgiaaDoorRStr
set_option linter.unusedSimpArgs false
set_option linter.unusedVariables false
namespace Go.Proofs.YtnechalhgdmgiaaDoor
open Go.RowKit

theorem tab_front {T : TypeId} {oa ob oc os : Oper} {rest : Code} {Q : Exit → Act → World → Prop} {i : Value} {w : World} {parts : Array (Nat × Operand)} {cs zs : Array Value}
    (ha : oa.op = .assign (.const (.string ⟨#[]⟩)) ∧ oa.dst = some 2 ∧ oa.guard = none)
    (hb : ob.op = .build T parts ∧ ob.dst = some 4 ∧ ob.guard = none) (hbuilt : ∀ a : Act, Tryd.prog.built T (parts.map fun (i, x) => (i, a.eval x)).toList = some cs)
    (hc : oc.op = .alloc T ∧ oc.dst = some 3 ∧ oc.guard = none) (halloc : ∀ (a : Act) (W : World), (execOp a.eval oc).run Tryd.prog W = .ok (.value (.pointer (some ⟨W.heap.size, 0, none⟩))) (W.alloc (.cells zs T)))
    (hs : os.op = .store T (.tmp 3) (.tmp 4) ∧ os.dst = none ∧ os.guard = none)
    (hzs : zs.size = cs.size) (hi : (Tryd.prog.info? T).map (·.size) = some cs.size) (h1 : cs.all (·.oneCell') = true)
    (h : ∀ v4 W, (∀ k v, cs[k]? = some v → W.cell? ⟨w.heap.size, k, none⟩ = some v) → Below w.heap.size w W →
      Code.wp Tryd.prog rest Q { tmps := #[i, undef, .string ⟨#[]⟩, .pointer (some ⟨w.heap.size, 0, none⟩), v4, undef, undef, undef], defers := [] } W) :
    Code.wp Tryd.prog (.seq (.region 0 #[oa] false) (.seq (.region 1 #[ob, oc, os] false) rest)) Q { tmps := #[i, undef, undef, undef, undef, undef, undef, undef], defers := [] } w := by
  obtain ⟨ha1, ha2, ha3⟩ := ha
  obtain ⟨hb1, hb2, hb3⟩ := hb
  obtain ⟨hc1, hc2, hc3⟩ := hc
  obtain ⟨hs1, hs2, hs3⟩ := hs
  refine wp_seq (wp_region_lit (l := [oa]) ?_)
  refine run_to ha3 (some 2) ha2 (.string ⟨#[]⟩) w (by unfold execOp; rw [ha1]; rfl) ?_
  show Exit.then _ _ .normal _ _
  show Code.wp _ _ _ _ _
  refine wp_seq (wp_region_lit (l := [ob, oc, os]) ?_)
  refine wpList_buildTo hb3 T parts hb1 (some 4) hb2 cs (hbuilt _) ?_
  refine run_to hc3 (some 3) hc2 (.pointer (some ⟨w.heap.size, 0, none⟩)) (w.alloc (.cells zs T)) (halloc _ _) ?_
  have hheap : (w.alloc (.cells zs T)).heap[w.heap.size]? = some (.cells zs T (0, 0)) := by
    show (w.heap.push _)[w.heap.size]? = _
    simp
  refine wpList_store_rowTo hs3 T (.tmp 3) (.tmp 4) hs1 hs2 w.heap.size cs (by rfl) (by rfl) T zs hheap hi hzs h1 ?_
  show Exit.then _ _ .normal _ _
  show Code.wp _ _ _ _ _
  refine h (.agg cs) _ ?_ ?_
  · intro k v hk
    rw [World.cell?, setRow_heap _ _ _ _ _ _ hheap]
    simpa using hk
  · exact ⟨rfl, rfl, rfl, by simp, fun k hk => by rw [setRow_other _ _ _ _ (by omega)]; exact Below.heap_alloc _ _ _ hk⟩

def buildOf (f : Func) : Oper := match f.body with
  | some (.seq _ (.seq (.region _ ops _) _)) => ops.getD 0 default
  | _ => default
def partsOf (o : Oper) : Array (Nat × Operand) := match o.op with
  | .build _ parts => parts
  | _ => #[]
def strOf (v : Value) : List UInt8 := match v with
  | .string s => s.data.toList
  | _ => []
def refTab (n : Nat) (f : Func) : List (List UInt8) := (List.range n).map fun k => match (partsOf (buildOf f)).toList.find? fun x => x.1 == k with
  | some (_, .const v) => strOf v
  | _ => []
noncomputable def tabOne : List (List UInt8) := refTab 211 Tryd.f23
noncomputable def tabTwo : List (List UInt8) := refTab 18 Tryd.f24
noncomputable def tabThree : List (List UInt8) := refTab 256 Tryd.f25

set_option maxRecDepth 100000 in
theorem one_len : tabOne.length = 211 := by kernel_rfl
set_option maxRecDepth 100000 in
theorem two_len : tabTwo.length = 18 := by kernel_rfl
set_option maxRecDepth 100000 in
theorem three_len : tabThree.length = 256 := by kernel_rfl
theorem sc_at {l : List (List UInt8)} {k : Nat} (h : k < l.length) : (sc l).toArray[k]? = some (.string (str (l.getD k []))) := by
  simp [sc, List.getElem?_eq_getElem h, List.getD_eq_getElem?_getD]

def ops0 (f : Func) : Oper := match f.body with
  | some (.seq (.region _ ops _) _) => ops.getD 0 default
  | _ => default
def ops1 (f : Func) (k : Nat) : Oper := match f.body with
  | some (.seq _ (.seq (.region _ ops _) _)) => ops.getD k default
  | _ => default

set_option maxRecDepth 100000 in
theorem two_says (k : Nat) (hk : k < 18) (w : World) : Calls Tryd.prog 24 #[.int .i64 k] w fun e w' => e = .returned (.string (str (tabTwo.getD k []))) ∧ Below w.heap.size w w' := by
  refine calls_of_wp (c := .seq (.region 0 #[ops0 Tryd.f24] false) (.seq (.region 1 #[ops1 Tryd.f24 0, ops1 Tryd.f24 1, ops1 Tryd.f24 2] false) (.seq (.region 2 #[{ dst := some 5, op := Op.move (Operand.tmp 0), type := 3, pos := "table.go:45", after := #[], guard := none }, { dst := some 6, op := Op.indexAddr 55 (Operand.tmp 3) (Operand.tmp 5), type := 0, pos := "table.go:45", after := #[{ on := 0, ground := Ground.data }], guard := none }, { dst := some 7, op := Op.load 9 (Operand.tmp 6), type := 9, pos := "table.go:45", after := #[{ on := 1, ground := Ground.data }], guard := none }, { dst := some 2, op := Op.assign (Operand.tmp 7), type := 9, pos := "table.go:45", after := #[{ on := 2, ground := Ground.data }, { on := 0, ground := Ground.phase }, { on := 1, ground := Ground.phase }, { on := 2, ground := Ground.phase }], guard := none }] false) .ret))) Tryd.func24 (by kernel_rfl) ?_
  show Code.wp _ _ _ { tmps := #[.int .i64 k, undef, undef, undef, undef, undef, undef, undef], defers := [] } _
  refine tab_front (T := 55) (parts := partsOf (buildOf Tryd.f24)) (cs := (sc tabTwo).toArray) (zs := Array.replicate 18 (.string ⟨#[]⟩)) ⟨by kernel_rfl, by kernel_rfl, by kernel_rfl⟩ ⟨by kernel_rfl, by kernel_rfl, by kernel_rfl⟩ (fun _ => by kernel_rfl) ⟨by kernel_rfl, by kernel_rfl, by kernel_rfl⟩ (fun _ _ => by kernel_rfl) ⟨by kernel_rfl, by kernel_rfl, by kernel_rfl⟩ (by kernel_rfl) (by kernel_rfl) (by kernel_rfl) ?_
  intro v4 W hc hb
  have hcell := hc k _ (sc_at (by rw [two_len]; exact hk))
  obtain ⟨s, hs⟩ : ∃ s, s = str (tabTwo.getD k []) := ⟨_, rfl⟩
  rw [← hs] at hcell ⊢
  clear hc hs
  go_wp2
  go_ret
  exact ⟨rfl, hb⟩
set_option maxRecDepth 100000 in
theorem one_says (k : Nat) (hk : k < 211) (w : World) : Calls Tryd.prog 23 #[.int .i64 k] w fun e w' => e = .returned (.string (str (tabOne.getD k []))) ∧ Below w.heap.size w w' := by
  refine calls_of_wp (c := .seq (.region 0 #[ops0 Tryd.f23] false) (.seq (.region 1 #[ops1 Tryd.f23 0, ops1 Tryd.f23 1, ops1 Tryd.f23 2] false) (.seq (.region 2 #[{ dst := some 5, op := Op.move (Operand.tmp 0), type := 3, pos := "table.go:34", after := #[], guard := none }, { dst := some 6, op := Op.indexAddr 54 (Operand.tmp 3) (Operand.tmp 5), type := 0, pos := "table.go:34", after := #[{ on := 0, ground := Ground.data }], guard := none }, { dst := some 7, op := Op.load 9 (Operand.tmp 6), type := 9, pos := "table.go:34", after := #[{ on := 1, ground := Ground.data }], guard := none }, { dst := some 2, op := Op.assign (Operand.tmp 7), type := 9, pos := "table.go:34", after := #[{ on := 2, ground := Ground.data }, { on := 0, ground := Ground.phase }, { on := 1, ground := Ground.phase }, { on := 2, ground := Ground.phase }], guard := none }] false) .ret))) Tryd.func23 (by kernel_rfl) ?_
  show Code.wp _ _ _ { tmps := #[.int .i64 k, undef, undef, undef, undef, undef, undef, undef], defers := [] } _
  refine tab_front (T := 54) (parts := partsOf (buildOf Tryd.f23)) (cs := (sc tabOne).toArray) (zs := Array.replicate 211 (.string ⟨#[]⟩)) ⟨by kernel_rfl, by kernel_rfl, by kernel_rfl⟩ ⟨by kernel_rfl, by kernel_rfl, by kernel_rfl⟩ (fun _ => by kernel_rfl) ⟨by kernel_rfl, by kernel_rfl, by kernel_rfl⟩ (fun _ _ => by kernel_rfl) ⟨by kernel_rfl, by kernel_rfl, by kernel_rfl⟩ (by kernel_rfl) (by kernel_rfl) (by kernel_rfl) ?_
  intro v4 W hc hb
  have hcell := hc k _ (sc_at (by rw [one_len]; exact hk))
  obtain ⟨s, hs⟩ : ∃ s, s = str (tabOne.getD k []) := ⟨_, rfl⟩
  rw [← hs] at hcell ⊢
  clear hc hs
  go_wp2
  go_ret
  exact ⟨rfl, hb⟩
set_option maxRecDepth 100000 in
theorem three_says (k : Nat) (hk : k < 256) (w : World) : Calls Tryd.prog 25 #[.int .i64 k] w fun e w' => e = .returned (.string (str (tabThree.getD k []))) ∧ Below w.heap.size w w' := by
  refine calls_of_wp (c := .seq (.region 0 #[ops0 Tryd.f25] false) (.seq (.region 1 #[ops1 Tryd.f25 0, ops1 Tryd.f25 1, ops1 Tryd.f25 2] false) (.seq (.region 2 #[{ dst := some 5, op := Op.move (Operand.tmp 0), type := 3, pos := "table.go:95", after := #[], guard := none }, { dst := some 6, op := Op.indexAddr 56 (Operand.tmp 3) (Operand.tmp 5), type := 0, pos := "table.go:95", after := #[{ on := 0, ground := Ground.data }], guard := none }, { dst := some 7, op := Op.load 9 (Operand.tmp 6), type := 9, pos := "table.go:95", after := #[{ on := 1, ground := Ground.data }], guard := none }, { dst := some 2, op := Op.assign (Operand.tmp 7), type := 9, pos := "table.go:95", after := #[{ on := 2, ground := Ground.data }, { on := 0, ground := Ground.phase }, { on := 1, ground := Ground.phase }, { on := 2, ground := Ground.phase }], guard := none }] false) .ret))) Tryd.func25 (by kernel_rfl) ?_
  show Code.wp _ _ _ { tmps := #[.int .i64 k, undef, undef, undef, undef, undef, undef, undef], defers := [] } _
  refine tab_front (T := 56) (parts := partsOf (buildOf Tryd.f25)) (cs := (sc tabThree).toArray) (zs := Array.replicate 256 (.string ⟨#[]⟩)) ⟨by kernel_rfl, by kernel_rfl, by kernel_rfl⟩ ⟨by kernel_rfl, by kernel_rfl, by kernel_rfl⟩ (fun _ => by kernel_rfl) ⟨by kernel_rfl, by kernel_rfl, by kernel_rfl⟩ (fun _ _ => by kernel_rfl) ⟨by kernel_rfl, by kernel_rfl, by kernel_rfl⟩ (by kernel_rfl) (by kernel_rfl) (by kernel_rfl) ?_
  intro v4 W hc hb
  have hcell := hc k _ (sc_at (by rw [three_len]; exact hk))
  obtain ⟨s, hs⟩ : ∃ s, s = str (tabThree.getD k []) := ⟨_, rfl⟩
  rw [← hs] at hcell ⊢
  clear hc hs
  go_wp2
  go_ret
  exact ⟨rfl, hb⟩

end Go.Proofs.YtnechalhgdmgiaaDoor
