/-
  FZip, LNums, Tabs: merged, what the law does not reach left out (each text says what it holds where it lies in wip). No condition.
-/
import Derived.Deep.RegionHeld3
import Derived.Deep.DeepCutAuto
import Derived.Laws.BitsLemmas
import Derived.Laws.Bits64
import Derived.Laws.Bits64b
import Derived.Lib.UnsafeStr
import Derived.Test.YtjgeedgphcjhoaaGreatProg
import Derived.WalkKit
import Derived.WalkSpells
import Derived.WalkLawsBesides
import Derived.Below
import Derived.Great.BuildSlice
set_option linter.unusedSimpArgs false
set_option linter.unusedVariables false
set_option maxRecDepth 100000
namespace Go.Proofs.YtjgeedgphcjhoaaGreat
theorem sl0 {α : Type} (a b : α) (l : List α) : (a :: l).set 0 b = b :: l := rfl
theorem sl1 {α : Type} (a b : α) (l : List α) (n : Nat) : (a :: l).set (n + 1) b = a :: l.set n b := rfl
theorem sl2 {α : Type} (l : List α) (i : Nat) (a : α) : l.toArray.setIfInBounds i a = (l.set i a).toArray := by simp
section
variable {P : Program} {ops : Array Oper} {Q : Exit → Act → World → Prop} {md : Region.Mode} {S : World → Prop} {fuel : Nat} {listed : Array Bool} {a : Act} {w : World}
theorem zt (i : Nat) (v : Value) {c1 c2 c3 c4 c5 c6} (hi : ops[i]? = some ⟨c1,c2,c3,c4,c5,c6⟩) (hy : ∀ w,S w → (execOp a.eval ⟨c1,c2,c3,c4,c5,c6⟩).run P w = .ok (.value v) w)
  (h : wpAnyH P md ops Q S fuel (listed.setIfInBounds i true) (a.put c1 v) w) (hs : Region.noSelect ops = true := by kernel_rfl) (hf : Region.free md ops listed i = true := by kernel_rfl) (hr : (Region.ready md ops listed).contains i = true := by kernel_rfl)
  (hQ : ∀ c a w,Q (.panic c) (a.put c1 v) w → Q (.panic c) a w := by exact fun _ _ _ h => h) (hw : Region.wanted ⟨c1,c2,c3,c4,c5,c6⟩ (yielded ops a.tmps) = true := by rfl) (hS : S w := by assumption) : wpAnyH P md ops Q S (fuel + 1) listed a w :=
 wpAnyH_take hi hs hf hr hQ (Or.inl ⟨hw,hy⟩) hS h
theorem zu (i : Nat) {c1 c2 c3 c4 c5 c6} (hi : ops[i]? = some ⟨c1,c2,c3,c4,c5,c6⟩)
  (h : wpAnyH P md ops Q S fuel (listed.setIfInBounds i true) (a.put c1 undef) w) (hs : Region.noSelect ops = true := by kernel_rfl) (hf : Region.free md ops listed i = true := by kernel_rfl) (hr : (Region.ready md ops listed).contains i = true := by kernel_rfl)
  (hQ : ∀ c a w,Q (.panic c) (a.put c1 undef) w → Q (.panic c) a w := by exact fun _ _ _ h => h) (hw : Region.wanted ⟨c1,c2,c3,c4,c5,c6⟩ (yielded ops a.tmps) = false := by rfl) (hS : S w := by assumption) : wpAnyH P md ops Q S (fuel + 1) listed a w :=
 wpAnyH_take hi hs hf hr hQ (Or.inr ⟨hw,rfl⟩) hS h
theorem zr (i : Nat) {c1 c2 c3 c4 c5 c6} (ho : ops[i]? = some ⟨c1,c2,c3,c4,c5,c6⟩)
  (h : ∀ K' : Act → World → Prop,Shut (∀ a w,S w → (S w → wpAnyH P md ops Q S fuel (listed.setIfInBounds i true) a w) → K' a w) → if Region.wanted ⟨c1,c2,c3,c4,c5,c6⟩ (yielded ops a.tmps) = true then Oper.wp P ⟨c1,c2,c3,c4,c5,c6⟩ a w K' Q else K' (a.put c1 undef) w)
  (hr : Region.ready md ops listed = [i] := by kernel_rfl) : wpAnyH P md ops Q S (fuel + 1) listed a w :=
 wpAnyH_ready hr (by simp) (AllReadyH.cons ho h AllReadyH.nil)
theorem zm (rs : List Nat) (h : AllReadyH P md ops Q S fuel listed a w rs) (hr : Region.ready md ops listed = rs := by kernel_rfl) (hne : rs ≠ [] := by simp) : wpAnyH P md ops Q S (fuel + 1) listed a w :=
 wpAnyH_ready hr hne h
theorem zc {i : Nat} {rs : List Nat} {c1 c2 c3 c4 c5 c6} (ho : ops[i]? = some ⟨c1,c2,c3,c4,c5,c6⟩)
  (h : ∀ K' : Act → World → Prop,Shut (∀ a w,S w → (S w → wpAnyH P md ops Q S fuel (listed.setIfInBounds i true) a w) → K' a w) → if Region.wanted ⟨c1,c2,c3,c4,c5,c6⟩ (yielded ops a.tmps) = true then Oper.wp P ⟨c1,c2,c3,c4,c5,c6⟩ a w K' Q else K' (a.put c1 undef) w)
  (hs : AllReadyH P md ops Q S fuel listed a w rs) : AllReadyH P md ops Q S fuel listed a w (i :: rs) := AllReadyH.cons ho h hs
theorem zn : AllReadyH P md ops Q S fuel listed a w [] := AllReadyH.nil
end
end Go.Proofs.YtjgeedgphcjhoaaGreat
namespace Go.Proofs.YtjgeedgphcjhoaaGreat
open Go
def ulist (x : Nat) : List UInt8 :=
 if h : x < 128 then [x.toUInt8] else (x % 128 + 128).toUInt8 :: ulist (x / 128)
termination_by x
decreasing_by omega
theorem ulist_small {x : Nat} (h : x < 128) : ulist x = [x.toUInt8] := by rw [ulist,dif_pos h]
theorem ulist_big {x : Nat} (h : 128 ≤ x) : ulist x = (x % 128 + 128).toUInt8 :: ulist (x / 128) := by rw [ulist,dif_neg (by omega)]
theorem ulist_length : ∀ (k x : Nat),x < 128 ^ (k + 1) → (ulist x).length ≤ k + 1
 | 0,x,h => by rw [ulist_small (by simpa using h)]; simp
 | k + 1,x,h => by
  by_cases hx : x < 128
  ·rw [ulist_small hx]; simp
  rw [ulist_big (by omega),List.length_cons]
  have := ulist_length k (x / 128) (by rw [Nat.pow_succ] at h; exact Nat.div_lt_of_lt_mul (by rw [Nat.mul_comm]; exact h))
  omega
theorem ulist_length64 {x : Nat} (h : x < 18446744073709551616) : (ulist x).length ≤ 10 :=
 ulist_length 9 x (Nat.lt_of_lt_of_le h (by decide))
theorem ulist_pos (x : Nat) : 1 ≤ (ulist x).length := by
 by_cases hx : x < 128
 ·rw [ulist_small hx]; simp
 rw [ulist_big (by omega)]; simp
def slist (m : Int) : List UInt8 :=
 if h : -64 ≤ m ∧ m < 64 then [(m % 128).toNat.toUInt8] else ((m % 128).toNat + 128).toUInt8 :: slist (m / 128)
termination_by m.natAbs
decreasing_by omega
theorem slist_small {m : Int} (h : -64 ≤ m ∧ m < 64) : slist m = [(m % 128).toNat.toUInt8] := by rw [slist,dif_pos h]
theorem slist_big {m : Int} (h : ¬ (-64 ≤ m ∧ m < 64)) : slist m = ((m % 128).toNat + 128).toUInt8 :: slist (m / 128) := by rw [slist,dif_neg h]
theorem slist_length : ∀ (k : Nat) (m : Int),-(64 * 128 ^ k : Nat) ≤ m → m < (64 * 128 ^ k : Nat) → (slist m).length ≤ k + 1
 | 0,m,h,h' => by rw [slist_small (by constructor <;> simpa using by assumption)]; simp
 | k + 1,m,h,h' => by
  by_cases hx : -64 ≤ m ∧ m < 64
  ·rw [slist_small hx]; simp
  rw [slist_big hx,List.length_cons]
  have e : (64 * 128 ^ (k + 1) : Nat) = 128 * (64 * 128 ^ k) := by rw [Nat.pow_succ]; omega
  rw [e] at h h'
  have := slist_length k (m / 128) (by omega) (by omega)
  omega
theorem slist_length64 {m : Int} (h0 : -9223372036854775808 ≤ m) (h1 : m ≤ 9223372036854775807) : (slist m).length ≤ 10 :=
 slist_length 9 m (Int.le_trans (by decide) h0) (Int.lt_of_le_of_lt h1 (by decide))
theorem slist_pos (m : Int) : 1 ≤ (slist m).length := by
 by_cases hx : -64 ≤ m ∧ m < 64
 ·rw [slist_small hx]; simp
 rw [slist_big hx]; simp
theorem toUInt8_toNat {a : Nat} (h : a < 256) : (a.toUInt8).toNat = a := by
 simp [Nat.toUInt8,UInt8.toNat_ofNat']
 omega
theorem byteCells_snoc (pre : List UInt8) {a : Nat} (h : a < 256) : Lib.byteCells (pre ++ [a.toUInt8]) = Lib.byteCells pre ++ [Value.int .u8 (a : Int)] := by
 rw [Lib.byteCells_append]
 simp [Lib.byteCells,toUInt8_toNat h]
theorem or128_nat : ∀ a : Fin 256,(a.val ||| 128) = a.val % 128 + 128 := by decide
theorem u8_or128 (a : Int) (h₀ : 0 ≤ a) (h₁ : a < 256) : bits .or .u8 a 128 = a % 128 + 128 := by
 obtain ⟨n,rfl⟩ := Int.eq_ofNat_of_zero_le h₀
 have hn : n < 256 := by omega
 have h := (bits_nat .u8 8 (by decide) wraps_u8 n 128 (by simpa using hn) (by decide)).2
 have e : ((128 : Nat) : Int) = 128 := rfl
 rw [e] at h
 have h2 : (n ||| 128) = n % 128 + 128 := or128_nat ⟨n,hn⟩
 rw [h,h2]
 omega
theorem u8_and127 (x : Int) (h₀ : 0 ≤ x) (h₁ : x < 256) : bits .and .u8 x 127 = x % 128 := bits_mask .u8 8 (by decide) wraps_u8 7 (by decide) x h₀ h₁
end Go.Proofs.YtjgeedgphcjhoaaGreat
namespace Go.Proofs.YtjgeedgphcjhoaaGreat
open Go.RowKit
theorem hid {p : Prop} (h : p) : Hid p := h
abbrev Ln := ByteArray × Int × Int × Int
def ln0 : Ln := (⟨#[]⟩,0,0,0)
def opLn : Op → Option Ln
 | .build _ parts => match parts.toList with
  | [(_,.const (.string s)),(_,.const (.int _ a)),(_,.const (.int _ b)),(_,.const (.int _ c))] => some (s,a,b,c)
  | [] => some ln0
  | _ => none
 | _ => none
def opKeys : Op → Option (List (Nat × Nat))
 | .build _ parts => parts.toList.mapM fun x => match x.2 with
  | .tmp t => some (x.1,t)
  | _ => none
 | _ => none
def opsOf (f : Func) : List Oper := match f.body with
 | some (.seq (.region _ _ _) (.seq (.region _ ops _) .ret)) => ops.toList
 | _ => []
def tabOf (n : Nat) (f : Func) : List Ln :=
 let rows := (opsOf f).filterMap fun o => opLn o.op
 let keys := ((opsOf f).filterMap fun o => (opKeys o.op).bind fun l => if l = [] then none else some l).headD []
 (List.range n).map fun k => match keys.find? fun x => x.1 == k with
  | some x => rows.getD (x.2 - 3) ln0
  | none => ln0
def lnCells (r : Ln) : List Value := [.string r.1,.int .u8 r.2.1,.int .u8 r.2.2.1,.int .u8 r.2.2.2]
def lnV (r : Ln) : Value := .agg #[.string r.1,.int .u8 r.2.1,.int .u8 r.2.2.1,.int .u8 r.2.2.2]
def tabCells (l : List Ln) : Array Value := (l.flatMap lnCells).toArray
theorem size43 : (Tryz.prog.info? 215).map (·.size) = some 4 := by kernel_rfl
theorem flat_length (l : List Ln) : (l.flatMap lnCells).length = l.length * 4 := by
 induction l with
 | nil => rfl
 | cons r l ih => rw [List.flatMap_cons,List.length_append,ih]; simp [lnCells]; try omega
theorem flat_take (l : List Ln) (k : Nat) (h : k < l.length) : ((l.flatMap lnCells).drop (k * 4)).take 4 = lnCells (l.getD k ln0) := by
 induction l generalizing k with
 | nil => simp at h
 | cons r l ih =>
  cases k with
  | zero => simp [lnCells]
  | succ k =>
   have e : (k + 1) * 4 = (lnCells r).length + k * 4 := by simp [lnCells]; omega
   rw [List.flatMap_cons,e,List.drop_append,List.drop_eq_nil_of_le (by omega)]
   simp only [List.nil_append,Nat.add_sub_cancel_left]
   rw [ih k (by simpa using h)]
   rfl
theorem run_index_tab {T : TypeId} {n : Nat} (hu : Tryz.prog.underlying T = some (.array n 215)) (l : List Ln) (hl : l.length = n) (i : Int) (h0 : 0 ≤ i) (h1 : i < n) (W : World) :
  (Instr.index T (.agg (tabCells l)) (.int .i64 i)).run Tryz.prog W = .ok (lnV (l.getD i.toNat ln0)) W := by
 have hs : (sizeOf 215).run Tryz.prog W = .ok 4 W := by kernel_rfl
 have hsz : (tabCells l).size = n * 4 := by unfold tabCells; rw [List.size_toArray,flat_length,hl]
 have hlt : i.toNat < l.length := by omega
 have e : (tabCells l).extract (i.toNat * 4) (i.toNat * 4 + 4) = (lnCells (l.getD i.toNat ln0)).toArray := by
  unfold tabCells
  rw [← flat_take l i.toNat hlt]
  simp
 have hc : (0 : Int) ≤ i ∧ i < (n : Int) := ⟨h0,h1⟩
 simp [Instr.index,asIntOf,run_underlying hu,hc,part,hs]
 rw [e]
 simp [lnV,lnCells]
def LnSays (f : FuncId) (n : Nat) (l : List Ln) : Prop := ∀ (i : Int) (w : World),0 ≤ i → i < n → Calls Tryz.prog f #[.int .i64 i] w fun e w' => e = .returned (lnV (l.getD i.toNat ln0)) ∧ Below w.heap.size w w'
def buildsRun (P : Program) : List Oper → Act → Option Act
 | [],a => some a
 | o :: l,a => match o.guard,o.op with
  | none,.build t parts => (P.built t (parts.map fun (i,x) => (i,a.eval x)).toList).bind fun cs => buildsRun P l (a.put o.dst (.agg cs))
  | _,_ => none
theorem wpList_builds {P : Program} {ops : Array Oper} {Q : Exit → Act → World → Prop} {w : World} {rest : List Oper} : ∀ (l : List Oper) (a a' : Act),buildsRun P l a = some a' → wpList P ops Q rest a' w → wpList P ops Q (l ++ rest) a w
 | [],a,a',h,k => by simp [buildsRun] at h; subst h; exact k
 | o :: l,a,a',h,k => by
  unfold buildsRun at h
  split at h
  ·rename_i t parts hg ho
   obtain ⟨cs,hc,h'⟩ := Option.bind_eq_some_iff.1 h
   exact wpList_buildTo hg t parts ho o.dst rfl cs hc (wpList_builds l _ a' h' k)
  cases h
def see (m : Nat) (a : Act) : Value × Value × Value × Nat × List Deferred := (a.tmps.getD 0 undef,a.tmps.getD 2 undef,a.tmps.getD m undef,a.tmps.size,a.defers)
def frame0 (i : Int) (p : Value) (m : Nat) : Act := { tmps := (.int .i64 i :: undef :: p :: List.replicate m undef).toArray,defers := [] }
theorem run_to {P : Program} {ops : Array Oper} {rest : List Oper} {o : Oper} {a : Act} {w : World} {Q : Exit → Act → World → Prop} (hg : o.guard = none) (dst : Option Tmp) (hdst : o.dst = dst)
  (v : Value) (w' : World) (hrun : (execOp a.eval o).run P w = .ok (.value v) w') (h : wpList P ops Q rest (a.put dst v) w') : wpList P ops Q (o :: rest) a w := by
 subst hdst
 refine wpList_plain hg fun K hK => ?_
 unfold Oper.wp
 rw [hrun,Oper.upon_value]
 exact hK _ _ h
def z43 : Array Value := #[.string ⟨#[]⟩,.int .u8 0,.int .u8 0,.int .u8 0]
theorem frame_put (i : Int) (p : Value) (m : Nat) : Act.put { tmps := #[Value.int .i64 i] ++ Array.replicate (m + 2) undef,defers := [] } (some 2) p = frame0 i p m := by
 unfold Act.put frame0
 congr 1
 simp [Array.replicate_succ',List.replicate_succ]
theorem part_says {f : FuncId} {fn : Func} {T : TypeId} {n m : Nat} {oa om oi os : Oper} {builds : List Oper} {tab : List Ln}
  (hf : Tryz.prog.funcs[f]? = some fn) (hb : fn.body = some (.seq (.region 0 #[oa] false) (.seq (.region 1 (builds ++ [om,oi,os]).toArray false) .ret)))
  (hr : fn.results = #[.cell 2 215]) (hn : fn.ntmps = m + 3) (hT : Tryz.prog.underlying T = some (.array n 215)) (hl : tab.length = n)
  (ha : oa.op = .alloc 215 ∧ oa.dst = some 2 ∧ oa.guard = none)
  (hm : om.op = .move (.tmp 0) ∧ om.dst = some (m + 1) ∧ om.guard = none)
  (hi : oi.op = .index T (.tmp m) (.tmp (m + 1)) ∧ oi.dst = some (m + 2) ∧ oi.guard = none)
  (hs : os.op = .store 215 (.tmp 2) (.tmp (m + 2)) ∧ os.dst = none ∧ os.guard = none)
  (h3 : 3 ≤ m)
  (hrun : ∀ (i : Int) (p : Value),(buildsRun Tryz.prog builds (frame0 i p m)).map (see m) = some (.int .i64 i,p,.agg (tabCells tab),m + 3,[])) :
  LnSays f n tab := by
 intro i w h0 h1
 obtain ⟨ha1,ha2,ha3⟩ := ha
 obtain ⟨hm1,hm2,hm3⟩ := hm
 obtain ⟨hi1,hi2,hi3⟩ := hi
 obtain ⟨hs1,hs2,hs3⟩ := hs
 refine calls_of_wp hf hb ?_
 have hsz : fn.ntmps - (#[Value.int .i64 i] : Array Value).size = m + 2 := by rw [hn]; simp
 rw [hsz]
 refine wp_seq (wp_region_lit (l := [oa]) ?_)
 refine run_to ha3 (some 2) ha2 (.pointer (some ⟨w.heap.size,0,none⟩)) (w.alloc (.cells z43 215)) (by unfold execOp; rw [ha1]; kernel_rfl) ?_
 rw [frame_put]
 show Exit.then _ _ .normal _ _
 show Code.wp _ _ _ _ _
 refine wp_seq (wp_region_lit (l := builds ++ [om,oi,os]) ?_)
 obtain ⟨a',ha',hsee⟩ := Option.map_eq_some_iff.1 (hrun i (.pointer (some ⟨w.heap.size,0,none⟩)))
 refine wpList_builds builds _ a' ha' ?_
 simp only [see,Prod.mk.injEq] at hsee
 obtain ⟨e0,e2,em,en,ed⟩ := hsee
 have x0 : a'.tmps[0]? = some (.int .i64 i) := by
  rw [Array.getElem?_eq_getElem (by omega)]; rw [Array.getD_eq_getD_getElem?,Array.getElem?_eq_getElem (by omega)] at e0; simpa using e0
 have x2 : a'.tmps[2]? = some (.pointer (some ⟨w.heap.size,0,none⟩)) := by
  rw [Array.getElem?_eq_getElem (by omega)]; rw [Array.getD_eq_getD_getElem?,Array.getElem?_eq_getElem (by omega)] at e2; simpa using e2
 have xm : a'.tmps[m]? = some (.agg (tabCells tab)) := by
  rw [Array.getElem?_eq_getElem (by omega)]; rw [Array.getD_eq_getD_getElem?,Array.getElem?_eq_getElem (by omega)] at em; simpa using em
 clear e0 e2 em ha' hrun
 refine run_to hm3 (some (m + 1)) hm2 (.int .i64 i) (w.alloc (.cells z43 215)) (by unfold execOp; rw [hm1]; simp [Act.eval,Frame.eval,x0]) ?_
 refine run_to hi3 (some (m + 2)) hi2 (lnV (tab.getD i.toNat ln0)) (w.alloc (.cells z43 215)) (by
  unfold execOp; rw [hi1]
  have q1 : Act.eval (a'.put (some (m + 1)) (.int .i64 i)) (.tmp m) = .agg (tabCells tab) := by
   simp [Act.eval,Act.put,xm,Array.getD_eq_getD_getElem?,Array.getElem?_setIfInBounds]
  have q2 : Act.eval (a'.put (some (m + 1)) (.int .i64 i)) (.tmp (m + 1)) = .int .i64 i := by
   simp [Act.eval,Act.put,Array.getD_eq_getD_getElem?,Array.getElem?_setIfInBounds,en]
  simp only [q1,q2]
  simp only [Sem.run_bind,run_index_tab hT tab hl i h0 h1,Result.andThen_ok]
  rfl) ?_
 obtain ⟨r,hr'⟩ : ∃ r,r = tab.getD i.toNat ln0 := ⟨_,rfl⟩
 rw [← hr']
 clear hr'
 have hheap : (w.alloc (.cells z43 215)).heap[w.heap.size]? = some (.cells z43 215 (0,0)) := by
  show (w.heap.push _)[w.heap.size]? = _
  simp
 have g2 : ∀ v1 v2 : Value,((a'.tmps.setIfInBounds (m + 1) v1).setIfInBounds (m + 2) v2)[2]? = some (.pointer (some ⟨w.heap.size,0,none⟩)) := fun v1 v2 => by
  rw [Array.getElem?_setIfInBounds_ne (by omega),Array.getElem?_setIfInBounds_ne (by omega),x2]
 have q : ∀ v1 v2 : Value,((a'.tmps.setIfInBounds (m + 1) v1).setIfInBounds (m + 2) v2).getD 2 undef = .pointer (some ⟨w.heap.size,0,none⟩) := fun v1 v2 => by
  rw [Array.getD_eq_getD_getElem?,g2]; rfl
 refine wpList_store_row hs3 215 (.tmp 2) (.tmp (m + 2)) hs1 w.heap.size (lnCells r).toArray (q _ _) ?_ 215 z43 hheap size43 rfl (by simp [lnCells,Value.oneCell']) ?_
 ·simp [Act.eval,Act.put,Array.getD_eq_getD_getElem?,Array.getElem?_setIfInBounds,en,lnV,lnCells]
 rw [hs2]
 show Exit.then _ _ .normal _ _
 show Code.wp _ _ _ _ _
 refine wp_ret ?_
 refine bodyPost_ret (v := lnV r) ?_ ?_ ⟨rfl,?_⟩
 ·have hl := run_loadVar_row (P := Tryz.prog) ((w.alloc (.cells z43 215)).setRow w.heap.size (lnCells r).toArray) w.heap.size 215 215 (lnCells r).toArray (0,0) _
   (setRow_heap _ _ _ _ _ _ hheap) Tryz.underlying215 rfl size43
  have q' := q (.int .i64 i) (lnV r)
  unfold results
  rw [hr]
  simp only [Act.put]
  generalize (a'.tmps.setIfInBounds (m + 1) (.int .i64 i)).setIfInBounds (m + 2) (lnV r) = arr at q' ⊢
  rw [Array.getD_eq_getD_getElem?] at q'
  simp [q',asAddr,hl]
  rfl
 ·simpa [Act.put] using ed
 exact ⟨rfl,rfl,rfl,by simp,fun k hk => by rw [setRow_other _ _ _ _ (by omega)]; exact Below.heap_alloc _ _ _ hk⟩
def opAt (f : Func) (k : Nat) : Oper := (opsOf f).getD k default
def op0 (f : Func) : Oper := match f.body with
 | some (.seq (.region _ ops _) _) => ops.toList.headD default
 | _ => default
noncomputable def tab37 : List Ln := tabOf 18 Tryz.f238
theorem says37 : LnSays 238 18 tab37 :=
 part_says (T := 241) (m := 21) (builds := (opsOf Tryz.f238).take 19) (oa := op0 Tryz.f238) (om := opAt Tryz.f238 19) (oi := opAt Tryz.f238 20) (os := opAt Tryz.f238 21) Tryz.func238 (by kernel_rfl) (by kernel_rfl) (by kernel_rfl) Tryz.underlying241 (by kernel_rfl)
  ⟨by kernel_rfl,by kernel_rfl,by kernel_rfl⟩ ⟨by kernel_rfl,by kernel_rfl,by kernel_rfl⟩ ⟨by kernel_rfl,by kernel_rfl,by kernel_rfl⟩ ⟨by kernel_rfl,by kernel_rfl,by kernel_rfl⟩ (by decide) (fun _ _ => by kernel_rfl)
noncomputable def tab39 : List Ln := tabOf 40 Tryz.f250
theorem says39 : LnSays 250 40 tab39 :=
 part_says (T := 245) (m := 24) (builds := (opsOf Tryz.f250).take 22) (oa := op0 Tryz.f250) (om := opAt Tryz.f250 22) (oi := opAt Tryz.f250 23) (os := opAt Tryz.f250 24) Tryz.func250 (by kernel_rfl) (by kernel_rfl) (by kernel_rfl) Tryz.underlying245 (by kernel_rfl)
  ⟨by kernel_rfl,by kernel_rfl,by kernel_rfl⟩ ⟨by kernel_rfl,by kernel_rfl,by kernel_rfl⟩ ⟨by kernel_rfl,by kernel_rfl,by kernel_rfl⟩ ⟨by kernel_rfl,by kernel_rfl,by kernel_rfl⟩ (by decide) (fun _ _ => by kernel_rfl)
noncomputable def tab40 : List Ln := tabOf 29 Tryz.f251
theorem says40 : LnSays 251 29 tab40 :=
 part_says (T := 246) (m := 32) (builds := (opsOf Tryz.f251).take 30) (oa := op0 Tryz.f251) (om := opAt Tryz.f251 30) (oi := opAt Tryz.f251 31) (os := opAt Tryz.f251 32) Tryz.func251 (by kernel_rfl) (by kernel_rfl) (by kernel_rfl) Tryz.underlying246 (by kernel_rfl)
  ⟨by kernel_rfl,by kernel_rfl,by kernel_rfl⟩ ⟨by kernel_rfl,by kernel_rfl,by kernel_rfl⟩ ⟨by kernel_rfl,by kernel_rfl,by kernel_rfl⟩ ⟨by kernel_rfl,by kernel_rfl,by kernel_rfl⟩ (by decide) (fun _ _ => by kernel_rfl)
noncomputable def tab41 : List Ln := tabOf 34 Tryz.f252
theorem says41 : LnSays 252 34 tab41 :=
 part_says (T := 247) (m := 37) (builds := (opsOf Tryz.f252).take 35) (oa := op0 Tryz.f252) (om := opAt Tryz.f252 35) (oi := opAt Tryz.f252 36) (os := opAt Tryz.f252 37) Tryz.func252 (by kernel_rfl) (by kernel_rfl) (by kernel_rfl) Tryz.underlying247 (by kernel_rfl)
  ⟨by kernel_rfl,by kernel_rfl,by kernel_rfl⟩ ⟨by kernel_rfl,by kernel_rfl,by kernel_rfl⟩ ⟨by kernel_rfl,by kernel_rfl,by kernel_rfl⟩ ⟨by kernel_rfl,by kernel_rfl,by kernel_rfl⟩ (by decide) (fun _ _ => by kernel_rfl)
noncomputable def tab42 : List Ln := tabOf 36 Tryz.f253
theorem says42 : LnSays 253 36 tab42 :=
 part_says (T := 248) (m := 39) (builds := (opsOf Tryz.f253).take 37) (oa := op0 Tryz.f253) (om := opAt Tryz.f253 37) (oi := opAt Tryz.f253 38) (os := opAt Tryz.f253 39) Tryz.func253 (by kernel_rfl) (by kernel_rfl) (by kernel_rfl) Tryz.underlying248 (by kernel_rfl)
  ⟨by kernel_rfl,by kernel_rfl,by kernel_rfl⟩ ⟨by kernel_rfl,by kernel_rfl,by kernel_rfl⟩ ⟨by kernel_rfl,by kernel_rfl,by kernel_rfl⟩ ⟨by kernel_rfl,by kernel_rfl,by kernel_rfl⟩ (by decide) (fun _ _ => by kernel_rfl)
noncomputable def tab43 : List Ln := tabOf 28 Tryz.f254
theorem says43 : LnSays 254 28 tab43 :=
 part_says (T := 249) (m := 31) (builds := (opsOf Tryz.f254).take 29) (oa := op0 Tryz.f254) (om := opAt Tryz.f254 29) (oi := opAt Tryz.f254 30) (os := opAt Tryz.f254 31) Tryz.func254 (by kernel_rfl) (by kernel_rfl) (by kernel_rfl) Tryz.underlying249 (by kernel_rfl)
  ⟨by kernel_rfl,by kernel_rfl,by kernel_rfl⟩ ⟨by kernel_rfl,by kernel_rfl,by kernel_rfl⟩ ⟨by kernel_rfl,by kernel_rfl,by kernel_rfl⟩ ⟨by kernel_rfl,by kernel_rfl,by kernel_rfl⟩ (by decide) (fun _ _ => by kernel_rfl)
noncomputable def tab44 : List Ln := tabOf 30 Tryz.f255
theorem says44 : LnSays 255 30 tab44 :=
 part_says (T := 250) (m := 33) (builds := (opsOf Tryz.f255).take 31) (oa := op0 Tryz.f255) (om := opAt Tryz.f255 31) (oi := opAt Tryz.f255 32) (os := opAt Tryz.f255 33) Tryz.func255 (by kernel_rfl) (by kernel_rfl) (by kernel_rfl) Tryz.underlying250 (by kernel_rfl)
  ⟨by kernel_rfl,by kernel_rfl,by kernel_rfl⟩ ⟨by kernel_rfl,by kernel_rfl,by kernel_rfl⟩ ⟨by kernel_rfl,by kernel_rfl,by kernel_rfl⟩ ⟨by kernel_rfl,by kernel_rfl,by kernel_rfl⟩ (by decide) (fun _ _ => by kernel_rfl)
noncomputable def tab45 : List Ln := tabOf 3 Tryz.f256
theorem says45 : LnSays 256 3 tab45 :=
 part_says (T := 251) (m := 6) (builds := (opsOf Tryz.f256).take 4) (oa := op0 Tryz.f256) (om := opAt Tryz.f256 4) (oi := opAt Tryz.f256 5) (os := opAt Tryz.f256 6) Tryz.func256 (by kernel_rfl) (by kernel_rfl) (by kernel_rfl) Tryz.underlying251 (by kernel_rfl)
  ⟨by kernel_rfl,by kernel_rfl,by kernel_rfl⟩ ⟨by kernel_rfl,by kernel_rfl,by kernel_rfl⟩ ⟨by kernel_rfl,by kernel_rfl,by kernel_rfl⟩ ⟨by kernel_rfl,by kernel_rfl,by kernel_rfl⟩ (by decide) (fun _ _ => by kernel_rfl)
noncomputable def tab46 : List Ln := tabOf 14 Tryz.f257
theorem says46 : LnSays 257 14 tab46 :=
 part_says (T := 252) (m := 17) (builds := (opsOf Tryz.f257).take 15) (oa := op0 Tryz.f257) (om := opAt Tryz.f257 15) (oi := opAt Tryz.f257 16) (os := opAt Tryz.f257 17) Tryz.func257 (by kernel_rfl) (by kernel_rfl) (by kernel_rfl) Tryz.underlying252 (by kernel_rfl)
  ⟨by kernel_rfl,by kernel_rfl,by kernel_rfl⟩ ⟨by kernel_rfl,by kernel_rfl,by kernel_rfl⟩ ⟨by kernel_rfl,by kernel_rfl,by kernel_rfl⟩ ⟨by kernel_rfl,by kernel_rfl,by kernel_rfl⟩ (by decide) (fun _ _ => by kernel_rfl)
noncomputable def tab47 : List Ln := tabOf 21 Tryz.f258
theorem says47 : LnSays 258 21 tab47 :=
 part_says (T := 253) (m := 24) (builds := (opsOf Tryz.f258).take 22) (oa := op0 Tryz.f258) (om := opAt Tryz.f258 22) (oi := opAt Tryz.f258 23) (os := opAt Tryz.f258 24) Tryz.func258 (by kernel_rfl) (by kernel_rfl) (by kernel_rfl) Tryz.underlying253 (by kernel_rfl)
  ⟨by kernel_rfl,by kernel_rfl,by kernel_rfl⟩ ⟨by kernel_rfl,by kernel_rfl,by kernel_rfl⟩ ⟨by kernel_rfl,by kernel_rfl,by kernel_rfl⟩ ⟨by kernel_rfl,by kernel_rfl,by kernel_rfl⟩ (by decide) (fun _ _ => by kernel_rfl)
noncomputable def tab48 : List Ln := tabOf 42 Tryz.f259
theorem says48 : LnSays 259 42 tab48 :=
 part_says (T := 254) (m := 45) (builds := (opsOf Tryz.f259).take 43) (oa := op0 Tryz.f259) (om := opAt Tryz.f259 43) (oi := opAt Tryz.f259 44) (os := opAt Tryz.f259 45) Tryz.func259 (by kernel_rfl) (by kernel_rfl) (by kernel_rfl) Tryz.underlying254 (by kernel_rfl)
  ⟨by kernel_rfl,by kernel_rfl,by kernel_rfl⟩ ⟨by kernel_rfl,by kernel_rfl,by kernel_rfl⟩ ⟨by kernel_rfl,by kernel_rfl,by kernel_rfl⟩ ⟨by kernel_rfl,by kernel_rfl,by kernel_rfl⟩ (by decide) (fun _ _ => by kernel_rfl)
noncomputable def tab49 : List Ln := tabOf 19 Tryz.f260
theorem says49 : LnSays 260 19 tab49 :=
 part_says (T := 255) (m := 22) (builds := (opsOf Tryz.f260).take 20) (oa := op0 Tryz.f260) (om := opAt Tryz.f260 20) (oi := opAt Tryz.f260 21) (os := opAt Tryz.f260 22) Tryz.func260 (by kernel_rfl) (by kernel_rfl) (by kernel_rfl) Tryz.underlying255 (by kernel_rfl)
  ⟨by kernel_rfl,by kernel_rfl,by kernel_rfl⟩ ⟨by kernel_rfl,by kernel_rfl,by kernel_rfl⟩ ⟨by kernel_rfl,by kernel_rfl,by kernel_rfl⟩ ⟨by kernel_rfl,by kernel_rfl,by kernel_rfl⟩ (by decide) (fun _ _ => by kernel_rfl)
noncomputable def tab50 : List Ln := tabOf 32 Tryz.f261
theorem says50 : LnSays 261 32 tab50 :=
 part_says (T := 256) (m := 35) (builds := (opsOf Tryz.f261).take 33) (oa := op0 Tryz.f261) (om := opAt Tryz.f261 33) (oi := opAt Tryz.f261 34) (os := opAt Tryz.f261 35) Tryz.func261 (by kernel_rfl) (by kernel_rfl) (by kernel_rfl) Tryz.underlying256 (by kernel_rfl)
  ⟨by kernel_rfl,by kernel_rfl,by kernel_rfl⟩ ⟨by kernel_rfl,by kernel_rfl,by kernel_rfl⟩ ⟨by kernel_rfl,by kernel_rfl,by kernel_rfl⟩ ⟨by kernel_rfl,by kernel_rfl,by kernel_rfl⟩ (by decide) (fun _ _ => by kernel_rfl)
noncomputable def tab51 : List Ln := tabOf 32 Tryz.f262
theorem says51 : LnSays 262 32 tab51 :=
 part_says (T := 256) (m := 35) (builds := (opsOf Tryz.f262).take 33) (oa := op0 Tryz.f262) (om := opAt Tryz.f262 33) (oi := opAt Tryz.f262 34) (os := opAt Tryz.f262 35) Tryz.func262 (by kernel_rfl) (by kernel_rfl) (by kernel_rfl) Tryz.underlying256 (by kernel_rfl)
  ⟨by kernel_rfl,by kernel_rfl,by kernel_rfl⟩ ⟨by kernel_rfl,by kernel_rfl,by kernel_rfl⟩ ⟨by kernel_rfl,by kernel_rfl,by kernel_rfl⟩ ⟨by kernel_rfl,by kernel_rfl,by kernel_rfl⟩ (by decide) (fun _ _ => by kernel_rfl)
noncomputable def tab52 : List Ln := tabOf 32 Tryz.f263
theorem says52 : LnSays 263 32 tab52 :=
 part_says (T := 256) (m := 35) (builds := (opsOf Tryz.f263).take 33) (oa := op0 Tryz.f263) (om := opAt Tryz.f263 33) (oi := opAt Tryz.f263 34) (os := opAt Tryz.f263 35) Tryz.func263 (by kernel_rfl) (by kernel_rfl) (by kernel_rfl) Tryz.underlying256 (by kernel_rfl)
  ⟨by kernel_rfl,by kernel_rfl,by kernel_rfl⟩ ⟨by kernel_rfl,by kernel_rfl,by kernel_rfl⟩ ⟨by kernel_rfl,by kernel_rfl,by kernel_rfl⟩ ⟨by kernel_rfl,by kernel_rfl,by kernel_rfl⟩ (by decide) (fun _ _ => by kernel_rfl)
noncomputable def tab53 : List Ln := tabOf 32 Tryz.f264
theorem says53 : LnSays 264 32 tab53 :=
 part_says (T := 256) (m := 35) (builds := (opsOf Tryz.f264).take 33) (oa := op0 Tryz.f264) (om := opAt Tryz.f264 33) (oi := opAt Tryz.f264 34) (os := opAt Tryz.f264 35) Tryz.func264 (by kernel_rfl) (by kernel_rfl) (by kernel_rfl) Tryz.underlying256 (by kernel_rfl)
  ⟨by kernel_rfl,by kernel_rfl,by kernel_rfl⟩ ⟨by kernel_rfl,by kernel_rfl,by kernel_rfl⟩ ⟨by kernel_rfl,by kernel_rfl,by kernel_rfl⟩ ⟨by kernel_rfl,by kernel_rfl,by kernel_rfl⟩ (by decide) (fun _ _ => by kernel_rfl)
noncomputable def tab54 : List Ln := tabOf 32 Tryz.f265
theorem says54 : LnSays 265 32 tab54 :=
 part_says (T := 256) (m := 35) (builds := (opsOf Tryz.f265).take 33) (oa := op0 Tryz.f265) (om := opAt Tryz.f265 33) (oi := opAt Tryz.f265 34) (os := opAt Tryz.f265 35) Tryz.func265 (by kernel_rfl) (by kernel_rfl) (by kernel_rfl) Tryz.underlying256 (by kernel_rfl)
  ⟨by kernel_rfl,by kernel_rfl,by kernel_rfl⟩ ⟨by kernel_rfl,by kernel_rfl,by kernel_rfl⟩ ⟨by kernel_rfl,by kernel_rfl,by kernel_rfl⟩ ⟨by kernel_rfl,by kernel_rfl,by kernel_rfl⟩ (by decide) (fun _ _ => by kernel_rfl)
end Go.Proofs.YtjgeedgphcjhoaaGreat
