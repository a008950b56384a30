/-
  Sign, RTabs, RDig, RTypes, ROfM, RWords: merged, what the law does not reach left out (each text says what it holds where it lies in wip). No condition.
-/
import Derived.Test.YtlhakbkdlgejpaaGreatDoorH07
import Derived.Deep.RegionWith
import Derived.Deep.RegionHeld3
import Derived.Test.YtlhakbkdlgejpaaGreatDoorH03
import Derived.RegionTactic
set_option linter.unusedSimpArgs false
set_option linter.unusedVariables false
set_option maxRecDepth 100000
namespace Go.Proofs.YtlhakbkdlgejpaaGreatDoor
open Go.RowKit
theorem sign_no (op : Int) (w : World) (hf : fxB (lineL op) = false) : Calls Tryz.prog 33 #[.int .i64 op] w fun e w' => e = .returned (.tuple #[.slice none 0 0, .slice none 0 0, .bool false]) ∧ Below w.heap.size w w' := by
  obtain ⟨⟨s, a, b, c⟩, hr⟩ : ∃ r, r = lineL op := ⟨_, rfl⟩
  have H := fun W => hid (line_says op W)
  rw [← hr] at H hf
  have HK := fun W => hid (fixed_says (s, a, b, c) W)
  rw [hf] at HK
  clear hr hf
  go_enter Tryz.func33, Tryz.ntmps33
  go_wp2_with (first | (go_at_call 61; refine (H _).out.mono ?_; rintro e w1 ⟨rfl, hb⟩; unfold lnV) | (go_at_call 62; refine (HK _).out.mono ?_; rintro e w2 ⟨rfl, hb2⟩))
  go_ret3
  exact ⟨rfl, (hb.trans ((Below.refl _ _).alloc hb.size _)).trans (hb2.mono (by simp; have := hb.size; omega))⟩
theorem Glob.drew {w : World} (h : Glob w) : Glob w.drew := h.below ((Below.refl 6 w).drew) (Nat.le_refl _)
theorem _root_.Go.RowKit.Below.drew0 {B : Nat} {w w' : World} (h : Below B w.drew w') : Below B w w' := ⟨h.os, h.tape, h.output, h.size, h.block⟩
/-- Two lists in new memory, apart. -/
def SignPost (w : World) (la lb : List Int) (e : Ending) (w' : World) : Prop :=
  ∃ v1 v2 B, e = .returned (.tuple #[v1, v2, .bool true]) ∧ w'.ownsRow w.heap.size 3 1 v1 la.length (ic la) ∧ w'.ownsRow B 3 1 v2 lb.length (ic lb) ∧ w.heap.size ≤ B ∧ (∀ k, v1.ownBlock = some k → k < B) ∧ Below w.heap.size w w'
set_option maxHeartbeats 4000000 in
theorem sign_yes (op : Int) (w : World) (hf : fxB (lineL op) = true) (hg : Glob w) : Calls Tryz.prog 33 #[.int .i64 op] w (SignPost w (typesL (lineL op).2.2.1.toNat) (typesL (lineL op).2.2.2.toNat)) := by
  obtain ⟨_, _, hb0, hb1, hc0, hc1⟩ := line_ok op
  obtain ⟨⟨s, a, b, c⟩, hr⟩ : ∃ r, r = lineL op := ⟨_, rfl⟩
  have H := fun W => hid (line_says op W)
  rw [← hr] at H hf hb0 hb1 hc0 hc1 ⊢
  have HK := fun W => hid (fixed_says (s, a, b, c) W)
  rw [hf] at HK
  clear hr hf
  dsimp only at hb0 hb1 hc0 hc1 ⊢
  obtain ⟨b, rfl⟩ : ∃ n : Nat, b = n := ⟨b.toNat, by omega⟩
  obtain ⟨c, rfl⟩ : ∃ n : Nat, c = n := ⟨c.toNat, by omega⟩
  have HB := fun W (hW : Glob W) => hid (types_says b (by omega) W hW)
  have HC := fun W (hW : Glob W) => hid (types_says c (by omega) W hW)
  rw [Int.toNat_natCast, Int.toNat_natCast]
  obtain ⟨la, hla⟩ : ∃ l, l = typesL b := ⟨_, rfl⟩
  obtain ⟨lb, hlb⟩ : ∃ l, l = typesL c := ⟨_, rfl⟩
  rw [← hla] at HB ⊢
  rw [← hlb] at HC ⊢
  have HG := hid hg
  clear hg hla hlb
  go_enter Tryz.func33, Tryz.ntmps33
  go_wp2_with (first | (go_at_call 61; refine (H _).out.mono ?_; rintro e w1 ⟨rfl, hb⟩; unfold lnV) | (go_at_call 62; refine (HK _).out.mono ?_; rintro e w2 ⟨rfl, hb2⟩))
  obtain ⟨hc, hf⟩ := bcell hb2
  have hb3 : Below w.heap.size w w2 := (hb.trans ((Below.refl _ _).alloc hb.size _)).trans (hb2.mono (by simp; have := hb.size; omega))
  have HW2 := hid (HG.out.next hb3)
  have HB3 := hid hb3
  have hk1 : w2.cell? ⟨w1.heap.size, 2, none⟩ = some (.int .u8 b) := by rw [hc _ _ (by simp)]; simp
  have hk2 : w2.cell? ⟨w1.heap.size, 3, none⟩ = some (.int .u8 c) := by rw [hc _ _ (by simp)]; simp
  have hlt : w1.heap.size < w2.heap.size := by have := hb2.size; simp at this; omega
  clear hc hf hb3 hb2 hb
  go_region_with (first
    | (go_at_call 63; ((with_reducible refine (HB _ (by first | exact HW2.out | exact HW2.out.drew)).out.mono ?_); rintro e w3 ⟨v1, rfl, hown1, hb4⟩; obtain ⟨hc4, hf4⟩ := bcell hb4; have hk3 : w3.cell? ⟨w1.heap.size, 3, none⟩ = some (.int .u8 c) := (hc4 _ _ (by first | exact hlt | simpa using hlt)).trans (by first | exact hk2 | simpa using hk2); have HO1 := hid hown1; have HB4 := hid hb4; clear hown1 hb4 hf4 hc4))
    | (go_at_call 63; ((with_reducible refine (HC _ (by first | exact HW2.out.next HB4.out | exact HW2.out.drew.next HB4.out)).out.mono ?_); rintro e w4 ⟨v2, rfl, hown2, hb5⟩; have HO2 := hid hown2; have HB5 := hid hb5; clear hown2 hb5)))
  all_goals
    go_wp2
    refine bodyPost_ret (v := .tuple #[v1, v2, .bool true]) (by kernel_rfl) (by rfl) ?_
    refine ⟨v1, v2, w3.heap.size, rfl, own_mono (own_below HO1.out HB5.out (Nat.le_refl _)) HB3.out.size, HO2.out, Nat.le_trans HB3.out.size HB4.out.size, fun k hk => (HO1.out.lt k hk).2, ?_⟩
    exact (HB3.out.trans ((HB4.out.mono HB3.out.size).drew0)).trans (HB5.out.mono (Nat.le_trans HB3.out.size HB4.out.size))
end Go.Proofs.YtlhakbkdlgejpaaGreatDoor
namespace Go.Proofs.YtlhakbkdlgejpaaGreatDoor
open Go.RowKit
theorem tab_front {T : TypeId} {oa ob oc os : Oper} {rest : Code} {Q : Exit → Act → World → Prop} {i : Value} {w : World} {parts : Array (Nat × Operand)} {cs zs : Array Value}
    (ha : oa.op = .assign (.const (.string ⟨#[]⟩)) ∧ oa.dst = some 2 ∧ oa.guard = none)
    (hb : ob.op = .build T parts ∧ ob.dst = some 4 ∧ ob.guard = none) (hbuilt : ∀ a : Act, Tryz.prog.built T (parts.map fun (i, x) => (i, a.eval x)).toList = some cs)
    (hc : oc.op = .alloc T ∧ oc.dst = some 3 ∧ oc.guard = none) (halloc : ∀ (a : Act) (W : World), (execOp a.eval oc).run Tryz.prog W = .ok (.value (.pointer (some ⟨W.heap.size, 0, none⟩))) (W.alloc (.cells zs T)))
    (hs : os.op = .store T (.tmp 3) (.tmp 4) ∧ os.dst = none ∧ os.guard = none)
    (hzs : zs.size = cs.size) (hi : (Tryz.prog.info? T).map (·.size) = some cs.size) (h1 : cs.all (·.oneCell') = true)
    (h : ∀ v4 W, (∀ k v, cs[k]? = some v → W.cell? ⟨w.heap.size, k, none⟩ = some v) → Below w.heap.size w W →
      Code.wp Tryz.prog rest Q { tmps := #[i, undef, .string ⟨#[]⟩, .pointer (some ⟨w.heap.size, 0, none⟩), v4, undef, undef, undef], defers := [] } W) :
    Code.wp Tryz.prog (.seq (.region 0 #[oa] false) (.seq (.region 1 #[ob, oc, os] false) rest)) Q { tmps := #[i, undef, undef, undef, undef, undef, undef, undef], defers := [] } w := by
  obtain ⟨ha1, ha2, ha3⟩ := ha
  obtain ⟨hb1, hb2, hb3⟩ := hb
  obtain ⟨hc1, hc2, hc3⟩ := hc
  obtain ⟨hs1, hs2, hs3⟩ := hs
  refine wp_seq (wp_region_lit (l := [oa]) ?_)
  refine run_to ha3 (some 2) ha2 (.string ⟨#[]⟩) w (by unfold execOp; rw [ha1]; rfl) ?_
  show Exit.then _ _ .normal _ _
  show Code.wp _ _ _ _ _
  refine wp_seq (wp_region_lit (l := [ob, oc, os]) ?_)
  refine wpList_buildTo hb3 T parts hb1 (some 4) hb2 cs (hbuilt _) ?_
  refine run_to hc3 (some 3) hc2 (.pointer (some ⟨w.heap.size, 0, none⟩)) (w.alloc (.cells zs T)) (halloc _ _) ?_
  have hheap : (w.alloc (.cells zs T)).heap[w.heap.size]? = some (.cells zs T (0, 0)) := by
    show (w.heap.push _)[w.heap.size]? = _
    simp
  refine wpList_store_rowTo hs3 T (.tmp 3) (.tmp 4) hs1 hs2 w.heap.size cs (by rfl) (by rfl) T zs hheap hi hzs h1 ?_
  show Exit.then _ _ .normal _ _
  show Code.wp _ _ _ _ _
  refine h (.agg cs) _ ?_ ?_
  · intro k v hk
    rw [World.cell?, setRow_heap _ _ _ _ _ _ hheap]
    simpa using hk
  · exact ⟨rfl, rfl, rfl, by simp, fun k hk => by rw [setRow_other _ _ _ _ (by omega)]; exact Below.heap_alloc _ _ _ hk⟩
def buildOf (f : Func) : Oper := match f.body with
  | some (.seq _ (.seq (.region _ ops _) _)) => ops.getD 0 default
  | _ => default
def partsOf (o : Oper) : Array (Nat × Operand) := match o.op with
  | .build _ parts => parts
  | _ => #[]
def strOf (v : Value) : List UInt8 := match v with
  | .string s => s.data.toList
  | _ => []
def refTab (n : Nat) (f : Func) : List (List UInt8) := (List.range n).map fun k => match (partsOf (buildOf f)).toList.find? fun x => x.1 == k with
  | some (_, .const v) => strOf v
  | _ => []
noncomputable def tabOne : List (List UInt8) := refTab 211 Tryz.f39
noncomputable def tabTwo : List (List UInt8) := refTab 18 Tryz.f40
noncomputable def tabThree : List (List UInt8) := refTab 256 Tryz.f41
set_option maxRecDepth 100000 in
theorem one_len : tabOne.length = 211 := by kernel_rfl
set_option maxRecDepth 100000 in
theorem two_len : tabTwo.length = 18 := by kernel_rfl
set_option maxRecDepth 100000 in
theorem three_len : tabThree.length = 256 := by kernel_rfl
theorem sc_at {l : List (List UInt8)} {k : Nat} (h : k < l.length) : (sc l).toArray[k]? = some (.string (str (l.getD k []))) := by
  simp [sc, List.getElem?_eq_getElem h, List.getD_eq_getElem?_getD]
def ops0 (f : Func) : Oper := match f.body with
  | some (.seq (.region _ ops _) _) => ops.getD 0 default
  | _ => default
def ops1 (f : Func) (k : Nat) : Oper := match f.body with
  | some (.seq _ (.seq (.region _ ops _) _)) => ops.getD k default
  | _ => default
set_option maxRecDepth 100000 in
theorem two_says (k : Nat) (hk : k < 18) (w : World) : Calls Tryz.prog 40 #[.int .i64 k] w fun e w' => e = .returned (.string (str (tabTwo.getD k []))) ∧ Below w.heap.size w w' := by
  refine calls_of_wp (c := .seq (.region 0 #[ops0 Tryz.f40] false) (.seq (.region 1 #[ops1 Tryz.f40 0, ops1 Tryz.f40 1, ops1 Tryz.f40 2] false) (.seq (.region 2 #[{ dst := some 5, op := Op.move (Operand.tmp 0), type := 3, pos := "table.go:45", after := #[], guard := none }, { dst := some 6, op := Op.indexAddr 96 (Operand.tmp 3) (Operand.tmp 5), type := 0, pos := "table.go:45", after := #[{ on := 0, ground := Ground.data }], guard := none }, { dst := some 7, op := Op.load 9 (Operand.tmp 6), type := 9, pos := "table.go:45", after := #[{ on := 1, ground := Ground.data }], guard := none }, { dst := some 2, op := Op.assign (Operand.tmp 7), type := 9, pos := "table.go:45", after := #[{ on := 2, ground := Ground.data }, { on := 0, ground := Ground.phase }, { on := 1, ground := Ground.phase }, { on := 2, ground := Ground.phase }], guard := none }] false) .ret))) Tryz.func40 (by kernel_rfl) ?_
  show Code.wp _ _ _ { tmps := #[.int .i64 k, undef, undef, undef, undef, undef, undef, undef], defers := [] } _
  refine tab_front (T := 96) (parts := partsOf (buildOf Tryz.f40)) (cs := (sc tabTwo).toArray) (zs := Array.replicate 18 (.string ⟨#[]⟩)) ⟨by kernel_rfl, by kernel_rfl, by kernel_rfl⟩ ⟨by kernel_rfl, by kernel_rfl, by kernel_rfl⟩ (fun _ => by kernel_rfl) ⟨by kernel_rfl, by kernel_rfl, by kernel_rfl⟩ (fun _ _ => by kernel_rfl) ⟨by kernel_rfl, by kernel_rfl, by kernel_rfl⟩ (by kernel_rfl) (by kernel_rfl) (by kernel_rfl) ?_
  intro v4 W hc hb
  have hcell := hc k _ (sc_at (by rw [two_len]; exact hk))
  obtain ⟨s, hs⟩ : ∃ s, s = str (tabTwo.getD k []) := ⟨_, rfl⟩
  rw [← hs] at hcell ⊢
  clear hc hs
  go_wp2
  go_ret
  exact ⟨rfl, hb⟩
set_option maxRecDepth 100000 in
theorem one_says (k : Nat) (hk : k < 211) (w : World) : Calls Tryz.prog 39 #[.int .i64 k] w fun e w' => e = .returned (.string (str (tabOne.getD k []))) ∧ Below w.heap.size w w' := by
  refine calls_of_wp (c := .seq (.region 0 #[ops0 Tryz.f39] false) (.seq (.region 1 #[ops1 Tryz.f39 0, ops1 Tryz.f39 1, ops1 Tryz.f39 2] false) (.seq (.region 2 #[{ dst := some 5, op := Op.move (Operand.tmp 0), type := 3, pos := "table.go:34", after := #[], guard := none }, { dst := some 6, op := Op.indexAddr 95 (Operand.tmp 3) (Operand.tmp 5), type := 0, pos := "table.go:34", after := #[{ on := 0, ground := Ground.data }], guard := none }, { dst := some 7, op := Op.load 9 (Operand.tmp 6), type := 9, pos := "table.go:34", after := #[{ on := 1, ground := Ground.data }], guard := none }, { dst := some 2, op := Op.assign (Operand.tmp 7), type := 9, pos := "table.go:34", after := #[{ on := 2, ground := Ground.data }, { on := 0, ground := Ground.phase }, { on := 1, ground := Ground.phase }, { on := 2, ground := Ground.phase }], guard := none }] false) .ret))) Tryz.func39 (by kernel_rfl) ?_
  show Code.wp _ _ _ { tmps := #[.int .i64 k, undef, undef, undef, undef, undef, undef, undef], defers := [] } _
  refine tab_front (T := 95) (parts := partsOf (buildOf Tryz.f39)) (cs := (sc tabOne).toArray) (zs := Array.replicate 211 (.string ⟨#[]⟩)) ⟨by kernel_rfl, by kernel_rfl, by kernel_rfl⟩ ⟨by kernel_rfl, by kernel_rfl, by kernel_rfl⟩ (fun _ => by kernel_rfl) ⟨by kernel_rfl, by kernel_rfl, by kernel_rfl⟩ (fun _ _ => by kernel_rfl) ⟨by kernel_rfl, by kernel_rfl, by kernel_rfl⟩ (by kernel_rfl) (by kernel_rfl) (by kernel_rfl) ?_
  intro v4 W hc hb
  have hcell := hc k _ (sc_at (by rw [one_len]; exact hk))
  obtain ⟨s, hs⟩ : ∃ s, s = str (tabOne.getD k []) := ⟨_, rfl⟩
  rw [← hs] at hcell ⊢
  clear hc hs
  go_wp2
  go_ret
  exact ⟨rfl, hb⟩
set_option maxRecDepth 100000 in
theorem three_says (k : Nat) (hk : k < 256) (w : World) : Calls Tryz.prog 41 #[.int .i64 k] w fun e w' => e = .returned (.string (str (tabThree.getD k []))) ∧ Below w.heap.size w w' := by
  refine calls_of_wp (c := .seq (.region 0 #[ops0 Tryz.f41] false) (.seq (.region 1 #[ops1 Tryz.f41 0, ops1 Tryz.f41 1, ops1 Tryz.f41 2] false) (.seq (.region 2 #[{ dst := some 5, op := Op.move (Operand.tmp 0), type := 3, pos := "table.go:95", after := #[], guard := none }, { dst := some 6, op := Op.indexAddr 97 (Operand.tmp 3) (Operand.tmp 5), type := 0, pos := "table.go:95", after := #[{ on := 0, ground := Ground.data }], guard := none }, { dst := some 7, op := Op.load 9 (Operand.tmp 6), type := 9, pos := "table.go:95", after := #[{ on := 1, ground := Ground.data }], guard := none }, { dst := some 2, op := Op.assign (Operand.tmp 7), type := 9, pos := "table.go:95", after := #[{ on := 2, ground := Ground.data }, { on := 0, ground := Ground.phase }, { on := 1, ground := Ground.phase }, { on := 2, ground := Ground.phase }], guard := none }] false) .ret))) Tryz.func41 (by kernel_rfl) ?_
  show Code.wp _ _ _ { tmps := #[.int .i64 k, undef, undef, undef, undef, undef, undef, undef], defers := [] } _
  refine tab_front (T := 97) (parts := partsOf (buildOf Tryz.f41)) (cs := (sc tabThree).toArray) (zs := Array.replicate 256 (.string ⟨#[]⟩)) ⟨by kernel_rfl, by kernel_rfl, by kernel_rfl⟩ ⟨by kernel_rfl, by kernel_rfl, by kernel_rfl⟩ (fun _ => by kernel_rfl) ⟨by kernel_rfl, by kernel_rfl, by kernel_rfl⟩ (fun _ _ => by kernel_rfl) ⟨by kernel_rfl, by kernel_rfl, by kernel_rfl⟩ (by kernel_rfl) (by kernel_rfl) (by kernel_rfl) ?_
  intro v4 W hc hb
  have hcell := hc k _ (sc_at (by rw [three_len]; exact hk))
  obtain ⟨s, hs⟩ : ∃ s, s = str (tabThree.getD k []) := ⟨_, rfl⟩
  rw [← hs] at hcell ⊢
  clear hc hs
  go_wp2
  go_ret
  exact ⟨rfl, hb⟩
end Go.Proofs.YtlhakbkdlgejpaaGreatDoor
namespace Go.Proofs.YtlhakbkdlgejpaaGreatDoor
open Go.RowKit
/-- A row of the reference's table: the number, the name, what stands behind, what it takes, what it leaves, is that fixed? -/
abbrev Rw := Int × List UInt8 × Int × List UInt8 × List UInt8 × Bool
def rw0 : Rw := (-1, [], 0, [], [], false)
def rwV (r : Rw) : Value := .agg #[.int .i64 r.1, .string (str r.2.1), .int .i64 r.2.2.1, .string (str r.2.2.2.1), .string (str r.2.2.2.2.1), .bool r.2.2.2.2.2]
theorem none_says (w : World) : Calls Tryz.prog 43 #[] w fun e w' => e = .returned (rwV rw0) ∧ Below w.heap.size w w' := by
  go_enter Tryz.func43, Tryz.ntmps43
  go_wp2
  exact bodyPost_ret (v := rwV rw0) (by simp [results, Tryz.results43, go_sem, rwV, rw0, str]) rfl ⟨rfl, (Below.refl _ _).alloc (Nat.le_refl _) _⟩
def digF (n : Int) (c : UInt8) : Int := n * 10 + (c.toNat : Int) - 48
def digL (l : List UInt8) : Int := l.foldl digF 0
theorem dig_succ (l : List UInt8) (n : Nat) (h : n < l.length) : digL (l.take (n + 1)) = digL (l.take n) * 10 + (l[n].toNat : Int) - 48 := by
  rw [List.take_add_one, List.getElem?_eq_getElem h]
  unfold digL
  rw [List.foldl_append]
  rfl
theorem dig_bound (l : List UInt8) : ∀ n, n ≤ l.length → -(1000 ^ n : Int) ≤ digL (l.take n) ∧ digL (l.take n) ≤ 1000 ^ n
  | 0, _ => by simp [digL]
  | n + 1, h => by
    have ih := dig_bound l n (by omega)
    have hc := (l[n]'(by omega)).toNat_lt
    rw [dig_succ l n (by omega), Int.pow_succ]
    have hp : (1 : Int) ≤ 1000 ^ n := by have := Int.pow_pos (n := 1000) (m := n) (by decide); omega
    generalize (1000 : Int) ^ n = p at ih hp ⊢
    omega
set_option maxHeartbeats 4000000 in
theorem digits_says (l : List UInt8) (hl : l.length ≤ 4) (w : World) : Calls Tryz.prog 44 #[.string (str l)] w fun e w' => e = .returned (.int .i64 (digL l)) ∧ Below w.heap.size w w' := by
  obtain ⟨s, hs⟩ : ∃ s, s = str l := ⟨_, rfl⟩
  have hsz : s.size = l.length := by rw [hs, str_size]
  rw [← hs]
  have HS := hid hs
  clear hs
  obtain ⟨L, hL⟩ : ∃ L, L = l.length := ⟨_, rfl⟩
  rw [← hL] at hsz hl
  have HL := hid hL
  clear hL
  go_enter Tryz.func44, Tryz.ntmps44
  go_wp2
  go_loopw [3, 4] (fun vn vi wr => ∃ n : Nat, Hid (n ≤ L) ∧ vi = .int .i64 n ∧ vn = .int .i64 (digL (l.take n)) ∧ Hid (Below w.heap.size w wr)) (fun _ vi _ => 5 - (intOf vi).toNat)
  case atStart => exact ⟨0, Nat.zero_le _, rfl, rfl, Below.refl _ _⟩
  case round =>
    obtain ⟨n, hn, rfl, rfl, HR⟩ := hrel
    by_cases hlt : n < L
    · have hn1 := hid (show n + 1 ≤ L by omega)
      have hnll : n < l.length := by rw [← HL.out]; exact hlt
      obtain ⟨c, hc⟩ : ∃ c, c = l[n]'hnll := ⟨_, rfl⟩
      have hget : ∀ h : n < s.size, (s[n]'h) = c := fun h => by
        have e := HS.out
        subst e
        exact (str_get l n hnll _).trans hc.symm
      have HD := hid (dig_succ l n hnll)
      rw [← hc] at HD
      have hb := dig_bound l n (Nat.le_of_lt hnll)
      obtain ⟨q, hq⟩ : ∃ q, q = digL (l.take n) := ⟨_, rfl⟩
      rw [← hq] at hb HD ⊢
      have hcl := c.toNat_lt
      have hb2 : -1000000000000 ≤ q ∧ q ≤ 1000000000000 := by
        have hn4 : n = 0 ∨ n = 1 ∨ n = 2 ∨ n = 3 := by omega
        rcases hn4 with rfl | rfl | rfl | rfl <;> simp at hb <;> omega
      have e1 : wrap64 (q * 10) = q * 10 := by unfold wrap64; omega
      have e2 : wrap64 (q * 10 + (c.toNat : Int)) = q * 10 + (c.toNat : Int) := by unfold wrap64; omega
      have e3 : wrap64 (q * 10 + (c.toNat : Int) - 48) = q * 10 + (c.toNat : Int) - 48 := by unfold wrap64; omega
      have e4 : wrap64 (c.toNat : Int) = (c.toNat : Int) := by unfold wrap64; omega
      clear hb hb2 hcl hc hq
      go_wp2
      go_roundw
      case rel => exact ⟨n + 1, hn1.out, by go_num, by rw [HD.out, e3], HR.out⟩
      case measure => (first | (simp [intOf]; done) | (simp [intOf]; omega))
    · obtain rfl : n = L := by have := hn.out; omega
      rw [show l.take n = l by rw [HL.out, List.take_length]]
      obtain ⟨q, hq⟩ : ∃ q, q = digL l := ⟨_, rfl⟩
      rw [← hq]
      go_wp2
      go_ret
      exact ⟨by rw [← hq]; rfl, HR.out⟩
end Go.Proofs.YtlhakbkdlgejpaaGreatDoor
namespace Go.Proofs.YtlhakbkdlgejpaaGreatDoor
open Go.RowKit
def tyOf (c : UInt8) : Option Int := if c = 105 then some 127 else if c = 108 then some 126 else if c = 102 then some 125 else if c = 100 then some 124 else if c = 118 then some 123 else if c = 110 then some 112 else none
def tyL (l : List UInt8) : List Int := l.filterMap tyOf
theorem ty_succ (l : List UInt8) (n : Nat) (h : n < l.length) : tyL (l.take (n + 1)) = tyL (l.take n) ++ (tyOf l[n]).toList := by
  unfold tyL
  rw [List.take_add_one, List.getElem?_eq_getElem h, List.filterMap_append]
  congr 1
theorem ty_len (l : List UInt8) : (tyL l).length ≤ l.length := List.length_filterMap_le _ _
def TRel (w : World) (l : List UInt8) (n : Nat) (vo : Value) (wr : World) : Prop := wr.ownsRow w.heap.size 3 1 vo (tyL (l.take n)).length (ic (tyL (l.take n))) ∧ Below w.heap.size w wr
theorem trel_no {w wr : World} {l : List UInt8} {n : Nat} {vo : Value} {c : UInt8} (h : TRel w l n vo wr) (hC : tyL (l.take (n + 1)) = tyL (l.take n) ++ (tyOf c).toList) (ht : tyOf c = none) : TRel w l (n + 1) vo wr := by
  unfold TRel
  rw [hC, ht]
  simpa [TRel] using h
theorem trel_one {w wr wr' : World} {l : List UInt8} {n : Nat} {vo vo' : Value} {c : UInt8} {t : Int} (h : TRel w l n vo wr) (hC : tyL (l.take (n + 1)) = tyL (l.take n) ++ (tyOf c).toList) (ht : tyOf c = some t)
    (hown : wr'.ownsRow w.heap.size 3 1 vo' ((tyL (l.take n)).length + 1) (ic (tyL (l.take n)) ++ [.int .i64 t])) (hb : Below w.heap.size wr wr') : TRel w l (n + 1) vo' wr' := by
  unfold TRel
  rw [hC, ht]
  refine ⟨?_, h.2.trans hb⟩
  simpa [ic] using hown
set_option maxHeartbeats 8000000 in
theorem reftypes_says (l : List UInt8) (hl : l.length ≤ 100) (w : World) : Calls Tryz.prog 25 #[.string (str l)] w (TyPost w (tyL l)) := by
  obtain ⟨s, hs⟩ : ∃ s, s = str l := ⟨_, rfl⟩
  have hsz : s.size = l.length := by rw [hs, str_size]
  rw [← hs]
  have HS := hid hs
  clear hs
  obtain ⟨L, hL⟩ : ∃ L, L = l.length := ⟨_, rfl⟩
  rw [← hL] at hsz hl
  have HL := hid hL
  clear hL
  go_enter Tryz.func25, Tryz.ntmps25
  go_wp2
  go_loopw [3, 4] (fun vo vi wr => ∃ n : Nat, Hid (n ≤ L) ∧ vi = .int .i64 n ∧ Hid (TRel w l n vo wr)) (fun _ vi _ => 100 - (intOf vi).toNat)
  case atStart => exact ⟨0, Nat.zero_le _, rfl, World.ownsRow_nil w w.heap.size 3 1, Below.refl _ _⟩
  case round =>
    obtain ⟨n, hn, rfl, HR⟩ := hrel
    by_cases hlt : n < L
    · have hn1 := hid (show n + 1 ≤ L by omega)
      have hnll : n < l.length := by rw [← HL.out]; exact hlt
      obtain ⟨c, hc⟩ : ∃ c, c = l[n]'hnll := ⟨_, rfl⟩
      have hget : ∀ h : n < s.size, (s[n]'h) = c := fun h => by
        have e := HS.out
        subst e
        exact (str_get l n hnll _).trans hc.symm
      have HC := hid (ty_succ l n hnll)
      rw [← hc] at HC
      have hlen := hid (ty_len (l.take n))
      have hlt2 := hid (show (l.take n).length ≤ 100 by rw [List.length_take]; omega)
      have hsz2 := HR.out.2.size
      clear hc
      by_cases h105 : c = 105
      · have ht := hid (show tyOf c = some 127 by rw [h105]; decide)
        have hcn : (c.toNat : Int) = 105 := by rw [h105]; rfl
        clear h105
        go_wp2_with (at_builtin; refine append_int rfl _ _ rfl w.heap.size _ _ _ 127 HR.out.1 hsz2 (by have := hlen.out; have := hlt2.out; omega) rfl rfl ?_; intro v' w3 hown' hnx3 hsz3)
        go_roundw
        case rel => exact ⟨n + 1, hn1.out, by go_num, trel_one HR.out HC.out ht.out hown' hnx3⟩
        case measure => (first | (simp [intOf]; done) | (simp [intOf]; omega))
      have n105 : ((c.toNat : Int) == 105) = false := by
        rw [beq_eq_false_iff_ne]
        intro e
        exact h105 (UInt8.toNat_inj.1 (by have : (105 : UInt8).toNat = 105 := rfl; omega))
      by_cases h108 : c = 108
      · have ht := hid (show tyOf c = some 126 by rw [h108]; decide)
        have hcn : (c.toNat : Int) = 108 := by rw [h108]; rfl
        clear h108
        clear h105 n105
        go_wp2_with (at_builtin; refine append_int rfl _ _ rfl w.heap.size _ _ _ 126 HR.out.1 hsz2 (by have := hlen.out; have := hlt2.out; omega) rfl rfl ?_; intro v' w3 hown' hnx3 hsz3)
        go_roundw
        case rel => exact ⟨n + 1, hn1.out, by go_num, trel_one HR.out HC.out ht.out hown' hnx3⟩
        case measure => (first | (simp [intOf]; done) | (simp [intOf]; omega))
      have n108 : ((c.toNat : Int) == 108) = false := by
        rw [beq_eq_false_iff_ne]
        intro e
        exact h108 (UInt8.toNat_inj.1 (by have : (108 : UInt8).toNat = 108 := rfl; omega))
      by_cases h102 : c = 102
      · have ht := hid (show tyOf c = some 125 by rw [h102]; decide)
        have hcn : (c.toNat : Int) = 102 := by rw [h102]; rfl
        clear h102
        clear h105 n105
        clear h108 n108
        go_wp2_with (at_builtin; refine append_int rfl _ _ rfl w.heap.size _ _ _ 125 HR.out.1 hsz2 (by have := hlen.out; have := hlt2.out; omega) rfl rfl ?_; intro v' w3 hown' hnx3 hsz3)
        go_roundw
        case rel => exact ⟨n + 1, hn1.out, by go_num, trel_one HR.out HC.out ht.out hown' hnx3⟩
        case measure => (first | (simp [intOf]; done) | (simp [intOf]; omega))
      have n102 : ((c.toNat : Int) == 102) = false := by
        rw [beq_eq_false_iff_ne]
        intro e
        exact h102 (UInt8.toNat_inj.1 (by have : (102 : UInt8).toNat = 102 := rfl; omega))
      by_cases h100 : c = 100
      · have ht := hid (show tyOf c = some 124 by rw [h100]; decide)
        have hcn : (c.toNat : Int) = 100 := by rw [h100]; rfl
        clear h100
        clear h105 n105
        clear h108 n108
        clear h102 n102
        go_wp2_with (at_builtin; refine append_int rfl _ _ rfl w.heap.size _ _ _ 124 HR.out.1 hsz2 (by have := hlen.out; have := hlt2.out; omega) rfl rfl ?_; intro v' w3 hown' hnx3 hsz3)
        go_roundw
        case rel => exact ⟨n + 1, hn1.out, by go_num, trel_one HR.out HC.out ht.out hown' hnx3⟩
        case measure => (first | (simp [intOf]; done) | (simp [intOf]; omega))
      have n100 : ((c.toNat : Int) == 100) = false := by
        rw [beq_eq_false_iff_ne]
        intro e
        exact h100 (UInt8.toNat_inj.1 (by have : (100 : UInt8).toNat = 100 := rfl; omega))
      by_cases h118 : c = 118
      · have ht := hid (show tyOf c = some 123 by rw [h118]; decide)
        have hcn : (c.toNat : Int) = 118 := by rw [h118]; rfl
        clear h118
        clear h105 n105
        clear h108 n108
        clear h102 n102
        clear h100 n100
        go_wp2_with (at_builtin; refine append_int rfl _ _ rfl w.heap.size _ _ _ 123 HR.out.1 hsz2 (by have := hlen.out; have := hlt2.out; omega) rfl rfl ?_; intro v' w3 hown' hnx3 hsz3)
        go_roundw
        case rel => exact ⟨n + 1, hn1.out, by go_num, trel_one HR.out HC.out ht.out hown' hnx3⟩
        case measure => (first | (simp [intOf]; done) | (simp [intOf]; omega))
      have n118 : ((c.toNat : Int) == 118) = false := by
        rw [beq_eq_false_iff_ne]
        intro e
        exact h118 (UInt8.toNat_inj.1 (by have : (118 : UInt8).toNat = 118 := rfl; omega))
      by_cases h110 : c = 110
      · have ht := hid (show tyOf c = some 112 by rw [h110]; decide)
        have hcn : (c.toNat : Int) = 110 := by rw [h110]; rfl
        clear h110
        clear h105 n105
        clear h108 n108
        clear h102 n102
        clear h100 n100
        clear h118 n118
        go_wp2_with (at_builtin; refine append_int rfl _ _ rfl w.heap.size _ _ _ 112 HR.out.1 hsz2 (by have := hlen.out; have := hlt2.out; omega) rfl rfl ?_; intro v' w3 hown' hnx3 hsz3)
        go_roundw
        case rel => exact ⟨n + 1, hn1.out, by go_num, trel_one HR.out HC.out ht.out hown' hnx3⟩
        case measure => (first | (simp [intOf]; done) | (simp [intOf]; omega))
      have n110 : ((c.toNat : Int) == 110) = false := by
        rw [beq_eq_false_iff_ne]
        intro e
        exact h110 (UInt8.toNat_inj.1 (by have : (110 : UInt8).toNat = 110 := rfl; omega))
      have ht := hid (show tyOf c = none by unfold tyOf; rw [if_neg h105, if_neg h108, if_neg h102, if_neg h100, if_neg h118, if_neg h110])
      clear h105 h108 h102 h100 h118 h110
      go_wp2
      go_roundw
      case rel => exact ⟨n + 1, hn1.out, by go_num, trel_no HR.out HC.out ht.out⟩
      case measure => (first | (simp [intOf]; done) | (simp [intOf]; omega))
    · obtain rfl : n = L := by have := hn.out; omega
      have e : l.take n = l := by rw [HL.out, List.take_length]
      have hr := HR.out
      unfold TRel at hr
      rw [e] at hr
      go_wp2
      go_ret
      exact ⟨_, rfl, hr.1, hr.2⟩
end Go.Proofs.YtlhakbkdlgejpaaGreatDoor
namespace Go.Proofs.YtlhakbkdlgejpaaGreatDoor
open Go.RowKit
/-- The text of a number's row. -/
noncomputable def textOf (op : Int) : List UInt8 :=
  if 0 ≤ op ∧ op < 211 then tabOne.getD op.toNat [] else if 64512 ≤ op ∧ op < 64530 then tabTwo.getD (op - 64512).toNat [] else if 64768 ≤ op ∧ op < 65024 then tabThree.getD (op - 64768).toNat [] else []
/-- A step over a letter of what is taken and left. -/
def stepS (p : Bool × List UInt8 × List UInt8) (c : UInt8) : Bool × List UInt8 × List UInt8 :=
  match p with
  | (b, t, l) => if c = 62 then (true, t, l) else if b then (b, t, l ++ [c]) else (b, t ++ [c], l)
def sst (l : List UInt8) (n : Nat) : Bool × List UInt8 × List UInt8 := (l.take n).foldl stepS (false, [], [])
def ofText (op : Int) (t : List UInt8) : Rw :=
  match wordsL t with
  | [a, b, c] => if c = [63] then (op, a, digL b, [], [], false) else (op, a, digL b, (sst c c.length).2.1, (sst c c.length).2.2, true)
  | _ => rw0
noncomputable def ofL (op : Int) : Rw := ofText op (textOf op)
def okText (t : List UInt8) : Bool := decide (t.length ≤ 100) && (match wordsL t with | [a, b, c] => decide (b.length ≤ 4) && decide (c.length ≤ 100) | _ => true)
set_option maxRecDepth 100000 in
theorem texts_ok : (rangeOps.all fun op => okText (textOf op)) = true := by kernel_rfl
theorem text_out (op : Int) (h : ¬ op ∈ rangeOps) : textOf op = [] := by
  rw [mem_rangeOps] at h
  unfold textOf
  rw [if_neg (by omega), if_neg (by omega), if_neg (by omega)]
theorem text_ok (op : Int) : okText (textOf op) = true := by
  by_cases h : op ∈ rangeOps
  · exact List.all_eq_true.1 texts_ok op h
  · rw [text_out op h]; rfl
end Go.Proofs.YtlhakbkdlgejpaaGreatDoor
namespace Go.Proofs.YtlhakbkdlgejpaaGreatDoor
open Go.RowKit
def WordsPost (w : World) (l : List UInt8) (e : Ending) (w' : World) : Prop :=
  ∃ v, e = .returned v ∧ w'.ownsRow w.heap.size 9 1 v (wordsL l).length (sc (wordsL l)) ∧ Below w.heap.size w w'
def WRel (w : World) (l : List UInt8) (n : Nat) (vo vw : Value) (wr : World) : Prop :=
  vw = .string (str (wst l n).2) ∧ wr.ownsRow w.heap.size 9 1 vo (wst l n).1.length (sc (wst l n).1) ∧ Below w.heap.size w wr
theorem beq_str_empty (x : List UInt8) : (str x).toList.isEmpty = decide (x = []) := by rw [str_list]; cases x <;> simp
theorem rel_sp0 {w wr : World} {l : List UInt8} {n : Nat} {o : List (List UInt8)} {x : List UInt8} {vo : Value} (hp : wst l n = (o, x)) (hC : wst l (n + 1) = stepW (wst l n) 32) (hx : x = [])
    (hown : wr.ownsRow w.heap.size 9 1 vo o.length (sc o)) (hb : Below w.heap.size w wr) : WRel w l (n + 1) vo (.string ⟨#[]⟩) wr := by
  unfold WRel
  rw [hC, hp]
  subst hx
  exact ⟨rfl, hown, hb⟩
theorem rel_sp1 {w wr : World} {l : List UInt8} {n : Nat} {o : List (List UInt8)} {x : List UInt8} {vo : Value} (hp : wst l n = (o, x)) (hC : wst l (n + 1) = stepW (wst l n) 32) (hx : ¬ x = [])
    (hown : wr.ownsRow w.heap.size 9 1 vo (o.length + 1) (sc o ++ [.string (str x)])) (hb : Below w.heap.size w wr) : WRel w l (n + 1) vo (.string ⟨#[]⟩) wr := by
  unfold WRel
  rw [hC, hp]
  have e : stepW (o, x) 32 = (o ++ [x], []) := by simp [stepW, hx]
  rw [e]
  refine ⟨rfl, ?_, hb⟩
  simpa [sc] using hown
theorem rel_ch {w wr : World} {l : List UInt8} {n : Nat} {c : UInt8} {o : List (List UInt8)} {x : List UInt8} {vo : Value} (hp : wst l n = (o, x)) (hC : wst l (n + 1) = stepW (wst l n) c) (hc : ¬ c = 32)
    (hown : wr.ownsRow w.heap.size 9 1 vo o.length (sc o)) (hb : Below w.heap.size w wr) : WRel w l (n + 1) vo (.string (str (x ++ [c]))) wr := by
  unfold WRel
  rw [hC, hp]
  have e : stepW (o, x) c = (o, x ++ [c]) := by simp [stepW, hc]
  rw [e]
  exact ⟨rfl, hown, hb⟩
set_option maxHeartbeats 4000000 in
theorem words_says (l : List UInt8) (hl : l.length ≤ 100) (w : World) : Calls Tryz.prog 42 #[.string (str l)] w (WordsPost w l) := by
  obtain ⟨s, hs⟩ : ∃ s, s = str l := ⟨_, rfl⟩
  have hsz : s.size = l.length := by rw [hs, str_size]
  rw [← hs]
  have HS := hid hs
  clear hs
  obtain ⟨L, hL⟩ : ∃ L, L = l.length := ⟨_, rfl⟩
  rw [← hL] at hsz hl
  have HL := hid hL
  clear hL
  go_enter Tryz.func42, Tryz.ntmps42
  go_wp2
  go_loopw [3, 4, 5] (fun vo vw vi wr => ∃ n : Nat, Hid (n ≤ L + 1) ∧ vi = .int .i64 n ∧ Hid (WRel w l n vo vw wr)) (fun _ _ vi _ => 101 - (intOf vi).toNat)
  case atStart => exact ⟨0, Nat.zero_le _, rfl, rfl, World.ownsRow_nil w w.heap.size 9 1, Below.refl _ _⟩
  case round =>
    obtain ⟨n, hn, rfl, HR⟩ := hrel
    obtain ⟨o, x, hp⟩ : ∃ o x, wst l n = (o, x) := ⟨_, _, rfl⟩
    have hlen := wst_len l n
    rw [hp] at hlen
    have hrel := HR.out
    unfold WRel at hrel
    rw [hp] at hrel
    obtain ⟨rfl, hown, hb⟩ := hrel
    dsimp only at hown hlen
    by_cases hlt : n ≤ L
    · have hn1 := hid (show n + 1 ≤ L + 1 by omega)
      have hlenH := hid hlen
      have HO := hid hown
      have HB := hid hb
      have hsz2 := hb.size
      have HP := hid hp
      clear hown hb hp hlen
      have hxe := beq_str_empty x
      by_cases hnL : n = L
      · subst hnL
        have HC := hid (wst_succ l n 32 (by rw [List.getElem?_append_right (by rw [HL.out]; exact Nat.le_refl _)]; simp [HL.out]))
        by_cases hx : x = []
        · have hx2 := hid hx
          rw [decide_eq_true hx] at hxe
          obtain ⟨xs, hxs⟩ : ∃ xs, xs = str x := ⟨_, rfl⟩
          rw [← hxs] at hxe ⊢
          clear hx hxs
          go_wp2
          go_roundw
          case rel => exact ⟨n + 1, hn1.out, by go_num, rel_sp0 HP.out HC.out hx2.out HO.out HB.out⟩
          case measure => (first | (simp [intOf]; done) | (simp [intOf]; omega))
        · have hx2 := hid hx
          rw [decide_eq_false hx] at hxe
          obtain ⟨xs, hxs⟩ : ∃ xs, xs = str x := ⟨_, rfl⟩
          rw [← hxs] at hxe ⊢
          have hxsH := hid hxs
          clear hx hxs
          go_wp2_with (at_builtin; refine append_str rfl _ _ rfl w.heap.size _ _ _ xs HO.out hsz2 (by have := hlenH.out; have := hn.out; omega) rfl rfl ?_; intro v' w3 hown' hnx3 hsz3)
          go_roundw
          case rel => exact ⟨n + 1, hn1.out, by go_num, rel_sp1 HP.out HC.out hx2.out (by rw [← hxsH.out]; exact hown') (HB.out.trans hnx3)⟩
          case measure => (first | (simp [intOf]; done) | (simp [intOf]; omega))
      · have hnl : n < L := by omega
        have hnll : n < l.length := by rw [← HL.out]; exact hnl
        obtain ⟨c, hc⟩ : ∃ c, c = l[n]'hnll := ⟨_, rfl⟩
        have HC := hid (wst_succ l n c (by rw [List.getElem?_append_left hnll, List.getElem?_eq_getElem hnll, hc]))
        have hget : ∀ h : n < s.size, (s[n]'h) = c := fun h => by
          have e := HS.out
          subst e
          exact (str_get l n hnll _).trans hc.symm
        by_cases hc32 : c = 32
        · have hcn : (c.toNat : Int) = 32 := by rw [hc32]; rfl
          have HC := hid (show wst l (n + 1) = stepW (wst l n) 32 by rw [← hc32]; exact HC.out)
          clear hc32 hc
          by_cases hx : x = []
          · have hx2 := hid hx
            rw [decide_eq_true hx] at hxe
            obtain ⟨xs, hxs⟩ : ∃ xs, xs = str x := ⟨_, rfl⟩
            rw [← hxs] at hxe ⊢
            clear hx hxs
            go_wp2
            go_roundw
            case rel => exact ⟨n + 1, hn1.out, by go_num, rel_sp0 HP.out HC.out hx2.out HO.out HB.out⟩
            case measure => (first | (simp [intOf]; done) | (simp [intOf]; omega))
          · have hx2 := hid hx
            rw [decide_eq_false hx] at hxe
            obtain ⟨xs, hxs⟩ : ∃ xs, xs = str x := ⟨_, rfl⟩
            rw [← hxs] at hxe ⊢
            have hxsH := hid hxs
            clear hx hxs
            go_wp2_with (at_builtin; refine append_str rfl _ _ rfl w.heap.size _ _ _ xs HO.out hsz2 (by have := hlenH.out; have := hn.out; omega) rfl rfl ?_; intro v' w3 hown' hnx3 hsz3)
            go_roundw
            case rel => exact ⟨n + 1, hn1.out, by go_num, rel_sp1 HP.out HC.out hx2.out (by rw [← hxsH.out]; exact hown') (HB.out.trans hnx3)⟩
            case measure => (first | (simp [intOf]; done) | (simp [intOf]; omega))
        · have hcn : ((c.toNat : Int) == 32) = false := by
            rw [beq_eq_false_iff_ne]
            intro e
            apply hc32
            exact UInt8.toNat_inj.1 (by have : (32 : UInt8).toNat = 32 := rfl; omega)
          have hadd := fun W => run_string_add_sum (P := Tryz.prog) W (str x) (s.extract n (n + 1)) (by rw [str_size, ByteArray.size_extract]; have := hlenH.out; have := hn.out; omega)
          have hsn : str x ++ s.extract n (n + 1) = str (x ++ [c]) := by rw [HS.out, str_snoc x l n hnll, hc]
          rw [hsn] at hadd
          obtain ⟨xs, hxs⟩ : ∃ xs, xs = str x := ⟨_, rfl⟩
          obtain ⟨ys, hys⟩ : ∃ ys, ys = str (x ++ [c]) := ⟨_, rfl⟩
          rw [← hxs, ← hys] at hadd
          rw [← hxs] at hxe ⊢
          have hysH := hid hys
          have hccH := hid hc32
          clear hsn hxs hys hc32 hc hxe
          go_wp2
          go_roundw
          case rel => exact ⟨n + 1, hn1.out, by go_num, by rw [hysH.out]; exact rel_ch HP.out HC.out hccH.out HO.out HB.out⟩
          case measure => (first | (simp [intOf]; done) | (simp [intOf]; omega))
    · obtain rfl : n = L + 1 := by have := hn.out; omega
      go_wp2
      go_ret
      refine ⟨_, rfl, ?_, hb⟩
      have e : wordsL l = o := by unfold wordsL; rw [← HL.out, hp]
      rw [e]
      exact hown
end Go.Proofs.YtlhakbkdlgejpaaGreatDoor
