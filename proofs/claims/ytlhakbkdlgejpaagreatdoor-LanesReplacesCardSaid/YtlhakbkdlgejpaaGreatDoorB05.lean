/-
  SBase, SFam: merged (each text says what it holds where it lies in wip). No condition.
-/
import Derived.Test.YtlhakbkdlgejpaaGreatDoorB04
import Derived.Test.YtlhakbkdlgejpaaGreatDoorB03
import Derived.Deep.DeepCutAuto
import Derived.Deep.RegionHeld3
import Derived.Test.YtlhakbkdlgejpaaGreatDoorB02
set_option linter.unusedSimpArgs false
set_option linter.unusedVariables false
set_option maxRecDepth 100000
namespace Go.Proofs.YtlhakbkdlgejpaaGreatDoor.Sc
open Go.RowKit

/-- A value: its type, the halves, whether it is null. -/
def vv (t : Int) (lo hi : Nat) (nl : Bool) : Value := .agg #[.int .i64 t, .int .u64 lo, .int .u64 hi, .bool nl]

/-- Block g holds these cells. -/
def CA (g : Nat) (cs : Array Value) (T : TypeId) (W : World) : Prop := W.heap[g]? = some (.cells cs T (0, 0))
theorem CA.lt {g : Nat} {cs : Array Value} {T : TypeId} {W : World} (h : CA g cs T W) : g < W.heap.size := (Array.getElem?_eq_some_iff.1 h).1
theorem CA.new (w : World) (cs : Array Value) (T : TypeId) : CA w.heap.size cs T (w.alloc (.cells cs T)) := by
  show (w.heap.push _)[w.heap.size]? = _
  simp
theorem CA.call {g : Nat} {cs : Array Value} {T : TypeId} {W W' : World} (h : CA g cs T W) (hb : Below W.heap.size W W') : CA g cs T W' := by
  unfold CA at h ⊢
  rw [hb.block g (CA.lt h), h]
theorem CA.below {g B : Nat} {cs : Array Value} {T : TypeId} {W W' : World} (h : CA g cs T W) (hb : Below B W W') (hg : g < B) : CA g cs T W' := by
  unfold CA at h ⊢
  rw [hb.block g hg, h]
theorem CA.alloc {g : Nat} {cs : Array Value} {T : TypeId} {W : World} (h : CA g cs T W) (o : Obj) : CA g cs T (W.alloc o) := h.call ((Below.refl _ _).alloc (Nat.le_refl _) o)
theorem CA.drew {g : Nat} {cs : Array Value} {T : TypeId} {W : World} (h : CA g cs T W) : CA g cs T W.drew := h
theorem CA.at {g k : Nat} {cs : Array Value} {T : TypeId} {W : World} {v : Value} (h : CA g cs T W) (hk : cs[k]? = some v) : W.cell? ⟨g, k, none⟩ = some v := by
  unfold CA at h
  rw [World.cell?, h]
  simp [hk]
theorem CA.free {g : Nat} {cs : Array Value} {T : TypeId} {W : World} (h : CA g cs T W) (k : Nat) : W.frozen? ⟨g, k, none⟩ = false := by
  unfold CA at h
  rw [World.frozen?, h]
  simp
theorem CA.set {g k : Nat} {cs : Array Value} {T : TypeId} {W : World} (h : CA g cs T W) (v : Value) : CA g (cs.setIfInBounds k v) T (W.setCell ⟨g, k, none⟩ v) := by
  unfold CA at h ⊢
  rw [World.setCell, Array.getElem?_modify, if_pos rfl, h]
  rfl
theorem CA.far {g c o : Nat} {cs : Array Value} {T : TypeId} {W : World} (h : CA g cs T W) (hne : c ≠ g) (v : Value) : CA g cs T (W.setCell ⟨c, o, none⟩ v) := by
  unfold CA at h ⊢
  rw [World.setCell, Array.getElem?_modify, if_neg hne, h]

theorem below_new {W W' : World} {cs : Array Value} {T : TypeId} (hb : Below (W.alloc (.cells cs T)).heap.size (W.alloc (.cells cs T)) W') : CA W.heap.size cs T W' ∧ Below W.heap.size W W' :=
  ⟨(CA.new W cs T).call hb, ((Below.refl _ _).alloc (Nat.le_refl _) _).trans (hb.mono (by simp))⟩

theorem size_al (w : World) (o : Obj) : (w.alloc o).heap.size = w.heap.size + 1 := by simp
abbrev Av := Int × Nat × Nat × Bool
def avV (a : Av) : Value := vv a.1 a.2.1 a.2.2.1 a.2.2.2
/-- A slice of values. -/
def AR (w : World) (va : Value) (l : List Av) : Prop :=
  ∃ g cap, va = .slice (some ⟨g, 0, none⟩) l.length cap ∧ g < w.heap.size ∧ l.length ≤ cap ∧ ∀ (j : Nat) (a : Av), l[j]? = some a →
    w.cell? ⟨g, j * 4, none⟩ = some (.int .i64 a.1) ∧ w.cell? ⟨g, j * 4 + 1, none⟩ = some (.int .u64 (a.2.1 : Nat)) ∧ w.cell? ⟨g, j * 4 + 2, none⟩ = some (.int .u64 (a.2.2.1 : Nat)) ∧ w.cell? ⟨g, j * 4 + 3, none⟩ = some (.bool a.2.2.2)
theorem AR.call {w w' : World} {va : Value} {l : List Av} (h : AR w va l) (hb : Below w.heap.size w w') : AR w' va l := by
  obtain ⟨g, cap, e, hl, hc, ha⟩ := h
  refine ⟨g, cap, e, Nat.lt_of_lt_of_le hl hb.size, hc, fun j a hj => ?_⟩
  obtain ⟨h0, h1, h2, h3⟩ := ha j a hj
  exact ⟨by rw [hb.cell (p := ⟨g, j * 4, none⟩) hl, h0], by rw [hb.cell (p := ⟨g, j * 4 + 1, none⟩) hl, h1], by rw [hb.cell (p := ⟨g, j * 4 + 2, none⟩) hl, h2], by rw [hb.cell (p := ⟨g, j * 4 + 3, none⟩) hl, h3]⟩

def avc (a : Av) : List Value := [.int .i64 a.1, .int .u64 (a.2.1 : Nat), .int .u64 (a.2.2.1 : Nat), .bool a.2.2.2]
theorem info24 : (Tryz.prog.info? 24).map (fun i => (i.zero, i.size, i.bytes)) = some (some (.agg #[.int .i64 0, .int .u64 0, .int .u64 0, .bool false]), 4, 32) := by kernel_rfl
theorem cell_four_new (w : World) (x0 x1 x2 x3 : Value) (t : TypeId) : ∀ j u, [x0, x1, x2, x3][j]? = some u → (w.alloc (.cells #[x0, x1, x2, x3] t)).cell? ((⟨w.heap.size, 0, none⟩ : Addr).add j) = some u := by
  intro j u hj
  have h := CA.new w #[x0, x1, x2, x3] t
  have e : ((⟨w.heap.size, 0, none⟩ : Addr).add j) = ⟨w.heap.size, j, none⟩ := by (simp [Addr.add]; try (intro h; exact h.symm))
  rw [e]
  exact h.at (by rw [List.getElem?_toArray]; exact hj)
theorem append_val {w : World} {ops : Array Oper} {rest : List Oper} {o : Oper} {a : Act} {Q : Exit → Act → World → Prop} (hgd : o.guard = none) (s x : Operand)
    (ho : o.op = .call { callee := .builtin .append, args := #[s, x], argTypes := #[30, 30] }) (base : Nat) (v : Value) (n : Nat) (xs : List Value) (t lo hi : Int) (nl : Bool)
    (hown : w.ownsRow base 24 4 v n xs) (hbase : base ≤ w.heap.size) (hn : n + 1 ≤ 1000) (hs : a.eval s = v) (hx : a.eval x = .slice (some ⟨w.heap.size, 0, none⟩) 1 1)
    (h : ∀ v' w', w'.ownsRow base 24 4 v' (n + 1) (xs ++ [.int .i64 t, .int .u64 lo, .int .u64 hi, .bool nl]) → Below base w w' → base ≤ w'.heap.size → wpList Tryz.prog ops Q rest (a.put o.dst v') w') :
    wpList Tryz.prog ops Q (o :: rest) a (w.alloc (.cells #[.int .i64 t, .int .u64 lo, .int .u64 hi, .bool nl] 24)) := by
  obtain ⟨i0, hi0, hz0, hz1, hz2⟩ := info_parts info24
  have hb1 := (Below.refl base w).alloc hbase (.cells #[.int .i64 t, .int .u64 lo, .int .u64 hi, .bool nl] 24)
  refine wpList_append_own _ hgd s x 30 ho base 24 i0 _ 4 32 Tryz.underlying30 hi0 hz0 hz1 hz2 rfl (by decide) v n xs hs (hown.alloc _) ⟨w.heap.size, 0, none⟩ 1 1 [.int .i64 t, .int .u64 lo, .int .u64 hi, .bool nl] hx rfl (cell_four_new _ _ _ _ _ _)
    (fun u hu => by simp at hu; rcases hu with rfl | rfl | rfl | rfl <;> rfl) (by unfold maxLen; omega) (by omega) (by simp; omega) ?_
  intro v' w1 hown' hgrow _
  exact h v' w1 hown' (hb1.grown hgrow (by simp; omega) (fun k hk => (hown.lt k hk).1)) (by have := hgrow.size; simp at this; omega)
theorem AR.of1 {w : World} {base : Nat} {v : Value} {a : Av} (h : w.ownsRow base 24 4 v 1 (avc a)) : AR w v [a] := by
  have h0 := h
  rcases h.2 with ⟨_, h2⟩ | ⟨g, cap, cur, rfl, e2, e3, e4, _⟩
  · omega
  · refine ⟨g, cap, rfl, (Array.getElem?_eq_some_iff.1 e3).1, e4, fun j b hj => ?_⟩
    cases j with
    | zero =>
      obtain rfl : a = b := by simpa using hj
      exact ⟨h0.cellAt 0 (by decide), h0.cellAt 1 (by decide), h0.cellAt 2 (by decide), h0.cellAt 3 (by decide)⟩
    | succ j => simp at hj
theorem AR.of2 {w : World} {base : Nat} {v : Value} {a b : Av} (h : w.ownsRow base 24 4 v 2 (avc a ++ avc b)) : AR w v [a, b] := by
  have h0 := h
  rcases h.2 with ⟨_, h2⟩ | ⟨g, cap, cur, rfl, e2, e3, e4, _⟩
  · omega
  · refine ⟨g, cap, rfl, (Array.getElem?_eq_some_iff.1 e3).1, e4, fun j c hj => ?_⟩
    match j, hj with
    | 0, hj =>
      obtain rfl : a = c := by simpa using hj
      exact ⟨h0.cellAt 0 (by decide), h0.cellAt 1 (by decide), h0.cellAt 2 (by decide), h0.cellAt 3 (by decide)⟩
    | 1, hj =>
      obtain rfl : b = c := by simpa using hj
      exact ⟨h0.cellAt 4 (by decide), h0.cellAt 5 (by decide), h0.cellAt 6 (by decide), h0.cellAt 7 (by decide)⟩
    | j + 2, hj => simp at hj
theorem extract_str (l : List UInt8) (a n : Nat) : ((str l).extract a (a + n)).toList = (l.drop a).take n := by
  rw [ByteArray.toList_eq, ByteArray.data_extract]
  simp only [str]
  rw [List.extract_toArray]
  show (l.extract a (a + n)) = _
  rw [List.extract_eq_take_drop, Nat.add_sub_cancel_left]

theorem ext_list (l : List UInt8) (a b : Nat) (h : a ≤ b) : ((str l).extract a b).toList = (l.drop a).take (b - a) := by
  obtain ⟨n, rfl⟩ : ∃ n, b = a + n := ⟨b - a, by omega⟩
  rw [Nat.add_sub_cancel_left]
  exact extract_str l a n
theorem list_str (s : ByteArray) : str s.toList = s := by
  rw [ByteArray.toList_eq]; rfl
theorem ext_str (l : List UInt8) (a b : Nat) (h : a ≤ b) : (str l).extract a b = str ((l.drop a).take (b - a)) := by
  rw [← ext_list l a b h, list_str]

theorem cut_str (l : List UInt8) (m : Nat) : (str l).extract 0 m = str (l.take m) := by
  rw [ext_str l 0 m (Nat.zero_le _), List.drop_zero, Nat.sub_zero]

/-- Where a text stands among others. -/
def plL : List (List UInt8) → List UInt8 → Nat → Int
  | [], _, _ => -1
  | x :: t, s, k => if (x == s) = true then (k : Int) else plL t s (k + 1)
theorem pl_drop (L : List (List UInt8)) (s : List UInt8) : ∀ k, k < L.length → plL (L.drop k) s k = if (L.getD k [] == s) = true then (k : Int) else plL (L.drop (k + 1)) s (k + 1) := fun k h => by
  rw [List.drop_eq_getElem_cons h, plL]
  simp [List.getD_eq_getElem?_getD, List.getElem?_eq_getElem h]
theorem sc_getD {L : List (List UInt8)} {k : Nat} (h : k < L.length) : (sc L).toArray[k]? = some (.string (str (L.getD k []))) := by
  simp [sc, List.getElem?_eq_getElem h, List.getD_eq_getElem?_getD]

set_option maxHeartbeats 2000000 in
set_option maxRecDepth 100000 in
theorem index_says (v : List UInt8) (L : List (List UInt8)) (hL : L.length ≤ 30) (g n : Nat) (hn : n = L.length) (w : World) (hA : CA g (sc L).toArray 9 w) : Calls Tryz.prog 145 #[.string (str v), .slice (some ⟨g, 0, none⟩) n n] w fun e w' => e = .returned (.int .i64 (plL L v 0)) ∧ w = w' := by
  obtain ⟨s, hs⟩ : ∃ s, s = str v := ⟨_, rfl⟩
  have HS := hid hs
  have HA := hid hA
  have HP := hid (pl_drop L v)
  rw [← hs]
  have HR : Hid (plL L v 0 = plL (L.drop 0) v 0) := rfl
  generalize plL L v 0 = r at *
  rw [← hn] at hL
  have HN := hid hn
  clear hs hA hn
  go_enter Tryz.func145, Tryz.ntmps145
  go_wp2
  go_loop [5] (fun vi => ∃ k : Nat, k ≤ n ∧ vi = .int .i64 (k : Int) ∧ Hid (r = plL (L.drop k) v k)) (fun vi => n - (intOf vi).toNat)
  case atStart => exact ⟨0, Nat.zero_le _, rfl, HR⟩
  case round =>
    obtain ⟨k, hk, rfl, HK⟩ := hrel
    by_cases hlt : k < n
    · have hkl : k < L.length := by rw [← HN.out]; exact hlt
      have hc := HA.out.at (sc_getD hkl)
      have hp := HP.out k hkl
      obtain ⟨t, ht⟩ : ∃ t, t = str (L.getD k []) := ⟨_, rfl⟩
      rw [← ht] at hc
      have hq0 : (t.toList == s.toList) = (L.getD k [] == v) := by rw [ht, HS.out, str_list, str_list]
      cases hb : (L.getD k [] == v) with
      | true =>
        have hq : (t.toList == s.toList) = true := by rw [hq0, hb]
        have HE := hid (HK.out.trans (hp.trans (if_pos hb)))
        clear hb hq0 hp ht
        go_wp2
        go_ret
        exact ⟨ret_int HE.out.symm, rfl⟩
      | false =>
        have hq : (t.toList == s.toList) = false := by rw [hq0, hb]
        have HE := hid (HK.out.trans (hp.trans (if_neg (by rw [hb]; decide))))
        clear hb hq0 hp ht
        go_wp2
        go_round
        case rel => exact ⟨k + 1, hlt, by go_num, HE⟩
        case measure => simp [intOf]; omega
    · obtain rfl : k = n := by omega
      have HE : Hid (r = -1) := by have := HK.out; rw [List.drop_of_length_le (by rw [← HN.out]; exact Nat.le_refl _)] at this; exact this
      go_wp2
      go_ret
      exact ⟨ret_int HE.out.symm, rfl⟩
theorem place_at (v : List UInt8) (L : List (List UInt8)) (hL : L.length ≤ 30) (cs : Array Value) (hcs : cs = (sc L).toArray) (n : Nat) (hn : n = L.length) (k : Int) (hk : plL L v 0 = k) :
    ∀ (W : World), Calls Tryz.prog 145 #[.string (str v), .slice (some ⟨W.heap.size, 0, none⟩) n n] (W.alloc (.cells cs 9)) fun e w' => e = .returned (.int .i64 k) ∧ (W.alloc (.cells cs 9)) = w' := fun W => by
  subst hcs
  rw [← hk]
  exact index_says v L hL _ n hn _ (CA.new W _ 9)
end Go.Proofs.YtlhakbkdlgejpaaGreatDoor.Sc
namespace Go.Proofs.YtlhakbkdlgejpaaGreatDoor.Sc
open Go.RowKit

/-- All six tables of the program. -/
structure GlobF (w : World) : Prop where
  g : Glob w
  c6 : ∀ j, j < 7 → w.cell? ⟨2, j, none⟩ = some (.int .i64 (glob6.getD j 0))
theorem GlobF.next {w w' : World} (h : GlobF w) (hb : Below w.heap.size w w') : GlobF w' where
  g := h.g.next hb
  c6 j hj := by rw [hb.cell (p := ⟨2, j, none⟩) (Nat.lt_of_lt_of_le (show 2 < 6 by decide) h.g.size), h.c6 j hj]
/-- A call's answer, in any memory. -/
def Ans (f : FuncId) (args : Array Value) (r : Value) : Prop := ∀ W : World, Calls Tryz.prog f args W fun e w' => e = .returned r ∧ Below W.heap.size W w'
/-- The same, where the tables lie in memory. -/
def AnsG (f : FuncId) (args : Array Value) (r : Value) : Prop := ∀ W : World, GlobF W → Calls Tryz.prog f args W fun e w' => e = .returned r ∧ Below W.heap.size W w'
theorem Ans.g {f : FuncId} {args : Array Value} {r : Value} (h : Ans f args r) : AnsG f args r := fun W _ => h W
theorem bit_says (b : Bool) : Ans 84 #[.bool b] (.int .u64 ((if b then 1 else 0 : Nat) : Int)) := fun w => by
  cases b
  all_goals (go_enter Tryz.func84, Tryz.ntmps84; go_wp2; go_ret; exact ⟨rfl, Below.refl _ _⟩)
/-- A number cut to its type. -/
def cutT (t : Int) (n : Nat) : Nat := if t = 127 ∨ t = 125 then n % 4294967296 else n
theorem cut_says (t : Int) (n : Nat) (w : World) : Calls Tryz.prog 49 #[.int .i64 t, .int .u64 n] w fun e w' => e = .returned (.int .u64 (cutT t n : Nat)) ∧ w = w' := by
  have hw : IntKind.u32.wrap (n : Int) = ((n % 4294967296 : Nat) : Int) := by rw [IntKind.wrap_u32]; omega
  have hw2 : IntKind.u64.wrap ((n % 4294967296 : Nat) : Int) = ((n % 4294967296 : Nat) : Int) := by rw [IntKind.wrap_u64]; omega
  by_cases h1 : t = 127
  · have hc : cutT t n = n % 4294967296 := by unfold cutT; rw [if_pos (.inl h1)]
    rw [hc]
    generalize n % 4294967296 = m at *
    have d : (t == 127) = true := by simpa using h1
    clear h1 hc
    go_enter Tryz.func49, Tryz.ntmps49
    go_wp2
    go_ret
    exact ⟨rfl, rfl⟩
  · have d : (t == 127) = false := by simpa using h1
    by_cases h2 : t = 125
    · have hc : cutT t n = n % 4294967296 := by unfold cutT; rw [if_pos (.inr h2)]
      rw [hc]
      generalize n % 4294967296 = m at *
      have d2 : (t == 125) = true := by simpa using h2
      clear h1 h2 hc
      go_enter Tryz.func49, Tryz.ntmps49
      go_wp2
      go_ret
      exact ⟨rfl, rfl⟩
    · have hc : cutT t n = n := by unfold cutT; rw [if_neg (by omega)]
      rw [hc]
      have d2 : (t == 125) = false := by simpa using h2
      clear h1 h2 hc hw hw2
      go_enter Tryz.func49, Tryz.ntmps49
      go_wp2
      go_ret
      exact ⟨rfl, rfl⟩
theorem variant_says (p : Int) (h0 : 0 ≤ p) (h1 : p < 4) : Ans 140 #[.int .i64 p] (.tuple #[.int .i64 (if p < 2 then 32 else 64), .bool (p == 0 || p == 2)]) := fun w => by
  rcases (show p = 0 ∨ p = 1 ∨ p = 2 ∨ p = 3 by omega) with rfl | rfl | rfl | rfl
  all_goals (go_enter Tryz.func140, Tryz.ntmps140; go_wp2; go_ret2; exact ⟨rfl, Below.refl _ _⟩)
theorem truncated_says (tb p : Int) (sat : Bool) (a : Nat) (h0 : 0 ≤ p) (h1 : p < 4) (r r2 : Int) (HC : Ans 141 #[.int .i64 (if p < 2 then 32 else 64), .int .i64 tb, .bool (p == 0 || p == 2), .bool sat, .int .u64 a] (.tuple #[.int .u64 r, .int .i64 r2])) :
    Ans 88 #[.int .i64 tb, .int .i64 p, .bool sat, .int .u64 a] (.tuple #[.int .u64 r, .int .i64 r2]) := fun w => by
  have HV := fun W => hid (variant_says p h0 h1 W)
  have HCC := fun W => hid (HC W)
  generalize (if p < 2 then 32 else 64 : Int) = x at *
  generalize (p == 0 || p == 2) = y at *
  clear HC h0 h1
  go_enter Tryz.func88, Tryz.ntmps88
  go_wp2_with (first
    | (go_at_call 140; refine (HV _).out.mono ?_; rintro e w1 ⟨rfl, hb1⟩; have HB1 := hid hb1; clear hb1)
    | (go_at_call 141; refine (HCC _).out.mono ?_; rintro e w2 ⟨rfl, hb2⟩; have HB2 := hid (HB1.out.trans (hb2.mono HB1.out.size)); clear hb2))
  go_ret2
  exact ⟨rfl, HB2.out⟩
theorem floated_says (tb p : Int) (a : Nat) (h0 : 0 ≤ p) (h1 : p < 4) (r r2 : Int) (HC : Ans 172 #[.int .i64 (if p < 2 then 32 else 64), .int .i64 tb, .bool (p == 0 || p == 2), .int .u64 a] (.tuple #[.int .u64 r, .int .i64 r2])) :
    Ans 132 #[.int .i64 tb, .int .i64 p, .int .u64 a] (.tuple #[.int .u64 r, .int .i64 r2]) := fun w => by
  have HV := fun W => hid (variant_says p h0 h1 W)
  have HCC := fun W => hid (HC W)
  generalize (if p < 2 then 32 else 64 : Int) = x at *
  generalize (p == 0 || p == 2) = y at *
  clear HC h0 h1
  go_enter Tryz.func132, Tryz.ntmps132
  go_wp2_with (first
    | (go_at_call 140; refine (HV _).out.mono ?_; rintro e w1 ⟨rfl, hb1⟩; have HB1 := hid hb1; clear hb1)
    | (go_at_call 172; refine (HCC _).out.mono ?_; rintro e w2 ⟨rfl, hb2⟩; have HB2 := hid (HB1.out.trans (hb2.mono HB1.out.size)); clear hb2))
  go_ret2
  exact ⟨rfl, HB2.out⟩
set_option maxHeartbeats 1000000 in
set_option maxRecDepth 100000 in
theorem cmp_ez32 (op : Int) (h0 : 69 ≤ op) (h1 : op < 70) (a b : Nat) (r : Bool) (r2 : Int) (HC : Ans 107 #[.int .i64 32, .int .i64 1, .int .u64 a, .int .u64 0] (.tuple #[.bool r, .int .i64 r2])) : Ans 83 #[.int .i64 op, .int .u64 a, .int .u64 b] (.tuple #[.bool r, .int .i64 r2]) := fun w => by
  have HCC := fun W => hid (HC W)
  have d0 : (op == 69) = true := by simp; omega
  clear HC h0 h1
  go_enter Tryz.func83, Tryz.ntmps83
  go_wp2_with (first
    | (go_at_call 107; (with_reducible refine (HCC _).out.mono ?_); rintro e w1 ⟨rfl, hb1⟩; have HB1 := hid hb1; clear hb1))
  go_ret2
  exact ⟨rfl, HB1.out⟩
set_option maxHeartbeats 1000000 in
set_option maxRecDepth 100000 in
theorem cmp_i32 (op : Int) (q : Int) (hq : q = op - 69) (h0 : 70 ≤ op) (h1 : op < 80) (a b : Nat) (r : Bool) (r2 : Int) (HC : Ans 107 #[.int .i64 32, .int .i64 q, .int .u64 a, .int .u64 b] (.tuple #[.bool r, .int .i64 r2])) : Ans 83 #[.int .i64 op, .int .u64 a, .int .u64 b] (.tuple #[.bool r, .int .i64 r2]) := fun w => by
  have HCC := fun W => hid (HC W)
  have d0 : (op == 69) = false := by simp; omega
  have d1 : decide (op < 80) = true := by simp; omega
  obtain ⟨p, hp⟩ : ∃ p, p = 1 + op := ⟨_, rfl⟩
  have e1 : wrap64 (1 + op) = p := by unfold wrap64; omega
  have e2 : wrap64 (p - 70) = q := by unfold wrap64; omega
  clear HC h0 h1 hq hp
  go_enter Tryz.func83, Tryz.ntmps83
  go_wp2_with (first
    | (go_at_call 107; (with_reducible refine (HCC _).out.mono ?_); rintro e w1 ⟨rfl, hb1⟩; have HB1 := hid hb1; clear hb1))
  go_ret2
  exact ⟨rfl, HB1.out⟩
set_option maxHeartbeats 1000000 in
set_option maxRecDepth 100000 in
theorem cmp_ez64 (op : Int) (h0 : 80 ≤ op) (h1 : op < 81) (a b : Nat) (r : Bool) (r2 : Int) (HC : Ans 107 #[.int .i64 64, .int .i64 1, .int .u64 a, .int .u64 0] (.tuple #[.bool r, .int .i64 r2])) : Ans 83 #[.int .i64 op, .int .u64 a, .int .u64 b] (.tuple #[.bool r, .int .i64 r2]) := fun w => by
  have HCC := fun W => hid (HC W)
  have d0 : (op == 69) = false := by simp; omega
  have d1 : decide (op < 80) = false := by simp; omega
  have d2 : (op == 80) = true := by simp; omega
  clear HC h0 h1
  go_enter Tryz.func83, Tryz.ntmps83
  go_wp2_with (first
    | (go_at_call 107; (with_reducible refine (HCC _).out.mono ?_); rintro e w1 ⟨rfl, hb1⟩; have HB1 := hid hb1; clear hb1))
  go_ret2
  exact ⟨rfl, HB1.out⟩
set_option maxHeartbeats 1000000 in
set_option maxRecDepth 100000 in
theorem cmp_i64 (op : Int) (q : Int) (hq : q = op - 80) (h0 : 81 ≤ op) (h1 : op < 91) (a b : Nat) (r : Bool) (r2 : Int) (HC : Ans 107 #[.int .i64 64, .int .i64 q, .int .u64 a, .int .u64 b] (.tuple #[.bool r, .int .i64 r2])) : Ans 83 #[.int .i64 op, .int .u64 a, .int .u64 b] (.tuple #[.bool r, .int .i64 r2]) := fun w => by
  have HCC := fun W => hid (HC W)
  have d0 : (op == 69) = false := by simp; omega
  have d1 : decide (op < 80) = false := by simp; omega
  have d2 : (op == 80) = false := by simp; omega
  have d3 : decide (op < 91) = true := by simp; omega
  obtain ⟨p, hp⟩ : ∃ p, p = 1 + op := ⟨_, rfl⟩
  have e1 : wrap64 (1 + op) = p := by unfold wrap64; omega
  have e2 : wrap64 (p - 81) = q := by unfold wrap64; omega
  clear HC h0 h1 hq hp
  go_enter Tryz.func83, Tryz.ntmps83
  go_wp2_with (first
    | (go_at_call 107; (with_reducible refine (HCC _).out.mono ?_); rintro e w1 ⟨rfl, hb1⟩; have HB1 := hid hb1; clear hb1))
  go_ret2
  exact ⟨rfl, HB1.out⟩
set_option maxHeartbeats 1000000 in
set_option maxRecDepth 100000 in
theorem cmp_f32 (op : Int) (q : Int) (hq : q = op - 90) (h0 : 91 ≤ op) (h1 : op < 97) (a b : Nat) (r : Bool) (r2 : Int) (HC : Ans 110 #[.int .i64 32, .int .i64 q, .int .u64 a, .int .u64 b] (.tuple #[.bool r, .int .i64 r2])) : Ans 83 #[.int .i64 op, .int .u64 a, .int .u64 b] (.tuple #[.bool r, .int .i64 r2]) := fun w => by
  have HCC := fun W => hid (HC W)
  have d0 : (op == 69) = false := by simp; omega
  have d1 : decide (op < 80) = false := by simp; omega
  have d2 : (op == 80) = false := by simp; omega
  have d3 : decide (op < 91) = false := by simp; omega
  have d4 : decide (op < 97) = true := by simp; omega
  obtain ⟨p, hp⟩ : ∃ p, p = 1 + op := ⟨_, rfl⟩
  have e1 : wrap64 (1 + op) = p := by unfold wrap64; omega
  have e2 : wrap64 (p - 91) = q := by unfold wrap64; omega
  clear HC h0 h1 hq hp
  go_enter Tryz.func83, Tryz.ntmps83
  go_wp2_with (first
    | (go_at_call 110; (with_reducible refine (HCC _).out.mono ?_); rintro e w1 ⟨rfl, hb1⟩; have HB1 := hid hb1; clear hb1))
  go_ret2
  exact ⟨rfl, HB1.out⟩
set_option maxHeartbeats 1000000 in
set_option maxRecDepth 100000 in
theorem cmp_f64 (op : Int) (q : Int) (hq : q = op - 96) (h0 : 97 ≤ op) (h1 : op < 103) (a b : Nat) (r : Bool) (r2 : Int) (HC : Ans 110 #[.int .i64 64, .int .i64 q, .int .u64 a, .int .u64 b] (.tuple #[.bool r, .int .i64 r2])) : Ans 83 #[.int .i64 op, .int .u64 a, .int .u64 b] (.tuple #[.bool r, .int .i64 r2]) := fun w => by
  have HCC := fun W => hid (HC W)
  have d0 : (op == 69) = false := by simp; omega
  have d1 : decide (op < 80) = false := by simp; omega
  have d2 : (op == 80) = false := by simp; omega
  have d3 : decide (op < 91) = false := by simp; omega
  have d4 : decide (op < 97) = false := by simp; omega
  obtain ⟨p, hp⟩ : ∃ p, p = 1 + op := ⟨_, rfl⟩
  have e1 : wrap64 (1 + op) = p := by unfold wrap64; omega
  have e2 : wrap64 (p - 97) = q := by unfold wrap64; omega
  clear HC h0 h1 hq hp
  go_enter Tryz.func83, Tryz.ntmps83
  go_wp2_with (first
    | (go_at_call 110; (with_reducible refine (HCC _).out.mono ?_); rintro e w1 ⟨rfl, hb1⟩; have HB1 := hid hb1; clear hb1))
  go_ret2
  exact ⟨rfl, HB1.out⟩
set_option maxHeartbeats 1000000 in
set_option maxRecDepth 100000 in
theorem com_u32 (op : Int) (q : Int) (hq : q = op - 102) (h0 : 103 ≤ op) (h1 : op < 106) (a b : Nat) (r : Int) (r2 : Int) (HC : Ans 87 #[.int .i64 32, .int .i64 q, .int .u64 a] (.tuple #[.int .u64 r, .int .i64 r2])) : Ans 85 #[.int .i64 op, .int .u64 a, .int .u64 b] (.tuple #[.int .u64 r, .int .i64 r2]) := fun w => by
  have HCC := fun W => hid (HC W)
  have d0 : decide (op < 106) = true := by simp; omega
  obtain ⟨p, hp⟩ : ∃ p, p = 1 + op := ⟨_, rfl⟩
  have e1 : wrap64 (1 + op) = p := by unfold wrap64; omega
  have e2 : wrap64 (p - 103) = q := by unfold wrap64; omega
  clear HC h0 h1 hq hp
  go_enter Tryz.func85, Tryz.ntmps85
  go_wp2_with (first
    | (go_at_call 87; (with_reducible refine (HCC _).out.mono ?_); rintro e w1 ⟨rfl, hb1⟩; have HB1 := hid hb1; clear hb1))
  go_ret2
  exact ⟨rfl, HB1.out⟩
set_option maxHeartbeats 1000000 in
set_option maxRecDepth 100000 in
theorem com_b32 (op : Int) (q : Int) (hq : q = op - 105) (h0 : 106 ≤ op) (h1 : op < 121) (a b : Nat) (r : Int) (r2 : Int) (HC : Ans 108 #[.int .i64 32, .int .i64 q, .int .u64 a, .int .u64 b] (.tuple #[.int .u64 r, .int .i64 r2])) : Ans 85 #[.int .i64 op, .int .u64 a, .int .u64 b] (.tuple #[.int .u64 r, .int .i64 r2]) := fun w => by
  have HCC := fun W => hid (HC W)
  have d0 : decide (op < 106) = false := by simp; omega
  have d1 : decide (op < 121) = true := by simp; omega
  obtain ⟨p, hp⟩ : ∃ p, p = 1 + op := ⟨_, rfl⟩
  have e1 : wrap64 (1 + op) = p := by unfold wrap64; omega
  have e2 : wrap64 (p - 106) = q := by unfold wrap64; omega
  clear HC h0 h1 hq hp
  go_enter Tryz.func85, Tryz.ntmps85
  go_wp2_with (first
    | (go_at_call 108; (with_reducible refine (HCC _).out.mono ?_); rintro e w1 ⟨rfl, hb1⟩; have HB1 := hid hb1; clear hb1))
  go_ret2
  exact ⟨rfl, HB1.out⟩
set_option maxHeartbeats 1000000 in
set_option maxRecDepth 100000 in
theorem com_u64 (op : Int) (q : Int) (hq : q = op - 120) (h0 : 121 ≤ op) (h1 : op < 124) (a b : Nat) (r : Int) (r2 : Int) (HC : Ans 87 #[.int .i64 64, .int .i64 q, .int .u64 a] (.tuple #[.int .u64 r, .int .i64 r2])) : Ans 85 #[.int .i64 op, .int .u64 a, .int .u64 b] (.tuple #[.int .u64 r, .int .i64 r2]) := fun w => by
  have HCC := fun W => hid (HC W)
  have d0 : decide (op < 106) = false := by simp; omega
  have d1 : decide (op < 121) = false := by simp; omega
  have d2 : decide (op < 124) = true := by simp; omega
  obtain ⟨p, hp⟩ : ∃ p, p = 1 + op := ⟨_, rfl⟩
  have e1 : wrap64 (1 + op) = p := by unfold wrap64; omega
  have e2 : wrap64 (p - 121) = q := by unfold wrap64; omega
  clear HC h0 h1 hq hp
  go_enter Tryz.func85, Tryz.ntmps85
  go_wp2_with (first
    | (go_at_call 87; (with_reducible refine (HCC _).out.mono ?_); rintro e w1 ⟨rfl, hb1⟩; have HB1 := hid hb1; clear hb1))
  go_ret2
  exact ⟨rfl, HB1.out⟩
set_option maxHeartbeats 1000000 in
set_option maxRecDepth 100000 in
theorem com_b64 (op : Int) (q : Int) (hq : q = op - 123) (h0 : 124 ≤ op) (h1 : op < 139) (a b : Nat) (r : Int) (r2 : Int) (HC : Ans 108 #[.int .i64 64, .int .i64 q, .int .u64 a, .int .u64 b] (.tuple #[.int .u64 r, .int .i64 r2])) : Ans 85 #[.int .i64 op, .int .u64 a, .int .u64 b] (.tuple #[.int .u64 r, .int .i64 r2]) := fun w => by
  have HCC := fun W => hid (HC W)
  have d0 : decide (op < 106) = false := by simp; omega
  have d1 : decide (op < 121) = false := by simp; omega
  have d2 : decide (op < 124) = false := by simp; omega
  have d3 : decide (op < 139) = true := by simp; omega
  obtain ⟨p, hp⟩ : ∃ p, p = 1 + op := ⟨_, rfl⟩
  have e1 : wrap64 (1 + op) = p := by unfold wrap64; omega
  have e2 : wrap64 (p - 124) = q := by unfold wrap64; omega
  clear HC h0 h1 hq hp
  go_enter Tryz.func85, Tryz.ntmps85
  go_wp2_with (first
    | (go_at_call 108; (with_reducible refine (HCC _).out.mono ?_); rintro e w1 ⟨rfl, hb1⟩; have HB1 := hid hb1; clear hb1))
  go_ret2
  exact ⟨rfl, HB1.out⟩
set_option maxHeartbeats 1000000 in
set_option maxRecDepth 100000 in
theorem com_g32 (op : Int) (q : Int) (hq : q = op - 145) (h0 : 146 ≤ op) (h1 : op < 153) (a b : Nat) (r : Int) (r2 : Int) (HC : Ans 111 #[.int .i64 32, .int .i64 q, .int .u64 a, .int .u64 b] (.tuple #[.int .u64 r, .int .i64 r2])) : Ans 85 #[.int .i64 op, .int .u64 a, .int .u64 b] (.tuple #[.int .u64 r, .int .i64 r2]) := fun w => by
  have HCC := fun W => hid (HC W)
  have d0 : decide (op < 106) = false := by simp; omega
  have d1 : decide (op < 121) = false := by simp; omega
  have d2 : decide (op < 124) = false := by simp; omega
  have d3 : decide (op < 139) = false := by simp; omega
  have d4 : decide (op < 146) = false := by simp; omega
  have d5 : decide (op < 153) = true := by simp; omega
  obtain ⟨p, hp⟩ : ∃ p, p = 1 + op := ⟨_, rfl⟩
  have e1 : wrap64 (1 + op) = p := by unfold wrap64; omega
  have e2 : wrap64 (p - 146) = q := by unfold wrap64; omega
  clear HC h0 h1 hq hp
  go_enter Tryz.func85, Tryz.ntmps85
  go_wp2_with (first
    | (go_at_call 111; (with_reducible refine (HCC _).out.mono ?_); rintro e w1 ⟨rfl, hb1⟩; have HB1 := hid hb1; clear hb1))
  go_ret2
  exact ⟨rfl, HB1.out⟩
set_option maxHeartbeats 1000000 in
set_option maxRecDepth 100000 in
theorem com_g64 (op : Int) (q : Int) (hq : q = op - 159) (h0 : 160 ≤ op) (h1 : op < 167) (a b : Nat) (r : Int) (r2 : Int) (HC : Ans 111 #[.int .i64 64, .int .i64 q, .int .u64 a, .int .u64 b] (.tuple #[.int .u64 r, .int .i64 r2])) : Ans 85 #[.int .i64 op, .int .u64 a, .int .u64 b] (.tuple #[.int .u64 r, .int .i64 r2]) := fun w => by
  have HCC := fun W => hid (HC W)
  have d0 : decide (op < 106) = false := by simp; omega
  have d1 : decide (op < 121) = false := by simp; omega
  have d2 : decide (op < 124) = false := by simp; omega
  have d3 : decide (op < 139) = false := by simp; omega
  have d4 : decide (op < 146) = false := by simp; omega
  have d5 : decide (op < 153) = false := by simp; omega
  have d6 : decide (op < 160) = false := by simp; omega
  obtain ⟨p, hp⟩ : ∃ p, p = 1 + op := ⟨_, rfl⟩
  have e1 : wrap64 (1 + op) = p := by unfold wrap64; omega
  have e2 : wrap64 (p - 160) = q := by unfold wrap64; omega
  clear HC h0 h1 hq hp
  go_enter Tryz.func85, Tryz.ntmps85
  go_wp2_with (first
    | (go_at_call 111; (with_reducible refine (HCC _).out.mono ?_); rintro e w1 ⟨rfl, hb1⟩; have HB1 := hid hb1; clear hb1))
  go_ret2
  exact ⟨rfl, HB1.out⟩
set_option maxHeartbeats 1000000 in
set_option maxRecDepth 100000 in
theorem res_cmp (op : Int) (h0 : 69 ≤ op) (h1 : op < 103) (a b : Nat) (r : Bool) (r2 : Int) (HC : Ans 83 #[.int .i64 op, .int .u64 a, .int .u64 b] (.tuple #[.bool r, .int .i64 r2])) : Ans 50 #[.int .i64 op, .int .u64 a, .int .u64 b] (.tuple #[.int .u64 ((if r then 1 else 0 : Nat) : Int), .int .i64 r2]) := fun w => by
  have HCC := fun W => hid (HC W)
  have HBIT := fun W => hid (bit_says r W)
  generalize ((if r then 1 else 0 : Nat) : Int) = z at *
  have d0 : decide (op < 103) = true := by simp; omega
  clear HC h0 h1
  go_enter Tryz.func50, Tryz.ntmps50
  go_wp2_with (first
    | (go_at_call 83; (with_reducible refine (HCC _).out.mono ?_); rintro e w1 ⟨rfl, hb1⟩; have HB1 := hid hb1; clear hb1)
    | (go_at_call 84; refine (HBIT _).out.mono ?_; rintro e w2 ⟨rfl, hb2⟩; have HB2 := hid (HB1.out.trans (hb2.mono HB1.out.size)); clear hb2))
  go_ret2
  exact ⟨rfl, HB2.out⟩
set_option maxHeartbeats 1000000 in
set_option maxRecDepth 100000 in
theorem res_com (op : Int) (h0 : 103 ≤ op) (h1 : op < 167) (a b : Nat) (r : Int) (r2 : Int) (HC : Ans 85 #[.int .i64 op, .int .u64 a, .int .u64 b] (.tuple #[.int .u64 r, .int .i64 r2])) : Ans 50 #[.int .i64 op, .int .u64 a, .int .u64 b] (.tuple #[.int .u64 r, .int .i64 r2]) := fun w => by
  have HCC := fun W => hid (HC W)
  have d0 : decide (op < 103) = false := by simp; omega
  have d1 : decide (op < 167) = true := by simp; omega
  clear HC h0 h1
  go_enter Tryz.func50, Tryz.ntmps50
  go_wp2_with (first
    | (go_at_call 85; (with_reducible refine (HCC _).out.mono ?_); rintro e w1 ⟨rfl, hb1⟩; have HB1 := hid hb1; clear hb1))
  go_ret2
  exact ⟨rfl, HB1.out⟩
set_option maxHeartbeats 1000000 in
set_option maxRecDepth 100000 in
theorem res_comG (op : Int) (h0 : 103 ≤ op) (h1 : op < 167) (a b : Nat) (r : Int) (r2 : Int) (HC : AnsG 85 #[.int .i64 op, .int .u64 a, .int .u64 b] (.tuple #[.int .u64 r, .int .i64 r2])) : AnsG 50 #[.int .i64 op, .int .u64 a, .int .u64 b] (.tuple #[.int .u64 r, .int .i64 r2]) := fun w hg => by
  have HCC := fun W (h : GlobF W) => hid (HC W h)
  have HG := hid hg
  have d0 : decide (op < 103) = false := by simp; omega
  have d1 : decide (op < 167) = true := by simp; omega
  clear HC h0 h1 hg
  go_enter Tryz.func50, Tryz.ntmps50
  go_wp2_with (first
    | (go_at_call 85; (with_reducible refine (HCC _ HG.out).out.mono ?_); rintro e w1 ⟨rfl, hb1⟩; have HB1 := hid hb1; clear hb1))
  go_ret2
  exact ⟨rfl, HB1.out⟩
set_option maxHeartbeats 1000000 in
set_option maxRecDepth 100000 in
theorem res_con (op : Int) (h0 : 167 ≤ op) (h1 : op < 192) (a b : Nat) (r : Int) (r2 : Int) (HC : Ans 86 #[.int .i64 op, .int .u64 a] (.tuple #[.int .u64 r, .int .i64 r2])) : Ans 50 #[.int .i64 op, .int .u64 a, .int .u64 b] (.tuple #[.int .u64 r, .int .i64 r2]) := fun w => by
  have HCC := fun W => hid (HC W)
  have d0 : decide (op < 103) = false := by simp; omega
  have d1 : decide (op < 167) = false := by simp; omega
  have d2 : decide (op < 192) = true := by simp; omega
  clear HC h0 h1
  go_enter Tryz.func50, Tryz.ntmps50
  go_wp2_with (first
    | (go_at_call 86; (with_reducible refine (HCC _).out.mono ?_); rintro e w1 ⟨rfl, hb1⟩; have HB1 := hid hb1; clear hb1))
  go_ret2
  exact ⟨rfl, HB1.out⟩
set_option maxHeartbeats 1000000 in
set_option maxRecDepth 100000 in
theorem res_x32 (op : Int) (q : Int) (hq : q = op - 188) (h0 : 192 ≤ op) (h1 : op < 194) (a b : Nat) (r : Int) (r2 : Int) (HC : Ans 87 #[.int .i64 32, .int .i64 q, .int .u64 a] (.tuple #[.int .u64 r, .int .i64 r2])) : Ans 50 #[.int .i64 op, .int .u64 a, .int .u64 b] (.tuple #[.int .u64 r, .int .i64 r2]) := fun w => by
  have HCC := fun W => hid (HC W)
  have d0 : decide (op < 103) = false := by simp; omega
  have d1 : decide (op < 167) = false := by simp; omega
  have d2 : decide (op < 192) = false := by simp; omega
  have d3 : decide (op < 194) = true := by simp; omega
  obtain ⟨p, hp⟩ : ∃ p, p = 4 + op := ⟨_, rfl⟩
  have e1 : wrap64 (4 + op) = p := by unfold wrap64; omega
  have e2 : wrap64 (p - 192) = q := by unfold wrap64; omega
  clear HC h0 h1 hq hp
  go_enter Tryz.func50, Tryz.ntmps50
  go_wp2_with (first
    | (go_at_call 87; (with_reducible refine (HCC _).out.mono ?_); rintro e w1 ⟨rfl, hb1⟩; have HB1 := hid hb1; clear hb1))
  go_ret2
  exact ⟨rfl, HB1.out⟩
set_option maxHeartbeats 1000000 in
set_option maxRecDepth 100000 in
theorem res_x64 (op : Int) (q : Int) (hq : q = op - 190) (h0 : 194 ≤ op) (h1 : op < 197) (a b : Nat) (r : Int) (r2 : Int) (HC : Ans 87 #[.int .i64 64, .int .i64 q, .int .u64 a] (.tuple #[.int .u64 r, .int .i64 r2])) : Ans 50 #[.int .i64 op, .int .u64 a, .int .u64 b] (.tuple #[.int .u64 r, .int .i64 r2]) := fun w => by
  have HCC := fun W => hid (HC W)
  have d0 : decide (op < 103) = false := by simp; omega
  have d1 : decide (op < 167) = false := by simp; omega
  have d2 : decide (op < 192) = false := by simp; omega
  have d3 : decide (op < 194) = false := by simp; omega
  have d4 : decide (op ≤ 196) = true := by simp; omega
  obtain ⟨p, hp⟩ : ∃ p, p = 4 + op := ⟨_, rfl⟩
  have e1 : wrap64 (4 + op) = p := by unfold wrap64; omega
  have e2 : wrap64 (p - 194) = q := by unfold wrap64; omega
  clear HC h0 h1 hq hp
  go_enter Tryz.func50, Tryz.ntmps50
  go_wp2_with (first
    | (go_at_call 87; (with_reducible refine (HCC _).out.mono ?_); rintro e w1 ⟨rfl, hb1⟩; have HB1 := hid hb1; clear hb1))
  go_ret2
  exact ⟨rfl, HB1.out⟩
set_option maxHeartbeats 1000000 in
set_option maxRecDepth 100000 in
theorem res_s32 (op : Int) (q : Int) (hq : q = op - 64512) (h0 : 64512 ≤ op) (h1 : op < 64516) (a b : Nat) (r : Int) (r2 : Int) (HC : Ans 88 #[.int .i64 32, .int .i64 q, .bool true, .int .u64 a] (.tuple #[.int .u64 r, .int .i64 r2])) : Ans 50 #[.int .i64 op, .int .u64 a, .int .u64 b] (.tuple #[.int .u64 r, .int .i64 r2]) := fun w => by
  have HCC := fun W => hid (HC W)
  have d0 : decide (op < 103) = false := by simp; omega
  have d1 : decide (op < 167) = false := by simp; omega
  have d2 : decide (op < 192) = false := by simp; omega
  have d3 : decide (op < 194) = false := by simp; omega
  have d4 : decide (op ≤ 196) = false := by simp; omega
  have d5 : decide (op < 64516) = true := by simp; omega
  have e2 : wrap64 (op - 64512) = q := by unfold wrap64; omega
  clear HC h0 h1 hq
  go_enter Tryz.func50, Tryz.ntmps50
  go_wp2_with (first
    | (go_at_call 88; (with_reducible refine (HCC _).out.mono ?_); rintro e w1 ⟨rfl, hb1⟩; have HB1 := hid hb1; clear hb1))
  go_ret2
  exact ⟨rfl, HB1.out⟩
set_option maxHeartbeats 1000000 in
set_option maxRecDepth 100000 in
theorem res_s64 (op : Int) (q : Int) (hq : q = op - 64516) (h0 : 64516 ≤ op) (h1 : op < 64520) (a b : Nat) (r : Int) (r2 : Int) (HC : Ans 88 #[.int .i64 64, .int .i64 q, .bool true, .int .u64 a] (.tuple #[.int .u64 r, .int .i64 r2])) : Ans 50 #[.int .i64 op, .int .u64 a, .int .u64 b] (.tuple #[.int .u64 r, .int .i64 r2]) := fun w => by
  have HCC := fun W => hid (HC W)
  have d0 : decide (op < 103) = false := by simp; omega
  have d1 : decide (op < 167) = false := by simp; omega
  have d2 : decide (op < 192) = false := by simp; omega
  have d3 : decide (op < 194) = false := by simp; omega
  have d4 : decide (op ≤ 196) = false := by simp; omega
  have d5 : decide (op < 64516) = false := by simp; omega
  have e2 : wrap64 (op - 64516) = q := by unfold wrap64; omega
  clear HC h0 h1 hq
  go_enter Tryz.func50, Tryz.ntmps50
  go_wp2_with (first
    | (go_at_call 88; (with_reducible refine (HCC _).out.mono ?_); rintro e w1 ⟨rfl, hb1⟩; have HB1 := hid hb1; clear hb1))
  go_ret2
  exact ⟨rfl, HB1.out⟩
end Go.Proofs.YtlhakbkdlgejpaaGreatDoor.Sc
