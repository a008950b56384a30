/-
  LBase, LNums, LWrites, EMath, WBase, WBytes: merged, what the law does not reach left out (each text says what it holds where it lies in wip). No condition.
-/
import Derived.Test.YtjgeedgphcjhoaaGreatProg
import Derived.Test.YtjgeedgphcjhoaaGreatD02
import Derived.WalkKit
import Derived.WalkSpells
import Derived.WalkLawsBesides
import Derived.Lib.UnsafeStr
import Derived.Laws.AppendOwnNone
import Derived.Laws.BitsLemmas
import Derived.Laws.Bits64
import Derived.Laws.Bits64b
import Derived.Lib.AppendStr
import Derived.Lib.Builder
import Derived.Laws.AppendOwn
import Derived.Deep.DeepCutAuto
set_option linter.unusedSimpArgs false
set_option linter.unusedVariables false
set_option maxRecDepth 100000
namespace Go.Proofs.YtjgeedgphcjhoaaGreat
open Go.RowKit
theorem info5 : (Tryz.prog.info? 5).map (fun i => (i.zero, i.size, i.bytes)) = some (some (.int .u8 0), 1, 1) := by kernel_rfl
/-- The value v reads as the bytes l, all of whose cells lie below block B. -/
def BytesAt (B : Nat) (w : World) (v : Value) (l : List UInt8) : Prop :=
 (v = .slice none 0 0 ∧ l = []) ∨
 ∃ g off cap, v = .slice (some ⟨g, off, none⟩) l.length cap ∧ g < B ∧ l.length ≤ cap ∧ (cap ≤ 9223372036854775807 ∧ l.length ≤ 140737488351232) ∧
  ∀ j u, l[j]? = some u → w.cell? ⟨g, off + j, none⟩ = some (.int .u8 u.toNat)
theorem BytesAt.mono {B B' : Nat} {w : World} {v : Value} {l : List UInt8} (h : BytesAt B w v l) (hB : B ≤ B') : BytesAt B' w v l := by
 rcases h with h | ⟨g, off, cap, h1, h2, h3⟩
 ·exact .inl h
 ·exact .inr ⟨g, off, cap, h1, by omega, h3⟩
theorem BytesAt.below {B : Nat} {w w' : World} {v : Value} {l : List UInt8} (h : BytesAt B w v l) (hb : Below B w w') : BytesAt B w' v l := by
 rcases h with h | ⟨g, off, cap, h1, h2, h3, h4, h5⟩
 ·exact .inl h
 ·exact .inr ⟨g, off, cap, h1, h2, h3, h4, fun j u hj => by rw [hb.cell (p := ⟨g, off + j, none⟩) h2]; exact h5 j u hj⟩
theorem byteCells_one (l : List UInt8) : ∀ u ∈ Lib.byteCells l, u.oneCell' = true := by
 intro u hu
 simp only [Lib.byteCells, List.mem_map] at hu
 obtain ⟨b, _, rfl⟩ := hu
 rfl
theorem addr_add (g off j : Nat) : (⟨g, off, none⟩ : Addr).add j = ⟨g, off + j, none⟩ := by unfold Addr.add; split <;> simp_all
theorem cells_of_bytes {w : World} {g off : Nat} {l : List UInt8} (h : ∀ j u, l[j]? = some u → w.cell? ⟨g, off + j, none⟩ = some (.int .u8 u.toNat)) :
  ∀ j u, (Lib.byteCells l)[j]? = some u → w.cell? ((⟨g, off, none⟩ : Addr).add j) = some u := by
 intro j u hj
 rw [addr_add]
 simp only [Lib.byteCells, List.getElem?_map, Option.map_eq_some_iff] at hj
 obtain ⟨b, hb, rfl⟩ := hj
 exact h j b hb
set_option maxHeartbeats 400000 in
/-- copied: the bytes in new memory. -/
theorem copied_any (B : Nat) (v : Value) (l : List UInt8) (m : Nat) (w : World) (hv : BytesAt B w v l) (hB : B ≤ w.heap.size) (hm : m ≤ 100) (hl : l.length + 100 ≤ 140737488355328) :
  Calls Tryz.prog 229 #[v, .int .i64 m] w fun e w' => ∃ v', e = .returned v' ∧ w'.ownsRow w.heap.size 5 1 v' l.length (Lib.byteCells l) ∧ Below w.heap.size w w' := by
 obtain ⟨i0, hi, hz0, hz1, hz2⟩ := info_parts info5
 have hbl := Lib.byteCells_length l
 rcases hv with ⟨rfl, rfl⟩ | ⟨g, off, cap, rfl, hg, hlc, hc, hcell⟩
 ·go_enter Tryz.func229, Tryz.ntmps229
  go_wp2_with (first
   | (at_make; refine wpList_make_own _ rfl _ _ 52 rfl w.heap.size 5 i0 (.int .u8 0) 1 Tryz.underlying52 hi hz0 hz1 .i64 .i64 _ m rfl rfl (by omega) (by rw [hz2]; omega) (by unfold maxLen; omega) (Nat.le_refl _) ?_; intro w1 hown1 hgrow1)
   | (at_builtin; refine wpList_append_own_none rfl _ _ 52 rfl w.heap.size 5 i0 1 Tryz.underlying52 hi _ _ _ rfl hown1 rfl ?_))
  go_ret
  exact ⟨_, rfl, hown1, (Below.refl _ _).grown hgrow1 (Nat.le_refl _) (fun k hk => by cases hk)⟩
 ·go_enter Tryz.func229, Tryz.ntmps229
  go_wp2_with (first
   | (at_make; refine wpList_make_own _ rfl _ _ 52 rfl w.heap.size 5 i0 (.int .u8 0) 1 Tryz.underlying52 hi hz0 hz1 .i64 .i64 _ (l.length + m) rfl rfl (by omega) (by rw [hz2]; omega) (by unfold maxLen; omega) (Nat.le_refl _) ?_; intro w1 hown1 hgrow1)
   | (at_builtin; refine wpList_append_own _ rfl _ _ 52 rfl w.heap.size 5 i0 (.int .u8 0) 1 1 Tryz.underlying52 hi hz0 hz1 hz2 rfl (by decide) _ _ _ rfl hown1 ⟨g, off, none⟩ l.length cap (Lib.byteCells l) rfl (by rw [hbl]; omega) ?c1 (byteCells_one l) ?c3 ?c4 ?c5 ?_))
  case c1 => exact cells_of_bytes fun j u hj => by rw [World.cell?_of_block (hgrow1.block g (by omega) (by simp))]; exact hcell j u hj
  case c3 => unfold maxLen; omega
  case c4 => omega
  case c5 => exact hgrow1.size
  intro v' w2 hown2 hgrow2 _
  go_wp2
  go_ret
  refine ⟨v', rfl, hown2, ((Below.refl _ _).grown hgrow1 (Nat.le_refl _) (fun k hk => by cases hk)).grown hgrow2 hgrow1.size (fun k hk => (hown1.lt k hk).1)⟩
/-- One byte appended to what the call owns: 'out = append(out, x)'. -/
theorem append_byte {w : World} {ops : Array Oper} {rest : List Oper} {o : Oper} {a : Act} {Q : Exit → Act → World → Prop} (hgd : o.guard = none) (s x : Operand)
  (ho : o.op = .call { callee := .builtin .append, args := #[s, x], argTypes := #[52, 52] }) (W : World) (base : Nat) (v : Value) (n : Nat) (xs : List Value) (q : Int)
  (hown : w.ownsRow base 5 1 v n xs) (hb : Below base W w) (hbase : base ≤ w.heap.size) (hn : n + 1 ≤ 140737488355328) (hs : a.eval s = v) (hx : a.eval x = .slice (some ⟨w.heap.size, 0, none⟩) 1 1)
  (h : ∀ v' w', w'.ownsRow base 5 1 v' (n + 1) (xs ++ [.int .u8 q]) → Below base W w' → base ≤ w'.heap.size → wpList Tryz.prog ops Q rest (a.put o.dst v') w') :
  wpList Tryz.prog ops Q (o :: rest) a (w.alloc (.cells #[.int .u8 q] 5)) := by
 obtain ⟨i0, hi, hz0, hz1, hz2⟩ := info_parts info5
 have hb1 := hb.alloc hbase (.cells #[.int .u8 q] 5)
 refine wpList_append_own _ hgd s x 52 ho base 5 i0 (.int .u8 0) 1 1 Tryz.underlying52 hi hz0 hz1 hz2 rfl (by decide) v n xs hs (hown.alloc _) ⟨w.heap.size, 0, none⟩ 1 1 [.int .u8 q] hx rfl (cell_one_new _ _ _)
  (fun u hu => by simp at hu; subst hu; rfl) (by unfold maxLen; omega) (by omega) (by simp; omega) ?_
 intro v' w1 hown' hgrow _
 have hb2 := hb1.grown hgrow (by simp; omega) (fun k hk => (hown.lt k hk).1)
 exact h v' w1 hown' hb2 (by have := hgrow.size; simp at this; omega)
theorem BytesAt.len {B : Nat} {w : World} {v : Value} {l : List UInt8} (h : BytesAt B w v l) : l.length ≤ 140737488351232 := by
 rcases h with ⟨_, rfl⟩ | ⟨_, _, _, _, _, _, h, _⟩
 ·simp
 ·exact h.2
/-- What the call owns reads as those bytes. -/
theorem bytes_of_owned {w : World} {base : Nat} {v : Value} {l : List UInt8} (h : w.ownsRow base 5 1 v l.length (Lib.byteCells l)) (hl : l.length ≤ 140737488351232) : BytesAt w.heap.size w v l := by
 rcases h.2 with ⟨h1, h2⟩ | ⟨g, cap, cur, rfl, h2, h3, h4, h5, h6, h7⟩
 ·exact .inl ⟨h1, List.eq_nil_of_length_eq_zero h2⟩
 ·refine .inr ⟨g, 0, cap, rfl, (Array.getElem?_eq_some_iff.1 h3).1, h4, ⟨by unfold maxLen at h5; omega, hl⟩, fun j u hj => ?_⟩
  have hlt : j < l.length := by
   rcases Nat.lt_or_ge j l.length with h | h
   ·exact h
   ·rw [List.getElem?_eq_none h] at hj; cases hj
  rw [Nat.zero_add, h.cellAt j (by omega)]
  simp only [Lib.byteCells, List.getElem?_map, hj, Option.map_some]
/-- As BytesAt; or no byte at whatever address. -/
def BytesIn (B : Nat) (w : World) (v : Value) (l : List UInt8) : Prop := BytesAt B w v l ∨ ∃ x c, v = .slice (some x) 0 c ∧ l = []
theorem BytesIn.below {B : Nat} {w w' : World} {v : Value} {l : List UInt8} (h : BytesIn B w v l) (hb : Below B w w') : BytesIn B w' v l := h.imp (fun h => h.below hb) (fun h => h)
theorem BytesIn.mono {B B' : Nat} {w : World} {v : Value} {l : List UInt8} (h : BytesIn B w v l) (hB : B ≤ B') : BytesIn B' w v l := h.imp (fun h => h.mono hB) (fun h => h)
theorem BytesIn.len {B : Nat} {w : World} {v : Value} {l : List UInt8} (h : BytesIn B w v l) : l.length ≤ 140737488351232 := by
 rcases h with h | ⟨_, _, _, rfl⟩
 ·exact h.len
 ·simp
set_option maxHeartbeats 400000 in
theorem copied_in (B : Nat) (v : Value) (l : List UInt8) (m : Nat) (w : World) (hv : BytesIn B w v l) (hB : B ≤ w.heap.size) (hm : m ≤ 100) (hl : l.length + 100 ≤ 140737488355328) :
  Calls Tryz.prog 229 #[v, .int .i64 m] w fun e w' => ∃ v', e = .returned v' ∧ w'.ownsRow w.heap.size 5 1 v' l.length (Lib.byteCells l) ∧ Below w.heap.size w w' := by
 rcases hv with hv | ⟨x, cap, rfl, rfl⟩
 ·exact copied_any B v l m w hv hB hm hl
 ·obtain ⟨i0, hi, hz0, hz1, hz2⟩ := info_parts info5
  go_enter Tryz.func229, Tryz.ntmps229
  go_wp2_with (first
   | (at_make; refine wpList_make_own _ rfl _ _ 52 rfl w.heap.size 5 i0 (.int .u8 0) 1 Tryz.underlying52 hi hz0 hz1 .i64 .i64 _ m rfl rfl (by omega) (by rw [hz2]; omega) (by unfold maxLen; omega) (Nat.le_refl _) ?_; intro w1 hown1 hgrow1)
   | (at_builtin; refine wpList_append_own _ rfl _ _ 52 rfl w.heap.size 5 i0 (.int .u8 0) 1 1 Tryz.underlying52 hi hz0 hz1 hz2 rfl (by decide) _ _ _ rfl hown1 x 0 cap [] rfl rfl (fun j u hj => by cases hj) (fun u hu => by cases hu) ?c3 ?c4 ?c5 ?_))
  case c3 => unfold maxLen; omega
  case c4 => omega
  case c5 => exact hgrow1.size
  intro v' w2 hown2 hgrow2 _
  go_wp2
  go_ret
  refine ⟨v', rfl, hown2, ((Below.refl _ _).grown hgrow1 (Nat.le_refl _) (fun k hk => by cases hk)).grown hgrow2 hgrow1.size (fun k hk => (hown1.lt k hk).1)⟩
end Go.Proofs.YtjgeedgphcjhoaaGreat
namespace Go.Proofs.YtjgeedgphcjhoaaGreat
open Go
/-- The bytes of an unsigned number. -/
def ulist (x : Nat) : List UInt8 :=
 if h : x < 128 then [x.toUInt8] else (x % 128 + 128).toUInt8 :: ulist (x / 128)
termination_by x
decreasing_by omega
theorem ulist_small {x : Nat} (h : x < 128) : ulist x = [x.toUInt8] := by rw [ulist, dif_pos h]
theorem ulist_big {x : Nat} (h : 128 ≤ x) : ulist x = (x % 128 + 128).toUInt8 :: ulist (x / 128) := by rw [ulist, dif_neg (by omega)]
theorem ulist_length : ∀ (k x : Nat), x < 128 ^ (k + 1) → (ulist x).length ≤ k + 1
 | 0, x, h => by rw [ulist_small (by simpa using h)]; simp
 | k + 1, x, h => by
  by_cases hx : x < 128
  ·rw [ulist_small hx]; simp
  ·rw [ulist_big (by omega), List.length_cons]
   have := ulist_length k (x / 128) (by rw [Nat.pow_succ] at h; exact Nat.div_lt_of_lt_mul (by rw [Nat.mul_comm]; exact h))
   omega
theorem ulist_length64 {x : Nat} (h : x < 18446744073709551616) : (ulist x).length ≤ 10 :=
 ulist_length 9 x (Nat.lt_of_lt_of_le h (by decide))
theorem ulist_pos (x : Nat) : 1 ≤ (ulist x).length := by
 by_cases hx : x < 128
 ·rw [ulist_small hx]; simp
 ·rw [ulist_big (by omega)]; simp
/-- The bytes of a number of either sign. -/
def slist (m : Int) : List UInt8 :=
 if h : -64 ≤ m ∧ m < 64 then [(m % 128).toNat.toUInt8] else ((m % 128).toNat + 128).toUInt8 :: slist (m / 128)
termination_by m.natAbs
decreasing_by omega
theorem slist_small {m : Int} (h : -64 ≤ m ∧ m < 64) : slist m = [(m % 128).toNat.toUInt8] := by rw [slist, dif_pos h]
theorem slist_big {m : Int} (h : ¬ (-64 ≤ m ∧ m < 64)) : slist m = ((m % 128).toNat + 128).toUInt8 :: slist (m / 128) := by rw [slist, dif_neg h]
theorem slist_length : ∀ (k : Nat) (m : Int), -(64 * 128 ^ k : Nat) ≤ m → m < (64 * 128 ^ k : Nat) → (slist m).length ≤ k + 1
 | 0, m, h, h' => by rw [slist_small (by constructor <;> simpa using by assumption)]; simp
 | k + 1, m, h, h' => by
  by_cases hx : -64 ≤ m ∧ m < 64
  ·rw [slist_small hx]; simp
  ·rw [slist_big hx, List.length_cons]
   have e : (64 * 128 ^ (k + 1) : Nat) = 128 * (64 * 128 ^ k) := by rw [Nat.pow_succ]; omega
   rw [e] at h h'
   have := slist_length k (m / 128) (by omega) (by omega)
   omega
theorem slist_length64 {m : Int} (h0 : -9223372036854775808 ≤ m) (h1 : m ≤ 9223372036854775807) : (slist m).length ≤ 10 :=
 slist_length 9 m (Int.le_trans (by decide) h0) (Int.lt_of_le_of_lt h1 (by decide))
theorem slist_pos (m : Int) : 1 ≤ (slist m).length := by
 by_cases hx : -64 ≤ m ∧ m < 64
 ·rw [slist_small hx]; simp
 ·rw [slist_big hx]; simp
theorem toUInt8_toNat {a : Nat} (h : a < 256) : (a.toUInt8).toNat = a := by
 simp [Nat.toUInt8, UInt8.toNat_ofNat']
 omega
theorem byteCells_snoc (pre : List UInt8) {a : Nat} (h : a < 256) : Lib.byteCells (pre ++ [a.toUInt8]) = Lib.byteCells pre ++ [Value.int .u8 (a : Int)] := by
 rw [Lib.byteCells_append]
 simp [Lib.byteCells, toUInt8_toNat h]
set_option maxRecDepth 100000 in
theorem or128_nat : ∀ a : Fin 256, (a.val ||| 128) = a.val % 128 + 128 := by decide
theorem u8_or128 (a : Int) (h₀ : 0 ≤ a) (h₁ : a < 256) : bits .or .u8 a 128 = a % 128 + 128 := by
 obtain ⟨n, rfl⟩ := Int.eq_ofNat_of_zero_le h₀
 have hn : n < 256 := by omega
 have h := (bits_nat .u8 8 (by decide) wraps_u8 n 128 (by simpa using hn) (by decide)).2
 have e : ((128 : Nat) : Int) = 128 := rfl
 rw [e] at h
 have h2 : (n ||| 128) = n % 128 + 128 := or128_nat ⟨n, hn⟩
 rw [h, h2]
 omega
theorem u8_and127 (x : Int) (h₀ : 0 ≤ x) (h₁ : x < 256) : bits .and .u8 x 127 = x % 128 := bits_mask .u8 8 (by decide) wraps_u8 7 (by decide) x h₀ h₁
theorem and_i64_le (a : Int) (m : Nat) (hm : m < 1000) : ∃ K : Nat, K ≤ m ∧ bits .and .i64 a (m : Int) = (K : Int) := by
 refine ⟨(BitVec.ofInt 64 a).toNat &&& m, Nat.and_le_right, ?_⟩
 have e2 : BitVec.toNat (BitVec.ofInt 64 (m : Int)) = m := by
  rw [BitVec.toNat_ofInt]; omega
 have hle : (BitVec.ofInt 64 a).toNat &&& m ≤ m := Nat.and_le_right
 show IntKind.i64.wrap ((BitVec.ofInt 64 a &&& BitVec.ofInt 64 (m : Int)).toNat : Int) = _
 rw [BitVec.toNat_and, e2, IntKind.wrap_i64]
 generalize (BitVec.ofInt 64 a).toNat &&& m = q at *
 omega
end Go.Proofs.YtjgeedgphcjhoaaGreat
namespace Go.Proofs.YtjgeedgphcjhoaaGreat
open Go.RowKit
set_option maxHeartbeats 800000 in
theorem U_in (B : Nat) (v : Value) (l : List UInt8) (x : Nat) (hx : x < 18446744073709551616) (w : World) (hv : BytesIn B w v l) (hB : B ≤ w.heap.size) (hl : l.length + 200 ≤ 140737488355328) :
  Calls Tryz.prog 177 #[v, .int .u64 x] w fun e w' => ∃ v', e = .returned v' ∧ w'.ownsRow w.heap.size 5 1 v' (l ++ ulist x).length (Lib.byteCells (l ++ ulist x)) ∧ Below w.heap.size w w' := by
 have hlen := ulist_length64 hx
 go_enter Tryz.func177, Tryz.ntmps177
 go_wp2_with (go_at_call 229; refine (copied_in B _ l 10 _ hv hB (by omega) (by omega)).mono ?_; rintro e w1 ⟨v1, rfl, hown1, hbel1⟩)
 go_loopw [1, 5] (fun vx vb wr => ∃ (y : Nat) (pre : List UInt8), vx = .int .u64 y ∧ y ≤ x ∧ ulist x = pre ++ ulist y ∧ wr.ownsRow w.heap.size 5 1 vb (l.length + pre.length) (Lib.byteCells l ++ Lib.byteCells pre) ∧ Below w.heap.size w wr)
  (fun vx _ _ => (intOf vx).toNat)
 case atStart => exact ⟨x, [], rfl, Nat.le_refl _, rfl, by simpa [Lib.byteCells] using hown1, hbel1⟩
 case round =>
  obtain ⟨y, pre, rfl, hy, hsplit, hown1, hnx⟩ := hrel
  have hpl : pre.length + (ulist y).length ≤ 10 := by
   have h2 := congrArg List.length hsplit
   rw [List.length_append] at h2
   omega
  have hyp := ulist_pos y
  have hwr := hnx.size
  have HS := hid hsplit
  clear hsplit
  by_cases h128 : 128 ≤ y
  ·have hor : bits .or .u8 ((y : Int) % 256) 128 = ((y % 128 + 128 : Nat) : Int) := by
    rw [u8_or128 _ (by omega) (by omega)]
    omega
   go_wp2_with (at_builtin; refine append_byte rfl _ _ rfl w w.heap.size _ _ _ _ hown1 hnx hwr (by omega) rfl rfl ?_; intro v' w1 hown' hnx1 hsz1)
   go_roundw
   case rel =>
    refine ⟨y / 128, pre ++ [(y % 128 + 128).toUInt8], by go_num, by omega, by rw [HS.out, ulist_big h128]; simp, ?_, hnx1⟩
    have ec : ((y % 128 + 128 : Nat) : Int) = (y : Int) % 128 + 128 := by omega
    rw [byteCells_snoc pre (by omega), List.length_append, List.length_singleton, ← Nat.add_assoc, ec, ← List.append_assoc]
    exact hown'
   case measure => simp [intOf]; omega
  ·have HM := hid (ulist_small (x := y) (by omega))
   go_wp2_with (at_builtin; refine append_byte rfl _ _ rfl w w.heap.size _ _ _ _ hown1 hnx hwr (by omega) rfl rfl ?_; intro v' w1 hown' hnx1 hsz1)
   go_ret
   refine ⟨v', rfl, ?_, hnx1⟩
   rw [HS.out, HM.out, Lib.byteCells_append, byteCells_snoc pre (by omega)]
   simp only [List.length_append, List.length_singleton, ← List.append_assoc] at hown' ⊢
   exact hown'
set_option maxHeartbeats 1600000 in
theorem S_in (B : Nat) (v : Value) (l : List UInt8) (x : Int) (hx0 : -9223372036854775808 ≤ x) (hx : x ≤ 9223372036854775807) (w : World) (hv : BytesIn B w v l) (hB : B ≤ w.heap.size) (hl : l.length + 200 ≤ 140737488355328) :
  Calls Tryz.prog 267 #[v, .int .i64 x] w fun e w' => ∃ v', e = .returned v' ∧ w'.ownsRow w.heap.size 5 1 v' (l ++ slist x).length (Lib.byteCells (l ++ slist x)) ∧ Below w.heap.size w w' := by
 have hlen := slist_length64 hx0 hx
 go_enter Tryz.func267, Tryz.ntmps267
 go_wp2_with (go_at_call 229; refine (copied_in B _ l 10 _ hv hB (by omega) (by omega)).mono ?_; rintro e w1 ⟨v1, rfl, hown1, hbel1⟩)
 go_loopw [1, 5] (fun vx vb wr => ∃ (y : Int) (pre : List UInt8), vx = .int .i64 y ∧ -9223372036854775808 ≤ y ∧ y ≤ 9223372036854775807 ∧ slist x = pre ++ slist y ∧ wr.ownsRow w.heap.size 5 1 vb (l.length + pre.length) (Lib.byteCells l ++ Lib.byteCells pre) ∧ Below w.heap.size w wr)
  (fun vx _ _ => (intOf vx).natAbs)
 case atStart => exact ⟨x, [], rfl, hx0, hx, rfl, by simpa [Lib.byteCells] using hown1, hbel1⟩
 case round =>
  obtain ⟨y, pre, rfl, hy0, hy, hsplit, hown1, hnx⟩ := hrel
  have hpl : pre.length + (slist y).length ≤ 10 := by
   have h2 := congrArg List.length hsplit
   rw [List.length_append] at h2
   omega
  have hyp := slist_pos y
  have hwr := hnx.size
  have HS := hid hsplit
  clear hsplit
  obtain ⟨d, hd⟩ : ∃ d : Nat, y % 128 = (d : Int) := ⟨(y % 128).toNat, by omega⟩
  have hdl : d < 128 := by omega
  have HD := hid hd
  by_cases hsm : -64 ≤ y ∧ y < 64
  ·obtain ⟨h1, h2⟩ := hsm
   have hand : bits .and .u8 ((y : Int) % 256) 127 = (d : Int) := by
    rw [u8_and127 _ (by omega) (by omega)]
    omega
   have hd1 : decide (y < -64) = false := by simp; omega
   have hd2 : decide (63 < y) = false := by simp; omega
   have HM := hid (slist_small (m := y) ⟨h1, h2⟩)
   clear hd
   go_wp2_with (at_builtin; refine append_byte rfl _ _ rfl w w.heap.size _ _ _ _ hown1 hnx hwr (by omega) rfl rfl ?_; intro v' w1 hown' hnx1 hsz1)
   go_ret
   refine ⟨v', rfl, ?_, hnx1⟩
   rw [HS.out, HM.out, Lib.byteCells_append, HD.out, Int.toNat_natCast, byteCells_snoc pre (by omega)]
   simp only [List.length_append, List.length_singleton, ← List.append_assoc] at hown' ⊢
   exact hown'
  ·have hor : bits .or .u8 ((y : Int) % 256) 128 = (d : Int) + 128 := by
    rw [u8_or128 _ (by omega) (by omega)]
    omega
   have HB := hid (slist_big hsm)
   rcases (show y < -64 ∨ 63 < y by omega) with hneg | hneg
   all_goals
    first
     | have hd1 : decide (y < -64) = true := by simp; omega
     | have hd1 : decide (y < -64) = false := by simp; omega
    first
     | have hd2 : decide (63 < y) = true := by simp; omega
     | have hd2 : decide (63 < y) = false := by simp; omega
    clear hsm hd
    go_wp2_with (at_builtin; refine append_byte rfl _ _ rfl w w.heap.size _ _ _ _ hown1 hnx hwr (by omega) rfl rfl ?_; intro v' w1 hown' hnx1 hsz1)
    go_roundw
    case rel =>
     refine ⟨y / 128, pre ++ [(d + 128).toUInt8], by go_num, by omega, by omega, by rw [HS.out, HB.out, HD.out, Int.toNat_natCast]; simp, ?_, hnx1⟩
     rw [byteCells_snoc pre (by omega), List.length_append, List.length_singleton, ← Nat.add_assoc, ← List.append_assoc, Int.natCast_add]
     exact hown'
    case measure => simp [intOf]; omega
end Go.Proofs.YtjgeedgphcjhoaaGreat
namespace Go.Proofs.YtjgeedgphcjhoaaGreat
open Go.RowKit
/-- A number's lowest byte. -/
def byI (n : Int) : UInt8 := (n % 256).toNat.toUInt8
/-- An integer of the machine as one without a sign, in groups. -/
def uI (n : Int) : List UInt8 := ulist (n % 18446744073709551616).toNat
/-- The lowest k bytes. -/
def lowL : Nat → Nat → List UInt8
 | 0, _ => []
 | k + 1, v => (v % 256).toUInt8 :: lowL k (v / 256)
def opL (op : Int) : List UInt8 := if 64768 ≤ op then 253 :: uI (op - 64768) else if 64512 ≤ op then 252 :: uI (op - 64512) else [byI op]
def sgnN (b : Nat) (n : Nat) : Int := if n % 2 ^ b < 2 ^ (b - 1) then ((n % 2 ^ b : Nat) : Int) else ((n % 2 ^ b : Nat) : Int) - ((2 ^ b : Nat) : Int)
def blL (a b : Int) : List UInt8 := if a = 1 then [byI b] else if a = 2 then slist b else [64]
def usL : List Int → List UInt8
 | [] => []
 | x :: l => uI x ++ usL l
/-- What stands behind an instruction's number. -/
def behL (k a b : Int) (n h : Nat) (l : List Int) (ot : Bool) (eb ee : List UInt8) : List UInt8 :=
 if k = 0 then []
 else if k = 1 then blL a b ++ eb ++ (if ot = true then 5 :: ee else []) ++ [11]
 else if k = 3 then uI l.length ++ usL l ++ uI a
 else if k = 5 ∨ k = 10 ∨ k = 20 ∨ k = 22 then uI a ++ uI b
 else if k = 26 then uI a ++ uI b ++ l.map byI
 else if k = 6 then uI l.length ++ l.map byI
 else if k = 11 then [0]
 else if k = 19 then [0, 0]
 else if k = 17 then uI a ++ [0]
 else if k = 12 then slist (sgnN 32 n)
 else if k = 13 then slist (sgnN 64 n)
 else if k = 14 then lowL 4 n
 else if k = 15 then lowL 8 n
 else if k = 23 then lowL 8 n ++ lowL 8 h
 else if k = 16 ∨ k = 25 then [byI a]
 else if k = 24 then l.map byI
 else uI a
noncomputable def Fo.enc : Fo → List UInt8
 | .nil => []
 | .cons op a b n h l ot body els rest => opL op ++ behL (lineL op).2.1 a b n h l ot body.enc els.enc ++ rest.enc
theorem uI_len (n : Int) : (uI n).length ≤ 10 := ulist_length64 (by omega)
theorem lowL_len (v : Nat) : ∀ (k : Nat) (v : Nat), (lowL k v).length = k
 | 0, _ => rfl
 | k + 1, v => by rw [lowL, List.length_cons, lowL_len v k]
theorem usL_len : ∀ l : List Int, (usL l).length ≤ 10 * l.length
 | [] => Nat.le_refl _
 | x :: l => by
  have := usL_len l
  have := uI_len x
  simp only [usL, List.length_append, List.length_cons]
  omega
theorem opL_len (op : Int) : (opL op).length ≤ 11 := by
 unfold opL
 have h1 := uI_len (op - 64768)
 have h2 := uI_len (op - 64512)
 split
 ·simp only [List.length_cons]; omega
 ·split
  ·simp only [List.length_cons]; omega
  ·simp
theorem sgnN_in (b n : Nat) (hb : b = 32 ∨ b = 64) : -9223372036854775808 ≤ sgnN b n ∧ sgnN b n ≤ 9223372036854775807 := by
 unfold sgnN
 rcases hb with rfl | rfl
 ·split <;> omega
 ·split <;> omega
theorem slist_len (x : Int) (h : -9223372036854775808 ≤ x ∧ x ≤ 9223372036854775807) : (slist x).length ≤ 10 := slist_length64 h.1 h.2
def i64C (a : Int) : Prop := -9223372036854775808 ≤ a ∧ a < 9223372036854775808
theorem ite_len {c : Prop} [Decidable c] {x y : List UInt8} {n : Nat} (hx : c → x.length ≤ n) (hy : ¬ c → y.length ≤ n) : (if c then x else y).length ≤ n := by
 by_cases h : c
 ·rw [if_pos h]; exact hx h
 ·rw [if_neg h]; exact hy h
theorem behL_len (k a b : Int) (n h : Nat) (l : List Int) (ot : Bool) (eb ee : List UInt8) (hb : i64C b) : (behL k a b n h l ot eb ee).length ≤ 40 + 10 * l.length + eb.length + ee.length := by
 have h1 := uI_len a
 have h2 := uI_len b
 have h3 := uI_len l.length
 have h4 := usL_len l
 have h5 : (l.map byI).length = l.length := List.length_map _
 have h6 := slist_len _ (sgnN_in 32 n (.inl rfl))
 have h7 := slist_len _ (sgnN_in 64 n (.inr rfl))
 have h8 := lowL_len 0 4 n
 have h9 := lowL_len 0 8 n
 have h10 := lowL_len 0 8 h
 have h11 := slist_len b ⟨hb.1, by have := hb.2; omega⟩
 have h12 : (blL a b).length ≤ 10 := by
  unfold blL
  split
  ·simp
  ·split
   ·exact h11
   ·simp
 have h13 : (if ot = true then 5 :: ee else []).length ≤ ee.length + 1 := ite_len (fun _ => by simp) (fun _ => by simp)
 unfold behL
 repeat' (refine ite_len (fun _ => ?_) (fun _ => ?_))
 all_goals try simp only [List.length_append, List.length_cons, List.length_nil]
 all_goals omega
end Go.Proofs.YtjgeedgphcjhoaaGreat
namespace Go.Proofs.YtjgeedgphcjhoaaGreat
open Go.RowKit
theorem own_kept {w w' : World} {base : Nat} {v : Value} {n : Nat} {xs : List Value} (h : w.ownsRow base 5 1 v n xs) (hb : Below w.heap.size w w') : w'.ownsRow base 5 1 v n xs := by
 refine ⟨h.1, ?_⟩
 rcases h.2 with h2 | ⟨g, cap, cur, h1, h2, h3, h4⟩
 ·exact .inl h2
 ·exact .inr ⟨g, cap, cur, h1, h2, (hb.block g (Array.getElem?_eq_some_iff.1 h3).1).trans h3, h4⟩
/-- Block k is none of the writer's. -/
def NW (B g : Nat) (w : World) (k : Nat) : Prop := k ≠ g ∧ k < w.heap.size ∧ (k < B ∨ ∃ cs T fr, w.heap[k]? = some (.cells cs T fr) ∧ T ≠ 5)
/-- All stays but the writer's block and its rows. -/
structure FR (B g : Nat) (w w' : World) : Prop where
 os : w'.os = w.os
 tape : w'.tape = w.tape
 output : w'.output = w.output
 size : w.heap.size ≤ w'.heap.size
 block : ∀ k, NW B g w k → w'.heap[k]? = w.heap[k]?
theorem FR.refl (B g : Nat) (w : World) : FR B g w w := ⟨rfl, rfl, rfl, Nat.le_refl _, fun _ _ => rfl⟩
theorem FR.nw {B g : Nat} {w w' : World} (h : FR B g w w') {k : Nat} (hk : NW B g w k) : NW B g w' k := by
 refine ⟨hk.1, Nat.lt_of_lt_of_le hk.2.1 h.size, ?_⟩
 rcases hk.2.2 with h2 | ⟨cs, T, fr, h2, h3⟩
 ·exact .inl h2
 ·exact .inr ⟨cs, T, fr, (h.block k hk).trans h2, h3⟩
theorem FR.trans {B g : Nat} {a b c : World} (h : FR B g a b) (k : FR B g b c) : FR B g a c :=
 ⟨k.os.trans h.os, k.tape.trans h.tape, k.output.trans h.output, Nat.le_trans h.size k.size, fun i hi => (k.block i (h.nw hi)).trans (h.block i hi)⟩
theorem FR.of {B g : Nat} {w w' : World} (h : Below w.heap.size w w') : FR B g w w' := ⟨h.os, h.tape, h.output, h.size, fun k hk => h.block k hk.2.1⟩
theorem FR.alloc {B g : Nat} {a w : World} (h : FR B g a w) (o : Obj) : FR B g a (w.alloc o) := h.trans (FR.of ((Below.refl _ _).alloc (Nat.le_refl _) o))
theorem FR.drew {B g : Nat} {a w : World} (h : FR B g a w) : FR B g a w.drew := ⟨h.os, h.tape, h.output, h.size, h.block⟩
theorem FR.below {B g : Nat} {w w' : World} (h : FR B g w w') (hg : B ≤ g) (hB : B ≤ w.heap.size) : Below B w w' :=
 ⟨h.os, h.tape, h.output, h.size, fun k hk => h.block k ⟨by omega, by omega, .inl hk⟩⟩
theorem FR.set {B g : Nat} {a w : World} (h : FR B g a w) (k : Nat) (v : Value) : FR B g a (w.setCell ⟨g, k, none⟩ v) :=
 h.trans ⟨rfl, rfl, rfl, by simp [World.setCell], fun i hi => Below.heap_setCell _ _ _ _ (fun e => hi.1 (by rw [e]))⟩
theorem NW.not_row {B g k : Nat} {w : World} {v : Value} {n : Nat} {xs : List Value} (h : NW B g w k) (ho : w.ownsRow B 5 1 v n xs) : v.ownBlock ≠ some k := by
 rcases h.2.2 with h2 | ⟨cs, T, fr, h2, h3⟩
 ·intro e
  have := (ho.lt k e).1
  omega
 ·exact Lib.ownBlock_ne ho h2 h3
theorem FR.grown {B g : Nat} {w w' : World} {v : Value} {n : Nat} {xs : List Value} (ho : w.ownsRow B 5 1 v n xs) (hg : w.grownBy w' v.ownBlock) : FR B g w w' :=
 ⟨hg.os, hg.tape, hg.output, hg.size, fun k hk => hg.block k hk.2.1 (hk.not_row ho).symm⟩
theorem CA.nw {B g k : Nat} {cs : Array Value} {T : TypeId} {w : World} (h : CA k cs T w) (hT : T ≠ 5) (hk : k ≠ g) : NW B g w k := ⟨hk, h.lt, .inr ⟨cs, T, _, h, hT⟩⟩
theorem CA.fr {B g k : Nat} {cs : Array Value} {T : TypeId} {w w' : World} (h : CA k cs T w) (hf : FR B g w w') (hT : T ≠ 5) (hk : k ≠ g) : CA k cs T w' := by
 have := hf.block k (h.nw hT hk)
 unfold CA at h ⊢
 rw [this, h]
/-- The writer at block g holds these bytes; what it writes to lies from block B on. -/
def WR (B g : Nat) (bs : List UInt8) (w : World) : Prop := B ≤ g ∧ ∃ v, CA g #[v] 137 w ∧ w.ownsRow B 5 1 v bs.length (Lib.byteCells bs)
theorem WR.lt {B g : Nat} {bs : List UInt8} {w : World} (h : WR B g bs w) : g < w.heap.size := by
 obtain ⟨_, v, hc, _⟩ := h
 exact hc.lt
theorem WR.call {B g : Nat} {bs : List UInt8} {w w' : World} (h : WR B g bs w) (hb : Below w.heap.size w w') : WR B g bs w' := by
 obtain ⟨h1, v, hc, ho⟩ := h
 exact ⟨h1, v, hc.below hb hc.lt, own_kept ho hb⟩
theorem WR.alloc {B g : Nat} {bs : List UInt8} {w : World} (h : WR B g bs w) (o : Obj) : WR B g bs (w.alloc o) := h.call ((Below.refl _ _).alloc (Nat.le_refl _) o)
theorem WR.put {B g : Nat} {bs : List UInt8} {w : World} {v v' : Value} (hB : B ≤ g) (hc : CA g #[v] 137 w) (ho : w.ownsRow B 5 1 v' bs.length (Lib.byteCells bs)) : WR B g bs (w.setCell ⟨g, 0, none⟩ v') := by
 refine ⟨hB, v', hc.set v', ?_⟩
 exact ho.kept (row := some g) ⟨rfl, rfl, rfl, by simp [World.setCell], fun k _ hk => Below.heap_setCell _ _ _ _ (fun e => hk (by simp [e]))⟩ (Or.inr (Lib.ownBlock_ne ho hc (by decide)))
theorem WR.set_row {B g : Nat} {w w' : World} {v u : Value} {n : Nat} {xs : List Value} (hc : CA g #[u] 137 w) (ho : w.ownsRow B 5 1 v n xs) (hg : w.grownBy w' v.ownBlock) : CA g #[u] 137 w' := by
 have := hg.block g hc.lt (Lib.ownBlock_ne ho hc (by decide)).symm
 unfold CA at hc ⊢
 rw [this, hc]
/-- A list of integers that is none of the writer's. -/
def LT (B g : Nat) (w : World) (v : Value) (l : List Int) : Prop := ∃ p c, v = .slice p l.length c ∧ l.length < 9223372036854775807 ∧ (l ≠ [] → ∃ k o, p = some ⟨k, o, none⟩ ∧ NW B g w k ∧ ∀ j x, l[j]? = some x → w.cell? ⟨k, o + j, none⟩ = some (.int .i64 x))
theorem LT.fr {B g : Nat} {w w' : World} {v : Value} {l : List Int} (h : LT B g w v l) (hf : FR B g w w') : LT B g w' v l := by
 obtain ⟨p, c, e, hq, h⟩ := h
 refine ⟨p, c, e, hq, fun hn => ?_⟩
 obtain ⟨k, o, e2, hk, hc⟩ := h hn
 exact ⟨k, o, e2, hf.nw hk, fun j x hj => by rw [World.cell?_of_block (hf.block k hk)]; exact hc j x hj⟩
theorem LT.of {B g B0 : Nat} {w : World} {v : Value} {l : List Int} (h : LI B0 w v l) (hB : B0 ≤ B) (hg : B ≤ g) (hw : B ≤ w.heap.size) : LT B g w v l := by
 obtain ⟨p, c, e, hq, h⟩ := h
 refine ⟨p, c, e, hq, fun hn => ?_⟩
 obtain ⟨k, o, e2, hk, hc⟩ := h hn
 exact ⟨k, o, e2, ⟨by omega, by omega, .inl (by omega)⟩, hc⟩
theorem LT.one {B g : Nat} {w : World} (x : Int) (c : Nat) (hg : g < w.heap.size) : LT B g (w.alloc (.cells #[.int .i64 x] 3)) (.slice (some ⟨w.heap.size, 0, none⟩) 1 c) [x] := by
 have hc := CA.new w #[.int .i64 x] 3
 refine ⟨_, c, rfl, by simp, fun _ => ⟨w.heap.size, 0, rfl, hc.nw (by decide) (by omega), fun j y hj => ?_⟩⟩
 cases j with
 | zero => simp at hj; subst hj; exact hc.at rfl
 | succ j => simp at hj
theorem LT.two {B g : Nat} {w : World} (x y : Int) (c : Nat) (hg : g < w.heap.size) : LT B g (w.alloc (.cells #[.int .i64 x, .int .i64 y] 3)) (.slice (some ⟨w.heap.size, 0, none⟩) 2 c) [x, y] := by
 have hc := CA.new w #[.int .i64 x, .int .i64 y] 3
 refine ⟨_, c, rfl, by simp, fun _ => ⟨w.heap.size, 0, rfl, hc.nw (by decide) (by omega), fun j z hj => ?_⟩⟩
 match j with
 | 0 => simp at hj; subst hj; exact hc.at rfl
 | 1 => simp at hj; subst hj; exact hc.at rfl
 | j + 2 => simp at hj
theorem byI_nat (n : Int) : ((byI n).toNat : Int) = n % 256 := by
 unfold byI
 rw [toUInt8_toNat (by omega)]
 omega
theorem byteCells_byI (pre : List UInt8) (n : Int) : Lib.byteCells (pre ++ [byI n]) = Lib.byteCells pre ++ [Value.int .u8 (n % 256)] := by
 rw [Lib.byteCells_append]
 simp [Lib.byteCells, byI_nat]
end Go.Proofs.YtjgeedgphcjhoaaGreat
namespace Go.Proofs.YtjgeedgphcjhoaaGreat
open Go.RowKit
theorem append_byteF {w : World} {ops : Array Oper} {rest : List Oper} {o : Oper} {a : Act} {Q : Exit → Act → World → Prop} (hgd : o.guard = none) (s x : Operand)
  (ho : o.op = .call { callee := .builtin .append, args := #[s, x], argTypes := #[52, 52] }) (B g : Nat) (bs : List UInt8) (v : Value) (n : Int) (W0 : World)
  (hBg : B ≤ g) (hc : CA g #[v] 137 w) (hown : w.ownsRow B 5 1 v bs.length (Lib.byteCells bs)) (hn : bs.length + 1 ≤ 140737488355328) (hf : FR B g W0 w) (n0 : Nat) (h0 : w.heap.size = n0) (hs : a.eval s = v) (hx : a.eval x = .slice (some ⟨n0, 0, none⟩) 1 1)
  (h : ∀ v' w', w'.ownsRow B 5 1 v' (bs ++ [byI n]).length (Lib.byteCells (bs ++ [byI n])) → CA g #[v] 137 w' → FR B g W0 w' → wpList Tryz.prog ops Q rest (a.put o.dst v') w') :
  wpList Tryz.prog ops Q (o :: rest) a (w.alloc (.cells #[.int .u8 (n % 256)] 5)) := by
 subst h0
 obtain ⟨i0, hi, hz0, hz1, hz2⟩ := info_parts info5
 have hlt := hc.lt
 refine wpList_append_own _ hgd s x 52 ho B 5 i0 (.int .u8 0) 1 1 Tryz.underlying52 hi hz0 hz1 hz2 rfl (by decide) v bs.length (Lib.byteCells bs) hs (hown.alloc _) ⟨w.heap.size, 0, none⟩ 1 1 [.int .u8 (n % 256)] hx rfl (cell_one_new _ _ _)
  (fun u hu => by simp at hu; subst hu; rfl) (by unfold maxLen; omega) (by omega) (by simp; omega) ?_
 intro v' w1 hown' hgrow _
 refine h v' w1 ?_ (WR.set_row (hc.alloc _) (hown.alloc _) hgrow) ((hf.alloc _).trans (FR.grown (hown.alloc _) hgrow))
 rw [byteCells_byI, List.length_append]
 exact hown'
theorem own_slice {w : World} {base : Nat} {v : Value} {n : Nat} {xs : List Value} (h : w.ownsRow base 5 1 v n xs) : ∃ p m c, v = .slice p m c := by
 rcases h.2 with ⟨h2, _⟩ | ⟨g, cap, cur, h1, _⟩
 ·exact ⟨_, _, _, h2⟩
 ·exact ⟨_, _, _, h1⟩
theorem map_take_snoc (l : List Int) (i : Nat) (x : Int) (h : l[i]? = some x) : (l.take (i + 1)).map byI = (l.take i).map byI ++ [byI x] := by
 rw [List.take_add_one, h, List.map_append]
 rfl
set_option maxHeartbeats 1000000 in
theorem bytes_says (B g : Nat) (bs : List UInt8) (l : List Int) (v : Value) (w : World) (hw : WR B g bs w) (hl : LT B g w v l) (hn : bs.length + l.length ≤ 140737488355000) :
  Calls Tryz.prog 169 #[.pointer (some ⟨g, 0, none⟩), v] w fun e w' => e = .returned (.tuple #[]) ∧ WR B g (bs ++ l.map byI) w' ∧ FR B g w w' := by
 obtain ⟨p, c, rfl, hq, hl2⟩ := id hl
 have HL := hid hl
 obtain ⟨n, hnl⟩ : ∃ n, n = l.length := ⟨_, rfl⟩
 have HNL := hid hnl
 rw [← hnl] at hq ⊢
 have HP := hid hl2
 have HW := hid hw
 have HN := hid hn
 have hn62 : (n : Int) < 9223372036854775807 := by omega
 clear hl2 hl hw hn hnl hq
 go_enter Tryz.func169, Tryz.ntmps169
 go_wp2
 go_loopw [8] (fun vi wr => ∃ i : Nat, i ≤ n ∧ vi = .int .i64 i ∧ Hid (WR B g (bs ++ (l.take i).map byI) wr) ∧ Hid (FR B g w wr)) (fun vi _ => n - (intOf vi).toNat)
 case atStart => exact ⟨0, Nat.zero_le _, rfl, by simpa using HW, FR.refl _ _ _⟩
 case round =>
  obtain ⟨i, hi, rfl, HR, HF⟩ := hrel
  by_cases hlt : i < n
  ·have hll : i < l.length := by rw [← HNL.out]; exact hlt
   obtain ⟨x, hx⟩ : ∃ x, l[i]? = some x := ⟨l[i], List.getElem?_eq_getElem hll⟩
   obtain ⟨k, o, rfl, hk, hcell⟩ := HP.out (by intro e; rw [e] at hll; simp at hll)
   have z0 := hcell i x hx
   rw [← World.cell?_of_block (HF.out.block k hk)] at z0
   obtain ⟨hBg, u, hc, ho⟩ := HR.out
   obtain ⟨pu, nu, cu, rfl⟩ := own_slice ho
   have y0 := hc.at (k := 0) (v := .slice pu nu cu) rfl
   have HC := hid hc
   have HO := hid ho
   have HBG := hid hBg
   have HX := hid (map_take_snoc l i x hx)
   have HLE : Hid ((bs ++ (l.take i).map byI).length + 1 ≤ 140737488355328) := by
    have := HN.out
    simp only [Hid, List.length_append, List.length_map, List.length_take]
    omega
   clear hc ho hBg hcell hx hk hll hi
   go_wp2_with (at_builtin; refine append_byteF rfl _ _ rfl B g _ _ x w HBG.out HC.out HO.out HLE.out HF.out _ rfl rfl rfl ?_; intro v2 w2 ho2 hc2 hf2; obtain ⟨p2, m2, c2, rfl⟩ := own_slice ho2; have y1 := hc2.at (k := 0) (v := .slice pu nu cu) rfl; have y2 := hc2.free 0; have HO2 := hid ho2; have HC2 := hid hc2; have HF2 := hid hf2; clear ho2 hc2 hf2)
   go_roundw
   case rel =>
    refine ⟨i + 1, hlt, by go_num, ?_, hid (HF2.out.set 0 _)⟩
    rw [HX.out, ← List.append_assoc]
    exact WR.put HBG.out HC2.out HO2.out
   case measure => simp [intOf]; omega
  ·obtain rfl : i = n := by omega
   go_wp2
   (first | go_end0 | refine bodyPost_ret (results_none rfl _ _ _) rfl ?_)
   refine ⟨rfl, ?_, HF.out⟩
   have := HR.out
   rw [HNL.out, List.take_length] at this
   exact this
end Go.Proofs.YtjgeedgphcjhoaaGreat
