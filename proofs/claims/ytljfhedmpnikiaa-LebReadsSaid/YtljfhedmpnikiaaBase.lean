/-
  What a slice of bytes reads as, and the contract of the program's own copied: it gives the bytes in new memory. Condition: fewer than 2^47 bytes.
-/
import Derived.Test.YtljfhedmpnikiaaRows
import Derived.WalkKit
import Derived.WalkSpells
import Derived.WalkLawsBesides
import Derived.Lib.UnsafeStr
import Derived.Laws.AppendOwnNone
namespace Go.Proofs.Ytljfhedmpnikiaa
open Go.RowKit

theorem hid {p : Prop} (h : p) : Hid p := h

theorem info5 : (Try.prog.info? 5).map (fun i => (i.zero, i.size, i.bytes)) = some (some (.int .u8 0), 1, 1) := by kernel_rfl

/-- The value v reads as the bytes l, all of whose cells lie below block B. -/
def BytesAt (B : Nat) (w : World) (v : Value) (l : List UInt8) : Prop :=
  (v = .slice none 0 0 ∧ l = []) ∨
  ∃ g off cap, v = .slice (some ⟨g, off, none⟩) l.length cap ∧ g < B ∧ l.length ≤ cap ∧ (cap ≤ 9223372036854775807 ∧ l.length ≤ 140737488351232) ∧
    ∀ j u, l[j]? = some u → w.cell? ⟨g, off + j, none⟩ = some (.int .u8 u.toNat)

theorem BytesAt.mono {B B' : Nat} {w : World} {v : Value} {l : List UInt8} (h : BytesAt B w v l) (hB : B ≤ B') : BytesAt B' w v l := by
  rcases h with h | ⟨g, off, cap, h1, h2, h3⟩
  · exact .inl h
  · exact .inr ⟨g, off, cap, h1, by omega, h3⟩

theorem BytesAt.below {B : Nat} {w w' : World} {v : Value} {l : List UInt8} (h : BytesAt B w v l) (hb : Below B w w') : BytesAt B w' v l := by
  rcases h with h | ⟨g, off, cap, h1, h2, h3, h4, h5⟩
  · exact .inl h
  · exact .inr ⟨g, off, cap, h1, h2, h3, h4, fun j u hj => by rw [hb.cell (p := ⟨g, off + j, none⟩) h2]; exact h5 j u hj⟩

theorem byteCells_one (l : List UInt8) : ∀ u ∈ Lib.byteCells l, u.oneCell' = true := by
  intro u hu
  simp only [Lib.byteCells, List.mem_map] at hu
  obtain ⟨b, _, rfl⟩ := hu
  rfl

theorem addr_add (g off j : Nat) : (⟨g, off, none⟩ : Addr).add j = ⟨g, off + j, none⟩ := by unfold Addr.add; split <;> simp_all

theorem cells_of_bytes {w : World} {g off : Nat} {l : List UInt8} (h : ∀ j u, l[j]? = some u → w.cell? ⟨g, off + j, none⟩ = some (.int .u8 u.toNat)) :
    ∀ j u, (Lib.byteCells l)[j]? = some u → w.cell? ((⟨g, off, none⟩ : Addr).add j) = some u := by
  intro j u hj
  rw [addr_add]
  simp only [Lib.byteCells, List.getElem?_map, Option.map_eq_some_iff] at hj
  obtain ⟨b, hb, rfl⟩ := hj
  exact h j b hb

set_option maxHeartbeats 400000 in
/-- copied: the bytes in new memory. -/
theorem copied_any (B : Nat) (v : Value) (l : List UInt8) (m : Nat) (w : World) (hv : BytesAt B w v l) (hB : B ≤ w.heap.size) (hm : m ≤ 100) (hl : l.length + 100 ≤ 140737488355328) :
    Calls Try.prog 33 #[v, .int .i64 m] w fun e w' => ∃ v', e = .returned v' ∧ w'.ownsRow w.heap.size 5 1 v' l.length (Lib.byteCells l) ∧ Below w.heap.size w w' := by
  obtain ⟨i0, hi, hz0, hz1, hz2⟩ := info_parts info5
  have hbl := Lib.byteCells_length l
  rcases hv with ⟨rfl, rfl⟩ | ⟨g, off, cap, rfl, hg, hlc, hc, hcell⟩
  · go_enter Try.func33, Try.ntmps33
    go_wp2_with (first
      | (at_make; refine wpList_make_own _ rfl _ _ 22 rfl w.heap.size 5 i0 (.int .u8 0) 1 Try.underlying22 hi hz0 hz1 .i64 .i64 _ m rfl rfl (by omega) (by rw [hz2]; omega) (by unfold maxLen; omega) (Nat.le_refl _) ?_; intro w1 hown1 hgrow1)
      | (at_builtin; refine wpList_append_own_none rfl _ _ 22 rfl w.heap.size 5 i0 1 Try.underlying22 hi _ _ _ rfl hown1 rfl ?_))
    go_ret
    exact ⟨_, rfl, hown1, (Below.refl _ _).grown hgrow1 (Nat.le_refl _) (fun k hk => by cases hk)⟩
  · go_enter Try.func33, Try.ntmps33
    go_wp2_with (first
      | (at_make; refine wpList_make_own _ rfl _ _ 22 rfl w.heap.size 5 i0 (.int .u8 0) 1 Try.underlying22 hi hz0 hz1 .i64 .i64 _ (l.length + m) rfl rfl (by omega) (by rw [hz2]; omega) (by unfold maxLen; omega) (Nat.le_refl _) ?_; intro w1 hown1 hgrow1)
      | (at_builtin; refine wpList_append_own _ rfl _ _ 22 rfl w.heap.size 5 i0 (.int .u8 0) 1 1 Try.underlying22 hi hz0 hz1 hz2 rfl (by decide) _ _ _ rfl hown1 ⟨g, off, none⟩ l.length cap (Lib.byteCells l) rfl (by rw [hbl]; omega) ?c1 (byteCells_one l) ?c3 ?c4 ?c5 ?_))
    case c1 => exact cells_of_bytes fun j u hj => by rw [World.cell?_of_block (hgrow1.block g (by omega) (by simp))]; exact hcell j u hj
    case c3 => unfold maxLen; omega
    case c4 => omega
    case c5 => exact hgrow1.size
    intro v' w2 hown2 hgrow2 _
    go_wp2
    go_ret
    refine ⟨v', rfl, hown2, ((Below.refl _ _).grown hgrow1 (Nat.le_refl _) (fun k hk => by cases hk)).grown hgrow2 hgrow1.size (fun k hk => (hown1.lt k hk).1)⟩

/-- One byte appended to what the call owns: 'out = append(out, x)'. -/
theorem append_byte {w : World} {ops : Array Oper} {rest : List Oper} {o : Oper} {a : Act} {Q : Exit → Act → World → Prop} (hgd : o.guard = none) (s x : Operand)
    (ho : o.op = .call { callee := .builtin .append, args := #[s, x], argTypes := #[22, 22] }) (W : World) (base : Nat) (v : Value) (n : Nat) (xs : List Value) (q : Int)
    (hown : w.ownsRow base 5 1 v n xs) (hb : Below base W w) (hbase : base ≤ w.heap.size) (hn : n + 1 ≤ 140737488355328) (hs : a.eval s = v) (hx : a.eval x = .slice (some ⟨w.heap.size, 0, none⟩) 1 1)
    (h : ∀ v' w', w'.ownsRow base 5 1 v' (n + 1) (xs ++ [.int .u8 q]) → Below base W w' → base ≤ w'.heap.size → wpList Try.prog ops Q rest (a.put o.dst v') w') :
    wpList Try.prog ops Q (o :: rest) a (w.alloc (.cells #[.int .u8 q] 5)) := by
  obtain ⟨i0, hi, hz0, hz1, hz2⟩ := info_parts info5
  have hb1 := hb.alloc hbase (.cells #[.int .u8 q] 5)
  refine wpList_append_own _ hgd s x 22 ho base 5 i0 (.int .u8 0) 1 1 Try.underlying22 hi hz0 hz1 hz2 rfl (by decide) v n xs hs (hown.alloc _) ⟨w.heap.size, 0, none⟩ 1 1 [.int .u8 q] hx rfl (cell_one_new _ _ _)
    (fun u hu => by simp at hu; subst hu; rfl) (by unfold maxLen; omega) (by omega) (by simp; omega) ?_
  intro v' w1 hown' hgrow _
  have hb2 := hb1.grown hgrow (by simp; omega) (fun k hk => (hown.lt k hk).1)
  exact h v' w1 hown' hb2 (by have := hgrow.size; simp at this; omega)

theorem BytesAt.len {B : Nat} {w : World} {v : Value} {l : List UInt8} (h : BytesAt B w v l) : l.length ≤ 140737488351232 := by
  rcases h with ⟨_, rfl⟩ | ⟨_, _, _, _, _, _, h, _⟩
  · simp
  · exact h.2

theorem ownsRow_mono {w : World} {base base' : Nat} {e : TypeId} {size : Nat} {v : Value} {n : Nat} {xs : List Value} (h : w.ownsRow base e size v n xs) (hb : base' ≤ base) : w.ownsRow base' e size v n xs := by
  refine ⟨h.1, ?_⟩
  rcases h.2 with h | ⟨g, cap, cur, h1, h2, h3⟩
  · exact .inl h
  · exact .inr ⟨g, cap, cur, h1, by omega, h3⟩

/-- What the call owns reads as those bytes. -/
theorem bytes_of_owned {w : World} {base : Nat} {v : Value} {l : List UInt8} (h : w.ownsRow base 5 1 v l.length (Lib.byteCells l)) (hl : l.length ≤ 140737488351232) : BytesAt w.heap.size w v l := by
  rcases h.2 with ⟨h1, h2⟩ | ⟨g, cap, cur, rfl, h2, h3, h4, h5, h6, h7⟩
  · exact .inl ⟨h1, List.eq_nil_of_length_eq_zero h2⟩
  · refine .inr ⟨g, 0, cap, rfl, (Array.getElem?_eq_some_iff.1 h3).1, h4, ⟨by unfold maxLen at h5; omega, hl⟩, fun j u hj => ?_⟩
    have hlt : j < l.length := by
      rcases Nat.lt_or_ge j l.length with h | h
      · exact h
      · rw [List.getElem?_eq_none h] at hj; cases hj
    rw [Nat.zero_add, h.cellAt j (by omega)]
    simp only [Lib.byteCells, List.getElem?_map, hj, Option.map_some]

/-- The same, the new block's number said in another way. -/
theorem append_byte_at {w : World} {ops : Array Oper} {rest : List Oper} {o : Oper} {a : Act} {Q : Exit → Act → World → Prop} (hgd : o.guard = none) (s x : Operand)
    (ho : o.op = .call { callee := .builtin .append, args := #[s, x], argTypes := #[22, 22] }) (W : World) (base : Nat) (v : Value) (n : Nat) (xs : List Value) (q : Int)
    (hown : w.ownsRow base 5 1 v n xs) (hb : Below base W w) (hbase : base ≤ w.heap.size) (hn : n + 1 ≤ 140737488355328) (n0 : Nat) (h0 : w.heap.size = n0) (hs : a.eval s = v) (hx : a.eval x = .slice (some ⟨n0, 0, none⟩) 1 1)
    (h : ∀ v' w', w'.ownsRow base 5 1 v' (n + 1) (xs ++ [.int .u8 q]) → Below base W w' → base ≤ w'.heap.size → wpList Try.prog ops Q rest (a.put o.dst v') w') :
    wpList Try.prog ops Q (o :: rest) a (w.alloc (.cells #[.int .u8 q] 5)) := by
  subst h0
  exact append_byte hgd s x ho W base v n xs q hown hb hbase hn hs hx h

/-- As BytesAt; or no byte at whatever address. -/
def BytesIn (B : Nat) (w : World) (v : Value) (l : List UInt8) : Prop := BytesAt B w v l ∨ ∃ x c, v = .slice (some x) 0 c ∧ l = []

theorem BytesIn.below {B : Nat} {w w' : World} {v : Value} {l : List UInt8} (h : BytesIn B w v l) (hb : Below B w w') : BytesIn B w' v l := h.imp (fun h => h.below hb) (fun h => h)

theorem BytesIn.mono {B B' : Nat} {w : World} {v : Value} {l : List UInt8} (h : BytesIn B w v l) (hB : B ≤ B') : BytesIn B' w v l := h.imp (fun h => h.mono hB) (fun h => h)

theorem BytesIn.len {B : Nat} {w : World} {v : Value} {l : List UInt8} (h : BytesIn B w v l) : l.length ≤ 140737488351232 := by
  rcases h with h | ⟨_, _, _, rfl⟩
  · exact h.len
  · simp

set_option maxHeartbeats 400000 in
theorem copied_in (B : Nat) (v : Value) (l : List UInt8) (m : Nat) (w : World) (hv : BytesIn B w v l) (hB : B ≤ w.heap.size) (hm : m ≤ 100) (hl : l.length + 100 ≤ 140737488355328) :
    Calls Try.prog 33 #[v, .int .i64 m] w fun e w' => ∃ v', e = .returned v' ∧ w'.ownsRow w.heap.size 5 1 v' l.length (Lib.byteCells l) ∧ Below w.heap.size w w' := by
  rcases hv with hv | ⟨x, cap, rfl, rfl⟩
  · exact copied_any B v l m w hv hB hm hl
  · obtain ⟨i0, hi, hz0, hz1, hz2⟩ := info_parts info5
    go_enter Try.func33, Try.ntmps33
    go_wp2_with (first
      | (at_make; refine wpList_make_own _ rfl _ _ 22 rfl w.heap.size 5 i0 (.int .u8 0) 1 Try.underlying22 hi hz0 hz1 .i64 .i64 _ m rfl rfl (by omega) (by rw [hz2]; omega) (by unfold maxLen; omega) (Nat.le_refl _) ?_; intro w1 hown1 hgrow1)
      | (at_builtin; refine wpList_append_own _ rfl _ _ 22 rfl w.heap.size 5 i0 (.int .u8 0) 1 1 Try.underlying22 hi hz0 hz1 hz2 rfl (by decide) _ _ _ rfl hown1 x 0 cap [] rfl rfl (fun j u hj => by cases hj) (fun u hu => by cases hu) ?c3 ?c4 ?c5 ?_))
    case c3 => unfold maxLen; omega
    case c4 => omega
    case c5 => exact hgrow1.size
    intro v' w2 hown2 hgrow2 _
    go_wp2
    go_ret
    refine ⟨v', rfl, hown2, ((Below.refl _ _).grown hgrow1 (Nat.le_refl _) (fun k hk => by cases hk)).grown hgrow2 hgrow1.size (fun k hk => (hown1.lt k hk).1)⟩

end Go.Proofs.Ytljfhedmpnikiaa
