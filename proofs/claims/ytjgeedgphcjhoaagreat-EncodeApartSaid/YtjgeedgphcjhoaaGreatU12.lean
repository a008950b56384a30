/-
  LBase, LPlain8, LUtf, ImpB, Expr, RMay, MayM, LWrites: merged, what the law does not reach left out (each text says what it holds where it lies in wip). No condition.
-/
import Derived.Test.YtjgeedgphcjhoaaGreatProg
import Derived.Test.YtjgeedgphcjhoaaGreatU02
import Derived.WalkKit
import Derived.WalkSpells
import Derived.WalkLawsBesides
import Derived.Lib.UnsafeStr
import Derived.Laws.AppendOwnNone
import Derived.Lib.DecodeN
import Derived.Laws.RangeAny
import Derived.Lib.OthersKept
import Derived.Lib.Strings
import Derived.Test.YtjgeedgphcjhoaaGreatU11
import Derived.Test.YtjgeedgphcjhoaaGreatU06
import Derived.Deep.DeepCutAuto
import Derived.Test.YtjgeedgphcjhoaaGreatU07
import Derived.Test.YtjgeedgphcjhoaaGreatU09
import Derived.Test.YtjgeedgphcjhoaaGreatU10
import Derived.Test.YtjgeedgphcjhoaaGreatU03
import Derived.Test.YtjgeedgphcjhoaaGreatU01
import Derived.Lib.AppendStr
set_option linter.unusedSimpArgs false
set_option linter.unusedVariables false
set_option maxRecDepth 100000
namespace Go.Proofs.YtjgeedgphcjhoaaGreat
open Go.RowKit
theorem info5 : (Tryz.prog.info? 5).map (fun i => (i.zero,i.size,i.bytes)) = some (some (.int .u8 0),1,1) := by kernel_rfl
def BytesAt (B : Nat) (w : World) (v : Value) (l : List UInt8) : Prop :=
 (v = .slice none 0 0 ∧ l = []) ∨
 ∃ g off cap,v = .slice (some ⟨g,off,none⟩) l.length cap ∧ g < B ∧ l.length ≤ cap ∧ (cap ≤ 9223372036854775807 ∧ l.length ≤ 140737488351232) ∧
  ∀ j u,l[j]? = some u → w.cell? ⟨g,off + j,none⟩ = some (.int .u8 u.toNat)
theorem BytesAt.mono {B B' : Nat} {w : World} {v : Value} {l : List UInt8} (h : BytesAt B w v l) (hB : B ≤ B') : BytesAt B' w v l := by
 rcases h with h | ⟨g,off,cap,h1,h2,h3⟩
 ·exact .inl h
 exact .inr ⟨g,off,cap,h1,by omega,h3⟩
theorem BytesAt.below {B : Nat} {w w' : World} {v : Value} {l : List UInt8} (h : BytesAt B w v l) (hb : Below B w w') : BytesAt B w' v l := by
 rcases h with h | ⟨g,off,cap,h1,h2,h3,h4,h5⟩
 ·exact .inl h
 exact .inr ⟨g,off,cap,h1,h2,h3,h4,fun j u hj => by rw [hb.cell (p := ⟨g,off + j,none⟩) h2]; exact h5 j u hj⟩
theorem byteCells_one (l : List UInt8) : ∀ u ∈ Lib.byteCells l,u.oneCell' = true := by
 intro u hu
 simp only [Lib.byteCells,List.mem_map] at hu
 obtain ⟨b,_,rfl⟩ := hu
 rfl
theorem addr_add (g off j : Nat) : (⟨g,off,none⟩ : Addr).add j = ⟨g,off + j,none⟩ := by unfold Addr.add; split <;> simp_all
theorem cells_of_bytes {w : World} {g off : Nat} {l : List UInt8} (h : ∀ j u,l[j]? = some u → w.cell? ⟨g,off + j,none⟩ = some (.int .u8 u.toNat)) :
  ∀ j u,(Lib.byteCells l)[j]? = some u → w.cell? ((⟨g,off,none⟩ : Addr).add j) = some u := by
 intro j u hj
 rw [addr_add]
 simp only [Lib.byteCells,List.getElem?_map,Option.map_eq_some_iff] at hj
 obtain ⟨b,hb,rfl⟩ := hj
 exact h j b hb
set_option maxHeartbeats 400000 in
theorem copied_any (B : Nat) (v : Value) (l : List UInt8) (m : Nat) (w : World) (hv : BytesAt B w v l) (hB : B ≤ w.heap.size) (hm : m ≤ 100) (hl : l.length + 100 ≤ 140737488355328) :
  Calls Tryz.prog 229 #[v,.int .i64 m] w fun e w' => ∃ v',e = .returned v' ∧ w'.ownsRow w.heap.size 5 1 v' l.length (Lib.byteCells l) ∧ Below w.heap.size w w' := by
 obtain ⟨i0,hi,hz0,hz1,hz2⟩ := info_parts info5
 have hbl := Lib.byteCells_length l
 rcases hv with ⟨rfl,rfl⟩ | ⟨g,off,cap,rfl,hg,hlc,hc,hcell⟩
 ·go_enter Tryz.func229,Tryz.ntmps229
  go_wp2_with (first
   | (at_make; refine wpList_make_own _ rfl _ _ 52 rfl w.heap.size 5 i0 (.int .u8 0) 1 Tryz.underlying52 hi hz0 hz1 .i64 .i64 _ m rfl rfl (by omega) (by rw [hz2]; omega) (by unfold maxLen; omega) (Nat.le_refl _) ?_; intro w1 hown1 hgrow1)
   | (at_builtin; refine wpList_append_own_none rfl _ _ 52 rfl w.heap.size 5 i0 1 Tryz.underlying52 hi _ _ _ rfl hown1 rfl ?_))
  go_ret
  exact ⟨_,rfl,hown1,(Below.refl _ _).grown hgrow1 (Nat.le_refl _) (fun k hk => by cases hk)⟩
 go_enter Tryz.func229,Tryz.ntmps229
 go_wp2_with (first
  | (at_make; refine wpList_make_own _ rfl _ _ 52 rfl w.heap.size 5 i0 (.int .u8 0) 1 Tryz.underlying52 hi hz0 hz1 .i64 .i64 _ (l.length + m) rfl rfl (by omega) (by rw [hz2]; omega) (by unfold maxLen; omega) (Nat.le_refl _) ?_; intro w1 hown1 hgrow1)
  | (at_builtin; refine wpList_append_own _ rfl _ _ 52 rfl w.heap.size 5 i0 (.int .u8 0) 1 1 Tryz.underlying52 hi hz0 hz1 hz2 rfl (by decide) _ _ _ rfl hown1 ⟨g,off,none⟩ l.length cap (Lib.byteCells l) rfl (by rw [hbl]; omega) ?c1 (byteCells_one l) ?c3 ?c4 ?c5 ?_))
 case c1 => exact cells_of_bytes fun j u hj => by rw [World.cell?_of_block (hgrow1.block g (by omega) (by simp))]; exact hcell j u hj
 case c3 => unfold maxLen; omega
 case c4 => omega
 case c5 => exact hgrow1.size
 intro v' w2 hown2 hgrow2 _
 go_wp2
 go_ret
 refine ⟨v',rfl,hown2,((Below.refl _ _).grown hgrow1 (Nat.le_refl _) (fun k hk => by cases hk)).grown hgrow2 hgrow1.size (fun k hk => (hown1.lt k hk).1)⟩
theorem append_byte {w : World} {ops : Array Oper} {rest : List Oper} {o : Oper} {a : Act} {Q : Exit → Act → World → Prop} (hgd : o.guard = none) (s x : Operand)
  (ho : o.op = .call { callee := .builtin .append,args := #[s,x],argTypes := #[52,52] }) (W : World) (base : Nat) (v : Value) (n : Nat) (xs : List Value) (q : Int)
  (hown : w.ownsRow base 5 1 v n xs) (hb : Below base W w) (hbase : base ≤ w.heap.size) (hn : n + 1 ≤ 140737488355328) (hs : a.eval s = v) (hx : a.eval x = .slice (some ⟨w.heap.size,0,none⟩) 1 1)
  (h : ∀ v' w',w'.ownsRow base 5 1 v' (n + 1) (xs ++ [.int .u8 q]) → Below base W w' → base ≤ w'.heap.size → wpList Tryz.prog ops Q rest (a.put o.dst v') w') :
  wpList Tryz.prog ops Q (o :: rest) a (w.alloc (.cells #[.int .u8 q] 5)) := by
 obtain ⟨i0,hi,hz0,hz1,hz2⟩ := info_parts info5
 have hb1 := hb.alloc hbase (.cells #[.int .u8 q] 5)
 refine wpList_append_own _ hgd s x 52 ho base 5 i0 (.int .u8 0) 1 1 Tryz.underlying52 hi hz0 hz1 hz2 rfl (by decide) v n xs hs (hown.alloc _) ⟨w.heap.size,0,none⟩ 1 1 [.int .u8 q] hx rfl (cell_one_new _ _ _)
  (fun u hu => by simp at hu; subst hu; rfl) (by unfold maxLen; omega) (by omega) (by simp; omega) ?_
 intro v' w1 hown' hgrow _
 have hb2 := hb1.grown hgrow (by simp; omega) (fun k hk => (hown.lt k hk).1)
 exact h v' w1 hown' hb2 (by have := hgrow.size; simp at this; omega)
theorem BytesAt.len {B : Nat} {w : World} {v : Value} {l : List UInt8} (h : BytesAt B w v l) : l.length ≤ 140737488351232 := by
 rcases h with ⟨_,rfl⟩ | ⟨_,_,_,_,_,_,h,_⟩
 ·simp
 exact h.2
theorem bytes_of_owned {w : World} {base : Nat} {v : Value} {l : List UInt8} (h : w.ownsRow base 5 1 v l.length (Lib.byteCells l)) (hl : l.length ≤ 140737488351232) : BytesAt w.heap.size w v l := by
 rcases h.2 with ⟨h1,h2⟩ | ⟨g,cap,cur,rfl,h2,h3,h4,h5,h6,h7⟩
 ·exact .inl ⟨h1,List.eq_nil_of_length_eq_zero h2⟩
 refine .inr ⟨g,0,cap,rfl,(Array.getElem?_eq_some_iff.1 h3).1,h4,⟨by unfold maxLen at h5; omega,hl⟩,fun j u hj => ?_⟩
 have hlt : j < l.length := by
  rcases Nat.lt_or_ge j l.length with h | h
  ·exact h
  rw [List.getElem?_eq_none h] at hj; cases hj
 rw [Nat.zero_add,h.cellAt j (by omega)]
 simp only [Lib.byteCells,List.getElem?_map,hj,Option.map_some]
def BytesIn (B : Nat) (w : World) (v : Value) (l : List UInt8) : Prop := BytesAt B w v l ∨ ∃ x c,v = .slice (some x) 0 c ∧ l = []
theorem BytesIn.below {B : Nat} {w w' : World} {v : Value} {l : List UInt8} (h : BytesIn B w v l) (hb : Below B w w') : BytesIn B w' v l := h.imp (fun h => h.below hb) (fun h => h)
theorem BytesIn.mono {B B' : Nat} {w : World} {v : Value} {l : List UInt8} (h : BytesIn B w v l) (hB : B ≤ B') : BytesIn B' w v l := h.imp (fun h => h.mono hB) (fun h => h)
theorem BytesIn.len {B : Nat} {w : World} {v : Value} {l : List UInt8} (h : BytesIn B w v l) : l.length ≤ 140737488351232 := by
 rcases h with h | ⟨_,_,_,rfl⟩
 ·exact h.len
 simp
set_option maxHeartbeats 400000 in
theorem copied_in (B : Nat) (v : Value) (l : List UInt8) (m : Nat) (w : World) (hv : BytesIn B w v l) (hB : B ≤ w.heap.size) (hm : m ≤ 100) (hl : l.length + 100 ≤ 140737488355328) :
  Calls Tryz.prog 229 #[v,.int .i64 m] w fun e w' => ∃ v',e = .returned v' ∧ w'.ownsRow w.heap.size 5 1 v' l.length (Lib.byteCells l) ∧ Below w.heap.size w w' := by
 rcases hv with hv | ⟨x,cap,rfl,rfl⟩
 ·exact copied_any B v l m w hv hB hm hl
 obtain ⟨i0,hi,hz0,hz1,hz2⟩ := info_parts info5
 go_enter Tryz.func229,Tryz.ntmps229
 go_wp2_with (first
  | (at_make; refine wpList_make_own _ rfl _ _ 52 rfl w.heap.size 5 i0 (.int .u8 0) 1 Tryz.underlying52 hi hz0 hz1 .i64 .i64 _ m rfl rfl (by omega) (by rw [hz2]; omega) (by unfold maxLen; omega) (Nat.le_refl _) ?_; intro w1 hown1 hgrow1)
  | (at_builtin; refine wpList_append_own _ rfl _ _ 52 rfl w.heap.size 5 i0 (.int .u8 0) 1 1 Tryz.underlying52 hi hz0 hz1 hz2 rfl (by decide) _ _ _ rfl hown1 x 0 cap [] rfl rfl (fun j u hj => by cases hj) (fun u hu => by cases hu) ?c3 ?c4 ?c5 ?_))
 case c3 => unfold maxLen; omega
 case c4 => omega
 case c5 => exact hgrow1.size
 intro v' w2 hown2 hgrow2 _
 go_wp2
 go_ret
 refine ⟨v',rfl,hown2,((Below.refl _ _).grown hgrow1 (Nat.le_refl _) (fun k hk => by cases hk)).grown hgrow2 hgrow1.size (fun k hk => (hown1.lt k hk).1)⟩
end Go.Proofs.YtjgeedgphcjhoaaGreat
namespace Go.Proofs.YtjgeedgphcjhoaaGreat
open Go
def vfrom (s : ByteArray) : Nat → Nat → Bool
 | 0,_ => true
 | f + 1,i => if i < s.size then (if (Utf8.decode s i).1 = 65533 ∧ (Utf8.decode s i).2 = 1 then false else vfrom s f (i + (Utf8.decode s i).2)) else true
theorem vfrom_end (s : ByteArray) (f i : Nat) (h : ¬ i < s.size) : vfrom s f i = true := by
 cases f with
 | zero => rfl
 | succ f => rw [vfrom,if_neg h]
theorem width_pos (s : ByteArray) (pos : Nat) (h : pos < s.size) : 1 ≤ (Utf8.decode s pos).2 := by
 by_cases ha : (s[pos]'h).toNat < 128
 ·rw [decode_ascii s pos h ha]
  exact Nat.le_refl _
 exact (decode_high s pos h (by omega)).2
theorem get_byte (s : ByteArray) (i : Nat) : (s.get! i).toNat = ((s.data.toList[i]?).map UInt8.toNat).getD 0 := by
 by_cases h : i < s.size
 ·have h2 : i < s.data.size := h
  have e : s.get! i = s.data[i] := by
   show s.data[i]! = _
   exact getElem!_pos s.data i h2
  rw [e,List.getElem?_eq_getElem (by simpa using h2)]
  simp
 have h2 : ¬ i < s.data.size := h
 have e : s.get! i = 0 := by
  show s.data[i]! = _
  exact getElem!_neg s.data i h2
 rw [e,List.getElem?_eq_none (by simpa using h2)]
 rfl
theorem decodeN_fffd (n b0 b1 b2 b3 : Nat) (h0 : b0 < 256) (hc : (Lib.decodeN n b0 b1 b2 b3).1 = 65533) :
  (Lib.decodeN n b0 b1 b2 b3).2 ≠ 1 ↔ (2 < n ∧ b0 = 239 ∧ b1 = 191 ∧ b2 = 189) := by
 revert hc
 unfold Lib.decodeN
 by_cases c0 : b0 < 128
 ·rw [if_pos c0]; intro hc; simp only at hc; omega
 rw [if_neg c0]
 by_cases c1 : b0 / 32 = 6 ∧ (1 < n ∧ b1 / 64 = 2)
 ·rw [if_pos c1]
  split
  ·intro hc; simp only at hc; omega
  intro _; simp; omega
 rw [if_neg c1]
 by_cases c2 : b0 / 16 = 14 ∧ (1 < n ∧ b1 / 64 = 2) ∧ (2 < n ∧ b2 / 64 = 2)
 ·rw [if_pos c2]
  split
  ·intro hc; simp only at hc; simp; omega
  intro _; simp; omega
 rw [if_neg c2]
 by_cases c3 : b0 / 8 = 30 ∧ (1 < n ∧ b1 / 64 = 2) ∧ (2 < n ∧ b2 / 64 = 2) ∧ (3 < n ∧ b3 / 64 = 2)
 ·rw [if_pos c3]
  split
  ·intro hc; simp only at hc; omega
  intro _; simp; omega
 rw [if_neg c3]
 intro _; simp; omega
theorem take3_iff (l : List UInt8) (pos : Nat) : (l.drop pos).take 3 = [239,191,189] ↔
  (pos + 2 < l.length ∧ ((l[pos]?).map UInt8.toNat).getD 0 = 239 ∧ ((l[pos + 1]?).map UInt8.toNat).getD 0 = 191 ∧ ((l[pos + 2]?).map UInt8.toNat).getD 0 = 189) := by
 constructor
 ·intro h
  have hlen := congrArg List.length h
  simp only [List.length_take,List.length_drop,List.length_cons,List.length_nil] at hlen
  have e : ∀ j,j < 3 → l[pos + j]? = ([239,191,189] : List UInt8)[j]? := by
   intro j hj
   rw [← h,List.getElem?_take,if_pos hj,List.getElem?_drop]
  have e0 := e 0 (by omega)
  have e1 := e 1 (by omega)
  have e2 := e 2 (by omega)
  simp only [Nat.add_zero] at e0
  rw [e0,e1,e2]
  exact ⟨by omega,rfl,rfl,rfl⟩
 rintro ⟨hl,h0,h1,h2⟩
 rw [List.getElem?_eq_getElem (by omega)] at h0 h1 h2
 simp only [Option.map_some,Option.getD_some] at h0 h1 h2
 rw [List.drop_eq_getElem_cons (by omega),List.drop_eq_getElem_cons (by omega),List.drop_eq_getElem_cons (by omega)]
 simp only [List.take_succ_cons,List.take_zero]
 have f0 : l[pos] = 239 := UInt8.toNat_inj.1 h0
 have f1 : l[pos + 1] = 191 := UInt8.toNat_inj.1 h1
 have f2 : l[pos + 1 + 1] = 189 := UInt8.toNat_inj.1 h2
 rw [f0,f1,f2]
theorem fffd_iff (s : ByteArray) (pos : Nat) (hc : (Utf8.decode s pos).1 = 65533) : (s.data.toList.drop pos).take 3 = [239,191,189] ↔ ¬ (Utf8.decode s pos).2 = 1 := by
 have hb : ∀ i,(s.get! i).toNat < 256 := fun i => (s.get! i).toNat_lt
 rw [Lib.decode_at] at hc ⊢
 rw [show (¬ (Lib.decodeN (s.size - pos) (s.get! pos).toNat (s.get! (pos + 1)).toNat (s.get! (pos + 2)).toNat (s.get! (pos + 3)).toNat).2 = 1) ↔ _ from decodeN_fffd _ _ _ _ _ (hb _) hc,take3_iff,← get_byte,← get_byte,← get_byte]
 have : s.data.toList.length = s.size := rfl
 rw [this]
 constructor
 ·rintro ⟨a,b⟩; exact ⟨by omega,b⟩
 rintro ⟨a,b⟩; exact ⟨by omega,b⟩
end Go.Proofs.YtjgeedgphcjhoaaGreat
namespace Go.Proofs.YtjgeedgphcjhoaaGreat
open Go.RowKit
set_option maxHeartbeats 400000 in
theorem begins_any (x : ByteArray) (w : World) (hx : x.size ≤ 9223372036854775807) :
  Calls Tryz.prog 212 #[.string x,.string ⟨#[239,191,189]⟩] w fun e w' => e = .returned (.bool (decide (x.data.toList.take 3 = [239,191,189]))) ∧ w = w' := by
 by_cases h3 : 3 ≤ x.size
 ·have hd : decide ((3 : Int) ≤ (x.size : Int)) = true := by simp; omega
  go_enter Tryz.func212,Tryz.ntmps212
  go_wp2
  go_ret
  refine ⟨?_,rfl⟩
  show Ending.returned (.bool ((x.extract 0 3).toList == [239,191,189])) = _
  rw [Lib.extract_toList]
  simp only [List.drop_zero,Nat.sub_zero]
  congr 2
  rw [Bool.eq_iff_iff]
  simp
 have hd : decide ((3 : Int) ≤ (x.size : Int)) = false := by simp; omega
 go_enter Tryz.func212,Tryz.ntmps212
 go_wp2
 go_ret
 refine ⟨?_,rfl⟩
 have : ¬ (x.data.toList.take 3 = [239,191,189]) := by
  intro h
  have hl := congrArg List.length h
  have e : x.data.toList.length = x.size := rfl
  rw [List.length_take,e] at hl
  simp at hl
  omega
 show Ending.returned (.bool false) = _
 simp [this]
set_option maxHeartbeats 1600000 in
theorem Valid_any (s : ByteArray) (w : World) (hs : s.size ≤ 9223372036854775807) :
  Calls Tryz.prog 147 #[.string s] w fun e w' => e = .returned (.bool (vfrom s s.size 0)) ∧ Below w.heap.size w w' := by
 go_enter Tryz.func147,Tryz.ntmps147
 go_wp2
 go_loopw [3,4] (fun _ _ wr => ∃ (pos fuel : Nat),wr.heap[w.heap.size]? = some (.stringIter s pos) ∧ Below w.heap.size w wr ∧ s.size ≤ pos + fuel ∧ vfrom s s.size 0 = vfrom s fuel pos) (fun _ _ wr => s.size - wr.iterPos w.heap.size)
 case atStart => exact ⟨0,s.size,World.iter_heap w s 0,(Below.refl _ w).alloc (Nat.le_refl _) _,by omega,rfl⟩
 obtain ⟨pos,fuel,hit,hbw,hfu,hv⟩ := hrel
 have hsz : w.heap.size < wr.heap.size := (Array.getElem?_eq_some_iff.1 hit).1
 have HV := hid hv
 clear hv
 by_cases hp : pos < s.size
 ·have hnx : ∀ ty,(Instr.next (.pointer (some ⟨w.heap.size,0,none⟩)) true ty).run Tryz.prog wr = _ := fun ty => Lib.run_next_any_at wr w.heap.size s pos ty hit hp
  have hwd := width_pos s pos hp
  have hd1 := decode_le s pos
  have hit2 := Lib.iterAt_heap wr w.heap.size s pos (pos + (Utf8.decode s pos).2) hit
  have hbw2 := Lib.below_iterAt hbw (k := w.heap.size) (Nat.le_refl _) s (pos + (Utf8.decode s pos).2)
  obtain ⟨f,rfl⟩ : ∃ f,fuel = f + 1 := ⟨fuel - 1,by omega⟩
  by_cases hc : (Utf8.decode s pos).1 = 65533
  ·have hf := fffd_iff s pos hc
   have hx : (s.extract pos s.size).data.toList = s.data.toList.drop pos := by
    have e : s.data.toList.length = s.size := rfl
    rw [Lib.extract_data,List.take_of_length_le (by rw [List.length_drop,e]; omega)]
   have hxs : (s.extract pos s.size).size ≤ 9223372036854775807 := by
    have e : (s.extract pos s.size).size = (s.extract pos s.size).data.toList.length := rfl
    have e2 : s.data.toList.length = s.size := rfl
    rw [e,hx,List.length_drop,e2]; omega
   by_cases hw1 : (Utf8.decode s pos).2 = 1
   ·have hB : ∀ W,Calls Tryz.prog 212 #[.string (s.extract pos s.size),.string ⟨#[239,191,189]⟩] W fun e w' => e = .returned (.bool false) ∧ W = w' := fun W =>
     (begins_any _ W hxs).mono fun e w' ⟨h1,h2⟩ => ⟨by rw [h1,hx]; simp only [hf,hw1]; rfl,h2⟩
    have hstep : Hid (vfrom s (f + 1) pos = false) := hid (by rw [vfrom,if_pos hp,if_pos ⟨hc,hw1⟩])
    have HB := hid hB
    have hcb : (((Utf8.decode s pos).1 : Int) == 65533) = true := by simp; omega
    clear hB hf hx hxs hc hw1
    go_wp2_with (go_at_call 212; refine (HB.out _).mono ?_; rintro en w1 ⟨rfl,rfl⟩)
    go_ret
    exact ⟨by rw [HV.out,hstep.out]; rfl,hbw2⟩
   have hB : ∀ W,Calls Tryz.prog 212 #[.string (s.extract pos s.size),.string ⟨#[239,191,189]⟩] W fun e w' => e = .returned (.bool true) ∧ W = w' := fun W =>
    (begins_any _ W hxs).mono fun e w' ⟨h1,h2⟩ => ⟨by rw [h1,hx]; simp only [hf,hw1]; rfl,h2⟩
   have hstep : Hid (vfrom s (f + 1) pos = vfrom s f (pos + (Utf8.decode s pos).2)) := hid (by rw [vfrom,if_pos hp,if_neg (by rintro ⟨_,h⟩; exact hw1 h)])
   have HB := hid hB
   have hcb : (((Utf8.decode s pos).1 : Int) == 65533) = true := by simp; omega
   clear hB hf hx hxs hc hw1
   go_wp2_with (go_at_call 212; refine (HB.out _).mono ?_; rintro en w1 ⟨rfl,rfl⟩)
   refine ⟨⟨pos + (Utf8.decode s pos).2,f,hit2,hbw2,by omega,by rw [HV.out,hstep.out]⟩,?_⟩
   simp only [World.iterPos,hit,hit2]
   omega
  have hstep : Hid (vfrom s (f + 1) pos = vfrom s f (pos + (Utf8.decode s pos).2)) := hid (by rw [vfrom,if_pos hp,if_neg (by rintro ⟨h,_⟩; exact hc h)])
  have hcb : (((Utf8.decode s pos).1 : Int) == 65533) = false := by simp; omega
  have HC := hid hc
  clear hc
  go_wp2
  refine ⟨⟨pos + (Utf8.decode s pos).2,f,hit2,hbw2,by omega,by rw [HV.out,hstep.out]⟩,?_⟩
  simp only [World.iterPos,hit,hit2]
  omega
 have hnx : ∀ ty,(Instr.next (.pointer (some ⟨w.heap.size,0,none⟩)) true ty).run Tryz.prog wr = _ := fun ty => Lib.run_next_end_at wr w.heap.size s pos ty hit hp
 have HE := hid (vfrom_end s fuel pos hp)
 go_wp2
 go_ret
 exact ⟨by rw [HV.out,HE.out]; rfl,hbw⟩
end Go.Proofs.YtjgeedgphcjhoaaGreat
namespace Go.Proofs.YtjgeedgphcjhoaaGreat
open Go.RowKit
theorem isImport_any (s1 s2 : ByteArray) (kd ty tr tmn tmx : Int) (th : Bool) (mmn mmx : Int) (mh : Bool) (gt : Int) (gm : Bool) (w : World) (g1 : s1.size ≤ 4611686018427387904) (g2 : s2.size ≤ 4611686018427387904) :
  Calls Tryz.prog 33 #[.agg #[.string s1,.string s2,.int .i64 kd,.int .i64 ty,.int .i64 tr,.int .i64 tmn,.int .i64 tmx,.bool th,.int .i64 mmn,.int .i64 mmx,.bool mh,.int .i64 gt,.bool gm]] w fun e w' => e = .returned (.bool (impP kd ty tr tmn tmx th mmn mmx mh gt gm (vfrom s1 s1.size 0 && vfrom s2 s2.size 0))) ∧ Below w.heap.size w w' :=
 isImport_says s1 s2 kd ty tr tmn tmx th mmn mmx mh gt gm _ _ w (fun W => Valid_any s1 W (by omega)) (fun W => Valid_any s2 W (by omega))
end Go.Proofs.YtjgeedgphcjhoaaGreat
namespace Go.Proofs.YtjgeedgphcjhoaaGreat
open Go.RowKit
theorem if_chain (b1 b2 b3 r : Bool) : (if b1 = true then (if b2 = true then (if b3 = true then (r,()) else (false,())) else (false,())) else (false,())) = (b1 && b2 && b3 && r,()) := by
 cases b1 <;> cases b2 <;> cases b3 <;> rfl
theorem code_ev : ∀ (f : Fo) (d : Int),1 ≤ d → d ≤ 501 → evF codeSt f d () = ((onesB f && decide (d - 1 + (f.nst : Int) ≤ 500)),())
 | .nil,d,h,h2 => by
  refine Prod.ext (Bool.eq_iff_iff.2 ?_) rfl
  simp [evF,onesB,Fo.nst]
  omega
 | .cons op a b n hh l ot body els rest,d,h,h2 => by
  have hX : (Fo.cons op a b n hh l ot body els rest).nst = max (max body.nst els.nst + 1) rest.nst := rfl
  generalize (Fo.cons op a b n hh l ot body els rest).nst = X at *
  by_cases hd : d ≤ 500
  ·rw [evF_cons codeSt op a b n hh l ot body els rest d () (decide (d ≤ 500) && insB op a b n hh l ot body.len els.len) () rfl _ _ (code_ev body (d + 1) (by omega) (by omega)) _ _ (code_ev els (d + 1) (by omega) (by omega)),code_ev rest d h h2]
   refine (if_chain _ _ _ _).trans ?_
   rw [show decide (d ≤ 500) = true by simpa using hd]
   refine Prod.ext (Bool.eq_iff_iff.2 ?_) rfl
   simp only [onesB,Bool.true_and,Bool.and_eq_true,decide_eq_true_eq]
   constructor
   ·rintro ⟨⟨⟨h1,h2,h3⟩,h4,h5⟩,h6,h7⟩
    exact ⟨⟨⟨⟨h1,h2⟩,h4⟩,h6⟩,by omega⟩
   rintro ⟨⟨⟨⟨h1,h2⟩,h4⟩,h6⟩,h⟩
   exact ⟨⟨⟨h1,h2,by omega⟩,h4,by omega⟩,h6,by omega⟩
  have : d = 501 := by omega
  subst this
  rw [evF_cons codeSt op a b n hh l ot body els rest 501 () false () (by simp [codeSt]) _ _ rfl _ _ rfl]
  refine Prod.ext (Bool.eq_iff_iff.2 ?_) rfl
  simp only [onesB,Bool.and_eq_true,decide_eq_true_eq]
  constructor
  ·intro h; simp at h
  rintro ⟨_,h⟩; exact absurd h (by omega)
theorem code_eq (f : Fo) : codeB f = (onesB f && decide ((f.nst : Int) ≤ 500)) := by
 unfold codeB
 rw [code_ev f 1 (by decide) (by decide)]
 simp
end Go.Proofs.YtjgeedgphcjhoaaGreat
namespace Go.Proofs.YtjgeedgphcjhoaaGreat
open Go.RowKit
theorem range_all_snoc (P : Nat → Bool) (i : Nat) : (List.range (i + 1)).all P = ((List.range i).all P && P i) := by
 rw [List.range_succ,List.all_append]
 simp
end Go.Proofs.YtjgeedgphcjhoaaGreat
namespace Go.Proofs.YtjgeedgphcjhoaaGreat
open Go.RowKit
structure FitM (M : MD) : Prop where
 tn : M.tn ≤ 100
 imn : M.imn ≤ 100
 fn : M.fn ≤ 50
 tbn : M.tbn ≤ 100
 mn : M.mn ≤ 100
 gn : M.gn ≤ 50
 xn : M.xn ≤ 100
 en : M.en ≤ 50
 dn : M.dn ≤ 50
 t : ∀ i,i < M.tn → (M.t i).a.length ≤ 1000 ∧ (M.t i).b.length ≤ 1000
 im : ∀ i,i < M.imn → (M.im i).s0.size ≤ 1000 ∧ (M.im i).s1.size ≤ 1000
 x : ∀ i,i < M.xn → (M.x i).s.size ≤ 1000
 f : ∀ i,i < M.fn → 0 ≤ wg (M.f i).f 0 3000 ∧ (M.f i).l.length ≤ 60000
 g : ∀ i,i < M.gn → 0 ≤ wg (M.g i).f 0 3000
 e : ∀ i,i < M.en → 0 ≤ wg (M.e i).f 0 3000 ∧ (M.e i).ng ≤ 100
 ek : ∀ i,i < M.en → ∀ k,k < (M.e i).ng → 0 ≤ wg ((M.e i).g k) 0 3000
 d : ∀ i,i < M.dn → 0 ≤ wg (M.d i).f 0 3000 ∧ (M.d i).b.length ≤ 100000
theorem few_lt {f : Fo} (h : 0 ≤ wg f 0 3000) : f.cnt < 9223372036854775806 := by have := few_cnt f h; omega
theorem nil_ofM {b : Bool} {W w' : World} {e : Ending} (h : e = .returned (.bool b) ∧ W = w') : e = .returned (.bool b) ∧ Below W.heap.size W w' := ⟨h.1,h.2 ▸ Below.refl _ _⟩
theorem str_le {s : ByteArray} (h : s.size ≤ reachBytes) : s.size ≤ 4611686018427387904 := by simp [reachBytes] at h; omega
def nmB (s : ByteArray) : Bool := vfrom s s.size 0
def mtP (e : ETyp) : Bool := e.a.all valB && e.b.all valB
def miP (e : EImp) : Bool := impP e.kd e.ty e.tr e.tmn e.tmx e.th e.mmn e.mmx e.mh e.gt e.gm (nmB e.s0 && nmB e.s1)
noncomputable def mfP (e : EFun) : Bool := idxB e.ty && decide ((e.l.length : Int) ≤ 50000) && e.l.all valB && codeB e.f
def mbP (e : ETab) : Bool := refB e.r && limB e.mn e.mx e.h
def mlP (e : ELim) : Bool := limB e.mn e.mx e.h
noncomputable def mgP (e : EGlo) : Bool := valB e.t && codeB e.f
def mxP (e : EExp) : Bool := kindB e.k && (idxB e.ix && nmB e.s)
noncomputable def meP (e : EElm) : Bool := refB e.r && (List.range e.ng).all (fun k => codeB (e.g k)) && placeB e.m e.t (codeB e.f) e.f.len 2
noncomputable def mdP (e : EDat) : Bool := placeB e.m e.t (codeB e.f) e.f.len 1
noncomputable def mayP (M : MD) : Bool := (List.range M.tn).all (fun i => mtP (M.t i)) && (List.range M.imn).all (fun i => miP (M.im i)) && (List.range M.fn).all (fun i => mfP (M.f i)) && (List.range M.tbn).all (fun i => mbP (M.tb i)) && (List.range M.mn).all (fun i => mlP (M.m i)) && (List.range M.gn).all (fun i => mgP (M.g i)) && (List.range M.xn).all (fun i => mxP (M.x i)) && decide (IntKind.u64.wrap M.st ≤ 4294967296) && (List.range M.en).all (fun i => meP (M.e i)) && (List.range M.dn).all (fun i => mdP (M.d i)) && (M.cnt || (List.range M.fn).all (fun i => dataB (M.f i).f))
section
variable {M : MD} {w : World}
theorem q_t (h : M.ok w.heap.size w) (W : World) (hW : Below w.heap.size w W) : Calls Tryz.prog 30 #[.slice M.tp M.tn M.tc,.func (.func 31) #[] #[]] W fun e w' => e = .returned (.bool ((List.range M.tn).all (fun i => mtP (M.t i)))) ∧ Below W.heap.size W w' := by
 have hM := (h.below hW).mono hW.size
 by_cases h0 : M.tn = 0
 ·rw [h0]
  exact (all_nil_22 31 M.tp M.tc W).mono fun e w' h => nil_ofM h
 obtain ⟨hp,hg⟩ := hM.tr.2.1 h0
 rw [hp]
 exact all_ft 31 (fun _ _ => rfl) (fun i => mtP (M.t i)) M.tn M.tg M.tw M.tc (fun i => (M.t i).pa) (fun i => (M.t i).a.length) (fun i => (M.t i).ca) (fun i => (M.t i).pb) (fun i => (M.t i).b.length) (fun i => (M.t i).cb) W hg hM.tr.1
  (fun i hi => ⟨hM.tr.2.2 i hi 0 _ rfl,hM.tr.2.2 i hi 1 _ rfl⟩)
  (fun i hi W' hW' => isFT_says (M.t i).a (M.t i).b (M.t i).pa (M.t i).pb (M.t i).ca (M.t i).cb W.heap.size W' hW'.size ((hM.tz i hi).below hW').h0.1 ((hM.tz i hi).below hW').h1.1)
theorem q_im (h : M.ok w.heap.size w) (W : World) (hW : Below w.heap.size w W) : Calls Tryz.prog 32 #[.slice M.imp M.imn M.imc,.func (.func 33) #[] #[]] W fun e w' => e = .returned (.bool ((List.range M.imn).all (fun i => miP (M.im i)))) ∧ Below W.heap.size W w' := by
 have hM := (h.below hW).mono hW.size
 exact all_imp 33 (fun _ _ => rfl) (fun i => miP (M.im i)) M.imn M.img M.imw M.imc (fun i => (M.im i).s0) (fun i => (M.im i).s1) (fun i => (M.im i).kd) (fun i => (M.im i).ty) (fun i => (M.im i).tr) (fun i => (M.im i).tmn) (fun i => (M.im i).tmx) (fun i => (M.im i).th) (fun i => (M.im i).mmn) (fun i => (M.im i).mmx) (fun i => (M.im i).mh) (fun i => (M.im i).gt) (fun i => (M.im i).gm) W
  (fun hn => (hM.imr.2.1 hn).2) hM.imr.1 M.imp (fun hn => (hM.imr.2.1 hn).1)
  (fun i hi => ⟨hM.imr.2.2 i hi 0 _ rfl,hM.imr.2.2 i hi 1 _ rfl,hM.imr.2.2 i hi 2 _ rfl,hM.imr.2.2 i hi 3 _ rfl,hM.imr.2.2 i hi 4 _ rfl,hM.imr.2.2 i hi 5 _ rfl,hM.imr.2.2 i hi 6 _ rfl,hM.imr.2.2 i hi 7 _ rfl,hM.imr.2.2 i hi 8 _ rfl,hM.imr.2.2 i hi 9 _ rfl,hM.imr.2.2 i hi 10 _ rfl,hM.imr.2.2 i hi 11 _ rfl,hM.imr.2.2 i hi 12 _ rfl⟩)
  (fun i hi W' hW' => isImport_any _ _ _ _ _ _ _ _ _ _ _ _ _ W' (str_le (hM.imz i hi).h0) (str_le (hM.imz i hi).h1))
theorem q_f (h : M.ok w.heap.size w) (hf : FitM M) (W : World) (hW : Below w.heap.size w W) : Calls Tryz.prog 34 #[.slice M.fp M.fn M.fc,.func (.func 35) #[] #[]] W fun e w' => e = .returned (.bool ((List.range M.fn).all (fun i => mfP (M.f i)))) ∧ Below W.heap.size W w' := by
 have hM := (h.below hW).mono hW.size
 by_cases h0 : M.fn = 0
 ·rw [h0]
  exact (all_nil_26 35 M.fp M.fc W).mono fun e w' h => nil_ofM h
 obtain ⟨hp,hg⟩ := hM.fr.2.1 h0
 rw [hp]
 exact all_code 35 (fun _ _ => rfl) (fun i => mfP (M.f i)) M.fn M.fg M.fw M.fc (fun i => (M.f i).ty) (fun i => (M.f i).pl) (fun i => (M.f i).l.length) (fun i => (M.f i).cl) (fun i => (M.f i).pf) (fun i => (M.f i).f.len) (fun i => (M.f i).cf) W hg hM.fr.1
  (fun i hi => ⟨hM.fr.2.2 i hi 0 _ rfl,hM.fr.2.2 i hi 1 _ rfl,hM.fr.2.2 i hi 2 _ rfl⟩)
  (fun i hi W' hW' => isFunc_says (M.f i).ty (M.f i).l (M.f i).f (M.f i).pl (M.f i).pf (M.f i).cl (M.f i).cf W.heap.size W' (few_lt (hf.f i hi).1) hW'.size ((hM.fz i hi).below hW').h1.1 ((hM.fz i hi).below hW').h2.1)
theorem q_q (h : M.ok w.heap.size w) (hf : FitM M) (W : World) (hW : Below w.heap.size w W) : Calls Tryz.prog 34 #[.slice M.fp M.fn M.fc,.func (.func 49) #[] #[]] W fun e w' => e = .returned (.bool ((List.range M.fn).all (fun i => dataB (M.f i).f))) ∧ Below W.heap.size W w' := by
 have hM := (h.below hW).mono hW.size
 by_cases h0 : M.fn = 0
 ·rw [h0]
  exact (all_nil_26 49 M.fp M.fc W).mono fun e w' h => nil_ofM h
 obtain ⟨hp,hg⟩ := hM.fr.2.1 h0
 rw [hp]
 exact all_code 49 (fun _ _ => rfl) (fun i => dataB (M.f i).f) M.fn M.fg M.fw M.fc (fun i => (M.f i).ty) (fun i => (M.f i).pl) (fun i => (M.f i).l.length) (fun i => (M.f i).cl) (fun i => (M.f i).pf) (fun i => (M.f i).f.len) (fun i => (M.f i).cf) W hg hM.fr.1
  (fun i hi => ⟨hM.fr.2.2 i hi 0 _ rfl,hM.fr.2.2 i hi 1 _ rfl,hM.fr.2.2 i hi 2 _ rfl⟩)
  (fun i hi W' hW' => isDataless_says (M.f i).ty (M.f i).f (M.f i).pl (M.f i).pf _ (M.f i).cl (M.f i).cf W.heap.size W' (few_lt (hf.f i hi).1) hW'.size ((hM.fz i hi).below hW').h2.1)
theorem q_tb (h : M.ok w.heap.size w) (W : World) (hW : Below w.heap.size w W) : Calls Tryz.prog 36 #[.slice M.tbp M.tbn M.tbc,.func (.func 37) #[] #[]] W fun e w' => e = .returned (.bool ((List.range M.tbn).all (fun i => mbP (M.tb i)))) ∧ Below W.heap.size W w' := by
 have hM := (h.below hW).mono hW.size
 exact all_tab 37 (fun _ _ => rfl) (fun i => mbP (M.tb i)) M.tbn M.tbg M.tbw M.tbc (fun i => (M.tb i).r) (fun i => (M.tb i).mn) (fun i => (M.tb i).mx) (fun i => (M.tb i).h) W
  (fun hn => (hM.tbr.2.1 hn).2) hM.tbr.1 M.tbp (fun hn => (hM.tbr.2.1 hn).1)
  (fun i hi => ⟨hM.tbr.2.2 i hi 0 _ rfl,hM.tbr.2.2 i hi 1 _ rfl,hM.tbr.2.2 i hi 2 _ rfl,hM.tbr.2.2 i hi 3 _ rfl⟩)
  (fun i hi W' hW' => isTableType_says _ _ _ _ W')
theorem q_m (h : M.ok w.heap.size w) (W : World) (hW : Below w.heap.size w W) : Calls Tryz.prog 38 #[.slice M.mp M.mn M.mc,.func (.func 39) #[] #[]] W fun e w' => e = .returned (.bool ((List.range M.mn).all (fun i => mlP (M.m i)))) ∧ Below W.heap.size W w' := by
 have hM := (h.below hW).mono hW.size
 exact all_lim 39 (fun _ _ => rfl) (fun i => mlP (M.m i)) M.mn M.mg M.mw M.mc (fun i => (M.m i).mn) (fun i => (M.m i).mx) (fun i => (M.m i).h) W
  (fun hn => (hM.mr.2.1 hn).2) hM.mr.1 M.mp (fun hn => (hM.mr.2.1 hn).1)
  (fun i hi => ⟨hM.mr.2.2 i hi 0 _ rfl,hM.mr.2.2 i hi 1 _ rfl,hM.mr.2.2 i hi 2 _ rfl⟩)
  (fun i hi W' hW' => isLimits_says _ _ _ W')
theorem q_g (h : M.ok w.heap.size w) (hf : FitM M) (W : World) (hW : Below w.heap.size w W) : Calls Tryz.prog 40 #[.slice M.gp M.gn M.gc,.func (.func 41) #[] #[]] W fun e w' => e = .returned (.bool ((List.range M.gn).all (fun i => mgP (M.g i)))) ∧ Below W.heap.size W w' := by
 have hM := (h.below hW).mono hW.size
 exact all_var 41 (fun _ _ => rfl) (fun i => mgP (M.g i)) M.gn M.gg M.gw M.gc (fun i => (M.g i).t) (fun i => (M.g i).m) (fun i => (M.g i).pf) (fun i => (M.g i).f.len) (fun i => (M.g i).cf) W
  (fun hn => (hM.gr.2.1 hn).2) hM.gr.1 M.gp (fun hn => (hM.gr.2.1 hn).1)
  (fun i hi => ⟨hM.gr.2.2 i hi 0 _ rfl,hM.gr.2.2 i hi 1 _ rfl,hM.gr.2.2 i hi 2 _ rfl⟩)
  (fun i hi W' hW' => isGlobal_says _ _ (M.g i).f _ _ _ W.heap.size W' (few_lt (hf.g i hi)) hW'.size ((hM.gz i hi).below hW').h1.1)
theorem q_x (h : M.ok w.heap.size w) (W : World) (hW : Below w.heap.size w W) : Calls Tryz.prog 42 #[.slice M.xp M.xn M.xc,.func (.func 43) #[] #[]] W fun e w' => e = .returned (.bool ((List.range M.xn).all (fun i => mxP (M.x i)))) ∧ Below W.heap.size W w' := by
 have hM := (h.below hW).mono hW.size
 exact all_exp 43 (fun _ _ => rfl) (fun i => mxP (M.x i)) M.xn M.xg M.xw M.xc (fun i => (M.x i).s) (fun i => (M.x i).k) (fun i => (M.x i).ix) W
  (fun hn => (hM.xr.2.1 hn).2) hM.xr.1 M.xp (fun hn => (hM.xr.2.1 hn).1)
  (fun i hi => ⟨hM.xr.2.2 i hi 0 _ rfl,hM.xr.2.2 i hi 1 _ rfl,hM.xr.2.2 i hi 2 _ rfl⟩)
  (fun i hi W' hW' => isExport_says (M.x i).s (M.x i).k (M.x i).ix (nmB (M.x i).s) W' (fun W2 => Valid_any (M.x i).s W2 (by have := str_le (hM.xz i hi).h0; omega)))
theorem q_ei (h : M.ok w.heap.size w) (hf : FitM M) (i : Nat) (hi : i < M.en) (W : World) (hW : Below w.heap.size w W) : Calls Tryz.prog 150 #[.slice (M.e i).pg (M.e i).ng (M.e i).cg,.func (.func 148) #[] #[]] W fun e w' => e = .returned (.bool ((List.range (M.e i).ng).all (fun k => codeB ((M.e i).g k)))) ∧ Below W.heap.size W w' := by
 have hM := (((h.ez i hi).h4).below hW).mono hW.size
 exact all_il 148 (fun _ _ => rfl) (fun k => codeB ((M.e i).g k)) (M.e i).ng (M.e i).bg (M.e i).og (M.e i).cg (M.e i).qg (fun k => ((M.e i).g k).len) (M.e i).dg W
  (fun hn => (hM.1.2.1 hn).2) hM.1.1 (M.e i).pg (fun hn => (hM.1.2.1 hn).1)
  (fun k hk => by have := hM.1.2.2 k hk 0 _ rfl; simpa using this)
  (fun k hk W' hW' => isCode_says ((M.e i).g k) _ W.heap.size W' (few_lt (hf.ek i hi k hk)) hW'.size ((hM.2 k hk).below hW').1)
theorem q_e (h : M.ok w.heap.size w) (hf : FitM M) (W : World) (hW : Below w.heap.size w W) : Calls Tryz.prog 45 #[.slice M.ep M.en M.ec,.func (.func 46) #[] #[]] W fun e w' => e = .returned (.bool ((List.range M.en).all (fun i => meP (M.e i)))) ∧ Below W.heap.size W w' := by
 have hM := (h.below hW).mono hW.size
 exact all_elem 46 (fun _ _ => rfl) (fun i => meP (M.e i)) M.en M.eg M.ew M.ec (fun i => (M.e i).r) (fun i => (M.e i).m) (fun i => (M.e i).t) (fun i => (M.e i).pf) (fun i => (M.e i).f.len) (fun i => (M.e i).cf) (fun i => (M.e i).pg) (fun i => (M.e i).ng) (fun i => (M.e i).cg) W
  (fun hn => (hM.er.2.1 hn).2) hM.er.1 M.ep (fun hn => (hM.er.2.1 hn).1)
  (fun i hi => ⟨hM.er.2.2 i hi 0 _ rfl,hM.er.2.2 i hi 1 _ rfl,hM.er.2.2 i hi 2 _ rfl,hM.er.2.2 i hi 3 _ rfl,hM.er.2.2 i hi 4 _ rfl⟩)
  (fun i hi W' hW' => isElem_says _ _ _ _ _ _ _ _ _ (codeB (M.e i).f) _ W'
   (fun W2 hW2 => isCode_says (M.e i).f _ W'.heap.size W2 (few_lt (hf.e i hi).1) hW2.size (((((hM.ez i hi).below hW').mono hW'.size).below hW2).h3.1))
   (fun W2 hW2 => q_ei h hf i hi W2 (hW.trans ((hW'.trans (hW2.mono hW'.size)).mono hW.size))))
theorem q_d (h : M.ok w.heap.size w) (hf : FitM M) (W : World) (hW : Below w.heap.size w W) : Calls Tryz.prog 47 #[.slice M.dp M.dn M.dc,.func (.func 48) #[] #[]] W fun e w' => e = .returned (.bool ((List.range M.dn).all (fun i => mdP (M.d i)))) ∧ Below W.heap.size W w' := by
 have hM := (h.below hW).mono hW.size
 exact all_data 48 (fun _ _ => rfl) (fun i => mdP (M.d i)) M.dn M.dg M.dw M.dc (fun i => (M.d i).m) (fun i => (M.d i).t) (fun i => (M.d i).pf) (fun i => (M.d i).f.len) (fun i => (M.d i).cf) (fun i => (M.d i).pb) (fun i => (M.d i).b.length) (fun i => (M.d i).cb) W
  (fun hn => (hM.dr.2.1 hn).2) hM.dr.1 M.dp (fun hn => (hM.dr.2.1 hn).1)
  (fun i hi => ⟨hM.dr.2.2 i hi 0 _ rfl,hM.dr.2.2 i hi 1 _ rfl,hM.dr.2.2 i hi 2 _ rfl,hM.dr.2.2 i hi 3 _ rfl⟩)
  (fun i hi W' hW' => isData_says _ _ _ _ _ _ _ _ (M.d i).f rfl W.heap.size W' (few_lt (hf.d i hi).1) hW'.size ((hM.dz i hi).below hW').h2.1)
theorem May_M (h : M.ok w.heap.size w) (hf : FitM M) : Calls Tryz.prog 15 #[M.val] w fun e w' => e = .returned (.bool (mayP M)) ∧ Below w.heap.size w w' :=
 MayG_says _ _ _ _ _ _ _ _ _ _ _ _ _ _ _ _ _ _ _ _ _ _ _ _ _ _ _ _ _ _ _ _ _ _ _ _ _ _ _ M.st w (q_t h) (q_im h) (q_f h hf) (q_tb h) (q_m h) (q_g h hf) (q_x h) (fun W => isStart_says M.st W) (q_e h hf) (q_d h hf) (q_q h hf)
end
section
variable {M : MD} {w : World}
theorem start_eq (a : Int) (h : i64B a) : decide (IntKind.u64.wrap a ≤ 4294967296) = (decide (0 ≤ a) && decide (a ≤ 4294967296)) := by
 have h1 := h.1
 have h2 := h.2
 rw [Bool.eq_iff_iff]
 simp only [Bool.and_eq_true,decide_eq_true_eq]
 rw [show IntKind.u64.wrap a = a % 18446744073709551616 from rfl]
 omega
end
end Go.Proofs.YtjgeedgphcjhoaaGreat
namespace Go.Proofs.YtjgeedgphcjhoaaGreat
open Go.RowKit
set_option maxHeartbeats 800000 in
theorem U_in (B : Nat) (v : Value) (l : List UInt8) (x : Nat) (hx : x < 18446744073709551616) (w : World) (hv : BytesIn B w v l) (hB : B ≤ w.heap.size) (hl : l.length + 200 ≤ 140737488355328) :
  Calls Tryz.prog 177 #[v,.int .u64 x] w fun e w' => ∃ v',e = .returned v' ∧ w'.ownsRow w.heap.size 5 1 v' (l ++ ulist x).length (Lib.byteCells (l ++ ulist x)) ∧ Below w.heap.size w w' := by
 have hlen := ulist_length64 hx
 go_enter Tryz.func177,Tryz.ntmps177
 go_wp2_with (go_at_call 229; refine (copied_in B _ l 10 _ hv hB (by omega) (by omega)).mono ?_; rintro e w1 ⟨v1,rfl,hown1,hbel1⟩)
 go_loopw [1,5] (fun vx vb wr => ∃ (y : Nat) (pre : List UInt8),vx = .int .u64 y ∧ y ≤ x ∧ ulist x = pre ++ ulist y ∧ wr.ownsRow w.heap.size 5 1 vb (l.length + pre.length) (Lib.byteCells l ++ Lib.byteCells pre) ∧ Below w.heap.size w wr)
  (fun vx _ _ => (intOf vx).toNat)
 case atStart => exact ⟨x,[],rfl,Nat.le_refl _,rfl,by simpa [Lib.byteCells] using hown1,hbel1⟩
 obtain ⟨y,pre,rfl,hy,hsplit,hown1,hnx⟩ := hrel
 have hpl : pre.length + (ulist y).length ≤ 10 := by
  have h2 := congrArg List.length hsplit
  rw [List.length_append] at h2
  omega
 have hyp := ulist_pos y
 have hwr := hnx.size
 have HS := hid hsplit
 clear hsplit
 by_cases h128 : 128 ≤ y
 ·have hor : bits .or .u8 ((y : Int) % 256) 128 = ((y % 128 + 128 : Nat) : Int) := by
   rw [u8_or128 _ (by omega) (by omega)]
   omega
  go_wp2_with (at_builtin; refine append_byte rfl _ _ rfl w w.heap.size _ _ _ _ hown1 hnx hwr (by omega) rfl rfl ?_; intro v' w1 hown' hnx1 hsz1)
  go_roundw
  case rel =>
   refine ⟨y / 128,pre ++ [(y % 128 + 128).toUInt8],by go_num,by omega,by rw [HS.out,ulist_big h128]; simp,?_,hnx1⟩
   have ec : ((y % 128 + 128 : Nat) : Int) = (y : Int) % 128 + 128 := by omega
   rw [byteCells_snoc pre (by omega),List.length_append,List.length_singleton,← Nat.add_assoc,ec,← List.append_assoc]
   exact hown'
  case measure => simp [intOf]; omega
 have HM := hid (ulist_small (x := y) (by omega))
 go_wp2_with (at_builtin; refine append_byte rfl _ _ rfl w w.heap.size _ _ _ _ hown1 hnx hwr (by omega) rfl rfl ?_; intro v' w1 hown' hnx1 hsz1)
 go_ret
 refine ⟨v',rfl,?_,hnx1⟩
 rw [HS.out,HM.out,Lib.byteCells_append,byteCells_snoc pre (by omega)]
 simp only [List.length_append,List.length_singleton,← List.append_assoc] at hown' ⊢
 exact hown'
set_option maxHeartbeats 1600000 in
theorem S_in (B : Nat) (v : Value) (l : List UInt8) (x : Int) (hx0 : -9223372036854775808 ≤ x) (hx : x ≤ 9223372036854775807) (w : World) (hv : BytesIn B w v l) (hB : B ≤ w.heap.size) (hl : l.length + 200 ≤ 140737488355328) :
  Calls Tryz.prog 267 #[v,.int .i64 x] w fun e w' => ∃ v',e = .returned v' ∧ w'.ownsRow w.heap.size 5 1 v' (l ++ slist x).length (Lib.byteCells (l ++ slist x)) ∧ Below w.heap.size w w' := by
 have hlen := slist_length64 hx0 hx
 go_enter Tryz.func267,Tryz.ntmps267
 go_wp2_with (go_at_call 229; refine (copied_in B _ l 10 _ hv hB (by omega) (by omega)).mono ?_; rintro e w1 ⟨v1,rfl,hown1,hbel1⟩)
 go_loopw [1,5] (fun vx vb wr => ∃ (y : Int) (pre : List UInt8),vx = .int .i64 y ∧ -9223372036854775808 ≤ y ∧ y ≤ 9223372036854775807 ∧ slist x = pre ++ slist y ∧ wr.ownsRow w.heap.size 5 1 vb (l.length + pre.length) (Lib.byteCells l ++ Lib.byteCells pre) ∧ Below w.heap.size w wr)
  (fun vx _ _ => (intOf vx).natAbs)
 case atStart => exact ⟨x,[],rfl,hx0,hx,rfl,by simpa [Lib.byteCells] using hown1,hbel1⟩
 obtain ⟨y,pre,rfl,hy0,hy,hsplit,hown1,hnx⟩ := hrel
 have hpl : pre.length + (slist y).length ≤ 10 := by
  have h2 := congrArg List.length hsplit
  rw [List.length_append] at h2
  omega
 have hyp := slist_pos y
 have hwr := hnx.size
 have HS := hid hsplit
 clear hsplit
 obtain ⟨d,hd⟩ : ∃ d : Nat,y % 128 = (d : Int) := ⟨(y % 128).toNat,by omega⟩
 have hdl : d < 128 := by omega
 have HD := hid hd
 by_cases hsm : -64 ≤ y ∧ y < 64
 ·obtain ⟨h1,h2⟩ := hsm
  have hand : bits .and .u8 ((y : Int) % 256) 127 = (d : Int) := by
   rw [u8_and127 _ (by omega) (by omega)]
   omega
  have hd1 : decide (y < -64) = false := by simp; omega
  have hd2 : decide (63 < y) = false := by simp; omega
  have HM := hid (slist_small (m := y) ⟨h1,h2⟩)
  clear hd
  go_wp2_with (at_builtin; refine append_byte rfl _ _ rfl w w.heap.size _ _ _ _ hown1 hnx hwr (by omega) rfl rfl ?_; intro v' w1 hown' hnx1 hsz1)
  go_ret
  refine ⟨v',rfl,?_,hnx1⟩
  rw [HS.out,HM.out,Lib.byteCells_append,HD.out,Int.toNat_natCast,byteCells_snoc pre (by omega)]
  simp only [List.length_append,List.length_singleton,← List.append_assoc] at hown' ⊢
  exact hown'
 have hor : bits .or .u8 ((y : Int) % 256) 128 = (d : Int) + 128 := by
  rw [u8_or128 _ (by omega) (by omega)]
  omega
 have HB := hid (slist_big hsm)
 rcases (show y < -64 ∨ 63 < y by omega) with hneg | hneg
 all_goals
  first
   | have hd1 : decide (y < -64) = true := by simp; omega
   | have hd1 : decide (y < -64) = false := by simp; omega
  first
   | have hd2 : decide (63 < y) = true := by simp; omega
   | have hd2 : decide (63 < y) = false := by simp; omega
  clear hsm hd
  go_wp2_with (at_builtin; refine append_byte rfl _ _ rfl w w.heap.size _ _ _ _ hown1 hnx hwr (by omega) rfl rfl ?_; intro v' w1 hown' hnx1 hsz1)
  go_roundw
  case rel =>
   refine ⟨y / 128,pre ++ [(d + 128).toUInt8],by go_num,by omega,by omega,by rw [HS.out,HB.out,HD.out,Int.toNat_natCast]; simp,?_,hnx1⟩
   rw [byteCells_snoc pre (by omega),List.length_append,List.length_singleton,← Nat.add_assoc,← List.append_assoc,Int.natCast_add]
   exact hown'
  case measure => simp [intOf]; omega
set_option maxHeartbeats 800000 in
theorem Name_in (B : Nat) (v : Value) (l : List UInt8) (s : ByteArray) (w : World) (hv : BytesIn B w v l) (hB : B ≤ w.heap.size) (hl : l.length + s.size + 400 ≤ 140737488355328) :
  Calls Tryz.prog 228 #[v,.string s] w fun e w' => ∃ v',e = .returned v' ∧ w'.ownsRow w.heap.size 5 1 v' (l ++ ulist s.size ++ s.data.toList).length (Lib.byteCells (l ++ ulist s.size ++ s.data.toList)) ∧ Below w.heap.size w w' := by
 have hlen := ulist_length64 (x := s.size) (by omega)
 go_enter Tryz.func228,Tryz.ntmps228
 obtain ⟨i0,hi,hz0,hz1,hz2⟩ := info_parts info5
 have hap : (l ++ ulist s.size).length = l.length + (ulist s.size).length := List.length_append
 have HA := hid hap
 clear hap
 go_wp2_with (first
  | (go_at_call 177; refine (U_in B _ l s.size (by omega) _ hv hB (by omega)).mono ?_; rintro e w1 ⟨v1,rfl,hown1,hbel1⟩)
  | (at_builtin; refine Lib.wpList_append_own_string _ rfl (.tmp 9) (.tmp 10) 52 9 rfl w.heap.size 5 i0 Tryz.underlying52 Tryz.underlying9 hi hz0 hz1 hz2 v1 (l ++ ulist s.size).length (Lib.byteCells (l ++ ulist s.size)) rfl hown1 s rfl (by rw [HA.out]; unfold maxLen; omega) (by rw [HA.out]; omega) hbel1.size ?_; intro v2 w2 hown2 hgrow2 _))
 go_ret
 refine ⟨v2,rfl,?_,hbel1.grown hgrow2 hbel1.size (fun k hk => (hown1.lt k hk).1)⟩
 rw [Lib.strCells_eq] at hown2
 have e : (l ++ ulist s.size ++ s.data.toList).length = (l ++ ulist s.size).length + s.size := by rw [List.length_append]; rfl
 rw [e,Lib.byteCells_append (l ++ ulist s.size)]
 exact hown2
end Go.Proofs.YtjgeedgphcjhoaaGreat
