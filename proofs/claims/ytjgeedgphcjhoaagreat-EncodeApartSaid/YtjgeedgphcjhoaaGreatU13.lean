/-
  WBase, WBytes, WU, WOp: merged, what the law does not reach left out (each text says what it holds where it lies in wip). No condition.
-/
import Derived.Test.YtjgeedgphcjhoaaGreatU12
import Derived.Test.YtjgeedgphcjhoaaGreatU01
import Derived.Lib.AppendStr
import Derived.Test.YtjgeedgphcjhoaaGreatU02
import Derived.Lib.Builder
import Derived.Laws.AppendOwn
import Derived.Deep.DeepCutAuto
import Derived.Deep.RegionHeld3
import Derived.Shelf.Abstract
set_option linter.unusedSimpArgs false
set_option linter.unusedVariables false
set_option maxRecDepth 100000
namespace Go.Proofs.YtjgeedgphcjhoaaGreat
open Go.RowKit
theorem own_kept {w w' : World} {base : Nat} {v : Value} {n : Nat} {xs : List Value} (h : w.ownsRow base 5 1 v n xs) (hb : Below w.heap.size w w') : w'.ownsRow base 5 1 v n xs := by
 refine ⟨h.1,?_⟩
 rcases h.2 with h2 | ⟨g,cap,cur,h1,h2,h3,h4⟩
 ·exact .inl h2
 exact .inr ⟨g,cap,cur,h1,h2,(hb.block g (Array.getElem?_eq_some_iff.1 h3).1).trans h3,h4⟩
def NR (g : Nat) (w : World) (k : Nat) : Prop := ∀ u,w.cell? ⟨g,0,none⟩ = some u → u.ownBlock ≠ some k
def NW (B g : Nat) (w : World) (k : Nat) : Prop := k ≠ g ∧ k < w.heap.size ∧ (k < B ∨ (∃ cs T fr,w.heap[k]? = some (.cells cs T fr) ∧ T ≠ 5) ∨ (g < w.heap.size ∧ NR g w k))
structure FR (B g : Nat) (w w' : World) : Prop where
 os : w'.os = w.os
 tape : w'.tape = w.tape
 output : w'.output = w.output
 size : w.heap.size ≤ w'.heap.size
 block : ∀ k,NW B g w k → w'.heap[k]? = w.heap[k]?
 own : g < w.heap.size → ∀ k,k < w.heap.size → NR g w k → NR g w' k
theorem FR.refl (B g : Nat) (w : World) : FR B g w w := ⟨rfl,rfl,rfl,Nat.le_refl _,fun _ _ => rfl,fun _ _ _ h => h⟩
theorem FR.nw {B g : Nat} {w w' : World} (h : FR B g w w') {k : Nat} (hk : NW B g w k) : NW B g w' k := by
 refine ⟨hk.1,Nat.lt_of_lt_of_le hk.2.1 h.size,?_⟩
 rcases hk.2.2 with h2 | ⟨cs,T,fr,h2,h3⟩ | ⟨h2,h3⟩
 ·exact .inl h2
 ·exact .inr (.inl ⟨cs,T,fr,(h.block k hk).trans h2,h3⟩)
 exact .inr (.inr ⟨Nat.lt_of_lt_of_le h2 h.size,h.own h2 k hk.2.1 h3⟩)
theorem FR.trans {B g : Nat} {a b c : World} (h : FR B g a b) (k : FR B g b c) : FR B g a c :=
 ⟨k.os.trans h.os,k.tape.trans h.tape,k.output.trans h.output,Nat.le_trans h.size k.size,fun i hi => (k.block i (h.nw hi)).trans (h.block i hi),fun hg i hi hn => k.own (Nat.lt_of_lt_of_le hg h.size) i (Nat.lt_of_lt_of_le hi h.size) (h.own hg i hi hn)⟩
theorem NR.below {g k : Nat} {w w' : World} (h : NR g w k) (hb : w'.heap[g]? = w.heap[g]?) : NR g w' k := fun u hu => h u (by rw [← World.cell?_of_block (a := ⟨g,0,none⟩) hb]; exact hu)
theorem FR.of {B g : Nat} {w w' : World} (h : Below w.heap.size w w') : FR B g w w' := ⟨h.os,h.tape,h.output,h.size,fun k hk => h.block k hk.2.1,fun hg k _ hn => hn.below (h.block g hg)⟩
theorem FR.alloc {B g : Nat} {a w : World} (h : FR B g a w) (o : Obj) : FR B g a (w.alloc o) := h.trans (FR.of ((Below.refl _ _).alloc (Nat.le_refl _) o))
theorem FR.drew {B g : Nat} {a w : World} (h : FR B g a w) : FR B g a w.drew := ⟨h.os,h.tape,h.output,h.size,h.block,h.own⟩
def lo (B g : Nat) : Nat := min B g
theorem lo_B (B g : Nat) : lo B g ≤ B := Nat.min_le_left _ _
theorem lo_g (B g : Nat) : lo B g ≤ g := Nat.min_le_right _ _
theorem le_lo {n B g : Nat} (h1 : n ≤ B) (h2 : n ≤ g) : n ≤ lo B g := Nat.le_min.2 ⟨h1,h2⟩
theorem FR.belowL {B g : Nat} {w w' : World} (h : FR B g w w') (hB : B ≤ w.heap.size) : Below (lo B g) w w' :=
 ⟨h.os,h.tape,h.output,h.size,fun k hk => h.block k ⟨by have := lo_g B g; omega,by have := lo_B B g; omega,.inl (by have := lo_B B g; omega)⟩⟩
theorem FR.below {B g : Nat} {w w' : World} (h : FR B g w w') (hg : B ≤ g) (hB : B ≤ w.heap.size) : Below B w w' :=
 ⟨h.os,h.tape,h.output,h.size,fun k hk => h.block k ⟨by omega,by omega,.inl hk⟩⟩
theorem FR.put {B g : Nat} {a w : World} (h : FR B g a w) {z : Value} (hz : w.cell? ⟨g,0,none⟩ = some z) (v : Value) (hv : ∀ k,k < a.heap.size → NR g a k → v.ownBlock ≠ some k) : FR B g a (w.setCell ⟨g,0,none⟩ v) := by
 refine ⟨h.os,h.tape,h.output,by simpa [World.setCell] using h.size,fun i hi => ?_,fun hg k hk hn u hu => ?_⟩
 ·rw [Below.heap_setCell _ _ _ _ (fun e => hi.1 (by rw [e]))]
  exact h.block i hi
 have hv' := hv k hk hn
 rw [World.cell?_setCell_same w ⟨g,0,none⟩ v hz] at hu
 obtain rfl := Option.some.inj hu
 exact hv'
theorem NW.not_row {B g k : Nat} {w : World} {v : Value} {n : Nat} {xs : List Value} (h : NW B g w k) (ho : w.ownsRow B 5 1 v n xs) (hc : w.cell? ⟨g,0,none⟩ = some v) : v.ownBlock ≠ some k := by
 rcases h.2.2 with h2 | ⟨cs,T,fr,h2,h3⟩ | ⟨_,h3⟩
 ·intro e
  have := (ho.lt k e).1
  omega
 ·exact Lib.ownBlock_ne ho h2 h3
 exact h3 v hc
theorem FR.grown {B g : Nat} {w w' : World} {v : Value} {n : Nat} {xs : List Value} (ho : w.ownsRow B 5 1 v n xs) (hg : w.grownBy w' v.ownBlock) (hc : w.cell? ⟨g,0,none⟩ = some v) (hne : v.ownBlock ≠ some g) : FR B g w w' :=
 ⟨hg.os,hg.tape,hg.output,hg.size,fun k hk => hg.block k hk.2.1 (hk.not_row ho hc).symm,fun hlt k _ hn => hn.below (hg.block g hlt hne.symm)⟩
theorem run_app5 (w : World) (B : Nat) (ty : TypeId) (v : Value) (n : Nat) (xs : List Value) (hown : w.ownsRow B 5 1 v n xs) (ad : Addr) (m c : Nat) (news : List Value) (hl : news.length = m)
  (hnews : ∀ j u,news[j]? = some u → w.cell? (ad.add j) = some u) (h1 : ∀ u ∈ news,u.oneCell' = true) (hn : n + m ≤ 140737488355328) (hB : B ≤ w.heap.size) :
  ∃ v' w',(Builtin.append_ #[52,52] ty #[v,.slice (some ad) m c]).run Tryz.prog w = .ok v' w' ∧ w'.ownsRow B 5 1 v' (n + m) (xs ++ news) ∧ w.grownBy w' v.ownBlock ∧ ∀ j,v'.ownBlock = some j → v.ownBlock = some j ∨ w.heap.size ≤ j := by
 obtain ⟨i0,hi,hz0,hz1,hz2⟩ := info_parts info5
 obtain ⟨v',w',hr,r1,r2,r3⟩ := run_append_own (P := Tryz.prog) w B 52 ty 5 i0 (.int .u8 0) 1 1 Tryz.underlying52 hi hz0 hz1 hz2 rfl (by decide) v n xs hown ad m c news (by rw [hl,Nat.mul_one]) hnews h1 (by unfold maxLen; omega) (by omega) hB
 refine ⟨v',w',hr,r1,r2,fun j hj => ?_⟩
 rcases hown.2 with ⟨rfl,rfl⟩ | ⟨g,cap,cur,rfl,hbg,hg,hnc,hcm,hcs,htake⟩
 ·by_cases hm : m = 0
  ·have := r3.2 ⟨rfl,hm⟩
   rw [this] at hj
   cases hj
  rw [run_append_nil (P := Tryz.prog) w 52 ty 5 i0 (.int .u8 0) Tryz.underlying52 hi hz0 ad m c news (by rw [hl,hz1,Nat.mul_one]) hnews (by omega) (by omega) (by rw [hz2]; omega)] at hr
  injection hr with e1 e2
  rw [← e1] at hj
  obtain rfl := Option.some.inj hj
  exact .inr (Nat.le_refl _)
 by_cases hroom : n + m ≤ cap
 ·rw [run_append_room (P := Tryz.prog) w 52 ty 5 i0 Tryz.underlying52 hi g n cap cur hg ad m c news (by rw [hl,hz1,Nat.mul_one]) hnews h1 hroom (by rw [hz1,hl,hcs]; omega)] at hr
  injection hr with e1 e2
  rw [← e1] at hj
  exact .inl hj
 rw [run_append_grow (P := Tryz.prog) w 52 ty 5 i0 (.int .u8 0) Tryz.underlying52 hi hz0 ⟨g,0,none⟩ n cap xs (by rw [hown.1,hz1]) (hown.cells (g := g) rfl) ad m c news (by rw [hl,hz1,Nat.mul_one]) hnews (by omega) (by omega) (growslice_fits (by omega) (by rw [hz2]; omega))] at hr
 injection hr with e1 e2
 rw [← e1] at hj
 obtain rfl := Option.some.inj hj
 exact .inr (Nat.le_refl _)
theorem own_put {g : Nat} {B : Nat} {a w : World} {v v' : Value} (h : FR B g a w) (hga : g < a.heap.size) (hc : w.cell? ⟨g,0,none⟩ = some v) (hwh : ∀ j,v'.ownBlock = some j → v.ownBlock = some j ∨ w.heap.size ≤ j) : ∀ k,k < a.heap.size → NR g a k → v'.ownBlock ≠ some k := by
 intro k hk hn e
 rcases hwh k e with e2 | e2
 ·exact h.own hga k hk hn v hc e2
 have := h.size
 omega
theorem CA.nw {B g k : Nat} {cs : Array Value} {T : TypeId} {w : World} (h : CA k cs T w) (hT : T ≠ 5) (hk : k ≠ g) : NW B g w k := ⟨hk,h.lt,.inr (.inl ⟨cs,T,_,h,hT⟩)⟩
theorem CA.fr {B g k : Nat} {cs : Array Value} {T : TypeId} {w w' : World} (h : CA k cs T w) (hf : FR B g w w') (hT : T ≠ 5) (hk : k ≠ g) : CA k cs T w' := by
 have := hf.block k (h.nw hT hk)
 unfold CA at h ⊢
 rw [this,h]
def WR (B g : Nat) (bs : List UInt8) (w : World) : Prop := B ≤ w.heap.size ∧ ∃ v,CA g #[v] 137 w ∧ w.ownsRow B 5 1 v bs.length (Lib.byteCells bs)
theorem WR.lt {B g : Nat} {bs : List UInt8} {w : World} (h : WR B g bs w) : g < w.heap.size := by
 obtain ⟨_,v,hc,_⟩ := h
 exact hc.lt
theorem WR.call {B g : Nat} {bs : List UInt8} {w w' : World} (h : WR B g bs w) (hb : Below w.heap.size w w') : WR B g bs w' := by
 obtain ⟨h1,v,hc,ho⟩ := h
 exact ⟨Nat.le_trans h1 hb.size,v,hc.below hb hc.lt,own_kept ho hb⟩
theorem WR.alloc {B g : Nat} {bs : List UInt8} {w : World} (h : WR B g bs w) (o : Obj) : WR B g bs (w.alloc o) := h.call ((Below.refl _ _).alloc (Nat.le_refl _) o)
theorem WR.put {B g : Nat} {bs : List UInt8} {w : World} {v v' : Value} (hB : B ≤ w.heap.size) (hc : CA g #[v] 137 w) (ho : w.ownsRow B 5 1 v' bs.length (Lib.byteCells bs)) : WR B g bs (w.setCell ⟨g,0,none⟩ v') := by
 refine ⟨by simpa [World.setCell] using hB,v',hc.set v',?_⟩
 exact ho.kept (row := some g) ⟨rfl,rfl,rfl,by simp [World.setCell],fun k _ hk => Below.heap_setCell _ _ _ _ (fun e => hk (by simp [e]))⟩ (Or.inr (Lib.ownBlock_ne ho hc (by decide)))
theorem WR.set_row {B g : Nat} {w w' : World} {v u : Value} {n : Nat} {xs : List Value} (hc : CA g #[u] 137 w) (ho : w.ownsRow B 5 1 v n xs) (hg : w.grownBy w' v.ownBlock) : CA g #[u] 137 w' := by
 have := hg.block g hc.lt (Lib.ownBlock_ne ho hc (by decide)).symm
 unfold CA at hc ⊢
 rw [this,hc]
def LT (B g : Nat) (w : World) (v : Value) (l : List Int) : Prop := ∃ p c,v = .slice p l.length c ∧ l.length < 9223372036854775807 ∧ (l ≠ [] → ∃ k o,p = some ⟨k,o,none⟩ ∧ NW B g w k ∧ ∀ j x,l[j]? = some x → w.cell? ⟨k,o + j,none⟩ = some (.int .i64 x))
theorem LT.fr {B g : Nat} {w w' : World} {v : Value} {l : List Int} (h : LT B g w v l) (hf : FR B g w w') : LT B g w' v l := by
 obtain ⟨p,c,e,hq,h⟩ := h
 refine ⟨p,c,e,hq,fun hn => ?_⟩
 obtain ⟨k,o,e2,hk,hc⟩ := h hn
 exact ⟨k,o,e2,hf.nw hk,fun j x hj => by rw [World.cell?_of_block (hf.block k hk)]; exact hc j x hj⟩
theorem LT.of {B g B0 : Nat} {w : World} {v : Value} {l : List Int} (h : LI B0 w v l) (hB : B0 ≤ lo B g) (hw : B ≤ w.heap.size) : LT B g w v l := by
 have l1 := lo_B B g
 have l2 := lo_g B g
 obtain ⟨p,c,e,hq,h⟩ := h
 refine ⟨p,c,e,hq,fun hn => ?_⟩
 obtain ⟨k,o,e2,hk,hc⟩ := h hn
 exact ⟨k,o,e2,⟨by omega,by omega,.inl (by omega)⟩,hc⟩
theorem LT.one {B g : Nat} {w : World} (x : Int) (c : Nat) (hg : g < w.heap.size) : LT B g (w.alloc (.cells #[.int .i64 x] 3)) (.slice (some ⟨w.heap.size,0,none⟩) 1 c) [x] := by
 have hc := CA.new w #[.int .i64 x] 3
 refine ⟨_,c,rfl,by simp,fun _ => ⟨w.heap.size,0,rfl,hc.nw (by decide) (by omega),fun j y hj => ?_⟩⟩
 cases j with
 | zero => simp at hj; subst hj; exact hc.at rfl
 | succ j => simp at hj
theorem LT.two {B g : Nat} {w : World} (x y : Int) (c : Nat) (hg : g < w.heap.size) : LT B g (w.alloc (.cells #[.int .i64 x,.int .i64 y] 3)) (.slice (some ⟨w.heap.size,0,none⟩) 2 c) [x,y] := by
 have hc := CA.new w #[.int .i64 x,.int .i64 y] 3
 refine ⟨_,c,rfl,by simp,fun _ => ⟨w.heap.size,0,rfl,hc.nw (by decide) (by omega),fun j z hj => ?_⟩⟩
 match j with
 | 0 => simp at hj; subst hj; exact hc.at rfl
 | 1 => simp at hj; subst hj; exact hc.at rfl
 | j + 2 => simp at hj
theorem byI_nat (n : Int) : ((byI n).toNat : Int) = n % 256 := by
 unfold byI
 rw [toUInt8_toNat (by omega)]
 omega
theorem byteCells_byI (pre : List UInt8) (n : Int) : Lib.byteCells (pre ++ [byI n]) = Lib.byteCells pre ++ [Value.int .u8 (n % 256)] := by
 rw [Lib.byteCells_append]
 simp [Lib.byteCells,byI_nat]
end Go.Proofs.YtjgeedgphcjhoaaGreat
namespace Go.Proofs.YtjgeedgphcjhoaaGreat
open Go.RowKit
theorem append_byteF {w : World} {ops : Array Oper} {rest : List Oper} {o : Oper} {a : Act} {Q : Exit → Act → World → Prop} (hgd : o.guard = none) (s x : Operand)
  (ho : o.op = .call { callee := .builtin .append,args := #[s,x],argTypes := #[52,52] }) (B g : Nat) (bs : List UInt8) (v : Value) (n : Int) (W0 : World)
  (hBw : B ≤ w.heap.size) (hc : CA g #[v] 137 w) (hown : w.ownsRow B 5 1 v bs.length (Lib.byteCells bs)) (hn : bs.length + 1 ≤ 140737488355328) (hga : g < W0.heap.size) (hf : FR B g W0 w) (n0 : Nat) (h0 : w.heap.size = n0) (hs : a.eval s = v) (hx : a.eval x = .slice (some ⟨n0,0,none⟩) 1 1)
  (h : ∀ v' w',w'.ownsRow B 5 1 v' (bs ++ [byI n]).length (Lib.byteCells (bs ++ [byI n])) → CA g #[v] 137 w' → FR B g W0 w' → FR B g W0 (w'.setCell ⟨g,0,none⟩ v') → wpList Tryz.prog ops Q rest (a.put o.dst v') w') :
  wpList Tryz.prog ops Q (o :: rest) a (w.alloc (.cells #[.int .u8 (n % 256)] 5)) := by
 subst h0
 refine wpList_plain hgd fun K hK => ?_
 have hca := hc.alloc (.cells #[.int .u8 (n % 256)] 5)
 have hoa := hown.alloc (.cells #[.int .u8 (n % 256)] 5)
 obtain ⟨v',w',hrun,r1,r2,r3⟩ := run_app5 (w.alloc (.cells #[.int .u8 (n % 256)] 5)) B o.type v bs.length (Lib.byteCells bs) hoa ⟨w.heap.size,0,none⟩ 1 1 [.int .u8 (n % 256)] rfl (cell_one_new _ _ _)
  (fun u hu => by simp at hu; subst hu; rfl) (by omega) (by simp; omega)
 have hne := Lib.ownBlock_ne hoa hca (by decide)
 have hc2 := WR.set_row hca hoa r2
 have hf1 := hf.alloc (.cells #[.int .u8 (n % 256)] 5)
 have hf2 := hf1.trans (FR.grown (g := g) hoa r2 (hca.at rfl) hne)
 unfold Oper.wp
 simp [execOp,ho,resolve,invoke,builtin,hs,hx,hrun,Result.andThen]
 refine hK _ _ (h v' w' ?_ hc2 hf2 (hf2.put (hc2.at (v := v) rfl) v' (own_put hf1 hga (hca.at rfl) r3)))
 rw [byteCells_byI,List.length_append]
 exact r1
theorem own_slice {w : World} {base : Nat} {v : Value} {n : Nat} {xs : List Value} (h : w.ownsRow base 5 1 v n xs) : ∃ p m c,v = .slice p m c := by
 rcases h.2 with ⟨h2,_⟩ | ⟨g,cap,cur,h1,_⟩
 ·exact ⟨_,_,_,h2⟩
 exact ⟨_,_,_,h1⟩
theorem map_take_snoc (l : List Int) (i : Nat) (x : Int) (h : l[i]? = some x) : (l.take (i + 1)).map byI = (l.take i).map byI ++ [byI x] := by
 rw [List.take_add_one,h,List.map_append]
 rfl
set_option maxHeartbeats 1000000 in
theorem bytes_says (B g : Nat) (bs : List UInt8) (l : List Int) (v : Value) (w : World) (hw : WR B g bs w) (hl : LT B g w v l) (hn : bs.length + l.length ≤ 140737488355000) :
  Calls Tryz.prog 169 #[.pointer (some ⟨g,0,none⟩),v] w fun e w' => e = .returned (.tuple #[]) ∧ WR B g (bs ++ l.map byI) w' ∧ FR B g w w' := by
 obtain ⟨p,c,rfl,hq,hl2⟩ := id hl
 have HL := hid hl
 obtain ⟨n,hnl⟩ : ∃ n,n = l.length := ⟨_,rfl⟩
 have HNL := hid hnl
 rw [← hnl] at hq ⊢
 have HP := hid hl2
 have HW := hid hw
 have HBW := hid hw.1
 have HGA := hid hw.lt
 have HN := hid hn
 have hn62 : (n : Int) < 9223372036854775807 := by omega
 clear hl2 hl hw hn hnl hq
 go_enter Tryz.func169,Tryz.ntmps169
 go_wp2
 go_loopw [8] (fun vi wr => ∃ i : Nat,i ≤ n ∧ vi = .int .i64 i ∧ Hid (WR B g (bs ++ (l.take i).map byI) wr) ∧ Hid (FR B g w wr)) (fun vi _ => n - (intOf vi).toNat)
 case atStart => exact ⟨0,Nat.zero_le _,rfl,by simpa using HW,FR.refl _ _ _⟩
 obtain ⟨i,hi,rfl,HR,HF⟩ := hrel
 by_cases hlt : i < n
 ·have hll : i < l.length := by rw [← HNL.out]; exact hlt
  obtain ⟨x,hx⟩ : ∃ x,l[i]? = some x := ⟨l[i],List.getElem?_eq_getElem hll⟩
  obtain ⟨k,o,rfl,hk,hcell⟩ := HP.out (by intro e; rw [e] at hll; simp at hll)
  have z0 := hcell i x hx
  rw [← World.cell?_of_block (HF.out.block k hk)] at z0
  obtain ⟨hBg,u,hc,ho⟩ := HR.out
  obtain ⟨pu,nu,cu,rfl⟩ := own_slice ho
  have y0 := hc.at (k := 0) (v := .slice pu nu cu) rfl
  have HC := hid hc
  have HO := hid ho
  have HBG := hid hBg
  have HX := hid (map_take_snoc l i x hx)
  have HLE : Hid ((bs ++ (l.take i).map byI).length + 1 ≤ 140737488355328) := by
   have := HN.out
   simp only [Hid,List.length_append,List.length_map,List.length_take]
   omega
  clear hc ho hBg hcell hx hk hll hi
  go_wp2_with (at_builtin; refine append_byteF rfl _ _ rfl B g _ _ x w HBG.out HC.out HO.out HLE.out HGA.out HF.out _ rfl rfl rfl ?_; intro v2 w2 ho2 hc2 hf2 hf3; have HF3 := hid hf3; clear hf3; obtain ⟨p2,m2,c2,rfl⟩ := own_slice ho2; have y1 := hc2.at (k := 0) (v := .slice pu nu cu) rfl; have y2 := hc2.free 0; have HO2 := hid ho2; have HC2 := hid hc2; have HF2 := hid hf2; clear ho2 hc2 hf2)
  go_roundw
  case rel =>
   refine ⟨i + 1,hlt,by go_num,?_,HF3⟩
   rw [HX.out,← List.append_assoc]
   exact WR.put (Nat.le_trans HBW.out HF2.out.size) HC2.out HO2.out
  case measure => simp [intOf]; omega
 obtain rfl : i = n := by omega
 go_wp2
 (first | go_end0 | refine bodyPost_ret (results_none rfl _ _ _) rfl ?_)
 refine ⟨rfl,?_,HF.out⟩
 have := HR.out
 rw [HNL.out,List.take_length] at this
 exact this
end Go.Proofs.YtjgeedgphcjhoaaGreat
namespace Go.Proofs.YtjgeedgphcjhoaaGreat
open Go.RowKit
theorem step_append_own {ops : Array Oper} {o : Oper} {a : Act} {w : World} {K : Act → World → Prop} {Q : Exit → Act → World → Prop} {E : Prop} (hgd : o.guard = none) (s x : Operand)
  (ho : o.op = .call { callee := .builtin .append,args := #[s,x],argTypes := #[52,52] }) (base : Nat) (v : Value) (n : Nat) (xs : List Value) (hs : a.eval s = v) (hown : w.ownsRow base 5 1 v n xs)
  (ad : Addr) (m c : Nat) (news : List Value) (hx : a.eval x = .slice (some ad) m c) (hl : news.length = m) (hnews : ∀ j u,news[j]? = some u → w.cell? (ad.add j) = some u) (h1 : ∀ u ∈ news,u.oneCell' = true)
  (hbytes : n + m ≤ 140737488355328) (hbase : base ≤ w.heap.size)
  (h : ∀ v' w',w'.ownsRow base 5 1 v' (n + m) (xs ++ news) → w.grownBy w' v.ownBlock → (∀ j,v'.ownBlock = some j → v.ownBlock = some j ∨ w.heap.size ≤ j) → K (a.put o.dst v') w') :
  if Region.wanted o (yielded ops a.tmps) = true then Oper.wp Tryz.prog o a w K Q else E := by
 have hw : Region.wanted o (yielded ops a.tmps) = true := by simp [Region.wanted,hgd]
 rw [if_pos hw]
 obtain ⟨v',w',hrun,r1,r2,r3⟩ := run_app5 w base o.type v n xs hown ad m c news hl hnews h1 hbytes hbase
 unfold Oper.wp
 simp [execOp,ho,resolve,invoke,builtin,hs,hx,hrun,Result.andThen]
 exact h _ _ r1 r2 r3
theorem own_cells {w : World} {base g n c : Nat} {y : List UInt8} (h : w.ownsRow base 5 1 (.slice (some ⟨g,0,none⟩) n c) n (Lib.byteCells y)) : ∀ j u,(Lib.byteCells y)[j]? = some u → w.cell? ((⟨g,0,none⟩ : Addr).add j) = some u := by
 intro j u hj
 have hl := h.1
 have hlt : j < n := by have := (List.getElem?_eq_some_iff.1 hj).1; omega
 rw [addr_add,Nat.zero_add,h.cellAt j (by omega),hj]
theorem own_at {w : World} {base n : Nat} {v : Value} {xs : List Value} (h : w.ownsRow base 5 1 v n xs) (hn : 1 ≤ n) : ∃ g c,v = .slice (some ⟨g,0,none⟩) n c := by
 rcases h.2 with ⟨_,h2⟩ | ⟨g,cap,cur,h1,_⟩
 ·omega
 exact ⟨g,cap,h1⟩
set_option maxHeartbeats 2000000 in
theorem u_of (B g : Nat) (bs : List UInt8) (n : Int) (x : Nat) (hx : IntKind.u64.wrap n = (x : Int)) (y : List UInt8) (m : Nat) (hm : m = y.length) (w : World) (hB : B ≤ w.heap.size) (hw : WR B g bs w) (hn : bs.length + m ≤ 140737488355000)
  (HU : ∀ W,Hid (Calls Tryz.prog 177 #[.slice none 0 0,.int .u64 (x : Nat)] W fun e w' => ∃ g2 c2,e = .returned (.slice (some ⟨g2,0,none⟩) m c2) ∧ w'.ownsRow W.heap.size 5 1 (.slice (some ⟨g2,0,none⟩) m c2) m (Lib.byteCells y) ∧ Below W.heap.size W w')) :
  Calls Tryz.prog 105 #[.pointer (some ⟨g,0,none⟩),.int .i64 n] w fun e w' => e = .returned (.tuple #[]) ∧ WR B g (bs ++ y) w' ∧ FR B g w w' := by
 obtain ⟨i0,hi,hz0,hz1,hz2⟩ := info_parts info5
 have HGA := hid hw.lt
 obtain ⟨hBg,u,hc,ho⟩ := hw
 obtain ⟨pu,nu,cu,rfl⟩ := own_slice ho
 have HN1 := hid (show bs.length + m ≤ maxLen by unfold maxLen; omega)
 have HN2 := hid (show (bs.length + m) * 1 ≤ 140737488355328 by omega)
 have HBG := hid hBg
 have HBW := hid hB
 have HM := hid hm
 have HC0 := hid hc
 have HO0 := hid ho
 clear hBg hc ho hm hn hB
 go_enter Tryz.func105,Tryz.ntmps105
 go_upto_region 0 with fail
 have hS : FR B g w w.drew := (FR.refl B g w).drew
 have HC : Hid (CA g #[.slice pu nu cu] 137 w.drew) := HC0
 have HO : Hid (w.drew.ownsRow B 5 1 (.slice pu nu cu) bs.length (Lib.byteCells bs)) := HO0
 clear HC0 HO0
 refine wp_region_held_drew (S := fun W => FR B g w W) (by kernel_rfl) hS (fun _ => ?_)
 generalize w.drew = W at *
 refine zt 0 (.pointer (some ⟨g,0,none⟩)) rfl ?_ ?_
 ·(intro W hSw; skip; go_simp; try (with_reducible rfl))
 try simp only [Act.put,sl2,sl0,sl1]
 refine zt 1 (.pointer (some ⟨g,0,none⟩)) rfl ?_ ?_
 ·(intro W hSw; skip; go_simp; try (with_reducible rfl))
 try simp only [Act.put,sl2,sl0,sl1]
 refine zt 2 (.pointer (some ⟨g,0,none⟩)) rfl ?_ ?_
 ·(intro W hSw; skip; go_simp; try (with_reducible rfl))
 try simp only [Act.put,sl2,sl0,sl1]
 refine zt 3 (.pointer (some ⟨g,0,none⟩)) rfl ?_ ?_
 ·(intro W hSw; skip; go_simp; try (with_reducible rfl))
 try simp only [Act.put,sl2,sl0,sl1]
 refine zt 5 (.int .i64 n) rfl ?_ ?_
 ·(intro W hSw; skip; go_simp; try (with_reducible rfl))
 try simp only [Act.put,sl2,sl0,sl1]
 refine zt 6 (.int .u64 (x : Nat)) rfl ?_ ?_
 ·(intro W hSw; skip; go_simp; try (with_reducible rfl))
 try simp only [Act.put,sl2,sl0,sl1]
 refine zm [4,7] ?_
 refine zc rfl (fun K hK => ?_) ?_
 ·have z0 := HC.out.at (k := 0) (v := .slice pu nu cu) rfl
  go_simp
  clear z0
  refine hK.out _ _ hS (fun _ => ?_)
  clear hK K
  try simp only [Act.put,sl2,sl0,sl1]
  refine zr 7 rfl (fun K hK => ?_)
  go_simp
  go_at_call 177
  (with_reducible refine (HU W).out.mono ?_)
  rintro e W1 ⟨g2,c2,rfl,ho2,hb⟩
  replace HO := hid (own_kept HO.out hb)
  replace HC := hid (HC.out.below hb HC.out.lt)
  replace hS := hS.trans (FR.of hb)
  have HO2 := hid ho2
  clear hb ho2
  refine hK.out _ _ hS (fun _ => ?_)
  clear hK K
  try simp only [Act.put,sl2,sl0,sl1]
  refine zr 8 rfl (fun K hK => ?_)
  refine step_append_own rfl (.tmp 8) (.tmp 11) rfl B (.slice pu nu cu) bs.length (Lib.byteCells bs) rfl HO.out ⟨g2,0,none⟩ m c2 (Lib.byteCells y) rfl (by rw [Lib.byteCells_length,HM.out]) (own_cells HO2.out) (byteCells_one y) (by have := HN2.out; omega) (Nat.le_trans HBW.out hS.size) ?_
  intro v3 W2 ho3 hg3 hwh
  have HPV := hid (own_put hS HGA.out (HC.out.at (v := .slice pu nu cu) rfl) hwh)
  replace hS := hS.trans (FR.grown (g := g) HO.out hg3 (HC.out.at rfl) (Lib.ownBlock_ne HO.out HC.out (by decide)))
  replace HC := hid (WR.set_row HC.out HO.out hg3)
  clear hwh
  clear HO HO2
  obtain ⟨p3,n3,c3,rfl⟩ := own_slice ho3
  have HO3 := hid ho3
  clear ho3 hg3
  refine hK.out _ _ hS (fun _ => ?_)
  clear hK K
  try simp only [Act.put,sl2,sl0,sl1]
  refine zt 9 (.pointer (some ⟨g,0,none⟩)) rfl ?_ ?_
  ·(intro W hSw; skip; go_simp; try (with_reducible rfl))
  try simp only [Act.put,sl2,sl0,sl1]
  refine zt 10 (.pointer (some ⟨g,0,none⟩)) rfl ?_ ?_
  ·(intro W hSw; skip; go_simp; try (with_reducible rfl))
  try simp only [Act.put,sl2,sl0,sl1]
  refine zr 11 rfl (fun K hK => ?_)
  have z0 := HC.out.at (k := 0) (v := .slice pu nu cu) rfl
  have z1 := HC.out.free 0
  go_simp
  clear z0 z1
  have HWR := hid (WR.put (bs := bs ++ y) (Nat.le_trans HBG.out hS.size) HC.out (by rw [List.length_append,← HM.out,Lib.byteCells_append]; exact HO3.out))
  replace hS := hS.put (HC.out.at (v := .slice pu nu cu) rfl) (.slice p3 n3 c3) HPV.out
  clear HC HO3
  generalize W2.setCell ⟨g,0,none⟩ (.slice p3 n3 c3) = W3 at *
  refine hK.out _ _ hS (fun _ => ?_)
  clear hK K
  try simp only [Act.put,sl2,sl0,sl1]
  refine wpAnyH_done (by kernel_rfl) ?_ _
  have HF := hid hS
  clear hS
  go_wp2
  (first | go_end0 | refine bodyPost_ret (results_none rfl _ _ _) rfl ?_)
  exact ⟨rfl,HWR.out,HF.out⟩
 refine zc rfl (fun K hK => ?_) ?_
 ·go_simp
  go_at_call 177
  (with_reducible refine (HU W).out.mono ?_)
  rintro e W1 ⟨g2,c2,rfl,ho2,hb⟩
  replace HO := hid (own_kept HO.out hb)
  replace HC := hid (HC.out.below hb HC.out.lt)
  replace hS := hS.trans (FR.of hb)
  have HO2 := hid ho2
  clear hb ho2
  refine hK.out _ _ hS (fun _ => ?_)
  clear hK K
  try simp only [Act.put,sl2,sl0,sl1]
  refine zr 4 rfl (fun K hK => ?_)
  have z0 := HC.out.at (k := 0) (v := .slice pu nu cu) rfl
  go_simp
  clear z0
  refine hK.out _ _ hS (fun _ => ?_)
  clear hK K
  try simp only [Act.put,sl2,sl0,sl1]
  refine zr 8 rfl (fun K hK => ?_)
  refine step_append_own rfl (.tmp 8) (.tmp 11) rfl B (.slice pu nu cu) bs.length (Lib.byteCells bs) rfl HO.out ⟨g2,0,none⟩ m c2 (Lib.byteCells y) rfl (by rw [Lib.byteCells_length,HM.out]) (own_cells HO2.out) (byteCells_one y) (by have := HN2.out; omega) (Nat.le_trans HBW.out hS.size) ?_
  intro v3 W2 ho3 hg3 hwh
  have HPV := hid (own_put hS HGA.out (HC.out.at (v := .slice pu nu cu) rfl) hwh)
  replace hS := hS.trans (FR.grown (g := g) HO.out hg3 (HC.out.at rfl) (Lib.ownBlock_ne HO.out HC.out (by decide)))
  replace HC := hid (WR.set_row HC.out HO.out hg3)
  clear hwh
  clear HO HO2
  obtain ⟨p3,n3,c3,rfl⟩ := own_slice ho3
  have HO3 := hid ho3
  clear ho3 hg3
  refine hK.out _ _ hS (fun _ => ?_)
  clear hK K
  try simp only [Act.put,sl2,sl0,sl1]
  refine zt 9 (.pointer (some ⟨g,0,none⟩)) rfl ?_ ?_
  ·(intro W hSw; skip; go_simp; try (with_reducible rfl))
  try simp only [Act.put,sl2,sl0,sl1]
  refine zt 10 (.pointer (some ⟨g,0,none⟩)) rfl ?_ ?_
  ·(intro W hSw; skip; go_simp; try (with_reducible rfl))
  try simp only [Act.put,sl2,sl0,sl1]
  refine zr 11 rfl (fun K hK => ?_)
  have z0 := HC.out.at (k := 0) (v := .slice pu nu cu) rfl
  have z1 := HC.out.free 0
  go_simp
  clear z0 z1
  have HWR := hid (WR.put (bs := bs ++ y) (Nat.le_trans HBG.out hS.size) HC.out (by rw [List.length_append,← HM.out,Lib.byteCells_append]; exact HO3.out))
  replace hS := hS.put (HC.out.at (v := .slice pu nu cu) rfl) (.slice p3 n3 c3) HPV.out
  clear HC HO3
  generalize W2.setCell ⟨g,0,none⟩ (.slice p3 n3 c3) = W3 at *
  refine hK.out _ _ hS (fun _ => ?_)
  clear hK K
  try simp only [Act.put,sl2,sl0,sl1]
  refine wpAnyH_done (by kernel_rfl) ?_ _
  have HF := hid hS
  clear hS
  go_wp2
  (first | go_end0 | refine bodyPost_ret (results_none rfl _ _ _) rfl ?_)
  exact ⟨rfl,HWR.out,HF.out⟩
 exact zn
set_option maxHeartbeats 2000000 in
theorem s_of (B g : Nat) (bs : List UInt8) (n : Int) (x : Unit)  (y : List UInt8) (m : Nat) (hm : m = y.length) (w : World) (hB : B ≤ w.heap.size) (hw : WR B g bs w) (hn : bs.length + m ≤ 140737488355000)
  (HU : ∀ W,Hid (Calls Tryz.prog 267 #[.slice none 0 0,.int .i64 n] W fun e w' => ∃ g2 c2,e = .returned (.slice (some ⟨g2,0,none⟩) m c2) ∧ w'.ownsRow W.heap.size 5 1 (.slice (some ⟨g2,0,none⟩) m c2) m (Lib.byteCells y) ∧ Below W.heap.size W w')) :
  Calls Tryz.prog 243 #[.pointer (some ⟨g,0,none⟩),.int .i64 n] w fun e w' => e = .returned (.tuple #[]) ∧ WR B g (bs ++ y) w' ∧ FR B g w w' := by
 obtain ⟨i0,hi,hz0,hz1,hz2⟩ := info_parts info5
 have HGA := hid hw.lt
 obtain ⟨hBg,u,hc,ho⟩ := hw
 obtain ⟨pu,nu,cu,rfl⟩ := own_slice ho
 have HN1 := hid (show bs.length + m ≤ maxLen by unfold maxLen; omega)
 have HN2 := hid (show (bs.length + m) * 1 ≤ 140737488355328 by omega)
 have HBG := hid hBg
 have HBW := hid hB
 have HM := hid hm
 have HC0 := hid hc
 have HO0 := hid ho
 clear hBg hc ho hm hn hB
 go_enter Tryz.func243,Tryz.ntmps243
 go_upto_region 0 with fail
 have hS : FR B g w w.drew := (FR.refl B g w).drew
 have HC : Hid (CA g #[.slice pu nu cu] 137 w.drew) := HC0
 have HO : Hid (w.drew.ownsRow B 5 1 (.slice pu nu cu) bs.length (Lib.byteCells bs)) := HO0
 clear HC0 HO0
 refine wp_region_held_drew (S := fun W => FR B g w W) (by kernel_rfl) hS (fun _ => ?_)
 generalize w.drew = W at *
 refine zt 0 (.pointer (some ⟨g,0,none⟩)) rfl ?_ ?_
 ·(intro W hSw; skip; go_simp; try (with_reducible rfl))
 try simp only [Act.put,sl2,sl0,sl1]
 refine zt 1 (.pointer (some ⟨g,0,none⟩)) rfl ?_ ?_
 ·(intro W hSw; skip; go_simp; try (with_reducible rfl))
 try simp only [Act.put,sl2,sl0,sl1]
 refine zt 2 (.pointer (some ⟨g,0,none⟩)) rfl ?_ ?_
 ·(intro W hSw; skip; go_simp; try (with_reducible rfl))
 try simp only [Act.put,sl2,sl0,sl1]
 refine zt 3 (.pointer (some ⟨g,0,none⟩)) rfl ?_ ?_
 ·(intro W hSw; skip; go_simp; try (with_reducible rfl))
 try simp only [Act.put,sl2,sl0,sl1]
 refine zt 5 (.int .i64 n) rfl ?_ ?_
 ·(intro W hSw; skip; go_simp; try (with_reducible rfl))
 try simp only [Act.put,sl2,sl0,sl1]
 refine zm [4,6] ?_
 refine zc rfl (fun K hK => ?_) ?_
 ·have z0 := HC.out.at (k := 0) (v := .slice pu nu cu) rfl
  go_simp
  clear z0
  refine hK.out _ _ hS (fun _ => ?_)
  clear hK K
  try simp only [Act.put,sl2,sl0,sl1]
  refine zr 6 rfl (fun K hK => ?_)
  go_simp
  go_at_call 267
  (with_reducible refine (HU W).out.mono ?_)
  rintro e W1 ⟨g2,c2,rfl,ho2,hb⟩
  replace HO := hid (own_kept HO.out hb)
  replace HC := hid (HC.out.below hb HC.out.lt)
  replace hS := hS.trans (FR.of hb)
  have HO2 := hid ho2
  clear hb ho2
  refine hK.out _ _ hS (fun _ => ?_)
  clear hK K
  try simp only [Act.put,sl2,sl0,sl1]
  refine zr 7 rfl (fun K hK => ?_)
  refine step_append_own rfl (.tmp 8) (.tmp 10) rfl B (.slice pu nu cu) bs.length (Lib.byteCells bs) rfl HO.out ⟨g2,0,none⟩ m c2 (Lib.byteCells y) rfl (by rw [Lib.byteCells_length,HM.out]) (own_cells HO2.out) (byteCells_one y) (by have := HN2.out; omega) (Nat.le_trans HBW.out hS.size) ?_
  intro v3 W2 ho3 hg3 hwh
  have HPV := hid (own_put hS HGA.out (HC.out.at (v := .slice pu nu cu) rfl) hwh)
  replace hS := hS.trans (FR.grown (g := g) HO.out hg3 (HC.out.at rfl) (Lib.ownBlock_ne HO.out HC.out (by decide)))
  replace HC := hid (WR.set_row HC.out HO.out hg3)
  clear hwh
  clear HO HO2
  obtain ⟨p3,n3,c3,rfl⟩ := own_slice ho3
  have HO3 := hid ho3
  clear ho3 hg3
  refine hK.out _ _ hS (fun _ => ?_)
  clear hK K
  try simp only [Act.put,sl2,sl0,sl1]
  refine zt 8 (.pointer (some ⟨g,0,none⟩)) rfl ?_ ?_
  ·(intro W hSw; skip; go_simp; try (with_reducible rfl))
  try simp only [Act.put,sl2,sl0,sl1]
  refine zt 9 (.pointer (some ⟨g,0,none⟩)) rfl ?_ ?_
  ·(intro W hSw; skip; go_simp; try (with_reducible rfl))
  try simp only [Act.put,sl2,sl0,sl1]
  refine zr 10 rfl (fun K hK => ?_)
  have z0 := HC.out.at (k := 0) (v := .slice pu nu cu) rfl
  have z1 := HC.out.free 0
  go_simp
  clear z0 z1
  have HWR := hid (WR.put (bs := bs ++ y) (Nat.le_trans HBG.out hS.size) HC.out (by rw [List.length_append,← HM.out,Lib.byteCells_append]; exact HO3.out))
  replace hS := hS.put (HC.out.at (v := .slice pu nu cu) rfl) (.slice p3 n3 c3) HPV.out
  clear HC HO3
  generalize W2.setCell ⟨g,0,none⟩ (.slice p3 n3 c3) = W3 at *
  refine hK.out _ _ hS (fun _ => ?_)
  clear hK K
  try simp only [Act.put,sl2,sl0,sl1]
  refine wpAnyH_done (by kernel_rfl) ?_ _
  have HF := hid hS
  clear hS
  go_wp2
  (first | go_end0 | refine bodyPost_ret (results_none rfl _ _ _) rfl ?_)
  exact ⟨rfl,HWR.out,HF.out⟩
 refine zc rfl (fun K hK => ?_) ?_
 ·go_simp
  go_at_call 267
  (with_reducible refine (HU W).out.mono ?_)
  rintro e W1 ⟨g2,c2,rfl,ho2,hb⟩
  replace HO := hid (own_kept HO.out hb)
  replace HC := hid (HC.out.below hb HC.out.lt)
  replace hS := hS.trans (FR.of hb)
  have HO2 := hid ho2
  clear hb ho2
  refine hK.out _ _ hS (fun _ => ?_)
  clear hK K
  try simp only [Act.put,sl2,sl0,sl1]
  refine zr 4 rfl (fun K hK => ?_)
  have z0 := HC.out.at (k := 0) (v := .slice pu nu cu) rfl
  go_simp
  clear z0
  refine hK.out _ _ hS (fun _ => ?_)
  clear hK K
  try simp only [Act.put,sl2,sl0,sl1]
  refine zr 7 rfl (fun K hK => ?_)
  refine step_append_own rfl (.tmp 8) (.tmp 10) rfl B (.slice pu nu cu) bs.length (Lib.byteCells bs) rfl HO.out ⟨g2,0,none⟩ m c2 (Lib.byteCells y) rfl (by rw [Lib.byteCells_length,HM.out]) (own_cells HO2.out) (byteCells_one y) (by have := HN2.out; omega) (Nat.le_trans HBW.out hS.size) ?_
  intro v3 W2 ho3 hg3 hwh
  have HPV := hid (own_put hS HGA.out (HC.out.at (v := .slice pu nu cu) rfl) hwh)
  replace hS := hS.trans (FR.grown (g := g) HO.out hg3 (HC.out.at rfl) (Lib.ownBlock_ne HO.out HC.out (by decide)))
  replace HC := hid (WR.set_row HC.out HO.out hg3)
  clear hwh
  clear HO HO2
  obtain ⟨p3,n3,c3,rfl⟩ := own_slice ho3
  have HO3 := hid ho3
  clear ho3 hg3
  refine hK.out _ _ hS (fun _ => ?_)
  clear hK K
  try simp only [Act.put,sl2,sl0,sl1]
  refine zt 8 (.pointer (some ⟨g,0,none⟩)) rfl ?_ ?_
  ·(intro W hSw; skip; go_simp; try (with_reducible rfl))
  try simp only [Act.put,sl2,sl0,sl1]
  refine zt 9 (.pointer (some ⟨g,0,none⟩)) rfl ?_ ?_
  ·(intro W hSw; skip; go_simp; try (with_reducible rfl))
  try simp only [Act.put,sl2,sl0,sl1]
  refine zr 10 rfl (fun K hK => ?_)
  have z0 := HC.out.at (k := 0) (v := .slice pu nu cu) rfl
  have z1 := HC.out.free 0
  go_simp
  clear z0 z1
  have HWR := hid (WR.put (bs := bs ++ y) (Nat.le_trans HBG.out hS.size) HC.out (by rw [List.length_append,← HM.out,Lib.byteCells_append]; exact HO3.out))
  replace hS := hS.put (HC.out.at (v := .slice pu nu cu) rfl) (.slice p3 n3 c3) HPV.out
  clear HC HO3
  generalize W2.setCell ⟨g,0,none⟩ (.slice p3 n3 c3) = W3 at *
  refine hK.out _ _ hS (fun _ => ?_)
  clear hK K
  try simp only [Act.put,sl2,sl0,sl1]
  refine wpAnyH_done (by kernel_rfl) ?_ _
  have HF := hid hS
  clear hS
  go_wp2
  (first | go_end0 | refine bodyPost_ret (results_none rfl _ _ _) rfl ?_)
  exact ⟨rfl,HWR.out,HF.out⟩
 exact zn
theorem u_says (B g : Nat) (bs : List UInt8) (n : Int) (w : World) (hB : B ≤ w.heap.size) (hw : WR B g bs w) (hn : bs.length + 10 ≤ 140737488355000) :
  Calls Tryz.prog 105 #[.pointer (some ⟨g,0,none⟩),.int .i64 n] w fun e w' => e = .returned (.tuple #[]) ∧ WR B g (bs ++ uI n) w' ∧ FR B g w w' := by
 obtain ⟨x,hx⟩ : ∃ x : Nat,x = (n % 18446744073709551616).toNat := ⟨_,rfl⟩
 have hl := ulist_length64 (x := x) (by omega)
 have hp := ulist_pos x
 refine u_of B g bs n x (by rw [show IntKind.u64.wrap n = n % 18446744073709551616 from rfl]; omega) (uI n) (uI n).length rfl w hB hw (by have := uI_len n; omega) (fun W => ?_)
 refine (U_in 0 (.slice none 0 0) [] x (by omega) W (.inl (.inl ⟨rfl,rfl⟩)) (Nat.zero_le _) (by simp)).mono ?_
 rintro e w' ⟨v,rfl,ho,hb⟩
 rw [List.nil_append,hx] at ho
 rw [hx] at hp
 obtain ⟨g2,c2,rfl⟩ := own_at ho hp
 exact ⟨g2,c2,rfl,ho,hb⟩
theorem s_says (B g : Nat) (bs : List UInt8) (n : Int) (h0 : -9223372036854775808 ≤ n) (h1 : n ≤ 9223372036854775807) (w : World) (hB : B ≤ w.heap.size) (hw : WR B g bs w) (hn : bs.length + 10 ≤ 140737488355000) :
  Calls Tryz.prog 243 #[.pointer (some ⟨g,0,none⟩),.int .i64 n] w fun e w' => e = .returned (.tuple #[]) ∧ WR B g (bs ++ slist n) w' ∧ FR B g w w' := by
 have hl := slist_length64 h0 h1
 have hp := slist_pos n
 refine s_of B g bs n () (slist n) (slist n).length rfl w hB hw (by omega) (fun W => ?_)
 refine (S_in 0 (.slice none 0 0) [] n h0 h1 W (.inl (.inl ⟨rfl,rfl⟩)) (Nat.zero_le _) (by simp)).mono ?_
 rintro e w' ⟨v,rfl,ho,hb⟩
 rw [List.nil_append] at ho
 obtain ⟨g2,c2,rfl⟩ := own_at ho hp
 exact ⟨g2,c2,rfl,ho,hb⟩
end Go.Proofs.YtjgeedgphcjhoaaGreat
namespace Go.Proofs.YtjgeedgphcjhoaaGreat
open Go.RowKit
theorem WR.base {B g : Nat} {bs : List UInt8} {w : World} (h : WR B g bs w) : B ≤ w.heap.size := h.1
set_option maxHeartbeats 1000000 in
theorem op_says (B g : Nat) (bs : List UInt8) (op : Int) (h0 : 0 ≤ op) (h1 : op < 65024) (w : World) (hw : WR B g bs w) (hn : bs.length + 20 ≤ 140737488355000) :
  Calls Tryz.prog 240 #[.pointer (some ⟨g,0,none⟩),.int .i64 op] w fun e w' => e = .returned (.tuple #[]) ∧ WR B g (bs ++ opL op) w' ∧ FR B g w w' := by
 have HW := hid hw
 have HBW := hid hw.1
 have HGA := hid hw.lt
 have HN := hid hn
 have HN1 := fun x : Int => hid (show bs.length + [x].length ≤ 140737488355000 by simp; omega)
 have HN2 := fun x : Int => hid (show (bs ++ List.map byI [x]).length + 10 ≤ 140737488355000 by simp; omega)
 unfold opL
 by_cases c1 : 64768 ≤ op
 ·rw [if_pos c1]
  clear hw hn h0
  go_enter Tryz.func240,Tryz.ntmps240
  go_wp2_with (first
   | (go_at_call 169; (with_reducible refine (bytes_says B g bs [253] _ _ (HW.out.alloc _) (LT.one 253 1 HW.out.lt) (HN1 _).out).mono ?_); rintro e w1 ⟨rfl,hw1,hf1⟩; have HW1 := hid hw1; have HF1 := hid (((FR.refl B g w).alloc _).trans hf1); clear hw1 hf1)
   | (go_at_call 105; (with_reducible refine (u_says B g _ (op - 64768) _ HW1.out.base HW1.out (HN2 _).out).mono ?_); rintro e w2 ⟨rfl,hw2,hf2⟩; have HW2 := hid hw2; have HF2 := hid (HF1.out.trans hf2); clear hw2 hf2))
  (first | go_end0 | refine bodyPost_ret (results_none rfl _ _ _) rfl ?_)
  exact ⟨rfl,by have := HW2.out; rw [List.append_assoc] at this; exact this,HF2.out⟩
 rw [if_neg c1]
 by_cases c2 : 64512 ≤ op
 ·rw [if_pos c2]
  clear hw hn h0
  go_enter Tryz.func240,Tryz.ntmps240
  go_wp2_with (first
   | (go_at_call 169; (with_reducible refine (bytes_says B g bs [252] _ _ (HW.out.alloc _) (LT.one 252 1 HW.out.lt) (HN1 _).out).mono ?_); rintro e w1 ⟨rfl,hw1,hf1⟩; have HW1 := hid hw1; have HF1 := hid (((FR.refl B g w).alloc _).trans hf1); clear hw1 hf1)
   | (go_at_call 105; (with_reducible refine (u_says B g _ (op - 64512) _ HW1.out.base HW1.out (HN2 _).out).mono ?_); rintro e w2 ⟨rfl,hw2,hf2⟩; have HW2 := hid hw2; have HF2 := hid (HF1.out.trans hf2); clear hw2 hf2))
  (first | go_end0 | refine bodyPost_ret (results_none rfl _ _ _) rfl ?_)
  exact ⟨rfl,by have := HW2.out; rw [List.append_assoc] at this; exact this,HF2.out⟩
 rw [if_neg c2]
 clear hw hn
 go_enter Tryz.func240,Tryz.ntmps240
 go_wp2_with (first
  | (go_at_call 169; (with_reducible refine (bytes_says B g bs [op] _ _ (HW.out.alloc _) (LT.one op 1 HW.out.lt) (HN1 _).out).mono ?_); rintro e w1 ⟨rfl,hw1,hf1⟩; have HW1 := hid hw1; have HF1 := hid (((FR.refl B g w).alloc _).trans hf1); clear hw1 hf1))
 (first | go_end0 | refine bodyPost_ret (results_none rfl _ _ _) rfl ?_)
 exact ⟨rfl,HW1.out,HF1.out⟩
theorem byI_cast (q : Nat) : byI ((q : Nat) : Int) = (q % 256).toUInt8 := by
 unfold byI
 congr 1
set_option maxHeartbeats 1000000 in
theorem little_any (B g : Nat) (bs : List UInt8) (k v : Nat) (hk : k ≤ 100) (hv : v < 18446744073709551616) (w : World) (hw : WR B g bs w) (hn : bs.length + 120 ≤ 140737488355000) :
  Calls Tryz.prog 245 #[.pointer (some ⟨g,0,none⟩),.int .i64 k,.int .u64 (v : Nat)] w fun e w' => e = .returned (.tuple #[]) ∧ WR B g (bs ++ lowL k v) w' ∧ FR B g w w' := by
 have HW := hid hw
 have HBW := hid hw.1
 have HGA := hid hw.lt
 have HN := hid hn
 have HV := hid hv
 clear hw hn
 go_enter Tryz.func245,Tryz.ntmps245
 go_wp2
 go_loopw [2,7] (fun vn vi wr => ∃ (i q : Nat) (pre : List UInt8),i ≤ k ∧ vi = .int .i64 i ∧ vn = .int .u64 (q : Nat) ∧ q < 18446744073709551616 ∧ Hid (pre.length = i ∧ lowL k v = pre ++ lowL (k - i) q) ∧ Hid (WR B g (bs ++ pre) wr) ∧ Hid (FR B g w wr)) (fun _ vi _ => k - (intOf vi).toNat)
 case atStart => exact ⟨0,v,[],Nat.zero_le _,rfl,rfl,HV.out,⟨rfl,rfl⟩,by simpa using HW,FR.refl _ _ _⟩
 obtain ⟨i,q,pre,hi,rfl,rfl,hq,HS,HR,HF⟩ := hrel
 by_cases hlt : i < k
 ·obtain ⟨hBg,u,hc,ho⟩ := HR.out
  obtain ⟨pu,nu,cu,rfl⟩ := own_slice ho
  have y0 := hc.at (k := 0) (v := .slice pu nu cu) rfl
  have HC := hid hc
  have HO := hid ho
  have HBG := hid hBg
  have HLE : Hid ((bs ++ pre).length + 1 ≤ 140737488355328) := by
   have := HN.out
   have := HS.out.1
   simp only [Hid,List.length_append]
   omega
  have HNX : Hid (lowL k v = (pre ++ [byI q]) ++ lowL (k - (i + 1)) (q / 256)) := by
   have := HS.out.2
   obtain ⟨j,hj⟩ : ∃ j,k - i = j + 1 := ⟨k - i - 1,by omega⟩
   rw [hj,lowL] at this
   rw [show k - (i + 1) = j by omega,byI_cast]
   simpa [Hid] using this
  clear hc ho hBg hi
  go_wp2_with (at_builtin; refine append_byteF rfl _ _ rfl B g _ _ q w HBG.out HC.out HO.out HLE.out HGA.out HF.out _ rfl rfl rfl ?_; intro v2 w2 ho2 hc2 hf2 hf3; have HF3 := hid hf3; clear hf3; obtain ⟨p2,m2,c2,rfl⟩ := own_slice ho2; have y1 := hc2.at (k := 0) (v := .slice pu nu cu) rfl; have y2 := hc2.free 0; have HO2 := hid ho2; have HC2 := hid hc2; have HF2 := hid hf2; clear ho2 hc2 hf2)
  go_roundw
  case rel =>
   refine ⟨i + 1,q / 256,pre ++ [byI q],hlt,by go_num,by go_num,by omega,hid ⟨by simp [HS.out.1],HNX.out⟩,?_,HF3⟩
   rw [← List.append_assoc]
   exact WR.put (Nat.le_trans HBW.out HF2.out.size) HC2.out HO2.out
  case measure => simp [intOf]; omega
 obtain rfl : i = k := by omega
 go_wp2
 (first | go_end0 | refine bodyPost_ret (results_none rfl _ _ _) rfl ?_)
 refine ⟨rfl,?_,HF.out⟩
 have := HR.out
 rw [HS.out.2,Nat.sub_self,lowL,List.append_nil]
 exact this
theorem little_4 (B g : Nat) (bs : List UInt8) (v : Nat) (hv : v < 18446744073709551616) (w : World) (hw : WR B g bs w) (hn : bs.length + 120 ≤ 140737488355000) :
  Calls Tryz.prog 245 #[.pointer (some ⟨g,0,none⟩),.int .i64 4,.int .u64 (v : Nat)] w fun e w' => e = .returned (.tuple #[]) ∧ WR B g (bs ++ lowL 4 v) w' ∧ FR B g w w' := little_any B g bs 4 v (by omega) hv w hw hn
theorem little_8 (B g : Nat) (bs : List UInt8) (v : Nat) (hv : v < 18446744073709551616) (w : World) (hw : WR B g bs w) (hn : bs.length + 120 ≤ 140737488355000) :
  Calls Tryz.prog 245 #[.pointer (some ⟨g,0,none⟩),.int .i64 8,.int .u64 (v : Nat)] w fun e w' => e = .returned (.tuple #[]) ∧ WR B g (bs ++ lowL 8 v) w' ∧ FR B g w w' := little_any B g bs 8 v (by omega) hv w hw hn
def flL (F : Int → List UInt8) : List Int → List UInt8
 | [] => []
 | x :: l => F x ++ flL F l
theorem flL_snoc (F : Int → List UInt8) : ∀ (l : List Int) (x : Int),flL F (l ++ [x]) = flL F l ++ F x
 | [],x => by simp [flL]
 | y :: l,x => by simp [flL,flL_snoc F l x]
theorem flL_len (F : Int → List UInt8) (hF : ∀ x,(F x).length ≤ 10) : ∀ l : List Int,(flL F l).length ≤ 10 * l.length
 | [] => Nat.le_refl _
 | x :: l => by
  have := flL_len F hF l
  have := hF x
  simp only [flL,List.length_append,List.length_cons]
  omega
theorem flL_us : ∀ l,flL uI l = usL l
 | [] => rfl
 | x :: l => by rw [flL,usL,flL_us l]
theorem flL_by : ∀ l,flL (fun x => [byI x]) l = l.map byI
 | [] => rfl
 | x :: l => by rw [flL,flL_by l]; rfl
set_option maxHeartbeats 2000000 in
theorem list_int (B g b : Nat) (k : Nat) (eg : ∀ args w,(callFunc k args).run Tryz.prog w = .ok (.enter k args) w) (F : Int → List UInt8) (hF : ∀ x,(F x).length ≤ 10) (bs : List UInt8) (l : List Int) (v : Value) (w : World) (hbg : b ≠ g) (hb : CA b #[.pointer (some ⟨g,0,none⟩)] 135 w)
  (hk : ∀ bs x W,WR B g bs W → CA b #[.pointer (some ⟨g,0,none⟩)] 135 W → bs.length + 20 ≤ 140737488355000 → Calls Tryz.prog k #[.int .i64 x,.pointer (some ⟨b,0,none⟩)] W fun e w' => e = .returned (.tuple #[]) ∧ WR B g (bs ++ F x) w' ∧ FR B g W w')
  (hw : WR B g bs w) (hl : LT B g w v l) (hn : bs.length + 40 + 10 * l.length ≤ 140737488355000) :
  Calls Tryz.prog 226 #[.pointer (some ⟨g,0,none⟩),v,.func (.func k) #[] #[.pointer (some ⟨b,0,none⟩)]] w fun e w' => e = .returned (.tuple #[]) ∧ WR B g (bs ++ uI l.length ++ flL F l) w' ∧ FR B g w w' := by
 obtain ⟨p,c,rfl,hq,hl2⟩ := id hl
 obtain ⟨n,hnl⟩ : ∃ n,n = l.length := ⟨_,rfl⟩
 have HNL := hid hnl
 rw [← hnl] at hq ⊢
 have HP := hid hl2
 have HW := hid hw
 have HBW := hid hw.1
 have HGA := hid hw.lt
 have HN := hid hn
 have HN1 := hid (show bs.length + 10 ≤ 140737488355000 by omega)
 have hn62 : (n : Int) < 9223372036854775807 := by omega
 have HK := hid hk
 have HB := hid hb
 have HBG := hid hbg
 have HFL := hid hF
 have HUL := hid (uI_len n)
 clear hl2 hl hw hn hnl hq hk hb hbg hF
 go_enter Tryz.func226,Tryz.ntmps226
 go_upto_region 1 with (go_at_call 105; (with_reducible refine (u_says B g bs n _ HW.out.base HW.out HN1.out).mono ?_); rintro e w1 ⟨rfl,hw1,hf1⟩; have HW1 := hid hw1; have HF1 := hid hf1; clear hw1 hf1)
 go_wp2
 go_loopw [14] (fun vi wr => ∃ i : Nat,i ≤ n ∧ vi = .int .i64 i ∧ Hid (WR B g (bs ++ uI n ++ flL F (l.take i)) wr) ∧ Hid (FR B g w wr)) (fun vi _ => n - (intOf vi).toNat)
 case atStart => exact ⟨0,Nat.zero_le _,rfl,by simpa [flL] using HW1,HF1⟩
 obtain ⟨i,hi,rfl,HR,HF⟩ := hrel
 by_cases hlt : i < n
 ·have hll : i < l.length := by rw [← HNL.out]; exact hlt
  obtain ⟨x,hx⟩ : ∃ x,l[i]? = some x := ⟨l[i],List.getElem?_eq_getElem hll⟩
  obtain ⟨kb,o,rfl,hkn,hcell⟩ := HP.out (by intro e; rw [e] at hll; simp at hll)
  have z0 := hcell i x hx
  rw [← World.cell?_of_block (HF.out.block kb hkn)] at z0
  have HX : Hid (flL F (l.take (i + 1)) = flL F (l.take i) ++ F x) := by
   rw [List.take_add_one,hx]
   exact flL_snoc F _ x
  have HLE : Hid ((bs ++ uI n ++ flL F (l.take i)).length + 20 ≤ 140737488355000) := by
   have h1 := HN.out
   have h2 := flL_len F HFL.out (l.take i)
   have h3 := HUL.out
   simp only [Hid,List.length_append,List.length_take] at h2 ⊢
   omega
  have HKX := fun W h1 h2 => hid (HK.out _ x W h1 h2 HLE.out)
  have HBR := hid (HB.out.fr HF.out (by decide) HBG.out)
  clear hcell hx hkn hll hi
  go_wp2_with (go_at_fn k; (with_reducible refine (HKX _ HR.out HBR.out).out.mono ?_); rintro e w2 ⟨rfl,hw2,hf2⟩; have HW2 := hid hw2; have HF2 := hid (HF.out.trans hf2); clear hw2 hf2)
  go_roundw
  case rel =>
   refine ⟨i + 1,hlt,by go_num,?_,HF2⟩
   rw [HX.out,← List.append_assoc]
   exact HW2
  case measure => simp [intOf]; omega
 obtain rfl : i = n := by omega
 go_wp2
 (first | go_end0 | refine bodyPost_ret (results_none rfl _ _ _) rfl ?_)
 refine ⟨rfl,?_,HF.out⟩
 have := HR.out
 rw [HNL.out,List.take_length,← HNL.out] at this
 exact this
end Go.Proofs.YtjgeedgphcjhoaaGreat
