/-
  WBase, WBytes, WU, RBase: merged, what the law does not reach left out (each text says what it holds where it lies in wip). No condition.
-/
import Derived.Test.YtjgeedgphcjhoaaGreatC02
import Derived.Lib.Builder
import Derived.Laws.AppendOwn
import Derived.Deep.DeepCutAuto
import Derived.Deep.RegionHeld3
import Derived.Laws.AppendOwnNone
set_option linter.unusedSimpArgs false
set_option linter.unusedVariables false
set_option maxRecDepth 100000
namespace Go.Proofs.YtjgeedgphcjhoaaGreat
open Go.RowKit
theorem own_kept {w w' : World} {base : Nat} {v : Value} {n : Nat} {xs : List Value} (h : w.ownsRow base 5 1 v n xs) (hb : Below w.heap.size w w') : w'.ownsRow base 5 1 v n xs := by
 refine ⟨h.1,?_⟩
 rcases h.2 with h2 | ⟨g,cap,cur,h1,h2,h3,h4⟩
 ·exact .inl h2
 ·exact .inr ⟨g,cap,cur,h1,h2,(hb.block g (Array.getElem?_eq_some_iff.1 h3).1).trans h3,h4⟩
/-- Block k is none of the writer's. -/
def NW (B g : Nat) (w : World) (k : Nat) : Prop := k ≠ g ∧ k < w.heap.size ∧ (k < B ∨ ∃ cs T fr,w.heap[k]? = some (.cells cs T fr) ∧ T ≠ 5)
/-- All stays but the writer's block and its rows. -/
structure FR (B g : Nat) (w w' : World) : Prop where
 os : w'.os = w.os
 tape : w'.tape = w.tape
 output : w'.output = w.output
 size : w.heap.size ≤ w'.heap.size
 block : ∀ k,NW B g w k → w'.heap[k]? = w.heap[k]?
theorem FR.refl (B g : Nat) (w : World) : FR B g w w := ⟨rfl,rfl,rfl,Nat.le_refl _,fun _ _ => rfl⟩
theorem FR.nw {B g : Nat} {w w' : World} (h : FR B g w w') {k : Nat} (hk : NW B g w k) : NW B g w' k := by
 refine ⟨hk.1,Nat.lt_of_lt_of_le hk.2.1 h.size,?_⟩
 rcases hk.2.2 with h2 | ⟨cs,T,fr,h2,h3⟩
 ·exact .inl h2
 ·exact .inr ⟨cs,T,fr,(h.block k hk).trans h2,h3⟩
theorem FR.trans {B g : Nat} {a b c : World} (h : FR B g a b) (k : FR B g b c) : FR B g a c :=
 ⟨k.os.trans h.os,k.tape.trans h.tape,k.output.trans h.output,Nat.le_trans h.size k.size,fun i hi => (k.block i (h.nw hi)).trans (h.block i hi)⟩
theorem FR.of {B g : Nat} {w w' : World} (h : Below w.heap.size w w') : FR B g w w' := ⟨h.os,h.tape,h.output,h.size,fun k hk => h.block k hk.2.1⟩
theorem FR.alloc {B g : Nat} {a w : World} (h : FR B g a w) (o : Obj) : FR B g a (w.alloc o) := h.trans (FR.of ((Below.refl _ _).alloc (Nat.le_refl _) o))
theorem FR.drew {B g : Nat} {a w : World} (h : FR B g a w) : FR B g a w.drew := ⟨h.os,h.tape,h.output,h.size,h.block⟩
theorem FR.below {B g : Nat} {w w' : World} (h : FR B g w w') (hg : B ≤ g) (hB : B ≤ w.heap.size) : Below B w w' :=
 ⟨h.os,h.tape,h.output,h.size,fun k hk => h.block k ⟨by omega,by omega,.inl hk⟩⟩
theorem FR.set {B g : Nat} {a w : World} (h : FR B g a w) (k : Nat) (v : Value) : FR B g a (w.setCell ⟨g,k,none⟩ v) :=
 h.trans ⟨rfl,rfl,rfl,by simp [World.setCell],fun i hi => Below.heap_setCell _ _ _ _ (fun e => hi.1 (by rw [e]))⟩
theorem NW.not_row {B g k : Nat} {w : World} {v : Value} {n : Nat} {xs : List Value} (h : NW B g w k) (ho : w.ownsRow B 5 1 v n xs) : v.ownBlock ≠ some k := by
 rcases h.2.2 with h2 | ⟨cs,T,fr,h2,h3⟩
 ·intro e
  have := (ho.lt k e).1
  omega
 ·exact Lib.ownBlock_ne ho h2 h3
theorem FR.grown {B g : Nat} {w w' : World} {v : Value} {n : Nat} {xs : List Value} (ho : w.ownsRow B 5 1 v n xs) (hg : w.grownBy w' v.ownBlock) : FR B g w w' :=
 ⟨hg.os,hg.tape,hg.output,hg.size,fun k hk => hg.block k hk.2.1 (hk.not_row ho).symm⟩
theorem CA.nw {B g k : Nat} {cs : Array Value} {T : TypeId} {w : World} (h : CA k cs T w) (hT : T ≠ 5) (hk : k ≠ g) : NW B g w k := ⟨hk,h.lt,.inr ⟨cs,T,_,h,hT⟩⟩
theorem CA.fr {B g k : Nat} {cs : Array Value} {T : TypeId} {w w' : World} (h : CA k cs T w) (hf : FR B g w w') (hT : T ≠ 5) (hk : k ≠ g) : CA k cs T w' := by
 have := hf.block k (h.nw hT hk)
 unfold CA at h ⊢
 rw [this,h]
/-- The writer at block g holds these bytes; what it writes to lies from block B on. -/
def WR (B g : Nat) (bs : List UInt8) (w : World) : Prop := B ≤ g ∧ ∃ v,CA g #[v] 137 w ∧ w.ownsRow B 5 1 v bs.length (Lib.byteCells bs)
theorem WR.lt {B g : Nat} {bs : List UInt8} {w : World} (h : WR B g bs w) : g < w.heap.size := by
 obtain ⟨_,v,hc,_⟩ := h
 exact hc.lt
theorem WR.call {B g : Nat} {bs : List UInt8} {w w' : World} (h : WR B g bs w) (hb : Below w.heap.size w w') : WR B g bs w' := by
 obtain ⟨h1,v,hc,ho⟩ := h
 exact ⟨h1,v,hc.below hb hc.lt,own_kept ho hb⟩
theorem WR.alloc {B g : Nat} {bs : List UInt8} {w : World} (h : WR B g bs w) (o : Obj) : WR B g bs (w.alloc o) := h.call ((Below.refl _ _).alloc (Nat.le_refl _) o)
theorem WR.put {B g : Nat} {bs : List UInt8} {w : World} {v v' : Value} (hB : B ≤ g) (hc : CA g #[v] 137 w) (ho : w.ownsRow B 5 1 v' bs.length (Lib.byteCells bs)) : WR B g bs (w.setCell ⟨g,0,none⟩ v') := by
 refine ⟨hB,v',hc.set v',?_⟩
 exact ho.kept (row := some g) ⟨rfl,rfl,rfl,by simp [World.setCell],fun k _ hk => Below.heap_setCell _ _ _ _ (fun e => hk (by simp [e]))⟩ (Or.inr (Lib.ownBlock_ne ho hc (by decide)))
theorem WR.set_row {B g : Nat} {w w' : World} {v u : Value} {n : Nat} {xs : List Value} (hc : CA g #[u] 137 w) (ho : w.ownsRow B 5 1 v n xs) (hg : w.grownBy w' v.ownBlock) : CA g #[u] 137 w' := by
 have := hg.block g hc.lt (Lib.ownBlock_ne ho hc (by decide)).symm
 unfold CA at hc ⊢
 rw [this,hc]
/-- A list of integers that is none of the writer's. -/
def LT (B g : Nat) (w : World) (v : Value) (l : List Int) : Prop := ∃ p c,v = .slice p l.length c ∧ l.length < 9223372036854775807 ∧ (l ≠ [] → ∃ k o,p = some ⟨k,o,none⟩ ∧ NW B g w k ∧ ∀ j x,l[j]? = some x → w.cell? ⟨k,o + j,none⟩ = some (.int .i64 x))
theorem LT.fr {B g : Nat} {w w' : World} {v : Value} {l : List Int} (h : LT B g w v l) (hf : FR B g w w') : LT B g w' v l := by
 obtain ⟨p,c,e,hq,h⟩ := h
 refine ⟨p,c,e,hq,fun hn => ?_⟩
 obtain ⟨k,o,e2,hk,hc⟩ := h hn
 exact ⟨k,o,e2,hf.nw hk,fun j x hj => by rw [World.cell?_of_block (hf.block k hk)]; exact hc j x hj⟩
theorem LT.of {B g B0 : Nat} {w : World} {v : Value} {l : List Int} (h : LI B0 w v l) (hB : B0 ≤ B) (hg : B ≤ g) (hw : B ≤ w.heap.size) : LT B g w v l := by
 obtain ⟨p,c,e,hq,h⟩ := h
 refine ⟨p,c,e,hq,fun hn => ?_⟩
 obtain ⟨k,o,e2,hk,hc⟩ := h hn
 exact ⟨k,o,e2,⟨by omega,by omega,.inl (by omega)⟩,hc⟩
theorem LT.one {B g : Nat} {w : World} (x : Int) (c : Nat) (hg : g < w.heap.size) : LT B g (w.alloc (.cells #[.int .i64 x] 3)) (.slice (some ⟨w.heap.size,0,none⟩) 1 c) [x] := by
 have hc := CA.new w #[.int .i64 x] 3
 refine ⟨_,c,rfl,by simp,fun _ => ⟨w.heap.size,0,rfl,hc.nw (by decide) (by omega),fun j y hj => ?_⟩⟩
 cases j with
 | zero => simp at hj; subst hj; exact hc.at rfl
 | succ j => simp at hj
theorem LT.two {B g : Nat} {w : World} (x y : Int) (c : Nat) (hg : g < w.heap.size) : LT B g (w.alloc (.cells #[.int .i64 x,.int .i64 y] 3)) (.slice (some ⟨w.heap.size,0,none⟩) 2 c) [x,y] := by
 have hc := CA.new w #[.int .i64 x,.int .i64 y] 3
 refine ⟨_,c,rfl,by simp,fun _ => ⟨w.heap.size,0,rfl,hc.nw (by decide) (by omega),fun j z hj => ?_⟩⟩
 match j with
 | 0 => simp at hj; subst hj; exact hc.at rfl
 | 1 => simp at hj; subst hj; exact hc.at rfl
 | j + 2 => simp at hj
theorem byI_nat (n : Int) : ((byI n).toNat : Int) = n % 256 := by
 unfold byI
 rw [toUInt8_toNat (by omega)]
 omega
theorem byteCells_byI (pre : List UInt8) (n : Int) : Lib.byteCells (pre ++ [byI n]) = Lib.byteCells pre ++ [Value.int .u8 (n % 256)] := by
 rw [Lib.byteCells_append]
 simp [Lib.byteCells,byI_nat]
end Go.Proofs.YtjgeedgphcjhoaaGreat
namespace Go.Proofs.YtjgeedgphcjhoaaGreat
open Go.RowKit
theorem append_byteF {w : World} {ops : Array Oper} {rest : List Oper} {o : Oper} {a : Act} {Q : Exit → Act → World → Prop} (hgd : o.guard = none) (s x : Operand)
  (ho : o.op = .call { callee := .builtin .append,args := #[s,x],argTypes := #[52,52] }) (B g : Nat) (bs : List UInt8) (v : Value) (n : Int) (W0 : World)
  (hBg : B ≤ g) (hc : CA g #[v] 137 w) (hown : w.ownsRow B 5 1 v bs.length (Lib.byteCells bs)) (hn : bs.length + 1 ≤ 140737488355328) (hf : FR B g W0 w) (n0 : Nat) (h0 : w.heap.size = n0) (hs : a.eval s = v) (hx : a.eval x = .slice (some ⟨n0,0,none⟩) 1 1)
  (h : ∀ v' w',w'.ownsRow B 5 1 v' (bs ++ [byI n]).length (Lib.byteCells (bs ++ [byI n])) → CA g #[v] 137 w' → FR B g W0 w' → wpList Tryz.prog ops Q rest (a.put o.dst v') w') :
  wpList Tryz.prog ops Q (o :: rest) a (w.alloc (.cells #[.int .u8 (n % 256)] 5)) := by
 subst h0
 obtain ⟨i0,hi,hz0,hz1,hz2⟩ := info_parts info5
 have hlt := hc.lt
 refine wpList_append_own _ hgd s x 52 ho B 5 i0 (.int .u8 0) 1 1 Tryz.underlying52 hi hz0 hz1 hz2 rfl (by decide) v bs.length (Lib.byteCells bs) hs (hown.alloc _) ⟨w.heap.size,0,none⟩ 1 1 [.int .u8 (n % 256)] hx rfl (cell_one_new _ _ _)
  (fun u hu => by simp at hu; subst hu; rfl) (by unfold maxLen; omega) (by omega) (by simp; omega) ?_
 intro v' w1 hown' hgrow _
 refine h v' w1 ?_ (WR.set_row (hc.alloc _) (hown.alloc _) hgrow) ((hf.alloc _).trans (FR.grown (hown.alloc _) hgrow))
 rw [byteCells_byI,List.length_append]
 exact hown'
theorem own_slice {w : World} {base : Nat} {v : Value} {n : Nat} {xs : List Value} (h : w.ownsRow base 5 1 v n xs) : ∃ p m c,v = .slice p m c := by
 rcases h.2 with ⟨h2,_⟩ | ⟨g,cap,cur,h1,_⟩
 ·exact ⟨_,_,_,h2⟩
 ·exact ⟨_,_,_,h1⟩
theorem map_take_snoc (l : List Int) (i : Nat) (x : Int) (h : l[i]? = some x) : (l.take (i + 1)).map byI = (l.take i).map byI ++ [byI x] := by
 rw [List.take_add_one,h,List.map_append]
 rfl
set_option maxHeartbeats 1000000 in
theorem bytes_says (B g : Nat) (bs : List UInt8) (l : List Int) (v : Value) (w : World) (hw : WR B g bs w) (hl : LT B g w v l) (hn : bs.length + l.length ≤ 140737488355000) :
  Calls Tryz.prog 169 #[.pointer (some ⟨g,0,none⟩),v] w fun e w' => e = .returned (.tuple #[]) ∧ WR B g (bs ++ l.map byI) w' ∧ FR B g w w' := by
 obtain ⟨p,c,rfl,hq,hl2⟩ := id hl
 have HL := hid hl
 obtain ⟨n,hnl⟩ : ∃ n,n = l.length := ⟨_,rfl⟩
 have HNL := hid hnl
 rw [← hnl] at hq ⊢
 have HP := hid hl2
 have HW := hid hw
 have HN := hid hn
 have hn62 : (n : Int) < 9223372036854775807 := by omega
 clear hl2 hl hw hn hnl hq
 go_enter Tryz.func169,Tryz.ntmps169
 go_wp2
 go_loopw [8] (fun vi wr => ∃ i : Nat,i ≤ n ∧ vi = .int .i64 i ∧ Hid (WR B g (bs ++ (l.take i).map byI) wr) ∧ Hid (FR B g w wr)) (fun vi _ => n - (intOf vi).toNat)
 case atStart => exact ⟨0,Nat.zero_le _,rfl,by simpa using HW,FR.refl _ _ _⟩
 case round =>
  obtain ⟨i,hi,rfl,HR,HF⟩ := hrel
  by_cases hlt : i < n
  ·have hll : i < l.length := by rw [← HNL.out]; exact hlt
   obtain ⟨x,hx⟩ : ∃ x,l[i]? = some x := ⟨l[i],List.getElem?_eq_getElem hll⟩
   obtain ⟨k,o,rfl,hk,hcell⟩ := HP.out (by intro e; rw [e] at hll; simp at hll)
   have z0 := hcell i x hx
   rw [← World.cell?_of_block (HF.out.block k hk)] at z0
   obtain ⟨hBg,u,hc,ho⟩ := HR.out
   obtain ⟨pu,nu,cu,rfl⟩ := own_slice ho
   have y0 := hc.at (k := 0) (v := .slice pu nu cu) rfl
   have HC := hid hc
   have HO := hid ho
   have HBG := hid hBg
   have HX := hid (map_take_snoc l i x hx)
   have HLE : Hid ((bs ++ (l.take i).map byI).length + 1 ≤ 140737488355328) := by
    have := HN.out
    simp only [Hid,List.length_append,List.length_map,List.length_take]
    omega
   clear hc ho hBg hcell hx hk hll hi
   go_wp2_with (at_builtin; refine append_byteF rfl _ _ rfl B g _ _ x w HBG.out HC.out HO.out HLE.out HF.out _ rfl rfl rfl ?_; intro v2 w2 ho2 hc2 hf2; obtain ⟨p2,m2,c2,rfl⟩ := own_slice ho2; have y1 := hc2.at (k := 0) (v := .slice pu nu cu) rfl; have y2 := hc2.free 0; have HO2 := hid ho2; have HC2 := hid hc2; have HF2 := hid hf2; clear ho2 hc2 hf2)
   go_roundw
   case rel =>
    refine ⟨i + 1,hlt,by go_num,?_,hid (HF2.out.set 0 _)⟩
    rw [HX.out,← List.append_assoc]
    exact WR.put HBG.out HC2.out HO2.out
   case measure => simp [intOf]; omega
  ·obtain rfl : i = n := by omega
   go_wp2
   (first | go_end0 | refine bodyPost_ret (results_none rfl _ _ _) rfl ?_)
   refine ⟨rfl,?_,HF.out⟩
   have := HR.out
   rw [HNL.out,List.take_length] at this
   exact this
end Go.Proofs.YtjgeedgphcjhoaaGreat
namespace Go.Proofs.YtjgeedgphcjhoaaGreat
open Go.RowKit
theorem step_append_own {P : Program} {ops : Array Oper} {o : Oper} {a : Act} {w : World} {K : Act → World → Prop} {Q : Exit → Act → World → Prop} {E : Prop} (hgd : o.guard = none) (s x : Operand) (t : TypeId)
  (ho : o.op = .call { callee := .builtin .append,args := #[s,x],argTypes := #[t,t] }) (base : Nat) (e : TypeId) (i : TypeInfo) (z : Value) (size bytes : Nat) (ht : P.underlying t = some (.slice e)) (hi : P.info? e = some i) (hz : i.zero = some z)
  (hsize : i.size = size) (hby : i.bytes = bytes) (hzs : z.cells.size = size) (hsz : 0 < size) (v : Value) (n : Nat) (xs : List Value) (hs : a.eval s = v) (hown : w.ownsRow base e size v n xs)
  (ad : Addr) (m c : Nat) (news : List Value) (hx : a.eval x = .slice (some ad) m c) (hl : news.length = m * size) (hnews : ∀ j u,news[j]? = some u → w.cell? (ad.add j) = some u) (h1 : ∀ u ∈ news,u.oneCell' = true)
  (h63 : n + m ≤ maxLen) (hbytes : (n + m) * bytes ≤ 140737488355328) (hbase : base ≤ w.heap.size)
  (h : ∀ v' w',w'.ownsRow base e size v' (n + m) (xs ++ news) → w.grownBy w' v.ownBlock → K (a.put o.dst v') w') :
  if Region.wanted o (yielded ops a.tmps) = true then Oper.wp P o a w K Q else E := by
 have hw : Region.wanted o (yielded ops a.tmps) = true := by simp [Region.wanted,hgd]
 rw [if_pos hw]
 obtain ⟨v',w',hrun,r1,r2,_⟩ := run_append_own (P := P) w base t o.type e i z size bytes ht hi hz hsize hby hzs hsz v n xs hown ad m c news hl hnews h1 h63 hbytes hbase
 unfold Oper.wp
 simp [execOp,ho,resolve,invoke,builtin,hs,hx,hrun,Result.andThen]
 exact h _ _ r1 r2
theorem own_cells {w : World} {base g n c : Nat} {y : List UInt8} (h : w.ownsRow base 5 1 (.slice (some ⟨g,0,none⟩) n c) n (Lib.byteCells y)) : ∀ j u,(Lib.byteCells y)[j]? = some u → w.cell? ((⟨g,0,none⟩ : Addr).add j) = some u := by
 intro j u hj
 have hl := h.1
 have hlt : j < n := by have := (List.getElem?_eq_some_iff.1 hj).1; omega
 rw [addr_add,Nat.zero_add,h.cellAt j (by omega),hj]
theorem own_at {w : World} {base n : Nat} {v : Value} {xs : List Value} (h : w.ownsRow base 5 1 v n xs) (hn : 1 ≤ n) : ∃ g c,v = .slice (some ⟨g,0,none⟩) n c := by
 rcases h.2 with ⟨_,h2⟩ | ⟨g,cap,cur,h1,_⟩
 ·omega
 ·exact ⟨g,cap,h1⟩
set_option maxHeartbeats 2000000 in
theorem u_of (B g : Nat) (bs : List UInt8) (n : Int) (x : Nat) (hx : IntKind.u64.wrap n = (x : Int)) (y : List UInt8) (m : Nat) (hm : m = y.length) (w : World) (hB : B ≤ w.heap.size) (hw : WR B g bs w) (hn : bs.length + m ≤ 140737488355000)
  (HU : ∀ W,Hid (Calls Tryz.prog 177 #[.slice none 0 0,.int .u64 (x : Nat)] W fun e w' => ∃ g2 c2,e = .returned (.slice (some ⟨g2,0,none⟩) m c2) ∧ w'.ownsRow W.heap.size 5 1 (.slice (some ⟨g2,0,none⟩) m c2) m (Lib.byteCells y) ∧ Below W.heap.size W w')) :
  Calls Tryz.prog 105 #[.pointer (some ⟨g,0,none⟩),.int .i64 n] w fun e w' => e = .returned (.tuple #[]) ∧ WR B g (bs ++ y) w' ∧ FR B g w w' := by
 obtain ⟨i0,hi,hz0,hz1,hz2⟩ := info_parts info5
 obtain ⟨hBg,u,hc,ho⟩ := hw
 obtain ⟨pu,nu,cu,rfl⟩ := own_slice ho
 have HN1 := hid (show bs.length + m ≤ maxLen by unfold maxLen; omega)
 have HN2 := hid (show (bs.length + m) * 1 ≤ 140737488355328 by omega)
 have HBG := hid hBg
 have HBW := hid hB
 have HM := hid hm
 have HC0 := hid hc
 have HO0 := hid ho
 clear hBg hc ho hm hn hB
 go_enter Tryz.func105,Tryz.ntmps105
 go_upto_region 0 with fail
 have hS : FR B g w w.drew := (FR.refl B g w).drew
 have HC : Hid (CA g #[.slice pu nu cu] 137 w.drew) := HC0
 have HO : Hid (w.drew.ownsRow B 5 1 (.slice pu nu cu) bs.length (Lib.byteCells bs)) := HO0
 clear HC0 HO0
 refine wp_region_held_drew (S := fun W => FR B g w W) (by kernel_rfl) hS (fun _ => ?_)
 generalize w.drew = W at *
 refine wpAnyH_take (oi := ⟨_,_,_,_,_,_⟩) (i := 0) (v := .pointer (some ⟨g,0,none⟩)) rfl (by kernel_rfl) (by kernel_rfl) (by kernel_rfl) (fun _ _ _ h => h) (Or.inl ⟨by rfl,?_⟩) (by assumption) ?_
 ·(intro W hSw; skip; go_simp; try (with_reducible rfl))
 try simp only [Act.put,List.setIfInBounds_toArray,List.set_cons_zero,List.set_cons_succ]
 refine wpAnyH_take (oi := ⟨_,_,_,_,_,_⟩) (i := 1) (v := .pointer (some ⟨g,0,none⟩)) rfl (by kernel_rfl) (by kernel_rfl) (by kernel_rfl) (fun _ _ _ h => h) (Or.inl ⟨by rfl,?_⟩) (by assumption) ?_
 ·(intro W hSw; skip; go_simp; try (with_reducible rfl))
 try simp only [Act.put,List.setIfInBounds_toArray,List.set_cons_zero,List.set_cons_succ]
 refine wpAnyH_take (oi := ⟨_,_,_,_,_,_⟩) (i := 2) (v := .pointer (some ⟨g,0,none⟩)) rfl (by kernel_rfl) (by kernel_rfl) (by kernel_rfl) (fun _ _ _ h => h) (Or.inl ⟨by rfl,?_⟩) (by assumption) ?_
 ·(intro W hSw; skip; go_simp; try (with_reducible rfl))
 try simp only [Act.put,List.setIfInBounds_toArray,List.set_cons_zero,List.set_cons_succ]
 refine wpAnyH_take (oi := ⟨_,_,_,_,_,_⟩) (i := 3) (v := .pointer (some ⟨g,0,none⟩)) rfl (by kernel_rfl) (by kernel_rfl) (by kernel_rfl) (fun _ _ _ h => h) (Or.inl ⟨by rfl,?_⟩) (by assumption) ?_
 ·(intro W hSw; skip; go_simp; try (with_reducible rfl))
 try simp only [Act.put,List.setIfInBounds_toArray,List.set_cons_zero,List.set_cons_succ]
 refine wpAnyH_take (oi := ⟨_,_,_,_,_,_⟩) (i := 5) (v := .int .i64 n) rfl (by kernel_rfl) (by kernel_rfl) (by kernel_rfl) (fun _ _ _ h => h) (Or.inl ⟨by rfl,?_⟩) (by assumption) ?_
 ·(intro W hSw; skip; go_simp; try (with_reducible rfl))
 try simp only [Act.put,List.setIfInBounds_toArray,List.set_cons_zero,List.set_cons_succ]
 refine wpAnyH_take (oi := ⟨_,_,_,_,_,_⟩) (i := 6) (v := .int .u64 (x : Nat)) rfl (by kernel_rfl) (by kernel_rfl) (by kernel_rfl) (fun _ _ _ h => h) (Or.inl ⟨by rfl,?_⟩) (by assumption) ?_
 ·(intro W hSw; skip; go_simp; try (with_reducible rfl))
 try simp only [Act.put,List.setIfInBounds_toArray,List.set_cons_zero,List.set_cons_succ]
 refine wpAnyH_ready (rs := [4,7]) (by kernel_rfl) (by simp) ?_
 refine AllReadyH.cons (o := ⟨_,_,_,_,_,_⟩) rfl (fun K hK => ?_) ?_
 ·have z0 := HC.out.at (k := 0) (v := .slice pu nu cu) rfl
  go_simp
  clear z0
  refine hK.out _ _ hS (fun _ => ?_)
  clear hK K
  try simp only [Act.put,List.setIfInBounds_toArray,List.set_cons_zero,List.set_cons_succ]
  refine wpAnyH_ready (rs := [7]) (by kernel_rfl) (by simp) ?_
  refine AllReadyH.cons (o := ⟨_,_,_,_,_,_⟩) rfl (fun K hK => ?_) ?_
  ·go_simp
   go_at_call 177
   (with_reducible refine (HU W).out.mono ?_)
   rintro e W1 ⟨g2,c2,rfl,ho2,hb⟩
   replace HO := hid (own_kept HO.out hb)
   replace HC := hid (HC.out.below hb HC.out.lt)
   replace hS := hS.trans (FR.of hb)
   have HO2 := hid ho2
   clear hb ho2
   refine hK.out _ _ hS (fun _ => ?_)
   clear hK K
   try simp only [Act.put,List.setIfInBounds_toArray,List.set_cons_zero,List.set_cons_succ]
   refine wpAnyH_ready (rs := [8]) (by kernel_rfl) (by simp) ?_
   refine AllReadyH.cons (o := ⟨_,_,_,_,_,_⟩) rfl (fun K hK => ?_) ?_
   ·refine step_append_own rfl (.tmp 8) (.tmp 11) 52 rfl B 5 i0 (.int .u8 0) 1 1 Tryz.underlying52 hi hz0 hz1 hz2 rfl (by decide) (.slice pu nu cu) bs.length (Lib.byteCells bs) rfl HO.out ⟨g2,0,none⟩ m c2 (Lib.byteCells y) rfl (by rw [Lib.byteCells_length,HM.out,Nat.mul_one]) (own_cells HO2.out) (byteCells_one y) HN1.out HN2.out (Nat.le_trans HBW.out hS.size) ?_
    intro v3 W2 ho3 hg3
    replace HC := hid (WR.set_row HC.out HO.out hg3)
    replace hS := hS.trans (FR.grown HO.out hg3)
    clear HO HO2
    obtain ⟨p3,n3,c3,rfl⟩ := own_slice ho3
    have HO3 := hid ho3
    clear ho3 hg3
    refine hK.out _ _ hS (fun _ => ?_)
    clear hK K
    try simp only [Act.put,List.setIfInBounds_toArray,List.set_cons_zero,List.set_cons_succ]
    refine wpAnyH_take (oi := ⟨_,_,_,_,_,_⟩) (i := 9) (v := .pointer (some ⟨g,0,none⟩)) rfl (by kernel_rfl) (by kernel_rfl) (by kernel_rfl) (fun _ _ _ h => h) (Or.inl ⟨by rfl,?_⟩) (by assumption) ?_
    ·(intro W hSw; skip; go_simp; try (with_reducible rfl))
    try simp only [Act.put,List.setIfInBounds_toArray,List.set_cons_zero,List.set_cons_succ]
    refine wpAnyH_take (oi := ⟨_,_,_,_,_,_⟩) (i := 10) (v := .pointer (some ⟨g,0,none⟩)) rfl (by kernel_rfl) (by kernel_rfl) (by kernel_rfl) (fun _ _ _ h => h) (Or.inl ⟨by rfl,?_⟩) (by assumption) ?_
    ·(intro W hSw; skip; go_simp; try (with_reducible rfl))
    try simp only [Act.put,List.setIfInBounds_toArray,List.set_cons_zero,List.set_cons_succ]
    refine wpAnyH_ready (rs := [11]) (by kernel_rfl) (by simp) ?_
    refine AllReadyH.cons (o := ⟨_,_,_,_,_,_⟩) rfl (fun K hK => ?_) ?_
    ·have z0 := HC.out.at (k := 0) (v := .slice pu nu cu) rfl
     have z1 := HC.out.free 0
     go_simp
     clear z0 z1
     have HWR := hid (WR.put (bs := bs ++ y) HBG.out HC.out (by rw [List.length_append,← HM.out,Lib.byteCells_append]; exact HO3.out))
     replace hS := hS.set 0 (.slice p3 n3 c3)
     clear HC HO3
     generalize W2.setCell ⟨g,0,none⟩ (.slice p3 n3 c3) = W3 at *
     refine hK.out _ _ hS (fun _ => ?_)
     clear hK K
     try simp only [Act.put,List.setIfInBounds_toArray,List.set_cons_zero,List.set_cons_succ]
     refine wpAnyH_done (by kernel_rfl) ?_ _
     have HF := hid hS
     clear hS
     go_wp2
     (first | go_end0 | refine bodyPost_ret (results_none rfl _ _ _) rfl ?_)
     exact ⟨rfl,HWR.out,HF.out⟩
    exact AllReadyH.nil
   exact AllReadyH.nil
  exact AllReadyH.nil
 refine AllReadyH.cons (o := ⟨_,_,_,_,_,_⟩) rfl (fun K hK => ?_) ?_
 ·go_simp
  go_at_call 177
  (with_reducible refine (HU W).out.mono ?_)
  rintro e W1 ⟨g2,c2,rfl,ho2,hb⟩
  replace HO := hid (own_kept HO.out hb)
  replace HC := hid (HC.out.below hb HC.out.lt)
  replace hS := hS.trans (FR.of hb)
  have HO2 := hid ho2
  clear hb ho2
  refine hK.out _ _ hS (fun _ => ?_)
  clear hK K
  try simp only [Act.put,List.setIfInBounds_toArray,List.set_cons_zero,List.set_cons_succ]
  refine wpAnyH_ready (rs := [4]) (by kernel_rfl) (by simp) ?_
  refine AllReadyH.cons (o := ⟨_,_,_,_,_,_⟩) rfl (fun K hK => ?_) ?_
  ·have z0 := HC.out.at (k := 0) (v := .slice pu nu cu) rfl
   go_simp
   clear z0
   refine hK.out _ _ hS (fun _ => ?_)
   clear hK K
   try simp only [Act.put,List.setIfInBounds_toArray,List.set_cons_zero,List.set_cons_succ]
   refine wpAnyH_ready (rs := [8]) (by kernel_rfl) (by simp) ?_
   refine AllReadyH.cons (o := ⟨_,_,_,_,_,_⟩) rfl (fun K hK => ?_) ?_
   ·refine step_append_own rfl (.tmp 8) (.tmp 11) 52 rfl B 5 i0 (.int .u8 0) 1 1 Tryz.underlying52 hi hz0 hz1 hz2 rfl (by decide) (.slice pu nu cu) bs.length (Lib.byteCells bs) rfl HO.out ⟨g2,0,none⟩ m c2 (Lib.byteCells y) rfl (by rw [Lib.byteCells_length,HM.out,Nat.mul_one]) (own_cells HO2.out) (byteCells_one y) HN1.out HN2.out (Nat.le_trans HBW.out hS.size) ?_
    intro v3 W2 ho3 hg3
    replace HC := hid (WR.set_row HC.out HO.out hg3)
    replace hS := hS.trans (FR.grown HO.out hg3)
    clear HO HO2
    obtain ⟨p3,n3,c3,rfl⟩ := own_slice ho3
    have HO3 := hid ho3
    clear ho3 hg3
    refine hK.out _ _ hS (fun _ => ?_)
    clear hK K
    try simp only [Act.put,List.setIfInBounds_toArray,List.set_cons_zero,List.set_cons_succ]
    refine wpAnyH_take (oi := ⟨_,_,_,_,_,_⟩) (i := 9) (v := .pointer (some ⟨g,0,none⟩)) rfl (by kernel_rfl) (by kernel_rfl) (by kernel_rfl) (fun _ _ _ h => h) (Or.inl ⟨by rfl,?_⟩) (by assumption) ?_
    ·(intro W hSw; skip; go_simp; try (with_reducible rfl))
    try simp only [Act.put,List.setIfInBounds_toArray,List.set_cons_zero,List.set_cons_succ]
    refine wpAnyH_take (oi := ⟨_,_,_,_,_,_⟩) (i := 10) (v := .pointer (some ⟨g,0,none⟩)) rfl (by kernel_rfl) (by kernel_rfl) (by kernel_rfl) (fun _ _ _ h => h) (Or.inl ⟨by rfl,?_⟩) (by assumption) ?_
    ·(intro W hSw; skip; go_simp; try (with_reducible rfl))
    try simp only [Act.put,List.setIfInBounds_toArray,List.set_cons_zero,List.set_cons_succ]
    refine wpAnyH_ready (rs := [11]) (by kernel_rfl) (by simp) ?_
    refine AllReadyH.cons (o := ⟨_,_,_,_,_,_⟩) rfl (fun K hK => ?_) ?_
    ·have z0 := HC.out.at (k := 0) (v := .slice pu nu cu) rfl
     have z1 := HC.out.free 0
     go_simp
     clear z0 z1
     have HWR := hid (WR.put (bs := bs ++ y) HBG.out HC.out (by rw [List.length_append,← HM.out,Lib.byteCells_append]; exact HO3.out))
     replace hS := hS.set 0 (.slice p3 n3 c3)
     clear HC HO3
     generalize W2.setCell ⟨g,0,none⟩ (.slice p3 n3 c3) = W3 at *
     refine hK.out _ _ hS (fun _ => ?_)
     clear hK K
     try simp only [Act.put,List.setIfInBounds_toArray,List.set_cons_zero,List.set_cons_succ]
     refine wpAnyH_done (by kernel_rfl) ?_ _
     have HF := hid hS
     clear hS
     go_wp2
     (first | go_end0 | refine bodyPost_ret (results_none rfl _ _ _) rfl ?_)
     exact ⟨rfl,HWR.out,HF.out⟩
    exact AllReadyH.nil
   exact AllReadyH.nil
  exact AllReadyH.nil
 exact AllReadyH.nil
set_option maxHeartbeats 2000000 in
theorem s_of (B g : Nat) (bs : List UInt8) (n : Int) (x : Unit)  (y : List UInt8) (m : Nat) (hm : m = y.length) (w : World) (hB : B ≤ w.heap.size) (hw : WR B g bs w) (hn : bs.length + m ≤ 140737488355000)
  (HU : ∀ W,Hid (Calls Tryz.prog 267 #[.slice none 0 0,.int .i64 n] W fun e w' => ∃ g2 c2,e = .returned (.slice (some ⟨g2,0,none⟩) m c2) ∧ w'.ownsRow W.heap.size 5 1 (.slice (some ⟨g2,0,none⟩) m c2) m (Lib.byteCells y) ∧ Below W.heap.size W w')) :
  Calls Tryz.prog 243 #[.pointer (some ⟨g,0,none⟩),.int .i64 n] w fun e w' => e = .returned (.tuple #[]) ∧ WR B g (bs ++ y) w' ∧ FR B g w w' := by
 obtain ⟨i0,hi,hz0,hz1,hz2⟩ := info_parts info5
 obtain ⟨hBg,u,hc,ho⟩ := hw
 obtain ⟨pu,nu,cu,rfl⟩ := own_slice ho
 have HN1 := hid (show bs.length + m ≤ maxLen by unfold maxLen; omega)
 have HN2 := hid (show (bs.length + m) * 1 ≤ 140737488355328 by omega)
 have HBG := hid hBg
 have HBW := hid hB
 have HM := hid hm
 have HC0 := hid hc
 have HO0 := hid ho
 clear hBg hc ho hm hn hB
 go_enter Tryz.func243,Tryz.ntmps243
 go_upto_region 0 with fail
 have hS : FR B g w w.drew := (FR.refl B g w).drew
 have HC : Hid (CA g #[.slice pu nu cu] 137 w.drew) := HC0
 have HO : Hid (w.drew.ownsRow B 5 1 (.slice pu nu cu) bs.length (Lib.byteCells bs)) := HO0
 clear HC0 HO0
 refine wp_region_held_drew (S := fun W => FR B g w W) (by kernel_rfl) hS (fun _ => ?_)
 generalize w.drew = W at *
 refine wpAnyH_take (oi := ⟨_,_,_,_,_,_⟩) (i := 0) (v := .pointer (some ⟨g,0,none⟩)) rfl (by kernel_rfl) (by kernel_rfl) (by kernel_rfl) (fun _ _ _ h => h) (Or.inl ⟨by rfl,?_⟩) (by assumption) ?_
 ·(intro W hSw; skip; go_simp; try (with_reducible rfl))
 try simp only [Act.put,List.setIfInBounds_toArray,List.set_cons_zero,List.set_cons_succ]
 refine wpAnyH_take (oi := ⟨_,_,_,_,_,_⟩) (i := 1) (v := .pointer (some ⟨g,0,none⟩)) rfl (by kernel_rfl) (by kernel_rfl) (by kernel_rfl) (fun _ _ _ h => h) (Or.inl ⟨by rfl,?_⟩) (by assumption) ?_
 ·(intro W hSw; skip; go_simp; try (with_reducible rfl))
 try simp only [Act.put,List.setIfInBounds_toArray,List.set_cons_zero,List.set_cons_succ]
 refine wpAnyH_take (oi := ⟨_,_,_,_,_,_⟩) (i := 2) (v := .pointer (some ⟨g,0,none⟩)) rfl (by kernel_rfl) (by kernel_rfl) (by kernel_rfl) (fun _ _ _ h => h) (Or.inl ⟨by rfl,?_⟩) (by assumption) ?_
 ·(intro W hSw; skip; go_simp; try (with_reducible rfl))
 try simp only [Act.put,List.setIfInBounds_toArray,List.set_cons_zero,List.set_cons_succ]
 refine wpAnyH_take (oi := ⟨_,_,_,_,_,_⟩) (i := 3) (v := .pointer (some ⟨g,0,none⟩)) rfl (by kernel_rfl) (by kernel_rfl) (by kernel_rfl) (fun _ _ _ h => h) (Or.inl ⟨by rfl,?_⟩) (by assumption) ?_
 ·(intro W hSw; skip; go_simp; try (with_reducible rfl))
 try simp only [Act.put,List.setIfInBounds_toArray,List.set_cons_zero,List.set_cons_succ]
 refine wpAnyH_take (oi := ⟨_,_,_,_,_,_⟩) (i := 5) (v := .int .i64 n) rfl (by kernel_rfl) (by kernel_rfl) (by kernel_rfl) (fun _ _ _ h => h) (Or.inl ⟨by rfl,?_⟩) (by assumption) ?_
 ·(intro W hSw; skip; go_simp; try (with_reducible rfl))
 try simp only [Act.put,List.setIfInBounds_toArray,List.set_cons_zero,List.set_cons_succ]
 refine wpAnyH_ready (rs := [4,6]) (by kernel_rfl) (by simp) ?_
 refine AllReadyH.cons (o := ⟨_,_,_,_,_,_⟩) rfl (fun K hK => ?_) ?_
 ·have z0 := HC.out.at (k := 0) (v := .slice pu nu cu) rfl
  go_simp
  clear z0
  refine hK.out _ _ hS (fun _ => ?_)
  clear hK K
  try simp only [Act.put,List.setIfInBounds_toArray,List.set_cons_zero,List.set_cons_succ]
  refine wpAnyH_ready (rs := [6]) (by kernel_rfl) (by simp) ?_
  refine AllReadyH.cons (o := ⟨_,_,_,_,_,_⟩) rfl (fun K hK => ?_) ?_
  ·go_simp
   go_at_call 267
   (with_reducible refine (HU W).out.mono ?_)
   rintro e W1 ⟨g2,c2,rfl,ho2,hb⟩
   replace HO := hid (own_kept HO.out hb)
   replace HC := hid (HC.out.below hb HC.out.lt)
   replace hS := hS.trans (FR.of hb)
   have HO2 := hid ho2
   clear hb ho2
   refine hK.out _ _ hS (fun _ => ?_)
   clear hK K
   try simp only [Act.put,List.setIfInBounds_toArray,List.set_cons_zero,List.set_cons_succ]
   refine wpAnyH_ready (rs := [7]) (by kernel_rfl) (by simp) ?_
   refine AllReadyH.cons (o := ⟨_,_,_,_,_,_⟩) rfl (fun K hK => ?_) ?_
   ·refine step_append_own rfl (.tmp 8) (.tmp 10) 52 rfl B 5 i0 (.int .u8 0) 1 1 Tryz.underlying52 hi hz0 hz1 hz2 rfl (by decide) (.slice pu nu cu) bs.length (Lib.byteCells bs) rfl HO.out ⟨g2,0,none⟩ m c2 (Lib.byteCells y) rfl (by rw [Lib.byteCells_length,HM.out,Nat.mul_one]) (own_cells HO2.out) (byteCells_one y) HN1.out HN2.out (Nat.le_trans HBW.out hS.size) ?_
    intro v3 W2 ho3 hg3
    replace HC := hid (WR.set_row HC.out HO.out hg3)
    replace hS := hS.trans (FR.grown HO.out hg3)
    clear HO HO2
    obtain ⟨p3,n3,c3,rfl⟩ := own_slice ho3
    have HO3 := hid ho3
    clear ho3 hg3
    refine hK.out _ _ hS (fun _ => ?_)
    clear hK K
    try simp only [Act.put,List.setIfInBounds_toArray,List.set_cons_zero,List.set_cons_succ]
    refine wpAnyH_take (oi := ⟨_,_,_,_,_,_⟩) (i := 8) (v := .pointer (some ⟨g,0,none⟩)) rfl (by kernel_rfl) (by kernel_rfl) (by kernel_rfl) (fun _ _ _ h => h) (Or.inl ⟨by rfl,?_⟩) (by assumption) ?_
    ·(intro W hSw; skip; go_simp; try (with_reducible rfl))
    try simp only [Act.put,List.setIfInBounds_toArray,List.set_cons_zero,List.set_cons_succ]
    refine wpAnyH_take (oi := ⟨_,_,_,_,_,_⟩) (i := 9) (v := .pointer (some ⟨g,0,none⟩)) rfl (by kernel_rfl) (by kernel_rfl) (by kernel_rfl) (fun _ _ _ h => h) (Or.inl ⟨by rfl,?_⟩) (by assumption) ?_
    ·(intro W hSw; skip; go_simp; try (with_reducible rfl))
    try simp only [Act.put,List.setIfInBounds_toArray,List.set_cons_zero,List.set_cons_succ]
    refine wpAnyH_ready (rs := [10]) (by kernel_rfl) (by simp) ?_
    refine AllReadyH.cons (o := ⟨_,_,_,_,_,_⟩) rfl (fun K hK => ?_) ?_
    ·have z0 := HC.out.at (k := 0) (v := .slice pu nu cu) rfl
     have z1 := HC.out.free 0
     go_simp
     clear z0 z1
     have HWR := hid (WR.put (bs := bs ++ y) HBG.out HC.out (by rw [List.length_append,← HM.out,Lib.byteCells_append]; exact HO3.out))
     replace hS := hS.set 0 (.slice p3 n3 c3)
     clear HC HO3
     generalize W2.setCell ⟨g,0,none⟩ (.slice p3 n3 c3) = W3 at *
     refine hK.out _ _ hS (fun _ => ?_)
     clear hK K
     try simp only [Act.put,List.setIfInBounds_toArray,List.set_cons_zero,List.set_cons_succ]
     refine wpAnyH_done (by kernel_rfl) ?_ _
     have HF := hid hS
     clear hS
     go_wp2
     (first | go_end0 | refine bodyPost_ret (results_none rfl _ _ _) rfl ?_)
     exact ⟨rfl,HWR.out,HF.out⟩
    exact AllReadyH.nil
   exact AllReadyH.nil
  exact AllReadyH.nil
 refine AllReadyH.cons (o := ⟨_,_,_,_,_,_⟩) rfl (fun K hK => ?_) ?_
 ·go_simp
  go_at_call 267
  (with_reducible refine (HU W).out.mono ?_)
  rintro e W1 ⟨g2,c2,rfl,ho2,hb⟩
  replace HO := hid (own_kept HO.out hb)
  replace HC := hid (HC.out.below hb HC.out.lt)
  replace hS := hS.trans (FR.of hb)
  have HO2 := hid ho2
  clear hb ho2
  refine hK.out _ _ hS (fun _ => ?_)
  clear hK K
  try simp only [Act.put,List.setIfInBounds_toArray,List.set_cons_zero,List.set_cons_succ]
  refine wpAnyH_ready (rs := [4]) (by kernel_rfl) (by simp) ?_
  refine AllReadyH.cons (o := ⟨_,_,_,_,_,_⟩) rfl (fun K hK => ?_) ?_
  ·have z0 := HC.out.at (k := 0) (v := .slice pu nu cu) rfl
   go_simp
   clear z0
   refine hK.out _ _ hS (fun _ => ?_)
   clear hK K
   try simp only [Act.put,List.setIfInBounds_toArray,List.set_cons_zero,List.set_cons_succ]
   refine wpAnyH_ready (rs := [7]) (by kernel_rfl) (by simp) ?_
   refine AllReadyH.cons (o := ⟨_,_,_,_,_,_⟩) rfl (fun K hK => ?_) ?_
   ·refine step_append_own rfl (.tmp 8) (.tmp 10) 52 rfl B 5 i0 (.int .u8 0) 1 1 Tryz.underlying52 hi hz0 hz1 hz2 rfl (by decide) (.slice pu nu cu) bs.length (Lib.byteCells bs) rfl HO.out ⟨g2,0,none⟩ m c2 (Lib.byteCells y) rfl (by rw [Lib.byteCells_length,HM.out,Nat.mul_one]) (own_cells HO2.out) (byteCells_one y) HN1.out HN2.out (Nat.le_trans HBW.out hS.size) ?_
    intro v3 W2 ho3 hg3
    replace HC := hid (WR.set_row HC.out HO.out hg3)
    replace hS := hS.trans (FR.grown HO.out hg3)
    clear HO HO2
    obtain ⟨p3,n3,c3,rfl⟩ := own_slice ho3
    have HO3 := hid ho3
    clear ho3 hg3
    refine hK.out _ _ hS (fun _ => ?_)
    clear hK K
    try simp only [Act.put,List.setIfInBounds_toArray,List.set_cons_zero,List.set_cons_succ]
    refine wpAnyH_take (oi := ⟨_,_,_,_,_,_⟩) (i := 8) (v := .pointer (some ⟨g,0,none⟩)) rfl (by kernel_rfl) (by kernel_rfl) (by kernel_rfl) (fun _ _ _ h => h) (Or.inl ⟨by rfl,?_⟩) (by assumption) ?_
    ·(intro W hSw; skip; go_simp; try (with_reducible rfl))
    try simp only [Act.put,List.setIfInBounds_toArray,List.set_cons_zero,List.set_cons_succ]
    refine wpAnyH_take (oi := ⟨_,_,_,_,_,_⟩) (i := 9) (v := .pointer (some ⟨g,0,none⟩)) rfl (by kernel_rfl) (by kernel_rfl) (by kernel_rfl) (fun _ _ _ h => h) (Or.inl ⟨by rfl,?_⟩) (by assumption) ?_
    ·(intro W hSw; skip; go_simp; try (with_reducible rfl))
    try simp only [Act.put,List.setIfInBounds_toArray,List.set_cons_zero,List.set_cons_succ]
    refine wpAnyH_ready (rs := [10]) (by kernel_rfl) (by simp) ?_
    refine AllReadyH.cons (o := ⟨_,_,_,_,_,_⟩) rfl (fun K hK => ?_) ?_
    ·have z0 := HC.out.at (k := 0) (v := .slice pu nu cu) rfl
     have z1 := HC.out.free 0
     go_simp
     clear z0 z1
     have HWR := hid (WR.put (bs := bs ++ y) HBG.out HC.out (by rw [List.length_append,← HM.out,Lib.byteCells_append]; exact HO3.out))
     replace hS := hS.set 0 (.slice p3 n3 c3)
     clear HC HO3
     generalize W2.setCell ⟨g,0,none⟩ (.slice p3 n3 c3) = W3 at *
     refine hK.out _ _ hS (fun _ => ?_)
     clear hK K
     try simp only [Act.put,List.setIfInBounds_toArray,List.set_cons_zero,List.set_cons_succ]
     refine wpAnyH_done (by kernel_rfl) ?_ _
     have HF := hid hS
     clear hS
     go_wp2
     (first | go_end0 | refine bodyPost_ret (results_none rfl _ _ _) rfl ?_)
     exact ⟨rfl,HWR.out,HF.out⟩
    exact AllReadyH.nil
   exact AllReadyH.nil
  exact AllReadyH.nil
 exact AllReadyH.nil
theorem u_says (B g : Nat) (bs : List UInt8) (n : Int) (w : World) (hB : B ≤ w.heap.size) (hw : WR B g bs w) (hn : bs.length + 10 ≤ 140737488355000) :
  Calls Tryz.prog 105 #[.pointer (some ⟨g,0,none⟩),.int .i64 n] w fun e w' => e = .returned (.tuple #[]) ∧ WR B g (bs ++ uI n) w' ∧ FR B g w w' := by
 obtain ⟨x,hx⟩ : ∃ x : Nat,x = (n % 18446744073709551616).toNat := ⟨_,rfl⟩
 have hl := ulist_length64 (x := x) (by omega)
 have hp := ulist_pos x
 refine u_of B g bs n x (by rw [show IntKind.u64.wrap n = n % 18446744073709551616 from rfl]; omega) (uI n) (uI n).length rfl w hB hw (by have := uI_len n; omega) (fun W => ?_)
 refine (U_in 0 (.slice none 0 0) [] x (by omega) W (.inl (.inl ⟨rfl,rfl⟩)) (Nat.zero_le _) (by simp)).mono ?_
 rintro e w' ⟨v,rfl,ho,hb⟩
 rw [List.nil_append,hx] at ho
 rw [hx] at hp
 obtain ⟨g2,c2,rfl⟩ := own_at ho hp
 exact ⟨g2,c2,rfl,ho,hb⟩
theorem s_says (B g : Nat) (bs : List UInt8) (n : Int) (h0 : -9223372036854775808 ≤ n) (h1 : n ≤ 9223372036854775807) (w : World) (hB : B ≤ w.heap.size) (hw : WR B g bs w) (hn : bs.length + 10 ≤ 140737488355000) :
  Calls Tryz.prog 243 #[.pointer (some ⟨g,0,none⟩),.int .i64 n] w fun e w' => e = .returned (.tuple #[]) ∧ WR B g (bs ++ slist n) w' ∧ FR B g w w' := by
 have hl := slist_length64 h0 h1
 have hp := slist_pos n
 refine s_of B g bs n () (slist n) (slist n).length rfl w hB hw (by omega) (fun W => ?_)
 refine (S_in 0 (.slice none 0 0) [] n h0 h1 W (.inl (.inl ⟨rfl,rfl⟩)) (Nat.zero_le _) (by simp)).mono ?_
 rintro e w' ⟨v,rfl,ho,hb⟩
 rw [List.nil_append] at ho
 obtain ⟨g2,c2,rfl⟩ := own_at ho hp
 exact ⟨g2,c2,rfl,ho,hb⟩
end Go.Proofs.YtjgeedgphcjhoaaGreat
namespace Go.Proofs.YtjgeedgphcjhoaaGreat
open Go.RowKit
/-- All stays but rows of bytes from block B on. -/
structure RF (B : Nat) (w w' : World) : Prop where
 os : w'.os = w.os
 tape : w'.tape = w.tape
 output : w'.output = w.output
 size : w.heap.size ≤ w'.heap.size
 block : ∀ k,k < w.heap.size → (k < B ∨ ∃ cs T fr,w.heap[k]? = some (.cells cs T fr) ∧ T ≠ 5) → w'.heap[k]? = w.heap[k]?
theorem RF.refl (B : Nat) (w : World) : RF B w w := ⟨rfl,rfl,rfl,Nat.le_refl _,fun _ _ _ => rfl⟩
theorem RF.nw {B : Nat} {w w' : World} (h : RF B w w') {k : Nat} (hl : k < w.heap.size) (hk : k < B ∨ ∃ cs T fr,w.heap[k]? = some (.cells cs T fr) ∧ T ≠ 5) : k < B ∨ ∃ cs T fr,w'.heap[k]? = some (.cells cs T fr) ∧ T ≠ 5 := by
 rcases hk with h2 | ⟨cs,T,fr,h2,h3⟩
 ·exact .inl h2
 ·exact .inr ⟨cs,T,fr,(h.block k hl (.inr ⟨cs,T,fr,h2,h3⟩)).trans h2,h3⟩
theorem RF.trans {B : Nat} {a b c : World} (h : RF B a b) (k : RF B b c) : RF B a c :=
 ⟨k.os.trans h.os,k.tape.trans h.tape,k.output.trans h.output,Nat.le_trans h.size k.size,fun i hi hk => (k.block i (Nat.lt_of_lt_of_le hi h.size) (h.nw hi hk)).trans (h.block i hi hk)⟩
theorem RF.of {B : Nat} {w w' : World} (h : Below w.heap.size w w') : RF B w w' := ⟨h.os,h.tape,h.output,h.size,fun k hk _ => h.block k hk⟩
theorem RF.alloc {B : Nat} {a w : World} (h : RF B a w) (o : Obj) : RF B a (w.alloc o) := h.trans (RF.of ((Below.refl _ _).alloc (Nat.le_refl _) o))
theorem RF.drew {B : Nat} {a w : World} (h : RF B a w) : RF B a w.drew := ⟨h.os,h.tape,h.output,h.size,h.block⟩
theorem RF.below {B : Nat} {w w' : World} (h : RF B w w') (hB : B ≤ w.heap.size) : Below B w w' :=
 ⟨h.os,h.tape,h.output,h.size,fun k hk => h.block k (by omega) (.inl hk)⟩
theorem RF.grown {B : Nat} {w w' : World} {v : Value} {n : Nat} {xs : List Value} (ho : w.ownsRow B 5 1 v n xs) (hg : w.grownBy w' v.ownBlock) : RF B w w' :=
 ⟨hg.os,hg.tape,hg.output,hg.size,fun k hl hk => hg.block k hl (by
  rcases hk with h2 | ⟨cs,T,fr,h2,h3⟩
  ·intro e
   have := (ho.lt k e.symm).1
   omega
  ·exact (Lib.ownBlock_ne ho h2 h3).symm)⟩
theorem CA.rf {B k : Nat} {cs : Array Value} {T : TypeId} {w w' : World} (h : CA k cs T w) (hf : RF B w w') (hT : T ≠ 5) : CA k cs T w' := by
 have := hf.block k h.lt (.inr ⟨cs,T,_,h,hT⟩)
 unfold CA at h ⊢
 rw [this,h]
/-- A row of its own, of these bytes, is answered. -/
def BO (w : World) (X : List UInt8) (e : Ending) (w' : World) : Prop := ∃ v,e = .returned v ∧ w'.ownsRow w.heap.size 5 1 v X.length (Lib.byteCells X) ∧ Below w.heap.size w w'
theorem own_less {w : World} {base base' : Nat} {v : Value} {n : Nat} {xs : List Value} (h : w.ownsRow base 5 1 v n xs) (hb : base' ≤ base) : w.ownsRow base' 5 1 v n xs := ownsRow_mono h hb
theorem run_app (w : World) (B B2 : Nat) (ty : TypeId) (xs ys : List UInt8) (v v2 : Value) (hown : w.ownsRow B 5 1 v xs.length (Lib.byteCells xs)) (hown2 : w.ownsRow B2 5 1 v2 ys.length (Lib.byteCells ys)) (hn : xs.length + ys.length ≤ 140737488355000) (hB : B ≤ w.heap.size) :
  ∃ v' w',(Builtin.append_ #[52,52] ty #[v,v2]).run Tryz.prog w = .ok v' w' ∧ w'.ownsRow B 5 1 v' (xs ++ ys).length (Lib.byteCells (xs ++ ys)) ∧ w.grownBy w' v.ownBlock := by
 obtain ⟨i0,hi,hz0,hz1,hz2⟩ := info_parts info5
 rcases hown2.2 with ⟨rfl,h2⟩ | ⟨g,cap,cur,rfl,hr⟩
 ·obtain rfl : ys = [] := List.eq_nil_of_length_eq_zero h2
  refine ⟨v,w,run_append_owned_none (P := Tryz.prog) (w := w) B 52 ty 5 i0 1 Tryz.underlying52 hi v xs.length (Lib.byteCells xs) hown,by rw [List.append_nil]; exact hown,⟨rfl,rfl,rfl,Nat.le_refl _,fun _ _ _ => rfl⟩⟩
 ·obtain ⟨v',w',h1,h2,h3,_⟩ := run_append_own (P := Tryz.prog) w B 52 ty 5 i0 (.int .u8 0) 1 1 Tryz.underlying52 hi hz0 hz1 hz2 rfl (by decide) v xs.length (Lib.byteCells xs) hown ⟨g,0,none⟩ ys.length cap (Lib.byteCells ys) (by rw [Lib.byteCells_length,Nat.mul_one]) (own_cells hown2) (byteCells_one ys) (by unfold maxLen; omega) (by omega) hB
  exact ⟨v',w',h1,by rw [List.length_append,Lib.byteCells_append]; exact h2,h3⟩
theorem append_rowW {w : World} {ops : Array Oper} {rest : List Oper} {o : Oper} {a : Act} {Q : Exit → Act → World → Prop} (hgd : o.guard = none) (s x : Operand)
  (ho : o.op = .call { callee := .builtin .append,args := #[s,x],argTypes := #[52,52] }) (B B2 : Nat) (xs ys : List UInt8) (v v2 : Value) (W0 : World) (hown : w.ownsRow B 5 1 v xs.length (Lib.byteCells xs)) (hown2 : w.ownsRow B2 5 1 v2 ys.length (Lib.byteCells ys))
  (hn : xs.length + ys.length ≤ 140737488355000) (hB : B ≤ W0.heap.size) (hf : RF B W0 w) (hs : a.eval s = v) (hx : a.eval x = v2)
  (h : ∀ p m c w',w'.ownsRow B 5 1 (.slice p m c) (xs ++ ys).length (Lib.byteCells (xs ++ ys)) → RF B W0 w' → wpList Tryz.prog ops Q rest (a.put o.dst (.slice p m c)) w') :
  wpList Tryz.prog ops Q (o :: rest) a w := by
 refine wpList_plain hgd fun K hK => ?_
 obtain ⟨v',w',hrun,r1,r2⟩ := run_app w B B2 o.type xs ys v v2 hown hown2 hn (Nat.le_trans hB hf.size)
 obtain ⟨p,m,c,rfl⟩ := own_slice r1
 unfold Oper.wp
 simp [execOp,ho,resolve,invoke,builtin,hs,hx,hrun,Result.andThen]
 exact hK _ _ (h _ _ _ _ r1 (hf.trans (RF.grown hown r2)))
theorem append_rowS {ops : Array Oper} {o : Oper} {a : Act} {w : World} {K : Act → World → Prop} {Q : Exit → Act → World → Prop} {E : Prop} (hgd : o.guard = none) (s x : Operand)
  (ho : o.op = .call { callee := .builtin .append,args := #[s,x],argTypes := #[52,52] }) (B B2 : Nat) (xs ys : List UInt8) (v v2 : Value) (W0 : World) (hown : w.ownsRow B 5 1 v xs.length (Lib.byteCells xs)) (hown2 : w.ownsRow B2 5 1 v2 ys.length (Lib.byteCells ys))
  (hn : xs.length + ys.length ≤ 140737488355000) (hB : B ≤ W0.heap.size) (hf : RF B W0 w) (hs : a.eval s = v) (hx : a.eval x = v2)
  (h : ∀ p m c w',w'.ownsRow B 5 1 (.slice p m c) (xs ++ ys).length (Lib.byteCells (xs ++ ys)) → RF B w w' → K (a.put o.dst (.slice p m c)) w') :
  if Region.wanted o (yielded ops a.tmps) = true then Oper.wp Tryz.prog o a w K Q else E := by
 have hw : Region.wanted o (yielded ops a.tmps) = true := by simp [Region.wanted,hgd]
 rw [if_pos hw]
 obtain ⟨v',w',hrun,r1,r2⟩ := run_app w B B2 o.type xs ys v v2 hown hown2 hn (Nat.le_trans hB hf.size)
 obtain ⟨p,m,c,rfl⟩ := own_slice r1
 unfold Oper.wp
 simp [execOp,ho,resolve,invoke,builtin,hs,hx,hrun,Result.andThen]
 exact h _ _ _ _ r1 (RF.grown hown r2)
theorem own_lit1 (w : World) (n : Int) : (w.alloc (.cells #[.int .u8 (n % 256)] 5)).ownsRow w.heap.size 5 1 (.slice (some ⟨w.heap.size,0,none⟩) 1 1) [byI n].length (Lib.byteCells [byI n]) := by
 have := World.ownsRow_lit (base := w.heap.size) (e := 5) (size := 1) w #[.int .u8 (n % 256)] 1 (Nat.le_refl _) (by decide) rfl
 have e : Lib.byteCells [byI n] = [.int .u8 (n % 256)] := by simp [Lib.byteCells,byI_nat]
 rw [e]
 exact this
theorem own_litc (w : World) (q : Int) (b : UInt8) (hq : (b.toNat : Int) = q) : (w.alloc (.cells #[.int .u8 q] 5)).ownsRow w.heap.size 5 1 (.slice (some ⟨w.heap.size,0,none⟩) 1 1) [b].length (Lib.byteCells [b]) := by
 have := World.ownsRow_lit (base := w.heap.size) (e := 5) (size := 1) w #[.int .u8 q] 1 (Nat.le_refl _) (by decide) rfl
 have e : Lib.byteCells [b] = [.int .u8 q] := by simp [Lib.byteCells,hq]
 rw [e]
 exact this
theorem own_nil (w : World) (B : Nat) : w.ownsRow B 5 1 (.slice none 0 0) ([] : List UInt8).length (Lib.byteCells []) := World.ownsRow_nil _ _ _ _
end Go.Proofs.YtjgeedgphcjhoaaGreat
