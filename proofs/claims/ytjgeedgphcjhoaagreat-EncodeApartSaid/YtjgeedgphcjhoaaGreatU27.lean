/-
  WHdr: merged, what the law does not reach left out (each text says what it holds where it lies in wip). No condition.
-/
import Derived.Test.YtjgeedgphcjhoaaGreatU20
import Derived.Lib.FrozenHead
import Derived.Lib.SlBytesConst
import Derived.Test.YtjgeedgphcjhoaaGreatU01
set_option linter.unusedSimpArgs false
set_option linter.unusedVariables false
set_option maxRecDepth 100000
namespace Go.Proofs.YtjgeedgphcjhoaaGreat
open Go.RowKit
def hdL : List UInt8 := [0,97,115,109,1,0,0,0]
def WH (B g : Nat) (w : World) : Prop := B ≤ w.heap.size ∧ ∃ h,B ≤ h ∧ CA g #[.slice (some ⟨h,0,none⟩) 8 8] 137 w ∧ w.heap[h]? = some (.cells (Lib.byteCells hdL).toArray 5 (8,9))
def WR0 (B g : Nat) (bs : List UInt8) (w : World) : Prop := WR B g bs w ∨ (bs = hdL ∧ WH B g w)
theorem WH.alloc {B g : Nat} {w : World} (h : WH B g w) (o : Obj) : WH B g (w.alloc o) := by
 obtain ⟨h1,k,h2,h3,h4⟩ := h
 have hk := (Array.getElem?_eq_some_iff.1 h4).1
 refine ⟨by rw [size_al]; omega,k,h2,h3.alloc o,?_⟩
 have := ((Below.refl w.heap.size w).alloc (Nat.le_refl _) o).block k hk
 rw [this]
 exact h4
theorem WR0.alloc {B g : Nat} {bs : List UInt8} {w : World} (h : WR0 B g bs w) (o : Obj) : WR0 B g bs (w.alloc o) := by
 rcases h with h | ⟨h1,h2⟩
 ·exact .inl (h.alloc o)
 exact .inr ⟨h1,h2.alloc o⟩
theorem WR0.base {B g : Nat} {bs : List UInt8} {w : World} (h : WR0 B g bs w) : B ≤ w.heap.size := by
 rcases h with h | ⟨_,h⟩
 ·exact h.1
 exact h.1
theorem WR0.lt {B g : Nat} {bs : List UInt8} {w : World} (h : WR0 B g bs w) : g < w.heap.size := by
 rcases h with h | ⟨_,_,_,_,h,_⟩
 ·exact h.lt
 exact h.lt
theorem append_byte0 {w : World} {ops : Array Oper} {rest : List Oper} {o : Oper} {a : Act} {Q : Exit → Act → World → Prop} (hgd : o.guard = none) (s x : Operand)
  (ho : o.op = .call { callee := .builtin .append,args := #[s,x],argTypes := #[52,52] }) (B g k : Nat) (n : Int) (W0 : World)
  (hBw : B ≤ w.heap.size) (hc : CA g #[.slice (some ⟨k,0,none⟩) 8 8] 137 w) (hBk : B ≤ k) (hrow : w.heap[k]? = some (.cells (Lib.byteCells hdL).toArray 5 (8,9))) (hf : FR B g W0 w) (n0 : Nat) (h0 : w.heap.size = n0) (hs : a.eval s = .slice (some ⟨k,0,none⟩) 8 8) (hx : a.eval x = .slice (some ⟨n0,0,none⟩) 1 1)
  (h : ∀ v' w',w'.ownsRow B 5 1 v' (hdL ++ [byI n]).length (Lib.byteCells (hdL ++ [byI n])) → CA g #[.slice (some ⟨k,0,none⟩) 8 8] 137 w' → FR B g W0 w' → FR B g W0 (w'.setCell ⟨g,0,none⟩ v') → wpList Tryz.prog ops Q rest (a.put o.dst v') w') :
  wpList Tryz.prog ops Q (o :: rest) a (w.alloc (.cells #[.int .u8 (n % 256)] 5)) := by
 subst h0
 refine wpList_plain hgd fun K hK => ?_
 obtain ⟨i0,hi,hz0,hz1,hz2⟩ := info_parts info5
 have hca := hc.alloc (.cells #[.int .u8 (n % 256)] 5)
 have hk := (Array.getElem?_eq_some_iff.1 hrow).1
 have hra : (w.alloc (.cells #[.int .u8 (n % 256)] 5)).heap[k]? = some (.cells (Lib.byteCells hdL).toArray 5 (8,9)) := by
  rw [((Below.refl w.heap.size w).alloc (Nat.le_refl _) _).block k hk]
  exact hrow
 have hsz1 := size_al w (.cells #[.int .u8 (n % 256)] 5)
 have hcn := cell_one_new w (.int .u8 (n % 256)) 5
 have hf1 := hf.alloc (.cells #[.int .u8 (n % 256)] 5)
 generalize w.alloc (.cells #[.int .u8 (n % 256)] 5) = w1 at *
 have hrun := run_append_grow (P := Tryz.prog) w1 52 o.type 5 i0 (.int .u8 0) Tryz.underlying52 hi hz0 ⟨k,0,none⟩ 8 8 (Lib.byteCells hdL) (by rw [hz1]; rfl) (fun j u hj => by
  have hj8 : j < 8 := (List.getElem?_eq_some_iff.1 hj).1
  rw [addr_add,Nat.zero_add,World.cell?,hra]
  simpa using hj) ⟨w.heap.size,0,none⟩ 1 1 [.int .u8 (n % 256)] (by rw [hz1]; rfl) hcn (by decide) (by decide) (growslice_fits (by decide) (by rw [hz2]; decide))
 have hcell : Lib.byteCells (hdL ++ [byI n]) = Lib.byteCells hdL ++ [.int .u8 (n % 256)] := byteCells_byI hdL n
 have hge := grownCap_ge w1 (8 + 1) 8 5
 have hle := grownCap_le_maxLen w1 (8 + 1) 8 5 (by decide)
 have hzc : (Value.int .u8 0).cells.size = 1 := rfl
 obtain ⟨cap,hcap⟩ : ∃ c,c = grownCap w1 (8 + 1) 8 5 := ⟨_,rfl⟩
 rw [← hcap] at hrun hge hle
 obtain ⟨ob,hob⟩ : ∃ ob,ob = Obj.cells ((Lib.byteCells hdL).toArray ++ [Value.int .u8 (n % 256)].toArray ++ Builtin.zeroCells (Value.int .u8 0).cells (cap - (8 + 1))) 5 := ⟨_,rfl⟩
 rw [← hob] at hrun
 have hbel : Below w1.heap.size w1 (w1.drew.alloc ob) := ((Below.refl _ _).drew).alloc (Nat.le_refl _) ob
 have hBw1 : B ≤ w1.heap.size := by omega
 have hown : (w1.drew.alloc ob).ownsRow B 5 1 (.slice (some ⟨w1.heap.size,0,none⟩) 9 cap) (hdL ++ [byI n]).length (Lib.byteCells (hdL ++ [byI n])) := by
  refine ⟨by rw [Lib.byteCells_length,Nat.mul_one],.inr ⟨w1.heap.size,cap,_,rfl,hBw1,by rw [hob]; exact heap_alloc_new w1.drew _,hge,hle,?_,?_⟩⟩
  ·simp only [Array.size_append,List.size_toArray,size_zeroCells,hzc,Lib.byteCells_length]
   simp only [hdL,List.length_cons,List.length_nil]
   omega
  rw [hcell]
  simp only [Array.toList_append]
  exact List.take_left' (by simp [hdL,Lib.byteCells])
 have hc2 : CA g #[.slice (some ⟨k,0,none⟩) 8 8] 137 (w1.drew.alloc ob) := hca.below hbel hca.lt
 have hf2 : FR B g W0 (w1.drew.alloc ob) := hf1.trans (FR.of hbel)
 unfold Oper.wp
 simp [execOp,ho,resolve,invoke,builtin,hs,hx,hrun,Result.andThen]
 refine hK _ _ (h _ _ hown hc2 hf2 (hf2.put (hc2.at (v := .slice (some ⟨k,0,none⟩) 8 8) rfl) _ (fun j hj _ e => ?_)))
 have : w1.heap.size = j := Option.some.inj e
 have := hf1.size
 omega
set_option maxHeartbeats 1000000 in
theorem bytes_first (B g : Nat) (x : Int) (v : Value) (w : World) (hw : WH B g w) (hl : LT B g w v [x]) :
  Calls Tryz.prog 169 #[.pointer (some ⟨g,0,none⟩),v] w fun e w' => e = .returned (.tuple #[]) ∧ WR B g (hdL ++ [byI x]) w' ∧ FR B g w w' := by
 obtain ⟨p,c,rfl,hq,hl2⟩ := id hl
 obtain ⟨kb,o,rfl,hk,hcell⟩ := hl2 (by simp)
 have HW := hid hw
 have HK := hid hk
 have HCL := hid (hcell 0 x rfl)
 have e1 : ([x] : List Int).length = 1 := rfl
 rw [e1]
 clear hl2 hl hw hq hk hcell e1
 go_enter Tryz.func169,Tryz.ntmps169
 go_wp2
 go_loopw [8] (fun vi wr => ∃ i : Nat,i ≤ 1 ∧ vi = .int .i64 i ∧ Hid (i = 0 → WH B g wr) ∧ Hid (i = 1 → WR B g (hdL ++ [byI x]) wr) ∧ Hid (FR B g w wr)) (fun vi _ => 1 - (intOf vi).toNat)
 case atStart => exact ⟨0,Nat.zero_le _,rfl,hid (fun _ => HW.out),hid (fun h => absurd h (by decide)),FR.refl _ _ _⟩
 obtain ⟨i,hi,rfl,HR0,HR1,HF⟩ := hrel
 rcases (show i = 0 ∨ i = 1 by omega) with rfl | rfl
 ·obtain ⟨hBw,k,hBk,hc,hrow⟩ := HR0.out rfl
  have z0 := (World.cell?_of_block (a := ⟨kb,o + 0,none⟩) (HF.out.block kb HK.out)).trans HCL.out
  rw [Nat.add_zero] at z0
  have y0 := hc.at (k := 0) (v := .slice (some ⟨k,0,none⟩) 8 8) rfl
  have HC := hid hc
  have HB1 := hid hBw
  have HB2 := hid hBk
  have HRW := hid hrow
  have HGA := hid (show B ≤ wr.heap.size from hBw)
  clear hc hBw hBk hrow hi HR0 HR1
  rw [show ((0 : Nat) : Int) = 0 from rfl]
  go_wp2_with (at_builtin; refine append_byte0 rfl _ _ rfl B g k x w HB1.out HC.out HB2.out HRW.out HF.out _ rfl rfl rfl ?_; intro v2 w2 ho2 hc2 hf2 hf3; have HF3 := hid hf3; clear hf3; obtain ⟨p2,m2,c2,rfl⟩ := own_slice ho2; have y1 := hc2.at (k := 0) (v := .slice (some ⟨k,0,none⟩) 8 8) rfl; have y2 := hc2.free 0; have HO2 := hid ho2; have HC2 := hid hc2; have HF2 := hid hf2; clear ho2 hc2 hf2)
  go_roundw
  case rel => exact ⟨1,Nat.le_refl _,rfl,hid (fun h => absurd h (by decide)),hid (fun _ => WR.put (Nat.le_trans HW.out.1 HF2.out.size) HC2.out HO2.out),HF3⟩
  case measure => simp [intOf]
 have HR := HR1.out rfl
 clear HR0 HR1 hi
 rw [show ((1 : Nat) : Int) = 1 from rfl]
 go_wp2
 (first | go_end0 | refine bodyPost_ret (results_none rfl _ _ _) rfl ?_)
 exact ⟨rfl,HR,HF.out⟩
set_option maxHeartbeats 4000000 in
theorem section0_wm (B g k : Nat) (eg : ∀ args w,(callFunc k args).run Tryz.prog w = .ok (.enter k args) w) (cs : Array Value) (id : Int) (X : List UInt8) (w : World) (hX : X.length ≤ 2000000000000)
  (hc : ∀ B' W,B ≤ B' → FR B g w W → WR B' g [] W → Calls Tryz.prog k cs W fun e w' => e = .returned (.tuple #[]) ∧ WR B' g X w' ∧ FR B' g W w') :
  ∀ bs,WR0 B g bs w → bs.length ≤ 90000000000000 → Calls Tryz.prog 118 #[.pointer (some ⟨g,0,none⟩),.int .i64 id,.func (.func k) #[] cs] w fun e w' => e = .returned (.tuple #[]) ∧ WR B g (bs ++ byI id :: szL X) w' ∧ FR B g w w' := by
 intro bs hw hn
 rcases hw with hw | ⟨rfl,hw⟩
 ·exact section_wm B g k eg cs id X w hX hc bs hw hn
 have HW := hid hw
 have HGL := hid (WR0.lt (bs := hdL) (.inr ⟨rfl,hw⟩))
 have HNN := hid (show (hdL ++ [byI id]).length ≤ 100000000000000 by simp [hdL])
 have HS := fun (W : World) (h : FR B g w W) (bs : List UInt8) (h2 : WR B g bs W) (h3 : bs.length ≤ 100000000000000) => hid (sized_wm B g k eg cs X W hX (fun B' W' h1 h2 h3 => hc B' W' h1 (h.trans h2) h3) bs h2 h3)
 clear hw hn hc hX
 go_enter Tryz.func118,Tryz.ntmps118
 go_wp2_with (first
  | (go_at_call 169; (with_reducible refine (bytes_first B g id _ _ (HW.out.alloc _) (LT.one id 1 HGL.out)).mono ?_); rintro e w1 ⟨rfl,hw1,hf1⟩; have HW1 := hid hw1; have HF1 := hid (((FR.refl B g w).alloc _).trans hf1); clear hw1 hf1)
  | (go_at_call 187; (with_reducible refine (HS _ HF1.out _ HW1.out HNN.out).out.mono ?_); rintro e w2 ⟨rfl,hw2,hf2⟩; have HW2 := hid hw2; have HF2 := hid (HF1.out.trans hf2); clear hw2 hf2))
 (first | go_end0 | refine bodyPost_ret (results_none rfl _ _ _) rfl ?_)
 refine ⟨rfl,?_,HF2.out⟩
 have := HW2.out
 simpa using this
end Go.Proofs.YtjgeedgphcjhoaaGreat
