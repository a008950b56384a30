/-
  ROneE: merged, what the law does not reach left out (each text says what it holds where it lies in wip). No condition.
-/
import Derived.Test.YtjgeedgphcjhoaaGreatC05
import Derived.Test.YtjgeedgphcjhoaaGreatC06
import Derived.Test.YtjgeedgphcjhoaaGreatC07
import Derived.Test.YtjgeedgphcjhoaaGreatC08
import Derived.Test.YtjgeedgphcjhoaaGreatC25
import Derived.Test.YtjgeedgphcjhoaaGreatC29
import Derived.IntWalk
set_option linter.unusedSimpArgs false
set_option linter.unusedVariables false
set_option maxRecDepth 100000
namespace Go.Proofs.YtjgeedgphcjhoaaGreat
open Go.RowKit
theorem Of_kind (op : Int) (w : World) : Calls Tryz.prog 153 #[.int .i64 op] w fun e w' => (∃ (o : Int) (nm tk lv : List UInt8) (fx : Bool),e = .returned (.agg #[.int .i64 o,.string (str nm),.int .i64 (lineL op).2.1,.string (str tk),.string (str lv),.bool fx])) ∧ Below w.heap.size w w' := by
 obtain ⟨o,nm,im,tk,lv,fx,h⟩ : ∃ o nm im tk lv fx,ofL op = (o,nm,im,tk,lv,fx) := ⟨_,_,_,_,_,_,rfl⟩
 have h2 := (agree_two op h).2
 have := Of_says op w
 rw [h] at this
 rw [h2]
 exact this.mono fun e w' ⟨he,hw⟩ => ⟨⟨o,nm,tk,lv,fx,he⟩,hw⟩
theorem run_fld (o : Int) (s1 : ByteArray) (k : Int) (s2 s3 : ByteArray) (fx : Bool) (W : World) : (Instr.field 172 (.agg #[.int .i64 o,.string s1,.int .i64 k,.string s2,.string s3,.bool fx]) 2).run Tryz.prog W = .ok (.int .i64 k) W := by kernel_rfl
set_option maxHeartbeats 8000000 in
theorem rone_0 (op a b : Int) (n h : Nat) (pl pb pe : Option Addr) (nl cl nb cb ne ce : Nat) (ot : Bool) (w : World) (k : Int) (X : List UInt8) (hop : op < 64512) (hX : X.length + 100 ≤ 140737488355000)
  (hof : ∀ W,Calls Tryz.prog 153 #[.int .i64 op] W fun e w' => (∃ (o : Int) (nm tk lv : List UInt8) (fx : Bool),e = .returned (.agg #[.int .i64 o,.string (str nm),.int .i64 k,.string (str tk),.string (str lv),.bool fx])) ∧ Below W.heap.size W w')
  (hbe : ∀ W,Below w.heap.size w W → Calls Tryz.prog 232 #[.agg #[.int .i64 op,.int .i64 a,.int .i64 b,.int .u64 (n : Nat),.int .u64 (h : Nat),.slice pl nl cl,.slice pb nb cb,.slice pe ne ce,.bool ot],.int .i64 k] W (BO W X)) :
  Calls Tryz.prog 210 #[.agg #[.int .i64 op,.int .i64 a,.int .i64 b,.int .u64 (n : Nat),.int .u64 (h : Nat),.slice pl nl cl,.slice pb nb cb,.slice pe ne ce,.bool ot]] w (BO w ([] ++ [byI op] ++ X)) := by
 have hfl := run_fld
 have HOF := fun W => hid (hof W)
 have HBE := fun W hW => hid (hbe W hW)
 have HX0 := hid (CA.new w #[.int .i64 op,.int .i64 a,.int .i64 b,.int .u64 (n : Nat),.int .u64 (h : Nat),.slice pl nl cl,.slice pb nb cb,.slice pe ne ce,.bool ot] 39)
 have HRX := hid ((RF.refl w.heap.size w).alloc (.cells #[.int .i64 op,.int .i64 a,.int .i64 b,.int .u64 (n : Nat),.int .u64 (h : Nat),.slice pl nl cl,.slice pb nb cb,.slice pe ne ce,.bool ot] 39))
 have y0 := HX0.out.at (k := 0) (v := .int .i64 op) rfl
 have y1 := HX0.out.at (k := 1) (v := .int .i64 a) rfl
 have y2 := HX0.out.at (k := 2) (v := .int .i64 b) rfl
 have y3 := HX0.out.at (k := 3) (v := .int .u64 (n : Nat)) rfl
 have y4 := HX0.out.at (k := 4) (v := .int .u64 (h : Nat)) rfl
 have y5 := HX0.out.at (k := 5) (v := .slice pl nl cl) rfl
 have y6 := HX0.out.at (k := 6) (v := .slice pb nb cb) rfl
 have y7 := HX0.out.at (k := 7) (v := .slice pe ne ce) rfl
 have y8 := HX0.out.at (k := 8) (v := .bool ot) rfl
 have HSZ : Hid (w.heap.size ≤ w.heap.size) := Nat.le_refl _
 have d0 : decide (op < 64512) = true := by simpa using hop
 have HN0 := hid (show ([] : List UInt8).length + [byI op].length ≤ 140737488355000 by simp)
 have HN1 := hid (show ([] ++ [byI op]).length + X.length ≤ 140737488355000 by simp; omega)
 have HOP := hid hop
 clear hof hbe hop hX
 go_enter Tryz.func210,Tryz.ntmps210
 go_upto_region 7 with (at_builtin; refine append_rowW rfl _ _ rfl w.heap.size _ _ _ _ _ ((w.alloc (.cells #[.int .i64 op,.int .i64 a,.int .i64 b,.int .u64 (n : Nat),.int .u64 (h : Nat),.slice pl nl cl,.slice pb nb cb,.slice pe ne ce,.bool ot] 39)).alloc (.cells #[.int .u8 (op % 256)] 5)) (own_nil _ _) (own_lit1 _ op) HN0.out (by simp only [size_al]; omega) (RF.refl _ _) rfl (by simp only [size_al]; rfl) ?_; intro p3 m3 c3 w3 ho3 hr; have HT := hid ho3; have HF := hid ((HRX.out.alloc _).trans hr); have HX1 := hid ((HX0.out.alloc _).rf hr (by decide)); clear ho3 hr)
 clear y0 y1 y2 y3 y4 y5 y6 y7 y8 HX0 HRX
 have hS : RF w.heap.size w w3.drew ∧ CA w.heap.size #[.int .i64 op,.int .i64 a,.int .i64 b,.int .u64 (n : Nat),.int .u64 (h : Nat),.slice pl nl cl,.slice pb nb cb,.slice pe ne ce,.bool ot] 39 w3.drew := ⟨HF.out.drew,HX1.out⟩
 have HO0 : Hid (w3.drew.ownsRow w.heap.size 5 1 (.slice p3 m3 c3) ([] ++ [byI op]).length (Lib.byteCells ([] ++ [byI op]))) := HT
 clear HF HT HX1
 refine wp_region_held_drew (S := fun W => RF w.heap.size w W ∧ CA w.heap.size #[.int .i64 op,.int .i64 a,.int .i64 b,.int .u64 (n : Nat),.int .u64 (h : Nat),.slice pl nl cl,.slice pb nb cb,.slice pe ne ce,.bool ot] 39 W) (by kernel_rfl) hS (fun _ => ?_)
 generalize w3.drew = W at *
 refine wpAnyH_take (oi := ⟨_,_,_,_,_,_⟩) (i := 0) (v := .slice p3 m3 c3) rfl (by kernel_rfl) (by kernel_rfl) (by kernel_rfl) (fun _ _ _ h => h) (Or.inl ⟨by rfl,?_⟩) (by assumption) ?_
 ·(intro W hSw; have x0 := hSw.2.at (k := 0) (v := .int .i64 op) rfl; have x1 := hSw.2.at (k := 1) (v := .int .i64 a) rfl; have x2 := hSw.2.at (k := 2) (v := .int .i64 b) rfl; have x3 := hSw.2.at (k := 3) (v := .int .u64 (n : Nat)) rfl; have x4 := hSw.2.at (k := 4) (v := .int .u64 (h : Nat)) rfl; have x5 := hSw.2.at (k := 5) (v := .slice pl nl cl) rfl; have x6 := hSw.2.at (k := 6) (v := .slice pb nb cb) rfl; have x7 := hSw.2.at (k := 7) (v := .slice pe ne ce) rfl; have x8 := hSw.2.at (k := 8) (v := .bool ot) rfl; go_simp; try (with_reducible rfl))
 try simp only [Act.put,List.setIfInBounds_toArray,List.set_cons_zero,List.set_cons_succ]
 refine wpAnyH_take (oi := ⟨_,_,_,_,_,_⟩) (i := 1) (v := .agg #[.int .i64 op,.int .i64 a,.int .i64 b,.int .u64 (n : Nat),.int .u64 (h : Nat),.slice pl nl cl,.slice pb nb cb,.slice pe ne ce,.bool ot]) rfl (by kernel_rfl) (by kernel_rfl) (by kernel_rfl) (fun _ _ _ h => h) (Or.inl ⟨by rfl,?_⟩) (by assumption) ?_
 ·(intro W hSw; have x0 := hSw.2.at (k := 0) (v := .int .i64 op) rfl; have x1 := hSw.2.at (k := 1) (v := .int .i64 a) rfl; have x2 := hSw.2.at (k := 2) (v := .int .i64 b) rfl; have x3 := hSw.2.at (k := 3) (v := .int .u64 (n : Nat)) rfl; have x4 := hSw.2.at (k := 4) (v := .int .u64 (h : Nat)) rfl; have x5 := hSw.2.at (k := 5) (v := .slice pl nl cl) rfl; have x6 := hSw.2.at (k := 6) (v := .slice pb nb cb) rfl; have x7 := hSw.2.at (k := 7) (v := .slice pe ne ce) rfl; have x8 := hSw.2.at (k := 8) (v := .bool ot) rfl; go_simp; try (with_reducible rfl))
 try simp only [Act.put,List.setIfInBounds_toArray,List.set_cons_zero,List.set_cons_succ]
 refine wpAnyH_take (oi := ⟨_,_,_,_,_,_⟩) (i := 2) (v := .pointer (some ⟨w.heap.size,0,none⟩)) rfl (by kernel_rfl) (by kernel_rfl) (by kernel_rfl) (fun _ _ _ h => h) (Or.inl ⟨by rfl,?_⟩) (by assumption) ?_
 ·(intro W hSw; have x0 := hSw.2.at (k := 0) (v := .int .i64 op) rfl; have x1 := hSw.2.at (k := 1) (v := .int .i64 a) rfl; have x2 := hSw.2.at (k := 2) (v := .int .i64 b) rfl; have x3 := hSw.2.at (k := 3) (v := .int .u64 (n : Nat)) rfl; have x4 := hSw.2.at (k := 4) (v := .int .u64 (h : Nat)) rfl; have x5 := hSw.2.at (k := 5) (v := .slice pl nl cl) rfl; have x6 := hSw.2.at (k := 6) (v := .slice pb nb cb) rfl; have x7 := hSw.2.at (k := 7) (v := .slice pe ne ce) rfl; have x8 := hSw.2.at (k := 8) (v := .bool ot) rfl; go_simp; try (with_reducible rfl))
 try simp only [Act.put,List.setIfInBounds_toArray,List.set_cons_zero,List.set_cons_succ]
 refine wpAnyH_take (oi := ⟨_,_,_,_,_,_⟩) (i := 3) (v := .int .i64 op) rfl (by kernel_rfl) (by kernel_rfl) (by kernel_rfl) (fun _ _ _ h => h) (Or.inl ⟨by rfl,?_⟩) (by assumption) ?_
 ·(intro W hSw; have x0 := hSw.2.at (k := 0) (v := .int .i64 op) rfl; have x1 := hSw.2.at (k := 1) (v := .int .i64 a) rfl; have x2 := hSw.2.at (k := 2) (v := .int .i64 b) rfl; have x3 := hSw.2.at (k := 3) (v := .int .u64 (n : Nat)) rfl; have x4 := hSw.2.at (k := 4) (v := .int .u64 (h : Nat)) rfl; have x5 := hSw.2.at (k := 5) (v := .slice pl nl cl) rfl; have x6 := hSw.2.at (k := 6) (v := .slice pb nb cb) rfl; have x7 := hSw.2.at (k := 7) (v := .slice pe ne ce) rfl; have x8 := hSw.2.at (k := 8) (v := .bool ot) rfl; go_simp; try (with_reducible rfl))
 try simp only [Act.put,List.setIfInBounds_toArray,List.set_cons_zero,List.set_cons_succ]
 refine wpAnyH_ready (rs := [4]) (by kernel_rfl) (by simp) ?_
 refine AllReadyH.cons (o := ⟨_,_,_,_,_,_⟩) rfl (fun K hK => ?_) ?_
 ·go_simp
  go_at_call 153
  (with_reducible refine (HOF W).out.mono ?_)
  rintro e W1 ⟨⟨o,nm,tk,lv,fx,rfl⟩,hb⟩
  replace HO0 := hid (own_kept HO0.out hb)
  replace hS := And.intro (hS.1.trans (RF.of hb)) (hS.2.below hb hS.2.lt)
  clear hb
  refine hK.out _ _ hS (fun _ => ?_)
  clear hK K
  try simp only [Act.put,List.setIfInBounds_toArray,List.set_cons_zero,List.set_cons_succ]
  refine wpAnyH_take (oi := ⟨_,_,_,_,_,_⟩) (i := 5) (v := .int .i64 k) rfl (by kernel_rfl) (by kernel_rfl) (by kernel_rfl) (fun _ _ _ h => h) (Or.inl ⟨by rfl,?_⟩) (by assumption) ?_
  ·(intro W hSw; have x0 := hSw.2.at (k := 0) (v := .int .i64 op) rfl; have x1 := hSw.2.at (k := 1) (v := .int .i64 a) rfl; have x2 := hSw.2.at (k := 2) (v := .int .i64 b) rfl; have x3 := hSw.2.at (k := 3) (v := .int .u64 (n : Nat)) rfl; have x4 := hSw.2.at (k := 4) (v := .int .u64 (h : Nat)) rfl; have x5 := hSw.2.at (k := 5) (v := .slice pl nl cl) rfl; have x6 := hSw.2.at (k := 6) (v := .slice pb nb cb) rfl; have x7 := hSw.2.at (k := 7) (v := .slice pe ne ce) rfl; have x8 := hSw.2.at (k := 8) (v := .bool ot) rfl; go_simp; try (with_reducible rfl))
  try simp only [Act.put,List.setIfInBounds_toArray,List.set_cons_zero,List.set_cons_succ]
  refine wpAnyH_ready (rs := [6]) (by kernel_rfl) (by simp) ?_
  refine AllReadyH.cons (o := ⟨_,_,_,_,_,_⟩) rfl (fun K hK => ?_) ?_
  ·go_simp
   go_at_call 232
   (with_reducible refine ((HBE W1 (hS.1.below (Nat.le_refl _))).out).mono ?_)
   rintro e W2 ⟨v,rfl,ho,hb⟩
   obtain ⟨p8,m8,c8,rfl⟩ := own_slice ho
   have HO8 := hid (own_less ho (Nat.le_trans HSZ.out hS.1.size))
   replace HO0 := hid (own_kept HO0.out hb)
   replace hS := And.intro (hS.1.trans (RF.of hb)) (hS.2.below hb hS.2.lt)
   clear ho hb
   refine hK.out _ _ hS (fun _ => ?_)
   clear hK K
   try simp only [Act.put,List.setIfInBounds_toArray,List.set_cons_zero,List.set_cons_succ]
   refine wpAnyH_ready (rs := [7]) (by kernel_rfl) (by simp) ?_
   refine AllReadyH.cons (o := ⟨_,_,_,_,_,_⟩) rfl (fun K hK => ?_) ?_
   ·refine append_rowS rfl (.tmp 32) (.tmp 38) rfl w.heap.size _ _ _ _ _ w HO0.out HO8.out HN1.out (Nat.le_refl _) hS.1 rfl rfl ?_
    intro p9 m9 c9 W3 ho3 hr
    replace hS := And.intro (hS.1.trans hr) (hS.2.rf hr (by decide))
    have HO9 := hid ho3
    clear ho3 hr HO0 HO8
    refine hK.out _ _ hS (fun _ => ?_)
    clear hK K
    try simp only [Act.put,List.setIfInBounds_toArray,List.set_cons_zero,List.set_cons_succ]
    refine wpAnyH_take (oi := ⟨_,_,_,_,_,_⟩) (i := 8) (v := .slice p9 m9 c9) rfl (by kernel_rfl) (by kernel_rfl) (by kernel_rfl) (fun _ _ _ h => h) (Or.inl ⟨by rfl,?_⟩) (by assumption) ?_
    ·(intro W hSw; have x0 := hSw.2.at (k := 0) (v := .int .i64 op) rfl; have x1 := hSw.2.at (k := 1) (v := .int .i64 a) rfl; have x2 := hSw.2.at (k := 2) (v := .int .i64 b) rfl; have x3 := hSw.2.at (k := 3) (v := .int .u64 (n : Nat)) rfl; have x4 := hSw.2.at (k := 4) (v := .int .u64 (h : Nat)) rfl; have x5 := hSw.2.at (k := 5) (v := .slice pl nl cl) rfl; have x6 := hSw.2.at (k := 6) (v := .slice pb nb cb) rfl; have x7 := hSw.2.at (k := 7) (v := .slice pe ne ce) rfl; have x8 := hSw.2.at (k := 8) (v := .bool ot) rfl; go_simp; try (with_reducible rfl))
    try simp only [Act.put,List.setIfInBounds_toArray,List.set_cons_zero,List.set_cons_succ]
    refine wpAnyH_done (by kernel_rfl) ?_ _
    have HF := hid hS.1
    clear hS
    go_wp2
    go_ret
    exact ⟨_,rfl,HO9.out,HF.out.below (Nat.le_refl _)⟩
   exact AllReadyH.nil
  exact AllReadyH.nil
 exact AllReadyH.nil
set_option maxHeartbeats 8000000 in
theorem rone_1 (op a b : Int) (n h : Nat) (pl pb pe : Option Addr) (nl cl nb cb ne ce : Nat) (ot : Bool) (w : World) (k : Int) (X : List UInt8) (hop : 64512 ≤ op ∧ op < 64768) (hX : X.length + 100 ≤ 140737488355000)
  (hof : ∀ W,Calls Tryz.prog 153 #[.int .i64 op] W fun e w' => (∃ (o : Int) (nm tk lv : List UInt8) (fx : Bool),e = .returned (.agg #[.int .i64 o,.string (str nm),.int .i64 k,.string (str tk),.string (str lv),.bool fx])) ∧ Below W.heap.size W w')
  (hbe : ∀ W,Below w.heap.size w W → Calls Tryz.prog 232 #[.agg #[.int .i64 op,.int .i64 a,.int .i64 b,.int .u64 (n : Nat),.int .u64 (h : Nat),.slice pl nl cl,.slice pb nb cb,.slice pe ne ce,.bool ot],.int .i64 k] W (BO W X)) :
  Calls Tryz.prog 210 #[.agg #[.int .i64 op,.int .i64 a,.int .i64 b,.int .u64 (n : Nat),.int .u64 (h : Nat),.slice pl nl cl,.slice pb nb cb,.slice pe ne ce,.bool ot]] w (BO w ([] ++ [252] ++ uI (op - 64512) ++ X)) := by
 have hfl := run_fld
 have HOF := fun W => hid (hof W)
 have HBE := fun W hW => hid (hbe W hW)
 have HX0 := hid (CA.new w #[.int .i64 op,.int .i64 a,.int .i64 b,.int .u64 (n : Nat),.int .u64 (h : Nat),.slice pl nl cl,.slice pb nb cb,.slice pe ne ce,.bool ot] 39)
 have HRX := hid ((RF.refl w.heap.size w).alloc (.cells #[.int .i64 op,.int .i64 a,.int .i64 b,.int .u64 (n : Nat),.int .u64 (h : Nat),.slice pl nl cl,.slice pb nb cb,.slice pe ne ce,.bool ot] 39))
 have y0 := HX0.out.at (k := 0) (v := .int .i64 op) rfl
 have y1 := HX0.out.at (k := 1) (v := .int .i64 a) rfl
 have y2 := HX0.out.at (k := 2) (v := .int .i64 b) rfl
 have y3 := HX0.out.at (k := 3) (v := .int .u64 (n : Nat)) rfl
 have y4 := HX0.out.at (k := 4) (v := .int .u64 (h : Nat)) rfl
 have y5 := HX0.out.at (k := 5) (v := .slice pl nl cl) rfl
 have y6 := HX0.out.at (k := 6) (v := .slice pb nb cb) rfl
 have y7 := HX0.out.at (k := 7) (v := .slice pe ne ce) rfl
 have y8 := HX0.out.at (k := 8) (v := .bool ot) rfl
 have HSZ : Hid (w.heap.size ≤ w.heap.size) := Nat.le_refl _
 have d0 : decide (op < 64512) = false := by simp; omega
 have d1 : decide (op < 64768) = true := by simp; omega
 have hw1 : IntKind.i64.wrap (op - 64512) = op - 64512 := IntWalk.i64_in _ (by omega)
 have q1 := uI_len (op - 64512)
 have HN0 := hid (show ([] : List UInt8).length + [(252 : UInt8)].length ≤ 140737488355000 by simp)
 have HN2 := hid (show ([] ++ [(252 : UInt8)]).length + (uI (op - 64512)).length ≤ 140737488355000 by simp; omega)
 have HN1 := hid (show ([] ++ [(252 : UInt8)] ++ uI (op - 64512)).length + X.length ≤ 140737488355000 by simp; omega)
 have HOP := hid hop
 clear hof hbe hop hX q1
 go_enter Tryz.func210,Tryz.ntmps210
 go_upto_region 5 with fail
 clear y0 y1 y2 y3 y4 y5 y6 y7 y8
 have hS : RF w.heap.size w (w.alloc (.cells #[.int .i64 op,.int .i64 a,.int .i64 b,.int .u64 (n : Nat),.int .u64 (h : Nat),.slice pl nl cl,.slice pb nb cb,.slice pe ne ce,.bool ot] 39)).drew ∧ CA w.heap.size #[.int .i64 op,.int .i64 a,.int .i64 b,.int .u64 (n : Nat),.int .u64 (h : Nat),.slice pl nl cl,.slice pb nb cb,.slice pe ne ce,.bool ot] 39 (w.alloc (.cells #[.int .i64 op,.int .i64 a,.int .i64 b,.int .u64 (n : Nat),.int .u64 (h : Nat),.slice pl nl cl,.slice pb nb cb,.slice pe ne ce,.bool ot] 39)).drew := ⟨HRX.out.drew,HX0.out⟩
 have HO0 := hid (own_nil (w.alloc (.cells #[.int .i64 op,.int .i64 a,.int .i64 b,.int .u64 (n : Nat),.int .u64 (h : Nat),.slice pl nl cl,.slice pb nb cb,.slice pe ne ce,.bool ot] 39)).drew w.heap.size)
 refine wp_region_held_drew (S := fun W => RF w.heap.size w W ∧ CA w.heap.size #[.int .i64 op,.int .i64 a,.int .i64 b,.int .u64 (n : Nat),.int .u64 (h : Nat),.slice pl nl cl,.slice pb nb cb,.slice pe ne ce,.bool ot] 39 W) (by kernel_rfl) hS (fun _ => ?_)
 generalize (w.alloc (.cells #[.int .i64 op,.int .i64 a,.int .i64 b,.int .u64 (n : Nat),.int .u64 (h : Nat),.slice pl nl cl,.slice pb nb cb,.slice pe ne ce,.bool ot] 39)).drew = W at *
 refine wpAnyH_take (oi := ⟨_,_,_,_,_,_⟩) (i := 0) (v := .slice none 0 0) rfl (by kernel_rfl) (by kernel_rfl) (by kernel_rfl) (fun _ _ _ h => h) (Or.inl ⟨by rfl,?_⟩) (by assumption) ?_
 ·(intro W hSw; have x0 := hSw.2.at (k := 0) (v := .int .i64 op) rfl; have x1 := hSw.2.at (k := 1) (v := .int .i64 a) rfl; have x2 := hSw.2.at (k := 2) (v := .int .i64 b) rfl; have x3 := hSw.2.at (k := 3) (v := .int .u64 (n : Nat)) rfl; have x4 := hSw.2.at (k := 4) (v := .int .u64 (h : Nat)) rfl; have x5 := hSw.2.at (k := 5) (v := .slice pl nl cl) rfl; have x6 := hSw.2.at (k := 6) (v := .slice pb nb cb) rfl; have x7 := hSw.2.at (k := 7) (v := .slice pe ne ce) rfl; have x8 := hSw.2.at (k := 8) (v := .bool ot) rfl; go_simp; try (with_reducible rfl))
 try simp only [Act.put,List.setIfInBounds_toArray,List.set_cons_zero,List.set_cons_succ]
 refine wpAnyH_take (oi := ⟨_,_,_,_,_,_⟩) (i := 3) (v := .pointer (some ⟨w.heap.size,0,none⟩)) rfl (by kernel_rfl) (by kernel_rfl) (by kernel_rfl) (fun _ _ _ h => h) (Or.inl ⟨by rfl,?_⟩) (by assumption) ?_
 ·(intro W hSw; have x0 := hSw.2.at (k := 0) (v := .int .i64 op) rfl; have x1 := hSw.2.at (k := 1) (v := .int .i64 a) rfl; have x2 := hSw.2.at (k := 2) (v := .int .i64 b) rfl; have x3 := hSw.2.at (k := 3) (v := .int .u64 (n : Nat)) rfl; have x4 := hSw.2.at (k := 4) (v := .int .u64 (h : Nat)) rfl; have x5 := hSw.2.at (k := 5) (v := .slice pl nl cl) rfl; have x6 := hSw.2.at (k := 6) (v := .slice pb nb cb) rfl; have x7 := hSw.2.at (k := 7) (v := .slice pe ne ce) rfl; have x8 := hSw.2.at (k := 8) (v := .bool ot) rfl; go_simp; try (with_reducible rfl))
 try simp only [Act.put,List.setIfInBounds_toArray,List.set_cons_zero,List.set_cons_succ]
 refine wpAnyH_take (oi := ⟨_,_,_,_,_,_⟩) (i := 4) (v := .int .i64 op) rfl (by kernel_rfl) (by kernel_rfl) (by kernel_rfl) (fun _ _ _ h => h) (Or.inl ⟨by rfl,?_⟩) (by assumption) ?_
 ·(intro W hSw; have x0 := hSw.2.at (k := 0) (v := .int .i64 op) rfl; have x1 := hSw.2.at (k := 1) (v := .int .i64 a) rfl; have x2 := hSw.2.at (k := 2) (v := .int .i64 b) rfl; have x3 := hSw.2.at (k := 3) (v := .int .u64 (n : Nat)) rfl; have x4 := hSw.2.at (k := 4) (v := .int .u64 (h : Nat)) rfl; have x5 := hSw.2.at (k := 5) (v := .slice pl nl cl) rfl; have x6 := hSw.2.at (k := 6) (v := .slice pb nb cb) rfl; have x7 := hSw.2.at (k := 7) (v := .slice pe ne ce) rfl; have x8 := hSw.2.at (k := 8) (v := .bool ot) rfl; go_simp; try (with_reducible rfl))
 try simp only [Act.put,List.setIfInBounds_toArray,List.set_cons_zero,List.set_cons_succ]
 refine wpAnyH_take (oi := ⟨_,_,_,_,_,_⟩) (i := 5) (v := .int .i64 (op - 64512)) rfl (by kernel_rfl) (by kernel_rfl) (by kernel_rfl) (fun _ _ _ h => h) (Or.inl ⟨by rfl,?_⟩) (by assumption) ?_
 ·(intro W hSw; have x0 := hSw.2.at (k := 0) (v := .int .i64 op) rfl; have x1 := hSw.2.at (k := 1) (v := .int .i64 a) rfl; have x2 := hSw.2.at (k := 2) (v := .int .i64 b) rfl; have x3 := hSw.2.at (k := 3) (v := .int .u64 (n : Nat)) rfl; have x4 := hSw.2.at (k := 4) (v := .int .u64 (h : Nat)) rfl; have x5 := hSw.2.at (k := 5) (v := .slice pl nl cl) rfl; have x6 := hSw.2.at (k := 6) (v := .slice pb nb cb) rfl; have x7 := hSw.2.at (k := 7) (v := .slice pe ne ce) rfl; have x8 := hSw.2.at (k := 8) (v := .bool ot) rfl; go_simp; try (with_reducible rfl))
 try simp only [Act.put,List.setIfInBounds_toArray,List.set_cons_zero,List.set_cons_succ]
 refine wpAnyH_ready (rs := [1]) (by kernel_rfl) (by simp) ?_
 refine AllReadyH.cons (o := ⟨_,_,_,_,_,_⟩) rfl (fun K hK => ?_) ?_
 ·go_simp
  have HO1 := hid (own_less (own_litc W 252 252 rfl) (show w.heap.size ≤ W.heap.size from hS.1.size))
  replace HO0 := hid (own_kept HO0.out ((Below.refl W.heap.size W).alloc (Nat.le_refl _) (.cells #[.int .u8 252] 5)))
  replace hS := And.intro (hS.1.alloc (.cells #[.int .u8 252] 5)) (hS.2.alloc (.cells #[.int .u8 252] 5))
  generalize W.alloc (.cells #[.int .u8 252] 5) = W1 at *
  generalize W.heap.size = n1 at *
  refine hK.out _ _ hS (fun _ => ?_)
  clear hK K
  try simp only [Act.put,List.setIfInBounds_toArray,List.set_cons_zero,List.set_cons_succ]
  refine wpAnyH_ready (rs := [2]) (by kernel_rfl) (by simp) ?_
  refine AllReadyH.cons (o := ⟨_,_,_,_,_,_⟩) rfl (fun K hK => ?_) ?_
  ·refine append_rowS rfl (.tmp 16) (.tmp 17) rfl w.heap.size _ _ _ _ _ w HO0.out HO1.out HN0.out (Nat.le_refl _) hS.1 rfl rfl ?_
   intro p2 m2 c2 W2 ho3 hr
   replace hS := And.intro (hS.1.trans hr) (hS.2.rf hr (by decide))
   have HO2 := hid ho3
   clear ho3 hr HO0 HO1
   refine hK.out _ _ hS (fun _ => ?_)
   clear hK K
   try simp only [Act.put,List.setIfInBounds_toArray,List.set_cons_zero,List.set_cons_succ]
   refine wpAnyH_ready (rs := [6]) (by kernel_rfl) (by simp) ?_
   refine AllReadyH.cons (o := ⟨_,_,_,_,_,_⟩) rfl (fun K hK => ?_) ?_
   ·go_simp
    go_at_call 133
    (with_reducible refine (RU_says (op - 64512) W2).mono ?_)
    rintro e W3 ⟨v,rfl,ho,hb⟩
    obtain ⟨p4,m4,c4,rfl⟩ := own_slice ho
    have HO4 := hid (own_less ho (Nat.le_trans HSZ.out hS.1.size))
    replace HO2 := hid (own_kept HO2.out hb)
    replace hS := And.intro (hS.1.trans (RF.of hb)) (hS.2.below hb hS.2.lt)
    clear ho hb
    refine hK.out _ _ hS (fun _ => ?_)
    clear hK K
    try simp only [Act.put,List.setIfInBounds_toArray,List.set_cons_zero,List.set_cons_succ]
    refine wpAnyH_ready (rs := [7]) (by kernel_rfl) (by simp) ?_
    refine AllReadyH.cons (o := ⟨_,_,_,_,_,_⟩) rfl (fun K hK => ?_) ?_
    ·refine append_rowS rfl (.tmp 18) (.tmp 22) rfl w.heap.size _ _ _ _ _ w HO2.out HO4.out HN2.out (Nat.le_refl _) hS.1 rfl rfl ?_
     intro p3 m3 c3 W4 ho3 hr
     replace hS := And.intro (hS.1.trans hr) (hS.2.rf hr (by decide))
     have HO3 := hid ho3
     clear ho3 hr HO2 HO4
     refine hK.out _ _ hS (fun _ => ?_)
     clear hK K
     try simp only [Act.put,List.setIfInBounds_toArray,List.set_cons_zero,List.set_cons_succ]
     refine wpAnyH_take (oi := ⟨_,_,_,_,_,_⟩) (i := 8) (v := .slice p3 m3 c3) rfl (by kernel_rfl) (by kernel_rfl) (by kernel_rfl) (fun _ _ _ h => h) (Or.inl ⟨by rfl,?_⟩) (by assumption) ?_
     ·(intro W hSw; have x0 := hSw.2.at (k := 0) (v := .int .i64 op) rfl; have x1 := hSw.2.at (k := 1) (v := .int .i64 a) rfl; have x2 := hSw.2.at (k := 2) (v := .int .i64 b) rfl; have x3 := hSw.2.at (k := 3) (v := .int .u64 (n : Nat)) rfl; have x4 := hSw.2.at (k := 4) (v := .int .u64 (h : Nat)) rfl; have x5 := hSw.2.at (k := 5) (v := .slice pl nl cl) rfl; have x6 := hSw.2.at (k := 6) (v := .slice pb nb cb) rfl; have x7 := hSw.2.at (k := 7) (v := .slice pe ne ce) rfl; have x8 := hSw.2.at (k := 8) (v := .bool ot) rfl; go_simp; try (with_reducible rfl))
     try simp only [Act.put,List.setIfInBounds_toArray,List.set_cons_zero,List.set_cons_succ]
     refine wpAnyH_done (by kernel_rfl) ?_ _
     have HF := hid hS.1
     have HT := HO3
     have HX1 := hid hS.2
     clear hS HX0 HRX
     generalize W4 = w3 at *
     go_upto_region 7 with fail
     have hS : RF w.heap.size w w3.drew ∧ CA w.heap.size #[.int .i64 op,.int .i64 a,.int .i64 b,.int .u64 (n : Nat),.int .u64 (h : Nat),.slice pl nl cl,.slice pb nb cb,.slice pe ne ce,.bool ot] 39 w3.drew := ⟨HF.out.drew,HX1.out⟩
     have HO0 : Hid (w3.drew.ownsRow w.heap.size 5 1 (.slice p3 m3 c3) ([] ++ [252] ++ uI (op - 64512)).length (Lib.byteCells ([] ++ [252] ++ uI (op - 64512)))) := HT
     clear HF HT HX1
     refine wp_region_held_drew (S := fun W => RF w.heap.size w W ∧ CA w.heap.size #[.int .i64 op,.int .i64 a,.int .i64 b,.int .u64 (n : Nat),.int .u64 (h : Nat),.slice pl nl cl,.slice pb nb cb,.slice pe ne ce,.bool ot] 39 W) (by kernel_rfl) hS (fun _ => ?_)
     generalize w3.drew = W at *
     refine wpAnyH_take (oi := ⟨_,_,_,_,_,_⟩) (i := 0) (v := .slice p3 m3 c3) rfl (by kernel_rfl) (by kernel_rfl) (by kernel_rfl) (fun _ _ _ h => h) (Or.inl ⟨by rfl,?_⟩) (by assumption) ?_
     ·(intro W hSw; have x0 := hSw.2.at (k := 0) (v := .int .i64 op) rfl; have x1 := hSw.2.at (k := 1) (v := .int .i64 a) rfl; have x2 := hSw.2.at (k := 2) (v := .int .i64 b) rfl; have x3 := hSw.2.at (k := 3) (v := .int .u64 (n : Nat)) rfl; have x4 := hSw.2.at (k := 4) (v := .int .u64 (h : Nat)) rfl; have x5 := hSw.2.at (k := 5) (v := .slice pl nl cl) rfl; have x6 := hSw.2.at (k := 6) (v := .slice pb nb cb) rfl; have x7 := hSw.2.at (k := 7) (v := .slice pe ne ce) rfl; have x8 := hSw.2.at (k := 8) (v := .bool ot) rfl; go_simp; try (with_reducible rfl))
     try simp only [Act.put,List.setIfInBounds_toArray,List.set_cons_zero,List.set_cons_succ]
     refine wpAnyH_take (oi := ⟨_,_,_,_,_,_⟩) (i := 1) (v := .agg #[.int .i64 op,.int .i64 a,.int .i64 b,.int .u64 (n : Nat),.int .u64 (h : Nat),.slice pl nl cl,.slice pb nb cb,.slice pe ne ce,.bool ot]) rfl (by kernel_rfl) (by kernel_rfl) (by kernel_rfl) (fun _ _ _ h => h) (Or.inl ⟨by rfl,?_⟩) (by assumption) ?_
     ·(intro W hSw; have x0 := hSw.2.at (k := 0) (v := .int .i64 op) rfl; have x1 := hSw.2.at (k := 1) (v := .int .i64 a) rfl; have x2 := hSw.2.at (k := 2) (v := .int .i64 b) rfl; have x3 := hSw.2.at (k := 3) (v := .int .u64 (n : Nat)) rfl; have x4 := hSw.2.at (k := 4) (v := .int .u64 (h : Nat)) rfl; have x5 := hSw.2.at (k := 5) (v := .slice pl nl cl) rfl; have x6 := hSw.2.at (k := 6) (v := .slice pb nb cb) rfl; have x7 := hSw.2.at (k := 7) (v := .slice pe ne ce) rfl; have x8 := hSw.2.at (k := 8) (v := .bool ot) rfl; go_simp; try (with_reducible rfl))
     try simp only [Act.put,List.setIfInBounds_toArray,List.set_cons_zero,List.set_cons_succ]
     refine wpAnyH_take (oi := ⟨_,_,_,_,_,_⟩) (i := 2) (v := .pointer (some ⟨w.heap.size,0,none⟩)) rfl (by kernel_rfl) (by kernel_rfl) (by kernel_rfl) (fun _ _ _ h => h) (Or.inl ⟨by rfl,?_⟩) (by assumption) ?_
     ·(intro W hSw; have x0 := hSw.2.at (k := 0) (v := .int .i64 op) rfl; have x1 := hSw.2.at (k := 1) (v := .int .i64 a) rfl; have x2 := hSw.2.at (k := 2) (v := .int .i64 b) rfl; have x3 := hSw.2.at (k := 3) (v := .int .u64 (n : Nat)) rfl; have x4 := hSw.2.at (k := 4) (v := .int .u64 (h : Nat)) rfl; have x5 := hSw.2.at (k := 5) (v := .slice pl nl cl) rfl; have x6 := hSw.2.at (k := 6) (v := .slice pb nb cb) rfl; have x7 := hSw.2.at (k := 7) (v := .slice pe ne ce) rfl; have x8 := hSw.2.at (k := 8) (v := .bool ot) rfl; go_simp; try (with_reducible rfl))
     try simp only [Act.put,List.setIfInBounds_toArray,List.set_cons_zero,List.set_cons_succ]
     refine wpAnyH_take (oi := ⟨_,_,_,_,_,_⟩) (i := 3) (v := .int .i64 op) rfl (by kernel_rfl) (by kernel_rfl) (by kernel_rfl) (fun _ _ _ h => h) (Or.inl ⟨by rfl,?_⟩) (by assumption) ?_
     ·(intro W hSw; have x0 := hSw.2.at (k := 0) (v := .int .i64 op) rfl; have x1 := hSw.2.at (k := 1) (v := .int .i64 a) rfl; have x2 := hSw.2.at (k := 2) (v := .int .i64 b) rfl; have x3 := hSw.2.at (k := 3) (v := .int .u64 (n : Nat)) rfl; have x4 := hSw.2.at (k := 4) (v := .int .u64 (h : Nat)) rfl; have x5 := hSw.2.at (k := 5) (v := .slice pl nl cl) rfl; have x6 := hSw.2.at (k := 6) (v := .slice pb nb cb) rfl; have x7 := hSw.2.at (k := 7) (v := .slice pe ne ce) rfl; have x8 := hSw.2.at (k := 8) (v := .bool ot) rfl; go_simp; try (with_reducible rfl))
     try simp only [Act.put,List.setIfInBounds_toArray,List.set_cons_zero,List.set_cons_succ]
     refine wpAnyH_ready (rs := [4]) (by kernel_rfl) (by simp) ?_
     refine AllReadyH.cons (o := ⟨_,_,_,_,_,_⟩) rfl (fun K hK => ?_) ?_
     ·go_simp
      go_at_call 153
      (with_reducible refine (HOF W).out.mono ?_)
      rintro e W1 ⟨⟨o,nm,tk,lv,fx,rfl⟩,hb⟩
      replace HO0 := hid (own_kept HO0.out hb)
      replace hS := And.intro (hS.1.trans (RF.of hb)) (hS.2.below hb hS.2.lt)
      clear hb
      refine hK.out _ _ hS (fun _ => ?_)
      clear hK K
      try simp only [Act.put,List.setIfInBounds_toArray,List.set_cons_zero,List.set_cons_succ]
      refine wpAnyH_take (oi := ⟨_,_,_,_,_,_⟩) (i := 5) (v := .int .i64 k) rfl (by kernel_rfl) (by kernel_rfl) (by kernel_rfl) (fun _ _ _ h => h) (Or.inl ⟨by rfl,?_⟩) (by assumption) ?_
      ·(intro W hSw; have x0 := hSw.2.at (k := 0) (v := .int .i64 op) rfl; have x1 := hSw.2.at (k := 1) (v := .int .i64 a) rfl; have x2 := hSw.2.at (k := 2) (v := .int .i64 b) rfl; have x3 := hSw.2.at (k := 3) (v := .int .u64 (n : Nat)) rfl; have x4 := hSw.2.at (k := 4) (v := .int .u64 (h : Nat)) rfl; have x5 := hSw.2.at (k := 5) (v := .slice pl nl cl) rfl; have x6 := hSw.2.at (k := 6) (v := .slice pb nb cb) rfl; have x7 := hSw.2.at (k := 7) (v := .slice pe ne ce) rfl; have x8 := hSw.2.at (k := 8) (v := .bool ot) rfl; go_simp; try (with_reducible rfl))
      try simp only [Act.put,List.setIfInBounds_toArray,List.set_cons_zero,List.set_cons_succ]
      refine wpAnyH_ready (rs := [6]) (by kernel_rfl) (by simp) ?_
      refine AllReadyH.cons (o := ⟨_,_,_,_,_,_⟩) rfl (fun K hK => ?_) ?_
      ·go_simp
       go_at_call 232
       (with_reducible refine ((HBE W1 (hS.1.below (Nat.le_refl _))).out).mono ?_)
       rintro e W2 ⟨v,rfl,ho,hb⟩
       obtain ⟨p8,m8,c8,rfl⟩ := own_slice ho
       have HO8 := hid (own_less ho (Nat.le_trans HSZ.out hS.1.size))
       replace HO0 := hid (own_kept HO0.out hb)
       replace hS := And.intro (hS.1.trans (RF.of hb)) (hS.2.below hb hS.2.lt)
       clear ho hb
       refine hK.out _ _ hS (fun _ => ?_)
       clear hK K
       try simp only [Act.put,List.setIfInBounds_toArray,List.set_cons_zero,List.set_cons_succ]
       refine wpAnyH_ready (rs := [7]) (by kernel_rfl) (by simp) ?_
       refine AllReadyH.cons (o := ⟨_,_,_,_,_,_⟩) rfl (fun K hK => ?_) ?_
       ·refine append_rowS rfl (.tmp 32) (.tmp 38) rfl w.heap.size _ _ _ _ _ w HO0.out HO8.out HN1.out (Nat.le_refl _) hS.1 rfl rfl ?_
        intro p9 m9 c9 W3 ho3 hr
        replace hS := And.intro (hS.1.trans hr) (hS.2.rf hr (by decide))
        have HO9 := hid ho3
        clear ho3 hr HO0 HO8
        refine hK.out _ _ hS (fun _ => ?_)
        clear hK K
        try simp only [Act.put,List.setIfInBounds_toArray,List.set_cons_zero,List.set_cons_succ]
        refine wpAnyH_take (oi := ⟨_,_,_,_,_,_⟩) (i := 8) (v := .slice p9 m9 c9) rfl (by kernel_rfl) (by kernel_rfl) (by kernel_rfl) (fun _ _ _ h => h) (Or.inl ⟨by rfl,?_⟩) (by assumption) ?_
        ·(intro W hSw; have x0 := hSw.2.at (k := 0) (v := .int .i64 op) rfl; have x1 := hSw.2.at (k := 1) (v := .int .i64 a) rfl; have x2 := hSw.2.at (k := 2) (v := .int .i64 b) rfl; have x3 := hSw.2.at (k := 3) (v := .int .u64 (n : Nat)) rfl; have x4 := hSw.2.at (k := 4) (v := .int .u64 (h : Nat)) rfl; have x5 := hSw.2.at (k := 5) (v := .slice pl nl cl) rfl; have x6 := hSw.2.at (k := 6) (v := .slice pb nb cb) rfl; have x7 := hSw.2.at (k := 7) (v := .slice pe ne ce) rfl; have x8 := hSw.2.at (k := 8) (v := .bool ot) rfl; go_simp; try (with_reducible rfl))
        try simp only [Act.put,List.setIfInBounds_toArray,List.set_cons_zero,List.set_cons_succ]
        refine wpAnyH_done (by kernel_rfl) ?_ _
        have HF := hid hS.1
        clear hS
        go_wp2
        go_ret
        exact ⟨_,rfl,HO9.out,HF.out.below (Nat.le_refl _)⟩
       exact AllReadyH.nil
      exact AllReadyH.nil
     exact AllReadyH.nil
    exact AllReadyH.nil
   exact AllReadyH.nil
  exact AllReadyH.nil
 exact AllReadyH.nil
set_option maxHeartbeats 8000000 in
theorem rone_2 (op a b : Int) (n h : Nat) (pl pb pe : Option Addr) (nl cl nb cb ne ce : Nat) (ot : Bool) (w : World) (k : Int) (X : List UInt8) (hop : 64768 ≤ op ∧ op < 65024) (hX : X.length + 100 ≤ 140737488355000)
  (hof : ∀ W,Calls Tryz.prog 153 #[.int .i64 op] W fun e w' => (∃ (o : Int) (nm tk lv : List UInt8) (fx : Bool),e = .returned (.agg #[.int .i64 o,.string (str nm),.int .i64 k,.string (str tk),.string (str lv),.bool fx])) ∧ Below W.heap.size W w')
  (hbe : ∀ W,Below w.heap.size w W → Calls Tryz.prog 232 #[.agg #[.int .i64 op,.int .i64 a,.int .i64 b,.int .u64 (n : Nat),.int .u64 (h : Nat),.slice pl nl cl,.slice pb nb cb,.slice pe ne ce,.bool ot],.int .i64 k] W (BO W X)) :
  Calls Tryz.prog 210 #[.agg #[.int .i64 op,.int .i64 a,.int .i64 b,.int .u64 (n : Nat),.int .u64 (h : Nat),.slice pl nl cl,.slice pb nb cb,.slice pe ne ce,.bool ot]] w (BO w ([] ++ [253] ++ uI (op - 64768) ++ X)) := by
 have hfl := run_fld
 have HOF := fun W => hid (hof W)
 have HBE := fun W hW => hid (hbe W hW)
 have HX0 := hid (CA.new w #[.int .i64 op,.int .i64 a,.int .i64 b,.int .u64 (n : Nat),.int .u64 (h : Nat),.slice pl nl cl,.slice pb nb cb,.slice pe ne ce,.bool ot] 39)
 have HRX := hid ((RF.refl w.heap.size w).alloc (.cells #[.int .i64 op,.int .i64 a,.int .i64 b,.int .u64 (n : Nat),.int .u64 (h : Nat),.slice pl nl cl,.slice pb nb cb,.slice pe ne ce,.bool ot] 39))
 have y0 := HX0.out.at (k := 0) (v := .int .i64 op) rfl
 have y1 := HX0.out.at (k := 1) (v := .int .i64 a) rfl
 have y2 := HX0.out.at (k := 2) (v := .int .i64 b) rfl
 have y3 := HX0.out.at (k := 3) (v := .int .u64 (n : Nat)) rfl
 have y4 := HX0.out.at (k := 4) (v := .int .u64 (h : Nat)) rfl
 have y5 := HX0.out.at (k := 5) (v := .slice pl nl cl) rfl
 have y6 := HX0.out.at (k := 6) (v := .slice pb nb cb) rfl
 have y7 := HX0.out.at (k := 7) (v := .slice pe ne ce) rfl
 have y8 := HX0.out.at (k := 8) (v := .bool ot) rfl
 have HSZ : Hid (w.heap.size ≤ w.heap.size) := Nat.le_refl _
 have d0 : decide (op < 64512) = false := by simp; omega
 have d1 : decide (op < 64768) = false := by simp; omega
 have hw1 : IntKind.i64.wrap (op - 64768) = op - 64768 := IntWalk.i64_in _ (by omega)
 have q1 := uI_len (op - 64768)
 have HN0 := hid (show ([] : List UInt8).length + [(253 : UInt8)].length ≤ 140737488355000 by simp)
 have HN2 := hid (show ([] ++ [(253 : UInt8)]).length + (uI (op - 64768)).length ≤ 140737488355000 by simp; omega)
 have HN1 := hid (show ([] ++ [(253 : UInt8)] ++ uI (op - 64768)).length + X.length ≤ 140737488355000 by simp; omega)
 have HOP := hid hop
 clear hof hbe hop hX q1
 go_enter Tryz.func210,Tryz.ntmps210
 go_upto_region 6 with fail
 clear y0 y1 y2 y3 y4 y5 y6 y7 y8
 have hS : RF w.heap.size w (w.alloc (.cells #[.int .i64 op,.int .i64 a,.int .i64 b,.int .u64 (n : Nat),.int .u64 (h : Nat),.slice pl nl cl,.slice pb nb cb,.slice pe ne ce,.bool ot] 39)).drew ∧ CA w.heap.size #[.int .i64 op,.int .i64 a,.int .i64 b,.int .u64 (n : Nat),.int .u64 (h : Nat),.slice pl nl cl,.slice pb nb cb,.slice pe ne ce,.bool ot] 39 (w.alloc (.cells #[.int .i64 op,.int .i64 a,.int .i64 b,.int .u64 (n : Nat),.int .u64 (h : Nat),.slice pl nl cl,.slice pb nb cb,.slice pe ne ce,.bool ot] 39)).drew := ⟨HRX.out.drew,HX0.out⟩
 have HO0 := hid (own_nil (w.alloc (.cells #[.int .i64 op,.int .i64 a,.int .i64 b,.int .u64 (n : Nat),.int .u64 (h : Nat),.slice pl nl cl,.slice pb nb cb,.slice pe ne ce,.bool ot] 39)).drew w.heap.size)
 refine wp_region_held_drew (S := fun W => RF w.heap.size w W ∧ CA w.heap.size #[.int .i64 op,.int .i64 a,.int .i64 b,.int .u64 (n : Nat),.int .u64 (h : Nat),.slice pl nl cl,.slice pb nb cb,.slice pe ne ce,.bool ot] 39 W) (by kernel_rfl) hS (fun _ => ?_)
 generalize (w.alloc (.cells #[.int .i64 op,.int .i64 a,.int .i64 b,.int .u64 (n : Nat),.int .u64 (h : Nat),.slice pl nl cl,.slice pb nb cb,.slice pe ne ce,.bool ot] 39)).drew = W at *
 refine wpAnyH_take (oi := ⟨_,_,_,_,_,_⟩) (i := 0) (v := .slice none 0 0) rfl (by kernel_rfl) (by kernel_rfl) (by kernel_rfl) (fun _ _ _ h => h) (Or.inl ⟨by rfl,?_⟩) (by assumption) ?_
 ·(intro W hSw; have x0 := hSw.2.at (k := 0) (v := .int .i64 op) rfl; have x1 := hSw.2.at (k := 1) (v := .int .i64 a) rfl; have x2 := hSw.2.at (k := 2) (v := .int .i64 b) rfl; have x3 := hSw.2.at (k := 3) (v := .int .u64 (n : Nat)) rfl; have x4 := hSw.2.at (k := 4) (v := .int .u64 (h : Nat)) rfl; have x5 := hSw.2.at (k := 5) (v := .slice pl nl cl) rfl; have x6 := hSw.2.at (k := 6) (v := .slice pb nb cb) rfl; have x7 := hSw.2.at (k := 7) (v := .slice pe ne ce) rfl; have x8 := hSw.2.at (k := 8) (v := .bool ot) rfl; go_simp; try (with_reducible rfl))
 try simp only [Act.put,List.setIfInBounds_toArray,List.set_cons_zero,List.set_cons_succ]
 refine wpAnyH_take (oi := ⟨_,_,_,_,_,_⟩) (i := 3) (v := .pointer (some ⟨w.heap.size,0,none⟩)) rfl (by kernel_rfl) (by kernel_rfl) (by kernel_rfl) (fun _ _ _ h => h) (Or.inl ⟨by rfl,?_⟩) (by assumption) ?_
 ·(intro W hSw; have x0 := hSw.2.at (k := 0) (v := .int .i64 op) rfl; have x1 := hSw.2.at (k := 1) (v := .int .i64 a) rfl; have x2 := hSw.2.at (k := 2) (v := .int .i64 b) rfl; have x3 := hSw.2.at (k := 3) (v := .int .u64 (n : Nat)) rfl; have x4 := hSw.2.at (k := 4) (v := .int .u64 (h : Nat)) rfl; have x5 := hSw.2.at (k := 5) (v := .slice pl nl cl) rfl; have x6 := hSw.2.at (k := 6) (v := .slice pb nb cb) rfl; have x7 := hSw.2.at (k := 7) (v := .slice pe ne ce) rfl; have x8 := hSw.2.at (k := 8) (v := .bool ot) rfl; go_simp; try (with_reducible rfl))
 try simp only [Act.put,List.setIfInBounds_toArray,List.set_cons_zero,List.set_cons_succ]
 refine wpAnyH_take (oi := ⟨_,_,_,_,_,_⟩) (i := 4) (v := .int .i64 op) rfl (by kernel_rfl) (by kernel_rfl) (by kernel_rfl) (fun _ _ _ h => h) (Or.inl ⟨by rfl,?_⟩) (by assumption) ?_
 ·(intro W hSw; have x0 := hSw.2.at (k := 0) (v := .int .i64 op) rfl; have x1 := hSw.2.at (k := 1) (v := .int .i64 a) rfl; have x2 := hSw.2.at (k := 2) (v := .int .i64 b) rfl; have x3 := hSw.2.at (k := 3) (v := .int .u64 (n : Nat)) rfl; have x4 := hSw.2.at (k := 4) (v := .int .u64 (h : Nat)) rfl; have x5 := hSw.2.at (k := 5) (v := .slice pl nl cl) rfl; have x6 := hSw.2.at (k := 6) (v := .slice pb nb cb) rfl; have x7 := hSw.2.at (k := 7) (v := .slice pe ne ce) rfl; have x8 := hSw.2.at (k := 8) (v := .bool ot) rfl; go_simp; try (with_reducible rfl))
 try simp only [Act.put,List.setIfInBounds_toArray,List.set_cons_zero,List.set_cons_succ]
 refine wpAnyH_take (oi := ⟨_,_,_,_,_,_⟩) (i := 5) (v := .int .i64 (op - 64768)) rfl (by kernel_rfl) (by kernel_rfl) (by kernel_rfl) (fun _ _ _ h => h) (Or.inl ⟨by rfl,?_⟩) (by assumption) ?_
 ·(intro W hSw; have x0 := hSw.2.at (k := 0) (v := .int .i64 op) rfl; have x1 := hSw.2.at (k := 1) (v := .int .i64 a) rfl; have x2 := hSw.2.at (k := 2) (v := .int .i64 b) rfl; have x3 := hSw.2.at (k := 3) (v := .int .u64 (n : Nat)) rfl; have x4 := hSw.2.at (k := 4) (v := .int .u64 (h : Nat)) rfl; have x5 := hSw.2.at (k := 5) (v := .slice pl nl cl) rfl; have x6 := hSw.2.at (k := 6) (v := .slice pb nb cb) rfl; have x7 := hSw.2.at (k := 7) (v := .slice pe ne ce) rfl; have x8 := hSw.2.at (k := 8) (v := .bool ot) rfl; go_simp; try (with_reducible rfl))
 try simp only [Act.put,List.setIfInBounds_toArray,List.set_cons_zero,List.set_cons_succ]
 refine wpAnyH_ready (rs := [1]) (by kernel_rfl) (by simp) ?_
 refine AllReadyH.cons (o := ⟨_,_,_,_,_,_⟩) rfl (fun K hK => ?_) ?_
 ·go_simp
  have HO1 := hid (own_less (own_litc W 253 253 rfl) (show w.heap.size ≤ W.heap.size from hS.1.size))
  replace HO0 := hid (own_kept HO0.out ((Below.refl W.heap.size W).alloc (Nat.le_refl _) (.cells #[.int .u8 253] 5)))
  replace hS := And.intro (hS.1.alloc (.cells #[.int .u8 253] 5)) (hS.2.alloc (.cells #[.int .u8 253] 5))
  generalize W.alloc (.cells #[.int .u8 253] 5) = W1 at *
  generalize W.heap.size = n1 at *
  refine hK.out _ _ hS (fun _ => ?_)
  clear hK K
  try simp only [Act.put,List.setIfInBounds_toArray,List.set_cons_zero,List.set_cons_succ]
  refine wpAnyH_ready (rs := [2]) (by kernel_rfl) (by simp) ?_
  refine AllReadyH.cons (o := ⟨_,_,_,_,_,_⟩) rfl (fun K hK => ?_) ?_
  ·refine append_rowS rfl (.tmp 24) (.tmp 25) rfl w.heap.size _ _ _ _ _ w HO0.out HO1.out HN0.out (Nat.le_refl _) hS.1 rfl rfl ?_
   intro p2 m2 c2 W2 ho3 hr
   replace hS := And.intro (hS.1.trans hr) (hS.2.rf hr (by decide))
   have HO2 := hid ho3
   clear ho3 hr HO0 HO1
   refine hK.out _ _ hS (fun _ => ?_)
   clear hK K
   try simp only [Act.put,List.setIfInBounds_toArray,List.set_cons_zero,List.set_cons_succ]
   refine wpAnyH_ready (rs := [6]) (by kernel_rfl) (by simp) ?_
   refine AllReadyH.cons (o := ⟨_,_,_,_,_,_⟩) rfl (fun K hK => ?_) ?_
   ·go_simp
    go_at_call 133
    (with_reducible refine (RU_says (op - 64768) W2).mono ?_)
    rintro e W3 ⟨v,rfl,ho,hb⟩
    obtain ⟨p4,m4,c4,rfl⟩ := own_slice ho
    have HO4 := hid (own_less ho (Nat.le_trans HSZ.out hS.1.size))
    replace HO2 := hid (own_kept HO2.out hb)
    replace hS := And.intro (hS.1.trans (RF.of hb)) (hS.2.below hb hS.2.lt)
    clear ho hb
    refine hK.out _ _ hS (fun _ => ?_)
    clear hK K
    try simp only [Act.put,List.setIfInBounds_toArray,List.set_cons_zero,List.set_cons_succ]
    refine wpAnyH_ready (rs := [7]) (by kernel_rfl) (by simp) ?_
    refine AllReadyH.cons (o := ⟨_,_,_,_,_,_⟩) rfl (fun K hK => ?_) ?_
    ·refine append_rowS rfl (.tmp 26) (.tmp 30) rfl w.heap.size _ _ _ _ _ w HO2.out HO4.out HN2.out (Nat.le_refl _) hS.1 rfl rfl ?_
     intro p3 m3 c3 W4 ho3 hr
     replace hS := And.intro (hS.1.trans hr) (hS.2.rf hr (by decide))
     have HO3 := hid ho3
     clear ho3 hr HO2 HO4
     refine hK.out _ _ hS (fun _ => ?_)
     clear hK K
     try simp only [Act.put,List.setIfInBounds_toArray,List.set_cons_zero,List.set_cons_succ]
     refine wpAnyH_take (oi := ⟨_,_,_,_,_,_⟩) (i := 8) (v := .slice p3 m3 c3) rfl (by kernel_rfl) (by kernel_rfl) (by kernel_rfl) (fun _ _ _ h => h) (Or.inl ⟨by rfl,?_⟩) (by assumption) ?_
     ·(intro W hSw; have x0 := hSw.2.at (k := 0) (v := .int .i64 op) rfl; have x1 := hSw.2.at (k := 1) (v := .int .i64 a) rfl; have x2 := hSw.2.at (k := 2) (v := .int .i64 b) rfl; have x3 := hSw.2.at (k := 3) (v := .int .u64 (n : Nat)) rfl; have x4 := hSw.2.at (k := 4) (v := .int .u64 (h : Nat)) rfl; have x5 := hSw.2.at (k := 5) (v := .slice pl nl cl) rfl; have x6 := hSw.2.at (k := 6) (v := .slice pb nb cb) rfl; have x7 := hSw.2.at (k := 7) (v := .slice pe ne ce) rfl; have x8 := hSw.2.at (k := 8) (v := .bool ot) rfl; go_simp; try (with_reducible rfl))
     try simp only [Act.put,List.setIfInBounds_toArray,List.set_cons_zero,List.set_cons_succ]
     refine wpAnyH_done (by kernel_rfl) ?_ _
     have HF := hid hS.1
     have HT := HO3
     have HX1 := hid hS.2
     clear hS HX0 HRX
     generalize W4 = w3 at *
     go_upto_region 7 with fail
     have hS : RF w.heap.size w w3.drew ∧ CA w.heap.size #[.int .i64 op,.int .i64 a,.int .i64 b,.int .u64 (n : Nat),.int .u64 (h : Nat),.slice pl nl cl,.slice pb nb cb,.slice pe ne ce,.bool ot] 39 w3.drew := ⟨HF.out.drew,HX1.out⟩
     have HO0 : Hid (w3.drew.ownsRow w.heap.size 5 1 (.slice p3 m3 c3) ([] ++ [253] ++ uI (op - 64768)).length (Lib.byteCells ([] ++ [253] ++ uI (op - 64768)))) := HT
     clear HF HT HX1
     refine wp_region_held_drew (S := fun W => RF w.heap.size w W ∧ CA w.heap.size #[.int .i64 op,.int .i64 a,.int .i64 b,.int .u64 (n : Nat),.int .u64 (h : Nat),.slice pl nl cl,.slice pb nb cb,.slice pe ne ce,.bool ot] 39 W) (by kernel_rfl) hS (fun _ => ?_)
     generalize w3.drew = W at *
     refine wpAnyH_take (oi := ⟨_,_,_,_,_,_⟩) (i := 0) (v := .slice p3 m3 c3) rfl (by kernel_rfl) (by kernel_rfl) (by kernel_rfl) (fun _ _ _ h => h) (Or.inl ⟨by rfl,?_⟩) (by assumption) ?_
     ·(intro W hSw; have x0 := hSw.2.at (k := 0) (v := .int .i64 op) rfl; have x1 := hSw.2.at (k := 1) (v := .int .i64 a) rfl; have x2 := hSw.2.at (k := 2) (v := .int .i64 b) rfl; have x3 := hSw.2.at (k := 3) (v := .int .u64 (n : Nat)) rfl; have x4 := hSw.2.at (k := 4) (v := .int .u64 (h : Nat)) rfl; have x5 := hSw.2.at (k := 5) (v := .slice pl nl cl) rfl; have x6 := hSw.2.at (k := 6) (v := .slice pb nb cb) rfl; have x7 := hSw.2.at (k := 7) (v := .slice pe ne ce) rfl; have x8 := hSw.2.at (k := 8) (v := .bool ot) rfl; go_simp; try (with_reducible rfl))
     try simp only [Act.put,List.setIfInBounds_toArray,List.set_cons_zero,List.set_cons_succ]
     refine wpAnyH_take (oi := ⟨_,_,_,_,_,_⟩) (i := 1) (v := .agg #[.int .i64 op,.int .i64 a,.int .i64 b,.int .u64 (n : Nat),.int .u64 (h : Nat),.slice pl nl cl,.slice pb nb cb,.slice pe ne ce,.bool ot]) rfl (by kernel_rfl) (by kernel_rfl) (by kernel_rfl) (fun _ _ _ h => h) (Or.inl ⟨by rfl,?_⟩) (by assumption) ?_
     ·(intro W hSw; have x0 := hSw.2.at (k := 0) (v := .int .i64 op) rfl; have x1 := hSw.2.at (k := 1) (v := .int .i64 a) rfl; have x2 := hSw.2.at (k := 2) (v := .int .i64 b) rfl; have x3 := hSw.2.at (k := 3) (v := .int .u64 (n : Nat)) rfl; have x4 := hSw.2.at (k := 4) (v := .int .u64 (h : Nat)) rfl; have x5 := hSw.2.at (k := 5) (v := .slice pl nl cl) rfl; have x6 := hSw.2.at (k := 6) (v := .slice pb nb cb) rfl; have x7 := hSw.2.at (k := 7) (v := .slice pe ne ce) rfl; have x8 := hSw.2.at (k := 8) (v := .bool ot) rfl; go_simp; try (with_reducible rfl))
     try simp only [Act.put,List.setIfInBounds_toArray,List.set_cons_zero,List.set_cons_succ]
     refine wpAnyH_take (oi := ⟨_,_,_,_,_,_⟩) (i := 2) (v := .pointer (some ⟨w.heap.size,0,none⟩)) rfl (by kernel_rfl) (by kernel_rfl) (by kernel_rfl) (fun _ _ _ h => h) (Or.inl ⟨by rfl,?_⟩) (by assumption) ?_
     ·(intro W hSw; have x0 := hSw.2.at (k := 0) (v := .int .i64 op) rfl; have x1 := hSw.2.at (k := 1) (v := .int .i64 a) rfl; have x2 := hSw.2.at (k := 2) (v := .int .i64 b) rfl; have x3 := hSw.2.at (k := 3) (v := .int .u64 (n : Nat)) rfl; have x4 := hSw.2.at (k := 4) (v := .int .u64 (h : Nat)) rfl; have x5 := hSw.2.at (k := 5) (v := .slice pl nl cl) rfl; have x6 := hSw.2.at (k := 6) (v := .slice pb nb cb) rfl; have x7 := hSw.2.at (k := 7) (v := .slice pe ne ce) rfl; have x8 := hSw.2.at (k := 8) (v := .bool ot) rfl; go_simp; try (with_reducible rfl))
     try simp only [Act.put,List.setIfInBounds_toArray,List.set_cons_zero,List.set_cons_succ]
     refine wpAnyH_take (oi := ⟨_,_,_,_,_,_⟩) (i := 3) (v := .int .i64 op) rfl (by kernel_rfl) (by kernel_rfl) (by kernel_rfl) (fun _ _ _ h => h) (Or.inl ⟨by rfl,?_⟩) (by assumption) ?_
     ·(intro W hSw; have x0 := hSw.2.at (k := 0) (v := .int .i64 op) rfl; have x1 := hSw.2.at (k := 1) (v := .int .i64 a) rfl; have x2 := hSw.2.at (k := 2) (v := .int .i64 b) rfl; have x3 := hSw.2.at (k := 3) (v := .int .u64 (n : Nat)) rfl; have x4 := hSw.2.at (k := 4) (v := .int .u64 (h : Nat)) rfl; have x5 := hSw.2.at (k := 5) (v := .slice pl nl cl) rfl; have x6 := hSw.2.at (k := 6) (v := .slice pb nb cb) rfl; have x7 := hSw.2.at (k := 7) (v := .slice pe ne ce) rfl; have x8 := hSw.2.at (k := 8) (v := .bool ot) rfl; go_simp; try (with_reducible rfl))
     try simp only [Act.put,List.setIfInBounds_toArray,List.set_cons_zero,List.set_cons_succ]
     refine wpAnyH_ready (rs := [4]) (by kernel_rfl) (by simp) ?_
     refine AllReadyH.cons (o := ⟨_,_,_,_,_,_⟩) rfl (fun K hK => ?_) ?_
     ·go_simp
      go_at_call 153
      (with_reducible refine (HOF W).out.mono ?_)
      rintro e W1 ⟨⟨o,nm,tk,lv,fx,rfl⟩,hb⟩
      replace HO0 := hid (own_kept HO0.out hb)
      replace hS := And.intro (hS.1.trans (RF.of hb)) (hS.2.below hb hS.2.lt)
      clear hb
      refine hK.out _ _ hS (fun _ => ?_)
      clear hK K
      try simp only [Act.put,List.setIfInBounds_toArray,List.set_cons_zero,List.set_cons_succ]
      refine wpAnyH_take (oi := ⟨_,_,_,_,_,_⟩) (i := 5) (v := .int .i64 k) rfl (by kernel_rfl) (by kernel_rfl) (by kernel_rfl) (fun _ _ _ h => h) (Or.inl ⟨by rfl,?_⟩) (by assumption) ?_
      ·(intro W hSw; have x0 := hSw.2.at (k := 0) (v := .int .i64 op) rfl; have x1 := hSw.2.at (k := 1) (v := .int .i64 a) rfl; have x2 := hSw.2.at (k := 2) (v := .int .i64 b) rfl; have x3 := hSw.2.at (k := 3) (v := .int .u64 (n : Nat)) rfl; have x4 := hSw.2.at (k := 4) (v := .int .u64 (h : Nat)) rfl; have x5 := hSw.2.at (k := 5) (v := .slice pl nl cl) rfl; have x6 := hSw.2.at (k := 6) (v := .slice pb nb cb) rfl; have x7 := hSw.2.at (k := 7) (v := .slice pe ne ce) rfl; have x8 := hSw.2.at (k := 8) (v := .bool ot) rfl; go_simp; try (with_reducible rfl))
      try simp only [Act.put,List.setIfInBounds_toArray,List.set_cons_zero,List.set_cons_succ]
      refine wpAnyH_ready (rs := [6]) (by kernel_rfl) (by simp) ?_
      refine AllReadyH.cons (o := ⟨_,_,_,_,_,_⟩) rfl (fun K hK => ?_) ?_
      ·go_simp
       go_at_call 232
       (with_reducible refine ((HBE W1 (hS.1.below (Nat.le_refl _))).out).mono ?_)
       rintro e W2 ⟨v,rfl,ho,hb⟩
       obtain ⟨p8,m8,c8,rfl⟩ := own_slice ho
       have HO8 := hid (own_less ho (Nat.le_trans HSZ.out hS.1.size))
       replace HO0 := hid (own_kept HO0.out hb)
       replace hS := And.intro (hS.1.trans (RF.of hb)) (hS.2.below hb hS.2.lt)
       clear ho hb
       refine hK.out _ _ hS (fun _ => ?_)
       clear hK K
       try simp only [Act.put,List.setIfInBounds_toArray,List.set_cons_zero,List.set_cons_succ]
       refine wpAnyH_ready (rs := [7]) (by kernel_rfl) (by simp) ?_
       refine AllReadyH.cons (o := ⟨_,_,_,_,_,_⟩) rfl (fun K hK => ?_) ?_
       ·refine append_rowS rfl (.tmp 32) (.tmp 38) rfl w.heap.size _ _ _ _ _ w HO0.out HO8.out HN1.out (Nat.le_refl _) hS.1 rfl rfl ?_
        intro p9 m9 c9 W3 ho3 hr
        replace hS := And.intro (hS.1.trans hr) (hS.2.rf hr (by decide))
        have HO9 := hid ho3
        clear ho3 hr HO0 HO8
        refine hK.out _ _ hS (fun _ => ?_)
        clear hK K
        try simp only [Act.put,List.setIfInBounds_toArray,List.set_cons_zero,List.set_cons_succ]
        refine wpAnyH_take (oi := ⟨_,_,_,_,_,_⟩) (i := 8) (v := .slice p9 m9 c9) rfl (by kernel_rfl) (by kernel_rfl) (by kernel_rfl) (fun _ _ _ h => h) (Or.inl ⟨by rfl,?_⟩) (by assumption) ?_
        ·(intro W hSw; have x0 := hSw.2.at (k := 0) (v := .int .i64 op) rfl; have x1 := hSw.2.at (k := 1) (v := .int .i64 a) rfl; have x2 := hSw.2.at (k := 2) (v := .int .i64 b) rfl; have x3 := hSw.2.at (k := 3) (v := .int .u64 (n : Nat)) rfl; have x4 := hSw.2.at (k := 4) (v := .int .u64 (h : Nat)) rfl; have x5 := hSw.2.at (k := 5) (v := .slice pl nl cl) rfl; have x6 := hSw.2.at (k := 6) (v := .slice pb nb cb) rfl; have x7 := hSw.2.at (k := 7) (v := .slice pe ne ce) rfl; have x8 := hSw.2.at (k := 8) (v := .bool ot) rfl; go_simp; try (with_reducible rfl))
        try simp only [Act.put,List.setIfInBounds_toArray,List.set_cons_zero,List.set_cons_succ]
        refine wpAnyH_done (by kernel_rfl) ?_ _
        have HF := hid hS.1
        clear hS
        go_wp2
        go_ret
        exact ⟨_,rfl,HO9.out,HF.out.below (Nat.le_refl _)⟩
       exact AllReadyH.nil
      exact AllReadyH.nil
     exact AllReadyH.nil
    exact AllReadyH.nil
   exact AllReadyH.nil
  exact AllReadyH.nil
 exact AllReadyH.nil
end Go.Proofs.YtjgeedgphcjhoaaGreat
