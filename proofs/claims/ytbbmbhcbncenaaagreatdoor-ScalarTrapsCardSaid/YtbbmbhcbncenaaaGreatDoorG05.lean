/-
  SDo, SRef, SSome, SIntA, SAwake, Sat, Exit: merged, what the law does not reach left out (each text says what it holds where it lies in wip). No condition.
-/
import Derived.Test.YtbbmbhcbncenaaaGreatDoorG04
import Derived.Test.YtbbmbhcbncenaaaGreatDoorG01
import Derived.WalkKit
set_option linter.unusedSimpArgs false
set_option linter.unusedVariables false
set_option maxRecDepth 100000
namespace Go.Proofs.YtbbmbhcbncenaaaGreatDoor.Sc
open Go.RowKit
def opn (l : List Av) (j : Nat) : Nat := match l[j]? with | some a => cutT a.1 a.2.1 | none => 0
def sel (l : List Av) (i j : Nat) : Nat := if j < i then opn l j else 0
theorem sel_end (l : List Av) (j : Nat) : sel l l.length j = opn l j := by
 unfold sel
 split
 ·rfl
 ·rename_i h
  unfold opn
  rw [List.getElem?_eq_none (by omega)]
theorem sel_next (l : List Av) (i : Nat) (hi : i < 2) (a : Av) (h : l[i]? = some a) : (#[.int .u64 (sel l i 0 : Nat),.int .u64 (sel l i 1 : Nat)] : Array Value).setIfInBounds i (.int .u64 (cutT a.1 a.2.1 : Nat)) = #[.int .u64 (sel l (i + 1) 0 : Nat),.int .u64 (sel l (i + 1) 1 : Nat)] := by
 have e : opn l i = cutT a.1 a.2.1 := by unfold opn; rw [h]
 rcases (show i = 0 ∨ i = 1 by omega) with rfl | rfl
 ·simp [sel,← e]
 ·simp [sel,← e]
def doV (t : Int) (x : Nat) (e : Nat) : Value := if e = 0 then vv t (cutT t x) 0 false else vv 0 0 0 false
set_option maxHeartbeats 8000000 in
theorem SDo_says (op : Int) (hN : (69 ≤ op ∧ op ≤ 196) ∨ (64512 ≤ op ∧ op ≤ 64519)) (l : List Av) (hl1 : 1 ≤ l.length) (hl2 : l.length ≤ 2) (hla : laL op = l.map (·.1)) (t : Int) (hlb : lbL op = [t])
  (va : Value) (w : World) (hg : GlobF w) (ha : AR w va l) (x : Nat) (e2 : Nat) (HR : AnsG 22 #[.int .i64 op,.int .u64 (opn l 0 : Nat),.int .u64 (opn l 1 : Nat)] (.tuple #[.int .u64 x,.int .i64 e2])) :
  Calls Tryz.prog 8 #[.int .i64 op,.slice none 0 0,va] w fun e w' => e = .returned (.tuple #[doV t x e2,.int .i64 e2]) ∧ Below w.heap.size w w' := by
 have HN := fun W => hid (Num_says op hN W)
 have HSG := fun W (h : GlobF W) => hid (Sign_any op W h.g)
 rw [hla,hlb] at HSG
 have hlm : (l.map (·.1)).length = l.length := List.length_map _
 have HRR := fun W h => hid (HR W h)
 have HCX := fun W => hid (cut_says t x W)
 have HCUT : ∀ (j : Nat) (a : Av),l[j]? = some a → ∀ W,Hid (Calls Tryz.prog 21 #[.int .i64 a.1,.int .u64 a.2.1] W fun e w' => e = .returned (.int .u64 (cutT a.1 a.2.1 : Nat)) ∧ W = w') := fun j a hj W => cut_says a.1 a.2.1 W
 have HGL := hid hg
 have HA := hid ha
 have HSE := hid (sel_end l)
 have HSN := hid (sel_next l)
 have d0 : decide (64768 ≤ op) = false := by simp; omega
 have HEF : ∀ (g2 c2 : Nat) (W : World),AR W va l → g2 < W.heap.size → (∀ j a,l[j]? = some a → W.cell? ⟨g2,j,none⟩ = some (.int .i64 a.1)) → Hid (Calls Tryz.prog 19 #[va,.slice (some ⟨g2,0,none⟩) l.length c2,.func (.func 20) #[] #[]] W fun e w' => e = .returned (.bool true) ∧ Below W.heap.size W w') := fun g2 c2 W h1 h2 h3 => EF_says l hl1 (by omega) va g2 c2 W h1 h2 h3
 generalize fxB (lineL op) = fx at *
 obtain ⟨n,hn⟩ : ∃ n,n = l.length := ⟨_,rfl⟩
 rw [← hn] at hl1 hl2 hlm HEF HSE
 have HNN := hid hn
 have HD0 : Hid (doV t x 0 = vv t (cutT t x) 0 false) := rfl
 have HDE : Hid (e2 ≠ 0 → doV t x e2 = vv 0 0 0 false) := fun h => if_neg h
 unfold vv at HD0 HDE
 obtain ⟨CT,hCT⟩ : ∃ c,c = cutT t x := ⟨_,rfl⟩
 rw [← hCT] at HCX HD0
 clear hN hla hlb HR ha hg hn hCT
 go_enter Tryz.func8,Tryz.ntmps8
 go_upto_region 6 with (first
  | (go_at_call 6; refine (HN _).out.mono ?_; rintro e w1 ⟨rfl,rfl⟩)
  | (go_at_call 18; refine (HSG _ (HGL.out.next ((Below.refl _ w).alloc (Nat.le_refl _) _))).out.mono ?_; rintro e w2 ⟨v1,v2,B2,rfl,ho1,ho2,hB2,hsep,hb⟩; have HL1 := hid ho1; have HL2 := hid ho2; have HR2 := hid (below_new hb); have HBB := hid hB2; clear hb hB2 hsep ho1 ho2))
 obtain ⟨gs,cs,rfl⟩ : ∃ g cap,v1 = .slice (some ⟨g,0,none⟩) (l.map (·.1)).length cap := owned_at HL1.out (by rw [hlm]; exact hl1)
 obtain ⟨gt,ct,rfl⟩ : ∃ g cap,v2 = .slice (some ⟨g,0,none⟩) 1 cap := owned_at HL2.out (Nat.le_refl _)
 rw [hlm]
 have k0 : w2.cell? ⟨gt,0,none⟩ = some (.int .i64 t) := HL2.out.cellAt 0 (by decide)
 have hgt : gt < w2.heap.size := (HL2.out.lt gt rfl).2
 have hgs : gs < w2.heap.size := (HL1.out.lt gs rfl).2
 have hne : w.heap.size ≠ gt := by
  have h1 := (HL2.out.lt gt rfl).1
  have h2 := HBB.out
  rw [size_al] at h2
  omega
 have HTC : ∀ j a,l[j]? = some a → w2.cell? ⟨gs,j,none⟩ = some (.int .i64 a.1) := fun j a hj => by
  have hjl : j < l.length := (List.getElem?_eq_some_iff.1 hj).1
  rw [HL1.out.cellAt j (by rw [List.length_map]; omega)]
  simp [ic,hj]
 have HEF2 := HEF gs cs w2 (HA.out.call HR2.out.2) hgs HTC
 clear HEF HTC HL1 HL2
 go_upto_region 8 with (go_at_call 19; (with_reducible refine HEF2.out.mono ?_); rintro e w3 ⟨rfl,hb3⟩; have HB3 := hid hb3; clear hb3)
 have k3 : w3.cell? ⟨gt,0,none⟩ = some (.int .i64 t) := (HB3.out.cell (p := ⟨gt,0,none⟩) hgt).trans k0
 have hgt3 : gt < w3.heap.size := Nat.lt_of_lt_of_le hgt HB3.out.size
 have HRS : Hid (CA w.heap.size #[.int .i64 0,.int .u64 0,.int .u64 0,.bool false] 33 w3) := HR2.out.1.call HB3.out
 have HBW : Hid (Below w.heap.size w w3) := HR2.out.2.trans (HB3.out.mono HR2.out.2.size)
 have HA3 := hid (HA.out.call HBW.out)
 clear HR2 HB3 HEF2 k0 hgs HSG HN HA
 obtain ⟨ga,ca,rfl,hga,hca,hata⟩ := HA3.out
 have HAT := hid hata
 rw [← HNN.out] at hca ⊢
 clear hata HA3
 go_upto_region 9 with fail
 have HST : Hid (Below w3.heap.size w3 (w3.alloc (.cells #[.int .u64 0,.int .u64 0] 48)) ∧ CA w3.heap.size #[.int .u64 (sel l 0 0 : Nat),.int .u64 (sel l 0 1 : Nat)] 48 (w3.alloc (.cells #[.int .u64 0,.int .u64 0] 48))) := ⟨(Below.refl _ _).alloc (Nat.le_refl _) _,CA.new w3 _ 48⟩
 generalize w3.alloc (.cells #[.int .u64 0,.int .u64 0] 48) = w4 at *
 go_wp2
 go_loopw [46] (fun vi wr => ∃ i : Nat,i ≤ n ∧ vi = .int .i64 i ∧ Hid (Below w3.heap.size w3 wr ∧ CA w3.heap.size #[.int .u64 (sel l i 0 : Nat),.int .u64 (sel l i 1 : Nat)] 48 wr)) (fun vi _ => n - (intOf vi).toNat)
 case atStart => exact ⟨0,Nat.zero_le _,rfl,HST⟩
 case round =>
  obtain ⟨i,hin,rfl,HB⟩ := hrel
  by_cases hlt : i < n
  ·obtain ⟨a,hja⟩ : ∃ a,l[i]? = some a := ⟨l[i]'(by rw [← HNN.out]; exact hlt),by simp [← HNN.out,hlt]⟩
   obtain ⟨h0,h1,h2,h3⟩ := HAT.out i _ hja
   have HCC := HCUT i a hja
   have HNX := hid (HSN.out i (by omega) a hja)
   have e0 := (HB.out.1.cell (p := ⟨ga,i * 4,none⟩) hga).trans h0
   have e1 := (HB.out.1.cell (p := ⟨ga,i * 4 + 1,none⟩) hga).trans h1
   have e2' := (HB.out.1.cell (p := ⟨ga,i * 4 + 2,none⟩) hga).trans h2
   have e3 := (HB.out.1.cell (p := ⟨ga,i * 4 + 3,none⟩) hga).trans h3
   have hga3 : ga < wr.heap.size := Nat.lt_of_lt_of_le hga HB.out.1.size
   have hgg : w3.heap.size < wr.heap.size := HB.out.2.lt
   obtain ⟨t1,lo1,hi1,nl1⟩ := a
   simp only [] at e0 e1 e2' e3 HCC HNX
   obtain ⟨y,hy⟩ : ∃ y,y = cutT t1 lo1 := ⟨_,rfl⟩
   rw [← hy] at HCC HNX
   clear hy
   have hi2 : i < 2 := by omega
   have c0 := fun o => (HB.out.2.alloc o).at (k := i) (v := .int .u64 (sel l i i : Nat)) (by rcases (show i = 0 ∨ i = 1 by omega) with rfl | rfl <;> rfl)
   have f0 := fun o => (HB.out.2.alloc o).free i
   clear h0 h1 h2 h3 hja
   go_wp2_with (go_at_call 21; (with_reducible refine (HCC _).out.mono ?_); rintro e w5 ⟨rfl,rfl⟩)
   go_roundw
   case rel =>
    have hb1 := HB.out.1.setCell (p := ⟨w3.heap.size,i,none⟩) (Nat.le_refl _) (.int .u64 (y : Nat))
    have hc1 := HB.out.2.set (k := i) (.int .u64 (y : Nat))
    rw [HNX.out] at hc1
    exact ⟨i + 1,hlt,by go_num,hb1.alloc hb1.size _,hc1.alloc _⟩
   case measure => simp [intOf]; omega
  ·obtain rfl : i = n := by omega
   have hc := HB.out.2
   rw [HSE.out 0,HSE.out 1] at hc
   have c0 := hc.at (k := 0) (v := .int .u64 (opn l 0 : Nat)) rfl
   have c1 := hc.at (k := 1) (v := .int .u64 (opn l 1 : Nat)) rfl
   have hgt4 : gt < wr.heap.size := Nat.lt_of_lt_of_le hgt3 HB.out.1.size
   have k4 : wr.cell? ⟨gt,0,none⟩ = some (.int .i64 t) := (HB.out.1.cell (p := ⟨gt,0,none⟩) hgt3).trans k3
   have HRSr := hid (HRS.out.call HB.out.1)
   have HBr := hid (HBW.out.trans (HB.out.1.mono HBW.out.size))
   have HRW := HRR wr (HGL.out.next HBr.out)
   clear hc HB HST HRS HBW k3
   go_upto_region 15 with (go_at_call 22; (with_reducible refine HRW.out.mono ?_); rintro e w5 ⟨rfl,hb5⟩; have HB5 := hid hb5; clear hb5)
   have k5 : w5.cell? ⟨gt,0,none⟩ = some (.int .i64 t) := (HB5.out.cell (p := ⟨gt,0,none⟩) hgt4).trans k4
   have hJ5 := HRSr.out.call HB5.out
   have hB5 := HBr.out.trans (HB5.out.mono HBr.out.size)
   clear HRSr HBr HB5 k4 c0 c1 HRW
   by_cases hez : e2 = 0
   ·subst hez
    have dz : (((0 : Nat) : Int) != 0) = false := rfl
    go_upto_region 17 with fail
    have hS : Below w.heap.size w w5.drew ∧ w5.drew.cell? ⟨gt,0,none⟩ = some (.int .i64 t) := ⟨hB5.drew,k5⟩
    have HJW : CA w.heap.size #[.int .i64 0,.int .u64 0,.int .u64 0,.bool false] 33 w5.drew := hJ5.drew
    clear k5 hJ5 hB5
    refine wp_region_held_drew (S := fun W => Below w.heap.size w W ∧ W.cell? ⟨gt,0,none⟩ = some (.int .i64 t)) (by kernel_rfl) hS (fun _ => ?_)
    generalize w5.drew = W at *
    refine zt 0 (.slice (some ⟨gt,0,none⟩) 1 ct) rfl ?_ ?_
    ·(intro W hSw; have x0 := hSw.2; go_simp; try (with_reducible rfl))
    try simp only [Act.put,sl2,sl0,sl1]
    refine zt 1 (.pointer (some ⟨gt,0,none⟩)) rfl ?_ ?_
    ·(intro W hSw; have x0 := hSw.2; go_simp; try (with_reducible rfl))
    try simp only [Act.put,sl2,sl0,sl1]
    refine zt 2 (.int .i64 t) rfl ?_ ?_
    ·(intro W hSw; have x0 := hSw.2; go_simp; try (with_reducible rfl))
    try simp only [Act.put,sl2,sl0,sl1]
    refine zt 3 (.slice (some ⟨gt,0,none⟩) 1 ct) rfl ?_ ?_
    ·(intro W hSw; have x0 := hSw.2; go_simp; try (with_reducible rfl))
    try simp only [Act.put,sl2,sl0,sl1]
    refine zt 4 (.pointer (some ⟨gt,0,none⟩)) rfl ?_ ?_
    ·(intro W hSw; have x0 := hSw.2; go_simp; try (with_reducible rfl))
    try simp only [Act.put,sl2,sl0,sl1]
    refine zt 5 (.int .i64 t) rfl ?_ ?_
    ·(intro W hSw; have x0 := hSw.2; go_simp; try (with_reducible rfl))
    try simp only [Act.put,sl2,sl0,sl1]
    refine zt 6 (.int .u64 x) rfl ?_ ?_
    ·(intro W hSw; have x0 := hSw.2; go_simp; try (with_reducible rfl))
    try simp only [Act.put,sl2,sl0,sl1]
    refine zr 7 rfl (fun K hK => ?_)
    go_simp
    go_at_call 21
    (with_reducible refine (HCX _).out.mono ?_)
    rintro e W1 ⟨rfl,rfl⟩
    refine hK.out _ _ hS (fun _ => ?_)
    clear hK K
    try simp only [Act.put,sl2,sl0,sl1]
    refine zt 8 (.agg #[.int .i64 t,.int .u64 (CT : Nat),.int .u64 0,.bool false]) rfl ?_ ?_
    ·(intro W hSw; have x0 := hSw.2; go_simp; try (with_reducible rfl))
    try simp only [Act.put,sl2,sl0,sl1]
    refine zr 9 rfl (fun K hK => ?_)
    have r0 := HJW.at (k := 0) (v := .int .i64 0) rfl
    have r1 := HJW.at (k := 1) (v := .int .u64 0) rfl
    have r2 := HJW.at (k := 2) (v := .int .u64 0) rfl
    have r3 := HJW.at (k := 3) (v := .bool false) rfl
    have f0 := HJW.free 0
    have f1 := HJW.free 1
    have f2 := HJW.free 2
    have f3 := HJW.free 3
    go_simp
    clear r0 r1 r2 r3 f0 f1 f2 f3
    have hS2 : Below w.heap.size w ((((W.setCell ⟨w.heap.size,0,none⟩ (.int .i64 t)).setCell ⟨w.heap.size,1,none⟩ (.int .u64 (CT : Nat))).setCell ⟨w.heap.size,2,none⟩ (.int .u64 0)).setCell ⟨w.heap.size,3,none⟩ (.bool false)) ∧ ((((W.setCell ⟨w.heap.size,0,none⟩ (.int .i64 t)).setCell ⟨w.heap.size,1,none⟩ (.int .u64 (CT : Nat))).setCell ⟨w.heap.size,2,none⟩ (.int .u64 0)).setCell ⟨w.heap.size,3,none⟩ (.bool false)).cell? ⟨gt,0,none⟩ = some (.int .i64 t) := And.intro ((((hS.1.setCell (p := ⟨w.heap.size,0,none⟩) (Nat.le_refl _) (.int .i64 t)).setCell (p := ⟨w.heap.size,1,none⟩) (Nat.le_refl _) (.int .u64 (CT : Nat))).setCell (p := ⟨w.heap.size,2,none⟩) (Nat.le_refl _) (.int .u64 0)).setCell (p := ⟨w.heap.size,3,none⟩) (Nat.le_refl _) (.bool false)) (by rw [cell_far hne,cell_far hne,cell_far hne,cell_far hne]; exact hS.2)
    have HJ2 := (((HJW.set (k := 0) (.int .i64 t)).set (k := 1) (.int .u64 (CT : Nat))).set (k := 2) (.int .u64 0)).set (k := 3) (.bool false)
    clear hS HJW
    have hS := hS2
    have HJW := HJ2
    clear hS2 HJ2
    generalize (((W.setCell ⟨w.heap.size,0,none⟩ (.int .i64 t)).setCell ⟨w.heap.size,1,none⟩ (.int .u64 (CT : Nat))).setCell ⟨w.heap.size,2,none⟩ (.int .u64 0)).setCell ⟨w.heap.size,3,none⟩ (.bool false) = W3 at *
    refine hK.out _ _ hS (fun _ => ?_)
    clear hK K
    try simp only [Act.put,sl2,sl0,sl1]
    refine zt 10 (.int .i64 0) rfl ?_ ?_
    ·(intro W hSw; have x0 := hSw.2; go_simp; try (with_reducible rfl))
    try simp only [Act.put,sl2,sl0,sl1]
    refine wpAnyH_done (by kernel_rfl) ?_ _
    have r0 := HJW.at (k := 0) (v := .int .i64 t) rfl
    have r1 := HJW.at (k := 1) (v := .int .u64 (CT : Nat)) rfl
    have r2 := HJW.at (k := 2) (v := .int .u64 0) rfl
    have r3 := HJW.at (k := 3) (v := .bool false) rfl
    go_wp2_with fail
    exact bodyPost_ret (v := .tuple #[.agg #[.int .i64 t,.int .u64 (CT : Nat),.int .u64 0,.bool false],.int .i64 0]) (by simp [results,Tryz.results8,go_sem,r0,r1,r2,r3]) rfl ⟨by rw [HD0.out]; rfl,hS.1⟩
   ·have dz : ((e2 : Int) != 0) = true := by simp; omega
    have r0 := hJ5.at (k := 0) (v := .int .i64 0) rfl
    have r1 := hJ5.at (k := 1) (v := .int .u64 0) rfl
    have r2 := hJ5.at (k := 2) (v := .int .u64 0) rfl
    have r3 := hJ5.at (k := 3) (v := .bool false) rfl
    have f0 := hJ5.free 0
    have f1 := hJ5.free 1
    have f2 := hJ5.free 2
    have f3 := hJ5.free 3
    clear k5
    go_wp2_with fail
    have hJ6 := (((hJ5.set (k := 0) (.int .i64 0)).set (k := 1) (.int .u64 0)).set (k := 2) (.int .u64 0)).set (k := 3) (.bool false)
    have hB6 := (((hB5.setCell (p := ⟨w.heap.size,0,none⟩) (Nat.le_refl _) (.int .i64 0)).setCell (p := ⟨w.heap.size,1,none⟩) (Nat.le_refl _) (.int .u64 0)).setCell (p := ⟨w.heap.size,2,none⟩) (Nat.le_refl _) (.int .u64 0)).setCell (p := ⟨w.heap.size,3,none⟩) (Nat.le_refl _) (.bool false)
    exact bodyPost_ret (v := .tuple #[.agg #[.int .i64 0,.int .u64 0,.int .u64 0,.bool false],.int .i64 e2]) (by simp [results,Tryz.results8,go_sem,r0,r1,r2,r3]) rfl ⟨by rw [HDE.out hez]; rfl,hB6⟩
end Go.Proofs.YtbbmbhcbncenaaaGreatDoor.Sc
namespace Go.Proofs.YtbbmbhcbncenaaaGreatDoor.Sc
open Go.RowKit
def t0 (l : List Av) : Int := (l.headD (0,0,0,false)).1
end Go.Proofs.YtbbmbhcbncenaaaGreatDoor.Sc
namespace Go.Proofs.YtbbmbhcbncenaaaGreatDoor.Sc
open Go.RowKit
theorem wp_append_val {w : World} {o : Oper} {a : Act} {K : Act → World → Prop} {Q : Exit → Act → World → Prop} (s x : Operand)
  (ho : o.op = .call { callee := .builtin .append,args := #[s,x],argTypes := #[30,30] }) (base : Nat) (v : Value) (n : Nat) (xs : List Value) (t lo hi : Int) (nl : Bool)
  (hown : w.ownsRow base 33 4 v n xs) (hbase : base ≤ w.heap.size) (hn : n + 1 ≤ 1000) (hs : a.eval s = v) (hx : a.eval x = .slice (some ⟨w.heap.size,0,none⟩) 1 1)
  (h : ∀ v' w',w'.ownsRow base 33 4 v' (n + 1) (xs ++ [.int .i64 t,.int .u64 lo,.int .u64 hi,.bool nl]) → Below base w w' → base ≤ w'.heap.size → K (a.put o.dst v') w') :
  o.wp Tryz.prog a (w.alloc (.cells #[.int .i64 t,.int .u64 lo,.int .u64 hi,.bool nl] 33)) K Q := by
 obtain ⟨i0,hi0,hz0,hz1,hz2⟩ := info_parts info24
 have hb1 := (Below.refl base w).alloc hbase (.cells #[.int .i64 t,.int .u64 lo,.int .u64 hi,.bool nl] 33)
 refine wp_append_own _ s x 30 ho base 33 i0 _ 4 32 Tryz.underlying30 hi0 hz0 hz1 hz2 rfl (by decide) v n xs hs (hown.alloc _) ⟨w.heap.size,0,none⟩ 1 1 [.int .i64 t,.int .u64 lo,.int .u64 hi,.bool nl] hx rfl (cell_four_new _ _ _ _ _ _)
  (fun u hu => by simp at hu; rcases hu with rfl | rfl | rfl | rfl <;> rfl) (by unfold maxLen; omega) (by omega) (by simp; omega) ?_
 intro v' w1 hown' hgrow _
 exact h v' w1 hown' (hb1.grown hgrow (by simp; omega) (fun k hk => (hown.lt k hk).1)) (by have := hgrow.size; simp at this; omega)
def argL (tys : List Int) (a b : Nat) : List Av := match tys with
 | [t0] => [(t0,a,0,false)]
 | [t0,t1] => [(t0,a,0,false),(t1,b,0,false)]
 | _ => []
structure Row (op ro : Int) (nm : List UInt8) (im : Int) (tk lv : List UInt8) (fx : Bool) (tys : List Int) (t : Int) : Prop where
 rng : (69 ≤ op ∧ op ≤ 196) ∨ (64512 ≤ op ∧ op ≤ 64519)
 of : ofL op = (ro,nm,im,tk,lv,fx)
 ro0 : 0 ≤ ro
 n4 : 4 ≤ nm.length
 n3 : nm.length ≤ 1000
 tk1 : tyL tk = tys
 lv1 : tyL lv = [t]
 l1 : 1 ≤ tys.length
 l2 : tys.length ≤ 2
 ne : (tys.all fun x => x != 123) = true
 tne : t ≠ 123
theorem flat_next (l : List Av) (i : Nat) (a : Av) (h : l[i]? = some a) : (l.take (i + 1)).flatMap avc = (l.take i).flatMap avc ++ avc a := by
 rw [List.take_add_one,h,List.flatMap_append]
 simp
theorem AR.of_own {w : World} {base : Nat} {v : Value} (l : List Av) (h1 : 1 ≤ l.length) (h2 : l.length ≤ 2) (h : w.ownsRow base 33 4 v l.length (l.flatMap avc)) : AR w v l := by
 match l,h1,h2 with
 | [a],_,_ => exact AR.of1 (by simpa using h)
 | [a,b],_,_ => exact AR.of2 (by simpa using h)
theorem Row.prog {op ro : Int} {nm : List UInt8} {im : Int} {tk lv : List UInt8} {fx : Bool} {tys : List Int} {t : Int} (P : Row op ro nm im tk lv fx tys t) (l : List Av) (hl : l.map (·.1) = tys) (x e2 : Nat)
  (HR : AnsG 22 #[.int .i64 op,.int .u64 (opn l 0 : Nat),.int .u64 (opn l 1 : Nat)] (.tuple #[.int .u64 (x : Nat),.int .i64 (e2 : Nat)])) (W : World) (va : Value) (hg : GlobF W) (ha : AR W va l) :
  Calls Tryz.prog 8 #[.int .i64 op,.slice none 0 0,va] W fun e w' => e = .returned (.tuple #[doV t x e2,.int .i64 e2]) ∧ Below W.heap.size W w' := by
 obtain ⟨_,_,_,_,g1,g2,_,_,_⟩ := agree_parts op P.of
 have hlen : l.length = tys.length := by rw [← hl,List.length_map]
 exact SDo_says op P.rng l (by rw [hlen]; exact P.l1) (by rw [hlen]; exact P.l2) (by rw [g1,P.tk1,hl]) t (by rw [g2,P.lv1]) va W hg ha x e2 HR
end Go.Proofs.YtbbmbhcbncenaaaGreatDoor.Sc
namespace Go.Proofs.YtbbmbhcbncenaaaGreatDoor.Sc
open Go.RowKit
theorem cutT_lt (t : Int) (n : Nat) (h : n < 18446744073709551616) : cutT t n < 18446744073709551616 := by
 unfold cutT; split <;> omega
noncomputable def nm7 (op : Int) : List UInt8 := (ofL op).2.1
noncomputable def rowB (op : Int) (tys : List Int) (t : Int) : Bool :=
 (decide (69 ≤ op ∧ op ≤ 196) || decide (64512 ≤ op ∧ op ≤ 64519)) && decide (0 ≤ (ofL op).1) && decide (4 ≤ (nm7 op).length) && decide ((nm7 op).length ≤ 1000) && (tyL (ofL op).2.2.2.1 == tys) && (tyL (ofL op).2.2.2.2.1 == [t]) && decide (1 ≤ tys.length) && decide (tys.length ≤ 2) && (tys.all fun x => x != 123) && decide (t ≠ 123)
theorem row_of (op : Int) (tys : List Int) (t : Int) (h : rowB op tys t = true) : ∃ ro im tk lv fx,Row op ro (nm7 op) im tk lv fx tys t := by
 unfold rowB at h
 obtain ⟨⟨ro,nm,im,tk,lv,fx⟩,hr⟩ : ∃ r,ofL op = r := ⟨_,rfl⟩
 have hn : nm7 op = nm := by unfold nm7; rw [hr]
 rw [hn] at h ⊢
 rw [hr] at h
 simp only [Bool.and_eq_true,Bool.or_eq_true,decide_eq_true_eq,beq_iff_eq] at h
 obtain ⟨⟨⟨⟨⟨⟨⟨⟨⟨a1,a2⟩,a3⟩,a4⟩,a5⟩,a6⟩,a7⟩,a8⟩,a9⟩,a10⟩ := h
 exact ⟨ro,im,tk,lv,fx,a1,hr,a2,a3,a4,a5,a6,a7,a8,a9,a10⟩
theorem ans_eq {f : FuncId} {args : Array Value} {r : Value} (h : ∀ W : World,Calls Tryz.prog f args W fun e w' => e = .returned r ∧ W = w') : Ans f args r := fun W => (h W).mono fun e w' ⟨he,hw⟩ => ⟨he,hw ▸ Below.refl _ _⟩
end Go.Proofs.YtbbmbhcbncenaaaGreatDoor.Sc
namespace Go.Proofs.YtbbmbhcbncenaaaGreatDoor.Sc
open Go.RowKit
theorem con_same (op : Int) (h : op = 167 ∨ op = 173 ∨ (188 ≤ op ∧ op < 192)) (a : Nat) : Ans 37 #[.int .i64 op,.int .u64 a] (.tuple #[.int .u64 (a : Nat),.int .i64 0]) := fun w => by
 obtain ⟨b1,d1⟩ : ∃ b,(op == 167) = b := ⟨_,rfl⟩
 obtain ⟨b2,d2⟩ : ∃ b,(op == 173) = b := ⟨_,rfl⟩
 obtain ⟨b3,d3⟩ : ∃ b,decide (188 ≤ op) = b := ⟨_,rfl⟩
 have hb : b1 = true ∨ (b1 = false ∧ b2 = true) ∨ (b1 = false ∧ b2 = false ∧ b3 = true) := by
  rw [← d1,← d2,← d3]
  simp
  omega
 clear h
 rcases hb with rfl | ⟨rfl,rfl⟩ | ⟨rfl,rfl,rfl⟩
 all_goals
  go_enter Tryz.func37,Tryz.ntmps37
  go_wp2
  go_ret2
  exact ⟨rfl,Below.refl _ _⟩
theorem Num_68 (w : World) : Calls Tryz.prog 6 #[.int .i64 68] w fun e w' => e = .returned (.bool false) ∧ w = w' := by
 go_enter Tryz.func6,Tryz.ntmps6
 go_wp2
 go_ret
 exact ⟨rfl,rfl⟩
theorem Num_69 (w : World) : Calls Tryz.prog 6 #[.int .i64 69] w fun e w' => e = .returned (.bool true) ∧ w = w' := Num_says 69 (.inl ⟨by decide,by decide⟩) w
theorem ar_two (w : World) (t0 t1 : Int) (a b : Nat) : AR (w.alloc (.cells #[.int .i64 t0,.int .u64 a,.int .u64 0,.bool false,.int .i64 t1,.int .u64 b,.int .u64 0,.bool false] 33)) (.slice (some ⟨w.heap.size,0,none⟩) 2 2) [(t0,a,0,false),(t1,b,0,false)] := by
 have h := CA.new w #[.int .i64 t0,.int .u64 a,.int .u64 0,.bool false,.int .i64 t1,.int .u64 b,.int .u64 0,.bool false] 33
 refine ⟨w.heap.size,2,rfl,h.lt,Nat.le_refl _,fun j x hj => ?_⟩
 match j,hj with
 | 0,hj =>
  obtain rfl : (t0,a,0,false) = x := by simpa using hj
  exact ⟨h.at rfl,h.at rfl,h.at rfl,h.at rfl⟩
 | 1,hj =>
  obtain rfl : (t1,b,0,false) = x := by simpa using hj
  exact ⟨h.at rfl,h.at rfl,h.at rfl,h.at rfl⟩
theorem ar_one (w : World) (t0 : Int) (a : Nat) : AR (w.alloc (.cells #[.int .i64 t0,.int .u64 a,.int .u64 0,.bool false] 33)) (.slice (some ⟨w.heap.size,0,none⟩) 1 1) [(t0,a,0,false)] := by
 have h := CA.new w #[.int .i64 t0,.int .u64 a,.int .u64 0,.bool false] 33
 refine ⟨w.heap.size,1,rfl,h.lt,Nat.le_refl _,fun j x hj => ?_⟩
 match j,hj with
 | 0,hj =>
  obtain rfl : (t0,a,0,false) = x := by simpa using hj
  exact ⟨h.at rfl,h.at rfl,h.at rfl,h.at rfl⟩
theorem Bin_div0 : Ans 68 #[.int .i64 32,.int .i64 4,.int .u64 ((7 : Nat) : Int),.int .u64 ((0 : Nat) : Int)] (.tuple #[.int .u64 ((0 : Nat) : Int),.int .i64 ((41 : Nat) : Int)]) := fun w => by
 have HK : ∀ W : World,Hid (Calls Tryz.prog 75 #[.int .i64 32] W fun e w' => e = .returned (.bool true) ∧ W = w') := fun W => known_yes 32 (by decide) W
 have H7 : ∀ W : World,Hid (Calls Tryz.prog 76 #[.int .i64 32,.int .u64 7] W fun e w' => e = .returned (.int .u64 7) ∧ W = w') := fun W => cut_any 32 (by decide) 7 (by decide) W
 have H0 : ∀ W : World,Hid (Calls Tryz.prog 76 #[.int .i64 32,.int .u64 0] W fun e w' => e = .returned (.int .u64 0) ∧ W = w') := fun W => cut_any 32 (by decide) 0 (by decide) W
 have HD : ∀ W : World,Hid (Calls Tryz.prog 125 #[.int .i64 32,.int .i64 4,.int .u64 7,.int .u64 0] W fun e w' => e = .returned (.tuple #[.int .u64 0,.int .i64 41]) ∧ W = w') := fun W => by
  go_enter Tryz.func125,Tryz.ntmps125
  go_wp2
  go_ret2
  exact ⟨rfl,rfl⟩
 show Calls Tryz.prog 68 #[.int .i64 32,.int .i64 4,.int .u64 7,.int .u64 0] w _
 go_enter Tryz.func68,Tryz.ntmps68
 go_wp2_with (first
  | (go_at_call 75; (with_reducible refine (HK _).out.mono ?_); rintro e w1 ⟨rfl,rfl⟩)
  | (go_at_call 76; (with_reducible refine (H7 _).out.mono ?_); rintro e w2 ⟨rfl,rfl⟩)
  | (go_at_call 76; (with_reducible refine (H0 _).out.mono ?_); rintro e w3 ⟨rfl,rfl⟩)
  | (go_at_call 125; (with_reducible refine (HD _).out.mono ?_); rintro e w4 ⟨rfl,rfl⟩))
 go_ret2
 exact ⟨rfl,Below.refl _ _⟩
theorem row_109 : rowB 109 [127,127] 127 = true := by kernel_rfl
theorem row_167 : rowB 167 [126] 127 = true := by kernel_rfl
theorem Do_109 (W : World) (va : Value) (hg : GlobF W) (ha : AR W va [(127,7,0,false),(127,0,0,false)]) : Calls Tryz.prog 8 #[.int .i64 109,.slice none 0 0,va] W fun e w' => e = .returned (.tuple #[.agg #[.int .i64 0,.int .u64 0,.int .u64 0,.bool false],.int .i64 41]) ∧ Below W.heap.size W w' := by
 obtain ⟨ro,im,tk,lv,fx,P⟩ := row_of 109 [127,127] 127 row_109
 have HB := Bin_div0
 exact P.prog [(127,7,0,false),(127,0,0,false)] rfl 0 41
  (Ans.g (res_com 109 (by decide) (by decide) _ _ _ _ (com_b32 109 4 (by decide) (by decide) (by decide) _ _ _ _ HB))) W va hg ha
theorem Do_167 (W : World) (va : Value) (hg : GlobF W) (ha : AR W va [(126,4294967301,0,false)]) : Calls Tryz.prog 8 #[.int .i64 167,.slice none 0 0,va] W fun e w' => e = .returned (.tuple #[.agg #[.int .i64 127,.int .u64 5,.int .u64 0,.bool false],.int .i64 0]) ∧ Below W.heap.size W w' := by
 obtain ⟨ro,im,tk,lv,fx,P⟩ := row_of 167 [126] 127 row_167
 exact P.prog [(126,4294967301,0,false)] rfl 4294967301 0
  (Ans.g (res_con 167 (by decide) (by decide) 4294967301 0 _ _ (con_same 167 (.inl rfl) 4294967301))) W va hg ha
set_option maxHeartbeats 4000000 in
theorem awake_says (w : World) (hg : GlobF w) : Calls Tryz.prog 4 #[] w fun e w' => e = .returned (.bool true) ∧ Below w.heap.size w w' := by
 have H1 := fun W va h1 h2 => hid (Do_109 W va h1 h2)
 have H2 := fun W va h1 h2 => hid (Do_167 W va h1 h2)
 have N0 := fun W => hid (Num_68 W)
 have N1 := fun W => hid (Num_69 W)
 have HG := hid hg
 clear hg
 go_enter Tryz.func4,Tryz.ntmps4
 have A1 := hid (ar_two w 127 127 7 0)
 have G1 := hid (HG.out.next ((Below.refl _ w).alloc (Nat.le_refl _) (.cells #[.int .i64 127,.int .u64 ((7 : Nat) : Int),.int .u64 0,.bool false,.int .i64 127,.int .u64 ((0 : Nat) : Int),.int .u64 0,.bool false] 33)))
 go_upto_region 2 with (go_at_call 8; refine (H1 _ _ G1.out A1.out).out.mono ?_; rintro e w1 ⟨rfl,hb1⟩; have HB1 := hid (((Below.refl _ w).alloc (Nat.le_refl _) _).trans (hb1.mono (by rw [size_al]; omega))); clear hb1)
 have HB2 := hid (HB1.out.alloc HB1.out.size (.cells #[.int .i64 0,.int .u64 0,.int .u64 0,.bool false] 33))
 generalize w1.alloc (.cells #[.int .i64 0,.int .u64 0,.int .u64 0,.bool false] 33) = W2 at *
 clear A1 G1 HB1
 have A2 := hid (ar_one W2 126 4294967301)
 have G2 := hid ((HG.out.next HB2.out).next ((Below.refl _ W2).alloc (Nat.le_refl _) (.cells #[.int .i64 126,.int .u64 ((4294967301 : Nat) : Int),.int .u64 0,.bool false] 33)))
 go_upto_region 3 with (go_at_call 8; refine (H2 _ _ G2.out A2.out).out.mono ?_; rintro e w3 ⟨rfl,hb3⟩; have HB3 := hid ((HB2.out.alloc HB2.out.size _).trans (hb3.mono (by have := HB2.out.size; rw [size_al]; omega))); clear hb3)
 have HB4 := hid (HB3.out.alloc HB3.out.size (.cells #[.int .i64 127,.int .u64 5,.int .u64 0,.bool false] 33))
 have HC := CA.new w3 #[.int .i64 127,.int .u64 5,.int .u64 0,.bool false] 33
 generalize w3.alloc (.cells #[.int .i64 127,.int .u64 5,.int .u64 0,.bool false] 33) = W4 at *
 generalize w3.heap.size = g4 at *
 have x0 := HC.at (k := 0) (v := .int .i64 127) rfl
 have x1 := HC.at (k := 1) (v := .int .u64 5) rfl
 have x2 := HC.at (k := 2) (v := .int .u64 0) rfl
 have x3 := HC.at (k := 3) (v := .bool false) rfl
 clear A2 G2 HB3 HC HG HB2
 go_wp2_with (first
  | (go_at_call 6; (with_reducible refine (N1 _).out.mono ?_); rintro e w5 ⟨rfl,rfl⟩)
  | (go_at_call 6; (with_reducible refine (N0 _).out.mono ?_); rintro e w6 ⟨rfl,rfl⟩))
 go_ret
 exact ⟨rfl,HB4.out⟩
end Go.Proofs.YtbbmbhcbncenaaaGreatDoor.Sc
namespace Go.Proofs.YtbbmbhcbncenaaaGreatDoor
open Go.RowKit
theorem sub_sat_u (n : Nat) (hn : Okn n) (a b : Nat) (ha : a < 2 ^ n) (w : World) :
  Calls Tryz.prog 127 #[.int .i64 n,.int .i64 19,.int .u64 a,.int .u64 b] w (Cuts n (satR n 19 a b) w) := by
 obtain ⟨h1,h2,h3,h4⟩ := pow_lt64 hn
 have HA := hid ha
 have H3 := hid h3
 clear h1 h2 h3 h4 hn ha
 go_enter Tryz.func127,Tryz.ntmps127
 go_wp2
 all_goals
  go_ret
  have := HA.out
  have := H3.out
  refine cuts_nat (v := a - b) (by rw [IntKind.wrap_u64]; omega) (by omega) ?_
  rw [satR,if_neg (by decide),if_neg (by decide),if_neg (by decide),Nat.mod_eq_of_lt (by omega)]
theorem add_sat_u (n : Nat) (hn : Okn n) (a b : Nat) (ha : a < 2 ^ n) (hb : b < 2 ^ n) (w : World) :
  Calls Tryz.prog 127 #[.int .i64 n,.int .i64 17,.int .u64 a,.int .u64 b] w (Cuts n (satR n 17 a b) w) := by
 obtain ⟨h1,h2,h3,h4⟩ := pow_lt64 hn
 have HO := hid (ones_any n hn w)
 obtain ⟨O,hO⟩ : ∃ O : Nat,O = 2 ^ n - 1 := ⟨_,rfl⟩
 rw [← hO] at HO
 have hw : IntKind.u64.wrap ((O : Int) - (a : Int)) = ((O - a : Nat) : Int) := by rw [IntKind.wrap_u64]; omega
 obtain ⟨d,hd⟩ : ∃ d : Nat,d = O - a := ⟨_,rfl⟩
 rw [← hd] at hw
 have HA := hid (show O = 2 ^ n - 1 ∧ d = O - a ∧ a < 2 ^ n ∧ b < 2 ^ n ∧ 2 ^ n ≤ 18446744073709551616 from ⟨hO,hd,ha,hb,h3⟩)
 clear h1 h2 h3 h4 hn ha hb hO hd
 go_enter Tryz.func127,Tryz.ntmps127
 go_wp2_with (go_at_call 139; refine HO.out.mono ?_; rintro e w' ⟨rfl,rfl⟩)
 all_goals
  go_ret
  obtain ⟨hO,hd,ha,hb,h3⟩ := HA.out
  refine cuts_nat (v := satR n 17 a b) ?_ ?_ ?_
  all_goals
   rw [satR,if_neg (by decide),if_neg (by decide),if_pos rfl]
   try rw [IntKind.wrap_u64]
   split
  all_goals first | omega | (rw [Nat.mod_eq_of_lt (by omega)])
set_option maxHeartbeats 800000 in
theorem add_sat_s (n : Nat) (hn : Okn n) (a b : Nat) (ha : a < 2 ^ n) (hb : b < 2 ^ n) (w : World) :
  Calls Tryz.prog 127 #[.int .i64 n,.int .i64 16,.int .u64 a,.int .u64 b] w (Cuts n (satR n 16 a b) w) := by
 obtain ⟨h1,h2,h3,h4⟩ := pow_lt64 hn
 have HS := hid (sign_any n hn w)
 obtain ⟨s,hs⟩ : ∃ s : Nat,s = (a + b) % 18446744073709551616 := ⟨_,rfl⟩
 have hsl : s < 18446744073709551616 := by omega
 have hw : IntKind.u64.wrap ((a : Int) + (b : Int)) = (s : Int) := by rw [IntKind.wrap_u64]; omega
 have hww := wrap_nat hsl
 have hx := bits_xor_u64_nat a s (by omega) hsl
 have hy := bits_xor_u64_nat b s (by omega) hsl
 have hxl : a ^^^ s < 18446744073709551616 := Nat.xor_lt_two_pow (n := 64) (by omega) hsl
 have hyl : b ^^^ s < 18446744073709551616 := Nat.xor_lt_two_pow (n := 64) (by omega) hsl
 have hz := bits_and_u64_nat _ _ hxl hyl
 have hzl : (a ^^^ s) &&& (b ^^^ s) < 18446744073709551616 := Nat.and_lt_two_pow (n := 64) _ hyl
 have HT := negative_any n hn _ hzl _ (sat_bits (b := b) hn) w
 have HNa := negative_any n hn a (by omega) _ (testBit_top hn ha) w
 have hin := add_in hn ha hb
 have hout := add_out hn ha hb
 rw [← hs] at hin hout
 rw [satR,if_pos rfl]
 obtain ⟨x,hxe⟩ : ∃ x : Nat,x = a ^^^ s := ⟨_,rfl⟩
 obtain ⟨y,hye⟩ : ∃ y : Nat,y = b ^^^ s := ⟨_,rfl⟩
 obtain ⟨z,hze⟩ : ∃ z : Nat,z = x &&& y := ⟨_,rfl⟩
 rw [← hxe] at hx hz HT
 rw [← hye] at hy hz HT
 rw [← hze] at hz HT
 by_cases hc : ¬ (2 ^ (n - 1) ≤ a % 2 ^ n ↔ 2 ^ (n - 1) ≤ s % 2 ^ n) ∧ ¬ (2 ^ (n - 1) ≤ b % 2 ^ n ↔ 2 ^ (n - 1) ≤ s % 2 ^ n)
 ·simp only [hc,not_false_eq_true,and_self,decide_true] at HT
  have hr := hout hc
  obtain ⟨R,hR⟩ : ∃ R : Nat,R = toN n (clampS n (sg n a + sg n b)) := ⟨_,rfl⟩
  rw [← hR] at hr ⊢
  obtain ⟨S,hS⟩ : ∃ S : Nat,S = 2 ^ (n - 1) := ⟨_,rfl⟩
  rw [← hS] at HS hr HNa
  have hS1 : IntKind.u64.wrap ((S : Int) - 1) = ((S - 1 : Nat) : Int) := by rw [IntKind.wrap_u64]; omega
  have hRl : S - 1 < 18446744073709551616 ∧ S < 18446744073709551616 ∧ S < 2 ^ n := ⟨by omega,by omega,by omega⟩
  have HRl := hid hRl
  have HT2 := hid HT
  by_cases hca : S ≤ a
  ·simp only [hca,decide_true] at HNa
   rw [if_pos hca] at hr
   have HN2 := hid HNa
   have HR := hid hr
   clear hr h1 h2 h3 h4 hs hin hout hc HT HNa hxe hye hze hxl hyl hzl hS hRl hn ha hb hR hca hsl
   go_enter Tryz.func127,Tryz.ntmps127
   go_wp2_with (first
    | (go_at_call 140; ((with_reducible refine HT2.out.mono ?_); rintro e w' ⟨rfl,rfl⟩))
    | (go_at_call 140; ((with_reducible refine HN2.out.mono ?_); rintro e w' ⟨rfl,rfl⟩))
    | (go_at_call 119; refine HS.out.mono ?_; rintro e w' ⟨rfl,rfl⟩))
   go_ret
   exact cuts_nat (v := S) rfl HRl.out.2.1 (by rw [← HR.out]; exact Nat.mod_eq_of_lt HRl.out.2.2)
  ·simp only [hca,decide_false] at HNa
   rw [if_neg hca] at hr
   have HN2 := hid HNa
   have HR := hid hr
   clear hr h1 h2 h3 h4 hs hin hout hc HT HNa hxe hye hze hxl hyl hzl hS hRl hn ha hb hR hca hsl
   go_enter Tryz.func127,Tryz.ntmps127
   go_wp2_with (first
    | (go_at_call 140; ((with_reducible refine HT2.out.mono ?_); rintro e w' ⟨rfl,rfl⟩))
    | (go_at_call 140; ((with_reducible refine HN2.out.mono ?_); rintro e w' ⟨rfl,rfl⟩))
    | (go_at_call 119; refine HS.out.mono ?_; rintro e w' ⟨rfl,rfl⟩))
   go_ret
   exact cuts_nat (v := S - 1) rfl HRl.out.1 (by rw [← HR.out]; exact Nat.mod_eq_of_lt (by have := HRl.out.2.2; omega))
 ·simp only [hc,decide_false] at HT
  have hr := hin hc
  obtain ⟨R,hR⟩ : ∃ R : Nat,R = toN n (clampS n (sg n a + sg n b)) := ⟨_,rfl⟩
  rw [← hR] at hr ⊢
  have HT2 := hid HT
  have HL := hid hsl
  have HR := hid hr
  clear h1 h2 h3 h4 hs hin hout hc HT HNa hxe hye hze hxl hyl hzl hn ha hb hR hsl hr
  go_enter Tryz.func127,Tryz.ntmps127
  go_wp2_with (go_at_call 140; ((with_reducible refine HT2.out.mono ?_); rintro e w' ⟨rfl,rfl⟩))
  go_ret
  exact cuts_nat (v := s) rfl HL.out HR.out
set_option maxHeartbeats 800000 in
theorem sub_sat_s (n : Nat) (hn : Okn n) (a b : Nat) (ha : a < 2 ^ n) (hb : b < 2 ^ n) (w : World) :
  Calls Tryz.prog 127 #[.int .i64 n,.int .i64 18,.int .u64 a,.int .u64 b] w (Cuts n (satR n 18 a b) w) := by
 obtain ⟨h1,h2,h3,h4⟩ := pow_lt64 hn
 have HS := hid (sign_any n hn w)
 have hmx := xor_max b (by omega)
 obtain ⟨c,hcb⟩ : ∃ c : Nat,c = 18446744073709551615 - b := ⟨_,rfl⟩
 rw [← hcb] at hmx
 obtain ⟨s0,hs0⟩ : ∃ s : Nat,s = (a + c) % 18446744073709551616 := ⟨_,rfl⟩
 have hw0 : IntKind.u64.wrap ((a : Int) + (c : Int)) = (s0 : Int) := by rw [IntKind.wrap_u64]; omega
 obtain ⟨s,hs⟩ : ∃ s : Nat,s = (a + c + 1) % 18446744073709551616 := ⟨_,rfl⟩
 have hsl : s < 18446744073709551616 := by omega
 have hw : IntKind.u64.wrap ((s0 : Int) + 1) = (s : Int) := by rw [IntKind.wrap_u64]; omega
 have hx := bits_xor_u64_nat a s (by omega) hsl
 have hy := bits_xor_u64_nat c s (by omega) hsl
 have hxl : a ^^^ s < 18446744073709551616 := Nat.xor_lt_two_pow (n := 64) (by omega) hsl
 have hyl : c ^^^ s < 18446744073709551616 := Nat.xor_lt_two_pow (n := 64) (by omega) hsl
 have hz := bits_and_u64_nat _ _ hxl hyl
 have hzl : (a ^^^ s) &&& (c ^^^ s) < 18446744073709551616 := Nat.and_lt_two_pow (n := 64) _ hyl
 have HT := negative_any n hn _ hzl _ (sat_bits (b := c) hn) w
 have HNa := negative_any n hn a (by omega) _ (testBit_top hn ha) w
 have hin := sub_in hn ha hb hcb
 have hout := sub_out hn ha hb hcb
 rw [← hs] at hin hout
 rw [satR,if_neg (by decide),if_pos rfl]
 obtain ⟨x,hxe⟩ : ∃ x : Nat,x = a ^^^ s := ⟨_,rfl⟩
 obtain ⟨y,hye⟩ : ∃ y : Nat,y = c ^^^ s := ⟨_,rfl⟩
 obtain ⟨z,hze⟩ : ∃ z : Nat,z = x &&& y := ⟨_,rfl⟩
 rw [← hxe] at hx hz HT
 rw [← hye] at hy hz HT
 rw [← hze] at hz HT
 by_cases hc : ¬ (2 ^ (n - 1) ≤ a % 2 ^ n ↔ 2 ^ (n - 1) ≤ s % 2 ^ n) ∧ ¬ (2 ^ (n - 1) ≤ c % 2 ^ n ↔ 2 ^ (n - 1) ≤ s % 2 ^ n)
 ·simp only [hc,not_false_eq_true,and_self,decide_true] at HT
  have hr := hout hc
  obtain ⟨R,hR⟩ : ∃ R : Nat,R = toN n (clampS n (sg n a - sg n b)) := ⟨_,rfl⟩
  rw [← hR] at hr ⊢
  obtain ⟨S,hS⟩ : ∃ S : Nat,S = 2 ^ (n - 1) := ⟨_,rfl⟩
  rw [← hS] at HS hr HNa
  have hS1 : IntKind.u64.wrap ((S : Int) - 1) = ((S - 1 : Nat) : Int) := by rw [IntKind.wrap_u64]; omega
  have hRl : S - 1 < 18446744073709551616 ∧ S < 18446744073709551616 ∧ S < 2 ^ n := ⟨by omega,by omega,by omega⟩
  have HRl := hid hRl
  have HT2 := hid HT
  by_cases hca : S ≤ a
  ·simp only [hca,decide_true] at HNa
   rw [if_pos hca] at hr
   have HN2 := hid HNa
   have HR := hid hr
   clear hr hcb hs0 h1 h2 h3 h4 hs hin hout hc HT HNa hxe hye hze hxl hyl hzl hS hRl hn ha hb hR hca hsl
   go_enter Tryz.func127,Tryz.ntmps127
   go_wp2_with (first
    | (go_at_call 140; ((with_reducible refine HT2.out.mono ?_); rintro e w' ⟨rfl,rfl⟩))
    | (go_at_call 140; ((with_reducible refine HN2.out.mono ?_); rintro e w' ⟨rfl,rfl⟩))
    | (go_at_call 119; refine HS.out.mono ?_; rintro e w' ⟨rfl,rfl⟩))
   go_ret
   exact cuts_nat (v := S) rfl HRl.out.2.1 (by rw [← HR.out]; exact Nat.mod_eq_of_lt HRl.out.2.2)
  ·simp only [hca,decide_false] at HNa
   rw [if_neg hca] at hr
   have HN2 := hid HNa
   have HR := hid hr
   clear hr hcb hs0 h1 h2 h3 h4 hs hin hout hc HT HNa hxe hye hze hxl hyl hzl hS hRl hn ha hb hR hca hsl
   go_enter Tryz.func127,Tryz.ntmps127
   go_wp2_with (first
    | (go_at_call 140; ((with_reducible refine HT2.out.mono ?_); rintro e w' ⟨rfl,rfl⟩))
    | (go_at_call 140; ((with_reducible refine HN2.out.mono ?_); rintro e w' ⟨rfl,rfl⟩))
    | (go_at_call 119; refine HS.out.mono ?_; rintro e w' ⟨rfl,rfl⟩))
   go_ret
   exact cuts_nat (v := S - 1) rfl HRl.out.1 (by rw [← HR.out]; exact Nat.mod_eq_of_lt (by have := HRl.out.2.2; omega))
 ·simp only [hc,decide_false] at HT
  have hr := hin hc
  obtain ⟨R,hR⟩ : ∃ R : Nat,R = toN n (clampS n (sg n a - sg n b)) := ⟨_,rfl⟩
  rw [← hR] at hr ⊢
  have HT2 := hid HT
  have HL := hid hsl
  have HR := hid hr
  clear hcb hs0 h1 h2 h3 h4 hs hin hout hc HT HNa hxe hye hze hxl hyl hzl hn ha hb hR hsl hr
  go_enter Tryz.func127,Tryz.ntmps127
  go_wp2_with (go_at_call 140; ((with_reducible refine HT2.out.mono ?_); rintro e w' ⟨rfl,rfl⟩))
  go_ret
  exact cuts_nat (v := s) rfl HL.out HR.out
theorem saturated_any (n : Nat) (hn : Okn n) (op : Nat) (h1 : 16 ≤ op) (h2 : op ≤ 19) (a b : Nat) (ha : a < 2 ^ n) (hb : b < 2 ^ n) (w : World) :
  Calls Tryz.prog 127 #[.int .i64 n,.int .i64 op,.int .u64 a,.int .u64 b] w (Cuts n (satR n op a b) w) := by
 have hop : op = 16 ∨ op = 17 ∨ op = 18 ∨ op = 19 := by omega
 rcases hop with rfl | rfl | rfl | rfl
 ·exact add_sat_s n hn a b ha hb w
 ·exact add_sat_u n hn a b ha hb w
 ·exact sub_sat_s n hn a b ha hb w
 ·exact sub_sat_u n hn a b ha w
theorem mm_s (n : Nat) (hn : Okn n) (op : Nat) (hop : op = 20 ∨ op = 22) (a b : Nat) (ha : a < 2 ^ n) (hb : b < 2 ^ n) (w : World) :
  Calls Tryz.prog 128 #[.int .i64 n,.int .i64 op,.int .u64 a,.int .u64 b] w (Cuts n (mmR n op a b) w) := by
 obtain ⟨h1,h2,h3,h4⟩ := pow_lt64 hn
 have HS := hid (sign_any n hn w)
 have hx := xor_turned hn ha
 have hy := xor_turned hn hb
 have hx2 := xor_turned hn (turned_lt hn ha)
 have hy2 := xor_turned hn (turned_lt hn hb)
 rw [turned_turned hn ha] at hx2
 rw [turned_turned hn hb] at hy2
 have ea := turned_sg (a := a) hn
 have eb := turned_sg (a := b) hn
 have hj : sg n a = sg n b → a = b := fun h => by rw [← turned_turned hn ha,← turned_turned hn hb]; congr 1; omega
 obtain ⟨S,hS⟩ : ∃ S : Nat,S = 2 ^ (n - 1) := ⟨_,rfl⟩
 obtain ⟨x,hxe⟩ : ∃ x : Nat,x = turned n a := ⟨_,rfl⟩
 obtain ⟨y,hye⟩ : ∃ y : Nat,y = turned n b := ⟨_,rfl⟩
 rw [← hS] at HS hx hy hx2 hy2 ea eb
 rw [← hxe] at hx hx2 ea
 rw [← hye] at hy hy2 eb
 have HA := hid (show a < 2 ^ n ∧ b < 2 ^ n ∧ 2 ^ n ≤ 18446744073709551616 ∧ (x : Int) = sg n a + S ∧ (y : Int) = sg n b + S ∧ (sg n a = sg n b → a = b) from ⟨ha,hb,h3,ea,eb,hj⟩)
 clear h1 h2 h3 h4 ha hb ea eb hj hS hxe hye hn
 rcases hop with rfl | rfl
 ·show Calls Tryz.prog 128 #[.int .i64 n,.int .i64 20,.int .u64 a,.int .u64 b] w _
  go_enter Tryz.func128,Tryz.ntmps128
  go_wp2_with (go_at_call 119; refine HS.out.mono ?_; rintro e w' ⟨rfl,rfl⟩)
  all_goals
   go_ret
   obtain ⟨ha,hb,h3,ea,eb,hj⟩ := HA.out
   refine cuts_nat (v := mmR n 20 a b) ?_ ?_ ?_
   all_goals
    rw [mmR,if_pos rfl]
    split
   all_goals first | rfl | omega | (rw [Nat.mod_eq_of_lt (by omega)])
 ·show Calls Tryz.prog 128 #[.int .i64 n,.int .i64 22,.int .u64 a,.int .u64 b] w _
  go_enter Tryz.func128,Tryz.ntmps128
  go_wp2_with (go_at_call 119; refine HS.out.mono ?_; rintro e w' ⟨rfl,rfl⟩)
  all_goals
   go_ret
   obtain ⟨ha,hb,h3,ea,eb,hj⟩ := HA.out
   refine cuts_nat (v := mmR n 22 a b) ?_ ?_ ?_
   all_goals
    rw [mmR,if_neg (by decide),if_pos rfl]
    split
   all_goals first | rfl | omega | (rw [Nat.mod_eq_of_lt (by omega)])
theorem mm_u (n : Nat) (hn : Okn n) (op : Nat) (hop : op = 21 ∨ op = 23) (a b : Nat) (ha : a < 2 ^ n) (hb : b < 2 ^ n) (w : World) :
  Calls Tryz.prog 128 #[.int .i64 n,.int .i64 op,.int .u64 a,.int .u64 b] w (Cuts n (mmR n op a b) w) := by
 obtain ⟨h1,h2,h3,h4⟩ := pow_lt64 hn
 have hx := xor_zero a (by omega)
 have hy := xor_zero b (by omega)
 have HA := hid (show a < 2 ^ n ∧ b < 2 ^ n ∧ 2 ^ n ≤ 18446744073709551616 from ⟨ha,hb,h3⟩)
 clear h1 h2 h3 h4 ha hb hn
 rcases hop with rfl | rfl
 ·show Calls Tryz.prog 128 #[.int .i64 n,.int .i64 21,.int .u64 a,.int .u64 b] w _
  go_enter Tryz.func128,Tryz.ntmps128
  go_wp2
  all_goals
   go_ret
   obtain ⟨ha,hb,h3⟩ := HA.out
   refine cuts_nat (v := mmR n 21 a b) ?_ ?_ ?_
   all_goals
    rw [mmR,if_neg (by decide),if_neg (by decide),if_pos rfl]
    split
   all_goals first | rfl | omega | (rw [Nat.mod_eq_of_lt (by omega)])
 ·show Calls Tryz.prog 128 #[.int .i64 n,.int .i64 23,.int .u64 a,.int .u64 b] w _
  go_enter Tryz.func128,Tryz.ntmps128
  go_wp2
  all_goals
   go_ret
   obtain ⟨ha,hb,h3⟩ := HA.out
   refine cuts_nat (v := mmR n 23 a b) ?_ ?_ ?_
   all_goals
    rw [mmR,if_neg (by decide),if_neg (by decide),if_neg (by decide)]
    split
   all_goals first | rfl | omega | (rw [Nat.mod_eq_of_lt (by omega)])
theorem chosen_any (n : Nat) (hn : Okn n) (op : Nat) (h1 : 20 ≤ op) (h2 : op ≤ 23) (a b : Nat) (ha : a < 2 ^ n) (hb : b < 2 ^ n) (w : World) :
  Calls Tryz.prog 128 #[.int .i64 n,.int .i64 op,.int .u64 a,.int .u64 b] w (Cuts n (mmR n op a b) w) := by
 have hop : (op = 20 ∨ op = 22) ∨ (op = 21 ∨ op = 23) := by omega
 rcases hop with h | h
 ·exact mm_s n hn op h a b ha hb w
 ·exact mm_u n hn op h a b ha hb w
theorem sg_range {n a : Nat} (hn : Okn n) (ha : a < 2 ^ n) : -((2 ^ (n - 1) : Nat) : Int) ≤ sg n a ∧ sg n a < ((2 ^ (n - 1) : Nat) : Int) := by
 obtain ⟨h1,h2,h3,h4⟩ := pow_lt64 hn
 unfold sg; split <;> omega
theorem mul_range {A B : Int} (h1 : -32768 ≤ A) (h2 : A ≤ 32767) (h3 : -32768 ≤ B) (h4 : B ≤ 32767) : -1073709056 ≤ A * B ∧ A * B ≤ 1073741824 := by
 have ha : (A.natAbs : Int) ≤ 32768 := by omega
 have p1 : 0 ≤ (A + 32768) * (B + 32768) := Int.mul_nonneg (by omega) (by omega)
 have p2 : 0 ≤ (32767 - A) * (32767 - B) := Int.mul_nonneg (by omega) (by omega)
 have p3 : 0 ≤ (A + 32768) * (32767 - B) := Int.mul_nonneg (by omega) (by omega)
 have p4 : 0 ≤ (32767 - A) * (B + 32768) := Int.mul_nonneg (by omega) (by omega)
 simp only [Int.add_mul,Int.mul_add,Int.sub_mul,Int.mul_sub] at p1 p2 p3 p4
 generalize A * B = P at *
 by_cases hA : 0 ≤ A <;> by_cases hB : 0 ≤ B <;> omega
theorem fraction_any (a b : Nat) (ha : a < 2 ^ 16) (hb : b < 2 ^ 16) (w : World) :
  Calls Tryz.prog 129 #[.int .u64 a,.int .u64 b] w (Cuts 16 (toN 16 (clampS 16 ((sg 16 a * sg 16 b + 16384) / 32768))) w) := by
 have hn : Okn 16 := .inr (.inl rfl)
 have hrA := sg_range hn ha
 have hrB := sg_range hn hb
 have hGA : Calls Tryz.prog 71 #[.int .i64 16,.int .u64 a] w _ := Signed_ok 16 hn a (by omega) w
 have hGB : Calls Tryz.prog 71 #[.int .i64 16,.int .u64 b] w _ := Signed_ok 16 hn b (by omega) w
 rw [Nat.mod_eq_of_lt ha] at hGA
 rw [Nat.mod_eq_of_lt hb] at hGB
 obtain ⟨A,hA⟩ : ∃ A,A = sg 16 a := ⟨_,rfl⟩
 obtain ⟨B,hB⟩ : ∃ B,B = sg 16 b := ⟨_,rfl⟩
 rw [← hA] at hrA hGA
 rw [← hB] at hrB hGB
 rw [← hA,← hB]
 have hm := mul_range (A := A) (B := B) (by simpa using hrA.1) (by have := hrA.2; simp at this; omega) (by simpa using hrB.1) (by have := hrB.2; simp at this; omega)
 obtain ⟨P,hP⟩ : ∃ P,P = A * B := ⟨_,rfl⟩
 rw [← hP] at hm ⊢
 have hw1 : wrap64 (A * B) = P := by rw [← hP]; unfold wrap64; omega
 have hw2 : wrap64 (P + 16384) = P + 16384 := by unfold wrap64; omega
 have HGA := hid hGA
 have HGB := hid hGB
 have HM := hid hm
 clear hGA hGB hm hA hB hrA hrB hn hP
 go_enter Tryz.func129,Tryz.ntmps129
 go_wp2_with (first
  | (go_at_call 71; ((with_reducible refine HGA.out.mono ?_); rintro e w' ⟨rfl,rfl⟩))
  | (go_at_call 71; ((with_reducible refine HGB.out.mono ?_); rintro e w' ⟨rfl,rfl⟩)))
 all_goals
  go_ret
  have hm := HM.out
  refine cuts_wrap (.inr (.inl rfl)) ?_
  congr 1
  unfold clampS
  simp only [Nat.reduceSub,Nat.reducePow]
  split <;> (try split) <;> omega
end Go.Proofs.YtbbmbhcbncenaaaGreatDoor
namespace Go.Proofs.YtbbmbhcbncenaaaGreatDoor
open Go
theorem ex_then {K : Act → World → Prop} {Q : Exit → Act → World → Prop} {id : Nat} {a : Act} {w : World} (h : Q (.exit id) a w) : Exit.then K Q (.exit id) a w := h
theorem ex_norm {K : Act → World → Prop} {Q : Exit → Act → World → Prop} {a : Act} {w : World} (h : K a w) : Exit.then K Q .normal a w := h
theorem ex_here {Q : Exit → Act → World → Prop} {id : Nat} {a : Act} {w : World} (h : Q .normal a w) : Exit.inBlock id Q (.exit id) a w := by
 simp [Exit.inBlock,h]
theorem ex_pass {Q : Exit → Act → World → Prop} {id id' : Nat} {a : Act} {w : World} (hne : Nat.beq id' id = false) (h : Q (.exit id') a w) : Exit.inBlock id Q (.exit id') a w := by
 have : id' ≠ id := Nat.ne_of_beq_eq_false hne
 simp [Exit.inBlock,this,h]
end Go.Proofs.YtbbmbhcbncenaaaGreatDoor
