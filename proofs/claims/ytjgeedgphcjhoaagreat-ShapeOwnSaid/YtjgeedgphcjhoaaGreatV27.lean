/-
  CPi: what a copy is in memory, and what becomes of it (the text says what it holds where it lies in wip). No condition.
-/
import Derived.Test.YtjgeedgphcjhoaaGreatT24
import Derived.Test.YtjgeedgphcjhoaaGreatT08
import Derived.Test.YtjgeedgphcjhoaaGreatT14
import Derived.Test.YtjgeedgphcjhoaaGreatV25
set_option linter.unusedSimpArgs false
set_option linter.unusedVariables false
set_option maxRecDepth 100000
namespace Go.Proofs.YtjgeedgphcjhoaaGreat
open Go.RowKit
theorem infoC39 : (Tryz.prog.info? 39).map (fun i => (i.zero,i.size,i.bytes)) = some (some (.agg #[.int .i64 0,.int .i64 0,.int .i64 0,.int .u64 0,.int .u64 0,.slice none 0 0,.slice none 0 0,.slice none 0 0,.bool false]),9,120) := by kernel_rfl
set_option maxHeartbeats 8000000 in
theorem cp_ins (k : Nat) (eg : ∀ args w,(callFunc k args).run Tryz.prog w = .ok (.enter k args) w) (X : Nat → Nat → (Option Addr × Nat × Nat) → (Option Addr × Nat × Nat) → (Option Addr × Nat × Nat) → World → Prop) (hXm : ∀ j s s' x5 x6 x7 W,s' ≤ s → X j s x5 x6 x7 W → X j s' x5 x6 x7 W) (hXu : ∀ j s x5 x6 x7 W W',UP s W W' → X j s x5 x6 x7 W → X j s x5 x6 x7 W')
  (an ac ag ao : Nat) (ap : Option Addr) (t0 : Nat → Int) (t1 : Nat → Int) (t2 : Nat → Int) (hn3 : Nat → Nat) (hn4 : Nat → Nat) (p5 : Nat → Option Addr) (n5 c5 : Nat → Nat) (p6 : Nat → Option Addr) (n6 c6 : Nat → Nat) (p7 : Nat → Option Addr) (n7 c7 : Nat → Nat) (bo8 : Nat → Bool) (w : World) (han : an ≤ 1000000) (hag : an ≠ 0 → ap = some ⟨ag,ao,none⟩ ∧ ag < w.heap.size)
  (hax : ∀ i,i < an → w.cell? ⟨ag,ao + i * 9,none⟩ = some (.int .i64 (t0 i)) ∧ w.cell? ⟨ag,ao + i * 9 + 1,none⟩ = some (.int .i64 (t1 i)) ∧ w.cell? ⟨ag,ao + i * 9 + 2,none⟩ = some (.int .i64 (t2 i)) ∧ w.cell? ⟨ag,ao + i * 9 + 3,none⟩ = some (.int .u64 (hn3 i : Nat)) ∧ w.cell? ⟨ag,ao + i * 9 + 4,none⟩ = some (.int .u64 (hn4 i : Nat)) ∧ w.cell? ⟨ag,ao + i * 9 + 5,none⟩ = some (.slice (p5 i) (n5 i) (c5 i)) ∧ w.cell? ⟨ag,ao + i * 9 + 6,none⟩ = some (.slice (p6 i) (n6 i) (c6 i)) ∧ w.cell? ⟨ag,ao + i * 9 + 7,none⟩ = some (.slice (p7 i) (n7 i) (c7 i)) ∧ w.cell? ⟨ag,ao + i * 9 + 8,none⟩ = some (.bool (bo8 i)))
  (hP : ∀ i,i < an → ∀ W,Below w.heap.size w W → Calls Tryz.prog k #[.agg #[.int .i64 (t0 i),.int .i64 (t1 i),.int .i64 (t2 i),.int .u64 (hn3 i : Nat),.int .u64 (hn4 i : Nat),.slice (p5 i) (n5 i) (c5 i),.slice (p6 i) (n6 i) (c6 i),.slice (p7 i) (n7 i) (c7 i),.bool (bo8 i)]] W fun e w' => ∃ x5 x6 x7,e = .returned (.agg #[.int .i64 (t0 i),.int .i64 (t1 i),.int .i64 (t2 i),.int .u64 (hn3 i : Nat),.int .u64 (hn4 i : Nat),.slice x5.1 x5.2.1 x5.2.2,.slice x6.1 x6.2.1 x6.2.2,.slice x7.1 x7.2.1 x7.2.2,.bool (bo8 i)]) ∧ X i W.heap.size x5 x6 x7 w' ∧ Below W.heap.size W w') :
  Calls Tryz.prog 222 #[.slice ap an ac,.func (.func k) #[] #[]] w fun e w' => (∃ p c b,e = .returned (.slice p an c) ∧ (an ≠ 0 → p = some ⟨b,0,none⟩ ∧ w.heap.size ≤ b ∧ b < w'.heap.size ∧ ∀ k,w'.frozen? ⟨b,k,none⟩ = false) ∧ ∀ i,i < an → ∃ x5 x6 x7,(∀ k v,[.int .i64 (t0 i),.int .i64 (t1 i),.int .i64 (t2 i),.int .u64 (hn3 i : Nat),.int .u64 (hn4 i : Nat),.slice x5.1 x5.2.1 x5.2.2,.slice x6.1 x6.2.1 x6.2.2,.slice x7.1 x7.2.1 x7.2.2,.bool (bo8 i)][k]? = some v → w'.cell? ⟨b,i * 9 + k,none⟩ = some v) ∧ X i w.heap.size x5 x6 x7 w') ∧ Below w.heap.size w w' := by
 cases ap with
 | none =>
  obtain rfl : an = 0 := by
   rcases Nat.eq_zero_or_pos an with h | h
   ·exact h
   ·cases (hag (by omega)).1
  have hq := fun W => Lib.run_eql_slice_nil (P := Tryz.prog) W 37 39 none 0 ac 0 0 Tryz.underlying37
  clear hag hax hP hXm hXu
  go_enter Tryz.func222,Tryz.ntmps222
  go_wp2
  go_ret
  exact ⟨⟨_,_,0,rfl,fun h => absurd rfl h,fun i hi => absurd hi (Nat.not_lt_zero i)⟩,Below.refl _ _⟩
 | some aa =>
  obtain ⟨i0,hi0,hz0,hz1,hz2⟩ := info_parts infoC39
  have HP := hid hP
  have HAX := hid hax
  have HAG := hid hag
  have HM := hid hXm
  have HU := hid hXu
  have hn1 : (an : Int) < 9223372036854775807 := by omega
  have HAN := hid han
  have hq := fun W => Lib.run_eql_slice_nil (P := Tryz.prog) W 37 39 (some aa) an ac 0 0 Tryz.underlying37
  clear hP hax hag hXm hXu han
  go_enter Tryz.func222,Tryz.ntmps222
  go_wp2_with (at_make; refine wpList_make_full _ rfl _ _ 37 rfl w.heap.size 39 i0 (.agg #[.int .i64 0,.int .i64 0,.int .i64 0,.int .u64 0,.int .u64 0,.slice none 0 0,.slice none 0 0,.slice none 0 0,.bool false]) 9 Tryz.underlying37 hi0 hz0 hz1 .i64 .i64 _ _ an rfl rfl rfl rfl (by rw [hz2]; have := HAN.out; omega) (by have := HAN.out; unfold maxLen; omega) (Nat.le_refl _) ?_; intro w2 hown2 hgrow2)
  have HB2 := hid ((Below.refl w.heap.size w).grown hgrow2 (Nat.le_refl _) (by simp))
  have HO2 : Hid (∃ cur,CA w.heap.size cur 39 w2 ∧ cur.size = an * 9) := by
   obtain ⟨gq,capq,curq,e1,_,e3,_,_,e6,_⟩ := (hown2.2.resolve_left (by rintro ⟨h,_⟩; cases h))
   simp only [Value.slice.injEq,Option.some.injEq,Addr.mk.injEq] at e1
   obtain ⟨⟨rfl,-,-⟩,-,rfl⟩ := e1
   exact ⟨curq,e3,e6⟩
  clear hown2 hgrow2
  go_loopw [15] (fun vi wr => ∃ i : Nat,i ≤ an ∧ vi = .int .i64 i ∧ Hid (∃ cur,CA w.heap.size cur 39 wr ∧ cur.size = an * 9) ∧ Hid (Below w.heap.size w wr) ∧ Hid (∀ i',i' < i → ∃ x5 x6 x7,(∀ k v,[.int .i64 (t0 i'),.int .i64 (t1 i'),.int .i64 (t2 i'),.int .u64 (hn3 i' : Nat),.int .u64 (hn4 i' : Nat),.slice x5.1 x5.2.1 x5.2.2,.slice x6.1 x6.2.1 x6.2.2,.slice x7.1 x7.2.1 x7.2.2,.bool (bo8 i')][k]? = some v → wr.cell? ⟨w.heap.size,i' * 9 + k,none⟩ = some v) ∧ X i' (w.heap.size + 1) x5 x6 x7 wr)) (fun vi _ => an - (intOf vi).toNat)
  case atStart => exact ⟨0,Nat.zero_le _,rfl,HO2,HB2,fun j hj => absurd hj (Nat.not_lt_zero _)⟩
  case round =>
   obtain ⟨i,hi,rfl,HC,HB,HI⟩ := hrel
   by_cases hlt : i < an
   ·obtain ⟨g0,g1,g2,g3,g4,g5,g6,g7,g8⟩ := HAX.out i hlt
    obtain ⟨hpa,hga⟩ := HAG.out (by omega)
    obtain rfl : aa = ⟨ag,ao,none⟩ := by simpa using hpa
    have hPi := fun W h => hid (HP.out i hlt W h)
    have h0 := (HB.out.cell (p := ⟨ag,ao + i * 9,none⟩) hga).trans g0
    have h1 := (HB.out.cell (p := ⟨ag,ao + i * 9 + 1,none⟩) hga).trans g1
    have h2 := (HB.out.cell (p := ⟨ag,ao + i * 9 + 2,none⟩) hga).trans g2
    have h3 := (HB.out.cell (p := ⟨ag,ao + i * 9 + 3,none⟩) hga).trans g3
    have h4 := (HB.out.cell (p := ⟨ag,ao + i * 9 + 4,none⟩) hga).trans g4
    have h5 := (HB.out.cell (p := ⟨ag,ao + i * 9 + 5,none⟩) hga).trans g5
    have h6 := (HB.out.cell (p := ⟨ag,ao + i * 9 + 6,none⟩) hga).trans g6
    have h7 := (HB.out.cell (p := ⟨ag,ao + i * 9 + 7,none⟩) hga).trans g7
    have h8 := (HB.out.cell (p := ⟨ag,ao + i * 9 + 8,none⟩) hga).trans g8
    clear hpa hga g0 g1 g2 g3 g4 g5 g6 g7 g8
    obtain ⟨cur,hca,hcs⟩ := HC.out
    have hrl := hca.lt
    have hio : (i + 1) * 9 ≤ an * 9 := Nat.mul_le_mul_right 9 hlt
    have HIO := hid (show i * 9 + 9 ≤ an * 9 by omega)
    obtain ⟨NW,hNW⟩ : ∃ NW : World → Prop,NW = (fun W => ∃ x5 x6 x7,(∀ k v,[.int .i64 (t0 i),.int .i64 (t1 i),.int .i64 (t2 i),.int .u64 (hn3 i : Nat),.int .u64 (hn4 i : Nat),.slice x5.1 x5.2.1 x5.2.2,.slice x6.1 x6.2.1 x6.2.2,.slice x7.1 x7.2.1 x7.2.2,.bool (bo8 i)][k]? = some v → W.cell? ⟨w.heap.size,i * 9 + k,none⟩ = some v) ∧ X i (w.heap.size + 1) x5 x6 x7 W) := ⟨_,rfl⟩
    have HNE := hid hNW
    have HNW : Hid (∀ (x5 x6 x7 : Option Addr × Nat × Nat) (W : World),(∀ k v,[.int .i64 (t0 i),.int .i64 (t1 i),.int .i64 (t2 i),.int .u64 (hn3 i : Nat),.int .u64 (hn4 i : Nat),.slice x5.1 x5.2.1 x5.2.2,.slice x6.1 x6.2.1 x6.2.2,.slice x7.1 x7.2.1 x7.2.2,.bool (bo8 i)][k]? = some v → W.cell? ⟨w.heap.size,i * 9 + k,none⟩ = some v) → X i (w.heap.size + 1) x5 x6 x7 W → NW W) := by
     intro x5 x6 x7 W hh hx
     rw [hNW]
     exact ⟨x5,x6,x7,hh,hx⟩
    clear hNW
    have HXU := hid (fun x5 x6 x7 W W' => HU.out i (w.heap.size + 1) x5 x6 x7 W W')
    have HXM := hid (fun s x5 x6 x7 W => HM.out i s (w.heap.size + 1) x5 x6 x7 W)
    obtain ⟨Xi,hXi⟩ : ∃ Y,Y = X i := ⟨_,rfl⟩
    rw [← hXi] at HNW HXU HXM hPi
    clear hXi
    generalize t0 i = s0 at h0 hPi HNW
    generalize t1 i = s1 at h1 hPi HNW
    generalize t2 i = s2 at h2 hPi HNW
    generalize hn3 i = hs3 at h3 hPi HNW
    generalize hn4 i = hs4 at h4 hPi HNW
    generalize p5 i = q5 at h5 hPi HNW
    generalize n5 i = m5 at h5 hPi HNW
    generalize c5 i = d5 at h5 hPi HNW
    generalize p6 i = q6 at h6 hPi HNW
    generalize n6 i = m6 at h6 hPi HNW
    generalize c6 i = d6 at h6 hPi HNW
    generalize p7 i = q7 at h7 hPi HNW
    generalize n7 i = m7 at h7 hPi HNW
    generalize c7 i = d7 at h7 hPi HNW
    generalize bo8 i = e8 at h8 hPi HNW
    have HBA := hid ((Below.refl wr.heap.size wr).alloc (Nat.le_refl _) (.cells #[.int .i64 s0,.int .i64 s1,.int .i64 s2,.int .u64 (hs3 : Nat),.int .u64 (hs4 : Nat),.slice q5 m5 d5,.slice q6 m6 d6,.slice q7 m7 d7,.bool e8] 39))
    have HB1 := hid (HB.out.trans (HBA.out.mono HB.out.size))
    have hcb := hca.below HBA.out hrl
    have HRL := hid (show w.heap.size < (wr.alloc (.cells #[.int .i64 s0,.int .i64 s1,.int .i64 s2,.int .u64 (hs3 : Nat),.int .u64 (hs4 : Nat),.slice q5 m5 d5,.slice q6 m6 d6,.slice q7 m7 d7,.bool e8] 39)).heap.size by rw [size_al]; omega)
    have hPW := hPi (wr.alloc (.cells #[.int .i64 s0,.int .i64 s1,.int .i64 s2,.int .u64 (hs3 : Nat),.int .u64 (hs4 : Nat),.slice q5 m5 d5,.slice q6 m6 d6,.slice q7 m7 d7,.bool e8] 39)) HB1.out
    have HCB := hid hcb
    have HRW := hid hrl
    obtain ⟨o0,b0⟩ : ∃ v,cur[i * 9]? = some v := ⟨_,Array.getElem?_eq_getElem (by omega)⟩
    have HZ0 := hid b0
    clear b0
    obtain ⟨o1,b1⟩ : ∃ v,cur[i * 9 + 1]? = some v := ⟨_,Array.getElem?_eq_getElem (by omega)⟩
    have HZ1 := hid b1
    clear b1
    obtain ⟨o2,b2⟩ : ∃ v,cur[i * 9 + 2]? = some v := ⟨_,Array.getElem?_eq_getElem (by omega)⟩
    have HZ2 := hid b2
    clear b2
    obtain ⟨o3,b3⟩ : ∃ v,cur[i * 9 + 3]? = some v := ⟨_,Array.getElem?_eq_getElem (by omega)⟩
    have HZ3 := hid b3
    clear b3
    obtain ⟨o4,b4⟩ : ∃ v,cur[i * 9 + 4]? = some v := ⟨_,Array.getElem?_eq_getElem (by omega)⟩
    have HZ4 := hid b4
    clear b4
    obtain ⟨o5,b5⟩ : ∃ v,cur[i * 9 + 5]? = some v := ⟨_,Array.getElem?_eq_getElem (by omega)⟩
    have HZ5 := hid b5
    clear b5
    obtain ⟨o6,b6⟩ : ∃ v,cur[i * 9 + 6]? = some v := ⟨_,Array.getElem?_eq_getElem (by omega)⟩
    have HZ6 := hid b6
    clear b6
    obtain ⟨o7,b7⟩ : ∃ v,cur[i * 9 + 7]? = some v := ⟨_,Array.getElem?_eq_getElem (by omega)⟩
    have HZ7 := hid b7
    clear b7
    obtain ⟨o8,b8⟩ : ∃ v,cur[i * 9 + 8]? = some v := ⟨_,Array.getElem?_eq_getElem (by omega)⟩
    have HZ8 := hid b8
    clear b8
    have HCS := hid hcs
    clear hcs hca hcb hrl hio
    go_wp2_with (go_at_fn k; (with_reducible refine hPW.out.mono ?_); rintro e w3 ⟨x5,x6,x7,rfl,hx3,hb3⟩; have hca3 := HCB.out.below hb3 HRL.out; obtain ⟨q5a,q5b,q5c⟩ := x5; obtain ⟨q6a,q6b,q6c⟩ := x6; obtain ⟨q7a,q7b,q7c⟩ := x7; have k0 : w3.cell? ⟨w.heap.size,i * 9,none⟩ = some o0 := hca3.at (k := i * 9) HZ0.out; have f0 : w3.frozen? ⟨w.heap.size,i * 9,none⟩ = false := hca3.free _; have k1 : w3.cell? ⟨w.heap.size,i * 9 + 1,none⟩ = some o1 := hca3.at (k := i * 9 + 1) HZ1.out; have f1 : w3.frozen? ⟨w.heap.size,i * 9 + 1,none⟩ = false := hca3.free _; have k2 : w3.cell? ⟨w.heap.size,i * 9 + 2,none⟩ = some o2 := hca3.at (k := i * 9 + 2) HZ2.out; have f2 : w3.frozen? ⟨w.heap.size,i * 9 + 2,none⟩ = false := hca3.free _; have k3 : w3.cell? ⟨w.heap.size,i * 9 + 3,none⟩ = some o3 := hca3.at (k := i * 9 + 3) HZ3.out; have f3 : w3.frozen? ⟨w.heap.size,i * 9 + 3,none⟩ = false := hca3.free _; have k4 : w3.cell? ⟨w.heap.size,i * 9 + 4,none⟩ = some o4 := hca3.at (k := i * 9 + 4) HZ4.out; have f4 : w3.frozen? ⟨w.heap.size,i * 9 + 4,none⟩ = false := hca3.free _; have k5 : w3.cell? ⟨w.heap.size,i * 9 + 5,none⟩ = some o5 := hca3.at (k := i * 9 + 5) HZ5.out; have f5 : w3.frozen? ⟨w.heap.size,i * 9 + 5,none⟩ = false := hca3.free _; have k6 : w3.cell? ⟨w.heap.size,i * 9 + 6,none⟩ = some o6 := hca3.at (k := i * 9 + 6) HZ6.out; have f6 : w3.frozen? ⟨w.heap.size,i * 9 + 6,none⟩ = false := hca3.free _; have k7 : w3.cell? ⟨w.heap.size,i * 9 + 7,none⟩ = some o7 := hca3.at (k := i * 9 + 7) HZ7.out; have f7 : w3.frozen? ⟨w.heap.size,i * 9 + 7,none⟩ = false := hca3.free _; have k8 : w3.cell? ⟨w.heap.size,i * 9 + 8,none⟩ = some o8 := hca3.at (k := i * 9 + 8) HZ8.out; have f8 : w3.frozen? ⟨w.heap.size,i * 9 + 8,none⟩ = false := hca3.free _; have HCA3 := hid hca3; have HX3 := hid hx3; have HB3 := hid hb3; clear hca3 hb3 hx3)
    go_roundw
    case rel =>
     have hS := setL_ok 39 w.heap.size (an * 9) [.int .i64 s0,.int .i64 s1,.int .i64 s2,.int .u64 (hs3 : Nat),.int .u64 (hs4 : Nat),.slice q5a q5b q5c,.slice q6a q6b q6c,.slice q7a q7b q7c,.bool e8] (i * 9) w3 cur HCA3.out HCS.out HIO.out
     have hrs : w.heap.size < w3.heap.size := Nat.lt_of_lt_of_le HRL.out HB3.out.size
     have hu4 : UP (w.heap.size + 1) w3 (setL w3 w.heap.size (i * 9) [.int .i64 s0,.int .i64 s1,.int .i64 s2,.int .u64 (hs3 : Nat),.int .u64 (hs4 : Nat),.slice q5a q5b q5c,.slice q6a q6b q6c,.slice q7a q7b q7c,.bool e8]) := fun b hb _ => hS.other b (by omega)
     have hu3 : UP (w.heap.size + 1) wr (setL w3 w.heap.size (i * 9) [.int .i64 s0,.int .i64 s1,.int .i64 s2,.int .u64 (hs3 : Nat),.int .u64 (hs4 : Nat),.slice q5a q5b q5c,.slice q6a q6b q6c,.slice q7a q7b q7c,.bool e8]) := fun b hb hbl => (hS.other b (by omega)).trans ((HBA.out.trans (HB3.out.mono HBA.out.size)).block b hbl)
     refine ⟨i + 1,hlt,by go_num,hS.row,?_,fun j hj => ?_⟩
     ·exact ((((((((((HB1.out.trans (HB3.out.mono HB1.out.size)).setCell (p := ⟨w.heap.size,i * 9,none⟩) (Nat.le_refl _) (.int .i64 s0)).setCell (p := ⟨w.heap.size,i * 9 + 1,none⟩) (Nat.le_refl _) (.int .i64 s1)).setCell (p := ⟨w.heap.size,i * 9 + 2,none⟩) (Nat.le_refl _) (.int .i64 s2)).setCell (p := ⟨w.heap.size,i * 9 + 3,none⟩) (Nat.le_refl _) (.int .u64 (hs3 : Nat))).setCell (p := ⟨w.heap.size,i * 9 + 4,none⟩) (Nat.le_refl _) (.int .u64 (hs4 : Nat))).setCell (p := ⟨w.heap.size,i * 9 + 5,none⟩) (Nat.le_refl _) (.slice q5a q5b q5c)).setCell (p := ⟨w.heap.size,i * 9 + 6,none⟩) (Nat.le_refl _) (.slice q6a q6b q6c)).setCell (p := ⟨w.heap.size,i * 9 + 7,none⟩) (Nat.le_refl _) (.slice q7a q7b q7c)).setCell (p := ⟨w.heap.size,i * 9 + 8,none⟩) (Nat.le_refl _) (.bool e8))
     ·by_cases hji : j = i
      ·have hnw := HNW.out (q5a,q5b,q5c) (q6a,q6b,q6c) (q7a,q7b,q7c) _ hS.here (HXU.out (q5a,q5b,q5c) (q6a,q6b,q6c) (q7a,q7b,q7c) _ _ hu4 (HXM.out _ (q5a,q5b,q5c) (q6a,q6b,q6c) (q7a,q7b,q7c) _ HRL.out HX3.out))
       rw [HNE.out] at hnw
       rw [hji]
       exact hnw
      ·obtain ⟨x5,x6,x7,hh,hx⟩ := HI.out j (by omega)
       refine ⟨x5,x6,x7,fun k v hk => ?_,HU.out j _ x5 x6 x7 _ _ hu3 hx⟩
       have hkn : k < 9 := (List.getElem?_eq_some_iff.1 hk).1
       have hji2 : (j + 1) * 9 ≤ i * 9 := Nat.mul_le_mul_right 9 (by omega)
       show (setL w3 w.heap.size (i * 9) [.int .i64 s0,.int .i64 s1,.int .i64 s2,.int .u64 (hs3 : Nat),.int .u64 (hs4 : Nat),.slice q5a q5b q5c,.slice q6a q6b q6c,.slice q7a q7b q7c,.bool e8]).cell? _ = _
       rw [hS.front _ (by omega),← hh k v hk]
       exact (HBA.out.trans (HB3.out.mono HBA.out.size)).cell (p := ⟨w.heap.size,j * 9 + k,none⟩) HRW.out
    case measure => simp [intOf]; omega
   ·obtain rfl : i = an := by omega
    have HI2 := HI
    have HLT : Hid (w.heap.size < wr.heap.size ∧ ∀ k,wr.frozen? ⟨w.heap.size,k,none⟩ = false) := by obtain ⟨cur,hca,_⟩ := HC.out; exact ⟨hca.lt,fun k => hca.free k⟩
    clear HC
    go_wp2
    go_ret
    refine ⟨⟨_,_,w.heap.size,rfl,fun _ => ⟨rfl,Nat.le_refl _,HLT.out⟩,fun i hi => ?_⟩,HB.out⟩
    obtain ⟨x5,x6,x7,hh,hx⟩ := HI2.out i hi
    exact ⟨x5,x6,x7,hh,HM.out i _ _ x5 x6 x7 _ (Nat.le_succ _) hx⟩
end Go.Proofs.YtjgeedgphcjhoaaGreat
