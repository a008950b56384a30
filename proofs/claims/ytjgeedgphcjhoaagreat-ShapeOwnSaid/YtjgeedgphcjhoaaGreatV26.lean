/-
  CPn: what a copy is in memory, and what becomes of it (the text says what it holds where it lies in wip). No condition.
-/
import Derived.Test.YtjgeedgphcjhoaaGreatT24
import Derived.Test.YtjgeedgphcjhoaaGreatT08
import Derived.Test.YtjgeedgphcjhoaaGreatT14
import Derived.Test.YtjgeedgphcjhoaaGreatV25
set_option linter.unusedSimpArgs false
set_option linter.unusedVariables false
set_option maxRecDepth 100000
namespace Go.Proofs.YtjgeedgphcjhoaaGreat
open Go.RowKit
set_option maxHeartbeats 8000000 in
theorem cp_int (k : Nat) (eg : ∀ args w,(callFunc k args).run Tryz.prog w = .ok (.enter k args) w)
  (an ac ag ao : Nat) (ap : Option Addr) (t0 : Nat → Int) (w : World) (han : an ≤ 1000000) (hag : an ≠ 0 → ap = some ⟨ag,ao,none⟩ ∧ ag < w.heap.size)
  (hax : ∀ i,i < an → w.cell? ⟨ag,ao + i,none⟩ = some (.int .i64 (t0 i)))
  (hP : ∀ i,i < an → ∀ W,Below w.heap.size w W → Calls Tryz.prog k #[.int .i64 (t0 i)] W fun e w' => e = .returned (.int .i64 (t0 i)) ∧ Below W.heap.size W w') :
  Calls Tryz.prog 157 #[.slice ap an ac,.func (.func k) #[] #[]] w fun e w' => (∃ p c b,e = .returned (.slice p an c) ∧ (an ≠ 0 → p = some ⟨b,0,none⟩ ∧ w.heap.size ≤ b ∧ b < w'.heap.size ∧ ∀ k,w'.frozen? ⟨b,k,none⟩ = false) ∧ ∀ i,i < an → (∀ k v,[.int .i64 (t0 i)][k]? = some v → w'.cell? ⟨b,i + k,none⟩ = some v)) ∧ Below w.heap.size w w' := by
 cases ap with
 | none =>
  obtain rfl : an = 0 := by
   rcases Nat.eq_zero_or_pos an with h | h
   ·exact h
   ·cases (hag (by omega)).1
  have hq := fun W => Lib.run_eql_slice_nil (P := Tryz.prog) W 36 3 none 0 ac 0 0 Tryz.underlying36
  clear hag hax hP
  go_enter Tryz.func157,Tryz.ntmps157
  go_wp2
  go_ret
  exact ⟨⟨_,_,0,rfl,fun h => absurd rfl h,fun i hi => absurd hi (Nat.not_lt_zero i)⟩,Below.refl _ _⟩
 | some aa =>
  obtain ⟨i0,hi0,hz0,hz1,hz2⟩ := info_parts info3
  have HP := hid hP
  have HAX := hid hax
  have HAG := hid hag
  have hn1 : (an : Int) < 9223372036854775807 := by omega
  have HAN := hid han
  have hq := fun W => Lib.run_eql_slice_nil (P := Tryz.prog) W 36 3 (some aa) an ac 0 0 Tryz.underlying36
  clear hP hax hag han
  go_enter Tryz.func157,Tryz.ntmps157
  go_wp2_with (at_make; refine wpList_make_full _ rfl _ _ 36 rfl w.heap.size 3 i0 (.int .i64 0) 1 Tryz.underlying36 hi0 hz0 hz1 .i64 .i64 _ _ an rfl rfl rfl rfl (by rw [hz2]; have := HAN.out; omega) (by have := HAN.out; unfold maxLen; omega) (Nat.le_refl _) ?_; intro w2 hown2 hgrow2)
  have HB2 := hid ((Below.refl w.heap.size w).grown hgrow2 (Nat.le_refl _) (by simp))
  have HO2 : Hid (∃ cur,CA w.heap.size cur 3 w2 ∧ cur.size = an) := by
   obtain ⟨gq,capq,curq,e1,_,e3,_,_,e6,_⟩ := (hown2.2.resolve_left (by rintro ⟨h,_⟩; cases h))
   simp only [Value.slice.injEq,Option.some.injEq,Addr.mk.injEq] at e1
   obtain ⟨⟨rfl,-,-⟩,-,rfl⟩ := e1
   exact ⟨curq,e3,by rw [e6,Nat.mul_one]⟩
  clear hown2 hgrow2
  go_loopw [15] (fun vi wr => ∃ i : Nat,i ≤ an ∧ vi = .int .i64 i ∧ Hid (∃ cur,CA w.heap.size cur 3 wr ∧ cur.size = an) ∧ Hid (Below w.heap.size w wr) ∧ Hid (∀ i',i' < i → (∀ k v,[.int .i64 (t0 i')][k]? = some v → wr.cell? ⟨w.heap.size,i' + k,none⟩ = some v))) (fun vi _ => an - (intOf vi).toNat)
  case atStart => exact ⟨0,Nat.zero_le _,rfl,HO2,HB2,fun j hj => absurd hj (Nat.not_lt_zero _)⟩
  case round =>
   obtain ⟨i,hi,rfl,HC,HB,HI⟩ := hrel
   by_cases hlt : i < an
   ·have g0 := HAX.out i hlt
    obtain ⟨hpa,hga⟩ := HAG.out (by omega)
    obtain rfl : aa = ⟨ag,ao,none⟩ := by simpa using hpa
    have hPi := fun W h => hid (HP.out i hlt W h)
    have h0 := (HB.out.cell (p := ⟨ag,ao + i,none⟩) hga).trans g0
    clear hpa hga g0
    obtain ⟨cur,hca,hcs⟩ := HC.out
    have hrl := hca.lt
    have hio : (i + 1) ≤ an := hlt
    have HIO := hid (show i + 1 ≤ an by omega)
    obtain ⟨NW,hNW⟩ : ∃ NW : World → Prop,NW = (fun W => (∀ k v,[.int .i64 (t0 i)][k]? = some v → W.cell? ⟨w.heap.size,i + k,none⟩ = some v)) := ⟨_,rfl⟩
    have HNE := hid hNW
    have HNW : Hid (∀ (W : World),(∀ k v,[.int .i64 (t0 i)][k]? = some v → W.cell? ⟨w.heap.size,i + k,none⟩ = some v) → NW W) := by
     intro W hh
     rw [hNW]
     exact hh
    clear hNW
    generalize t0 i = s0 at h0 hPi HNW
    have HBA := hid (Below.refl wr.heap.size wr)
    have HB1 := HB
    have hcb := hca
    have HRL := hid hrl
    have hPW := hPi wr HB1.out
    have HCB := hid hcb
    have HRW := hid hrl
    obtain ⟨o0,b0⟩ : ∃ v,cur[i]? = some v := ⟨_,Array.getElem?_eq_getElem (by omega)⟩
    have HZ0 := hid b0
    clear b0
    have HCS := hid hcs
    clear hcs hca hcb hrl hio
    go_wp2_with (go_at_fn k; (with_reducible refine hPW.out.mono ?_); rintro e w3 ⟨rfl,hb3⟩; have hca3 := HCB.out.below hb3 HRL.out; have k0 : w3.cell? ⟨w.heap.size,i,none⟩ = some o0 := hca3.at (k := i) HZ0.out; have f0 : w3.frozen? ⟨w.heap.size,i,none⟩ = false := hca3.free _; have HCA3 := hid hca3; have HB3 := hid hb3; clear hca3 hb3)
    go_roundw
    case rel =>
     have hS := setL_ok 3 w.heap.size (an) [.int .i64 s0] (i) w3 cur HCA3.out HCS.out HIO.out
     have hrs : w.heap.size < w3.heap.size := Nat.lt_of_lt_of_le HRL.out HB3.out.size
     have hu4 : UP (w.heap.size + 1) w3 (setL w3 w.heap.size (i) [.int .i64 s0]) := fun b hb _ => hS.other b (by omega)
     have hu3 : UP (w.heap.size + 1) wr (setL w3 w.heap.size (i) [.int .i64 s0]) := fun b hb hbl => (hS.other b (by omega)).trans ((HBA.out.trans (HB3.out.mono HBA.out.size)).block b hbl)
     refine ⟨i + 1,hlt,by go_num,hS.row,?_,fun j hj => ?_⟩
     ·exact ((HB1.out.trans (HB3.out.mono HB1.out.size)).setCell (p := ⟨w.heap.size,i,none⟩) (Nat.le_refl _) (.int .i64 s0))
     ·by_cases hji : j = i
      ·have hnw := HNW.out _ hS.here
       rw [HNE.out] at hnw
       rw [hji]
       exact hnw
      ·have hh := HI.out j (by omega)
       intro k v hk
       have hkn : k < 1 := (List.getElem?_eq_some_iff.1 hk).1
       have hji2 : (j + 1) ≤ i := (by omega)
       show (setL w3 w.heap.size (i) [.int .i64 s0]).cell? _ = _
       rw [hS.front _ (by omega),← hh k v hk]
       exact (HBA.out.trans (HB3.out.mono HBA.out.size)).cell (p := ⟨w.heap.size,j + k,none⟩) HRW.out
    case measure => simp [intOf]; omega
   ·obtain rfl : i = an := by omega
    have HI2 := HI
    have HLT : Hid (w.heap.size < wr.heap.size ∧ ∀ k,wr.frozen? ⟨w.heap.size,k,none⟩ = false) := by obtain ⟨cur,hca,_⟩ := HC.out; exact ⟨hca.lt,fun k => hca.free k⟩
    clear HC
    go_wp2
    go_ret
    refine ⟨⟨_,_,w.heap.size,rfl,fun _ => ⟨rfl,Nat.le_refl _,HLT.out⟩,fun i hi => ?_⟩,HB.out⟩
    exact HI2.out i hi
theorem infoC5 : (Tryz.prog.info? 5).map (fun i => (i.zero,i.size,i.bytes)) = some (some (.int .u8 0),1,1) := by kernel_rfl
set_option maxHeartbeats 8000000 in
theorem cp_byte (k : Nat) (eg : ∀ args w,(callFunc k args).run Tryz.prog w = .ok (.enter k args) w)
  (an ac ag ao : Nat) (ap : Option Addr) (y0 : Nat → Nat) (w : World) (han : an ≤ 1000000) (hag : an ≠ 0 → ap = some ⟨ag,ao,none⟩ ∧ ag < w.heap.size)
  (hax : ∀ i,i < an → w.cell? ⟨ag,ao + i,none⟩ = some (.int .u8 (y0 i : Nat)))
  (hP : ∀ i,i < an → ∀ W,Below w.heap.size w W → Calls Tryz.prog k #[.int .u8 (y0 i : Nat)] W fun e w' => e = .returned (.int .u8 (y0 i : Nat)) ∧ Below W.heap.size W w') :
  Calls Tryz.prog 161 #[.slice ap an ac,.func (.func k) #[] #[]] w fun e w' => (∃ p c b,e = .returned (.slice p an c) ∧ (an ≠ 0 → p = some ⟨b,0,none⟩ ∧ w.heap.size ≤ b ∧ b < w'.heap.size ∧ ∀ k,w'.frozen? ⟨b,k,none⟩ = false) ∧ ∀ i,i < an → (∀ k v,[.int .u8 (y0 i : Nat)][k]? = some v → w'.cell? ⟨b,i + k,none⟩ = some v)) ∧ Below w.heap.size w w' := by
 cases ap with
 | none =>
  obtain rfl : an = 0 := by
   rcases Nat.eq_zero_or_pos an with h | h
   ·exact h
   ·cases (hag (by omega)).1
  have hq := fun W => Lib.run_eql_slice_nil (P := Tryz.prog) W 52 5 none 0 ac 0 0 Tryz.underlying52
  clear hag hax hP
  go_enter Tryz.func161,Tryz.ntmps161
  go_wp2
  go_ret
  exact ⟨⟨_,_,0,rfl,fun h => absurd rfl h,fun i hi => absurd hi (Nat.not_lt_zero i)⟩,Below.refl _ _⟩
 | some aa =>
  obtain ⟨i0,hi0,hz0,hz1,hz2⟩ := info_parts infoC5
  have HP := hid hP
  have HAX := hid hax
  have HAG := hid hag
  have hn1 : (an : Int) < 9223372036854775807 := by omega
  have HAN := hid han
  have hq := fun W => Lib.run_eql_slice_nil (P := Tryz.prog) W 52 5 (some aa) an ac 0 0 Tryz.underlying52
  clear hP hax hag han
  go_enter Tryz.func161,Tryz.ntmps161
  go_wp2_with (at_make; refine wpList_make_full _ rfl _ _ 52 rfl w.heap.size 5 i0 (.int .u8 0) 1 Tryz.underlying52 hi0 hz0 hz1 .i64 .i64 _ _ an rfl rfl rfl rfl (by rw [hz2]; have := HAN.out; omega) (by have := HAN.out; unfold maxLen; omega) (Nat.le_refl _) ?_; intro w2 hown2 hgrow2)
  have HB2 := hid ((Below.refl w.heap.size w).grown hgrow2 (Nat.le_refl _) (by simp))
  have HO2 : Hid (∃ cur,CA w.heap.size cur 5 w2 ∧ cur.size = an) := by
   obtain ⟨gq,capq,curq,e1,_,e3,_,_,e6,_⟩ := (hown2.2.resolve_left (by rintro ⟨h,_⟩; cases h))
   simp only [Value.slice.injEq,Option.some.injEq,Addr.mk.injEq] at e1
   obtain ⟨⟨rfl,-,-⟩,-,rfl⟩ := e1
   exact ⟨curq,e3,by rw [e6,Nat.mul_one]⟩
  clear hown2 hgrow2
  go_loopw [15] (fun vi wr => ∃ i : Nat,i ≤ an ∧ vi = .int .i64 i ∧ Hid (∃ cur,CA w.heap.size cur 5 wr ∧ cur.size = an) ∧ Hid (Below w.heap.size w wr) ∧ Hid (∀ i',i' < i → (∀ k v,[.int .u8 (y0 i' : Nat)][k]? = some v → wr.cell? ⟨w.heap.size,i' + k,none⟩ = some v))) (fun vi _ => an - (intOf vi).toNat)
  case atStart => exact ⟨0,Nat.zero_le _,rfl,HO2,HB2,fun j hj => absurd hj (Nat.not_lt_zero _)⟩
  case round =>
   obtain ⟨i,hi,rfl,HC,HB,HI⟩ := hrel
   by_cases hlt : i < an
   ·have g0 := HAX.out i hlt
    obtain ⟨hpa,hga⟩ := HAG.out (by omega)
    obtain rfl : aa = ⟨ag,ao,none⟩ := by simpa using hpa
    have hPi := fun W h => hid (HP.out i hlt W h)
    have h0 := (HB.out.cell (p := ⟨ag,ao + i,none⟩) hga).trans g0
    clear hpa hga g0
    obtain ⟨cur,hca,hcs⟩ := HC.out
    have hrl := hca.lt
    have hio : (i + 1) ≤ an := hlt
    have HIO := hid (show i + 1 ≤ an by omega)
    obtain ⟨NW,hNW⟩ : ∃ NW : World → Prop,NW = (fun W => (∀ k v,[.int .u8 (y0 i : Nat)][k]? = some v → W.cell? ⟨w.heap.size,i + k,none⟩ = some v)) := ⟨_,rfl⟩
    have HNE := hid hNW
    have HNW : Hid (∀ (W : World),(∀ k v,[.int .u8 (y0 i : Nat)][k]? = some v → W.cell? ⟨w.heap.size,i + k,none⟩ = some v) → NW W) := by
     intro W hh
     rw [hNW]
     exact hh
    clear hNW
    generalize y0 i = s0 at h0 hPi HNW
    have HBA := hid (Below.refl wr.heap.size wr)
    have HB1 := HB
    have hcb := hca
    have HRL := hid hrl
    have hPW := hPi wr HB1.out
    have HCB := hid hcb
    have HRW := hid hrl
    obtain ⟨o0,b0⟩ : ∃ v,cur[i]? = some v := ⟨_,Array.getElem?_eq_getElem (by omega)⟩
    have HZ0 := hid b0
    clear b0
    have HCS := hid hcs
    clear hcs hca hcb hrl hio
    go_wp2_with (go_at_fn k; (with_reducible refine hPW.out.mono ?_); rintro e w3 ⟨rfl,hb3⟩; have hca3 := HCB.out.below hb3 HRL.out; have k0 : w3.cell? ⟨w.heap.size,i,none⟩ = some o0 := hca3.at (k := i) HZ0.out; have f0 : w3.frozen? ⟨w.heap.size,i,none⟩ = false := hca3.free _; have HCA3 := hid hca3; have HB3 := hid hb3; clear hca3 hb3)
    go_roundw
    case rel =>
     have hS := setL_ok 5 w.heap.size (an) [.int .u8 (s0 : Nat)] (i) w3 cur HCA3.out HCS.out HIO.out
     have hrs : w.heap.size < w3.heap.size := Nat.lt_of_lt_of_le HRL.out HB3.out.size
     have hu4 : UP (w.heap.size + 1) w3 (setL w3 w.heap.size (i) [.int .u8 (s0 : Nat)]) := fun b hb _ => hS.other b (by omega)
     have hu3 : UP (w.heap.size + 1) wr (setL w3 w.heap.size (i) [.int .u8 (s0 : Nat)]) := fun b hb hbl => (hS.other b (by omega)).trans ((HBA.out.trans (HB3.out.mono HBA.out.size)).block b hbl)
     refine ⟨i + 1,hlt,by go_num,hS.row,?_,fun j hj => ?_⟩
     ·exact ((HB1.out.trans (HB3.out.mono HB1.out.size)).setCell (p := ⟨w.heap.size,i,none⟩) (Nat.le_refl _) (.int .u8 (s0 : Nat)))
     ·by_cases hji : j = i
      ·have hnw := HNW.out _ hS.here
       rw [HNE.out] at hnw
       rw [hji]
       exact hnw
      ·have hh := HI.out j (by omega)
       intro k v hk
       have hkn : k < 1 := (List.getElem?_eq_some_iff.1 hk).1
       have hji2 : (j + 1) ≤ i := (by omega)
       show (setL w3 w.heap.size (i) [.int .u8 (s0 : Nat)]).cell? _ = _
       rw [hS.front _ (by omega),← hh k v hk]
       exact (HBA.out.trans (HB3.out.mono HBA.out.size)).cell (p := ⟨w.heap.size,j + k,none⟩) HRW.out
    case measure => simp [intOf]; omega
   ·obtain rfl : i = an := by omega
    have HI2 := HI
    have HLT : Hid (w.heap.size < wr.heap.size ∧ ∀ k,wr.frozen? ⟨w.heap.size,k,none⟩ = false) := by obtain ⟨cur,hca,_⟩ := HC.out; exact ⟨hca.lt,fun k => hca.free k⟩
    clear HC
    go_wp2
    go_ret
    refine ⟨⟨_,_,w.heap.size,rfl,fun _ => ⟨rfl,Nat.le_refl _,HLT.out⟩,fun i hi => ?_⟩,HB.out⟩
    exact HI2.out i hi
theorem infoC67 : (Tryz.prog.info? 67).map (fun i => (i.zero,i.size,i.bytes)) = some (some (.agg #[.slice none 0 0,.slice none 0 0]),2,48) := by kernel_rfl
set_option maxHeartbeats 8000000 in
theorem cp_ft (k : Nat) (eg : ∀ args w,(callFunc k args).run Tryz.prog w = .ok (.enter k args) w) (X : Nat → Nat → (Option Addr × Nat × Nat) → (Option Addr × Nat × Nat) → World → Prop) (hXm : ∀ j s s' x0 x1 W,s' ≤ s → X j s x0 x1 W → X j s' x0 x1 W) (hXu : ∀ j s x0 x1 W W',UP s W W' → X j s x0 x1 W → X j s x0 x1 W')
  (an ac ag ao : Nat) (ap : Option Addr) (p0 : Nat → Option Addr) (n0 c0 : Nat → Nat) (p1 : Nat → Option Addr) (n1 c1 : Nat → Nat) (w : World) (han : an ≤ 1000000) (hag : an ≠ 0 → ap = some ⟨ag,ao,none⟩ ∧ ag < w.heap.size)
  (hax : ∀ i,i < an → w.cell? ⟨ag,ao + i * 2,none⟩ = some (.slice (p0 i) (n0 i) (c0 i)) ∧ w.cell? ⟨ag,ao + i * 2 + 1,none⟩ = some (.slice (p1 i) (n1 i) (c1 i)))
  (hP : ∀ i,i < an → ∀ W,Below w.heap.size w W → Calls Tryz.prog k #[.agg #[.slice (p0 i) (n0 i) (c0 i),.slice (p1 i) (n1 i) (c1 i)]] W fun e w' => ∃ x0 x1,e = .returned (.agg #[.slice x0.1 x0.2.1 x0.2.2,.slice x1.1 x1.2.1 x1.2.2]) ∧ X i W.heap.size x0 x1 w' ∧ Below W.heap.size W w') :
  Calls Tryz.prog 60 #[.slice ap an ac,.func (.func k) #[] #[]] w fun e w' => (∃ p c b,e = .returned (.slice p an c) ∧ (an ≠ 0 → p = some ⟨b,0,none⟩ ∧ w.heap.size ≤ b ∧ b < w'.heap.size ∧ ∀ k,w'.frozen? ⟨b,k,none⟩ = false) ∧ ∀ i,i < an → ∃ x0 x1,(∀ k v,[.slice x0.1 x0.2.1 x0.2.2,.slice x1.1 x1.2.1 x1.2.2][k]? = some v → w'.cell? ⟨b,i * 2 + k,none⟩ = some v) ∧ X i w.heap.size x0 x1 w') ∧ Below w.heap.size w w' := by
 cases ap with
 | none =>
  obtain rfl : an = 0 := by
   rcases Nat.eq_zero_or_pos an with h | h
   ·exact h
   ·cases (hag (by omega)).1
  have hq := fun W => Lib.run_eql_slice_nil (P := Tryz.prog) W 22 67 none 0 ac 0 0 Tryz.underlying22
  clear hag hax hP hXm hXu
  go_enter Tryz.func60,Tryz.ntmps60
  go_wp2
  go_ret
  exact ⟨⟨_,_,0,rfl,fun h => absurd rfl h,fun i hi => absurd hi (Nat.not_lt_zero i)⟩,Below.refl _ _⟩
 | some aa =>
  obtain ⟨i0,hi0,hz0,hz1,hz2⟩ := info_parts infoC67
  have HP := hid hP
  have HAX := hid hax
  have HAG := hid hag
  have HM := hid hXm
  have HU := hid hXu
  have hn1 : (an : Int) < 9223372036854775807 := by omega
  have HAN := hid han
  have hq := fun W => Lib.run_eql_slice_nil (P := Tryz.prog) W 22 67 (some aa) an ac 0 0 Tryz.underlying22
  clear hP hax hag hXm hXu han
  go_enter Tryz.func60,Tryz.ntmps60
  go_wp2_with (at_make; refine wpList_make_full _ rfl _ _ 22 rfl w.heap.size 67 i0 (.agg #[.slice none 0 0,.slice none 0 0]) 2 Tryz.underlying22 hi0 hz0 hz1 .i64 .i64 _ _ an rfl rfl rfl rfl (by rw [hz2]; have := HAN.out; omega) (by have := HAN.out; unfold maxLen; omega) (Nat.le_refl _) ?_; intro w2 hown2 hgrow2)
  have HB2 := hid ((Below.refl w.heap.size w).grown hgrow2 (Nat.le_refl _) (by simp))
  have HO2 : Hid (∃ cur,CA w.heap.size cur 67 w2 ∧ cur.size = an * 2) := by
   obtain ⟨gq,capq,curq,e1,_,e3,_,_,e6,_⟩ := (hown2.2.resolve_left (by rintro ⟨h,_⟩; cases h))
   simp only [Value.slice.injEq,Option.some.injEq,Addr.mk.injEq] at e1
   obtain ⟨⟨rfl,-,-⟩,-,rfl⟩ := e1
   exact ⟨curq,e3,e6⟩
  clear hown2 hgrow2
  go_loopw [15] (fun vi wr => ∃ i : Nat,i ≤ an ∧ vi = .int .i64 i ∧ Hid (∃ cur,CA w.heap.size cur 67 wr ∧ cur.size = an * 2) ∧ Hid (Below w.heap.size w wr) ∧ Hid (∀ i',i' < i → ∃ x0 x1,(∀ k v,[.slice x0.1 x0.2.1 x0.2.2,.slice x1.1 x1.2.1 x1.2.2][k]? = some v → wr.cell? ⟨w.heap.size,i' * 2 + k,none⟩ = some v) ∧ X i' (w.heap.size + 1) x0 x1 wr)) (fun vi _ => an - (intOf vi).toNat)
  case atStart => exact ⟨0,Nat.zero_le _,rfl,HO2,HB2,fun j hj => absurd hj (Nat.not_lt_zero _)⟩
  case round =>
   obtain ⟨i,hi,rfl,HC,HB,HI⟩ := hrel
   by_cases hlt : i < an
   ·obtain ⟨g0,g1⟩ := HAX.out i hlt
    obtain ⟨hpa,hga⟩ := HAG.out (by omega)
    obtain rfl : aa = ⟨ag,ao,none⟩ := by simpa using hpa
    have hPi := fun W h => hid (HP.out i hlt W h)
    have h0 := (HB.out.cell (p := ⟨ag,ao + i * 2,none⟩) hga).trans g0
    have h1 := (HB.out.cell (p := ⟨ag,ao + i * 2 + 1,none⟩) hga).trans g1
    clear hpa hga g0 g1
    obtain ⟨cur,hca,hcs⟩ := HC.out
    have hrl := hca.lt
    have hio : (i + 1) * 2 ≤ an * 2 := Nat.mul_le_mul_right 2 hlt
    have HIO := hid (show i * 2 + 2 ≤ an * 2 by omega)
    obtain ⟨NW,hNW⟩ : ∃ NW : World → Prop,NW = (fun W => ∃ x0 x1,(∀ k v,[.slice x0.1 x0.2.1 x0.2.2,.slice x1.1 x1.2.1 x1.2.2][k]? = some v → W.cell? ⟨w.heap.size,i * 2 + k,none⟩ = some v) ∧ X i (w.heap.size + 1) x0 x1 W) := ⟨_,rfl⟩
    have HNE := hid hNW
    have HNW : Hid (∀ (x0 x1 : Option Addr × Nat × Nat) (W : World),(∀ k v,[.slice x0.1 x0.2.1 x0.2.2,.slice x1.1 x1.2.1 x1.2.2][k]? = some v → W.cell? ⟨w.heap.size,i * 2 + k,none⟩ = some v) → X i (w.heap.size + 1) x0 x1 W → NW W) := by
     intro x0 x1 W hh hx
     rw [hNW]
     exact ⟨x0,x1,hh,hx⟩
    clear hNW
    have HXU := hid (fun x0 x1 W W' => HU.out i (w.heap.size + 1) x0 x1 W W')
    have HXM := hid (fun s x0 x1 W => HM.out i s (w.heap.size + 1) x0 x1 W)
    obtain ⟨Xi,hXi⟩ : ∃ Y,Y = X i := ⟨_,rfl⟩
    rw [← hXi] at HNW HXU HXM hPi
    clear hXi
    generalize p0 i = q0 at h0 hPi HNW
    generalize n0 i = m0 at h0 hPi HNW
    generalize c0 i = d0 at h0 hPi HNW
    generalize p1 i = q1 at h1 hPi HNW
    generalize n1 i = m1 at h1 hPi HNW
    generalize c1 i = d1 at h1 hPi HNW
    have HBA := hid ((Below.refl wr.heap.size wr).alloc (Nat.le_refl _) (.cells #[.slice q0 m0 d0,.slice q1 m1 d1] 67))
    have HB1 := hid (HB.out.trans (HBA.out.mono HB.out.size))
    have hcb := hca.below HBA.out hrl
    have HRL := hid (show w.heap.size < (wr.alloc (.cells #[.slice q0 m0 d0,.slice q1 m1 d1] 67)).heap.size by rw [size_al]; omega)
    have hPW := hPi (wr.alloc (.cells #[.slice q0 m0 d0,.slice q1 m1 d1] 67)) HB1.out
    have HCB := hid hcb
    have HRW := hid hrl
    obtain ⟨o0,b0⟩ : ∃ v,cur[i * 2]? = some v := ⟨_,Array.getElem?_eq_getElem (by omega)⟩
    have HZ0 := hid b0
    clear b0
    obtain ⟨o1,b1⟩ : ∃ v,cur[i * 2 + 1]? = some v := ⟨_,Array.getElem?_eq_getElem (by omega)⟩
    have HZ1 := hid b1
    clear b1
    have HCS := hid hcs
    clear hcs hca hcb hrl hio
    go_wp2_with (go_at_fn k; (with_reducible refine hPW.out.mono ?_); rintro e w3 ⟨x0,x1,rfl,hx3,hb3⟩; have hca3 := HCB.out.below hb3 HRL.out; obtain ⟨q0a,q0b,q0c⟩ := x0; obtain ⟨q1a,q1b,q1c⟩ := x1; have k0 : w3.cell? ⟨w.heap.size,i * 2,none⟩ = some o0 := hca3.at (k := i * 2) HZ0.out; have f0 : w3.frozen? ⟨w.heap.size,i * 2,none⟩ = false := hca3.free _; have k1 : w3.cell? ⟨w.heap.size,i * 2 + 1,none⟩ = some o1 := hca3.at (k := i * 2 + 1) HZ1.out; have f1 : w3.frozen? ⟨w.heap.size,i * 2 + 1,none⟩ = false := hca3.free _; have HCA3 := hid hca3; have HX3 := hid hx3; have HB3 := hid hb3; clear hca3 hb3 hx3)
    go_roundw
    case rel =>
     have hS := setL_ok 67 w.heap.size (an * 2) [.slice q0a q0b q0c,.slice q1a q1b q1c] (i * 2) w3 cur HCA3.out HCS.out HIO.out
     have hrs : w.heap.size < w3.heap.size := Nat.lt_of_lt_of_le HRL.out HB3.out.size
     have hu4 : UP (w.heap.size + 1) w3 (setL w3 w.heap.size (i * 2) [.slice q0a q0b q0c,.slice q1a q1b q1c]) := fun b hb _ => hS.other b (by omega)
     have hu3 : UP (w.heap.size + 1) wr (setL w3 w.heap.size (i * 2) [.slice q0a q0b q0c,.slice q1a q1b q1c]) := fun b hb hbl => (hS.other b (by omega)).trans ((HBA.out.trans (HB3.out.mono HBA.out.size)).block b hbl)
     refine ⟨i + 1,hlt,by go_num,hS.row,?_,fun j hj => ?_⟩
     ·exact (((HB1.out.trans (HB3.out.mono HB1.out.size)).setCell (p := ⟨w.heap.size,i * 2,none⟩) (Nat.le_refl _) (.slice q0a q0b q0c)).setCell (p := ⟨w.heap.size,i * 2 + 1,none⟩) (Nat.le_refl _) (.slice q1a q1b q1c))
     ·by_cases hji : j = i
      ·have hnw := HNW.out (q0a,q0b,q0c) (q1a,q1b,q1c) _ hS.here (HXU.out (q0a,q0b,q0c) (q1a,q1b,q1c) _ _ hu4 (HXM.out _ (q0a,q0b,q0c) (q1a,q1b,q1c) _ HRL.out HX3.out))
       rw [HNE.out] at hnw
       rw [hji]
       exact hnw
      ·obtain ⟨x0,x1,hh,hx⟩ := HI.out j (by omega)
       refine ⟨x0,x1,fun k v hk => ?_,HU.out j _ x0 x1 _ _ hu3 hx⟩
       have hkn : k < 2 := (List.getElem?_eq_some_iff.1 hk).1
       have hji2 : (j + 1) * 2 ≤ i * 2 := Nat.mul_le_mul_right 2 (by omega)
       show (setL w3 w.heap.size (i * 2) [.slice q0a q0b q0c,.slice q1a q1b q1c]).cell? _ = _
       rw [hS.front _ (by omega),← hh k v hk]
       exact (HBA.out.trans (HB3.out.mono HBA.out.size)).cell (p := ⟨w.heap.size,j * 2 + k,none⟩) HRW.out
    case measure => simp [intOf]; omega
   ·obtain rfl : i = an := by omega
    have HI2 := HI
    have HLT : Hid (w.heap.size < wr.heap.size ∧ ∀ k,wr.frozen? ⟨w.heap.size,k,none⟩ = false) := by obtain ⟨cur,hca,_⟩ := HC.out; exact ⟨hca.lt,fun k => hca.free k⟩
    clear HC
    go_wp2
    go_ret
    refine ⟨⟨_,_,w.heap.size,rfl,fun _ => ⟨rfl,Nat.le_refl _,HLT.out⟩,fun i hi => ?_⟩,HB.out⟩
    obtain ⟨x0,x1,hh,hx⟩ := HI2.out i hi
    exact ⟨x0,x1,hh,HM.out i _ _ x0 x1 _ (Nat.le_succ _) hx⟩
theorem infoC74 : (Tryz.prog.info? 74).map (fun i => (i.zero,i.size,i.bytes)) = some (some (.agg #[.string ⟨#[]⟩,.string ⟨#[]⟩,.int .i64 0,.int .i64 0,.int .i64 0,.int .i64 0,.int .i64 0,.bool false,.int .i64 0,.int .i64 0,.bool false,.int .i64 0,.bool false]),13,120) := by kernel_rfl
set_option maxHeartbeats 8000000 in
theorem cp_imp (k : Nat) (eg : ∀ args w,(callFunc k args).run Tryz.prog w = .ok (.enter k args) w)
  (an ac ag ao : Nat) (ap : Option Addr) (z0 : Nat → ByteArray) (z1 : Nat → ByteArray) (t2 : Nat → Int) (t3 : Nat → Int) (t4 : Nat → Int) (t5 : Nat → Int) (t6 : Nat → Int) (bo7 : Nat → Bool) (t8 : Nat → Int) (t9 : Nat → Int) (bo10 : Nat → Bool) (t11 : Nat → Int) (bo12 : Nat → Bool) (w : World) (han : an ≤ 1000000) (hag : an ≠ 0 → ap = some ⟨ag,ao,none⟩ ∧ ag < w.heap.size)
  (hax : ∀ i,i < an → w.cell? ⟨ag,ao + i * 13,none⟩ = some (.string (z0 i)) ∧ w.cell? ⟨ag,ao + i * 13 + 1,none⟩ = some (.string (z1 i)) ∧ w.cell? ⟨ag,ao + i * 13 + 2,none⟩ = some (.int .i64 (t2 i)) ∧ w.cell? ⟨ag,ao + i * 13 + 3,none⟩ = some (.int .i64 (t3 i)) ∧ w.cell? ⟨ag,ao + i * 13 + 4,none⟩ = some (.int .i64 (t4 i)) ∧ w.cell? ⟨ag,ao + i * 13 + 5,none⟩ = some (.int .i64 (t5 i)) ∧ w.cell? ⟨ag,ao + i * 13 + 6,none⟩ = some (.int .i64 (t6 i)) ∧ w.cell? ⟨ag,ao + i * 13 + 7,none⟩ = some (.bool (bo7 i)) ∧ w.cell? ⟨ag,ao + i * 13 + 8,none⟩ = some (.int .i64 (t8 i)) ∧ w.cell? ⟨ag,ao + i * 13 + 9,none⟩ = some (.int .i64 (t9 i)) ∧ w.cell? ⟨ag,ao + i * 13 + 10,none⟩ = some (.bool (bo10 i)) ∧ w.cell? ⟨ag,ao + i * 13 + 11,none⟩ = some (.int .i64 (t11 i)) ∧ w.cell? ⟨ag,ao + i * 13 + 12,none⟩ = some (.bool (bo12 i)))
  (hP : ∀ i,i < an → ∀ W,Below w.heap.size w W → Calls Tryz.prog k #[.agg #[.string (z0 i),.string (z1 i),.int .i64 (t2 i),.int .i64 (t3 i),.int .i64 (t4 i),.int .i64 (t5 i),.int .i64 (t6 i),.bool (bo7 i),.int .i64 (t8 i),.int .i64 (t9 i),.bool (bo10 i),.int .i64 (t11 i),.bool (bo12 i)]] W fun e w' => e = .returned (.agg #[.string (z0 i),.string (z1 i),.int .i64 (t2 i),.int .i64 (t3 i),.int .i64 (t4 i),.int .i64 (t5 i),.int .i64 (t6 i),.bool (bo7 i),.int .i64 (t8 i),.int .i64 (t9 i),.bool (bo10 i),.int .i64 (t11 i),.bool (bo12 i)]) ∧ Below W.heap.size W w') :
  Calls Tryz.prog 62 #[.slice ap an ac,.func (.func k) #[] #[]] w fun e w' => (∃ p c b,e = .returned (.slice p an c) ∧ (an ≠ 0 → p = some ⟨b,0,none⟩ ∧ w.heap.size ≤ b ∧ b < w'.heap.size ∧ ∀ k,w'.frozen? ⟨b,k,none⟩ = false) ∧ ∀ i,i < an → (∀ k v,[.string (z0 i),.string (z1 i),.int .i64 (t2 i),.int .i64 (t3 i),.int .i64 (t4 i),.int .i64 (t5 i),.int .i64 (t6 i),.bool (bo7 i),.int .i64 (t8 i),.int .i64 (t9 i),.bool (bo10 i),.int .i64 (t11 i),.bool (bo12 i)][k]? = some v → w'.cell? ⟨b,i * 13 + k,none⟩ = some v)) ∧ Below w.heap.size w w' := by
 cases ap with
 | none =>
  obtain rfl : an = 0 := by
   rcases Nat.eq_zero_or_pos an with h | h
   ·exact h
   ·cases (hag (by omega)).1
  have hq := fun W => Lib.run_eql_slice_nil (P := Tryz.prog) W 23 74 none 0 ac 0 0 Tryz.underlying23
  clear hag hax hP
  go_enter Tryz.func62,Tryz.ntmps62
  go_wp2
  go_ret
  exact ⟨⟨_,_,0,rfl,fun h => absurd rfl h,fun i hi => absurd hi (Nat.not_lt_zero i)⟩,Below.refl _ _⟩
 | some aa =>
  obtain ⟨i0,hi0,hz0,hz1,hz2⟩ := info_parts infoC74
  have HP := hid hP
  have HAX := hid hax
  have HAG := hid hag
  have hn1 : (an : Int) < 9223372036854775807 := by omega
  have HAN := hid han
  have hq := fun W => Lib.run_eql_slice_nil (P := Tryz.prog) W 23 74 (some aa) an ac 0 0 Tryz.underlying23
  clear hP hax hag han
  go_enter Tryz.func62,Tryz.ntmps62
  go_wp2_with (at_make; refine wpList_make_full _ rfl _ _ 23 rfl w.heap.size 74 i0 (.agg #[.string ⟨#[]⟩,.string ⟨#[]⟩,.int .i64 0,.int .i64 0,.int .i64 0,.int .i64 0,.int .i64 0,.bool false,.int .i64 0,.int .i64 0,.bool false,.int .i64 0,.bool false]) 13 Tryz.underlying23 hi0 hz0 hz1 .i64 .i64 _ _ an rfl rfl rfl rfl (by rw [hz2]; have := HAN.out; omega) (by have := HAN.out; unfold maxLen; omega) (Nat.le_refl _) ?_; intro w2 hown2 hgrow2)
  have HB2 := hid ((Below.refl w.heap.size w).grown hgrow2 (Nat.le_refl _) (by simp))
  have HO2 : Hid (∃ cur,CA w.heap.size cur 74 w2 ∧ cur.size = an * 13) := by
   obtain ⟨gq,capq,curq,e1,_,e3,_,_,e6,_⟩ := (hown2.2.resolve_left (by rintro ⟨h,_⟩; cases h))
   simp only [Value.slice.injEq,Option.some.injEq,Addr.mk.injEq] at e1
   obtain ⟨⟨rfl,-,-⟩,-,rfl⟩ := e1
   exact ⟨curq,e3,e6⟩
  clear hown2 hgrow2
  go_loopw [15] (fun vi wr => ∃ i : Nat,i ≤ an ∧ vi = .int .i64 i ∧ Hid (∃ cur,CA w.heap.size cur 74 wr ∧ cur.size = an * 13) ∧ Hid (Below w.heap.size w wr) ∧ Hid (∀ i',i' < i → (∀ k v,[.string (z0 i'),.string (z1 i'),.int .i64 (t2 i'),.int .i64 (t3 i'),.int .i64 (t4 i'),.int .i64 (t5 i'),.int .i64 (t6 i'),.bool (bo7 i'),.int .i64 (t8 i'),.int .i64 (t9 i'),.bool (bo10 i'),.int .i64 (t11 i'),.bool (bo12 i')][k]? = some v → wr.cell? ⟨w.heap.size,i' * 13 + k,none⟩ = some v))) (fun vi _ => an - (intOf vi).toNat)
  case atStart => exact ⟨0,Nat.zero_le _,rfl,HO2,HB2,fun j hj => absurd hj (Nat.not_lt_zero _)⟩
  case round =>
   obtain ⟨i,hi,rfl,HC,HB,HI⟩ := hrel
   by_cases hlt : i < an
   ·obtain ⟨g0,g1,g2,g3,g4,g5,g6,g7,g8,g9,g10,g11,g12⟩ := HAX.out i hlt
    obtain ⟨hpa,hga⟩ := HAG.out (by omega)
    obtain rfl : aa = ⟨ag,ao,none⟩ := by simpa using hpa
    have hPi := fun W h => hid (HP.out i hlt W h)
    have h0 := (HB.out.cell (p := ⟨ag,ao + i * 13,none⟩) hga).trans g0
    have h1 := (HB.out.cell (p := ⟨ag,ao + i * 13 + 1,none⟩) hga).trans g1
    have h2 := (HB.out.cell (p := ⟨ag,ao + i * 13 + 2,none⟩) hga).trans g2
    have h3 := (HB.out.cell (p := ⟨ag,ao + i * 13 + 3,none⟩) hga).trans g3
    have h4 := (HB.out.cell (p := ⟨ag,ao + i * 13 + 4,none⟩) hga).trans g4
    have h5 := (HB.out.cell (p := ⟨ag,ao + i * 13 + 5,none⟩) hga).trans g5
    have h6 := (HB.out.cell (p := ⟨ag,ao + i * 13 + 6,none⟩) hga).trans g6
    have h7 := (HB.out.cell (p := ⟨ag,ao + i * 13 + 7,none⟩) hga).trans g7
    have h8 := (HB.out.cell (p := ⟨ag,ao + i * 13 + 8,none⟩) hga).trans g8
    have h9 := (HB.out.cell (p := ⟨ag,ao + i * 13 + 9,none⟩) hga).trans g9
    have h10 := (HB.out.cell (p := ⟨ag,ao + i * 13 + 10,none⟩) hga).trans g10
    have h11 := (HB.out.cell (p := ⟨ag,ao + i * 13 + 11,none⟩) hga).trans g11
    have h12 := (HB.out.cell (p := ⟨ag,ao + i * 13 + 12,none⟩) hga).trans g12
    clear hpa hga g0 g1 g2 g3 g4 g5 g6 g7 g8 g9 g10 g11 g12
    obtain ⟨cur,hca,hcs⟩ := HC.out
    have hrl := hca.lt
    have hio : (i + 1) * 13 ≤ an * 13 := Nat.mul_le_mul_right 13 hlt
    have HIO := hid (show i * 13 + 13 ≤ an * 13 by omega)
    obtain ⟨NW,hNW⟩ : ∃ NW : World → Prop,NW = (fun W => (∀ k v,[.string (z0 i),.string (z1 i),.int .i64 (t2 i),.int .i64 (t3 i),.int .i64 (t4 i),.int .i64 (t5 i),.int .i64 (t6 i),.bool (bo7 i),.int .i64 (t8 i),.int .i64 (t9 i),.bool (bo10 i),.int .i64 (t11 i),.bool (bo12 i)][k]? = some v → W.cell? ⟨w.heap.size,i * 13 + k,none⟩ = some v)) := ⟨_,rfl⟩
    have HNE := hid hNW
    have HNW : Hid (∀ (W : World),(∀ k v,[.string (z0 i),.string (z1 i),.int .i64 (t2 i),.int .i64 (t3 i),.int .i64 (t4 i),.int .i64 (t5 i),.int .i64 (t6 i),.bool (bo7 i),.int .i64 (t8 i),.int .i64 (t9 i),.bool (bo10 i),.int .i64 (t11 i),.bool (bo12 i)][k]? = some v → W.cell? ⟨w.heap.size,i * 13 + k,none⟩ = some v) → NW W) := by
     intro W hh
     rw [hNW]
     exact hh
    clear hNW
    generalize z0 i = y0 at h0 hPi HNW
    generalize z1 i = y1 at h1 hPi HNW
    generalize t2 i = s2 at h2 hPi HNW
    generalize t3 i = s3 at h3 hPi HNW
    generalize t4 i = s4 at h4 hPi HNW
    generalize t5 i = s5 at h5 hPi HNW
    generalize t6 i = s6 at h6 hPi HNW
    generalize bo7 i = e7 at h7 hPi HNW
    generalize t8 i = s8 at h8 hPi HNW
    generalize t9 i = s9 at h9 hPi HNW
    generalize bo10 i = e10 at h10 hPi HNW
    generalize t11 i = s11 at h11 hPi HNW
    generalize bo12 i = e12 at h12 hPi HNW
    have HBA := hid ((Below.refl wr.heap.size wr).alloc (Nat.le_refl _) (.cells #[.string y0,.string y1,.int .i64 s2,.int .i64 s3,.int .i64 s4,.int .i64 s5,.int .i64 s6,.bool e7,.int .i64 s8,.int .i64 s9,.bool e10,.int .i64 s11,.bool e12] 74))
    have HB1 := hid (HB.out.trans (HBA.out.mono HB.out.size))
    have hcb := hca.below HBA.out hrl
    have HRL := hid (show w.heap.size < (wr.alloc (.cells #[.string y0,.string y1,.int .i64 s2,.int .i64 s3,.int .i64 s4,.int .i64 s5,.int .i64 s6,.bool e7,.int .i64 s8,.int .i64 s9,.bool e10,.int .i64 s11,.bool e12] 74)).heap.size by rw [size_al]; omega)
    have hPW := hPi (wr.alloc (.cells #[.string y0,.string y1,.int .i64 s2,.int .i64 s3,.int .i64 s4,.int .i64 s5,.int .i64 s6,.bool e7,.int .i64 s8,.int .i64 s9,.bool e10,.int .i64 s11,.bool e12] 74)) HB1.out
    have HCB := hid hcb
    have HRW := hid hrl
    obtain ⟨o0,b0⟩ : ∃ v,cur[i * 13]? = some v := ⟨_,Array.getElem?_eq_getElem (by omega)⟩
    have HZ0 := hid b0
    clear b0
    obtain ⟨o1,b1⟩ : ∃ v,cur[i * 13 + 1]? = some v := ⟨_,Array.getElem?_eq_getElem (by omega)⟩
    have HZ1 := hid b1
    clear b1
    obtain ⟨o2,b2⟩ : ∃ v,cur[i * 13 + 2]? = some v := ⟨_,Array.getElem?_eq_getElem (by omega)⟩
    have HZ2 := hid b2
    clear b2
    obtain ⟨o3,b3⟩ : ∃ v,cur[i * 13 + 3]? = some v := ⟨_,Array.getElem?_eq_getElem (by omega)⟩
    have HZ3 := hid b3
    clear b3
    obtain ⟨o4,b4⟩ : ∃ v,cur[i * 13 + 4]? = some v := ⟨_,Array.getElem?_eq_getElem (by omega)⟩
    have HZ4 := hid b4
    clear b4
    obtain ⟨o5,b5⟩ : ∃ v,cur[i * 13 + 5]? = some v := ⟨_,Array.getElem?_eq_getElem (by omega)⟩
    have HZ5 := hid b5
    clear b5
    obtain ⟨o6,b6⟩ : ∃ v,cur[i * 13 + 6]? = some v := ⟨_,Array.getElem?_eq_getElem (by omega)⟩
    have HZ6 := hid b6
    clear b6
    obtain ⟨o7,b7⟩ : ∃ v,cur[i * 13 + 7]? = some v := ⟨_,Array.getElem?_eq_getElem (by omega)⟩
    have HZ7 := hid b7
    clear b7
    obtain ⟨o8,b8⟩ : ∃ v,cur[i * 13 + 8]? = some v := ⟨_,Array.getElem?_eq_getElem (by omega)⟩
    have HZ8 := hid b8
    clear b8
    obtain ⟨o9,b9⟩ : ∃ v,cur[i * 13 + 9]? = some v := ⟨_,Array.getElem?_eq_getElem (by omega)⟩
    have HZ9 := hid b9
    clear b9
    obtain ⟨o10,b10⟩ : ∃ v,cur[i * 13 + 10]? = some v := ⟨_,Array.getElem?_eq_getElem (by omega)⟩
    have HZ10 := hid b10
    clear b10
    obtain ⟨o11,b11⟩ : ∃ v,cur[i * 13 + 11]? = some v := ⟨_,Array.getElem?_eq_getElem (by omega)⟩
    have HZ11 := hid b11
    clear b11
    obtain ⟨o12,b12⟩ : ∃ v,cur[i * 13 + 12]? = some v := ⟨_,Array.getElem?_eq_getElem (by omega)⟩
    have HZ12 := hid b12
    clear b12
    have HCS := hid hcs
    clear hcs hca hcb hrl hio
    go_wp2_with (go_at_fn k; (with_reducible refine hPW.out.mono ?_); rintro e w3 ⟨rfl,hb3⟩; have hca3 := HCB.out.below hb3 HRL.out; have k0 : w3.cell? ⟨w.heap.size,i * 13,none⟩ = some o0 := hca3.at (k := i * 13) HZ0.out; have f0 : w3.frozen? ⟨w.heap.size,i * 13,none⟩ = false := hca3.free _; have k1 : w3.cell? ⟨w.heap.size,i * 13 + 1,none⟩ = some o1 := hca3.at (k := i * 13 + 1) HZ1.out; have f1 : w3.frozen? ⟨w.heap.size,i * 13 + 1,none⟩ = false := hca3.free _; have k2 : w3.cell? ⟨w.heap.size,i * 13 + 2,none⟩ = some o2 := hca3.at (k := i * 13 + 2) HZ2.out; have f2 : w3.frozen? ⟨w.heap.size,i * 13 + 2,none⟩ = false := hca3.free _; have k3 : w3.cell? ⟨w.heap.size,i * 13 + 3,none⟩ = some o3 := hca3.at (k := i * 13 + 3) HZ3.out; have f3 : w3.frozen? ⟨w.heap.size,i * 13 + 3,none⟩ = false := hca3.free _; have k4 : w3.cell? ⟨w.heap.size,i * 13 + 4,none⟩ = some o4 := hca3.at (k := i * 13 + 4) HZ4.out; have f4 : w3.frozen? ⟨w.heap.size,i * 13 + 4,none⟩ = false := hca3.free _; have k5 : w3.cell? ⟨w.heap.size,i * 13 + 5,none⟩ = some o5 := hca3.at (k := i * 13 + 5) HZ5.out; have f5 : w3.frozen? ⟨w.heap.size,i * 13 + 5,none⟩ = false := hca3.free _; have k6 : w3.cell? ⟨w.heap.size,i * 13 + 6,none⟩ = some o6 := hca3.at (k := i * 13 + 6) HZ6.out; have f6 : w3.frozen? ⟨w.heap.size,i * 13 + 6,none⟩ = false := hca3.free _; have k7 : w3.cell? ⟨w.heap.size,i * 13 + 7,none⟩ = some o7 := hca3.at (k := i * 13 + 7) HZ7.out; have f7 : w3.frozen? ⟨w.heap.size,i * 13 + 7,none⟩ = false := hca3.free _; have k8 : w3.cell? ⟨w.heap.size,i * 13 + 8,none⟩ = some o8 := hca3.at (k := i * 13 + 8) HZ8.out; have f8 : w3.frozen? ⟨w.heap.size,i * 13 + 8,none⟩ = false := hca3.free _; have k9 : w3.cell? ⟨w.heap.size,i * 13 + 9,none⟩ = some o9 := hca3.at (k := i * 13 + 9) HZ9.out; have f9 : w3.frozen? ⟨w.heap.size,i * 13 + 9,none⟩ = false := hca3.free _; have k10 : w3.cell? ⟨w.heap.size,i * 13 + 10,none⟩ = some o10 := hca3.at (k := i * 13 + 10) HZ10.out; have f10 : w3.frozen? ⟨w.heap.size,i * 13 + 10,none⟩ = false := hca3.free _; have k11 : w3.cell? ⟨w.heap.size,i * 13 + 11,none⟩ = some o11 := hca3.at (k := i * 13 + 11) HZ11.out; have f11 : w3.frozen? ⟨w.heap.size,i * 13 + 11,none⟩ = false := hca3.free _; have k12 : w3.cell? ⟨w.heap.size,i * 13 + 12,none⟩ = some o12 := hca3.at (k := i * 13 + 12) HZ12.out; have f12 : w3.frozen? ⟨w.heap.size,i * 13 + 12,none⟩ = false := hca3.free _; have HCA3 := hid hca3; have HB3 := hid hb3; clear hca3 hb3)
    go_roundw
    case rel =>
     have hS := setL_ok 74 w.heap.size (an * 13) [.string y0,.string y1,.int .i64 s2,.int .i64 s3,.int .i64 s4,.int .i64 s5,.int .i64 s6,.bool e7,.int .i64 s8,.int .i64 s9,.bool e10,.int .i64 s11,.bool e12] (i * 13) w3 cur HCA3.out HCS.out HIO.out
     have hrs : w.heap.size < w3.heap.size := Nat.lt_of_lt_of_le HRL.out HB3.out.size
     have hu4 : UP (w.heap.size + 1) w3 (setL w3 w.heap.size (i * 13) [.string y0,.string y1,.int .i64 s2,.int .i64 s3,.int .i64 s4,.int .i64 s5,.int .i64 s6,.bool e7,.int .i64 s8,.int .i64 s9,.bool e10,.int .i64 s11,.bool e12]) := fun b hb _ => hS.other b (by omega)
     have hu3 : UP (w.heap.size + 1) wr (setL w3 w.heap.size (i * 13) [.string y0,.string y1,.int .i64 s2,.int .i64 s3,.int .i64 s4,.int .i64 s5,.int .i64 s6,.bool e7,.int .i64 s8,.int .i64 s9,.bool e10,.int .i64 s11,.bool e12]) := fun b hb hbl => (hS.other b (by omega)).trans ((HBA.out.trans (HB3.out.mono HBA.out.size)).block b hbl)
     refine ⟨i + 1,hlt,by go_num,hS.row,?_,fun j hj => ?_⟩
     ·exact ((((((((((((((HB1.out.trans (HB3.out.mono HB1.out.size)).setCell (p := ⟨w.heap.size,i * 13,none⟩) (Nat.le_refl _) (.string y0)).setCell (p := ⟨w.heap.size,i * 13 + 1,none⟩) (Nat.le_refl _) (.string y1)).setCell (p := ⟨w.heap.size,i * 13 + 2,none⟩) (Nat.le_refl _) (.int .i64 s2)).setCell (p := ⟨w.heap.size,i * 13 + 3,none⟩) (Nat.le_refl _) (.int .i64 s3)).setCell (p := ⟨w.heap.size,i * 13 + 4,none⟩) (Nat.le_refl _) (.int .i64 s4)).setCell (p := ⟨w.heap.size,i * 13 + 5,none⟩) (Nat.le_refl _) (.int .i64 s5)).setCell (p := ⟨w.heap.size,i * 13 + 6,none⟩) (Nat.le_refl _) (.int .i64 s6)).setCell (p := ⟨w.heap.size,i * 13 + 7,none⟩) (Nat.le_refl _) (.bool e7)).setCell (p := ⟨w.heap.size,i * 13 + 8,none⟩) (Nat.le_refl _) (.int .i64 s8)).setCell (p := ⟨w.heap.size,i * 13 + 9,none⟩) (Nat.le_refl _) (.int .i64 s9)).setCell (p := ⟨w.heap.size,i * 13 + 10,none⟩) (Nat.le_refl _) (.bool e10)).setCell (p := ⟨w.heap.size,i * 13 + 11,none⟩) (Nat.le_refl _) (.int .i64 s11)).setCell (p := ⟨w.heap.size,i * 13 + 12,none⟩) (Nat.le_refl _) (.bool e12))
     ·by_cases hji : j = i
      ·have hnw := HNW.out _ hS.here
       rw [HNE.out] at hnw
       rw [hji]
       exact hnw
      ·have hh := HI.out j (by omega)
       intro k v hk
       have hkn : k < 13 := (List.getElem?_eq_some_iff.1 hk).1
       have hji2 : (j + 1) * 13 ≤ i * 13 := Nat.mul_le_mul_right 13 (by omega)
       show (setL w3 w.heap.size (i * 13) [.string y0,.string y1,.int .i64 s2,.int .i64 s3,.int .i64 s4,.int .i64 s5,.int .i64 s6,.bool e7,.int .i64 s8,.int .i64 s9,.bool e10,.int .i64 s11,.bool e12]).cell? _ = _
       rw [hS.front _ (by omega),← hh k v hk]
       exact (HBA.out.trans (HB3.out.mono HBA.out.size)).cell (p := ⟨w.heap.size,j * 13 + k,none⟩) HRW.out
    case measure => simp [intOf]; omega
   ·obtain rfl : i = an := by omega
    have HI2 := HI
    have HLT : Hid (w.heap.size < wr.heap.size ∧ ∀ k,wr.frozen? ⟨w.heap.size,k,none⟩ = false) := by obtain ⟨cur,hca,_⟩ := HC.out; exact ⟨hca.lt,fun k => hca.free k⟩
    clear HC
    go_wp2
    go_ret
    refine ⟨⟨_,_,w.heap.size,rfl,fun _ => ⟨rfl,Nat.le_refl _,HLT.out⟩,fun i hi => ?_⟩,HB.out⟩
    exact HI2.out i hi
theorem infoC42 : (Tryz.prog.info? 42).map (fun i => (i.zero,i.size,i.bytes)) = some (some (.agg #[.int .i64 0,.slice none 0 0,.slice none 0 0]),3,56) := by kernel_rfl
set_option maxHeartbeats 8000000 in
theorem cp_code (k : Nat) (eg : ∀ args w,(callFunc k args).run Tryz.prog w = .ok (.enter k args) w) (X : Nat → Nat → (Option Addr × Nat × Nat) → (Option Addr × Nat × Nat) → World → Prop) (hXm : ∀ j s s' x1 x2 W,s' ≤ s → X j s x1 x2 W → X j s' x1 x2 W) (hXu : ∀ j s x1 x2 W W',UP s W W' → X j s x1 x2 W → X j s x1 x2 W')
  (an ac ag ao : Nat) (ap : Option Addr) (t0 : Nat → Int) (p1 : Nat → Option Addr) (n1 c1 : Nat → Nat) (p2 : Nat → Option Addr) (n2 c2 : Nat → Nat) (w : World) (han : an ≤ 1000000) (hag : an ≠ 0 → ap = some ⟨ag,ao,none⟩ ∧ ag < w.heap.size)
  (hax : ∀ i,i < an → w.cell? ⟨ag,ao + i * 3,none⟩ = some (.int .i64 (t0 i)) ∧ w.cell? ⟨ag,ao + i * 3 + 1,none⟩ = some (.slice (p1 i) (n1 i) (c1 i)) ∧ w.cell? ⟨ag,ao + i * 3 + 2,none⟩ = some (.slice (p2 i) (n2 i) (c2 i)))
  (hP : ∀ i,i < an → ∀ W,Below w.heap.size w W → Calls Tryz.prog k #[.agg #[.int .i64 (t0 i),.slice (p1 i) (n1 i) (c1 i),.slice (p2 i) (n2 i) (c2 i)]] W fun e w' => ∃ x1 x2,e = .returned (.agg #[.int .i64 (t0 i),.slice x1.1 x1.2.1 x1.2.2,.slice x2.1 x2.2.1 x2.2.2]) ∧ X i W.heap.size x1 x2 w' ∧ Below W.heap.size W w') :
  Calls Tryz.prog 64 #[.slice ap an ac,.func (.func k) #[] #[]] w fun e w' => (∃ p c b,e = .returned (.slice p an c) ∧ (an ≠ 0 → p = some ⟨b,0,none⟩ ∧ w.heap.size ≤ b ∧ b < w'.heap.size ∧ ∀ k,w'.frozen? ⟨b,k,none⟩ = false) ∧ ∀ i,i < an → ∃ x1 x2,(∀ k v,[.int .i64 (t0 i),.slice x1.1 x1.2.1 x1.2.2,.slice x2.1 x2.2.1 x2.2.2][k]? = some v → w'.cell? ⟨b,i * 3 + k,none⟩ = some v) ∧ X i w.heap.size x1 x2 w') ∧ Below w.heap.size w w' := by
 cases ap with
 | none =>
  obtain rfl : an = 0 := by
   rcases Nat.eq_zero_or_pos an with h | h
   ·exact h
   ·cases (hag (by omega)).1
  have hq := fun W => Lib.run_eql_slice_nil (P := Tryz.prog) W 24 42 none 0 ac 0 0 Tryz.underlying24
  clear hag hax hP hXm hXu
  go_enter Tryz.func64,Tryz.ntmps64
  go_wp2
  go_ret
  exact ⟨⟨_,_,0,rfl,fun h => absurd rfl h,fun i hi => absurd hi (Nat.not_lt_zero i)⟩,Below.refl _ _⟩
 | some aa =>
  obtain ⟨i0,hi0,hz0,hz1,hz2⟩ := info_parts infoC42
  have HP := hid hP
  have HAX := hid hax
  have HAG := hid hag
  have HM := hid hXm
  have HU := hid hXu
  have hn1 : (an : Int) < 9223372036854775807 := by omega
  have HAN := hid han
  have hq := fun W => Lib.run_eql_slice_nil (P := Tryz.prog) W 24 42 (some aa) an ac 0 0 Tryz.underlying24
  clear hP hax hag hXm hXu han
  go_enter Tryz.func64,Tryz.ntmps64
  go_wp2_with (at_make; refine wpList_make_full _ rfl _ _ 24 rfl w.heap.size 42 i0 (.agg #[.int .i64 0,.slice none 0 0,.slice none 0 0]) 3 Tryz.underlying24 hi0 hz0 hz1 .i64 .i64 _ _ an rfl rfl rfl rfl (by rw [hz2]; have := HAN.out; omega) (by have := HAN.out; unfold maxLen; omega) (Nat.le_refl _) ?_; intro w2 hown2 hgrow2)
  have HB2 := hid ((Below.refl w.heap.size w).grown hgrow2 (Nat.le_refl _) (by simp))
  have HO2 : Hid (∃ cur,CA w.heap.size cur 42 w2 ∧ cur.size = an * 3) := by
   obtain ⟨gq,capq,curq,e1,_,e3,_,_,e6,_⟩ := (hown2.2.resolve_left (by rintro ⟨h,_⟩; cases h))
   simp only [Value.slice.injEq,Option.some.injEq,Addr.mk.injEq] at e1
   obtain ⟨⟨rfl,-,-⟩,-,rfl⟩ := e1
   exact ⟨curq,e3,e6⟩
  clear hown2 hgrow2
  go_loopw [15] (fun vi wr => ∃ i : Nat,i ≤ an ∧ vi = .int .i64 i ∧ Hid (∃ cur,CA w.heap.size cur 42 wr ∧ cur.size = an * 3) ∧ Hid (Below w.heap.size w wr) ∧ Hid (∀ i',i' < i → ∃ x1 x2,(∀ k v,[.int .i64 (t0 i'),.slice x1.1 x1.2.1 x1.2.2,.slice x2.1 x2.2.1 x2.2.2][k]? = some v → wr.cell? ⟨w.heap.size,i' * 3 + k,none⟩ = some v) ∧ X i' (w.heap.size + 1) x1 x2 wr)) (fun vi _ => an - (intOf vi).toNat)
  case atStart => exact ⟨0,Nat.zero_le _,rfl,HO2,HB2,fun j hj => absurd hj (Nat.not_lt_zero _)⟩
  case round =>
   obtain ⟨i,hi,rfl,HC,HB,HI⟩ := hrel
   by_cases hlt : i < an
   ·obtain ⟨g0,g1,g2⟩ := HAX.out i hlt
    obtain ⟨hpa,hga⟩ := HAG.out (by omega)
    obtain rfl : aa = ⟨ag,ao,none⟩ := by simpa using hpa
    have hPi := fun W h => hid (HP.out i hlt W h)
    have h0 := (HB.out.cell (p := ⟨ag,ao + i * 3,none⟩) hga).trans g0
    have h1 := (HB.out.cell (p := ⟨ag,ao + i * 3 + 1,none⟩) hga).trans g1
    have h2 := (HB.out.cell (p := ⟨ag,ao + i * 3 + 2,none⟩) hga).trans g2
    clear hpa hga g0 g1 g2
    obtain ⟨cur,hca,hcs⟩ := HC.out
    have hrl := hca.lt
    have hio : (i + 1) * 3 ≤ an * 3 := Nat.mul_le_mul_right 3 hlt
    have HIO := hid (show i * 3 + 3 ≤ an * 3 by omega)
    obtain ⟨NW,hNW⟩ : ∃ NW : World → Prop,NW = (fun W => ∃ x1 x2,(∀ k v,[.int .i64 (t0 i),.slice x1.1 x1.2.1 x1.2.2,.slice x2.1 x2.2.1 x2.2.2][k]? = some v → W.cell? ⟨w.heap.size,i * 3 + k,none⟩ = some v) ∧ X i (w.heap.size + 1) x1 x2 W) := ⟨_,rfl⟩
    have HNE := hid hNW
    have HNW : Hid (∀ (x1 x2 : Option Addr × Nat × Nat) (W : World),(∀ k v,[.int .i64 (t0 i),.slice x1.1 x1.2.1 x1.2.2,.slice x2.1 x2.2.1 x2.2.2][k]? = some v → W.cell? ⟨w.heap.size,i * 3 + k,none⟩ = some v) → X i (w.heap.size + 1) x1 x2 W → NW W) := by
     intro x1 x2 W hh hx
     rw [hNW]
     exact ⟨x1,x2,hh,hx⟩
    clear hNW
    have HXU := hid (fun x1 x2 W W' => HU.out i (w.heap.size + 1) x1 x2 W W')
    have HXM := hid (fun s x1 x2 W => HM.out i s (w.heap.size + 1) x1 x2 W)
    obtain ⟨Xi,hXi⟩ : ∃ Y,Y = X i := ⟨_,rfl⟩
    rw [← hXi] at HNW HXU HXM hPi
    clear hXi
    generalize t0 i = s0 at h0 hPi HNW
    generalize p1 i = q1 at h1 hPi HNW
    generalize n1 i = m1 at h1 hPi HNW
    generalize c1 i = d1 at h1 hPi HNW
    generalize p2 i = q2 at h2 hPi HNW
    generalize n2 i = m2 at h2 hPi HNW
    generalize c2 i = d2 at h2 hPi HNW
    have HBA := hid ((Below.refl wr.heap.size wr).alloc (Nat.le_refl _) (.cells #[.int .i64 s0,.slice q1 m1 d1,.slice q2 m2 d2] 42))
    have HB1 := hid (HB.out.trans (HBA.out.mono HB.out.size))
    have hcb := hca.below HBA.out hrl
    have HRL := hid (show w.heap.size < (wr.alloc (.cells #[.int .i64 s0,.slice q1 m1 d1,.slice q2 m2 d2] 42)).heap.size by rw [size_al]; omega)
    have hPW := hPi (wr.alloc (.cells #[.int .i64 s0,.slice q1 m1 d1,.slice q2 m2 d2] 42)) HB1.out
    have HCB := hid hcb
    have HRW := hid hrl
    obtain ⟨o0,b0⟩ : ∃ v,cur[i * 3]? = some v := ⟨_,Array.getElem?_eq_getElem (by omega)⟩
    have HZ0 := hid b0
    clear b0
    obtain ⟨o1,b1⟩ : ∃ v,cur[i * 3 + 1]? = some v := ⟨_,Array.getElem?_eq_getElem (by omega)⟩
    have HZ1 := hid b1
    clear b1
    obtain ⟨o2,b2⟩ : ∃ v,cur[i * 3 + 2]? = some v := ⟨_,Array.getElem?_eq_getElem (by omega)⟩
    have HZ2 := hid b2
    clear b2
    have HCS := hid hcs
    clear hcs hca hcb hrl hio
    go_wp2_with (go_at_fn k; (with_reducible refine hPW.out.mono ?_); rintro e w3 ⟨x1,x2,rfl,hx3,hb3⟩; have hca3 := HCB.out.below hb3 HRL.out; obtain ⟨q1a,q1b,q1c⟩ := x1; obtain ⟨q2a,q2b,q2c⟩ := x2; have k0 : w3.cell? ⟨w.heap.size,i * 3,none⟩ = some o0 := hca3.at (k := i * 3) HZ0.out; have f0 : w3.frozen? ⟨w.heap.size,i * 3,none⟩ = false := hca3.free _; have k1 : w3.cell? ⟨w.heap.size,i * 3 + 1,none⟩ = some o1 := hca3.at (k := i * 3 + 1) HZ1.out; have f1 : w3.frozen? ⟨w.heap.size,i * 3 + 1,none⟩ = false := hca3.free _; have k2 : w3.cell? ⟨w.heap.size,i * 3 + 2,none⟩ = some o2 := hca3.at (k := i * 3 + 2) HZ2.out; have f2 : w3.frozen? ⟨w.heap.size,i * 3 + 2,none⟩ = false := hca3.free _; have HCA3 := hid hca3; have HX3 := hid hx3; have HB3 := hid hb3; clear hca3 hb3 hx3)
    go_roundw
    case rel =>
     have hS := setL_ok 42 w.heap.size (an * 3) [.int .i64 s0,.slice q1a q1b q1c,.slice q2a q2b q2c] (i * 3) w3 cur HCA3.out HCS.out HIO.out
     have hrs : w.heap.size < w3.heap.size := Nat.lt_of_lt_of_le HRL.out HB3.out.size
     have hu4 : UP (w.heap.size + 1) w3 (setL w3 w.heap.size (i * 3) [.int .i64 s0,.slice q1a q1b q1c,.slice q2a q2b q2c]) := fun b hb _ => hS.other b (by omega)
     have hu3 : UP (w.heap.size + 1) wr (setL w3 w.heap.size (i * 3) [.int .i64 s0,.slice q1a q1b q1c,.slice q2a q2b q2c]) := fun b hb hbl => (hS.other b (by omega)).trans ((HBA.out.trans (HB3.out.mono HBA.out.size)).block b hbl)
     refine ⟨i + 1,hlt,by go_num,hS.row,?_,fun j hj => ?_⟩
     ·exact ((((HB1.out.trans (HB3.out.mono HB1.out.size)).setCell (p := ⟨w.heap.size,i * 3,none⟩) (Nat.le_refl _) (.int .i64 s0)).setCell (p := ⟨w.heap.size,i * 3 + 1,none⟩) (Nat.le_refl _) (.slice q1a q1b q1c)).setCell (p := ⟨w.heap.size,i * 3 + 2,none⟩) (Nat.le_refl _) (.slice q2a q2b q2c))
     ·by_cases hji : j = i
      ·have hnw := HNW.out (q1a,q1b,q1c) (q2a,q2b,q2c) _ hS.here (HXU.out (q1a,q1b,q1c) (q2a,q2b,q2c) _ _ hu4 (HXM.out _ (q1a,q1b,q1c) (q2a,q2b,q2c) _ HRL.out HX3.out))
       rw [HNE.out] at hnw
       rw [hji]
       exact hnw
      ·obtain ⟨x1,x2,hh,hx⟩ := HI.out j (by omega)
       refine ⟨x1,x2,fun k v hk => ?_,HU.out j _ x1 x2 _ _ hu3 hx⟩
       have hkn : k < 3 := (List.getElem?_eq_some_iff.1 hk).1
       have hji2 : (j + 1) * 3 ≤ i * 3 := Nat.mul_le_mul_right 3 (by omega)
       show (setL w3 w.heap.size (i * 3) [.int .i64 s0,.slice q1a q1b q1c,.slice q2a q2b q2c]).cell? _ = _
       rw [hS.front _ (by omega),← hh k v hk]
       exact (HBA.out.trans (HB3.out.mono HBA.out.size)).cell (p := ⟨w.heap.size,j * 3 + k,none⟩) HRW.out
    case measure => simp [intOf]; omega
   ·obtain rfl : i = an := by omega
    have HI2 := HI
    have HLT : Hid (w.heap.size < wr.heap.size ∧ ∀ k,wr.frozen? ⟨w.heap.size,k,none⟩ = false) := by obtain ⟨cur,hca,_⟩ := HC.out; exact ⟨hca.lt,fun k => hca.free k⟩
    clear HC
    go_wp2
    go_ret
    refine ⟨⟨_,_,w.heap.size,rfl,fun _ => ⟨rfl,Nat.le_refl _,HLT.out⟩,fun i hi => ?_⟩,HB.out⟩
    obtain ⟨x1,x2,hh,hx⟩ := HI2.out i hi
    exact ⟨x1,x2,hh,HM.out i _ _ x1 x2 _ (Nat.le_succ _) hx⟩
theorem infoC72 : (Tryz.prog.info? 72).map (fun i => (i.zero,i.size,i.bytes)) = some (some (.agg #[.int .i64 0,.int .i64 0,.int .i64 0,.bool false]),4,32) := by kernel_rfl
set_option maxHeartbeats 8000000 in
theorem cp_tab (k : Nat) (eg : ∀ args w,(callFunc k args).run Tryz.prog w = .ok (.enter k args) w)
  (an ac ag ao : Nat) (ap : Option Addr) (t0 : Nat → Int) (t1 : Nat → Int) (t2 : Nat → Int) (bo3 : Nat → Bool) (w : World) (han : an ≤ 1000000) (hag : an ≠ 0 → ap = some ⟨ag,ao,none⟩ ∧ ag < w.heap.size)
  (hax : ∀ i,i < an → w.cell? ⟨ag,ao + i * 4,none⟩ = some (.int .i64 (t0 i)) ∧ w.cell? ⟨ag,ao + i * 4 + 1,none⟩ = some (.int .i64 (t1 i)) ∧ w.cell? ⟨ag,ao + i * 4 + 2,none⟩ = some (.int .i64 (t2 i)) ∧ w.cell? ⟨ag,ao + i * 4 + 3,none⟩ = some (.bool (bo3 i)))
  (hP : ∀ i,i < an → ∀ W,Below w.heap.size w W → Calls Tryz.prog k #[.agg #[.int .i64 (t0 i),.int .i64 (t1 i),.int .i64 (t2 i),.bool (bo3 i)]] W fun e w' => e = .returned (.agg #[.int .i64 (t0 i),.int .i64 (t1 i),.int .i64 (t2 i),.bool (bo3 i)]) ∧ Below W.heap.size W w') :
  Calls Tryz.prog 66 #[.slice ap an ac,.func (.func k) #[] #[]] w fun e w' => (∃ p c b,e = .returned (.slice p an c) ∧ (an ≠ 0 → p = some ⟨b,0,none⟩ ∧ w.heap.size ≤ b ∧ b < w'.heap.size ∧ ∀ k,w'.frozen? ⟨b,k,none⟩ = false) ∧ ∀ i,i < an → (∀ k v,[.int .i64 (t0 i),.int .i64 (t1 i),.int .i64 (t2 i),.bool (bo3 i)][k]? = some v → w'.cell? ⟨b,i * 4 + k,none⟩ = some v)) ∧ Below w.heap.size w w' := by
 cases ap with
 | none =>
  obtain rfl : an = 0 := by
   rcases Nat.eq_zero_or_pos an with h | h
   ·exact h
   ·cases (hag (by omega)).1
  have hq := fun W => Lib.run_eql_slice_nil (P := Tryz.prog) W 25 72 none 0 ac 0 0 Tryz.underlying25
  clear hag hax hP
  go_enter Tryz.func66,Tryz.ntmps66
  go_wp2
  go_ret
  exact ⟨⟨_,_,0,rfl,fun h => absurd rfl h,fun i hi => absurd hi (Nat.not_lt_zero i)⟩,Below.refl _ _⟩
 | some aa =>
  obtain ⟨i0,hi0,hz0,hz1,hz2⟩ := info_parts infoC72
  have HP := hid hP
  have HAX := hid hax
  have HAG := hid hag
  have hn1 : (an : Int) < 9223372036854775807 := by omega
  have HAN := hid han
  have hq := fun W => Lib.run_eql_slice_nil (P := Tryz.prog) W 25 72 (some aa) an ac 0 0 Tryz.underlying25
  clear hP hax hag han
  go_enter Tryz.func66,Tryz.ntmps66
  go_wp2_with (at_make; refine wpList_make_full _ rfl _ _ 25 rfl w.heap.size 72 i0 (.agg #[.int .i64 0,.int .i64 0,.int .i64 0,.bool false]) 4 Tryz.underlying25 hi0 hz0 hz1 .i64 .i64 _ _ an rfl rfl rfl rfl (by rw [hz2]; have := HAN.out; omega) (by have := HAN.out; unfold maxLen; omega) (Nat.le_refl _) ?_; intro w2 hown2 hgrow2)
  have HB2 := hid ((Below.refl w.heap.size w).grown hgrow2 (Nat.le_refl _) (by simp))
  have HO2 : Hid (∃ cur,CA w.heap.size cur 72 w2 ∧ cur.size = an * 4) := by
   obtain ⟨gq,capq,curq,e1,_,e3,_,_,e6,_⟩ := (hown2.2.resolve_left (by rintro ⟨h,_⟩; cases h))
   simp only [Value.slice.injEq,Option.some.injEq,Addr.mk.injEq] at e1
   obtain ⟨⟨rfl,-,-⟩,-,rfl⟩ := e1
   exact ⟨curq,e3,e6⟩
  clear hown2 hgrow2
  go_loopw [15] (fun vi wr => ∃ i : Nat,i ≤ an ∧ vi = .int .i64 i ∧ Hid (∃ cur,CA w.heap.size cur 72 wr ∧ cur.size = an * 4) ∧ Hid (Below w.heap.size w wr) ∧ Hid (∀ i',i' < i → (∀ k v,[.int .i64 (t0 i'),.int .i64 (t1 i'),.int .i64 (t2 i'),.bool (bo3 i')][k]? = some v → wr.cell? ⟨w.heap.size,i' * 4 + k,none⟩ = some v))) (fun vi _ => an - (intOf vi).toNat)
  case atStart => exact ⟨0,Nat.zero_le _,rfl,HO2,HB2,fun j hj => absurd hj (Nat.not_lt_zero _)⟩
  case round =>
   obtain ⟨i,hi,rfl,HC,HB,HI⟩ := hrel
   by_cases hlt : i < an
   ·obtain ⟨g0,g1,g2,g3⟩ := HAX.out i hlt
    obtain ⟨hpa,hga⟩ := HAG.out (by omega)
    obtain rfl : aa = ⟨ag,ao,none⟩ := by simpa using hpa
    have hPi := fun W h => hid (HP.out i hlt W h)
    have h0 := (HB.out.cell (p := ⟨ag,ao + i * 4,none⟩) hga).trans g0
    have h1 := (HB.out.cell (p := ⟨ag,ao + i * 4 + 1,none⟩) hga).trans g1
    have h2 := (HB.out.cell (p := ⟨ag,ao + i * 4 + 2,none⟩) hga).trans g2
    have h3 := (HB.out.cell (p := ⟨ag,ao + i * 4 + 3,none⟩) hga).trans g3
    clear hpa hga g0 g1 g2 g3
    obtain ⟨cur,hca,hcs⟩ := HC.out
    have hrl := hca.lt
    have hio : (i + 1) * 4 ≤ an * 4 := Nat.mul_le_mul_right 4 hlt
    have HIO := hid (show i * 4 + 4 ≤ an * 4 by omega)
    obtain ⟨NW,hNW⟩ : ∃ NW : World → Prop,NW = (fun W => (∀ k v,[.int .i64 (t0 i),.int .i64 (t1 i),.int .i64 (t2 i),.bool (bo3 i)][k]? = some v → W.cell? ⟨w.heap.size,i * 4 + k,none⟩ = some v)) := ⟨_,rfl⟩
    have HNE := hid hNW
    have HNW : Hid (∀ (W : World),(∀ k v,[.int .i64 (t0 i),.int .i64 (t1 i),.int .i64 (t2 i),.bool (bo3 i)][k]? = some v → W.cell? ⟨w.heap.size,i * 4 + k,none⟩ = some v) → NW W) := by
     intro W hh
     rw [hNW]
     exact hh
    clear hNW
    generalize t0 i = s0 at h0 hPi HNW
    generalize t1 i = s1 at h1 hPi HNW
    generalize t2 i = s2 at h2 hPi HNW
    generalize bo3 i = e3 at h3 hPi HNW
    have HBA := hid ((Below.refl wr.heap.size wr).alloc (Nat.le_refl _) (.cells #[.int .i64 s0,.int .i64 s1,.int .i64 s2,.bool e3] 72))
    have HB1 := hid (HB.out.trans (HBA.out.mono HB.out.size))
    have hcb := hca.below HBA.out hrl
    have HRL := hid (show w.heap.size < (wr.alloc (.cells #[.int .i64 s0,.int .i64 s1,.int .i64 s2,.bool e3] 72)).heap.size by rw [size_al]; omega)
    have hPW := hPi (wr.alloc (.cells #[.int .i64 s0,.int .i64 s1,.int .i64 s2,.bool e3] 72)) HB1.out
    have HCB := hid hcb
    have HRW := hid hrl
    obtain ⟨o0,b0⟩ : ∃ v,cur[i * 4]? = some v := ⟨_,Array.getElem?_eq_getElem (by omega)⟩
    have HZ0 := hid b0
    clear b0
    obtain ⟨o1,b1⟩ : ∃ v,cur[i * 4 + 1]? = some v := ⟨_,Array.getElem?_eq_getElem (by omega)⟩
    have HZ1 := hid b1
    clear b1
    obtain ⟨o2,b2⟩ : ∃ v,cur[i * 4 + 2]? = some v := ⟨_,Array.getElem?_eq_getElem (by omega)⟩
    have HZ2 := hid b2
    clear b2
    obtain ⟨o3,b3⟩ : ∃ v,cur[i * 4 + 3]? = some v := ⟨_,Array.getElem?_eq_getElem (by omega)⟩
    have HZ3 := hid b3
    clear b3
    have HCS := hid hcs
    clear hcs hca hcb hrl hio
    go_wp2_with (go_at_fn k; (with_reducible refine hPW.out.mono ?_); rintro e w3 ⟨rfl,hb3⟩; have hca3 := HCB.out.below hb3 HRL.out; have k0 : w3.cell? ⟨w.heap.size,i * 4,none⟩ = some o0 := hca3.at (k := i * 4) HZ0.out; have f0 : w3.frozen? ⟨w.heap.size,i * 4,none⟩ = false := hca3.free _; have k1 : w3.cell? ⟨w.heap.size,i * 4 + 1,none⟩ = some o1 := hca3.at (k := i * 4 + 1) HZ1.out; have f1 : w3.frozen? ⟨w.heap.size,i * 4 + 1,none⟩ = false := hca3.free _; have k2 : w3.cell? ⟨w.heap.size,i * 4 + 2,none⟩ = some o2 := hca3.at (k := i * 4 + 2) HZ2.out; have f2 : w3.frozen? ⟨w.heap.size,i * 4 + 2,none⟩ = false := hca3.free _; have k3 : w3.cell? ⟨w.heap.size,i * 4 + 3,none⟩ = some o3 := hca3.at (k := i * 4 + 3) HZ3.out; have f3 : w3.frozen? ⟨w.heap.size,i * 4 + 3,none⟩ = false := hca3.free _; have HCA3 := hid hca3; have HB3 := hid hb3; clear hca3 hb3)
    go_roundw
    case rel =>
     have hS := setL_ok 72 w.heap.size (an * 4) [.int .i64 s0,.int .i64 s1,.int .i64 s2,.bool e3] (i * 4) w3 cur HCA3.out HCS.out HIO.out
     have hrs : w.heap.size < w3.heap.size := Nat.lt_of_lt_of_le HRL.out HB3.out.size
     have hu4 : UP (w.heap.size + 1) w3 (setL w3 w.heap.size (i * 4) [.int .i64 s0,.int .i64 s1,.int .i64 s2,.bool e3]) := fun b hb _ => hS.other b (by omega)
     have hu3 : UP (w.heap.size + 1) wr (setL w3 w.heap.size (i * 4) [.int .i64 s0,.int .i64 s1,.int .i64 s2,.bool e3]) := fun b hb hbl => (hS.other b (by omega)).trans ((HBA.out.trans (HB3.out.mono HBA.out.size)).block b hbl)
     refine ⟨i + 1,hlt,by go_num,hS.row,?_,fun j hj => ?_⟩
     ·exact (((((HB1.out.trans (HB3.out.mono HB1.out.size)).setCell (p := ⟨w.heap.size,i * 4,none⟩) (Nat.le_refl _) (.int .i64 s0)).setCell (p := ⟨w.heap.size,i * 4 + 1,none⟩) (Nat.le_refl _) (.int .i64 s1)).setCell (p := ⟨w.heap.size,i * 4 + 2,none⟩) (Nat.le_refl _) (.int .i64 s2)).setCell (p := ⟨w.heap.size,i * 4 + 3,none⟩) (Nat.le_refl _) (.bool e3))
     ·by_cases hji : j = i
      ·have hnw := HNW.out _ hS.here
       rw [HNE.out] at hnw
       rw [hji]
       exact hnw
      ·have hh := HI.out j (by omega)
       intro k v hk
       have hkn : k < 4 := (List.getElem?_eq_some_iff.1 hk).1
       have hji2 : (j + 1) * 4 ≤ i * 4 := Nat.mul_le_mul_right 4 (by omega)
       show (setL w3 w.heap.size (i * 4) [.int .i64 s0,.int .i64 s1,.int .i64 s2,.bool e3]).cell? _ = _
       rw [hS.front _ (by omega),← hh k v hk]
       exact (HBA.out.trans (HB3.out.mono HBA.out.size)).cell (p := ⟨w.heap.size,j * 4 + k,none⟩) HRW.out
    case measure => simp [intOf]; omega
   ·obtain rfl : i = an := by omega
    have HI2 := HI
    have HLT : Hid (w.heap.size < wr.heap.size ∧ ∀ k,wr.frozen? ⟨w.heap.size,k,none⟩ = false) := by obtain ⟨cur,hca,_⟩ := HC.out; exact ⟨hca.lt,fun k => hca.free k⟩
    clear HC
    go_wp2
    go_ret
    refine ⟨⟨_,_,w.heap.size,rfl,fun _ => ⟨rfl,Nat.le_refl _,HLT.out⟩,fun i hi => ?_⟩,HB.out⟩
    exact HI2.out i hi
theorem infoC70 : (Tryz.prog.info? 70).map (fun i => (i.zero,i.size,i.bytes)) = some (some (.agg #[.int .i64 0,.int .i64 0,.bool false]),3,24) := by kernel_rfl
set_option maxHeartbeats 8000000 in
theorem cp_lim (k : Nat) (eg : ∀ args w,(callFunc k args).run Tryz.prog w = .ok (.enter k args) w)
  (an ac ag ao : Nat) (ap : Option Addr) (t0 : Nat → Int) (t1 : Nat → Int) (bo2 : Nat → Bool) (w : World) (han : an ≤ 1000000) (hag : an ≠ 0 → ap = some ⟨ag,ao,none⟩ ∧ ag < w.heap.size)
  (hax : ∀ i,i < an → w.cell? ⟨ag,ao + i * 3,none⟩ = some (.int .i64 (t0 i)) ∧ w.cell? ⟨ag,ao + i * 3 + 1,none⟩ = some (.int .i64 (t1 i)) ∧ w.cell? ⟨ag,ao + i * 3 + 2,none⟩ = some (.bool (bo2 i)))
  (hP : ∀ i,i < an → ∀ W,Below w.heap.size w W → Calls Tryz.prog k #[.agg #[.int .i64 (t0 i),.int .i64 (t1 i),.bool (bo2 i)]] W fun e w' => e = .returned (.agg #[.int .i64 (t0 i),.int .i64 (t1 i),.bool (bo2 i)]) ∧ Below W.heap.size W w') :
  Calls Tryz.prog 68 #[.slice ap an ac,.func (.func k) #[] #[]] w fun e w' => (∃ p c b,e = .returned (.slice p an c) ∧ (an ≠ 0 → p = some ⟨b,0,none⟩ ∧ w.heap.size ≤ b ∧ b < w'.heap.size ∧ ∀ k,w'.frozen? ⟨b,k,none⟩ = false) ∧ ∀ i,i < an → (∀ k v,[.int .i64 (t0 i),.int .i64 (t1 i),.bool (bo2 i)][k]? = some v → w'.cell? ⟨b,i * 3 + k,none⟩ = some v)) ∧ Below w.heap.size w w' := by
 cases ap with
 | none =>
  obtain rfl : an = 0 := by
   rcases Nat.eq_zero_or_pos an with h | h
   ·exact h
   ·cases (hag (by omega)).1
  have hq := fun W => Lib.run_eql_slice_nil (P := Tryz.prog) W 26 70 none 0 ac 0 0 Tryz.underlying26
  clear hag hax hP
  go_enter Tryz.func68,Tryz.ntmps68
  go_wp2
  go_ret
  exact ⟨⟨_,_,0,rfl,fun h => absurd rfl h,fun i hi => absurd hi (Nat.not_lt_zero i)⟩,Below.refl _ _⟩
 | some aa =>
  obtain ⟨i0,hi0,hz0,hz1,hz2⟩ := info_parts infoC70
  have HP := hid hP
  have HAX := hid hax
  have HAG := hid hag
  have hn1 : (an : Int) < 9223372036854775807 := by omega
  have HAN := hid han
  have hq := fun W => Lib.run_eql_slice_nil (P := Tryz.prog) W 26 70 (some aa) an ac 0 0 Tryz.underlying26
  clear hP hax hag han
  go_enter Tryz.func68,Tryz.ntmps68
  go_wp2_with (at_make; refine wpList_make_full _ rfl _ _ 26 rfl w.heap.size 70 i0 (.agg #[.int .i64 0,.int .i64 0,.bool false]) 3 Tryz.underlying26 hi0 hz0 hz1 .i64 .i64 _ _ an rfl rfl rfl rfl (by rw [hz2]; have := HAN.out; omega) (by have := HAN.out; unfold maxLen; omega) (Nat.le_refl _) ?_; intro w2 hown2 hgrow2)
  have HB2 := hid ((Below.refl w.heap.size w).grown hgrow2 (Nat.le_refl _) (by simp))
  have HO2 : Hid (∃ cur,CA w.heap.size cur 70 w2 ∧ cur.size = an * 3) := by
   obtain ⟨gq,capq,curq,e1,_,e3,_,_,e6,_⟩ := (hown2.2.resolve_left (by rintro ⟨h,_⟩; cases h))
   simp only [Value.slice.injEq,Option.some.injEq,Addr.mk.injEq] at e1
   obtain ⟨⟨rfl,-,-⟩,-,rfl⟩ := e1
   exact ⟨curq,e3,e6⟩
  clear hown2 hgrow2
  go_loopw [15] (fun vi wr => ∃ i : Nat,i ≤ an ∧ vi = .int .i64 i ∧ Hid (∃ cur,CA w.heap.size cur 70 wr ∧ cur.size = an * 3) ∧ Hid (Below w.heap.size w wr) ∧ Hid (∀ i',i' < i → (∀ k v,[.int .i64 (t0 i'),.int .i64 (t1 i'),.bool (bo2 i')][k]? = some v → wr.cell? ⟨w.heap.size,i' * 3 + k,none⟩ = some v))) (fun vi _ => an - (intOf vi).toNat)
  case atStart => exact ⟨0,Nat.zero_le _,rfl,HO2,HB2,fun j hj => absurd hj (Nat.not_lt_zero _)⟩
  case round =>
   obtain ⟨i,hi,rfl,HC,HB,HI⟩ := hrel
   by_cases hlt : i < an
   ·obtain ⟨g0,g1,g2⟩ := HAX.out i hlt
    obtain ⟨hpa,hga⟩ := HAG.out (by omega)
    obtain rfl : aa = ⟨ag,ao,none⟩ := by simpa using hpa
    have hPi := fun W h => hid (HP.out i hlt W h)
    have h0 := (HB.out.cell (p := ⟨ag,ao + i * 3,none⟩) hga).trans g0
    have h1 := (HB.out.cell (p := ⟨ag,ao + i * 3 + 1,none⟩) hga).trans g1
    have h2 := (HB.out.cell (p := ⟨ag,ao + i * 3 + 2,none⟩) hga).trans g2
    clear hpa hga g0 g1 g2
    obtain ⟨cur,hca,hcs⟩ := HC.out
    have hrl := hca.lt
    have hio : (i + 1) * 3 ≤ an * 3 := Nat.mul_le_mul_right 3 hlt
    have HIO := hid (show i * 3 + 3 ≤ an * 3 by omega)
    obtain ⟨NW,hNW⟩ : ∃ NW : World → Prop,NW = (fun W => (∀ k v,[.int .i64 (t0 i),.int .i64 (t1 i),.bool (bo2 i)][k]? = some v → W.cell? ⟨w.heap.size,i * 3 + k,none⟩ = some v)) := ⟨_,rfl⟩
    have HNE := hid hNW
    have HNW : Hid (∀ (W : World),(∀ k v,[.int .i64 (t0 i),.int .i64 (t1 i),.bool (bo2 i)][k]? = some v → W.cell? ⟨w.heap.size,i * 3 + k,none⟩ = some v) → NW W) := by
     intro W hh
     rw [hNW]
     exact hh
    clear hNW
    generalize t0 i = s0 at h0 hPi HNW
    generalize t1 i = s1 at h1 hPi HNW
    generalize bo2 i = e2 at h2 hPi HNW
    have HBA := hid ((Below.refl wr.heap.size wr).alloc (Nat.le_refl _) (.cells #[.int .i64 s0,.int .i64 s1,.bool e2] 70))
    have HB1 := hid (HB.out.trans (HBA.out.mono HB.out.size))
    have hcb := hca.below HBA.out hrl
    have HRL := hid (show w.heap.size < (wr.alloc (.cells #[.int .i64 s0,.int .i64 s1,.bool e2] 70)).heap.size by rw [size_al]; omega)
    have hPW := hPi (wr.alloc (.cells #[.int .i64 s0,.int .i64 s1,.bool e2] 70)) HB1.out
    have HCB := hid hcb
    have HRW := hid hrl
    obtain ⟨o0,b0⟩ : ∃ v,cur[i * 3]? = some v := ⟨_,Array.getElem?_eq_getElem (by omega)⟩
    have HZ0 := hid b0
    clear b0
    obtain ⟨o1,b1⟩ : ∃ v,cur[i * 3 + 1]? = some v := ⟨_,Array.getElem?_eq_getElem (by omega)⟩
    have HZ1 := hid b1
    clear b1
    obtain ⟨o2,b2⟩ : ∃ v,cur[i * 3 + 2]? = some v := ⟨_,Array.getElem?_eq_getElem (by omega)⟩
    have HZ2 := hid b2
    clear b2
    have HCS := hid hcs
    clear hcs hca hcb hrl hio
    go_wp2_with (go_at_fn k; (with_reducible refine hPW.out.mono ?_); rintro e w3 ⟨rfl,hb3⟩; have hca3 := HCB.out.below hb3 HRL.out; have k0 : w3.cell? ⟨w.heap.size,i * 3,none⟩ = some o0 := hca3.at (k := i * 3) HZ0.out; have f0 : w3.frozen? ⟨w.heap.size,i * 3,none⟩ = false := hca3.free _; have k1 : w3.cell? ⟨w.heap.size,i * 3 + 1,none⟩ = some o1 := hca3.at (k := i * 3 + 1) HZ1.out; have f1 : w3.frozen? ⟨w.heap.size,i * 3 + 1,none⟩ = false := hca3.free _; have k2 : w3.cell? ⟨w.heap.size,i * 3 + 2,none⟩ = some o2 := hca3.at (k := i * 3 + 2) HZ2.out; have f2 : w3.frozen? ⟨w.heap.size,i * 3 + 2,none⟩ = false := hca3.free _; have HCA3 := hid hca3; have HB3 := hid hb3; clear hca3 hb3)
    go_roundw
    case rel =>
     have hS := setL_ok 70 w.heap.size (an * 3) [.int .i64 s0,.int .i64 s1,.bool e2] (i * 3) w3 cur HCA3.out HCS.out HIO.out
     have hrs : w.heap.size < w3.heap.size := Nat.lt_of_lt_of_le HRL.out HB3.out.size
     have hu4 : UP (w.heap.size + 1) w3 (setL w3 w.heap.size (i * 3) [.int .i64 s0,.int .i64 s1,.bool e2]) := fun b hb _ => hS.other b (by omega)
     have hu3 : UP (w.heap.size + 1) wr (setL w3 w.heap.size (i * 3) [.int .i64 s0,.int .i64 s1,.bool e2]) := fun b hb hbl => (hS.other b (by omega)).trans ((HBA.out.trans (HB3.out.mono HBA.out.size)).block b hbl)
     refine ⟨i + 1,hlt,by go_num,hS.row,?_,fun j hj => ?_⟩
     ·exact ((((HB1.out.trans (HB3.out.mono HB1.out.size)).setCell (p := ⟨w.heap.size,i * 3,none⟩) (Nat.le_refl _) (.int .i64 s0)).setCell (p := ⟨w.heap.size,i * 3 + 1,none⟩) (Nat.le_refl _) (.int .i64 s1)).setCell (p := ⟨w.heap.size,i * 3 + 2,none⟩) (Nat.le_refl _) (.bool e2))
     ·by_cases hji : j = i
      ·have hnw := HNW.out _ hS.here
       rw [HNE.out] at hnw
       rw [hji]
       exact hnw
      ·have hh := HI.out j (by omega)
       intro k v hk
       have hkn : k < 3 := (List.getElem?_eq_some_iff.1 hk).1
       have hji2 : (j + 1) * 3 ≤ i * 3 := Nat.mul_le_mul_right 3 (by omega)
       show (setL w3 w.heap.size (i * 3) [.int .i64 s0,.int .i64 s1,.bool e2]).cell? _ = _
       rw [hS.front _ (by omega),← hh k v hk]
       exact (HBA.out.trans (HB3.out.mono HBA.out.size)).cell (p := ⟨w.heap.size,j * 3 + k,none⟩) HRW.out
    case measure => simp [intOf]; omega
   ·obtain rfl : i = an := by omega
    have HI2 := HI
    have HLT : Hid (w.heap.size < wr.heap.size ∧ ∀ k,wr.frozen? ⟨w.heap.size,k,none⟩ = false) := by obtain ⟨cur,hca,_⟩ := HC.out; exact ⟨hca.lt,fun k => hca.free k⟩
    clear HC
    go_wp2
    go_ret
    refine ⟨⟨_,_,w.heap.size,rfl,fun _ => ⟨rfl,Nat.le_refl _,HLT.out⟩,fun i hi => ?_⟩,HB.out⟩
    exact HI2.out i hi
theorem infoC46 : (Tryz.prog.info? 46).map (fun i => (i.zero,i.size,i.bytes)) = some (some (.agg #[.int .i64 0,.bool false,.slice none 0 0]),3,40) := by kernel_rfl
set_option maxHeartbeats 8000000 in
theorem cp_var (k : Nat) (eg : ∀ args w,(callFunc k args).run Tryz.prog w = .ok (.enter k args) w) (X : Nat → Nat → (Option Addr × Nat × Nat) → World → Prop) (hXm : ∀ j s s' x2 W,s' ≤ s → X j s x2 W → X j s' x2 W) (hXu : ∀ j s x2 W W',UP s W W' → X j s x2 W → X j s x2 W')
  (an ac ag ao : Nat) (ap : Option Addr) (t0 : Nat → Int) (bo1 : Nat → Bool) (p2 : Nat → Option Addr) (n2 c2 : Nat → Nat) (w : World) (han : an ≤ 1000000) (hag : an ≠ 0 → ap = some ⟨ag,ao,none⟩ ∧ ag < w.heap.size)
  (hax : ∀ i,i < an → w.cell? ⟨ag,ao + i * 3,none⟩ = some (.int .i64 (t0 i)) ∧ w.cell? ⟨ag,ao + i * 3 + 1,none⟩ = some (.bool (bo1 i)) ∧ w.cell? ⟨ag,ao + i * 3 + 2,none⟩ = some (.slice (p2 i) (n2 i) (c2 i)))
  (hP : ∀ i,i < an → ∀ W,Below w.heap.size w W → Calls Tryz.prog k #[.agg #[.int .i64 (t0 i),.bool (bo1 i),.slice (p2 i) (n2 i) (c2 i)]] W fun e w' => ∃ x2,e = .returned (.agg #[.int .i64 (t0 i),.bool (bo1 i),.slice x2.1 x2.2.1 x2.2.2]) ∧ X i W.heap.size x2 w' ∧ Below W.heap.size W w') :
  Calls Tryz.prog 70 #[.slice ap an ac,.func (.func k) #[] #[]] w fun e w' => (∃ p c b,e = .returned (.slice p an c) ∧ (an ≠ 0 → p = some ⟨b,0,none⟩ ∧ w.heap.size ≤ b ∧ b < w'.heap.size ∧ ∀ k,w'.frozen? ⟨b,k,none⟩ = false) ∧ ∀ i,i < an → ∃ x2,(∀ k v,[.int .i64 (t0 i),.bool (bo1 i),.slice x2.1 x2.2.1 x2.2.2][k]? = some v → w'.cell? ⟨b,i * 3 + k,none⟩ = some v) ∧ X i w.heap.size x2 w') ∧ Below w.heap.size w w' := by
 cases ap with
 | none =>
  obtain rfl : an = 0 := by
   rcases Nat.eq_zero_or_pos an with h | h
   ·exact h
   ·cases (hag (by omega)).1
  have hq := fun W => Lib.run_eql_slice_nil (P := Tryz.prog) W 27 46 none 0 ac 0 0 Tryz.underlying27
  clear hag hax hP hXm hXu
  go_enter Tryz.func70,Tryz.ntmps70
  go_wp2
  go_ret
  exact ⟨⟨_,_,0,rfl,fun h => absurd rfl h,fun i hi => absurd hi (Nat.not_lt_zero i)⟩,Below.refl _ _⟩
 | some aa =>
  obtain ⟨i0,hi0,hz0,hz1,hz2⟩ := info_parts infoC46
  have HP := hid hP
  have HAX := hid hax
  have HAG := hid hag
  have HM := hid hXm
  have HU := hid hXu
  have hn1 : (an : Int) < 9223372036854775807 := by omega
  have HAN := hid han
  have hq := fun W => Lib.run_eql_slice_nil (P := Tryz.prog) W 27 46 (some aa) an ac 0 0 Tryz.underlying27
  clear hP hax hag hXm hXu han
  go_enter Tryz.func70,Tryz.ntmps70
  go_wp2_with (at_make; refine wpList_make_full _ rfl _ _ 27 rfl w.heap.size 46 i0 (.agg #[.int .i64 0,.bool false,.slice none 0 0]) 3 Tryz.underlying27 hi0 hz0 hz1 .i64 .i64 _ _ an rfl rfl rfl rfl (by rw [hz2]; have := HAN.out; omega) (by have := HAN.out; unfold maxLen; omega) (Nat.le_refl _) ?_; intro w2 hown2 hgrow2)
  have HB2 := hid ((Below.refl w.heap.size w).grown hgrow2 (Nat.le_refl _) (by simp))
  have HO2 : Hid (∃ cur,CA w.heap.size cur 46 w2 ∧ cur.size = an * 3) := by
   obtain ⟨gq,capq,curq,e1,_,e3,_,_,e6,_⟩ := (hown2.2.resolve_left (by rintro ⟨h,_⟩; cases h))
   simp only [Value.slice.injEq,Option.some.injEq,Addr.mk.injEq] at e1
   obtain ⟨⟨rfl,-,-⟩,-,rfl⟩ := e1
   exact ⟨curq,e3,e6⟩
  clear hown2 hgrow2
  go_loopw [15] (fun vi wr => ∃ i : Nat,i ≤ an ∧ vi = .int .i64 i ∧ Hid (∃ cur,CA w.heap.size cur 46 wr ∧ cur.size = an * 3) ∧ Hid (Below w.heap.size w wr) ∧ Hid (∀ i',i' < i → ∃ x2,(∀ k v,[.int .i64 (t0 i'),.bool (bo1 i'),.slice x2.1 x2.2.1 x2.2.2][k]? = some v → wr.cell? ⟨w.heap.size,i' * 3 + k,none⟩ = some v) ∧ X i' (w.heap.size + 1) x2 wr)) (fun vi _ => an - (intOf vi).toNat)
  case atStart => exact ⟨0,Nat.zero_le _,rfl,HO2,HB2,fun j hj => absurd hj (Nat.not_lt_zero _)⟩
  case round =>
   obtain ⟨i,hi,rfl,HC,HB,HI⟩ := hrel
   by_cases hlt : i < an
   ·obtain ⟨g0,g1,g2⟩ := HAX.out i hlt
    obtain ⟨hpa,hga⟩ := HAG.out (by omega)
    obtain rfl : aa = ⟨ag,ao,none⟩ := by simpa using hpa
    have hPi := fun W h => hid (HP.out i hlt W h)
    have h0 := (HB.out.cell (p := ⟨ag,ao + i * 3,none⟩) hga).trans g0
    have h1 := (HB.out.cell (p := ⟨ag,ao + i * 3 + 1,none⟩) hga).trans g1
    have h2 := (HB.out.cell (p := ⟨ag,ao + i * 3 + 2,none⟩) hga).trans g2
    clear hpa hga g0 g1 g2
    obtain ⟨cur,hca,hcs⟩ := HC.out
    have hrl := hca.lt
    have hio : (i + 1) * 3 ≤ an * 3 := Nat.mul_le_mul_right 3 hlt
    have HIO := hid (show i * 3 + 3 ≤ an * 3 by omega)
    obtain ⟨NW,hNW⟩ : ∃ NW : World → Prop,NW = (fun W => ∃ x2,(∀ k v,[.int .i64 (t0 i),.bool (bo1 i),.slice x2.1 x2.2.1 x2.2.2][k]? = some v → W.cell? ⟨w.heap.size,i * 3 + k,none⟩ = some v) ∧ X i (w.heap.size + 1) x2 W) := ⟨_,rfl⟩
    have HNE := hid hNW
    have HNW : Hid (∀ (x2 : Option Addr × Nat × Nat) (W : World),(∀ k v,[.int .i64 (t0 i),.bool (bo1 i),.slice x2.1 x2.2.1 x2.2.2][k]? = some v → W.cell? ⟨w.heap.size,i * 3 + k,none⟩ = some v) → X i (w.heap.size + 1) x2 W → NW W) := by
     intro x2 W hh hx
     rw [hNW]
     exact ⟨x2,hh,hx⟩
    clear hNW
    have HXU := hid (fun x2 W W' => HU.out i (w.heap.size + 1) x2 W W')
    have HXM := hid (fun s x2 W => HM.out i s (w.heap.size + 1) x2 W)
    obtain ⟨Xi,hXi⟩ : ∃ Y,Y = X i := ⟨_,rfl⟩
    rw [← hXi] at HNW HXU HXM hPi
    clear hXi
    generalize t0 i = s0 at h0 hPi HNW
    generalize bo1 i = e1 at h1 hPi HNW
    generalize p2 i = q2 at h2 hPi HNW
    generalize n2 i = m2 at h2 hPi HNW
    generalize c2 i = d2 at h2 hPi HNW
    have HBA := hid ((Below.refl wr.heap.size wr).alloc (Nat.le_refl _) (.cells #[.int .i64 s0,.bool e1,.slice q2 m2 d2] 46))
    have HB1 := hid (HB.out.trans (HBA.out.mono HB.out.size))
    have hcb := hca.below HBA.out hrl
    have HRL := hid (show w.heap.size < (wr.alloc (.cells #[.int .i64 s0,.bool e1,.slice q2 m2 d2] 46)).heap.size by rw [size_al]; omega)
    have hPW := hPi (wr.alloc (.cells #[.int .i64 s0,.bool e1,.slice q2 m2 d2] 46)) HB1.out
    have HCB := hid hcb
    have HRW := hid hrl
    obtain ⟨o0,b0⟩ : ∃ v,cur[i * 3]? = some v := ⟨_,Array.getElem?_eq_getElem (by omega)⟩
    have HZ0 := hid b0
    clear b0
    obtain ⟨o1,b1⟩ : ∃ v,cur[i * 3 + 1]? = some v := ⟨_,Array.getElem?_eq_getElem (by omega)⟩
    have HZ1 := hid b1
    clear b1
    obtain ⟨o2,b2⟩ : ∃ v,cur[i * 3 + 2]? = some v := ⟨_,Array.getElem?_eq_getElem (by omega)⟩
    have HZ2 := hid b2
    clear b2
    have HCS := hid hcs
    clear hcs hca hcb hrl hio
    go_wp2_with (go_at_fn k; (with_reducible refine hPW.out.mono ?_); rintro e w3 ⟨x2,rfl,hx3,hb3⟩; have hca3 := HCB.out.below hb3 HRL.out; obtain ⟨q2a,q2b,q2c⟩ := x2; have k0 : w3.cell? ⟨w.heap.size,i * 3,none⟩ = some o0 := hca3.at (k := i * 3) HZ0.out; have f0 : w3.frozen? ⟨w.heap.size,i * 3,none⟩ = false := hca3.free _; have k1 : w3.cell? ⟨w.heap.size,i * 3 + 1,none⟩ = some o1 := hca3.at (k := i * 3 + 1) HZ1.out; have f1 : w3.frozen? ⟨w.heap.size,i * 3 + 1,none⟩ = false := hca3.free _; have k2 : w3.cell? ⟨w.heap.size,i * 3 + 2,none⟩ = some o2 := hca3.at (k := i * 3 + 2) HZ2.out; have f2 : w3.frozen? ⟨w.heap.size,i * 3 + 2,none⟩ = false := hca3.free _; have HCA3 := hid hca3; have HX3 := hid hx3; have HB3 := hid hb3; clear hca3 hb3 hx3)
    go_roundw
    case rel =>
     have hS := setL_ok 46 w.heap.size (an * 3) [.int .i64 s0,.bool e1,.slice q2a q2b q2c] (i * 3) w3 cur HCA3.out HCS.out HIO.out
     have hrs : w.heap.size < w3.heap.size := Nat.lt_of_lt_of_le HRL.out HB3.out.size
     have hu4 : UP (w.heap.size + 1) w3 (setL w3 w.heap.size (i * 3) [.int .i64 s0,.bool e1,.slice q2a q2b q2c]) := fun b hb _ => hS.other b (by omega)
     have hu3 : UP (w.heap.size + 1) wr (setL w3 w.heap.size (i * 3) [.int .i64 s0,.bool e1,.slice q2a q2b q2c]) := fun b hb hbl => (hS.other b (by omega)).trans ((HBA.out.trans (HB3.out.mono HBA.out.size)).block b hbl)
     refine ⟨i + 1,hlt,by go_num,hS.row,?_,fun j hj => ?_⟩
     ·exact ((((HB1.out.trans (HB3.out.mono HB1.out.size)).setCell (p := ⟨w.heap.size,i * 3,none⟩) (Nat.le_refl _) (.int .i64 s0)).setCell (p := ⟨w.heap.size,i * 3 + 1,none⟩) (Nat.le_refl _) (.bool e1)).setCell (p := ⟨w.heap.size,i * 3 + 2,none⟩) (Nat.le_refl _) (.slice q2a q2b q2c))
     ·by_cases hji : j = i
      ·have hnw := HNW.out (q2a,q2b,q2c) _ hS.here (HXU.out (q2a,q2b,q2c) _ _ hu4 (HXM.out _ (q2a,q2b,q2c) _ HRL.out HX3.out))
       rw [HNE.out] at hnw
       rw [hji]
       exact hnw
      ·obtain ⟨x2,hh,hx⟩ := HI.out j (by omega)
       refine ⟨x2,fun k v hk => ?_,HU.out j _ x2 _ _ hu3 hx⟩
       have hkn : k < 3 := (List.getElem?_eq_some_iff.1 hk).1
       have hji2 : (j + 1) * 3 ≤ i * 3 := Nat.mul_le_mul_right 3 (by omega)
       show (setL w3 w.heap.size (i * 3) [.int .i64 s0,.bool e1,.slice q2a q2b q2c]).cell? _ = _
       rw [hS.front _ (by omega),← hh k v hk]
       exact (HBA.out.trans (HB3.out.mono HBA.out.size)).cell (p := ⟨w.heap.size,j * 3 + k,none⟩) HRW.out
    case measure => simp [intOf]; omega
   ·obtain rfl : i = an := by omega
    have HI2 := HI
    have HLT : Hid (w.heap.size < wr.heap.size ∧ ∀ k,wr.frozen? ⟨w.heap.size,k,none⟩ = false) := by obtain ⟨cur,hca,_⟩ := HC.out; exact ⟨hca.lt,fun k => hca.free k⟩
    clear HC
    go_wp2
    go_ret
    refine ⟨⟨_,_,w.heap.size,rfl,fun _ => ⟨rfl,Nat.le_refl _,HLT.out⟩,fun i hi => ?_⟩,HB.out⟩
    obtain ⟨x2,hh,hx⟩ := HI2.out i hi
    exact ⟨x2,hh,HM.out i _ _ x2 _ (Nat.le_succ _) hx⟩
theorem infoC76 : (Tryz.prog.info? 76).map (fun i => (i.zero,i.size,i.bytes)) = some (some (.agg #[.string ⟨#[]⟩,.int .i64 0,.int .i64 0]),3,32) := by kernel_rfl
set_option maxHeartbeats 8000000 in
theorem cp_exp (k : Nat) (eg : ∀ args w,(callFunc k args).run Tryz.prog w = .ok (.enter k args) w)
  (an ac ag ao : Nat) (ap : Option Addr) (z0 : Nat → ByteArray) (t1 : Nat → Int) (t2 : Nat → Int) (w : World) (han : an ≤ 1000000) (hag : an ≠ 0 → ap = some ⟨ag,ao,none⟩ ∧ ag < w.heap.size)
  (hax : ∀ i,i < an → w.cell? ⟨ag,ao + i * 3,none⟩ = some (.string (z0 i)) ∧ w.cell? ⟨ag,ao + i * 3 + 1,none⟩ = some (.int .i64 (t1 i)) ∧ w.cell? ⟨ag,ao + i * 3 + 2,none⟩ = some (.int .i64 (t2 i)))
  (hP : ∀ i,i < an → ∀ W,Below w.heap.size w W → Calls Tryz.prog k #[.agg #[.string (z0 i),.int .i64 (t1 i),.int .i64 (t2 i)]] W fun e w' => e = .returned (.agg #[.string (z0 i),.int .i64 (t1 i),.int .i64 (t2 i)]) ∧ Below W.heap.size W w') :
  Calls Tryz.prog 72 #[.slice ap an ac,.func (.func k) #[] #[]] w fun e w' => (∃ p c b,e = .returned (.slice p an c) ∧ (an ≠ 0 → p = some ⟨b,0,none⟩ ∧ w.heap.size ≤ b ∧ b < w'.heap.size ∧ ∀ k,w'.frozen? ⟨b,k,none⟩ = false) ∧ ∀ i,i < an → (∀ k v,[.string (z0 i),.int .i64 (t1 i),.int .i64 (t2 i)][k]? = some v → w'.cell? ⟨b,i * 3 + k,none⟩ = some v)) ∧ Below w.heap.size w w' := by
 cases ap with
 | none =>
  obtain rfl : an = 0 := by
   rcases Nat.eq_zero_or_pos an with h | h
   ·exact h
   ·cases (hag (by omega)).1
  have hq := fun W => Lib.run_eql_slice_nil (P := Tryz.prog) W 28 76 none 0 ac 0 0 Tryz.underlying28
  clear hag hax hP
  go_enter Tryz.func72,Tryz.ntmps72
  go_wp2
  go_ret
  exact ⟨⟨_,_,0,rfl,fun h => absurd rfl h,fun i hi => absurd hi (Nat.not_lt_zero i)⟩,Below.refl _ _⟩
 | some aa =>
  obtain ⟨i0,hi0,hz0,hz1,hz2⟩ := info_parts infoC76
  have HP := hid hP
  have HAX := hid hax
  have HAG := hid hag
  have hn1 : (an : Int) < 9223372036854775807 := by omega
  have HAN := hid han
  have hq := fun W => Lib.run_eql_slice_nil (P := Tryz.prog) W 28 76 (some aa) an ac 0 0 Tryz.underlying28
  clear hP hax hag han
  go_enter Tryz.func72,Tryz.ntmps72
  go_wp2_with (at_make; refine wpList_make_full _ rfl _ _ 28 rfl w.heap.size 76 i0 (.agg #[.string ⟨#[]⟩,.int .i64 0,.int .i64 0]) 3 Tryz.underlying28 hi0 hz0 hz1 .i64 .i64 _ _ an rfl rfl rfl rfl (by rw [hz2]; have := HAN.out; omega) (by have := HAN.out; unfold maxLen; omega) (Nat.le_refl _) ?_; intro w2 hown2 hgrow2)
  have HB2 := hid ((Below.refl w.heap.size w).grown hgrow2 (Nat.le_refl _) (by simp))
  have HO2 : Hid (∃ cur,CA w.heap.size cur 76 w2 ∧ cur.size = an * 3) := by
   obtain ⟨gq,capq,curq,e1,_,e3,_,_,e6,_⟩ := (hown2.2.resolve_left (by rintro ⟨h,_⟩; cases h))
   simp only [Value.slice.injEq,Option.some.injEq,Addr.mk.injEq] at e1
   obtain ⟨⟨rfl,-,-⟩,-,rfl⟩ := e1
   exact ⟨curq,e3,e6⟩
  clear hown2 hgrow2
  go_loopw [15] (fun vi wr => ∃ i : Nat,i ≤ an ∧ vi = .int .i64 i ∧ Hid (∃ cur,CA w.heap.size cur 76 wr ∧ cur.size = an * 3) ∧ Hid (Below w.heap.size w wr) ∧ Hid (∀ i',i' < i → (∀ k v,[.string (z0 i'),.int .i64 (t1 i'),.int .i64 (t2 i')][k]? = some v → wr.cell? ⟨w.heap.size,i' * 3 + k,none⟩ = some v))) (fun vi _ => an - (intOf vi).toNat)
  case atStart => exact ⟨0,Nat.zero_le _,rfl,HO2,HB2,fun j hj => absurd hj (Nat.not_lt_zero _)⟩
  case round =>
   obtain ⟨i,hi,rfl,HC,HB,HI⟩ := hrel
   by_cases hlt : i < an
   ·obtain ⟨g0,g1,g2⟩ := HAX.out i hlt
    obtain ⟨hpa,hga⟩ := HAG.out (by omega)
    obtain rfl : aa = ⟨ag,ao,none⟩ := by simpa using hpa
    have hPi := fun W h => hid (HP.out i hlt W h)
    have h0 := (HB.out.cell (p := ⟨ag,ao + i * 3,none⟩) hga).trans g0
    have h1 := (HB.out.cell (p := ⟨ag,ao + i * 3 + 1,none⟩) hga).trans g1
    have h2 := (HB.out.cell (p := ⟨ag,ao + i * 3 + 2,none⟩) hga).trans g2
    clear hpa hga g0 g1 g2
    obtain ⟨cur,hca,hcs⟩ := HC.out
    have hrl := hca.lt
    have hio : (i + 1) * 3 ≤ an * 3 := Nat.mul_le_mul_right 3 hlt
    have HIO := hid (show i * 3 + 3 ≤ an * 3 by omega)
    obtain ⟨NW,hNW⟩ : ∃ NW : World → Prop,NW = (fun W => (∀ k v,[.string (z0 i),.int .i64 (t1 i),.int .i64 (t2 i)][k]? = some v → W.cell? ⟨w.heap.size,i * 3 + k,none⟩ = some v)) := ⟨_,rfl⟩
    have HNE := hid hNW
    have HNW : Hid (∀ (W : World),(∀ k v,[.string (z0 i),.int .i64 (t1 i),.int .i64 (t2 i)][k]? = some v → W.cell? ⟨w.heap.size,i * 3 + k,none⟩ = some v) → NW W) := by
     intro W hh
     rw [hNW]
     exact hh
    clear hNW
    generalize z0 i = y0 at h0 hPi HNW
    generalize t1 i = s1 at h1 hPi HNW
    generalize t2 i = s2 at h2 hPi HNW
    have HBA := hid ((Below.refl wr.heap.size wr).alloc (Nat.le_refl _) (.cells #[.string y0,.int .i64 s1,.int .i64 s2] 76))
    have HB1 := hid (HB.out.trans (HBA.out.mono HB.out.size))
    have hcb := hca.below HBA.out hrl
    have HRL := hid (show w.heap.size < (wr.alloc (.cells #[.string y0,.int .i64 s1,.int .i64 s2] 76)).heap.size by rw [size_al]; omega)
    have hPW := hPi (wr.alloc (.cells #[.string y0,.int .i64 s1,.int .i64 s2] 76)) HB1.out
    have HCB := hid hcb
    have HRW := hid hrl
    obtain ⟨o0,b0⟩ : ∃ v,cur[i * 3]? = some v := ⟨_,Array.getElem?_eq_getElem (by omega)⟩
    have HZ0 := hid b0
    clear b0
    obtain ⟨o1,b1⟩ : ∃ v,cur[i * 3 + 1]? = some v := ⟨_,Array.getElem?_eq_getElem (by omega)⟩
    have HZ1 := hid b1
    clear b1
    obtain ⟨o2,b2⟩ : ∃ v,cur[i * 3 + 2]? = some v := ⟨_,Array.getElem?_eq_getElem (by omega)⟩
    have HZ2 := hid b2
    clear b2
    have HCS := hid hcs
    clear hcs hca hcb hrl hio
    go_wp2_with (go_at_fn k; (with_reducible refine hPW.out.mono ?_); rintro e w3 ⟨rfl,hb3⟩; have hca3 := HCB.out.below hb3 HRL.out; have k0 : w3.cell? ⟨w.heap.size,i * 3,none⟩ = some o0 := hca3.at (k := i * 3) HZ0.out; have f0 : w3.frozen? ⟨w.heap.size,i * 3,none⟩ = false := hca3.free _; have k1 : w3.cell? ⟨w.heap.size,i * 3 + 1,none⟩ = some o1 := hca3.at (k := i * 3 + 1) HZ1.out; have f1 : w3.frozen? ⟨w.heap.size,i * 3 + 1,none⟩ = false := hca3.free _; have k2 : w3.cell? ⟨w.heap.size,i * 3 + 2,none⟩ = some o2 := hca3.at (k := i * 3 + 2) HZ2.out; have f2 : w3.frozen? ⟨w.heap.size,i * 3 + 2,none⟩ = false := hca3.free _; have HCA3 := hid hca3; have HB3 := hid hb3; clear hca3 hb3)
    go_roundw
    case rel =>
     have hS := setL_ok 76 w.heap.size (an * 3) [.string y0,.int .i64 s1,.int .i64 s2] (i * 3) w3 cur HCA3.out HCS.out HIO.out
     have hrs : w.heap.size < w3.heap.size := Nat.lt_of_lt_of_le HRL.out HB3.out.size
     have hu4 : UP (w.heap.size + 1) w3 (setL w3 w.heap.size (i * 3) [.string y0,.int .i64 s1,.int .i64 s2]) := fun b hb _ => hS.other b (by omega)
     have hu3 : UP (w.heap.size + 1) wr (setL w3 w.heap.size (i * 3) [.string y0,.int .i64 s1,.int .i64 s2]) := fun b hb hbl => (hS.other b (by omega)).trans ((HBA.out.trans (HB3.out.mono HBA.out.size)).block b hbl)
     refine ⟨i + 1,hlt,by go_num,hS.row,?_,fun j hj => ?_⟩
     ·exact ((((HB1.out.trans (HB3.out.mono HB1.out.size)).setCell (p := ⟨w.heap.size,i * 3,none⟩) (Nat.le_refl _) (.string y0)).setCell (p := ⟨w.heap.size,i * 3 + 1,none⟩) (Nat.le_refl _) (.int .i64 s1)).setCell (p := ⟨w.heap.size,i * 3 + 2,none⟩) (Nat.le_refl _) (.int .i64 s2))
     ·by_cases hji : j = i
      ·have hnw := HNW.out _ hS.here
       rw [HNE.out] at hnw
       rw [hji]
       exact hnw
      ·have hh := HI.out j (by omega)
       intro k v hk
       have hkn : k < 3 := (List.getElem?_eq_some_iff.1 hk).1
       have hji2 : (j + 1) * 3 ≤ i * 3 := Nat.mul_le_mul_right 3 (by omega)
       show (setL w3 w.heap.size (i * 3) [.string y0,.int .i64 s1,.int .i64 s2]).cell? _ = _
       rw [hS.front _ (by omega),← hh k v hk]
       exact (HBA.out.trans (HB3.out.mono HBA.out.size)).cell (p := ⟨w.heap.size,j * 3 + k,none⟩) HRW.out
    case measure => simp [intOf]; omega
   ·obtain rfl : i = an := by omega
    have HI2 := HI
    have HLT : Hid (w.heap.size < wr.heap.size ∧ ∀ k,wr.frozen? ⟨w.heap.size,k,none⟩ = false) := by obtain ⟨cur,hca,_⟩ := HC.out; exact ⟨hca.lt,fun k => hca.free k⟩
    clear HC
    go_wp2
    go_ret
    refine ⟨⟨_,_,w.heap.size,rfl,fun _ => ⟨rfl,Nat.le_refl _,HLT.out⟩,fun i hi => ?_⟩,HB.out⟩
    exact HI2.out i hi
theorem infoC62 : (Tryz.prog.info? 62).map (fun i => (i.zero,i.size,i.bytes)) = some (some (.agg #[.int .i64 0,.int .i64 0,.int .i64 0,.slice none 0 0,.slice none 0 0]),5,72) := by kernel_rfl
set_option maxHeartbeats 8000000 in
theorem cp_elem (k : Nat) (eg : ∀ args w,(callFunc k args).run Tryz.prog w = .ok (.enter k args) w) (X : Nat → Nat → (Option Addr × Nat × Nat) → (Option Addr × Nat × Nat) → World → Prop) (hXm : ∀ j s s' x3 x4 W,s' ≤ s → X j s x3 x4 W → X j s' x3 x4 W) (hXu : ∀ j s x3 x4 W W',UP s W W' → X j s x3 x4 W → X j s x3 x4 W')
  (an ac ag ao : Nat) (ap : Option Addr) (t0 : Nat → Int) (t1 : Nat → Int) (t2 : Nat → Int) (p3 : Nat → Option Addr) (n3 c3 : Nat → Nat) (p4 : Nat → Option Addr) (n4 c4 : Nat → Nat) (w : World) (han : an ≤ 1000000) (hag : an ≠ 0 → ap = some ⟨ag,ao,none⟩ ∧ ag < w.heap.size)
  (hax : ∀ i,i < an → w.cell? ⟨ag,ao + i * 5,none⟩ = some (.int .i64 (t0 i)) ∧ w.cell? ⟨ag,ao + i * 5 + 1,none⟩ = some (.int .i64 (t1 i)) ∧ w.cell? ⟨ag,ao + i * 5 + 2,none⟩ = some (.int .i64 (t2 i)) ∧ w.cell? ⟨ag,ao + i * 5 + 3,none⟩ = some (.slice (p3 i) (n3 i) (c3 i)) ∧ w.cell? ⟨ag,ao + i * 5 + 4,none⟩ = some (.slice (p4 i) (n4 i) (c4 i)))
  (hP : ∀ i,i < an → ∀ W,Below w.heap.size w W → Calls Tryz.prog k #[.agg #[.int .i64 (t0 i),.int .i64 (t1 i),.int .i64 (t2 i),.slice (p3 i) (n3 i) (c3 i),.slice (p4 i) (n4 i) (c4 i)]] W fun e w' => ∃ x3 x4,e = .returned (.agg #[.int .i64 (t0 i),.int .i64 (t1 i),.int .i64 (t2 i),.slice x3.1 x3.2.1 x3.2.2,.slice x4.1 x4.2.1 x4.2.2]) ∧ X i W.heap.size x3 x4 w' ∧ Below W.heap.size W w') :
  Calls Tryz.prog 74 #[.slice ap an ac,.func (.func k) #[] #[]] w fun e w' => (∃ p c b,e = .returned (.slice p an c) ∧ (an ≠ 0 → p = some ⟨b,0,none⟩ ∧ w.heap.size ≤ b ∧ b < w'.heap.size ∧ ∀ k,w'.frozen? ⟨b,k,none⟩ = false) ∧ ∀ i,i < an → ∃ x3 x4,(∀ k v,[.int .i64 (t0 i),.int .i64 (t1 i),.int .i64 (t2 i),.slice x3.1 x3.2.1 x3.2.2,.slice x4.1 x4.2.1 x4.2.2][k]? = some v → w'.cell? ⟨b,i * 5 + k,none⟩ = some v) ∧ X i w.heap.size x3 x4 w') ∧ Below w.heap.size w w' := by
 cases ap with
 | none =>
  obtain rfl : an = 0 := by
   rcases Nat.eq_zero_or_pos an with h | h
   ·exact h
   ·cases (hag (by omega)).1
  have hq := fun W => Lib.run_eql_slice_nil (P := Tryz.prog) W 29 62 none 0 ac 0 0 Tryz.underlying29
  clear hag hax hP hXm hXu
  go_enter Tryz.func74,Tryz.ntmps74
  go_wp2
  go_ret
  exact ⟨⟨_,_,0,rfl,fun h => absurd rfl h,fun i hi => absurd hi (Nat.not_lt_zero i)⟩,Below.refl _ _⟩
 | some aa =>
  obtain ⟨i0,hi0,hz0,hz1,hz2⟩ := info_parts infoC62
  have HP := hid hP
  have HAX := hid hax
  have HAG := hid hag
  have HM := hid hXm
  have HU := hid hXu
  have hn1 : (an : Int) < 9223372036854775807 := by omega
  have HAN := hid han
  have hq := fun W => Lib.run_eql_slice_nil (P := Tryz.prog) W 29 62 (some aa) an ac 0 0 Tryz.underlying29
  clear hP hax hag hXm hXu han
  go_enter Tryz.func74,Tryz.ntmps74
  go_wp2_with (at_make; refine wpList_make_full _ rfl _ _ 29 rfl w.heap.size 62 i0 (.agg #[.int .i64 0,.int .i64 0,.int .i64 0,.slice none 0 0,.slice none 0 0]) 5 Tryz.underlying29 hi0 hz0 hz1 .i64 .i64 _ _ an rfl rfl rfl rfl (by rw [hz2]; have := HAN.out; omega) (by have := HAN.out; unfold maxLen; omega) (Nat.le_refl _) ?_; intro w2 hown2 hgrow2)
  have HB2 := hid ((Below.refl w.heap.size w).grown hgrow2 (Nat.le_refl _) (by simp))
  have HO2 : Hid (∃ cur,CA w.heap.size cur 62 w2 ∧ cur.size = an * 5) := by
   obtain ⟨gq,capq,curq,e1,_,e3,_,_,e6,_⟩ := (hown2.2.resolve_left (by rintro ⟨h,_⟩; cases h))
   simp only [Value.slice.injEq,Option.some.injEq,Addr.mk.injEq] at e1
   obtain ⟨⟨rfl,-,-⟩,-,rfl⟩ := e1
   exact ⟨curq,e3,e6⟩
  clear hown2 hgrow2
  go_loopw [15] (fun vi wr => ∃ i : Nat,i ≤ an ∧ vi = .int .i64 i ∧ Hid (∃ cur,CA w.heap.size cur 62 wr ∧ cur.size = an * 5) ∧ Hid (Below w.heap.size w wr) ∧ Hid (∀ i',i' < i → ∃ x3 x4,(∀ k v,[.int .i64 (t0 i'),.int .i64 (t1 i'),.int .i64 (t2 i'),.slice x3.1 x3.2.1 x3.2.2,.slice x4.1 x4.2.1 x4.2.2][k]? = some v → wr.cell? ⟨w.heap.size,i' * 5 + k,none⟩ = some v) ∧ X i' (w.heap.size + 1) x3 x4 wr)) (fun vi _ => an - (intOf vi).toNat)
  case atStart => exact ⟨0,Nat.zero_le _,rfl,HO2,HB2,fun j hj => absurd hj (Nat.not_lt_zero _)⟩
  case round =>
   obtain ⟨i,hi,rfl,HC,HB,HI⟩ := hrel
   by_cases hlt : i < an
   ·obtain ⟨g0,g1,g2,g3,g4⟩ := HAX.out i hlt
    obtain ⟨hpa,hga⟩ := HAG.out (by omega)
    obtain rfl : aa = ⟨ag,ao,none⟩ := by simpa using hpa
    have hPi := fun W h => hid (HP.out i hlt W h)
    have h0 := (HB.out.cell (p := ⟨ag,ao + i * 5,none⟩) hga).trans g0
    have h1 := (HB.out.cell (p := ⟨ag,ao + i * 5 + 1,none⟩) hga).trans g1
    have h2 := (HB.out.cell (p := ⟨ag,ao + i * 5 + 2,none⟩) hga).trans g2
    have h3 := (HB.out.cell (p := ⟨ag,ao + i * 5 + 3,none⟩) hga).trans g3
    have h4 := (HB.out.cell (p := ⟨ag,ao + i * 5 + 4,none⟩) hga).trans g4
    clear hpa hga g0 g1 g2 g3 g4
    obtain ⟨cur,hca,hcs⟩ := HC.out
    have hrl := hca.lt
    have hio : (i + 1) * 5 ≤ an * 5 := Nat.mul_le_mul_right 5 hlt
    have HIO := hid (show i * 5 + 5 ≤ an * 5 by omega)
    obtain ⟨NW,hNW⟩ : ∃ NW : World → Prop,NW = (fun W => ∃ x3 x4,(∀ k v,[.int .i64 (t0 i),.int .i64 (t1 i),.int .i64 (t2 i),.slice x3.1 x3.2.1 x3.2.2,.slice x4.1 x4.2.1 x4.2.2][k]? = some v → W.cell? ⟨w.heap.size,i * 5 + k,none⟩ = some v) ∧ X i (w.heap.size + 1) x3 x4 W) := ⟨_,rfl⟩
    have HNE := hid hNW
    have HNW : Hid (∀ (x3 x4 : Option Addr × Nat × Nat) (W : World),(∀ k v,[.int .i64 (t0 i),.int .i64 (t1 i),.int .i64 (t2 i),.slice x3.1 x3.2.1 x3.2.2,.slice x4.1 x4.2.1 x4.2.2][k]? = some v → W.cell? ⟨w.heap.size,i * 5 + k,none⟩ = some v) → X i (w.heap.size + 1) x3 x4 W → NW W) := by
     intro x3 x4 W hh hx
     rw [hNW]
     exact ⟨x3,x4,hh,hx⟩
    clear hNW
    have HXU := hid (fun x3 x4 W W' => HU.out i (w.heap.size + 1) x3 x4 W W')
    have HXM := hid (fun s x3 x4 W => HM.out i s (w.heap.size + 1) x3 x4 W)
    obtain ⟨Xi,hXi⟩ : ∃ Y,Y = X i := ⟨_,rfl⟩
    rw [← hXi] at HNW HXU HXM hPi
    clear hXi
    generalize t0 i = s0 at h0 hPi HNW
    generalize t1 i = s1 at h1 hPi HNW
    generalize t2 i = s2 at h2 hPi HNW
    generalize p3 i = q3 at h3 hPi HNW
    generalize n3 i = m3 at h3 hPi HNW
    generalize c3 i = d3 at h3 hPi HNW
    generalize p4 i = q4 at h4 hPi HNW
    generalize n4 i = m4 at h4 hPi HNW
    generalize c4 i = d4 at h4 hPi HNW
    have HBA := hid ((Below.refl wr.heap.size wr).alloc (Nat.le_refl _) (.cells #[.int .i64 s0,.int .i64 s1,.int .i64 s2,.slice q3 m3 d3,.slice q4 m4 d4] 62))
    have HB1 := hid (HB.out.trans (HBA.out.mono HB.out.size))
    have hcb := hca.below HBA.out hrl
    have HRL := hid (show w.heap.size < (wr.alloc (.cells #[.int .i64 s0,.int .i64 s1,.int .i64 s2,.slice q3 m3 d3,.slice q4 m4 d4] 62)).heap.size by rw [size_al]; omega)
    have hPW := hPi (wr.alloc (.cells #[.int .i64 s0,.int .i64 s1,.int .i64 s2,.slice q3 m3 d3,.slice q4 m4 d4] 62)) HB1.out
    have HCB := hid hcb
    have HRW := hid hrl
    obtain ⟨o0,b0⟩ : ∃ v,cur[i * 5]? = some v := ⟨_,Array.getElem?_eq_getElem (by omega)⟩
    have HZ0 := hid b0
    clear b0
    obtain ⟨o1,b1⟩ : ∃ v,cur[i * 5 + 1]? = some v := ⟨_,Array.getElem?_eq_getElem (by omega)⟩
    have HZ1 := hid b1
    clear b1
    obtain ⟨o2,b2⟩ : ∃ v,cur[i * 5 + 2]? = some v := ⟨_,Array.getElem?_eq_getElem (by omega)⟩
    have HZ2 := hid b2
    clear b2
    obtain ⟨o3,b3⟩ : ∃ v,cur[i * 5 + 3]? = some v := ⟨_,Array.getElem?_eq_getElem (by omega)⟩
    have HZ3 := hid b3
    clear b3
    obtain ⟨o4,b4⟩ : ∃ v,cur[i * 5 + 4]? = some v := ⟨_,Array.getElem?_eq_getElem (by omega)⟩
    have HZ4 := hid b4
    clear b4
    have HCS := hid hcs
    clear hcs hca hcb hrl hio
    go_wp2_with (go_at_fn k; (with_reducible refine hPW.out.mono ?_); rintro e w3 ⟨x3,x4,rfl,hx3,hb3⟩; have hca3 := HCB.out.below hb3 HRL.out; obtain ⟨q3a,q3b,q3c⟩ := x3; obtain ⟨q4a,q4b,q4c⟩ := x4; have k0 : w3.cell? ⟨w.heap.size,i * 5,none⟩ = some o0 := hca3.at (k := i * 5) HZ0.out; have f0 : w3.frozen? ⟨w.heap.size,i * 5,none⟩ = false := hca3.free _; have k1 : w3.cell? ⟨w.heap.size,i * 5 + 1,none⟩ = some o1 := hca3.at (k := i * 5 + 1) HZ1.out; have f1 : w3.frozen? ⟨w.heap.size,i * 5 + 1,none⟩ = false := hca3.free _; have k2 : w3.cell? ⟨w.heap.size,i * 5 + 2,none⟩ = some o2 := hca3.at (k := i * 5 + 2) HZ2.out; have f2 : w3.frozen? ⟨w.heap.size,i * 5 + 2,none⟩ = false := hca3.free _; have k3 : w3.cell? ⟨w.heap.size,i * 5 + 3,none⟩ = some o3 := hca3.at (k := i * 5 + 3) HZ3.out; have f3 : w3.frozen? ⟨w.heap.size,i * 5 + 3,none⟩ = false := hca3.free _; have k4 : w3.cell? ⟨w.heap.size,i * 5 + 4,none⟩ = some o4 := hca3.at (k := i * 5 + 4) HZ4.out; have f4 : w3.frozen? ⟨w.heap.size,i * 5 + 4,none⟩ = false := hca3.free _; have HCA3 := hid hca3; have HX3 := hid hx3; have HB3 := hid hb3; clear hca3 hb3 hx3)
    go_roundw
    case rel =>
     have hS := setL_ok 62 w.heap.size (an * 5) [.int .i64 s0,.int .i64 s1,.int .i64 s2,.slice q3a q3b q3c,.slice q4a q4b q4c] (i * 5) w3 cur HCA3.out HCS.out HIO.out
     have hrs : w.heap.size < w3.heap.size := Nat.lt_of_lt_of_le HRL.out HB3.out.size
     have hu4 : UP (w.heap.size + 1) w3 (setL w3 w.heap.size (i * 5) [.int .i64 s0,.int .i64 s1,.int .i64 s2,.slice q3a q3b q3c,.slice q4a q4b q4c]) := fun b hb _ => hS.other b (by omega)
     have hu3 : UP (w.heap.size + 1) wr (setL w3 w.heap.size (i * 5) [.int .i64 s0,.int .i64 s1,.int .i64 s2,.slice q3a q3b q3c,.slice q4a q4b q4c]) := fun b hb hbl => (hS.other b (by omega)).trans ((HBA.out.trans (HB3.out.mono HBA.out.size)).block b hbl)
     refine ⟨i + 1,hlt,by go_num,hS.row,?_,fun j hj => ?_⟩
     ·exact ((((((HB1.out.trans (HB3.out.mono HB1.out.size)).setCell (p := ⟨w.heap.size,i * 5,none⟩) (Nat.le_refl _) (.int .i64 s0)).setCell (p := ⟨w.heap.size,i * 5 + 1,none⟩) (Nat.le_refl _) (.int .i64 s1)).setCell (p := ⟨w.heap.size,i * 5 + 2,none⟩) (Nat.le_refl _) (.int .i64 s2)).setCell (p := ⟨w.heap.size,i * 5 + 3,none⟩) (Nat.le_refl _) (.slice q3a q3b q3c)).setCell (p := ⟨w.heap.size,i * 5 + 4,none⟩) (Nat.le_refl _) (.slice q4a q4b q4c))
     ·by_cases hji : j = i
      ·have hnw := HNW.out (q3a,q3b,q3c) (q4a,q4b,q4c) _ hS.here (HXU.out (q3a,q3b,q3c) (q4a,q4b,q4c) _ _ hu4 (HXM.out _ (q3a,q3b,q3c) (q4a,q4b,q4c) _ HRL.out HX3.out))
       rw [HNE.out] at hnw
       rw [hji]
       exact hnw
      ·obtain ⟨x3,x4,hh,hx⟩ := HI.out j (by omega)
       refine ⟨x3,x4,fun k v hk => ?_,HU.out j _ x3 x4 _ _ hu3 hx⟩
       have hkn : k < 5 := (List.getElem?_eq_some_iff.1 hk).1
       have hji2 : (j + 1) * 5 ≤ i * 5 := Nat.mul_le_mul_right 5 (by omega)
       show (setL w3 w.heap.size (i * 5) [.int .i64 s0,.int .i64 s1,.int .i64 s2,.slice q3a q3b q3c,.slice q4a q4b q4c]).cell? _ = _
       rw [hS.front _ (by omega),← hh k v hk]
       exact (HBA.out.trans (HB3.out.mono HBA.out.size)).cell (p := ⟨w.heap.size,j * 5 + k,none⟩) HRW.out
    case measure => simp [intOf]; omega
   ·obtain rfl : i = an := by omega
    have HI2 := HI
    have HLT : Hid (w.heap.size < wr.heap.size ∧ ∀ k,wr.frozen? ⟨w.heap.size,k,none⟩ = false) := by obtain ⟨cur,hca,_⟩ := HC.out; exact ⟨hca.lt,fun k => hca.free k⟩
    clear HC
    go_wp2
    go_ret
    refine ⟨⟨_,_,w.heap.size,rfl,fun _ => ⟨rfl,Nat.le_refl _,HLT.out⟩,fun i hi => ?_⟩,HB.out⟩
    obtain ⟨x3,x4,hh,hx⟩ := HI2.out i hi
    exact ⟨x3,x4,hh,HM.out i _ _ x3 x4 _ (Nat.le_succ _) hx⟩
theorem infoC64 : (Tryz.prog.info? 64).map (fun i => (i.zero,i.size,i.bytes)) = some (some (.agg #[.int .i64 0,.int .i64 0,.slice none 0 0,.slice none 0 0]),4,64) := by kernel_rfl
set_option maxHeartbeats 8000000 in
theorem cp_data (k : Nat) (eg : ∀ args w,(callFunc k args).run Tryz.prog w = .ok (.enter k args) w) (X : Nat → Nat → (Option Addr × Nat × Nat) → (Option Addr × Nat × Nat) → World → Prop) (hXm : ∀ j s s' x2 x3 W,s' ≤ s → X j s x2 x3 W → X j s' x2 x3 W) (hXu : ∀ j s x2 x3 W W',UP s W W' → X j s x2 x3 W → X j s x2 x3 W')
  (an ac ag ao : Nat) (ap : Option Addr) (t0 : Nat → Int) (t1 : Nat → Int) (p2 : Nat → Option Addr) (n2 c2 : Nat → Nat) (p3 : Nat → Option Addr) (n3 c3 : Nat → Nat) (w : World) (han : an ≤ 1000000) (hag : an ≠ 0 → ap = some ⟨ag,ao,none⟩ ∧ ag < w.heap.size)
  (hax : ∀ i,i < an → w.cell? ⟨ag,ao + i * 4,none⟩ = some (.int .i64 (t0 i)) ∧ w.cell? ⟨ag,ao + i * 4 + 1,none⟩ = some (.int .i64 (t1 i)) ∧ w.cell? ⟨ag,ao + i * 4 + 2,none⟩ = some (.slice (p2 i) (n2 i) (c2 i)) ∧ w.cell? ⟨ag,ao + i * 4 + 3,none⟩ = some (.slice (p3 i) (n3 i) (c3 i)))
  (hP : ∀ i,i < an → ∀ W,Below w.heap.size w W → Calls Tryz.prog k #[.agg #[.int .i64 (t0 i),.int .i64 (t1 i),.slice (p2 i) (n2 i) (c2 i),.slice (p3 i) (n3 i) (c3 i)]] W fun e w' => ∃ x2 x3,e = .returned (.agg #[.int .i64 (t0 i),.int .i64 (t1 i),.slice x2.1 x2.2.1 x2.2.2,.slice x3.1 x3.2.1 x3.2.2]) ∧ X i W.heap.size x2 x3 w' ∧ Below W.heap.size W w') :
  Calls Tryz.prog 76 #[.slice ap an ac,.func (.func k) #[] #[]] w fun e w' => (∃ p c b,e = .returned (.slice p an c) ∧ (an ≠ 0 → p = some ⟨b,0,none⟩ ∧ w.heap.size ≤ b ∧ b < w'.heap.size ∧ ∀ k,w'.frozen? ⟨b,k,none⟩ = false) ∧ ∀ i,i < an → ∃ x2 x3,(∀ k v,[.int .i64 (t0 i),.int .i64 (t1 i),.slice x2.1 x2.2.1 x2.2.2,.slice x3.1 x3.2.1 x3.2.2][k]? = some v → w'.cell? ⟨b,i * 4 + k,none⟩ = some v) ∧ X i w.heap.size x2 x3 w') ∧ Below w.heap.size w w' := by
 cases ap with
 | none =>
  obtain rfl : an = 0 := by
   rcases Nat.eq_zero_or_pos an with h | h
   ·exact h
   ·cases (hag (by omega)).1
  have hq := fun W => Lib.run_eql_slice_nil (P := Tryz.prog) W 30 64 none 0 ac 0 0 Tryz.underlying30
  clear hag hax hP hXm hXu
  go_enter Tryz.func76,Tryz.ntmps76
  go_wp2
  go_ret
  exact ⟨⟨_,_,0,rfl,fun h => absurd rfl h,fun i hi => absurd hi (Nat.not_lt_zero i)⟩,Below.refl _ _⟩
 | some aa =>
  obtain ⟨i0,hi0,hz0,hz1,hz2⟩ := info_parts infoC64
  have HP := hid hP
  have HAX := hid hax
  have HAG := hid hag
  have HM := hid hXm
  have HU := hid hXu
  have hn1 : (an : Int) < 9223372036854775807 := by omega
  have HAN := hid han
  have hq := fun W => Lib.run_eql_slice_nil (P := Tryz.prog) W 30 64 (some aa) an ac 0 0 Tryz.underlying30
  clear hP hax hag hXm hXu han
  go_enter Tryz.func76,Tryz.ntmps76
  go_wp2_with (at_make; refine wpList_make_full _ rfl _ _ 30 rfl w.heap.size 64 i0 (.agg #[.int .i64 0,.int .i64 0,.slice none 0 0,.slice none 0 0]) 4 Tryz.underlying30 hi0 hz0 hz1 .i64 .i64 _ _ an rfl rfl rfl rfl (by rw [hz2]; have := HAN.out; omega) (by have := HAN.out; unfold maxLen; omega) (Nat.le_refl _) ?_; intro w2 hown2 hgrow2)
  have HB2 := hid ((Below.refl w.heap.size w).grown hgrow2 (Nat.le_refl _) (by simp))
  have HO2 : Hid (∃ cur,CA w.heap.size cur 64 w2 ∧ cur.size = an * 4) := by
   obtain ⟨gq,capq,curq,e1,_,e3,_,_,e6,_⟩ := (hown2.2.resolve_left (by rintro ⟨h,_⟩; cases h))
   simp only [Value.slice.injEq,Option.some.injEq,Addr.mk.injEq] at e1
   obtain ⟨⟨rfl,-,-⟩,-,rfl⟩ := e1
   exact ⟨curq,e3,e6⟩
  clear hown2 hgrow2
  go_loopw [15] (fun vi wr => ∃ i : Nat,i ≤ an ∧ vi = .int .i64 i ∧ Hid (∃ cur,CA w.heap.size cur 64 wr ∧ cur.size = an * 4) ∧ Hid (Below w.heap.size w wr) ∧ Hid (∀ i',i' < i → ∃ x2 x3,(∀ k v,[.int .i64 (t0 i'),.int .i64 (t1 i'),.slice x2.1 x2.2.1 x2.2.2,.slice x3.1 x3.2.1 x3.2.2][k]? = some v → wr.cell? ⟨w.heap.size,i' * 4 + k,none⟩ = some v) ∧ X i' (w.heap.size + 1) x2 x3 wr)) (fun vi _ => an - (intOf vi).toNat)
  case atStart => exact ⟨0,Nat.zero_le _,rfl,HO2,HB2,fun j hj => absurd hj (Nat.not_lt_zero _)⟩
  case round =>
   obtain ⟨i,hi,rfl,HC,HB,HI⟩ := hrel
   by_cases hlt : i < an
   ·obtain ⟨g0,g1,g2,g3⟩ := HAX.out i hlt
    obtain ⟨hpa,hga⟩ := HAG.out (by omega)
    obtain rfl : aa = ⟨ag,ao,none⟩ := by simpa using hpa
    have hPi := fun W h => hid (HP.out i hlt W h)
    have h0 := (HB.out.cell (p := ⟨ag,ao + i * 4,none⟩) hga).trans g0
    have h1 := (HB.out.cell (p := ⟨ag,ao + i * 4 + 1,none⟩) hga).trans g1
    have h2 := (HB.out.cell (p := ⟨ag,ao + i * 4 + 2,none⟩) hga).trans g2
    have h3 := (HB.out.cell (p := ⟨ag,ao + i * 4 + 3,none⟩) hga).trans g3
    clear hpa hga g0 g1 g2 g3
    obtain ⟨cur,hca,hcs⟩ := HC.out
    have hrl := hca.lt
    have hio : (i + 1) * 4 ≤ an * 4 := Nat.mul_le_mul_right 4 hlt
    have HIO := hid (show i * 4 + 4 ≤ an * 4 by omega)
    obtain ⟨NW,hNW⟩ : ∃ NW : World → Prop,NW = (fun W => ∃ x2 x3,(∀ k v,[.int .i64 (t0 i),.int .i64 (t1 i),.slice x2.1 x2.2.1 x2.2.2,.slice x3.1 x3.2.1 x3.2.2][k]? = some v → W.cell? ⟨w.heap.size,i * 4 + k,none⟩ = some v) ∧ X i (w.heap.size + 1) x2 x3 W) := ⟨_,rfl⟩
    have HNE := hid hNW
    have HNW : Hid (∀ (x2 x3 : Option Addr × Nat × Nat) (W : World),(∀ k v,[.int .i64 (t0 i),.int .i64 (t1 i),.slice x2.1 x2.2.1 x2.2.2,.slice x3.1 x3.2.1 x3.2.2][k]? = some v → W.cell? ⟨w.heap.size,i * 4 + k,none⟩ = some v) → X i (w.heap.size + 1) x2 x3 W → NW W) := by
     intro x2 x3 W hh hx
     rw [hNW]
     exact ⟨x2,x3,hh,hx⟩
    clear hNW
    have HXU := hid (fun x2 x3 W W' => HU.out i (w.heap.size + 1) x2 x3 W W')
    have HXM := hid (fun s x2 x3 W => HM.out i s (w.heap.size + 1) x2 x3 W)
    obtain ⟨Xi,hXi⟩ : ∃ Y,Y = X i := ⟨_,rfl⟩
    rw [← hXi] at HNW HXU HXM hPi
    clear hXi
    generalize t0 i = s0 at h0 hPi HNW
    generalize t1 i = s1 at h1 hPi HNW
    generalize p2 i = q2 at h2 hPi HNW
    generalize n2 i = m2 at h2 hPi HNW
    generalize c2 i = d2 at h2 hPi HNW
    generalize p3 i = q3 at h3 hPi HNW
    generalize n3 i = m3 at h3 hPi HNW
    generalize c3 i = d3 at h3 hPi HNW
    have HBA := hid ((Below.refl wr.heap.size wr).alloc (Nat.le_refl _) (.cells #[.int .i64 s0,.int .i64 s1,.slice q2 m2 d2,.slice q3 m3 d3] 64))
    have HB1 := hid (HB.out.trans (HBA.out.mono HB.out.size))
    have hcb := hca.below HBA.out hrl
    have HRL := hid (show w.heap.size < (wr.alloc (.cells #[.int .i64 s0,.int .i64 s1,.slice q2 m2 d2,.slice q3 m3 d3] 64)).heap.size by rw [size_al]; omega)
    have hPW := hPi (wr.alloc (.cells #[.int .i64 s0,.int .i64 s1,.slice q2 m2 d2,.slice q3 m3 d3] 64)) HB1.out
    have HCB := hid hcb
    have HRW := hid hrl
    obtain ⟨o0,b0⟩ : ∃ v,cur[i * 4]? = some v := ⟨_,Array.getElem?_eq_getElem (by omega)⟩
    have HZ0 := hid b0
    clear b0
    obtain ⟨o1,b1⟩ : ∃ v,cur[i * 4 + 1]? = some v := ⟨_,Array.getElem?_eq_getElem (by omega)⟩
    have HZ1 := hid b1
    clear b1
    obtain ⟨o2,b2⟩ : ∃ v,cur[i * 4 + 2]? = some v := ⟨_,Array.getElem?_eq_getElem (by omega)⟩
    have HZ2 := hid b2
    clear b2
    obtain ⟨o3,b3⟩ : ∃ v,cur[i * 4 + 3]? = some v := ⟨_,Array.getElem?_eq_getElem (by omega)⟩
    have HZ3 := hid b3
    clear b3
    have HCS := hid hcs
    clear hcs hca hcb hrl hio
    go_wp2_with (go_at_fn k; (with_reducible refine hPW.out.mono ?_); rintro e w3 ⟨x2,x3,rfl,hx3,hb3⟩; have hca3 := HCB.out.below hb3 HRL.out; obtain ⟨q2a,q2b,q2c⟩ := x2; obtain ⟨q3a,q3b,q3c⟩ := x3; have k0 : w3.cell? ⟨w.heap.size,i * 4,none⟩ = some o0 := hca3.at (k := i * 4) HZ0.out; have f0 : w3.frozen? ⟨w.heap.size,i * 4,none⟩ = false := hca3.free _; have k1 : w3.cell? ⟨w.heap.size,i * 4 + 1,none⟩ = some o1 := hca3.at (k := i * 4 + 1) HZ1.out; have f1 : w3.frozen? ⟨w.heap.size,i * 4 + 1,none⟩ = false := hca3.free _; have k2 : w3.cell? ⟨w.heap.size,i * 4 + 2,none⟩ = some o2 := hca3.at (k := i * 4 + 2) HZ2.out; have f2 : w3.frozen? ⟨w.heap.size,i * 4 + 2,none⟩ = false := hca3.free _; have k3 : w3.cell? ⟨w.heap.size,i * 4 + 3,none⟩ = some o3 := hca3.at (k := i * 4 + 3) HZ3.out; have f3 : w3.frozen? ⟨w.heap.size,i * 4 + 3,none⟩ = false := hca3.free _; have HCA3 := hid hca3; have HX3 := hid hx3; have HB3 := hid hb3; clear hca3 hb3 hx3)
    go_roundw
    case rel =>
     have hS := setL_ok 64 w.heap.size (an * 4) [.int .i64 s0,.int .i64 s1,.slice q2a q2b q2c,.slice q3a q3b q3c] (i * 4) w3 cur HCA3.out HCS.out HIO.out
     have hrs : w.heap.size < w3.heap.size := Nat.lt_of_lt_of_le HRL.out HB3.out.size
     have hu4 : UP (w.heap.size + 1) w3 (setL w3 w.heap.size (i * 4) [.int .i64 s0,.int .i64 s1,.slice q2a q2b q2c,.slice q3a q3b q3c]) := fun b hb _ => hS.other b (by omega)
     have hu3 : UP (w.heap.size + 1) wr (setL w3 w.heap.size (i * 4) [.int .i64 s0,.int .i64 s1,.slice q2a q2b q2c,.slice q3a q3b q3c]) := fun b hb hbl => (hS.other b (by omega)).trans ((HBA.out.trans (HB3.out.mono HBA.out.size)).block b hbl)
     refine ⟨i + 1,hlt,by go_num,hS.row,?_,fun j hj => ?_⟩
     ·exact (((((HB1.out.trans (HB3.out.mono HB1.out.size)).setCell (p := ⟨w.heap.size,i * 4,none⟩) (Nat.le_refl _) (.int .i64 s0)).setCell (p := ⟨w.heap.size,i * 4 + 1,none⟩) (Nat.le_refl _) (.int .i64 s1)).setCell (p := ⟨w.heap.size,i * 4 + 2,none⟩) (Nat.le_refl _) (.slice q2a q2b q2c)).setCell (p := ⟨w.heap.size,i * 4 + 3,none⟩) (Nat.le_refl _) (.slice q3a q3b q3c))
     ·by_cases hji : j = i
      ·have hnw := HNW.out (q2a,q2b,q2c) (q3a,q3b,q3c) _ hS.here (HXU.out (q2a,q2b,q2c) (q3a,q3b,q3c) _ _ hu4 (HXM.out _ (q2a,q2b,q2c) (q3a,q3b,q3c) _ HRL.out HX3.out))
       rw [HNE.out] at hnw
       rw [hji]
       exact hnw
      ·obtain ⟨x2,x3,hh,hx⟩ := HI.out j (by omega)
       refine ⟨x2,x3,fun k v hk => ?_,HU.out j _ x2 x3 _ _ hu3 hx⟩
       have hkn : k < 4 := (List.getElem?_eq_some_iff.1 hk).1
       have hji2 : (j + 1) * 4 ≤ i * 4 := Nat.mul_le_mul_right 4 (by omega)
       show (setL w3 w.heap.size (i * 4) [.int .i64 s0,.int .i64 s1,.slice q2a q2b q2c,.slice q3a q3b q3c]).cell? _ = _
       rw [hS.front _ (by omega),← hh k v hk]
       exact (HBA.out.trans (HB3.out.mono HBA.out.size)).cell (p := ⟨w.heap.size,j * 4 + k,none⟩) HRW.out
    case measure => simp [intOf]; omega
   ·obtain rfl : i = an := by omega
    have HI2 := HI
    have HLT : Hid (w.heap.size < wr.heap.size ∧ ∀ k,wr.frozen? ⟨w.heap.size,k,none⟩ = false) := by obtain ⟨cur,hca,_⟩ := HC.out; exact ⟨hca.lt,fun k => hca.free k⟩
    clear HC
    go_wp2
    go_ret
    refine ⟨⟨_,_,w.heap.size,rfl,fun _ => ⟨rfl,Nat.le_refl _,HLT.out⟩,fun i hi => ?_⟩,HB.out⟩
    obtain ⟨x2,x3,hh,hx⟩ := HI2.out i hi
    exact ⟨x2,x3,hh,HM.out i _ _ x2 x3 _ (Nat.le_succ _) hx⟩
theorem infoC37 : (Tryz.prog.info? 37).map (fun i => (i.zero,i.size,i.bytes)) = some (some (.slice none 0 0),1,24) := by kernel_rfl
set_option maxHeartbeats 8000000 in
theorem cp_cs (k : Nat) (eg : ∀ args w,(callFunc k args).run Tryz.prog w = .ok (.enter k args) w) (X : Nat → Nat → (Option Addr × Nat × Nat) → World → Prop) (hXm : ∀ j s s' x0 W,s' ≤ s → X j s x0 W → X j s' x0 W) (hXu : ∀ j s x0 W W',UP s W W' → X j s x0 W → X j s x0 W')
  (an ac ag ao : Nat) (ap : Option Addr) (p0 : Nat → Option Addr) (n0 c0 : Nat → Nat) (w : World) (han : an ≤ 1000000) (hag : an ≠ 0 → ap = some ⟨ag,ao,none⟩ ∧ ag < w.heap.size)
  (hax : ∀ i,i < an → w.cell? ⟨ag,ao + i,none⟩ = some (.slice (p0 i) (n0 i) (c0 i)))
  (hP : ∀ i,i < an → ∀ W,Below w.heap.size w W → Calls Tryz.prog k #[.slice (p0 i) (n0 i) (c0 i)] W fun e w' => ∃ x0,e = .returned (.slice x0.1 x0.2.1 x0.2.2) ∧ X i W.heap.size x0 w' ∧ Below W.heap.size W w') :
  Calls Tryz.prog 160 #[.slice ap an ac,.func (.func k) #[] #[]] w fun e w' => (∃ p c b,e = .returned (.slice p an c) ∧ (an ≠ 0 → p = some ⟨b,0,none⟩ ∧ w.heap.size ≤ b ∧ b < w'.heap.size ∧ ∀ k,w'.frozen? ⟨b,k,none⟩ = false) ∧ ∀ i,i < an → ∃ x0,(∀ k v,[.slice x0.1 x0.2.1 x0.2.2][k]? = some v → w'.cell? ⟨b,i + k,none⟩ = some v) ∧ X i w.heap.size x0 w') ∧ Below w.heap.size w w' := by
 cases ap with
 | none =>
  obtain rfl : an = 0 := by
   rcases Nat.eq_zero_or_pos an with h | h
   ·exact h
   ·cases (hag (by omega)).1
  have hq := fun W => Lib.run_eql_slice_nil (P := Tryz.prog) W 60 37 none 0 ac 0 0 Tryz.underlying60
  clear hag hax hP hXm hXu
  go_enter Tryz.func160,Tryz.ntmps160
  go_wp2
  go_ret
  exact ⟨⟨_,_,0,rfl,fun h => absurd rfl h,fun i hi => absurd hi (Nat.not_lt_zero i)⟩,Below.refl _ _⟩
 | some aa =>
  obtain ⟨i0,hi0,hz0,hz1,hz2⟩ := info_parts infoC37
  have HP := hid hP
  have HAX := hid hax
  have HAG := hid hag
  have HM := hid hXm
  have HU := hid hXu
  have hn1 : (an : Int) < 9223372036854775807 := by omega
  have HAN := hid han
  have hq := fun W => Lib.run_eql_slice_nil (P := Tryz.prog) W 60 37 (some aa) an ac 0 0 Tryz.underlying60
  clear hP hax hag hXm hXu han
  go_enter Tryz.func160,Tryz.ntmps160
  go_wp2_with (at_make; refine wpList_make_full _ rfl _ _ 60 rfl w.heap.size 37 i0 (.slice none 0 0) 1 Tryz.underlying60 hi0 hz0 hz1 .i64 .i64 _ _ an rfl rfl rfl rfl (by rw [hz2]; have := HAN.out; omega) (by have := HAN.out; unfold maxLen; omega) (Nat.le_refl _) ?_; intro w2 hown2 hgrow2)
  have HB2 := hid ((Below.refl w.heap.size w).grown hgrow2 (Nat.le_refl _) (by simp))
  have HO2 : Hid (∃ cur,CA w.heap.size cur 37 w2 ∧ cur.size = an) := by
   obtain ⟨gq,capq,curq,e1,_,e3,_,_,e6,_⟩ := (hown2.2.resolve_left (by rintro ⟨h,_⟩; cases h))
   simp only [Value.slice.injEq,Option.some.injEq,Addr.mk.injEq] at e1
   obtain ⟨⟨rfl,-,-⟩,-,rfl⟩ := e1
   exact ⟨curq,e3,by rw [e6,Nat.mul_one]⟩
  clear hown2 hgrow2
  go_loopw [15] (fun vi wr => ∃ i : Nat,i ≤ an ∧ vi = .int .i64 i ∧ Hid (∃ cur,CA w.heap.size cur 37 wr ∧ cur.size = an) ∧ Hid (Below w.heap.size w wr) ∧ Hid (∀ i',i' < i → ∃ x0,(∀ k v,[.slice x0.1 x0.2.1 x0.2.2][k]? = some v → wr.cell? ⟨w.heap.size,i' + k,none⟩ = some v) ∧ X i' (w.heap.size + 1) x0 wr)) (fun vi _ => an - (intOf vi).toNat)
  case atStart => exact ⟨0,Nat.zero_le _,rfl,HO2,HB2,fun j hj => absurd hj (Nat.not_lt_zero _)⟩
  case round =>
   obtain ⟨i,hi,rfl,HC,HB,HI⟩ := hrel
   by_cases hlt : i < an
   ·have g0 := HAX.out i hlt
    obtain ⟨hpa,hga⟩ := HAG.out (by omega)
    obtain rfl : aa = ⟨ag,ao,none⟩ := by simpa using hpa
    have hPi := fun W h => hid (HP.out i hlt W h)
    have h0 := (HB.out.cell (p := ⟨ag,ao + i,none⟩) hga).trans g0
    clear hpa hga g0
    obtain ⟨cur,hca,hcs⟩ := HC.out
    have hrl := hca.lt
    have hio : (i + 1) ≤ an := hlt
    have HIO := hid (show i + 1 ≤ an by omega)
    obtain ⟨NW,hNW⟩ : ∃ NW : World → Prop,NW = (fun W => ∃ x0,(∀ k v,[.slice x0.1 x0.2.1 x0.2.2][k]? = some v → W.cell? ⟨w.heap.size,i + k,none⟩ = some v) ∧ X i (w.heap.size + 1) x0 W) := ⟨_,rfl⟩
    have HNE := hid hNW
    have HNW : Hid (∀ (x0 : Option Addr × Nat × Nat) (W : World),(∀ k v,[.slice x0.1 x0.2.1 x0.2.2][k]? = some v → W.cell? ⟨w.heap.size,i + k,none⟩ = some v) → X i (w.heap.size + 1) x0 W → NW W) := by
     intro x0 W hh hx
     rw [hNW]
     exact ⟨x0,hh,hx⟩
    clear hNW
    have HXU := hid (fun x0 W W' => HU.out i (w.heap.size + 1) x0 W W')
    have HXM := hid (fun s x0 W => HM.out i s (w.heap.size + 1) x0 W)
    obtain ⟨Xi,hXi⟩ : ∃ Y,Y = X i := ⟨_,rfl⟩
    rw [← hXi] at HNW HXU HXM hPi
    clear hXi
    generalize p0 i = q0 at h0 hPi HNW
    generalize n0 i = m0 at h0 hPi HNW
    generalize c0 i = d0 at h0 hPi HNW
    have HBA := hid (Below.refl wr.heap.size wr)
    have HB1 := HB
    have hcb := hca
    have HRL := hid hrl
    have hPW := hPi wr HB1.out
    have HCB := hid hcb
    have HRW := hid hrl
    obtain ⟨o0,b0⟩ : ∃ v,cur[i]? = some v := ⟨_,Array.getElem?_eq_getElem (by omega)⟩
    have HZ0 := hid b0
    clear b0
    have HCS := hid hcs
    clear hcs hca hcb hrl hio
    go_wp2_with (go_at_fn k; (with_reducible refine hPW.out.mono ?_); rintro e w3 ⟨x0,rfl,hx3,hb3⟩; have hca3 := HCB.out.below hb3 HRL.out; obtain ⟨q0a,q0b,q0c⟩ := x0; have k0 : w3.cell? ⟨w.heap.size,i,none⟩ = some o0 := hca3.at (k := i) HZ0.out; have f0 : w3.frozen? ⟨w.heap.size,i,none⟩ = false := hca3.free _; have HCA3 := hid hca3; have HX3 := hid hx3; have HB3 := hid hb3; clear hca3 hb3 hx3)
    go_roundw
    case rel =>
     have hS := setL_ok 37 w.heap.size (an) [.slice q0a q0b q0c] (i) w3 cur HCA3.out HCS.out HIO.out
     have hrs : w.heap.size < w3.heap.size := Nat.lt_of_lt_of_le HRL.out HB3.out.size
     have hu4 : UP (w.heap.size + 1) w3 (setL w3 w.heap.size (i) [.slice q0a q0b q0c]) := fun b hb _ => hS.other b (by omega)
     have hu3 : UP (w.heap.size + 1) wr (setL w3 w.heap.size (i) [.slice q0a q0b q0c]) := fun b hb hbl => (hS.other b (by omega)).trans ((HBA.out.trans (HB3.out.mono HBA.out.size)).block b hbl)
     refine ⟨i + 1,hlt,by go_num,hS.row,?_,fun j hj => ?_⟩
     ·exact ((HB1.out.trans (HB3.out.mono HB1.out.size)).setCell (p := ⟨w.heap.size,i,none⟩) (Nat.le_refl _) (.slice q0a q0b q0c))
     ·by_cases hji : j = i
      ·have hnw := HNW.out (q0a,q0b,q0c) _ hS.here (HXU.out (q0a,q0b,q0c) _ _ hu4 (HXM.out _ (q0a,q0b,q0c) _ HRL.out HX3.out))
       rw [HNE.out] at hnw
       rw [hji]
       exact hnw
      ·obtain ⟨x0,hh,hx⟩ := HI.out j (by omega)
       refine ⟨x0,fun k v hk => ?_,HU.out j _ x0 _ _ hu3 hx⟩
       have hkn : k < 1 := (List.getElem?_eq_some_iff.1 hk).1
       have hji2 : (j + 1) ≤ i := (by omega)
       show (setL w3 w.heap.size (i) [.slice q0a q0b q0c]).cell? _ = _
       rw [hS.front _ (by omega),← hh k v hk]
       exact (HBA.out.trans (HB3.out.mono HBA.out.size)).cell (p := ⟨w.heap.size,j + k,none⟩) HRW.out
    case measure => simp [intOf]; omega
   ·obtain rfl : i = an := by omega
    have HI2 := HI
    have HLT : Hid (w.heap.size < wr.heap.size ∧ ∀ k,wr.frozen? ⟨w.heap.size,k,none⟩ = false) := by obtain ⟨cur,hca,_⟩ := HC.out; exact ⟨hca.lt,fun k => hca.free k⟩
    clear HC
    go_wp2
    go_ret
    refine ⟨⟨_,_,w.heap.size,rfl,fun _ => ⟨rfl,Nat.le_refl _,HLT.out⟩,fun i hi => ?_⟩,HB.out⟩
    obtain ⟨x0,hh,hx⟩ := HI2.out i hi
    exact ⟨x0,hh,HM.out i _ _ x0 _ (Nat.le_succ _) hx⟩
end Go.Proofs.YtjgeedgphcjhoaaGreat
