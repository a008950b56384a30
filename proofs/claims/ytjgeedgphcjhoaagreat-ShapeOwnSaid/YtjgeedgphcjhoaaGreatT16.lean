/-
  SEq2: merged, what the law does not reach left out (each text says what it holds where it lies in wip). No condition.
-/
import Derived.Test.YtjgeedgphcjhoaaGreatT15
import Derived.Test.YtjgeedgphcjhoaaGreatT12
import Derived.Test.YtjgeedgphcjhoaaGreatT01
set_option linter.unusedSimpArgs false
set_option linter.unusedVariables false
set_option maxRecDepth 100000
namespace Go.Proofs.YtjgeedgphcjhoaaGreat
open Go.RowKit
theorem loop_app (bs : ByteArray) : ∀ (n i : Nat) (r : List UInt8),bs.size - i = n → ByteArray.toList.loop bs i r = r.reverse ++ (bs.data.toList.drop i) := by
 intro n
 induction n with
 | zero =>
  intro i r h
  unfold ByteArray.toList.loop
  rw [if_neg (by omega)]
  rw [List.drop_eq_nil_of_le (by simp; have : bs.size = bs.data.size := rfl; omega)]
  simp
 | succ n ih =>
  intro i r h
  unfold ByteArray.toList.loop
  rw [if_pos (by omega),ih (i + 1) _ (by omega)]
  have hl : i < bs.data.toList.length := by simp; have : bs.size = bs.data.size := rfl; omega
  rw [List.drop_eq_getElem_cons hl]
  have hg : bs.get! i = bs.data.toList[i] := by
   show bs.data[i]! = _
   rw [getElem!_pos bs.data i (by simpa using hl)]
   simp
  rw [hg]
  simp
theorem bl_eq (a b : ByteArray) : (a = b) ↔ a.toList = b.toList := by
 constructor
 ·rintro rfl; rfl
 ·intro h
  unfold ByteArray.toList at h
  rw [loop_app a _ 0 [] rfl,loop_app b _ 0 [] rfl] at h
  cases a; cases b
  simp at h
  rw [h]
theorem natb2 (n m : Nat) : ((n : Int) == (m : Int)) = (n == m) := by
 rw [Bool.eq_iff_iff,beq_iff_eq,beq_iff_eq]
 omega
theorem bl_t {a b : ByteArray} (h : (a == b) = true) : a.toList = b.toList := (bl_eq a b).1 (eq_of_beq h)
theorem bl_f {a b : ByteArray} (h : (a == b) = false) : ¬ (a.toList = b.toList) := fun e => by rw [(bl_eq a b).2 e,beq_self_eq_true] at h; cases h
set_option maxHeartbeats 4000000 in
theorem eqs_byte (an ac ag ao bn bc bg bo : Nat) (ap bp : Option Addr) (aw0 : Nat → Nat) (bw0 : Nat → Nat) (w : World)
  (han : an < 9223372036854775807) (hbn : bn < 9223372036854775807) (hag : an ≠ 0 → ap = some ⟨ag,ao,none⟩ ∧ ag < w.heap.size) (hbg : bn ≠ 0 → bp = some ⟨bg,bo,none⟩ ∧ bg < w.heap.size)
  (hax : ∀ i,i < an → w.cell? ⟨ag,ao + i,none⟩ = some (.int .u8 (aw0 i : Nat))) (hbx : ∀ i,i < bn → w.cell? ⟨bg,bo + i,none⟩ = some (.int .u8 (bw0 i : Nat))) :
  Calls Tryz.prog 166 #[.slice ap an ac,.slice bp bn bc] w fun e w' => e = .returned (.bool (eqL an bn (fun i => (aw0 i == bw0 i)))) ∧ Below w.heap.size w w' := by
 have HAX := hid hax
 have HBX := hid hbx
 have HAG := hid hag
 have HBG := hid hbg
 have hn1 : (an : Int) < 9223372036854775807 := by omega
 have hn2 : (bn : Int) < 9223372036854775807 := by omega
 obtain ⟨P,hP⟩ : ∃ P : Nat → Bool,P = (fun i => (aw0 i == bw0 i)) := ⟨_,rfl⟩
 rw [← hP]
 have HPP := hid hP
 obtain ⟨r,hr⟩ : ∃ r,r = eqL an bn P := ⟨_,rfl⟩
 rw [← hr]
 have HR := hid hr
 clear hax hbx hag hbg hr han hbn hP
 by_cases hl : an = bn
 ·subst hl
  have hd : ((an : Int) != (an : Int)) = false := by simp
  go_enter Tryz.func166,Tryz.ntmps166
  go_wp2
  go_loopw [13] (fun vi wr => ∃ i : Nat,i ≤ an ∧ vi = .int .i64 i ∧ Hid (∀ j,j < i → P j = true) ∧ Hid (Below w.heap.size w wr)) (fun vi _ => an - (intOf vi).toNat)
  case atStart => exact ⟨0,Nat.zero_le _,rfl,fun j hj => absurd hj (Nat.not_lt_zero _),Below.refl _ _⟩
  case round =>
   obtain ⟨i,hi,rfl,HI,HB⟩ := hrel
   by_cases hlt : i < an
   ·have z0 := HAX.out i hlt
    have v0 := HBX.out i hlt
    obtain ⟨hpa,hga⟩ := HAG.out (by omega)
    obtain ⟨hpb,hgb⟩ := HBG.out (by omega)
    subst hpa hpb
    have HQ := hid (show P i = ((aw0 i == bw0 i)) by rw [HPP.out])
    have x0 := (HB.out.cell (p := ⟨ag,ao + i,none⟩) hga).trans z0
    have y0 := (HB.out.cell (p := ⟨bg,bo + i,none⟩) hgb).trans v0
    clear z0 v0 hga hgb
    generalize aw0 i = as0 at *
    generalize bw0 i = bs0 at *
    obtain ⟨q,hq2⟩ : ∃ q,q = ((as0 == bs0)) := ⟨_,rfl⟩
    rw [← hq2] at HQ
    have hq : ((as0 : Int) != (bs0 : Int)) = !q := by rw [hq2,← natb2]; rfl
    clear hq2
    cases q with
    | false =>
     have HE : Hid (r = false) := by
      rw [HR.out]
      refine Bool.eq_false_iff.2 fun h => ?_
      have := ((eqL_iff _ _ _).1 h).2 i hlt
      rw [HQ.out] at this
      cases this
     go_upto_region 6 with fail
     have hag2 := (HAG.out (by omega)).2
     have hbg2 := (HBG.out (by omega)).2
     have hag3 := Nat.lt_of_lt_of_le hag2 HB.out.size
     have hbg3 := Nat.lt_of_lt_of_le hbg2 HB.out.size
     have hS : Below w.heap.size w wr.drew := HB.out.drew
     refine wp_region_held_drew (S := fun W => Below wr.heap.size wr W) (by kernel_rfl) ((Below.refl _ _).drew) (fun _ => ?_)
     generalize wr.drew = W at *
     refine zt 0 (.slice (some ⟨ag,ao,none⟩) an ac) rfl ?_ ?_
     ·(intro W hSw; have w0 := (hSw.cell (p := ⟨ag,ao + i,none⟩) hag3).trans x0; have u0 := (hSw.cell (p := ⟨bg,bo + i,none⟩) hbg3).trans y0; go_simp; try (with_reducible rfl))
     try simp only [Act.put,sl2,sl0,sl1]
     refine zt 1 (.int .i64 i) rfl ?_ ?_
     ·(intro W hSw; have w0 := (hSw.cell (p := ⟨ag,ao + i,none⟩) hag3).trans x0; have u0 := (hSw.cell (p := ⟨bg,bo + i,none⟩) hbg3).trans y0; go_simp; try (with_reducible rfl))
     try simp only [Act.put,sl2,sl0,sl1]
     refine zt 2 (.pointer (some ⟨ag,ao + i,none⟩)) rfl ?_ ?_
     ·(intro W hSw; have w0 := (hSw.cell (p := ⟨ag,ao + i,none⟩) hag3).trans x0; have u0 := (hSw.cell (p := ⟨bg,bo + i,none⟩) hbg3).trans y0; go_simp; try (with_reducible rfl))
     try simp only [Act.put,sl2,sl0,sl1]
     refine zt 3 (.int .u8 (as0 : Nat)) rfl ?_ ?_
     ·(intro W hSw; have w0 := (hSw.cell (p := ⟨ag,ao + i,none⟩) hag3).trans x0; have u0 := (hSw.cell (p := ⟨bg,bo + i,none⟩) hbg3).trans y0; go_simp; try (with_reducible rfl))
     try simp only [Act.put,sl2,sl0,sl1]
     refine zt 4 (.slice (some ⟨bg,bo,none⟩) an bc) rfl ?_ ?_
     ·(intro W hSw; have w0 := (hSw.cell (p := ⟨ag,ao + i,none⟩) hag3).trans x0; have u0 := (hSw.cell (p := ⟨bg,bo + i,none⟩) hbg3).trans y0; go_simp; try (with_reducible rfl))
     try simp only [Act.put,sl2,sl0,sl1]
     refine zt 5 (.int .i64 i) rfl ?_ ?_
     ·(intro W hSw; have w0 := (hSw.cell (p := ⟨ag,ao + i,none⟩) hag3).trans x0; have u0 := (hSw.cell (p := ⟨bg,bo + i,none⟩) hbg3).trans y0; go_simp; try (with_reducible rfl))
     try simp only [Act.put,sl2,sl0,sl1]
     refine zt 6 (.pointer (some ⟨bg,bo + i,none⟩)) rfl ?_ ?_
     ·(intro W hSw; have w0 := (hSw.cell (p := ⟨ag,ao + i,none⟩) hag3).trans x0; have u0 := (hSw.cell (p := ⟨bg,bo + i,none⟩) hbg3).trans y0; go_simp; try (with_reducible rfl))
     try simp only [Act.put,sl2,sl0,sl1]
     refine zt 7 (.int .u8 (bs0 : Nat)) rfl ?_ ?_
     ·(intro W hSw; have w0 := (hSw.cell (p := ⟨ag,ao + i,none⟩) hag3).trans x0; have u0 := (hSw.cell (p := ⟨bg,bo + i,none⟩) hbg3).trans y0; go_simp; try (with_reducible rfl))
     try simp only [Act.put,sl2,sl0,sl1]
     refine zt 8 (.bool true) rfl ?_ ?_
     ·(intro W hSw; have w0 := (hSw.cell (p := ⟨ag,ao + i,none⟩) hag3).trans x0; have u0 := (hSw.cell (p := ⟨bg,bo + i,none⟩) hbg3).trans y0; go_simp; try (with_reducible rfl))
     try simp only [Act.put,sl2,sl0,sl1]
     refine wpAnyH_done (by kernel_rfl) ?_ _
     go_wp2_with fail
     go_ret
     exact ⟨by rw [HE.out]; rfl,hS⟩
    | true =>
     go_upto_region 6 with fail
     have hag2 := (HAG.out (by omega)).2
     have hbg2 := (HBG.out (by omega)).2
     have hag3 := Nat.lt_of_lt_of_le hag2 HB.out.size
     have hbg3 := Nat.lt_of_lt_of_le hbg2 HB.out.size
     have hS : Below w.heap.size w wr.drew := HB.out.drew
     refine wp_region_held_drew (S := fun W => Below wr.heap.size wr W) (by kernel_rfl) ((Below.refl _ _).drew) (fun _ => ?_)
     generalize wr.drew = W at *
     refine zt 0 (.slice (some ⟨ag,ao,none⟩) an ac) rfl ?_ ?_
     ·(intro W hSw; have w0 := (hSw.cell (p := ⟨ag,ao + i,none⟩) hag3).trans x0; have u0 := (hSw.cell (p := ⟨bg,bo + i,none⟩) hbg3).trans y0; go_simp; try (with_reducible rfl))
     try simp only [Act.put,sl2,sl0,sl1]
     refine zt 1 (.int .i64 i) rfl ?_ ?_
     ·(intro W hSw; have w0 := (hSw.cell (p := ⟨ag,ao + i,none⟩) hag3).trans x0; have u0 := (hSw.cell (p := ⟨bg,bo + i,none⟩) hbg3).trans y0; go_simp; try (with_reducible rfl))
     try simp only [Act.put,sl2,sl0,sl1]
     refine zt 2 (.pointer (some ⟨ag,ao + i,none⟩)) rfl ?_ ?_
     ·(intro W hSw; have w0 := (hSw.cell (p := ⟨ag,ao + i,none⟩) hag3).trans x0; have u0 := (hSw.cell (p := ⟨bg,bo + i,none⟩) hbg3).trans y0; go_simp; try (with_reducible rfl))
     try simp only [Act.put,sl2,sl0,sl1]
     refine zt 3 (.int .u8 (as0 : Nat)) rfl ?_ ?_
     ·(intro W hSw; have w0 := (hSw.cell (p := ⟨ag,ao + i,none⟩) hag3).trans x0; have u0 := (hSw.cell (p := ⟨bg,bo + i,none⟩) hbg3).trans y0; go_simp; try (with_reducible rfl))
     try simp only [Act.put,sl2,sl0,sl1]
     refine zt 4 (.slice (some ⟨bg,bo,none⟩) an bc) rfl ?_ ?_
     ·(intro W hSw; have w0 := (hSw.cell (p := ⟨ag,ao + i,none⟩) hag3).trans x0; have u0 := (hSw.cell (p := ⟨bg,bo + i,none⟩) hbg3).trans y0; go_simp; try (with_reducible rfl))
     try simp only [Act.put,sl2,sl0,sl1]
     refine zt 5 (.int .i64 i) rfl ?_ ?_
     ·(intro W hSw; have w0 := (hSw.cell (p := ⟨ag,ao + i,none⟩) hag3).trans x0; have u0 := (hSw.cell (p := ⟨bg,bo + i,none⟩) hbg3).trans y0; go_simp; try (with_reducible rfl))
     try simp only [Act.put,sl2,sl0,sl1]
     refine zt 6 (.pointer (some ⟨bg,bo + i,none⟩)) rfl ?_ ?_
     ·(intro W hSw; have w0 := (hSw.cell (p := ⟨ag,ao + i,none⟩) hag3).trans x0; have u0 := (hSw.cell (p := ⟨bg,bo + i,none⟩) hbg3).trans y0; go_simp; try (with_reducible rfl))
     try simp only [Act.put,sl2,sl0,sl1]
     refine zt 7 (.int .u8 (bs0 : Nat)) rfl ?_ ?_
     ·(intro W hSw; have w0 := (hSw.cell (p := ⟨ag,ao + i,none⟩) hag3).trans x0; have u0 := (hSw.cell (p := ⟨bg,bo + i,none⟩) hbg3).trans y0; go_simp; try (with_reducible rfl))
     try simp only [Act.put,sl2,sl0,sl1]
     refine zt 8 (.bool false) rfl ?_ ?_
     ·(intro W hSw; have w0 := (hSw.cell (p := ⟨ag,ao + i,none⟩) hag3).trans x0; have u0 := (hSw.cell (p := ⟨bg,bo + i,none⟩) hbg3).trans y0; go_simp; try (with_reducible rfl))
     try simp only [Act.put,sl2,sl0,sl1]
     refine wpAnyH_done (by kernel_rfl) ?_ _
     go_wp2_with fail
     go_roundw
     case rel =>
      refine ⟨i + 1,hlt,by go_num,fun j hj => ?_,hS⟩
      by_cases hji : j = i
      ·rw [hji]; exact HQ.out
      ·exact HI.out j (by omega)
     case measure => simp [intOf]; omega
   ·obtain rfl : i = an := by omega
    have HE : Hid (r = true) := by
     rw [HR.out]
     exact eqL_refl HI.out
    go_wp2
    go_ret
    exact ⟨by rw [HE.out]; rfl,HB.out⟩
 ·have hd : ((an : Int) != (bn : Int)) = true := by simp; omega
  have HE : Hid (r = false) := by
   rw [HR.out]
   exact Bool.eq_false_iff.2 fun h => hl ((eqL_iff _ _ _).1 h).1
  clear hl
  go_enter Tryz.func166,Tryz.ntmps166
  go_wp2
  go_ret
  exact ⟨by rw [HE.out]; rfl,Below.refl _ _⟩
set_option maxHeartbeats 4000000 in
theorem neq_tab (as0 : Int) (as1 : Int) (as2 : Int) (ae3 : Bool) (bs0 : Int) (bs1 : Int) (bs2 : Int) (be3 : Bool) (W : World) : Sem.run Tryz.prog (binOp .neq 72 (.agg #[.int .i64 as0,.int .i64 as1,.int .i64 as2,.bool ae3]) (.agg #[.int .i64 bs0,.int .i64 bs1,.int .i64 bs2,.bool be3])) W = .ok (.bool (!((as0 == bs0) && (as1 == bs1) && (as2 == bs2) && (ae3 == be3)))) W := by
 obtain ⟨e0,d0⟩ : ∃ e,(as0 == bs0) = e := ⟨_,rfl⟩
 obtain ⟨e1,d1⟩ : ∃ e,(as1 == bs1) = e := ⟨_,rfl⟩
 obtain ⟨e2,d2⟩ : ∃ e,(as2 == bs2) = e := ⟨_,rfl⟩
 obtain ⟨e3,d3⟩ : ∃ e,(ae3 == be3) = e := ⟨_,rfl⟩
 rw [d0,d1,d2,d3]
 cases e0 with
 | false =>
  go_simp
 | true =>
  cases e1 with
  | false =>
   go_simp
  | true =>
   cases e2 with
   | false =>
    go_simp
   | true =>
    cases e3 with
    | false =>
     go_simp
    | true =>
     go_simp
set_option maxHeartbeats 4000000 in
theorem eqs_tab (an ac ag ao bn bc bg bo : Nat) (ap bp : Option Addr) (at0 : Nat → Int) (at1 : Nat → Int) (at2 : Nat → Int) (abo3 : Nat → Bool) (bt0 : Nat → Int) (bt1 : Nat → Int) (bt2 : Nat → Int) (bbo3 : Nat → Bool) (w : World)
  (han : an < 9223372036854775807) (hbn : bn < 9223372036854775807) (hag : an ≠ 0 → ap = some ⟨ag,ao,none⟩ ∧ ag < w.heap.size) (hbg : bn ≠ 0 → bp = some ⟨bg,bo,none⟩ ∧ bg < w.heap.size)
  (hax : ∀ i,i < an → w.cell? ⟨ag,ao + i * 4,none⟩ = some (.int .i64 (at0 i)) ∧ w.cell? ⟨ag,ao + i * 4 + 1,none⟩ = some (.int .i64 (at1 i)) ∧ w.cell? ⟨ag,ao + i * 4 + 2,none⟩ = some (.int .i64 (at2 i)) ∧ w.cell? ⟨ag,ao + i * 4 + 3,none⟩ = some (.bool (abo3 i))) (hbx : ∀ i,i < bn → w.cell? ⟨bg,bo + i * 4,none⟩ = some (.int .i64 (bt0 i)) ∧ w.cell? ⟨bg,bo + i * 4 + 1,none⟩ = some (.int .i64 (bt1 i)) ∧ w.cell? ⟨bg,bo + i * 4 + 2,none⟩ = some (.int .i64 (bt2 i)) ∧ w.cell? ⟨bg,bo + i * 4 + 3,none⟩ = some (.bool (bbo3 i))) :
  Calls Tryz.prog 83 #[.slice ap an ac,.slice bp bn bc] w fun e w' => e = .returned (.bool (eqL an bn (fun i => (at0 i == bt0 i) && (at1 i == bt1 i) && (at2 i == bt2 i) && (abo3 i == bbo3 i)))) ∧ Below w.heap.size w w' := by
 have HAX := hid hax
 have HBX := hid hbx
 have HAG := hid hag
 have HBG := hid hbg
 have hn1 : (an : Int) < 9223372036854775807 := by omega
 have hn2 : (bn : Int) < 9223372036854775807 := by omega
 obtain ⟨P,hP⟩ : ∃ P : Nat → Bool,P = (fun i => (at0 i == bt0 i) && (at1 i == bt1 i) && (at2 i == bt2 i) && (abo3 i == bbo3 i)) := ⟨_,rfl⟩
 rw [← hP]
 have HPP := hid hP
 obtain ⟨r,hr⟩ : ∃ r,r = eqL an bn P := ⟨_,rfl⟩
 rw [← hr]
 have HR := hid hr
 clear hax hbx hag hbg hr han hbn hP
 by_cases hl : an = bn
 ·subst hl
  have hd : ((an : Int) != (an : Int)) = false := by simp
  go_enter Tryz.func83,Tryz.ntmps83
  go_wp2
  go_loopw [13] (fun vi wr => ∃ i : Nat,i ≤ an ∧ vi = .int .i64 i ∧ Hid (∀ j,j < i → P j = true) ∧ Hid (Below w.heap.size w wr)) (fun vi _ => an - (intOf vi).toNat)
  case atStart => exact ⟨0,Nat.zero_le _,rfl,fun j hj => absurd hj (Nat.not_lt_zero _),Below.refl _ _⟩
  case round =>
   obtain ⟨i,hi,rfl,HI,HB⟩ := hrel
   by_cases hlt : i < an
   ·obtain ⟨z0,z1,z2,z3⟩ := HAX.out i hlt
    obtain ⟨v0,v1,v2,v3⟩ := HBX.out i hlt
    obtain ⟨hpa,hga⟩ := HAG.out (by omega)
    obtain ⟨hpb,hgb⟩ := HBG.out (by omega)
    subst hpa hpb
    have HQ := hid (show P i = ((at0 i == bt0 i) && (at1 i == bt1 i) && (at2 i == bt2 i) && (abo3 i == bbo3 i)) by rw [HPP.out])
    have x0 := (HB.out.cell (p := ⟨ag,ao + i * 4,none⟩) hga).trans z0
    have y0 := (HB.out.cell (p := ⟨bg,bo + i * 4,none⟩) hgb).trans v0
    have x1 := (HB.out.cell (p := ⟨ag,ao + i * 4 + 1,none⟩) hga).trans z1
    have y1 := (HB.out.cell (p := ⟨bg,bo + i * 4 + 1,none⟩) hgb).trans v1
    have x2 := (HB.out.cell (p := ⟨ag,ao + i * 4 + 2,none⟩) hga).trans z2
    have y2 := (HB.out.cell (p := ⟨bg,bo + i * 4 + 2,none⟩) hgb).trans v2
    have x3 := (HB.out.cell (p := ⟨ag,ao + i * 4 + 3,none⟩) hga).trans z3
    have y3 := (HB.out.cell (p := ⟨bg,bo + i * 4 + 3,none⟩) hgb).trans v3
    clear z0 v0 z1 v1 z2 v2 z3 v3 hga hgb
    generalize at0 i = as0 at *
    generalize at1 i = as1 at *
    generalize at2 i = as2 at *
    generalize abo3 i = ae3 at *
    generalize bt0 i = bs0 at *
    generalize bt1 i = bs1 at *
    generalize bt2 i = bs2 at *
    generalize bbo3 i = be3 at *
    have hq := fun W => neq_tab as0 as1 as2 ae3 bs0 bs1 bs2 be3 W
    obtain ⟨q,hq2⟩ : ∃ q,q = ((as0 == bs0) && (as1 == bs1) && (as2 == bs2) && (ae3 == be3)) := ⟨_,rfl⟩
    rw [← hq2] at HQ hq
    clear hq2
    cases q with
    | false =>
     have HE : Hid (r = false) := by
      rw [HR.out]
      refine Bool.eq_false_iff.2 fun h => ?_
      have := ((eqL_iff _ _ _).1 h).2 i hlt
      rw [HQ.out] at this
      cases this
     go_upto_region 6 with fail
     have hag2 := (HAG.out (by omega)).2
     have hbg2 := (HBG.out (by omega)).2
     have hag3 := Nat.lt_of_lt_of_le hag2 HB.out.size
     have hbg3 := Nat.lt_of_lt_of_le hbg2 HB.out.size
     have hS : Below w.heap.size w wr.drew := HB.out.drew
     refine wp_region_held_drew (S := fun W => Below wr.heap.size wr W) (by kernel_rfl) ((Below.refl _ _).drew) (fun _ => ?_)
     generalize wr.drew = W at *
     refine zt 0 (.slice (some ⟨ag,ao,none⟩) an ac) rfl ?_ ?_
     ·(intro W hSw; have w0 := (hSw.cell (p := ⟨ag,ao + i * 4,none⟩) hag3).trans x0; have u0 := (hSw.cell (p := ⟨bg,bo + i * 4,none⟩) hbg3).trans y0; have w1 := (hSw.cell (p := ⟨ag,ao + i * 4 + 1,none⟩) hag3).trans x1; have u1 := (hSw.cell (p := ⟨bg,bo + i * 4 + 1,none⟩) hbg3).trans y1; have w2 := (hSw.cell (p := ⟨ag,ao + i * 4 + 2,none⟩) hag3).trans x2; have u2 := (hSw.cell (p := ⟨bg,bo + i * 4 + 2,none⟩) hbg3).trans y2; have w3 := (hSw.cell (p := ⟨ag,ao + i * 4 + 3,none⟩) hag3).trans x3; have u3 := (hSw.cell (p := ⟨bg,bo + i * 4 + 3,none⟩) hbg3).trans y3; go_simp; try (with_reducible rfl))
     try simp only [Act.put,sl2,sl0,sl1]
     refine zt 1 (.int .i64 i) rfl ?_ ?_
     ·(intro W hSw; have w0 := (hSw.cell (p := ⟨ag,ao + i * 4,none⟩) hag3).trans x0; have u0 := (hSw.cell (p := ⟨bg,bo + i * 4,none⟩) hbg3).trans y0; have w1 := (hSw.cell (p := ⟨ag,ao + i * 4 + 1,none⟩) hag3).trans x1; have u1 := (hSw.cell (p := ⟨bg,bo + i * 4 + 1,none⟩) hbg3).trans y1; have w2 := (hSw.cell (p := ⟨ag,ao + i * 4 + 2,none⟩) hag3).trans x2; have u2 := (hSw.cell (p := ⟨bg,bo + i * 4 + 2,none⟩) hbg3).trans y2; have w3 := (hSw.cell (p := ⟨ag,ao + i * 4 + 3,none⟩) hag3).trans x3; have u3 := (hSw.cell (p := ⟨bg,bo + i * 4 + 3,none⟩) hbg3).trans y3; go_simp; try (with_reducible rfl))
     try simp only [Act.put,sl2,sl0,sl1]
     refine zt 2 (.pointer (some ⟨ag,ao + i * 4,none⟩)) rfl ?_ ?_
     ·(intro W hSw; have w0 := (hSw.cell (p := ⟨ag,ao + i * 4,none⟩) hag3).trans x0; have u0 := (hSw.cell (p := ⟨bg,bo + i * 4,none⟩) hbg3).trans y0; have w1 := (hSw.cell (p := ⟨ag,ao + i * 4 + 1,none⟩) hag3).trans x1; have u1 := (hSw.cell (p := ⟨bg,bo + i * 4 + 1,none⟩) hbg3).trans y1; have w2 := (hSw.cell (p := ⟨ag,ao + i * 4 + 2,none⟩) hag3).trans x2; have u2 := (hSw.cell (p := ⟨bg,bo + i * 4 + 2,none⟩) hbg3).trans y2; have w3 := (hSw.cell (p := ⟨ag,ao + i * 4 + 3,none⟩) hag3).trans x3; have u3 := (hSw.cell (p := ⟨bg,bo + i * 4 + 3,none⟩) hbg3).trans y3; go_simp; try (with_reducible rfl))
     try simp only [Act.put,sl2,sl0,sl1]
     refine zt 3 (.agg #[.int .i64 as0,.int .i64 as1,.int .i64 as2,.bool ae3]) rfl ?_ ?_
     ·(intro W hSw; have w0 := (hSw.cell (p := ⟨ag,ao + i * 4,none⟩) hag3).trans x0; have u0 := (hSw.cell (p := ⟨bg,bo + i * 4,none⟩) hbg3).trans y0; have w1 := (hSw.cell (p := ⟨ag,ao + i * 4 + 1,none⟩) hag3).trans x1; have u1 := (hSw.cell (p := ⟨bg,bo + i * 4 + 1,none⟩) hbg3).trans y1; have w2 := (hSw.cell (p := ⟨ag,ao + i * 4 + 2,none⟩) hag3).trans x2; have u2 := (hSw.cell (p := ⟨bg,bo + i * 4 + 2,none⟩) hbg3).trans y2; have w3 := (hSw.cell (p := ⟨ag,ao + i * 4 + 3,none⟩) hag3).trans x3; have u3 := (hSw.cell (p := ⟨bg,bo + i * 4 + 3,none⟩) hbg3).trans y3; go_simp; try (with_reducible rfl))
     try simp only [Act.put,sl2,sl0,sl1]
     refine zt 4 (.slice (some ⟨bg,bo,none⟩) an bc) rfl ?_ ?_
     ·(intro W hSw; have w0 := (hSw.cell (p := ⟨ag,ao + i * 4,none⟩) hag3).trans x0; have u0 := (hSw.cell (p := ⟨bg,bo + i * 4,none⟩) hbg3).trans y0; have w1 := (hSw.cell (p := ⟨ag,ao + i * 4 + 1,none⟩) hag3).trans x1; have u1 := (hSw.cell (p := ⟨bg,bo + i * 4 + 1,none⟩) hbg3).trans y1; have w2 := (hSw.cell (p := ⟨ag,ao + i * 4 + 2,none⟩) hag3).trans x2; have u2 := (hSw.cell (p := ⟨bg,bo + i * 4 + 2,none⟩) hbg3).trans y2; have w3 := (hSw.cell (p := ⟨ag,ao + i * 4 + 3,none⟩) hag3).trans x3; have u3 := (hSw.cell (p := ⟨bg,bo + i * 4 + 3,none⟩) hbg3).trans y3; go_simp; try (with_reducible rfl))
     try simp only [Act.put,sl2,sl0,sl1]
     refine zt 5 (.int .i64 i) rfl ?_ ?_
     ·(intro W hSw; have w0 := (hSw.cell (p := ⟨ag,ao + i * 4,none⟩) hag3).trans x0; have u0 := (hSw.cell (p := ⟨bg,bo + i * 4,none⟩) hbg3).trans y0; have w1 := (hSw.cell (p := ⟨ag,ao + i * 4 + 1,none⟩) hag3).trans x1; have u1 := (hSw.cell (p := ⟨bg,bo + i * 4 + 1,none⟩) hbg3).trans y1; have w2 := (hSw.cell (p := ⟨ag,ao + i * 4 + 2,none⟩) hag3).trans x2; have u2 := (hSw.cell (p := ⟨bg,bo + i * 4 + 2,none⟩) hbg3).trans y2; have w3 := (hSw.cell (p := ⟨ag,ao + i * 4 + 3,none⟩) hag3).trans x3; have u3 := (hSw.cell (p := ⟨bg,bo + i * 4 + 3,none⟩) hbg3).trans y3; go_simp; try (with_reducible rfl))
     try simp only [Act.put,sl2,sl0,sl1]
     refine zt 6 (.pointer (some ⟨bg,bo + i * 4,none⟩)) rfl ?_ ?_
     ·(intro W hSw; have w0 := (hSw.cell (p := ⟨ag,ao + i * 4,none⟩) hag3).trans x0; have u0 := (hSw.cell (p := ⟨bg,bo + i * 4,none⟩) hbg3).trans y0; have w1 := (hSw.cell (p := ⟨ag,ao + i * 4 + 1,none⟩) hag3).trans x1; have u1 := (hSw.cell (p := ⟨bg,bo + i * 4 + 1,none⟩) hbg3).trans y1; have w2 := (hSw.cell (p := ⟨ag,ao + i * 4 + 2,none⟩) hag3).trans x2; have u2 := (hSw.cell (p := ⟨bg,bo + i * 4 + 2,none⟩) hbg3).trans y2; have w3 := (hSw.cell (p := ⟨ag,ao + i * 4 + 3,none⟩) hag3).trans x3; have u3 := (hSw.cell (p := ⟨bg,bo + i * 4 + 3,none⟩) hbg3).trans y3; go_simp; try (with_reducible rfl))
     try simp only [Act.put,sl2,sl0,sl1]
     refine zt 7 (.agg #[.int .i64 bs0,.int .i64 bs1,.int .i64 bs2,.bool be3]) rfl ?_ ?_
     ·(intro W hSw; have w0 := (hSw.cell (p := ⟨ag,ao + i * 4,none⟩) hag3).trans x0; have u0 := (hSw.cell (p := ⟨bg,bo + i * 4,none⟩) hbg3).trans y0; have w1 := (hSw.cell (p := ⟨ag,ao + i * 4 + 1,none⟩) hag3).trans x1; have u1 := (hSw.cell (p := ⟨bg,bo + i * 4 + 1,none⟩) hbg3).trans y1; have w2 := (hSw.cell (p := ⟨ag,ao + i * 4 + 2,none⟩) hag3).trans x2; have u2 := (hSw.cell (p := ⟨bg,bo + i * 4 + 2,none⟩) hbg3).trans y2; have w3 := (hSw.cell (p := ⟨ag,ao + i * 4 + 3,none⟩) hag3).trans x3; have u3 := (hSw.cell (p := ⟨bg,bo + i * 4 + 3,none⟩) hbg3).trans y3; go_simp; try (with_reducible rfl))
     try simp only [Act.put,sl2,sl0,sl1]
     refine zt 8 (.bool true) rfl ?_ ?_
     ·(intro W hSw; have w0 := (hSw.cell (p := ⟨ag,ao + i * 4,none⟩) hag3).trans x0; have u0 := (hSw.cell (p := ⟨bg,bo + i * 4,none⟩) hbg3).trans y0; have w1 := (hSw.cell (p := ⟨ag,ao + i * 4 + 1,none⟩) hag3).trans x1; have u1 := (hSw.cell (p := ⟨bg,bo + i * 4 + 1,none⟩) hbg3).trans y1; have w2 := (hSw.cell (p := ⟨ag,ao + i * 4 + 2,none⟩) hag3).trans x2; have u2 := (hSw.cell (p := ⟨bg,bo + i * 4 + 2,none⟩) hbg3).trans y2; have w3 := (hSw.cell (p := ⟨ag,ao + i * 4 + 3,none⟩) hag3).trans x3; have u3 := (hSw.cell (p := ⟨bg,bo + i * 4 + 3,none⟩) hbg3).trans y3; go_simp; try (with_reducible rfl))
     try simp only [Act.put,sl2,sl0,sl1]
     refine wpAnyH_done (by kernel_rfl) ?_ _
     go_wp2_with fail
     go_ret
     exact ⟨by rw [HE.out]; rfl,hS⟩
    | true =>
     go_upto_region 6 with fail
     have hag2 := (HAG.out (by omega)).2
     have hbg2 := (HBG.out (by omega)).2
     have hag3 := Nat.lt_of_lt_of_le hag2 HB.out.size
     have hbg3 := Nat.lt_of_lt_of_le hbg2 HB.out.size
     have hS : Below w.heap.size w wr.drew := HB.out.drew
     refine wp_region_held_drew (S := fun W => Below wr.heap.size wr W) (by kernel_rfl) ((Below.refl _ _).drew) (fun _ => ?_)
     generalize wr.drew = W at *
     refine zt 0 (.slice (some ⟨ag,ao,none⟩) an ac) rfl ?_ ?_
     ·(intro W hSw; have w0 := (hSw.cell (p := ⟨ag,ao + i * 4,none⟩) hag3).trans x0; have u0 := (hSw.cell (p := ⟨bg,bo + i * 4,none⟩) hbg3).trans y0; have w1 := (hSw.cell (p := ⟨ag,ao + i * 4 + 1,none⟩) hag3).trans x1; have u1 := (hSw.cell (p := ⟨bg,bo + i * 4 + 1,none⟩) hbg3).trans y1; have w2 := (hSw.cell (p := ⟨ag,ao + i * 4 + 2,none⟩) hag3).trans x2; have u2 := (hSw.cell (p := ⟨bg,bo + i * 4 + 2,none⟩) hbg3).trans y2; have w3 := (hSw.cell (p := ⟨ag,ao + i * 4 + 3,none⟩) hag3).trans x3; have u3 := (hSw.cell (p := ⟨bg,bo + i * 4 + 3,none⟩) hbg3).trans y3; go_simp; try (with_reducible rfl))
     try simp only [Act.put,sl2,sl0,sl1]
     refine zt 1 (.int .i64 i) rfl ?_ ?_
     ·(intro W hSw; have w0 := (hSw.cell (p := ⟨ag,ao + i * 4,none⟩) hag3).trans x0; have u0 := (hSw.cell (p := ⟨bg,bo + i * 4,none⟩) hbg3).trans y0; have w1 := (hSw.cell (p := ⟨ag,ao + i * 4 + 1,none⟩) hag3).trans x1; have u1 := (hSw.cell (p := ⟨bg,bo + i * 4 + 1,none⟩) hbg3).trans y1; have w2 := (hSw.cell (p := ⟨ag,ao + i * 4 + 2,none⟩) hag3).trans x2; have u2 := (hSw.cell (p := ⟨bg,bo + i * 4 + 2,none⟩) hbg3).trans y2; have w3 := (hSw.cell (p := ⟨ag,ao + i * 4 + 3,none⟩) hag3).trans x3; have u3 := (hSw.cell (p := ⟨bg,bo + i * 4 + 3,none⟩) hbg3).trans y3; go_simp; try (with_reducible rfl))
     try simp only [Act.put,sl2,sl0,sl1]
     refine zt 2 (.pointer (some ⟨ag,ao + i * 4,none⟩)) rfl ?_ ?_
     ·(intro W hSw; have w0 := (hSw.cell (p := ⟨ag,ao + i * 4,none⟩) hag3).trans x0; have u0 := (hSw.cell (p := ⟨bg,bo + i * 4,none⟩) hbg3).trans y0; have w1 := (hSw.cell (p := ⟨ag,ao + i * 4 + 1,none⟩) hag3).trans x1; have u1 := (hSw.cell (p := ⟨bg,bo + i * 4 + 1,none⟩) hbg3).trans y1; have w2 := (hSw.cell (p := ⟨ag,ao + i * 4 + 2,none⟩) hag3).trans x2; have u2 := (hSw.cell (p := ⟨bg,bo + i * 4 + 2,none⟩) hbg3).trans y2; have w3 := (hSw.cell (p := ⟨ag,ao + i * 4 + 3,none⟩) hag3).trans x3; have u3 := (hSw.cell (p := ⟨bg,bo + i * 4 + 3,none⟩) hbg3).trans y3; go_simp; try (with_reducible rfl))
     try simp only [Act.put,sl2,sl0,sl1]
     refine zt 3 (.agg #[.int .i64 as0,.int .i64 as1,.int .i64 as2,.bool ae3]) rfl ?_ ?_
     ·(intro W hSw; have w0 := (hSw.cell (p := ⟨ag,ao + i * 4,none⟩) hag3).trans x0; have u0 := (hSw.cell (p := ⟨bg,bo + i * 4,none⟩) hbg3).trans y0; have w1 := (hSw.cell (p := ⟨ag,ao + i * 4 + 1,none⟩) hag3).trans x1; have u1 := (hSw.cell (p := ⟨bg,bo + i * 4 + 1,none⟩) hbg3).trans y1; have w2 := (hSw.cell (p := ⟨ag,ao + i * 4 + 2,none⟩) hag3).trans x2; have u2 := (hSw.cell (p := ⟨bg,bo + i * 4 + 2,none⟩) hbg3).trans y2; have w3 := (hSw.cell (p := ⟨ag,ao + i * 4 + 3,none⟩) hag3).trans x3; have u3 := (hSw.cell (p := ⟨bg,bo + i * 4 + 3,none⟩) hbg3).trans y3; go_simp; try (with_reducible rfl))
     try simp only [Act.put,sl2,sl0,sl1]
     refine zt 4 (.slice (some ⟨bg,bo,none⟩) an bc) rfl ?_ ?_
     ·(intro W hSw; have w0 := (hSw.cell (p := ⟨ag,ao + i * 4,none⟩) hag3).trans x0; have u0 := (hSw.cell (p := ⟨bg,bo + i * 4,none⟩) hbg3).trans y0; have w1 := (hSw.cell (p := ⟨ag,ao + i * 4 + 1,none⟩) hag3).trans x1; have u1 := (hSw.cell (p := ⟨bg,bo + i * 4 + 1,none⟩) hbg3).trans y1; have w2 := (hSw.cell (p := ⟨ag,ao + i * 4 + 2,none⟩) hag3).trans x2; have u2 := (hSw.cell (p := ⟨bg,bo + i * 4 + 2,none⟩) hbg3).trans y2; have w3 := (hSw.cell (p := ⟨ag,ao + i * 4 + 3,none⟩) hag3).trans x3; have u3 := (hSw.cell (p := ⟨bg,bo + i * 4 + 3,none⟩) hbg3).trans y3; go_simp; try (with_reducible rfl))
     try simp only [Act.put,sl2,sl0,sl1]
     refine zt 5 (.int .i64 i) rfl ?_ ?_
     ·(intro W hSw; have w0 := (hSw.cell (p := ⟨ag,ao + i * 4,none⟩) hag3).trans x0; have u0 := (hSw.cell (p := ⟨bg,bo + i * 4,none⟩) hbg3).trans y0; have w1 := (hSw.cell (p := ⟨ag,ao + i * 4 + 1,none⟩) hag3).trans x1; have u1 := (hSw.cell (p := ⟨bg,bo + i * 4 + 1,none⟩) hbg3).trans y1; have w2 := (hSw.cell (p := ⟨ag,ao + i * 4 + 2,none⟩) hag3).trans x2; have u2 := (hSw.cell (p := ⟨bg,bo + i * 4 + 2,none⟩) hbg3).trans y2; have w3 := (hSw.cell (p := ⟨ag,ao + i * 4 + 3,none⟩) hag3).trans x3; have u3 := (hSw.cell (p := ⟨bg,bo + i * 4 + 3,none⟩) hbg3).trans y3; go_simp; try (with_reducible rfl))
     try simp only [Act.put,sl2,sl0,sl1]
     refine zt 6 (.pointer (some ⟨bg,bo + i * 4,none⟩)) rfl ?_ ?_
     ·(intro W hSw; have w0 := (hSw.cell (p := ⟨ag,ao + i * 4,none⟩) hag3).trans x0; have u0 := (hSw.cell (p := ⟨bg,bo + i * 4,none⟩) hbg3).trans y0; have w1 := (hSw.cell (p := ⟨ag,ao + i * 4 + 1,none⟩) hag3).trans x1; have u1 := (hSw.cell (p := ⟨bg,bo + i * 4 + 1,none⟩) hbg3).trans y1; have w2 := (hSw.cell (p := ⟨ag,ao + i * 4 + 2,none⟩) hag3).trans x2; have u2 := (hSw.cell (p := ⟨bg,bo + i * 4 + 2,none⟩) hbg3).trans y2; have w3 := (hSw.cell (p := ⟨ag,ao + i * 4 + 3,none⟩) hag3).trans x3; have u3 := (hSw.cell (p := ⟨bg,bo + i * 4 + 3,none⟩) hbg3).trans y3; go_simp; try (with_reducible rfl))
     try simp only [Act.put,sl2,sl0,sl1]
     refine zt 7 (.agg #[.int .i64 bs0,.int .i64 bs1,.int .i64 bs2,.bool be3]) rfl ?_ ?_
     ·(intro W hSw; have w0 := (hSw.cell (p := ⟨ag,ao + i * 4,none⟩) hag3).trans x0; have u0 := (hSw.cell (p := ⟨bg,bo + i * 4,none⟩) hbg3).trans y0; have w1 := (hSw.cell (p := ⟨ag,ao + i * 4 + 1,none⟩) hag3).trans x1; have u1 := (hSw.cell (p := ⟨bg,bo + i * 4 + 1,none⟩) hbg3).trans y1; have w2 := (hSw.cell (p := ⟨ag,ao + i * 4 + 2,none⟩) hag3).trans x2; have u2 := (hSw.cell (p := ⟨bg,bo + i * 4 + 2,none⟩) hbg3).trans y2; have w3 := (hSw.cell (p := ⟨ag,ao + i * 4 + 3,none⟩) hag3).trans x3; have u3 := (hSw.cell (p := ⟨bg,bo + i * 4 + 3,none⟩) hbg3).trans y3; go_simp; try (with_reducible rfl))
     try simp only [Act.put,sl2,sl0,sl1]
     refine zt 8 (.bool false) rfl ?_ ?_
     ·(intro W hSw; have w0 := (hSw.cell (p := ⟨ag,ao + i * 4,none⟩) hag3).trans x0; have u0 := (hSw.cell (p := ⟨bg,bo + i * 4,none⟩) hbg3).trans y0; have w1 := (hSw.cell (p := ⟨ag,ao + i * 4 + 1,none⟩) hag3).trans x1; have u1 := (hSw.cell (p := ⟨bg,bo + i * 4 + 1,none⟩) hbg3).trans y1; have w2 := (hSw.cell (p := ⟨ag,ao + i * 4 + 2,none⟩) hag3).trans x2; have u2 := (hSw.cell (p := ⟨bg,bo + i * 4 + 2,none⟩) hbg3).trans y2; have w3 := (hSw.cell (p := ⟨ag,ao + i * 4 + 3,none⟩) hag3).trans x3; have u3 := (hSw.cell (p := ⟨bg,bo + i * 4 + 3,none⟩) hbg3).trans y3; go_simp; try (with_reducible rfl))
     try simp only [Act.put,sl2,sl0,sl1]
     refine wpAnyH_done (by kernel_rfl) ?_ _
     go_wp2_with fail
     go_roundw
     case rel =>
      refine ⟨i + 1,hlt,by go_num,fun j hj => ?_,hS⟩
      by_cases hji : j = i
      ·rw [hji]; exact HQ.out
      ·exact HI.out j (by omega)
     case measure => simp [intOf]; omega
   ·obtain rfl : i = an := by omega
    have HE : Hid (r = true) := by
     rw [HR.out]
     exact eqL_refl HI.out
    go_wp2
    go_ret
    exact ⟨by rw [HE.out]; rfl,HB.out⟩
 ·have hd : ((an : Int) != (bn : Int)) = true := by simp; omega
  have HE : Hid (r = false) := by
   rw [HR.out]
   exact Bool.eq_false_iff.2 fun h => hl ((eqL_iff _ _ _).1 h).1
  clear hl
  go_enter Tryz.func83,Tryz.ntmps83
  go_wp2
  go_ret
  exact ⟨by rw [HE.out]; rfl,Below.refl _ _⟩
set_option maxHeartbeats 4000000 in
theorem neq_lim (as0 : Int) (as1 : Int) (ae2 : Bool) (bs0 : Int) (bs1 : Int) (be2 : Bool) (W : World) : Sem.run Tryz.prog (binOp .neq 70 (.agg #[.int .i64 as0,.int .i64 as1,.bool ae2]) (.agg #[.int .i64 bs0,.int .i64 bs1,.bool be2])) W = .ok (.bool (!((as0 == bs0) && (as1 == bs1) && (ae2 == be2)))) W := by
 obtain ⟨e0,d0⟩ : ∃ e,(as0 == bs0) = e := ⟨_,rfl⟩
 obtain ⟨e1,d1⟩ : ∃ e,(as1 == bs1) = e := ⟨_,rfl⟩
 obtain ⟨e2,d2⟩ : ∃ e,(ae2 == be2) = e := ⟨_,rfl⟩
 rw [d0,d1,d2]
 cases e0 with
 | false =>
  go_simp
 | true =>
  cases e1 with
  | false =>
   go_simp
  | true =>
   cases e2 with
   | false =>
    go_simp
   | true =>
    go_simp
set_option maxHeartbeats 4000000 in
theorem eqs_lim (an ac ag ao bn bc bg bo : Nat) (ap bp : Option Addr) (at0 : Nat → Int) (at1 : Nat → Int) (abo2 : Nat → Bool) (bt0 : Nat → Int) (bt1 : Nat → Int) (bbo2 : Nat → Bool) (w : World)
  (han : an < 9223372036854775807) (hbn : bn < 9223372036854775807) (hag : an ≠ 0 → ap = some ⟨ag,ao,none⟩ ∧ ag < w.heap.size) (hbg : bn ≠ 0 → bp = some ⟨bg,bo,none⟩ ∧ bg < w.heap.size)
  (hax : ∀ i,i < an → w.cell? ⟨ag,ao + i * 3,none⟩ = some (.int .i64 (at0 i)) ∧ w.cell? ⟨ag,ao + i * 3 + 1,none⟩ = some (.int .i64 (at1 i)) ∧ w.cell? ⟨ag,ao + i * 3 + 2,none⟩ = some (.bool (abo2 i))) (hbx : ∀ i,i < bn → w.cell? ⟨bg,bo + i * 3,none⟩ = some (.int .i64 (bt0 i)) ∧ w.cell? ⟨bg,bo + i * 3 + 1,none⟩ = some (.int .i64 (bt1 i)) ∧ w.cell? ⟨bg,bo + i * 3 + 2,none⟩ = some (.bool (bbo2 i))) :
  Calls Tryz.prog 84 #[.slice ap an ac,.slice bp bn bc] w fun e w' => e = .returned (.bool (eqL an bn (fun i => (at0 i == bt0 i) && (at1 i == bt1 i) && (abo2 i == bbo2 i)))) ∧ Below w.heap.size w w' := by
 have HAX := hid hax
 have HBX := hid hbx
 have HAG := hid hag
 have HBG := hid hbg
 have hn1 : (an : Int) < 9223372036854775807 := by omega
 have hn2 : (bn : Int) < 9223372036854775807 := by omega
 obtain ⟨P,hP⟩ : ∃ P : Nat → Bool,P = (fun i => (at0 i == bt0 i) && (at1 i == bt1 i) && (abo2 i == bbo2 i)) := ⟨_,rfl⟩
 rw [← hP]
 have HPP := hid hP
 obtain ⟨r,hr⟩ : ∃ r,r = eqL an bn P := ⟨_,rfl⟩
 rw [← hr]
 have HR := hid hr
 clear hax hbx hag hbg hr han hbn hP
 by_cases hl : an = bn
 ·subst hl
  have hd : ((an : Int) != (an : Int)) = false := by simp
  go_enter Tryz.func84,Tryz.ntmps84
  go_wp2
  go_loopw [13] (fun vi wr => ∃ i : Nat,i ≤ an ∧ vi = .int .i64 i ∧ Hid (∀ j,j < i → P j = true) ∧ Hid (Below w.heap.size w wr)) (fun vi _ => an - (intOf vi).toNat)
  case atStart => exact ⟨0,Nat.zero_le _,rfl,fun j hj => absurd hj (Nat.not_lt_zero _),Below.refl _ _⟩
  case round =>
   obtain ⟨i,hi,rfl,HI,HB⟩ := hrel
   by_cases hlt : i < an
   ·obtain ⟨z0,z1,z2⟩ := HAX.out i hlt
    obtain ⟨v0,v1,v2⟩ := HBX.out i hlt
    obtain ⟨hpa,hga⟩ := HAG.out (by omega)
    obtain ⟨hpb,hgb⟩ := HBG.out (by omega)
    subst hpa hpb
    have HQ := hid (show P i = ((at0 i == bt0 i) && (at1 i == bt1 i) && (abo2 i == bbo2 i)) by rw [HPP.out])
    have x0 := (HB.out.cell (p := ⟨ag,ao + i * 3,none⟩) hga).trans z0
    have y0 := (HB.out.cell (p := ⟨bg,bo + i * 3,none⟩) hgb).trans v0
    have x1 := (HB.out.cell (p := ⟨ag,ao + i * 3 + 1,none⟩) hga).trans z1
    have y1 := (HB.out.cell (p := ⟨bg,bo + i * 3 + 1,none⟩) hgb).trans v1
    have x2 := (HB.out.cell (p := ⟨ag,ao + i * 3 + 2,none⟩) hga).trans z2
    have y2 := (HB.out.cell (p := ⟨bg,bo + i * 3 + 2,none⟩) hgb).trans v2
    clear z0 v0 z1 v1 z2 v2 hga hgb
    generalize at0 i = as0 at *
    generalize at1 i = as1 at *
    generalize abo2 i = ae2 at *
    generalize bt0 i = bs0 at *
    generalize bt1 i = bs1 at *
    generalize bbo2 i = be2 at *
    have hq := fun W => neq_lim as0 as1 ae2 bs0 bs1 be2 W
    obtain ⟨q,hq2⟩ : ∃ q,q = ((as0 == bs0) && (as1 == bs1) && (ae2 == be2)) := ⟨_,rfl⟩
    rw [← hq2] at HQ hq
    clear hq2
    cases q with
    | false =>
     have HE : Hid (r = false) := by
      rw [HR.out]
      refine Bool.eq_false_iff.2 fun h => ?_
      have := ((eqL_iff _ _ _).1 h).2 i hlt
      rw [HQ.out] at this
      cases this
     go_upto_region 6 with fail
     have hag2 := (HAG.out (by omega)).2
     have hbg2 := (HBG.out (by omega)).2
     have hag3 := Nat.lt_of_lt_of_le hag2 HB.out.size
     have hbg3 := Nat.lt_of_lt_of_le hbg2 HB.out.size
     have hS : Below w.heap.size w wr.drew := HB.out.drew
     refine wp_region_held_drew (S := fun W => Below wr.heap.size wr W) (by kernel_rfl) ((Below.refl _ _).drew) (fun _ => ?_)
     generalize wr.drew = W at *
     refine zt 0 (.slice (some ⟨ag,ao,none⟩) an ac) rfl ?_ ?_
     ·(intro W hSw; have w0 := (hSw.cell (p := ⟨ag,ao + i * 3,none⟩) hag3).trans x0; have u0 := (hSw.cell (p := ⟨bg,bo + i * 3,none⟩) hbg3).trans y0; have w1 := (hSw.cell (p := ⟨ag,ao + i * 3 + 1,none⟩) hag3).trans x1; have u1 := (hSw.cell (p := ⟨bg,bo + i * 3 + 1,none⟩) hbg3).trans y1; have w2 := (hSw.cell (p := ⟨ag,ao + i * 3 + 2,none⟩) hag3).trans x2; have u2 := (hSw.cell (p := ⟨bg,bo + i * 3 + 2,none⟩) hbg3).trans y2; go_simp; try (with_reducible rfl))
     try simp only [Act.put,sl2,sl0,sl1]
     refine zt 1 (.int .i64 i) rfl ?_ ?_
     ·(intro W hSw; have w0 := (hSw.cell (p := ⟨ag,ao + i * 3,none⟩) hag3).trans x0; have u0 := (hSw.cell (p := ⟨bg,bo + i * 3,none⟩) hbg3).trans y0; have w1 := (hSw.cell (p := ⟨ag,ao + i * 3 + 1,none⟩) hag3).trans x1; have u1 := (hSw.cell (p := ⟨bg,bo + i * 3 + 1,none⟩) hbg3).trans y1; have w2 := (hSw.cell (p := ⟨ag,ao + i * 3 + 2,none⟩) hag3).trans x2; have u2 := (hSw.cell (p := ⟨bg,bo + i * 3 + 2,none⟩) hbg3).trans y2; go_simp; try (with_reducible rfl))
     try simp only [Act.put,sl2,sl0,sl1]
     refine zt 2 (.pointer (some ⟨ag,ao + i * 3,none⟩)) rfl ?_ ?_
     ·(intro W hSw; have w0 := (hSw.cell (p := ⟨ag,ao + i * 3,none⟩) hag3).trans x0; have u0 := (hSw.cell (p := ⟨bg,bo + i * 3,none⟩) hbg3).trans y0; have w1 := (hSw.cell (p := ⟨ag,ao + i * 3 + 1,none⟩) hag3).trans x1; have u1 := (hSw.cell (p := ⟨bg,bo + i * 3 + 1,none⟩) hbg3).trans y1; have w2 := (hSw.cell (p := ⟨ag,ao + i * 3 + 2,none⟩) hag3).trans x2; have u2 := (hSw.cell (p := ⟨bg,bo + i * 3 + 2,none⟩) hbg3).trans y2; go_simp; try (with_reducible rfl))
     try simp only [Act.put,sl2,sl0,sl1]
     refine zt 3 (.agg #[.int .i64 as0,.int .i64 as1,.bool ae2]) rfl ?_ ?_
     ·(intro W hSw; have w0 := (hSw.cell (p := ⟨ag,ao + i * 3,none⟩) hag3).trans x0; have u0 := (hSw.cell (p := ⟨bg,bo + i * 3,none⟩) hbg3).trans y0; have w1 := (hSw.cell (p := ⟨ag,ao + i * 3 + 1,none⟩) hag3).trans x1; have u1 := (hSw.cell (p := ⟨bg,bo + i * 3 + 1,none⟩) hbg3).trans y1; have w2 := (hSw.cell (p := ⟨ag,ao + i * 3 + 2,none⟩) hag3).trans x2; have u2 := (hSw.cell (p := ⟨bg,bo + i * 3 + 2,none⟩) hbg3).trans y2; go_simp; try (with_reducible rfl))
     try simp only [Act.put,sl2,sl0,sl1]
     refine zt 4 (.slice (some ⟨bg,bo,none⟩) an bc) rfl ?_ ?_
     ·(intro W hSw; have w0 := (hSw.cell (p := ⟨ag,ao + i * 3,none⟩) hag3).trans x0; have u0 := (hSw.cell (p := ⟨bg,bo + i * 3,none⟩) hbg3).trans y0; have w1 := (hSw.cell (p := ⟨ag,ao + i * 3 + 1,none⟩) hag3).trans x1; have u1 := (hSw.cell (p := ⟨bg,bo + i * 3 + 1,none⟩) hbg3).trans y1; have w2 := (hSw.cell (p := ⟨ag,ao + i * 3 + 2,none⟩) hag3).trans x2; have u2 := (hSw.cell (p := ⟨bg,bo + i * 3 + 2,none⟩) hbg3).trans y2; go_simp; try (with_reducible rfl))
     try simp only [Act.put,sl2,sl0,sl1]
     refine zt 5 (.int .i64 i) rfl ?_ ?_
     ·(intro W hSw; have w0 := (hSw.cell (p := ⟨ag,ao + i * 3,none⟩) hag3).trans x0; have u0 := (hSw.cell (p := ⟨bg,bo + i * 3,none⟩) hbg3).trans y0; have w1 := (hSw.cell (p := ⟨ag,ao + i * 3 + 1,none⟩) hag3).trans x1; have u1 := (hSw.cell (p := ⟨bg,bo + i * 3 + 1,none⟩) hbg3).trans y1; have w2 := (hSw.cell (p := ⟨ag,ao + i * 3 + 2,none⟩) hag3).trans x2; have u2 := (hSw.cell (p := ⟨bg,bo + i * 3 + 2,none⟩) hbg3).trans y2; go_simp; try (with_reducible rfl))
     try simp only [Act.put,sl2,sl0,sl1]
     refine zt 6 (.pointer (some ⟨bg,bo + i * 3,none⟩)) rfl ?_ ?_
     ·(intro W hSw; have w0 := (hSw.cell (p := ⟨ag,ao + i * 3,none⟩) hag3).trans x0; have u0 := (hSw.cell (p := ⟨bg,bo + i * 3,none⟩) hbg3).trans y0; have w1 := (hSw.cell (p := ⟨ag,ao + i * 3 + 1,none⟩) hag3).trans x1; have u1 := (hSw.cell (p := ⟨bg,bo + i * 3 + 1,none⟩) hbg3).trans y1; have w2 := (hSw.cell (p := ⟨ag,ao + i * 3 + 2,none⟩) hag3).trans x2; have u2 := (hSw.cell (p := ⟨bg,bo + i * 3 + 2,none⟩) hbg3).trans y2; go_simp; try (with_reducible rfl))
     try simp only [Act.put,sl2,sl0,sl1]
     refine zt 7 (.agg #[.int .i64 bs0,.int .i64 bs1,.bool be2]) rfl ?_ ?_
     ·(intro W hSw; have w0 := (hSw.cell (p := ⟨ag,ao + i * 3,none⟩) hag3).trans x0; have u0 := (hSw.cell (p := ⟨bg,bo + i * 3,none⟩) hbg3).trans y0; have w1 := (hSw.cell (p := ⟨ag,ao + i * 3 + 1,none⟩) hag3).trans x1; have u1 := (hSw.cell (p := ⟨bg,bo + i * 3 + 1,none⟩) hbg3).trans y1; have w2 := (hSw.cell (p := ⟨ag,ao + i * 3 + 2,none⟩) hag3).trans x2; have u2 := (hSw.cell (p := ⟨bg,bo + i * 3 + 2,none⟩) hbg3).trans y2; go_simp; try (with_reducible rfl))
     try simp only [Act.put,sl2,sl0,sl1]
     refine zt 8 (.bool true) rfl ?_ ?_
     ·(intro W hSw; have w0 := (hSw.cell (p := ⟨ag,ao + i * 3,none⟩) hag3).trans x0; have u0 := (hSw.cell (p := ⟨bg,bo + i * 3,none⟩) hbg3).trans y0; have w1 := (hSw.cell (p := ⟨ag,ao + i * 3 + 1,none⟩) hag3).trans x1; have u1 := (hSw.cell (p := ⟨bg,bo + i * 3 + 1,none⟩) hbg3).trans y1; have w2 := (hSw.cell (p := ⟨ag,ao + i * 3 + 2,none⟩) hag3).trans x2; have u2 := (hSw.cell (p := ⟨bg,bo + i * 3 + 2,none⟩) hbg3).trans y2; go_simp; try (with_reducible rfl))
     try simp only [Act.put,sl2,sl0,sl1]
     refine wpAnyH_done (by kernel_rfl) ?_ _
     go_wp2_with fail
     go_ret
     exact ⟨by rw [HE.out]; rfl,hS⟩
    | true =>
     go_upto_region 6 with fail
     have hag2 := (HAG.out (by omega)).2
     have hbg2 := (HBG.out (by omega)).2
     have hag3 := Nat.lt_of_lt_of_le hag2 HB.out.size
     have hbg3 := Nat.lt_of_lt_of_le hbg2 HB.out.size
     have hS : Below w.heap.size w wr.drew := HB.out.drew
     refine wp_region_held_drew (S := fun W => Below wr.heap.size wr W) (by kernel_rfl) ((Below.refl _ _).drew) (fun _ => ?_)
     generalize wr.drew = W at *
     refine zt 0 (.slice (some ⟨ag,ao,none⟩) an ac) rfl ?_ ?_
     ·(intro W hSw; have w0 := (hSw.cell (p := ⟨ag,ao + i * 3,none⟩) hag3).trans x0; have u0 := (hSw.cell (p := ⟨bg,bo + i * 3,none⟩) hbg3).trans y0; have w1 := (hSw.cell (p := ⟨ag,ao + i * 3 + 1,none⟩) hag3).trans x1; have u1 := (hSw.cell (p := ⟨bg,bo + i * 3 + 1,none⟩) hbg3).trans y1; have w2 := (hSw.cell (p := ⟨ag,ao + i * 3 + 2,none⟩) hag3).trans x2; have u2 := (hSw.cell (p := ⟨bg,bo + i * 3 + 2,none⟩) hbg3).trans y2; go_simp; try (with_reducible rfl))
     try simp only [Act.put,sl2,sl0,sl1]
     refine zt 1 (.int .i64 i) rfl ?_ ?_
     ·(intro W hSw; have w0 := (hSw.cell (p := ⟨ag,ao + i * 3,none⟩) hag3).trans x0; have u0 := (hSw.cell (p := ⟨bg,bo + i * 3,none⟩) hbg3).trans y0; have w1 := (hSw.cell (p := ⟨ag,ao + i * 3 + 1,none⟩) hag3).trans x1; have u1 := (hSw.cell (p := ⟨bg,bo + i * 3 + 1,none⟩) hbg3).trans y1; have w2 := (hSw.cell (p := ⟨ag,ao + i * 3 + 2,none⟩) hag3).trans x2; have u2 := (hSw.cell (p := ⟨bg,bo + i * 3 + 2,none⟩) hbg3).trans y2; go_simp; try (with_reducible rfl))
     try simp only [Act.put,sl2,sl0,sl1]
     refine zt 2 (.pointer (some ⟨ag,ao + i * 3,none⟩)) rfl ?_ ?_
     ·(intro W hSw; have w0 := (hSw.cell (p := ⟨ag,ao + i * 3,none⟩) hag3).trans x0; have u0 := (hSw.cell (p := ⟨bg,bo + i * 3,none⟩) hbg3).trans y0; have w1 := (hSw.cell (p := ⟨ag,ao + i * 3 + 1,none⟩) hag3).trans x1; have u1 := (hSw.cell (p := ⟨bg,bo + i * 3 + 1,none⟩) hbg3).trans y1; have w2 := (hSw.cell (p := ⟨ag,ao + i * 3 + 2,none⟩) hag3).trans x2; have u2 := (hSw.cell (p := ⟨bg,bo + i * 3 + 2,none⟩) hbg3).trans y2; go_simp; try (with_reducible rfl))
     try simp only [Act.put,sl2,sl0,sl1]
     refine zt 3 (.agg #[.int .i64 as0,.int .i64 as1,.bool ae2]) rfl ?_ ?_
     ·(intro W hSw; have w0 := (hSw.cell (p := ⟨ag,ao + i * 3,none⟩) hag3).trans x0; have u0 := (hSw.cell (p := ⟨bg,bo + i * 3,none⟩) hbg3).trans y0; have w1 := (hSw.cell (p := ⟨ag,ao + i * 3 + 1,none⟩) hag3).trans x1; have u1 := (hSw.cell (p := ⟨bg,bo + i * 3 + 1,none⟩) hbg3).trans y1; have w2 := (hSw.cell (p := ⟨ag,ao + i * 3 + 2,none⟩) hag3).trans x2; have u2 := (hSw.cell (p := ⟨bg,bo + i * 3 + 2,none⟩) hbg3).trans y2; go_simp; try (with_reducible rfl))
     try simp only [Act.put,sl2,sl0,sl1]
     refine zt 4 (.slice (some ⟨bg,bo,none⟩) an bc) rfl ?_ ?_
     ·(intro W hSw; have w0 := (hSw.cell (p := ⟨ag,ao + i * 3,none⟩) hag3).trans x0; have u0 := (hSw.cell (p := ⟨bg,bo + i * 3,none⟩) hbg3).trans y0; have w1 := (hSw.cell (p := ⟨ag,ao + i * 3 + 1,none⟩) hag3).trans x1; have u1 := (hSw.cell (p := ⟨bg,bo + i * 3 + 1,none⟩) hbg3).trans y1; have w2 := (hSw.cell (p := ⟨ag,ao + i * 3 + 2,none⟩) hag3).trans x2; have u2 := (hSw.cell (p := ⟨bg,bo + i * 3 + 2,none⟩) hbg3).trans y2; go_simp; try (with_reducible rfl))
     try simp only [Act.put,sl2,sl0,sl1]
     refine zt 5 (.int .i64 i) rfl ?_ ?_
     ·(intro W hSw; have w0 := (hSw.cell (p := ⟨ag,ao + i * 3,none⟩) hag3).trans x0; have u0 := (hSw.cell (p := ⟨bg,bo + i * 3,none⟩) hbg3).trans y0; have w1 := (hSw.cell (p := ⟨ag,ao + i * 3 + 1,none⟩) hag3).trans x1; have u1 := (hSw.cell (p := ⟨bg,bo + i * 3 + 1,none⟩) hbg3).trans y1; have w2 := (hSw.cell (p := ⟨ag,ao + i * 3 + 2,none⟩) hag3).trans x2; have u2 := (hSw.cell (p := ⟨bg,bo + i * 3 + 2,none⟩) hbg3).trans y2; go_simp; try (with_reducible rfl))
     try simp only [Act.put,sl2,sl0,sl1]
     refine zt 6 (.pointer (some ⟨bg,bo + i * 3,none⟩)) rfl ?_ ?_
     ·(intro W hSw; have w0 := (hSw.cell (p := ⟨ag,ao + i * 3,none⟩) hag3).trans x0; have u0 := (hSw.cell (p := ⟨bg,bo + i * 3,none⟩) hbg3).trans y0; have w1 := (hSw.cell (p := ⟨ag,ao + i * 3 + 1,none⟩) hag3).trans x1; have u1 := (hSw.cell (p := ⟨bg,bo + i * 3 + 1,none⟩) hbg3).trans y1; have w2 := (hSw.cell (p := ⟨ag,ao + i * 3 + 2,none⟩) hag3).trans x2; have u2 := (hSw.cell (p := ⟨bg,bo + i * 3 + 2,none⟩) hbg3).trans y2; go_simp; try (with_reducible rfl))
     try simp only [Act.put,sl2,sl0,sl1]
     refine zt 7 (.agg #[.int .i64 bs0,.int .i64 bs1,.bool be2]) rfl ?_ ?_
     ·(intro W hSw; have w0 := (hSw.cell (p := ⟨ag,ao + i * 3,none⟩) hag3).trans x0; have u0 := (hSw.cell (p := ⟨bg,bo + i * 3,none⟩) hbg3).trans y0; have w1 := (hSw.cell (p := ⟨ag,ao + i * 3 + 1,none⟩) hag3).trans x1; have u1 := (hSw.cell (p := ⟨bg,bo + i * 3 + 1,none⟩) hbg3).trans y1; have w2 := (hSw.cell (p := ⟨ag,ao + i * 3 + 2,none⟩) hag3).trans x2; have u2 := (hSw.cell (p := ⟨bg,bo + i * 3 + 2,none⟩) hbg3).trans y2; go_simp; try (with_reducible rfl))
     try simp only [Act.put,sl2,sl0,sl1]
     refine zt 8 (.bool false) rfl ?_ ?_
     ·(intro W hSw; have w0 := (hSw.cell (p := ⟨ag,ao + i * 3,none⟩) hag3).trans x0; have u0 := (hSw.cell (p := ⟨bg,bo + i * 3,none⟩) hbg3).trans y0; have w1 := (hSw.cell (p := ⟨ag,ao + i * 3 + 1,none⟩) hag3).trans x1; have u1 := (hSw.cell (p := ⟨bg,bo + i * 3 + 1,none⟩) hbg3).trans y1; have w2 := (hSw.cell (p := ⟨ag,ao + i * 3 + 2,none⟩) hag3).trans x2; have u2 := (hSw.cell (p := ⟨bg,bo + i * 3 + 2,none⟩) hbg3).trans y2; go_simp; try (with_reducible rfl))
     try simp only [Act.put,sl2,sl0,sl1]
     refine wpAnyH_done (by kernel_rfl) ?_ _
     go_wp2_with fail
     go_roundw
     case rel =>
      refine ⟨i + 1,hlt,by go_num,fun j hj => ?_,hS⟩
      by_cases hji : j = i
      ·rw [hji]; exact HQ.out
      ·exact HI.out j (by omega)
     case measure => simp [intOf]; omega
   ·obtain rfl : i = an := by omega
    have HE : Hid (r = true) := by
     rw [HR.out]
     exact eqL_refl HI.out
    go_wp2
    go_ret
    exact ⟨by rw [HE.out]; rfl,HB.out⟩
 ·have hd : ((an : Int) != (bn : Int)) = true := by simp; omega
  have HE : Hid (r = false) := by
   rw [HR.out]
   exact Bool.eq_false_iff.2 fun h => hl ((eqL_iff _ _ _).1 h).1
  clear hl
  go_enter Tryz.func84,Tryz.ntmps84
  go_wp2
  go_ret
  exact ⟨by rw [HE.out]; rfl,Below.refl _ _⟩
set_option maxHeartbeats 4000000 in
theorem neq_exp (ay0 : ByteArray) (as1 : Int) (as2 : Int) (by0 : ByteArray) (bs1 : Int) (bs2 : Int) (W : World) : Sem.run Tryz.prog (binOp .neq 76 (.agg #[.string ay0,.int .i64 as1,.int .i64 as2]) (.agg #[.string by0,.int .i64 bs1,.int .i64 bs2])) W = .ok (.bool (!((ay0 == by0) && (as1 == bs1) && (as2 == bs2)))) W := by
 obtain ⟨e0,d0⟩ : ∃ e,(ay0 == by0) = e := ⟨_,rfl⟩
 obtain ⟨e1,d1⟩ : ∃ e,(as1 == bs1) = e := ⟨_,rfl⟩
 obtain ⟨e2,d2⟩ : ∃ e,(as2 == bs2) = e := ⟨_,rfl⟩
 rw [d0,d1,d2]
 cases e0 with
 | false =>
  have k0 := bl_f d0
  go_simp
 | true =>
  have k0 := bl_t d0
  cases e1 with
  | false =>
   go_simp
  | true =>
   cases e2 with
   | false =>
    go_simp
   | true =>
    go_simp
set_option maxHeartbeats 4000000 in
theorem eqs_exp (an ac ag ao bn bc bg bo : Nat) (ap bp : Option Addr) (az0 : Nat → ByteArray) (at1 : Nat → Int) (at2 : Nat → Int) (bz0 : Nat → ByteArray) (bt1 : Nat → Int) (bt2 : Nat → Int) (w : World)
  (han : an < 9223372036854775807) (hbn : bn < 9223372036854775807) (hag : an ≠ 0 → ap = some ⟨ag,ao,none⟩ ∧ ag < w.heap.size) (hbg : bn ≠ 0 → bp = some ⟨bg,bo,none⟩ ∧ bg < w.heap.size)
  (hax : ∀ i,i < an → w.cell? ⟨ag,ao + i * 3,none⟩ = some (.string (az0 i)) ∧ w.cell? ⟨ag,ao + i * 3 + 1,none⟩ = some (.int .i64 (at1 i)) ∧ w.cell? ⟨ag,ao + i * 3 + 2,none⟩ = some (.int .i64 (at2 i))) (hbx : ∀ i,i < bn → w.cell? ⟨bg,bo + i * 3,none⟩ = some (.string (bz0 i)) ∧ w.cell? ⟨bg,bo + i * 3 + 1,none⟩ = some (.int .i64 (bt1 i)) ∧ w.cell? ⟨bg,bo + i * 3 + 2,none⟩ = some (.int .i64 (bt2 i))) :
  Calls Tryz.prog 87 #[.slice ap an ac,.slice bp bn bc] w fun e w' => e = .returned (.bool (eqL an bn (fun i => (az0 i == bz0 i) && (at1 i == bt1 i) && (at2 i == bt2 i)))) ∧ Below w.heap.size w w' := by
 have HAX := hid hax
 have HBX := hid hbx
 have HAG := hid hag
 have HBG := hid hbg
 have hn1 : (an : Int) < 9223372036854775807 := by omega
 have hn2 : (bn : Int) < 9223372036854775807 := by omega
 obtain ⟨P,hP⟩ : ∃ P : Nat → Bool,P = (fun i => (az0 i == bz0 i) && (at1 i == bt1 i) && (at2 i == bt2 i)) := ⟨_,rfl⟩
 rw [← hP]
 have HPP := hid hP
 obtain ⟨r,hr⟩ : ∃ r,r = eqL an bn P := ⟨_,rfl⟩
 rw [← hr]
 have HR := hid hr
 clear hax hbx hag hbg hr han hbn hP
 by_cases hl : an = bn
 ·subst hl
  have hd : ((an : Int) != (an : Int)) = false := by simp
  go_enter Tryz.func87,Tryz.ntmps87
  go_wp2
  go_loopw [13] (fun vi wr => ∃ i : Nat,i ≤ an ∧ vi = .int .i64 i ∧ Hid (∀ j,j < i → P j = true) ∧ Hid (Below w.heap.size w wr)) (fun vi _ => an - (intOf vi).toNat)
  case atStart => exact ⟨0,Nat.zero_le _,rfl,fun j hj => absurd hj (Nat.not_lt_zero _),Below.refl _ _⟩
  case round =>
   obtain ⟨i,hi,rfl,HI,HB⟩ := hrel
   by_cases hlt : i < an
   ·obtain ⟨z0,z1,z2⟩ := HAX.out i hlt
    obtain ⟨v0,v1,v2⟩ := HBX.out i hlt
    obtain ⟨hpa,hga⟩ := HAG.out (by omega)
    obtain ⟨hpb,hgb⟩ := HBG.out (by omega)
    subst hpa hpb
    have HQ := hid (show P i = ((az0 i == bz0 i) && (at1 i == bt1 i) && (at2 i == bt2 i)) by rw [HPP.out])
    have x0 := (HB.out.cell (p := ⟨ag,ao + i * 3,none⟩) hga).trans z0
    have y0 := (HB.out.cell (p := ⟨bg,bo + i * 3,none⟩) hgb).trans v0
    have x1 := (HB.out.cell (p := ⟨ag,ao + i * 3 + 1,none⟩) hga).trans z1
    have y1 := (HB.out.cell (p := ⟨bg,bo + i * 3 + 1,none⟩) hgb).trans v1
    have x2 := (HB.out.cell (p := ⟨ag,ao + i * 3 + 2,none⟩) hga).trans z2
    have y2 := (HB.out.cell (p := ⟨bg,bo + i * 3 + 2,none⟩) hgb).trans v2
    clear z0 v0 z1 v1 z2 v2 hga hgb
    generalize az0 i = ay0 at *
    generalize at1 i = as1 at *
    generalize at2 i = as2 at *
    generalize bz0 i = by0 at *
    generalize bt1 i = bs1 at *
    generalize bt2 i = bs2 at *
    have hq := fun W => neq_exp ay0 as1 as2 by0 bs1 bs2 W
    obtain ⟨q,hq2⟩ : ∃ q,q = ((ay0 == by0) && (as1 == bs1) && (as2 == bs2)) := ⟨_,rfl⟩
    rw [← hq2] at HQ hq
    clear hq2
    cases q with
    | false =>
     have HE : Hid (r = false) := by
      rw [HR.out]
      refine Bool.eq_false_iff.2 fun h => ?_
      have := ((eqL_iff _ _ _).1 h).2 i hlt
      rw [HQ.out] at this
      cases this
     go_upto_region 6 with fail
     have hag2 := (HAG.out (by omega)).2
     have hbg2 := (HBG.out (by omega)).2
     have hag3 := Nat.lt_of_lt_of_le hag2 HB.out.size
     have hbg3 := Nat.lt_of_lt_of_le hbg2 HB.out.size
     have hS : Below w.heap.size w wr.drew := HB.out.drew
     refine wp_region_held_drew (S := fun W => Below wr.heap.size wr W) (by kernel_rfl) ((Below.refl _ _).drew) (fun _ => ?_)
     generalize wr.drew = W at *
     refine zt 0 (.slice (some ⟨ag,ao,none⟩) an ac) rfl ?_ ?_
     ·(intro W hSw; have w0 := (hSw.cell (p := ⟨ag,ao + i * 3,none⟩) hag3).trans x0; have u0 := (hSw.cell (p := ⟨bg,bo + i * 3,none⟩) hbg3).trans y0; have w1 := (hSw.cell (p := ⟨ag,ao + i * 3 + 1,none⟩) hag3).trans x1; have u1 := (hSw.cell (p := ⟨bg,bo + i * 3 + 1,none⟩) hbg3).trans y1; have w2 := (hSw.cell (p := ⟨ag,ao + i * 3 + 2,none⟩) hag3).trans x2; have u2 := (hSw.cell (p := ⟨bg,bo + i * 3 + 2,none⟩) hbg3).trans y2; go_simp; try (with_reducible rfl))
     try simp only [Act.put,sl2,sl0,sl1]
     refine zt 1 (.int .i64 i) rfl ?_ ?_
     ·(intro W hSw; have w0 := (hSw.cell (p := ⟨ag,ao + i * 3,none⟩) hag3).trans x0; have u0 := (hSw.cell (p := ⟨bg,bo + i * 3,none⟩) hbg3).trans y0; have w1 := (hSw.cell (p := ⟨ag,ao + i * 3 + 1,none⟩) hag3).trans x1; have u1 := (hSw.cell (p := ⟨bg,bo + i * 3 + 1,none⟩) hbg3).trans y1; have w2 := (hSw.cell (p := ⟨ag,ao + i * 3 + 2,none⟩) hag3).trans x2; have u2 := (hSw.cell (p := ⟨bg,bo + i * 3 + 2,none⟩) hbg3).trans y2; go_simp; try (with_reducible rfl))
     try simp only [Act.put,sl2,sl0,sl1]
     refine zt 2 (.pointer (some ⟨ag,ao + i * 3,none⟩)) rfl ?_ ?_
     ·(intro W hSw; have w0 := (hSw.cell (p := ⟨ag,ao + i * 3,none⟩) hag3).trans x0; have u0 := (hSw.cell (p := ⟨bg,bo + i * 3,none⟩) hbg3).trans y0; have w1 := (hSw.cell (p := ⟨ag,ao + i * 3 + 1,none⟩) hag3).trans x1; have u1 := (hSw.cell (p := ⟨bg,bo + i * 3 + 1,none⟩) hbg3).trans y1; have w2 := (hSw.cell (p := ⟨ag,ao + i * 3 + 2,none⟩) hag3).trans x2; have u2 := (hSw.cell (p := ⟨bg,bo + i * 3 + 2,none⟩) hbg3).trans y2; go_simp; try (with_reducible rfl))
     try simp only [Act.put,sl2,sl0,sl1]
     refine zt 3 (.agg #[.string ay0,.int .i64 as1,.int .i64 as2]) rfl ?_ ?_
     ·(intro W hSw; have w0 := (hSw.cell (p := ⟨ag,ao + i * 3,none⟩) hag3).trans x0; have u0 := (hSw.cell (p := ⟨bg,bo + i * 3,none⟩) hbg3).trans y0; have w1 := (hSw.cell (p := ⟨ag,ao + i * 3 + 1,none⟩) hag3).trans x1; have u1 := (hSw.cell (p := ⟨bg,bo + i * 3 + 1,none⟩) hbg3).trans y1; have w2 := (hSw.cell (p := ⟨ag,ao + i * 3 + 2,none⟩) hag3).trans x2; have u2 := (hSw.cell (p := ⟨bg,bo + i * 3 + 2,none⟩) hbg3).trans y2; go_simp; try (with_reducible rfl))
     try simp only [Act.put,sl2,sl0,sl1]
     refine zt 4 (.slice (some ⟨bg,bo,none⟩) an bc) rfl ?_ ?_
     ·(intro W hSw; have w0 := (hSw.cell (p := ⟨ag,ao + i * 3,none⟩) hag3).trans x0; have u0 := (hSw.cell (p := ⟨bg,bo + i * 3,none⟩) hbg3).trans y0; have w1 := (hSw.cell (p := ⟨ag,ao + i * 3 + 1,none⟩) hag3).trans x1; have u1 := (hSw.cell (p := ⟨bg,bo + i * 3 + 1,none⟩) hbg3).trans y1; have w2 := (hSw.cell (p := ⟨ag,ao + i * 3 + 2,none⟩) hag3).trans x2; have u2 := (hSw.cell (p := ⟨bg,bo + i * 3 + 2,none⟩) hbg3).trans y2; go_simp; try (with_reducible rfl))
     try simp only [Act.put,sl2,sl0,sl1]
     refine zt 5 (.int .i64 i) rfl ?_ ?_
     ·(intro W hSw; have w0 := (hSw.cell (p := ⟨ag,ao + i * 3,none⟩) hag3).trans x0; have u0 := (hSw.cell (p := ⟨bg,bo + i * 3,none⟩) hbg3).trans y0; have w1 := (hSw.cell (p := ⟨ag,ao + i * 3 + 1,none⟩) hag3).trans x1; have u1 := (hSw.cell (p := ⟨bg,bo + i * 3 + 1,none⟩) hbg3).trans y1; have w2 := (hSw.cell (p := ⟨ag,ao + i * 3 + 2,none⟩) hag3).trans x2; have u2 := (hSw.cell (p := ⟨bg,bo + i * 3 + 2,none⟩) hbg3).trans y2; go_simp; try (with_reducible rfl))
     try simp only [Act.put,sl2,sl0,sl1]
     refine zt 6 (.pointer (some ⟨bg,bo + i * 3,none⟩)) rfl ?_ ?_
     ·(intro W hSw; have w0 := (hSw.cell (p := ⟨ag,ao + i * 3,none⟩) hag3).trans x0; have u0 := (hSw.cell (p := ⟨bg,bo + i * 3,none⟩) hbg3).trans y0; have w1 := (hSw.cell (p := ⟨ag,ao + i * 3 + 1,none⟩) hag3).trans x1; have u1 := (hSw.cell (p := ⟨bg,bo + i * 3 + 1,none⟩) hbg3).trans y1; have w2 := (hSw.cell (p := ⟨ag,ao + i * 3 + 2,none⟩) hag3).trans x2; have u2 := (hSw.cell (p := ⟨bg,bo + i * 3 + 2,none⟩) hbg3).trans y2; go_simp; try (with_reducible rfl))
     try simp only [Act.put,sl2,sl0,sl1]
     refine zt 7 (.agg #[.string by0,.int .i64 bs1,.int .i64 bs2]) rfl ?_ ?_
     ·(intro W hSw; have w0 := (hSw.cell (p := ⟨ag,ao + i * 3,none⟩) hag3).trans x0; have u0 := (hSw.cell (p := ⟨bg,bo + i * 3,none⟩) hbg3).trans y0; have w1 := (hSw.cell (p := ⟨ag,ao + i * 3 + 1,none⟩) hag3).trans x1; have u1 := (hSw.cell (p := ⟨bg,bo + i * 3 + 1,none⟩) hbg3).trans y1; have w2 := (hSw.cell (p := ⟨ag,ao + i * 3 + 2,none⟩) hag3).trans x2; have u2 := (hSw.cell (p := ⟨bg,bo + i * 3 + 2,none⟩) hbg3).trans y2; go_simp; try (with_reducible rfl))
     try simp only [Act.put,sl2,sl0,sl1]
     refine zt 8 (.bool true) rfl ?_ ?_
     ·(intro W hSw; have w0 := (hSw.cell (p := ⟨ag,ao + i * 3,none⟩) hag3).trans x0; have u0 := (hSw.cell (p := ⟨bg,bo + i * 3,none⟩) hbg3).trans y0; have w1 := (hSw.cell (p := ⟨ag,ao + i * 3 + 1,none⟩) hag3).trans x1; have u1 := (hSw.cell (p := ⟨bg,bo + i * 3 + 1,none⟩) hbg3).trans y1; have w2 := (hSw.cell (p := ⟨ag,ao + i * 3 + 2,none⟩) hag3).trans x2; have u2 := (hSw.cell (p := ⟨bg,bo + i * 3 + 2,none⟩) hbg3).trans y2; go_simp; try (with_reducible rfl))
     try simp only [Act.put,sl2,sl0,sl1]
     refine wpAnyH_done (by kernel_rfl) ?_ _
     go_wp2_with fail
     go_ret
     exact ⟨by rw [HE.out]; rfl,hS⟩
    | true =>
     go_upto_region 6 with fail
     have hag2 := (HAG.out (by omega)).2
     have hbg2 := (HBG.out (by omega)).2
     have hag3 := Nat.lt_of_lt_of_le hag2 HB.out.size
     have hbg3 := Nat.lt_of_lt_of_le hbg2 HB.out.size
     have hS : Below w.heap.size w wr.drew := HB.out.drew
     refine wp_region_held_drew (S := fun W => Below wr.heap.size wr W) (by kernel_rfl) ((Below.refl _ _).drew) (fun _ => ?_)
     generalize wr.drew = W at *
     refine zt 0 (.slice (some ⟨ag,ao,none⟩) an ac) rfl ?_ ?_
     ·(intro W hSw; have w0 := (hSw.cell (p := ⟨ag,ao + i * 3,none⟩) hag3).trans x0; have u0 := (hSw.cell (p := ⟨bg,bo + i * 3,none⟩) hbg3).trans y0; have w1 := (hSw.cell (p := ⟨ag,ao + i * 3 + 1,none⟩) hag3).trans x1; have u1 := (hSw.cell (p := ⟨bg,bo + i * 3 + 1,none⟩) hbg3).trans y1; have w2 := (hSw.cell (p := ⟨ag,ao + i * 3 + 2,none⟩) hag3).trans x2; have u2 := (hSw.cell (p := ⟨bg,bo + i * 3 + 2,none⟩) hbg3).trans y2; go_simp; try (with_reducible rfl))
     try simp only [Act.put,sl2,sl0,sl1]
     refine zt 1 (.int .i64 i) rfl ?_ ?_
     ·(intro W hSw; have w0 := (hSw.cell (p := ⟨ag,ao + i * 3,none⟩) hag3).trans x0; have u0 := (hSw.cell (p := ⟨bg,bo + i * 3,none⟩) hbg3).trans y0; have w1 := (hSw.cell (p := ⟨ag,ao + i * 3 + 1,none⟩) hag3).trans x1; have u1 := (hSw.cell (p := ⟨bg,bo + i * 3 + 1,none⟩) hbg3).trans y1; have w2 := (hSw.cell (p := ⟨ag,ao + i * 3 + 2,none⟩) hag3).trans x2; have u2 := (hSw.cell (p := ⟨bg,bo + i * 3 + 2,none⟩) hbg3).trans y2; go_simp; try (with_reducible rfl))
     try simp only [Act.put,sl2,sl0,sl1]
     refine zt 2 (.pointer (some ⟨ag,ao + i * 3,none⟩)) rfl ?_ ?_
     ·(intro W hSw; have w0 := (hSw.cell (p := ⟨ag,ao + i * 3,none⟩) hag3).trans x0; have u0 := (hSw.cell (p := ⟨bg,bo + i * 3,none⟩) hbg3).trans y0; have w1 := (hSw.cell (p := ⟨ag,ao + i * 3 + 1,none⟩) hag3).trans x1; have u1 := (hSw.cell (p := ⟨bg,bo + i * 3 + 1,none⟩) hbg3).trans y1; have w2 := (hSw.cell (p := ⟨ag,ao + i * 3 + 2,none⟩) hag3).trans x2; have u2 := (hSw.cell (p := ⟨bg,bo + i * 3 + 2,none⟩) hbg3).trans y2; go_simp; try (with_reducible rfl))
     try simp only [Act.put,sl2,sl0,sl1]
     refine zt 3 (.agg #[.string ay0,.int .i64 as1,.int .i64 as2]) rfl ?_ ?_
     ·(intro W hSw; have w0 := (hSw.cell (p := ⟨ag,ao + i * 3,none⟩) hag3).trans x0; have u0 := (hSw.cell (p := ⟨bg,bo + i * 3,none⟩) hbg3).trans y0; have w1 := (hSw.cell (p := ⟨ag,ao + i * 3 + 1,none⟩) hag3).trans x1; have u1 := (hSw.cell (p := ⟨bg,bo + i * 3 + 1,none⟩) hbg3).trans y1; have w2 := (hSw.cell (p := ⟨ag,ao + i * 3 + 2,none⟩) hag3).trans x2; have u2 := (hSw.cell (p := ⟨bg,bo + i * 3 + 2,none⟩) hbg3).trans y2; go_simp; try (with_reducible rfl))
     try simp only [Act.put,sl2,sl0,sl1]
     refine zt 4 (.slice (some ⟨bg,bo,none⟩) an bc) rfl ?_ ?_
     ·(intro W hSw; have w0 := (hSw.cell (p := ⟨ag,ao + i * 3,none⟩) hag3).trans x0; have u0 := (hSw.cell (p := ⟨bg,bo + i * 3,none⟩) hbg3).trans y0; have w1 := (hSw.cell (p := ⟨ag,ao + i * 3 + 1,none⟩) hag3).trans x1; have u1 := (hSw.cell (p := ⟨bg,bo + i * 3 + 1,none⟩) hbg3).trans y1; have w2 := (hSw.cell (p := ⟨ag,ao + i * 3 + 2,none⟩) hag3).trans x2; have u2 := (hSw.cell (p := ⟨bg,bo + i * 3 + 2,none⟩) hbg3).trans y2; go_simp; try (with_reducible rfl))
     try simp only [Act.put,sl2,sl0,sl1]
     refine zt 5 (.int .i64 i) rfl ?_ ?_
     ·(intro W hSw; have w0 := (hSw.cell (p := ⟨ag,ao + i * 3,none⟩) hag3).trans x0; have u0 := (hSw.cell (p := ⟨bg,bo + i * 3,none⟩) hbg3).trans y0; have w1 := (hSw.cell (p := ⟨ag,ao + i * 3 + 1,none⟩) hag3).trans x1; have u1 := (hSw.cell (p := ⟨bg,bo + i * 3 + 1,none⟩) hbg3).trans y1; have w2 := (hSw.cell (p := ⟨ag,ao + i * 3 + 2,none⟩) hag3).trans x2; have u2 := (hSw.cell (p := ⟨bg,bo + i * 3 + 2,none⟩) hbg3).trans y2; go_simp; try (with_reducible rfl))
     try simp only [Act.put,sl2,sl0,sl1]
     refine zt 6 (.pointer (some ⟨bg,bo + i * 3,none⟩)) rfl ?_ ?_
     ·(intro W hSw; have w0 := (hSw.cell (p := ⟨ag,ao + i * 3,none⟩) hag3).trans x0; have u0 := (hSw.cell (p := ⟨bg,bo + i * 3,none⟩) hbg3).trans y0; have w1 := (hSw.cell (p := ⟨ag,ao + i * 3 + 1,none⟩) hag3).trans x1; have u1 := (hSw.cell (p := ⟨bg,bo + i * 3 + 1,none⟩) hbg3).trans y1; have w2 := (hSw.cell (p := ⟨ag,ao + i * 3 + 2,none⟩) hag3).trans x2; have u2 := (hSw.cell (p := ⟨bg,bo + i * 3 + 2,none⟩) hbg3).trans y2; go_simp; try (with_reducible rfl))
     try simp only [Act.put,sl2,sl0,sl1]
     refine zt 7 (.agg #[.string by0,.int .i64 bs1,.int .i64 bs2]) rfl ?_ ?_
     ·(intro W hSw; have w0 := (hSw.cell (p := ⟨ag,ao + i * 3,none⟩) hag3).trans x0; have u0 := (hSw.cell (p := ⟨bg,bo + i * 3,none⟩) hbg3).trans y0; have w1 := (hSw.cell (p := ⟨ag,ao + i * 3 + 1,none⟩) hag3).trans x1; have u1 := (hSw.cell (p := ⟨bg,bo + i * 3 + 1,none⟩) hbg3).trans y1; have w2 := (hSw.cell (p := ⟨ag,ao + i * 3 + 2,none⟩) hag3).trans x2; have u2 := (hSw.cell (p := ⟨bg,bo + i * 3 + 2,none⟩) hbg3).trans y2; go_simp; try (with_reducible rfl))
     try simp only [Act.put,sl2,sl0,sl1]
     refine zt 8 (.bool false) rfl ?_ ?_
     ·(intro W hSw; have w0 := (hSw.cell (p := ⟨ag,ao + i * 3,none⟩) hag3).trans x0; have u0 := (hSw.cell (p := ⟨bg,bo + i * 3,none⟩) hbg3).trans y0; have w1 := (hSw.cell (p := ⟨ag,ao + i * 3 + 1,none⟩) hag3).trans x1; have u1 := (hSw.cell (p := ⟨bg,bo + i * 3 + 1,none⟩) hbg3).trans y1; have w2 := (hSw.cell (p := ⟨ag,ao + i * 3 + 2,none⟩) hag3).trans x2; have u2 := (hSw.cell (p := ⟨bg,bo + i * 3 + 2,none⟩) hbg3).trans y2; go_simp; try (with_reducible rfl))
     try simp only [Act.put,sl2,sl0,sl1]
     refine wpAnyH_done (by kernel_rfl) ?_ _
     go_wp2_with fail
     go_roundw
     case rel =>
      refine ⟨i + 1,hlt,by go_num,fun j hj => ?_,hS⟩
      by_cases hji : j = i
      ·rw [hji]; exact HQ.out
      ·exact HI.out j (by omega)
     case measure => simp [intOf]; omega
   ·obtain rfl : i = an := by omega
    have HE : Hid (r = true) := by
     rw [HR.out]
     exact eqL_refl HI.out
    go_wp2
    go_ret
    exact ⟨by rw [HE.out]; rfl,HB.out⟩
 ·have hd : ((an : Int) != (bn : Int)) = true := by simp; omega
  have HE : Hid (r = false) := by
   rw [HR.out]
   exact Bool.eq_false_iff.2 fun h => hl ((eqL_iff _ _ _).1 h).1
  clear hl
  go_enter Tryz.func87,Tryz.ntmps87
  go_wp2
  go_ret
  exact ⟨by rw [HE.out]; rfl,Below.refl _ _⟩
set_option maxHeartbeats 4000000 in
theorem neq_imp (ay0 : ByteArray) (ay1 : ByteArray) (as2 : Int) (as3 : Int) (as4 : Int) (as5 : Int) (as6 : Int) (ae7 : Bool) (as8 : Int) (as9 : Int) (ae10 : Bool) (as11 : Int) (ae12 : Bool) (by0 : ByteArray) (by1 : ByteArray) (bs2 : Int) (bs3 : Int) (bs4 : Int) (bs5 : Int) (bs6 : Int) (be7 : Bool) (bs8 : Int) (bs9 : Int) (be10 : Bool) (bs11 : Int) (be12 : Bool) (W : World) : Sem.run Tryz.prog (binOp .neq 74 (.agg #[.string ay0,.string ay1,.int .i64 as2,.int .i64 as3,.int .i64 as4,.int .i64 as5,.int .i64 as6,.bool ae7,.int .i64 as8,.int .i64 as9,.bool ae10,.int .i64 as11,.bool ae12]) (.agg #[.string by0,.string by1,.int .i64 bs2,.int .i64 bs3,.int .i64 bs4,.int .i64 bs5,.int .i64 bs6,.bool be7,.int .i64 bs8,.int .i64 bs9,.bool be10,.int .i64 bs11,.bool be12])) W = .ok (.bool (!((ay0 == by0) && (ay1 == by1) && (as2 == bs2) && (as3 == bs3) && (as4 == bs4) && (as5 == bs5) && (as6 == bs6) && (ae7 == be7) && (as8 == bs8) && (as9 == bs9) && (ae10 == be10) && (as11 == bs11) && (ae12 == be12)))) W := by
 obtain ⟨e0,d0⟩ : ∃ e,(ay0 == by0) = e := ⟨_,rfl⟩
 obtain ⟨e1,d1⟩ : ∃ e,(ay1 == by1) = e := ⟨_,rfl⟩
 obtain ⟨e2,d2⟩ : ∃ e,(as2 == bs2) = e := ⟨_,rfl⟩
 obtain ⟨e3,d3⟩ : ∃ e,(as3 == bs3) = e := ⟨_,rfl⟩
 obtain ⟨e4,d4⟩ : ∃ e,(as4 == bs4) = e := ⟨_,rfl⟩
 obtain ⟨e5,d5⟩ : ∃ e,(as5 == bs5) = e := ⟨_,rfl⟩
 obtain ⟨e6,d6⟩ : ∃ e,(as6 == bs6) = e := ⟨_,rfl⟩
 obtain ⟨e7,d7⟩ : ∃ e,(ae7 == be7) = e := ⟨_,rfl⟩
 obtain ⟨e8,d8⟩ : ∃ e,(as8 == bs8) = e := ⟨_,rfl⟩
 obtain ⟨e9,d9⟩ : ∃ e,(as9 == bs9) = e := ⟨_,rfl⟩
 obtain ⟨e10,d10⟩ : ∃ e,(ae10 == be10) = e := ⟨_,rfl⟩
 obtain ⟨e11,d11⟩ : ∃ e,(as11 == bs11) = e := ⟨_,rfl⟩
 obtain ⟨e12,d12⟩ : ∃ e,(ae12 == be12) = e := ⟨_,rfl⟩
 rw [d0,d1,d2,d3,d4,d5,d6,d7,d8,d9,d10,d11,d12]
 cases e0 with
 | false =>
  have k0 := bl_f d0
  go_simp
 | true =>
  have k0 := bl_t d0
  cases e1 with
  | false =>
   have k1 := bl_f d1
   go_simp
  | true =>
   have k1 := bl_t d1
   cases e2 with
   | false =>
    go_simp
   | true =>
    cases e3 with
    | false =>
     go_simp
    | true =>
     cases e4 with
     | false =>
      go_simp
     | true =>
      cases e5 with
      | false =>
       go_simp
      | true =>
       cases e6 with
       | false =>
        go_simp
       | true =>
        cases e7 with
        | false =>
         go_simp
        | true =>
         cases e8 with
         | false =>
          go_simp
         | true =>
          cases e9 with
          | false =>
           go_simp
          | true =>
           cases e10 with
           | false =>
            go_simp
           | true =>
            cases e11 with
            | false =>
             go_simp
            | true =>
             cases e12 with
             | false =>
              go_simp
             | true =>
              go_simp
set_option maxHeartbeats 4000000 in
theorem eqs_imp (an ac ag ao bn bc bg bo : Nat) (ap bp : Option Addr) (az0 : Nat → ByteArray) (az1 : Nat → ByteArray) (at2 : Nat → Int) (at3 : Nat → Int) (at4 : Nat → Int) (at5 : Nat → Int) (at6 : Nat → Int) (abo7 : Nat → Bool) (at8 : Nat → Int) (at9 : Nat → Int) (abo10 : Nat → Bool) (at11 : Nat → Int) (abo12 : Nat → Bool) (bz0 : Nat → ByteArray) (bz1 : Nat → ByteArray) (bt2 : Nat → Int) (bt3 : Nat → Int) (bt4 : Nat → Int) (bt5 : Nat → Int) (bt6 : Nat → Int) (bbo7 : Nat → Bool) (bt8 : Nat → Int) (bt9 : Nat → Int) (bbo10 : Nat → Bool) (bt11 : Nat → Int) (bbo12 : Nat → Bool) (w : World)
  (han : an < 9223372036854775807) (hbn : bn < 9223372036854775807) (hag : an ≠ 0 → ap = some ⟨ag,ao,none⟩ ∧ ag < w.heap.size) (hbg : bn ≠ 0 → bp = some ⟨bg,bo,none⟩ ∧ bg < w.heap.size)
  (hax : ∀ i,i < an → w.cell? ⟨ag,ao + i * 13,none⟩ = some (.string (az0 i)) ∧ w.cell? ⟨ag,ao + i * 13 + 1,none⟩ = some (.string (az1 i)) ∧ w.cell? ⟨ag,ao + i * 13 + 2,none⟩ = some (.int .i64 (at2 i)) ∧ w.cell? ⟨ag,ao + i * 13 + 3,none⟩ = some (.int .i64 (at3 i)) ∧ w.cell? ⟨ag,ao + i * 13 + 4,none⟩ = some (.int .i64 (at4 i)) ∧ w.cell? ⟨ag,ao + i * 13 + 5,none⟩ = some (.int .i64 (at5 i)) ∧ w.cell? ⟨ag,ao + i * 13 + 6,none⟩ = some (.int .i64 (at6 i)) ∧ w.cell? ⟨ag,ao + i * 13 + 7,none⟩ = some (.bool (abo7 i)) ∧ w.cell? ⟨ag,ao + i * 13 + 8,none⟩ = some (.int .i64 (at8 i)) ∧ w.cell? ⟨ag,ao + i * 13 + 9,none⟩ = some (.int .i64 (at9 i)) ∧ w.cell? ⟨ag,ao + i * 13 + 10,none⟩ = some (.bool (abo10 i)) ∧ w.cell? ⟨ag,ao + i * 13 + 11,none⟩ = some (.int .i64 (at11 i)) ∧ w.cell? ⟨ag,ao + i * 13 + 12,none⟩ = some (.bool (abo12 i))) (hbx : ∀ i,i < bn → w.cell? ⟨bg,bo + i * 13,none⟩ = some (.string (bz0 i)) ∧ w.cell? ⟨bg,bo + i * 13 + 1,none⟩ = some (.string (bz1 i)) ∧ w.cell? ⟨bg,bo + i * 13 + 2,none⟩ = some (.int .i64 (bt2 i)) ∧ w.cell? ⟨bg,bo + i * 13 + 3,none⟩ = some (.int .i64 (bt3 i)) ∧ w.cell? ⟨bg,bo + i * 13 + 4,none⟩ = some (.int .i64 (bt4 i)) ∧ w.cell? ⟨bg,bo + i * 13 + 5,none⟩ = some (.int .i64 (bt5 i)) ∧ w.cell? ⟨bg,bo + i * 13 + 6,none⟩ = some (.int .i64 (bt6 i)) ∧ w.cell? ⟨bg,bo + i * 13 + 7,none⟩ = some (.bool (bbo7 i)) ∧ w.cell? ⟨bg,bo + i * 13 + 8,none⟩ = some (.int .i64 (bt8 i)) ∧ w.cell? ⟨bg,bo + i * 13 + 9,none⟩ = some (.int .i64 (bt9 i)) ∧ w.cell? ⟨bg,bo + i * 13 + 10,none⟩ = some (.bool (bbo10 i)) ∧ w.cell? ⟨bg,bo + i * 13 + 11,none⟩ = some (.int .i64 (bt11 i)) ∧ w.cell? ⟨bg,bo + i * 13 + 12,none⟩ = some (.bool (bbo12 i))) :
  Calls Tryz.prog 80 #[.slice ap an ac,.slice bp bn bc] w fun e w' => e = .returned (.bool (eqL an bn (fun i => (az0 i == bz0 i) && (az1 i == bz1 i) && (at2 i == bt2 i) && (at3 i == bt3 i) && (at4 i == bt4 i) && (at5 i == bt5 i) && (at6 i == bt6 i) && (abo7 i == bbo7 i) && (at8 i == bt8 i) && (at9 i == bt9 i) && (abo10 i == bbo10 i) && (at11 i == bt11 i) && (abo12 i == bbo12 i)))) ∧ Below w.heap.size w w' := by
 have HAX := hid hax
 have HBX := hid hbx
 have HAG := hid hag
 have HBG := hid hbg
 have hn1 : (an : Int) < 9223372036854775807 := by omega
 have hn2 : (bn : Int) < 9223372036854775807 := by omega
 obtain ⟨P,hP⟩ : ∃ P : Nat → Bool,P = (fun i => (az0 i == bz0 i) && (az1 i == bz1 i) && (at2 i == bt2 i) && (at3 i == bt3 i) && (at4 i == bt4 i) && (at5 i == bt5 i) && (at6 i == bt6 i) && (abo7 i == bbo7 i) && (at8 i == bt8 i) && (at9 i == bt9 i) && (abo10 i == bbo10 i) && (at11 i == bt11 i) && (abo12 i == bbo12 i)) := ⟨_,rfl⟩
 rw [← hP]
 have HPP := hid hP
 obtain ⟨r,hr⟩ : ∃ r,r = eqL an bn P := ⟨_,rfl⟩
 rw [← hr]
 have HR := hid hr
 clear hax hbx hag hbg hr han hbn hP
 by_cases hl : an = bn
 ·subst hl
  have hd : ((an : Int) != (an : Int)) = false := by simp
  go_enter Tryz.func80,Tryz.ntmps80
  go_wp2
  go_loopw [13] (fun vi wr => ∃ i : Nat,i ≤ an ∧ vi = .int .i64 i ∧ Hid (∀ j,j < i → P j = true) ∧ Hid (Below w.heap.size w wr)) (fun vi _ => an - (intOf vi).toNat)
  case atStart => exact ⟨0,Nat.zero_le _,rfl,fun j hj => absurd hj (Nat.not_lt_zero _),Below.refl _ _⟩
  case round =>
   obtain ⟨i,hi,rfl,HI,HB⟩ := hrel
   by_cases hlt : i < an
   ·obtain ⟨z0,z1,z2,z3,z4,z5,z6,z7,z8,z9,z10,z11,z12⟩ := HAX.out i hlt
    obtain ⟨v0,v1,v2,v3,v4,v5,v6,v7,v8,v9,v10,v11,v12⟩ := HBX.out i hlt
    obtain ⟨hpa,hga⟩ := HAG.out (by omega)
    obtain ⟨hpb,hgb⟩ := HBG.out (by omega)
    subst hpa hpb
    have HQ := hid (show P i = ((az0 i == bz0 i) && (az1 i == bz1 i) && (at2 i == bt2 i) && (at3 i == bt3 i) && (at4 i == bt4 i) && (at5 i == bt5 i) && (at6 i == bt6 i) && (abo7 i == bbo7 i) && (at8 i == bt8 i) && (at9 i == bt9 i) && (abo10 i == bbo10 i) && (at11 i == bt11 i) && (abo12 i == bbo12 i)) by rw [HPP.out])
    have x0 := (HB.out.cell (p := ⟨ag,ao + i * 13,none⟩) hga).trans z0
    have y0 := (HB.out.cell (p := ⟨bg,bo + i * 13,none⟩) hgb).trans v0
    have x1 := (HB.out.cell (p := ⟨ag,ao + i * 13 + 1,none⟩) hga).trans z1
    have y1 := (HB.out.cell (p := ⟨bg,bo + i * 13 + 1,none⟩) hgb).trans v1
    have x2 := (HB.out.cell (p := ⟨ag,ao + i * 13 + 2,none⟩) hga).trans z2
    have y2 := (HB.out.cell (p := ⟨bg,bo + i * 13 + 2,none⟩) hgb).trans v2
    have x3 := (HB.out.cell (p := ⟨ag,ao + i * 13 + 3,none⟩) hga).trans z3
    have y3 := (HB.out.cell (p := ⟨bg,bo + i * 13 + 3,none⟩) hgb).trans v3
    have x4 := (HB.out.cell (p := ⟨ag,ao + i * 13 + 4,none⟩) hga).trans z4
    have y4 := (HB.out.cell (p := ⟨bg,bo + i * 13 + 4,none⟩) hgb).trans v4
    have x5 := (HB.out.cell (p := ⟨ag,ao + i * 13 + 5,none⟩) hga).trans z5
    have y5 := (HB.out.cell (p := ⟨bg,bo + i * 13 + 5,none⟩) hgb).trans v5
    have x6 := (HB.out.cell (p := ⟨ag,ao + i * 13 + 6,none⟩) hga).trans z6
    have y6 := (HB.out.cell (p := ⟨bg,bo + i * 13 + 6,none⟩) hgb).trans v6
    have x7 := (HB.out.cell (p := ⟨ag,ao + i * 13 + 7,none⟩) hga).trans z7
    have y7 := (HB.out.cell (p := ⟨bg,bo + i * 13 + 7,none⟩) hgb).trans v7
    have x8 := (HB.out.cell (p := ⟨ag,ao + i * 13 + 8,none⟩) hga).trans z8
    have y8 := (HB.out.cell (p := ⟨bg,bo + i * 13 + 8,none⟩) hgb).trans v8
    have x9 := (HB.out.cell (p := ⟨ag,ao + i * 13 + 9,none⟩) hga).trans z9
    have y9 := (HB.out.cell (p := ⟨bg,bo + i * 13 + 9,none⟩) hgb).trans v9
    have x10 := (HB.out.cell (p := ⟨ag,ao + i * 13 + 10,none⟩) hga).trans z10
    have y10 := (HB.out.cell (p := ⟨bg,bo + i * 13 + 10,none⟩) hgb).trans v10
    have x11 := (HB.out.cell (p := ⟨ag,ao + i * 13 + 11,none⟩) hga).trans z11
    have y11 := (HB.out.cell (p := ⟨bg,bo + i * 13 + 11,none⟩) hgb).trans v11
    have x12 := (HB.out.cell (p := ⟨ag,ao + i * 13 + 12,none⟩) hga).trans z12
    have y12 := (HB.out.cell (p := ⟨bg,bo + i * 13 + 12,none⟩) hgb).trans v12
    clear z0 v0 z1 v1 z2 v2 z3 v3 z4 v4 z5 v5 z6 v6 z7 v7 z8 v8 z9 v9 z10 v10 z11 v11 z12 v12 hga hgb
    generalize az0 i = ay0 at *
    generalize az1 i = ay1 at *
    generalize at2 i = as2 at *
    generalize at3 i = as3 at *
    generalize at4 i = as4 at *
    generalize at5 i = as5 at *
    generalize at6 i = as6 at *
    generalize abo7 i = ae7 at *
    generalize at8 i = as8 at *
    generalize at9 i = as9 at *
    generalize abo10 i = ae10 at *
    generalize at11 i = as11 at *
    generalize abo12 i = ae12 at *
    generalize bz0 i = by0 at *
    generalize bz1 i = by1 at *
    generalize bt2 i = bs2 at *
    generalize bt3 i = bs3 at *
    generalize bt4 i = bs4 at *
    generalize bt5 i = bs5 at *
    generalize bt6 i = bs6 at *
    generalize bbo7 i = be7 at *
    generalize bt8 i = bs8 at *
    generalize bt9 i = bs9 at *
    generalize bbo10 i = be10 at *
    generalize bt11 i = bs11 at *
    generalize bbo12 i = be12 at *
    have hq := fun W => neq_imp ay0 ay1 as2 as3 as4 as5 as6 ae7 as8 as9 ae10 as11 ae12 by0 by1 bs2 bs3 bs4 bs5 bs6 be7 bs8 bs9 be10 bs11 be12 W
    obtain ⟨q,hq2⟩ : ∃ q,q = ((ay0 == by0) && (ay1 == by1) && (as2 == bs2) && (as3 == bs3) && (as4 == bs4) && (as5 == bs5) && (as6 == bs6) && (ae7 == be7) && (as8 == bs8) && (as9 == bs9) && (ae10 == be10) && (as11 == bs11) && (ae12 == be12)) := ⟨_,rfl⟩
    rw [← hq2] at HQ hq
    clear hq2
    cases q with
    | false =>
     have HE : Hid (r = false) := by
      rw [HR.out]
      refine Bool.eq_false_iff.2 fun h => ?_
      have := ((eqL_iff _ _ _).1 h).2 i hlt
      rw [HQ.out] at this
      cases this
     go_upto_region 6 with fail
     have hag2 := (HAG.out (by omega)).2
     have hbg2 := (HBG.out (by omega)).2
     have hag3 := Nat.lt_of_lt_of_le hag2 HB.out.size
     have hbg3 := Nat.lt_of_lt_of_le hbg2 HB.out.size
     have hS : Below w.heap.size w wr.drew := HB.out.drew
     refine wp_region_held_drew (S := fun W => Below wr.heap.size wr W) (by kernel_rfl) ((Below.refl _ _).drew) (fun _ => ?_)
     generalize wr.drew = W at *
     refine zt 0 (.slice (some ⟨ag,ao,none⟩) an ac) rfl ?_ ?_
     ·(intro W hSw; have w0 := (hSw.cell (p := ⟨ag,ao + i * 13,none⟩) hag3).trans x0; have u0 := (hSw.cell (p := ⟨bg,bo + i * 13,none⟩) hbg3).trans y0; have w1 := (hSw.cell (p := ⟨ag,ao + i * 13 + 1,none⟩) hag3).trans x1; have u1 := (hSw.cell (p := ⟨bg,bo + i * 13 + 1,none⟩) hbg3).trans y1; have w2 := (hSw.cell (p := ⟨ag,ao + i * 13 + 2,none⟩) hag3).trans x2; have u2 := (hSw.cell (p := ⟨bg,bo + i * 13 + 2,none⟩) hbg3).trans y2; have w3 := (hSw.cell (p := ⟨ag,ao + i * 13 + 3,none⟩) hag3).trans x3; have u3 := (hSw.cell (p := ⟨bg,bo + i * 13 + 3,none⟩) hbg3).trans y3; have w4 := (hSw.cell (p := ⟨ag,ao + i * 13 + 4,none⟩) hag3).trans x4; have u4 := (hSw.cell (p := ⟨bg,bo + i * 13 + 4,none⟩) hbg3).trans y4; have w5 := (hSw.cell (p := ⟨ag,ao + i * 13 + 5,none⟩) hag3).trans x5; have u5 := (hSw.cell (p := ⟨bg,bo + i * 13 + 5,none⟩) hbg3).trans y5; have w6 := (hSw.cell (p := ⟨ag,ao + i * 13 + 6,none⟩) hag3).trans x6; have u6 := (hSw.cell (p := ⟨bg,bo + i * 13 + 6,none⟩) hbg3).trans y6; have w7 := (hSw.cell (p := ⟨ag,ao + i * 13 + 7,none⟩) hag3).trans x7; have u7 := (hSw.cell (p := ⟨bg,bo + i * 13 + 7,none⟩) hbg3).trans y7; have w8 := (hSw.cell (p := ⟨ag,ao + i * 13 + 8,none⟩) hag3).trans x8; have u8 := (hSw.cell (p := ⟨bg,bo + i * 13 + 8,none⟩) hbg3).trans y8; have w9 := (hSw.cell (p := ⟨ag,ao + i * 13 + 9,none⟩) hag3).trans x9; have u9 := (hSw.cell (p := ⟨bg,bo + i * 13 + 9,none⟩) hbg3).trans y9; have w10 := (hSw.cell (p := ⟨ag,ao + i * 13 + 10,none⟩) hag3).trans x10; have u10 := (hSw.cell (p := ⟨bg,bo + i * 13 + 10,none⟩) hbg3).trans y10; have w11 := (hSw.cell (p := ⟨ag,ao + i * 13 + 11,none⟩) hag3).trans x11; have u11 := (hSw.cell (p := ⟨bg,bo + i * 13 + 11,none⟩) hbg3).trans y11; have w12 := (hSw.cell (p := ⟨ag,ao + i * 13 + 12,none⟩) hag3).trans x12; have u12 := (hSw.cell (p := ⟨bg,bo + i * 13 + 12,none⟩) hbg3).trans y12; go_simp; try (with_reducible rfl))
     try simp only [Act.put,sl2,sl0,sl1]
     refine zt 1 (.int .i64 i) rfl ?_ ?_
     ·(intro W hSw; have w0 := (hSw.cell (p := ⟨ag,ao + i * 13,none⟩) hag3).trans x0; have u0 := (hSw.cell (p := ⟨bg,bo + i * 13,none⟩) hbg3).trans y0; have w1 := (hSw.cell (p := ⟨ag,ao + i * 13 + 1,none⟩) hag3).trans x1; have u1 := (hSw.cell (p := ⟨bg,bo + i * 13 + 1,none⟩) hbg3).trans y1; have w2 := (hSw.cell (p := ⟨ag,ao + i * 13 + 2,none⟩) hag3).trans x2; have u2 := (hSw.cell (p := ⟨bg,bo + i * 13 + 2,none⟩) hbg3).trans y2; have w3 := (hSw.cell (p := ⟨ag,ao + i * 13 + 3,none⟩) hag3).trans x3; have u3 := (hSw.cell (p := ⟨bg,bo + i * 13 + 3,none⟩) hbg3).trans y3; have w4 := (hSw.cell (p := ⟨ag,ao + i * 13 + 4,none⟩) hag3).trans x4; have u4 := (hSw.cell (p := ⟨bg,bo + i * 13 + 4,none⟩) hbg3).trans y4; have w5 := (hSw.cell (p := ⟨ag,ao + i * 13 + 5,none⟩) hag3).trans x5; have u5 := (hSw.cell (p := ⟨bg,bo + i * 13 + 5,none⟩) hbg3).trans y5; have w6 := (hSw.cell (p := ⟨ag,ao + i * 13 + 6,none⟩) hag3).trans x6; have u6 := (hSw.cell (p := ⟨bg,bo + i * 13 + 6,none⟩) hbg3).trans y6; have w7 := (hSw.cell (p := ⟨ag,ao + i * 13 + 7,none⟩) hag3).trans x7; have u7 := (hSw.cell (p := ⟨bg,bo + i * 13 + 7,none⟩) hbg3).trans y7; have w8 := (hSw.cell (p := ⟨ag,ao + i * 13 + 8,none⟩) hag3).trans x8; have u8 := (hSw.cell (p := ⟨bg,bo + i * 13 + 8,none⟩) hbg3).trans y8; have w9 := (hSw.cell (p := ⟨ag,ao + i * 13 + 9,none⟩) hag3).trans x9; have u9 := (hSw.cell (p := ⟨bg,bo + i * 13 + 9,none⟩) hbg3).trans y9; have w10 := (hSw.cell (p := ⟨ag,ao + i * 13 + 10,none⟩) hag3).trans x10; have u10 := (hSw.cell (p := ⟨bg,bo + i * 13 + 10,none⟩) hbg3).trans y10; have w11 := (hSw.cell (p := ⟨ag,ao + i * 13 + 11,none⟩) hag3).trans x11; have u11 := (hSw.cell (p := ⟨bg,bo + i * 13 + 11,none⟩) hbg3).trans y11; have w12 := (hSw.cell (p := ⟨ag,ao + i * 13 + 12,none⟩) hag3).trans x12; have u12 := (hSw.cell (p := ⟨bg,bo + i * 13 + 12,none⟩) hbg3).trans y12; go_simp; try (with_reducible rfl))
     try simp only [Act.put,sl2,sl0,sl1]
     refine zt 2 (.pointer (some ⟨ag,ao + i * 13,none⟩)) rfl ?_ ?_
     ·(intro W hSw; have w0 := (hSw.cell (p := ⟨ag,ao + i * 13,none⟩) hag3).trans x0; have u0 := (hSw.cell (p := ⟨bg,bo + i * 13,none⟩) hbg3).trans y0; have w1 := (hSw.cell (p := ⟨ag,ao + i * 13 + 1,none⟩) hag3).trans x1; have u1 := (hSw.cell (p := ⟨bg,bo + i * 13 + 1,none⟩) hbg3).trans y1; have w2 := (hSw.cell (p := ⟨ag,ao + i * 13 + 2,none⟩) hag3).trans x2; have u2 := (hSw.cell (p := ⟨bg,bo + i * 13 + 2,none⟩) hbg3).trans y2; have w3 := (hSw.cell (p := ⟨ag,ao + i * 13 + 3,none⟩) hag3).trans x3; have u3 := (hSw.cell (p := ⟨bg,bo + i * 13 + 3,none⟩) hbg3).trans y3; have w4 := (hSw.cell (p := ⟨ag,ao + i * 13 + 4,none⟩) hag3).trans x4; have u4 := (hSw.cell (p := ⟨bg,bo + i * 13 + 4,none⟩) hbg3).trans y4; have w5 := (hSw.cell (p := ⟨ag,ao + i * 13 + 5,none⟩) hag3).trans x5; have u5 := (hSw.cell (p := ⟨bg,bo + i * 13 + 5,none⟩) hbg3).trans y5; have w6 := (hSw.cell (p := ⟨ag,ao + i * 13 + 6,none⟩) hag3).trans x6; have u6 := (hSw.cell (p := ⟨bg,bo + i * 13 + 6,none⟩) hbg3).trans y6; have w7 := (hSw.cell (p := ⟨ag,ao + i * 13 + 7,none⟩) hag3).trans x7; have u7 := (hSw.cell (p := ⟨bg,bo + i * 13 + 7,none⟩) hbg3).trans y7; have w8 := (hSw.cell (p := ⟨ag,ao + i * 13 + 8,none⟩) hag3).trans x8; have u8 := (hSw.cell (p := ⟨bg,bo + i * 13 + 8,none⟩) hbg3).trans y8; have w9 := (hSw.cell (p := ⟨ag,ao + i * 13 + 9,none⟩) hag3).trans x9; have u9 := (hSw.cell (p := ⟨bg,bo + i * 13 + 9,none⟩) hbg3).trans y9; have w10 := (hSw.cell (p := ⟨ag,ao + i * 13 + 10,none⟩) hag3).trans x10; have u10 := (hSw.cell (p := ⟨bg,bo + i * 13 + 10,none⟩) hbg3).trans y10; have w11 := (hSw.cell (p := ⟨ag,ao + i * 13 + 11,none⟩) hag3).trans x11; have u11 := (hSw.cell (p := ⟨bg,bo + i * 13 + 11,none⟩) hbg3).trans y11; have w12 := (hSw.cell (p := ⟨ag,ao + i * 13 + 12,none⟩) hag3).trans x12; have u12 := (hSw.cell (p := ⟨bg,bo + i * 13 + 12,none⟩) hbg3).trans y12; go_simp; try (with_reducible rfl))
     try simp only [Act.put,sl2,sl0,sl1]
     refine zt 3 (.agg #[.string ay0,.string ay1,.int .i64 as2,.int .i64 as3,.int .i64 as4,.int .i64 as5,.int .i64 as6,.bool ae7,.int .i64 as8,.int .i64 as9,.bool ae10,.int .i64 as11,.bool ae12]) rfl ?_ ?_
     ·(intro W hSw; have w0 := (hSw.cell (p := ⟨ag,ao + i * 13,none⟩) hag3).trans x0; have u0 := (hSw.cell (p := ⟨bg,bo + i * 13,none⟩) hbg3).trans y0; have w1 := (hSw.cell (p := ⟨ag,ao + i * 13 + 1,none⟩) hag3).trans x1; have u1 := (hSw.cell (p := ⟨bg,bo + i * 13 + 1,none⟩) hbg3).trans y1; have w2 := (hSw.cell (p := ⟨ag,ao + i * 13 + 2,none⟩) hag3).trans x2; have u2 := (hSw.cell (p := ⟨bg,bo + i * 13 + 2,none⟩) hbg3).trans y2; have w3 := (hSw.cell (p := ⟨ag,ao + i * 13 + 3,none⟩) hag3).trans x3; have u3 := (hSw.cell (p := ⟨bg,bo + i * 13 + 3,none⟩) hbg3).trans y3; have w4 := (hSw.cell (p := ⟨ag,ao + i * 13 + 4,none⟩) hag3).trans x4; have u4 := (hSw.cell (p := ⟨bg,bo + i * 13 + 4,none⟩) hbg3).trans y4; have w5 := (hSw.cell (p := ⟨ag,ao + i * 13 + 5,none⟩) hag3).trans x5; have u5 := (hSw.cell (p := ⟨bg,bo + i * 13 + 5,none⟩) hbg3).trans y5; have w6 := (hSw.cell (p := ⟨ag,ao + i * 13 + 6,none⟩) hag3).trans x6; have u6 := (hSw.cell (p := ⟨bg,bo + i * 13 + 6,none⟩) hbg3).trans y6; have w7 := (hSw.cell (p := ⟨ag,ao + i * 13 + 7,none⟩) hag3).trans x7; have u7 := (hSw.cell (p := ⟨bg,bo + i * 13 + 7,none⟩) hbg3).trans y7; have w8 := (hSw.cell (p := ⟨ag,ao + i * 13 + 8,none⟩) hag3).trans x8; have u8 := (hSw.cell (p := ⟨bg,bo + i * 13 + 8,none⟩) hbg3).trans y8; have w9 := (hSw.cell (p := ⟨ag,ao + i * 13 + 9,none⟩) hag3).trans x9; have u9 := (hSw.cell (p := ⟨bg,bo + i * 13 + 9,none⟩) hbg3).trans y9; have w10 := (hSw.cell (p := ⟨ag,ao + i * 13 + 10,none⟩) hag3).trans x10; have u10 := (hSw.cell (p := ⟨bg,bo + i * 13 + 10,none⟩) hbg3).trans y10; have w11 := (hSw.cell (p := ⟨ag,ao + i * 13 + 11,none⟩) hag3).trans x11; have u11 := (hSw.cell (p := ⟨bg,bo + i * 13 + 11,none⟩) hbg3).trans y11; have w12 := (hSw.cell (p := ⟨ag,ao + i * 13 + 12,none⟩) hag3).trans x12; have u12 := (hSw.cell (p := ⟨bg,bo + i * 13 + 12,none⟩) hbg3).trans y12; go_simp; try (with_reducible rfl))
     try simp only [Act.put,sl2,sl0,sl1]
     refine zt 4 (.slice (some ⟨bg,bo,none⟩) an bc) rfl ?_ ?_
     ·(intro W hSw; have w0 := (hSw.cell (p := ⟨ag,ao + i * 13,none⟩) hag3).trans x0; have u0 := (hSw.cell (p := ⟨bg,bo + i * 13,none⟩) hbg3).trans y0; have w1 := (hSw.cell (p := ⟨ag,ao + i * 13 + 1,none⟩) hag3).trans x1; have u1 := (hSw.cell (p := ⟨bg,bo + i * 13 + 1,none⟩) hbg3).trans y1; have w2 := (hSw.cell (p := ⟨ag,ao + i * 13 + 2,none⟩) hag3).trans x2; have u2 := (hSw.cell (p := ⟨bg,bo + i * 13 + 2,none⟩) hbg3).trans y2; have w3 := (hSw.cell (p := ⟨ag,ao + i * 13 + 3,none⟩) hag3).trans x3; have u3 := (hSw.cell (p := ⟨bg,bo + i * 13 + 3,none⟩) hbg3).trans y3; have w4 := (hSw.cell (p := ⟨ag,ao + i * 13 + 4,none⟩) hag3).trans x4; have u4 := (hSw.cell (p := ⟨bg,bo + i * 13 + 4,none⟩) hbg3).trans y4; have w5 := (hSw.cell (p := ⟨ag,ao + i * 13 + 5,none⟩) hag3).trans x5; have u5 := (hSw.cell (p := ⟨bg,bo + i * 13 + 5,none⟩) hbg3).trans y5; have w6 := (hSw.cell (p := ⟨ag,ao + i * 13 + 6,none⟩) hag3).trans x6; have u6 := (hSw.cell (p := ⟨bg,bo + i * 13 + 6,none⟩) hbg3).trans y6; have w7 := (hSw.cell (p := ⟨ag,ao + i * 13 + 7,none⟩) hag3).trans x7; have u7 := (hSw.cell (p := ⟨bg,bo + i * 13 + 7,none⟩) hbg3).trans y7; have w8 := (hSw.cell (p := ⟨ag,ao + i * 13 + 8,none⟩) hag3).trans x8; have u8 := (hSw.cell (p := ⟨bg,bo + i * 13 + 8,none⟩) hbg3).trans y8; have w9 := (hSw.cell (p := ⟨ag,ao + i * 13 + 9,none⟩) hag3).trans x9; have u9 := (hSw.cell (p := ⟨bg,bo + i * 13 + 9,none⟩) hbg3).trans y9; have w10 := (hSw.cell (p := ⟨ag,ao + i * 13 + 10,none⟩) hag3).trans x10; have u10 := (hSw.cell (p := ⟨bg,bo + i * 13 + 10,none⟩) hbg3).trans y10; have w11 := (hSw.cell (p := ⟨ag,ao + i * 13 + 11,none⟩) hag3).trans x11; have u11 := (hSw.cell (p := ⟨bg,bo + i * 13 + 11,none⟩) hbg3).trans y11; have w12 := (hSw.cell (p := ⟨ag,ao + i * 13 + 12,none⟩) hag3).trans x12; have u12 := (hSw.cell (p := ⟨bg,bo + i * 13 + 12,none⟩) hbg3).trans y12; go_simp; try (with_reducible rfl))
     try simp only [Act.put,sl2,sl0,sl1]
     refine zt 5 (.int .i64 i) rfl ?_ ?_
     ·(intro W hSw; have w0 := (hSw.cell (p := ⟨ag,ao + i * 13,none⟩) hag3).trans x0; have u0 := (hSw.cell (p := ⟨bg,bo + i * 13,none⟩) hbg3).trans y0; have w1 := (hSw.cell (p := ⟨ag,ao + i * 13 + 1,none⟩) hag3).trans x1; have u1 := (hSw.cell (p := ⟨bg,bo + i * 13 + 1,none⟩) hbg3).trans y1; have w2 := (hSw.cell (p := ⟨ag,ao + i * 13 + 2,none⟩) hag3).trans x2; have u2 := (hSw.cell (p := ⟨bg,bo + i * 13 + 2,none⟩) hbg3).trans y2; have w3 := (hSw.cell (p := ⟨ag,ao + i * 13 + 3,none⟩) hag3).trans x3; have u3 := (hSw.cell (p := ⟨bg,bo + i * 13 + 3,none⟩) hbg3).trans y3; have w4 := (hSw.cell (p := ⟨ag,ao + i * 13 + 4,none⟩) hag3).trans x4; have u4 := (hSw.cell (p := ⟨bg,bo + i * 13 + 4,none⟩) hbg3).trans y4; have w5 := (hSw.cell (p := ⟨ag,ao + i * 13 + 5,none⟩) hag3).trans x5; have u5 := (hSw.cell (p := ⟨bg,bo + i * 13 + 5,none⟩) hbg3).trans y5; have w6 := (hSw.cell (p := ⟨ag,ao + i * 13 + 6,none⟩) hag3).trans x6; have u6 := (hSw.cell (p := ⟨bg,bo + i * 13 + 6,none⟩) hbg3).trans y6; have w7 := (hSw.cell (p := ⟨ag,ao + i * 13 + 7,none⟩) hag3).trans x7; have u7 := (hSw.cell (p := ⟨bg,bo + i * 13 + 7,none⟩) hbg3).trans y7; have w8 := (hSw.cell (p := ⟨ag,ao + i * 13 + 8,none⟩) hag3).trans x8; have u8 := (hSw.cell (p := ⟨bg,bo + i * 13 + 8,none⟩) hbg3).trans y8; have w9 := (hSw.cell (p := ⟨ag,ao + i * 13 + 9,none⟩) hag3).trans x9; have u9 := (hSw.cell (p := ⟨bg,bo + i * 13 + 9,none⟩) hbg3).trans y9; have w10 := (hSw.cell (p := ⟨ag,ao + i * 13 + 10,none⟩) hag3).trans x10; have u10 := (hSw.cell (p := ⟨bg,bo + i * 13 + 10,none⟩) hbg3).trans y10; have w11 := (hSw.cell (p := ⟨ag,ao + i * 13 + 11,none⟩) hag3).trans x11; have u11 := (hSw.cell (p := ⟨bg,bo + i * 13 + 11,none⟩) hbg3).trans y11; have w12 := (hSw.cell (p := ⟨ag,ao + i * 13 + 12,none⟩) hag3).trans x12; have u12 := (hSw.cell (p := ⟨bg,bo + i * 13 + 12,none⟩) hbg3).trans y12; go_simp; try (with_reducible rfl))
     try simp only [Act.put,sl2,sl0,sl1]
     refine zt 6 (.pointer (some ⟨bg,bo + i * 13,none⟩)) rfl ?_ ?_
     ·(intro W hSw; have w0 := (hSw.cell (p := ⟨ag,ao + i * 13,none⟩) hag3).trans x0; have u0 := (hSw.cell (p := ⟨bg,bo + i * 13,none⟩) hbg3).trans y0; have w1 := (hSw.cell (p := ⟨ag,ao + i * 13 + 1,none⟩) hag3).trans x1; have u1 := (hSw.cell (p := ⟨bg,bo + i * 13 + 1,none⟩) hbg3).trans y1; have w2 := (hSw.cell (p := ⟨ag,ao + i * 13 + 2,none⟩) hag3).trans x2; have u2 := (hSw.cell (p := ⟨bg,bo + i * 13 + 2,none⟩) hbg3).trans y2; have w3 := (hSw.cell (p := ⟨ag,ao + i * 13 + 3,none⟩) hag3).trans x3; have u3 := (hSw.cell (p := ⟨bg,bo + i * 13 + 3,none⟩) hbg3).trans y3; have w4 := (hSw.cell (p := ⟨ag,ao + i * 13 + 4,none⟩) hag3).trans x4; have u4 := (hSw.cell (p := ⟨bg,bo + i * 13 + 4,none⟩) hbg3).trans y4; have w5 := (hSw.cell (p := ⟨ag,ao + i * 13 + 5,none⟩) hag3).trans x5; have u5 := (hSw.cell (p := ⟨bg,bo + i * 13 + 5,none⟩) hbg3).trans y5; have w6 := (hSw.cell (p := ⟨ag,ao + i * 13 + 6,none⟩) hag3).trans x6; have u6 := (hSw.cell (p := ⟨bg,bo + i * 13 + 6,none⟩) hbg3).trans y6; have w7 := (hSw.cell (p := ⟨ag,ao + i * 13 + 7,none⟩) hag3).trans x7; have u7 := (hSw.cell (p := ⟨bg,bo + i * 13 + 7,none⟩) hbg3).trans y7; have w8 := (hSw.cell (p := ⟨ag,ao + i * 13 + 8,none⟩) hag3).trans x8; have u8 := (hSw.cell (p := ⟨bg,bo + i * 13 + 8,none⟩) hbg3).trans y8; have w9 := (hSw.cell (p := ⟨ag,ao + i * 13 + 9,none⟩) hag3).trans x9; have u9 := (hSw.cell (p := ⟨bg,bo + i * 13 + 9,none⟩) hbg3).trans y9; have w10 := (hSw.cell (p := ⟨ag,ao + i * 13 + 10,none⟩) hag3).trans x10; have u10 := (hSw.cell (p := ⟨bg,bo + i * 13 + 10,none⟩) hbg3).trans y10; have w11 := (hSw.cell (p := ⟨ag,ao + i * 13 + 11,none⟩) hag3).trans x11; have u11 := (hSw.cell (p := ⟨bg,bo + i * 13 + 11,none⟩) hbg3).trans y11; have w12 := (hSw.cell (p := ⟨ag,ao + i * 13 + 12,none⟩) hag3).trans x12; have u12 := (hSw.cell (p := ⟨bg,bo + i * 13 + 12,none⟩) hbg3).trans y12; go_simp; try (with_reducible rfl))
     try simp only [Act.put,sl2,sl0,sl1]
     refine zt 7 (.agg #[.string by0,.string by1,.int .i64 bs2,.int .i64 bs3,.int .i64 bs4,.int .i64 bs5,.int .i64 bs6,.bool be7,.int .i64 bs8,.int .i64 bs9,.bool be10,.int .i64 bs11,.bool be12]) rfl ?_ ?_
     ·(intro W hSw; have w0 := (hSw.cell (p := ⟨ag,ao + i * 13,none⟩) hag3).trans x0; have u0 := (hSw.cell (p := ⟨bg,bo + i * 13,none⟩) hbg3).trans y0; have w1 := (hSw.cell (p := ⟨ag,ao + i * 13 + 1,none⟩) hag3).trans x1; have u1 := (hSw.cell (p := ⟨bg,bo + i * 13 + 1,none⟩) hbg3).trans y1; have w2 := (hSw.cell (p := ⟨ag,ao + i * 13 + 2,none⟩) hag3).trans x2; have u2 := (hSw.cell (p := ⟨bg,bo + i * 13 + 2,none⟩) hbg3).trans y2; have w3 := (hSw.cell (p := ⟨ag,ao + i * 13 + 3,none⟩) hag3).trans x3; have u3 := (hSw.cell (p := ⟨bg,bo + i * 13 + 3,none⟩) hbg3).trans y3; have w4 := (hSw.cell (p := ⟨ag,ao + i * 13 + 4,none⟩) hag3).trans x4; have u4 := (hSw.cell (p := ⟨bg,bo + i * 13 + 4,none⟩) hbg3).trans y4; have w5 := (hSw.cell (p := ⟨ag,ao + i * 13 + 5,none⟩) hag3).trans x5; have u5 := (hSw.cell (p := ⟨bg,bo + i * 13 + 5,none⟩) hbg3).trans y5; have w6 := (hSw.cell (p := ⟨ag,ao + i * 13 + 6,none⟩) hag3).trans x6; have u6 := (hSw.cell (p := ⟨bg,bo + i * 13 + 6,none⟩) hbg3).trans y6; have w7 := (hSw.cell (p := ⟨ag,ao + i * 13 + 7,none⟩) hag3).trans x7; have u7 := (hSw.cell (p := ⟨bg,bo + i * 13 + 7,none⟩) hbg3).trans y7; have w8 := (hSw.cell (p := ⟨ag,ao + i * 13 + 8,none⟩) hag3).trans x8; have u8 := (hSw.cell (p := ⟨bg,bo + i * 13 + 8,none⟩) hbg3).trans y8; have w9 := (hSw.cell (p := ⟨ag,ao + i * 13 + 9,none⟩) hag3).trans x9; have u9 := (hSw.cell (p := ⟨bg,bo + i * 13 + 9,none⟩) hbg3).trans y9; have w10 := (hSw.cell (p := ⟨ag,ao + i * 13 + 10,none⟩) hag3).trans x10; have u10 := (hSw.cell (p := ⟨bg,bo + i * 13 + 10,none⟩) hbg3).trans y10; have w11 := (hSw.cell (p := ⟨ag,ao + i * 13 + 11,none⟩) hag3).trans x11; have u11 := (hSw.cell (p := ⟨bg,bo + i * 13 + 11,none⟩) hbg3).trans y11; have w12 := (hSw.cell (p := ⟨ag,ao + i * 13 + 12,none⟩) hag3).trans x12; have u12 := (hSw.cell (p := ⟨bg,bo + i * 13 + 12,none⟩) hbg3).trans y12; go_simp; try (with_reducible rfl))
     try simp only [Act.put,sl2,sl0,sl1]
     refine zt 8 (.bool true) rfl ?_ ?_
     ·(intro W hSw; have w0 := (hSw.cell (p := ⟨ag,ao + i * 13,none⟩) hag3).trans x0; have u0 := (hSw.cell (p := ⟨bg,bo + i * 13,none⟩) hbg3).trans y0; have w1 := (hSw.cell (p := ⟨ag,ao + i * 13 + 1,none⟩) hag3).trans x1; have u1 := (hSw.cell (p := ⟨bg,bo + i * 13 + 1,none⟩) hbg3).trans y1; have w2 := (hSw.cell (p := ⟨ag,ao + i * 13 + 2,none⟩) hag3).trans x2; have u2 := (hSw.cell (p := ⟨bg,bo + i * 13 + 2,none⟩) hbg3).trans y2; have w3 := (hSw.cell (p := ⟨ag,ao + i * 13 + 3,none⟩) hag3).trans x3; have u3 := (hSw.cell (p := ⟨bg,bo + i * 13 + 3,none⟩) hbg3).trans y3; have w4 := (hSw.cell (p := ⟨ag,ao + i * 13 + 4,none⟩) hag3).trans x4; have u4 := (hSw.cell (p := ⟨bg,bo + i * 13 + 4,none⟩) hbg3).trans y4; have w5 := (hSw.cell (p := ⟨ag,ao + i * 13 + 5,none⟩) hag3).trans x5; have u5 := (hSw.cell (p := ⟨bg,bo + i * 13 + 5,none⟩) hbg3).trans y5; have w6 := (hSw.cell (p := ⟨ag,ao + i * 13 + 6,none⟩) hag3).trans x6; have u6 := (hSw.cell (p := ⟨bg,bo + i * 13 + 6,none⟩) hbg3).trans y6; have w7 := (hSw.cell (p := ⟨ag,ao + i * 13 + 7,none⟩) hag3).trans x7; have u7 := (hSw.cell (p := ⟨bg,bo + i * 13 + 7,none⟩) hbg3).trans y7; have w8 := (hSw.cell (p := ⟨ag,ao + i * 13 + 8,none⟩) hag3).trans x8; have u8 := (hSw.cell (p := ⟨bg,bo + i * 13 + 8,none⟩) hbg3).trans y8; have w9 := (hSw.cell (p := ⟨ag,ao + i * 13 + 9,none⟩) hag3).trans x9; have u9 := (hSw.cell (p := ⟨bg,bo + i * 13 + 9,none⟩) hbg3).trans y9; have w10 := (hSw.cell (p := ⟨ag,ao + i * 13 + 10,none⟩) hag3).trans x10; have u10 := (hSw.cell (p := ⟨bg,bo + i * 13 + 10,none⟩) hbg3).trans y10; have w11 := (hSw.cell (p := ⟨ag,ao + i * 13 + 11,none⟩) hag3).trans x11; have u11 := (hSw.cell (p := ⟨bg,bo + i * 13 + 11,none⟩) hbg3).trans y11; have w12 := (hSw.cell (p := ⟨ag,ao + i * 13 + 12,none⟩) hag3).trans x12; have u12 := (hSw.cell (p := ⟨bg,bo + i * 13 + 12,none⟩) hbg3).trans y12; go_simp; try (with_reducible rfl))
     try simp only [Act.put,sl2,sl0,sl1]
     refine wpAnyH_done (by kernel_rfl) ?_ _
     go_wp2_with fail
     go_ret
     exact ⟨by rw [HE.out]; rfl,hS⟩
    | true =>
     go_upto_region 6 with fail
     have hag2 := (HAG.out (by omega)).2
     have hbg2 := (HBG.out (by omega)).2
     have hag3 := Nat.lt_of_lt_of_le hag2 HB.out.size
     have hbg3 := Nat.lt_of_lt_of_le hbg2 HB.out.size
     have hS : Below w.heap.size w wr.drew := HB.out.drew
     refine wp_region_held_drew (S := fun W => Below wr.heap.size wr W) (by kernel_rfl) ((Below.refl _ _).drew) (fun _ => ?_)
     generalize wr.drew = W at *
     refine zt 0 (.slice (some ⟨ag,ao,none⟩) an ac) rfl ?_ ?_
     ·(intro W hSw; have w0 := (hSw.cell (p := ⟨ag,ao + i * 13,none⟩) hag3).trans x0; have u0 := (hSw.cell (p := ⟨bg,bo + i * 13,none⟩) hbg3).trans y0; have w1 := (hSw.cell (p := ⟨ag,ao + i * 13 + 1,none⟩) hag3).trans x1; have u1 := (hSw.cell (p := ⟨bg,bo + i * 13 + 1,none⟩) hbg3).trans y1; have w2 := (hSw.cell (p := ⟨ag,ao + i * 13 + 2,none⟩) hag3).trans x2; have u2 := (hSw.cell (p := ⟨bg,bo + i * 13 + 2,none⟩) hbg3).trans y2; have w3 := (hSw.cell (p := ⟨ag,ao + i * 13 + 3,none⟩) hag3).trans x3; have u3 := (hSw.cell (p := ⟨bg,bo + i * 13 + 3,none⟩) hbg3).trans y3; have w4 := (hSw.cell (p := ⟨ag,ao + i * 13 + 4,none⟩) hag3).trans x4; have u4 := (hSw.cell (p := ⟨bg,bo + i * 13 + 4,none⟩) hbg3).trans y4; have w5 := (hSw.cell (p := ⟨ag,ao + i * 13 + 5,none⟩) hag3).trans x5; have u5 := (hSw.cell (p := ⟨bg,bo + i * 13 + 5,none⟩) hbg3).trans y5; have w6 := (hSw.cell (p := ⟨ag,ao + i * 13 + 6,none⟩) hag3).trans x6; have u6 := (hSw.cell (p := ⟨bg,bo + i * 13 + 6,none⟩) hbg3).trans y6; have w7 := (hSw.cell (p := ⟨ag,ao + i * 13 + 7,none⟩) hag3).trans x7; have u7 := (hSw.cell (p := ⟨bg,bo + i * 13 + 7,none⟩) hbg3).trans y7; have w8 := (hSw.cell (p := ⟨ag,ao + i * 13 + 8,none⟩) hag3).trans x8; have u8 := (hSw.cell (p := ⟨bg,bo + i * 13 + 8,none⟩) hbg3).trans y8; have w9 := (hSw.cell (p := ⟨ag,ao + i * 13 + 9,none⟩) hag3).trans x9; have u9 := (hSw.cell (p := ⟨bg,bo + i * 13 + 9,none⟩) hbg3).trans y9; have w10 := (hSw.cell (p := ⟨ag,ao + i * 13 + 10,none⟩) hag3).trans x10; have u10 := (hSw.cell (p := ⟨bg,bo + i * 13 + 10,none⟩) hbg3).trans y10; have w11 := (hSw.cell (p := ⟨ag,ao + i * 13 + 11,none⟩) hag3).trans x11; have u11 := (hSw.cell (p := ⟨bg,bo + i * 13 + 11,none⟩) hbg3).trans y11; have w12 := (hSw.cell (p := ⟨ag,ao + i * 13 + 12,none⟩) hag3).trans x12; have u12 := (hSw.cell (p := ⟨bg,bo + i * 13 + 12,none⟩) hbg3).trans y12; go_simp; try (with_reducible rfl))
     try simp only [Act.put,sl2,sl0,sl1]
     refine zt 1 (.int .i64 i) rfl ?_ ?_
     ·(intro W hSw; have w0 := (hSw.cell (p := ⟨ag,ao + i * 13,none⟩) hag3).trans x0; have u0 := (hSw.cell (p := ⟨bg,bo + i * 13,none⟩) hbg3).trans y0; have w1 := (hSw.cell (p := ⟨ag,ao + i * 13 + 1,none⟩) hag3).trans x1; have u1 := (hSw.cell (p := ⟨bg,bo + i * 13 + 1,none⟩) hbg3).trans y1; have w2 := (hSw.cell (p := ⟨ag,ao + i * 13 + 2,none⟩) hag3).trans x2; have u2 := (hSw.cell (p := ⟨bg,bo + i * 13 + 2,none⟩) hbg3).trans y2; have w3 := (hSw.cell (p := ⟨ag,ao + i * 13 + 3,none⟩) hag3).trans x3; have u3 := (hSw.cell (p := ⟨bg,bo + i * 13 + 3,none⟩) hbg3).trans y3; have w4 := (hSw.cell (p := ⟨ag,ao + i * 13 + 4,none⟩) hag3).trans x4; have u4 := (hSw.cell (p := ⟨bg,bo + i * 13 + 4,none⟩) hbg3).trans y4; have w5 := (hSw.cell (p := ⟨ag,ao + i * 13 + 5,none⟩) hag3).trans x5; have u5 := (hSw.cell (p := ⟨bg,bo + i * 13 + 5,none⟩) hbg3).trans y5; have w6 := (hSw.cell (p := ⟨ag,ao + i * 13 + 6,none⟩) hag3).trans x6; have u6 := (hSw.cell (p := ⟨bg,bo + i * 13 + 6,none⟩) hbg3).trans y6; have w7 := (hSw.cell (p := ⟨ag,ao + i * 13 + 7,none⟩) hag3).trans x7; have u7 := (hSw.cell (p := ⟨bg,bo + i * 13 + 7,none⟩) hbg3).trans y7; have w8 := (hSw.cell (p := ⟨ag,ao + i * 13 + 8,none⟩) hag3).trans x8; have u8 := (hSw.cell (p := ⟨bg,bo + i * 13 + 8,none⟩) hbg3).trans y8; have w9 := (hSw.cell (p := ⟨ag,ao + i * 13 + 9,none⟩) hag3).trans x9; have u9 := (hSw.cell (p := ⟨bg,bo + i * 13 + 9,none⟩) hbg3).trans y9; have w10 := (hSw.cell (p := ⟨ag,ao + i * 13 + 10,none⟩) hag3).trans x10; have u10 := (hSw.cell (p := ⟨bg,bo + i * 13 + 10,none⟩) hbg3).trans y10; have w11 := (hSw.cell (p := ⟨ag,ao + i * 13 + 11,none⟩) hag3).trans x11; have u11 := (hSw.cell (p := ⟨bg,bo + i * 13 + 11,none⟩) hbg3).trans y11; have w12 := (hSw.cell (p := ⟨ag,ao + i * 13 + 12,none⟩) hag3).trans x12; have u12 := (hSw.cell (p := ⟨bg,bo + i * 13 + 12,none⟩) hbg3).trans y12; go_simp; try (with_reducible rfl))
     try simp only [Act.put,sl2,sl0,sl1]
     refine zt 2 (.pointer (some ⟨ag,ao + i * 13,none⟩)) rfl ?_ ?_
     ·(intro W hSw; have w0 := (hSw.cell (p := ⟨ag,ao + i * 13,none⟩) hag3).trans x0; have u0 := (hSw.cell (p := ⟨bg,bo + i * 13,none⟩) hbg3).trans y0; have w1 := (hSw.cell (p := ⟨ag,ao + i * 13 + 1,none⟩) hag3).trans x1; have u1 := (hSw.cell (p := ⟨bg,bo + i * 13 + 1,none⟩) hbg3).trans y1; have w2 := (hSw.cell (p := ⟨ag,ao + i * 13 + 2,none⟩) hag3).trans x2; have u2 := (hSw.cell (p := ⟨bg,bo + i * 13 + 2,none⟩) hbg3).trans y2; have w3 := (hSw.cell (p := ⟨ag,ao + i * 13 + 3,none⟩) hag3).trans x3; have u3 := (hSw.cell (p := ⟨bg,bo + i * 13 + 3,none⟩) hbg3).trans y3; have w4 := (hSw.cell (p := ⟨ag,ao + i * 13 + 4,none⟩) hag3).trans x4; have u4 := (hSw.cell (p := ⟨bg,bo + i * 13 + 4,none⟩) hbg3).trans y4; have w5 := (hSw.cell (p := ⟨ag,ao + i * 13 + 5,none⟩) hag3).trans x5; have u5 := (hSw.cell (p := ⟨bg,bo + i * 13 + 5,none⟩) hbg3).trans y5; have w6 := (hSw.cell (p := ⟨ag,ao + i * 13 + 6,none⟩) hag3).trans x6; have u6 := (hSw.cell (p := ⟨bg,bo + i * 13 + 6,none⟩) hbg3).trans y6; have w7 := (hSw.cell (p := ⟨ag,ao + i * 13 + 7,none⟩) hag3).trans x7; have u7 := (hSw.cell (p := ⟨bg,bo + i * 13 + 7,none⟩) hbg3).trans y7; have w8 := (hSw.cell (p := ⟨ag,ao + i * 13 + 8,none⟩) hag3).trans x8; have u8 := (hSw.cell (p := ⟨bg,bo + i * 13 + 8,none⟩) hbg3).trans y8; have w9 := (hSw.cell (p := ⟨ag,ao + i * 13 + 9,none⟩) hag3).trans x9; have u9 := (hSw.cell (p := ⟨bg,bo + i * 13 + 9,none⟩) hbg3).trans y9; have w10 := (hSw.cell (p := ⟨ag,ao + i * 13 + 10,none⟩) hag3).trans x10; have u10 := (hSw.cell (p := ⟨bg,bo + i * 13 + 10,none⟩) hbg3).trans y10; have w11 := (hSw.cell (p := ⟨ag,ao + i * 13 + 11,none⟩) hag3).trans x11; have u11 := (hSw.cell (p := ⟨bg,bo + i * 13 + 11,none⟩) hbg3).trans y11; have w12 := (hSw.cell (p := ⟨ag,ao + i * 13 + 12,none⟩) hag3).trans x12; have u12 := (hSw.cell (p := ⟨bg,bo + i * 13 + 12,none⟩) hbg3).trans y12; go_simp; try (with_reducible rfl))
     try simp only [Act.put,sl2,sl0,sl1]
     refine zt 3 (.agg #[.string ay0,.string ay1,.int .i64 as2,.int .i64 as3,.int .i64 as4,.int .i64 as5,.int .i64 as6,.bool ae7,.int .i64 as8,.int .i64 as9,.bool ae10,.int .i64 as11,.bool ae12]) rfl ?_ ?_
     ·(intro W hSw; have w0 := (hSw.cell (p := ⟨ag,ao + i * 13,none⟩) hag3).trans x0; have u0 := (hSw.cell (p := ⟨bg,bo + i * 13,none⟩) hbg3).trans y0; have w1 := (hSw.cell (p := ⟨ag,ao + i * 13 + 1,none⟩) hag3).trans x1; have u1 := (hSw.cell (p := ⟨bg,bo + i * 13 + 1,none⟩) hbg3).trans y1; have w2 := (hSw.cell (p := ⟨ag,ao + i * 13 + 2,none⟩) hag3).trans x2; have u2 := (hSw.cell (p := ⟨bg,bo + i * 13 + 2,none⟩) hbg3).trans y2; have w3 := (hSw.cell (p := ⟨ag,ao + i * 13 + 3,none⟩) hag3).trans x3; have u3 := (hSw.cell (p := ⟨bg,bo + i * 13 + 3,none⟩) hbg3).trans y3; have w4 := (hSw.cell (p := ⟨ag,ao + i * 13 + 4,none⟩) hag3).trans x4; have u4 := (hSw.cell (p := ⟨bg,bo + i * 13 + 4,none⟩) hbg3).trans y4; have w5 := (hSw.cell (p := ⟨ag,ao + i * 13 + 5,none⟩) hag3).trans x5; have u5 := (hSw.cell (p := ⟨bg,bo + i * 13 + 5,none⟩) hbg3).trans y5; have w6 := (hSw.cell (p := ⟨ag,ao + i * 13 + 6,none⟩) hag3).trans x6; have u6 := (hSw.cell (p := ⟨bg,bo + i * 13 + 6,none⟩) hbg3).trans y6; have w7 := (hSw.cell (p := ⟨ag,ao + i * 13 + 7,none⟩) hag3).trans x7; have u7 := (hSw.cell (p := ⟨bg,bo + i * 13 + 7,none⟩) hbg3).trans y7; have w8 := (hSw.cell (p := ⟨ag,ao + i * 13 + 8,none⟩) hag3).trans x8; have u8 := (hSw.cell (p := ⟨bg,bo + i * 13 + 8,none⟩) hbg3).trans y8; have w9 := (hSw.cell (p := ⟨ag,ao + i * 13 + 9,none⟩) hag3).trans x9; have u9 := (hSw.cell (p := ⟨bg,bo + i * 13 + 9,none⟩) hbg3).trans y9; have w10 := (hSw.cell (p := ⟨ag,ao + i * 13 + 10,none⟩) hag3).trans x10; have u10 := (hSw.cell (p := ⟨bg,bo + i * 13 + 10,none⟩) hbg3).trans y10; have w11 := (hSw.cell (p := ⟨ag,ao + i * 13 + 11,none⟩) hag3).trans x11; have u11 := (hSw.cell (p := ⟨bg,bo + i * 13 + 11,none⟩) hbg3).trans y11; have w12 := (hSw.cell (p := ⟨ag,ao + i * 13 + 12,none⟩) hag3).trans x12; have u12 := (hSw.cell (p := ⟨bg,bo + i * 13 + 12,none⟩) hbg3).trans y12; go_simp; try (with_reducible rfl))
     try simp only [Act.put,sl2,sl0,sl1]
     refine zt 4 (.slice (some ⟨bg,bo,none⟩) an bc) rfl ?_ ?_
     ·(intro W hSw; have w0 := (hSw.cell (p := ⟨ag,ao + i * 13,none⟩) hag3).trans x0; have u0 := (hSw.cell (p := ⟨bg,bo + i * 13,none⟩) hbg3).trans y0; have w1 := (hSw.cell (p := ⟨ag,ao + i * 13 + 1,none⟩) hag3).trans x1; have u1 := (hSw.cell (p := ⟨bg,bo + i * 13 + 1,none⟩) hbg3).trans y1; have w2 := (hSw.cell (p := ⟨ag,ao + i * 13 + 2,none⟩) hag3).trans x2; have u2 := (hSw.cell (p := ⟨bg,bo + i * 13 + 2,none⟩) hbg3).trans y2; have w3 := (hSw.cell (p := ⟨ag,ao + i * 13 + 3,none⟩) hag3).trans x3; have u3 := (hSw.cell (p := ⟨bg,bo + i * 13 + 3,none⟩) hbg3).trans y3; have w4 := (hSw.cell (p := ⟨ag,ao + i * 13 + 4,none⟩) hag3).trans x4; have u4 := (hSw.cell (p := ⟨bg,bo + i * 13 + 4,none⟩) hbg3).trans y4; have w5 := (hSw.cell (p := ⟨ag,ao + i * 13 + 5,none⟩) hag3).trans x5; have u5 := (hSw.cell (p := ⟨bg,bo + i * 13 + 5,none⟩) hbg3).trans y5; have w6 := (hSw.cell (p := ⟨ag,ao + i * 13 + 6,none⟩) hag3).trans x6; have u6 := (hSw.cell (p := ⟨bg,bo + i * 13 + 6,none⟩) hbg3).trans y6; have w7 := (hSw.cell (p := ⟨ag,ao + i * 13 + 7,none⟩) hag3).trans x7; have u7 := (hSw.cell (p := ⟨bg,bo + i * 13 + 7,none⟩) hbg3).trans y7; have w8 := (hSw.cell (p := ⟨ag,ao + i * 13 + 8,none⟩) hag3).trans x8; have u8 := (hSw.cell (p := ⟨bg,bo + i * 13 + 8,none⟩) hbg3).trans y8; have w9 := (hSw.cell (p := ⟨ag,ao + i * 13 + 9,none⟩) hag3).trans x9; have u9 := (hSw.cell (p := ⟨bg,bo + i * 13 + 9,none⟩) hbg3).trans y9; have w10 := (hSw.cell (p := ⟨ag,ao + i * 13 + 10,none⟩) hag3).trans x10; have u10 := (hSw.cell (p := ⟨bg,bo + i * 13 + 10,none⟩) hbg3).trans y10; have w11 := (hSw.cell (p := ⟨ag,ao + i * 13 + 11,none⟩) hag3).trans x11; have u11 := (hSw.cell (p := ⟨bg,bo + i * 13 + 11,none⟩) hbg3).trans y11; have w12 := (hSw.cell (p := ⟨ag,ao + i * 13 + 12,none⟩) hag3).trans x12; have u12 := (hSw.cell (p := ⟨bg,bo + i * 13 + 12,none⟩) hbg3).trans y12; go_simp; try (with_reducible rfl))
     try simp only [Act.put,sl2,sl0,sl1]
     refine zt 5 (.int .i64 i) rfl ?_ ?_
     ·(intro W hSw; have w0 := (hSw.cell (p := ⟨ag,ao + i * 13,none⟩) hag3).trans x0; have u0 := (hSw.cell (p := ⟨bg,bo + i * 13,none⟩) hbg3).trans y0; have w1 := (hSw.cell (p := ⟨ag,ao + i * 13 + 1,none⟩) hag3).trans x1; have u1 := (hSw.cell (p := ⟨bg,bo + i * 13 + 1,none⟩) hbg3).trans y1; have w2 := (hSw.cell (p := ⟨ag,ao + i * 13 + 2,none⟩) hag3).trans x2; have u2 := (hSw.cell (p := ⟨bg,bo + i * 13 + 2,none⟩) hbg3).trans y2; have w3 := (hSw.cell (p := ⟨ag,ao + i * 13 + 3,none⟩) hag3).trans x3; have u3 := (hSw.cell (p := ⟨bg,bo + i * 13 + 3,none⟩) hbg3).trans y3; have w4 := (hSw.cell (p := ⟨ag,ao + i * 13 + 4,none⟩) hag3).trans x4; have u4 := (hSw.cell (p := ⟨bg,bo + i * 13 + 4,none⟩) hbg3).trans y4; have w5 := (hSw.cell (p := ⟨ag,ao + i * 13 + 5,none⟩) hag3).trans x5; have u5 := (hSw.cell (p := ⟨bg,bo + i * 13 + 5,none⟩) hbg3).trans y5; have w6 := (hSw.cell (p := ⟨ag,ao + i * 13 + 6,none⟩) hag3).trans x6; have u6 := (hSw.cell (p := ⟨bg,bo + i * 13 + 6,none⟩) hbg3).trans y6; have w7 := (hSw.cell (p := ⟨ag,ao + i * 13 + 7,none⟩) hag3).trans x7; have u7 := (hSw.cell (p := ⟨bg,bo + i * 13 + 7,none⟩) hbg3).trans y7; have w8 := (hSw.cell (p := ⟨ag,ao + i * 13 + 8,none⟩) hag3).trans x8; have u8 := (hSw.cell (p := ⟨bg,bo + i * 13 + 8,none⟩) hbg3).trans y8; have w9 := (hSw.cell (p := ⟨ag,ao + i * 13 + 9,none⟩) hag3).trans x9; have u9 := (hSw.cell (p := ⟨bg,bo + i * 13 + 9,none⟩) hbg3).trans y9; have w10 := (hSw.cell (p := ⟨ag,ao + i * 13 + 10,none⟩) hag3).trans x10; have u10 := (hSw.cell (p := ⟨bg,bo + i * 13 + 10,none⟩) hbg3).trans y10; have w11 := (hSw.cell (p := ⟨ag,ao + i * 13 + 11,none⟩) hag3).trans x11; have u11 := (hSw.cell (p := ⟨bg,bo + i * 13 + 11,none⟩) hbg3).trans y11; have w12 := (hSw.cell (p := ⟨ag,ao + i * 13 + 12,none⟩) hag3).trans x12; have u12 := (hSw.cell (p := ⟨bg,bo + i * 13 + 12,none⟩) hbg3).trans y12; go_simp; try (with_reducible rfl))
     try simp only [Act.put,sl2,sl0,sl1]
     refine zt 6 (.pointer (some ⟨bg,bo + i * 13,none⟩)) rfl ?_ ?_
     ·(intro W hSw; have w0 := (hSw.cell (p := ⟨ag,ao + i * 13,none⟩) hag3).trans x0; have u0 := (hSw.cell (p := ⟨bg,bo + i * 13,none⟩) hbg3).trans y0; have w1 := (hSw.cell (p := ⟨ag,ao + i * 13 + 1,none⟩) hag3).trans x1; have u1 := (hSw.cell (p := ⟨bg,bo + i * 13 + 1,none⟩) hbg3).trans y1; have w2 := (hSw.cell (p := ⟨ag,ao + i * 13 + 2,none⟩) hag3).trans x2; have u2 := (hSw.cell (p := ⟨bg,bo + i * 13 + 2,none⟩) hbg3).trans y2; have w3 := (hSw.cell (p := ⟨ag,ao + i * 13 + 3,none⟩) hag3).trans x3; have u3 := (hSw.cell (p := ⟨bg,bo + i * 13 + 3,none⟩) hbg3).trans y3; have w4 := (hSw.cell (p := ⟨ag,ao + i * 13 + 4,none⟩) hag3).trans x4; have u4 := (hSw.cell (p := ⟨bg,bo + i * 13 + 4,none⟩) hbg3).trans y4; have w5 := (hSw.cell (p := ⟨ag,ao + i * 13 + 5,none⟩) hag3).trans x5; have u5 := (hSw.cell (p := ⟨bg,bo + i * 13 + 5,none⟩) hbg3).trans y5; have w6 := (hSw.cell (p := ⟨ag,ao + i * 13 + 6,none⟩) hag3).trans x6; have u6 := (hSw.cell (p := ⟨bg,bo + i * 13 + 6,none⟩) hbg3).trans y6; have w7 := (hSw.cell (p := ⟨ag,ao + i * 13 + 7,none⟩) hag3).trans x7; have u7 := (hSw.cell (p := ⟨bg,bo + i * 13 + 7,none⟩) hbg3).trans y7; have w8 := (hSw.cell (p := ⟨ag,ao + i * 13 + 8,none⟩) hag3).trans x8; have u8 := (hSw.cell (p := ⟨bg,bo + i * 13 + 8,none⟩) hbg3).trans y8; have w9 := (hSw.cell (p := ⟨ag,ao + i * 13 + 9,none⟩) hag3).trans x9; have u9 := (hSw.cell (p := ⟨bg,bo + i * 13 + 9,none⟩) hbg3).trans y9; have w10 := (hSw.cell (p := ⟨ag,ao + i * 13 + 10,none⟩) hag3).trans x10; have u10 := (hSw.cell (p := ⟨bg,bo + i * 13 + 10,none⟩) hbg3).trans y10; have w11 := (hSw.cell (p := ⟨ag,ao + i * 13 + 11,none⟩) hag3).trans x11; have u11 := (hSw.cell (p := ⟨bg,bo + i * 13 + 11,none⟩) hbg3).trans y11; have w12 := (hSw.cell (p := ⟨ag,ao + i * 13 + 12,none⟩) hag3).trans x12; have u12 := (hSw.cell (p := ⟨bg,bo + i * 13 + 12,none⟩) hbg3).trans y12; go_simp; try (with_reducible rfl))
     try simp only [Act.put,sl2,sl0,sl1]
     refine zt 7 (.agg #[.string by0,.string by1,.int .i64 bs2,.int .i64 bs3,.int .i64 bs4,.int .i64 bs5,.int .i64 bs6,.bool be7,.int .i64 bs8,.int .i64 bs9,.bool be10,.int .i64 bs11,.bool be12]) rfl ?_ ?_
     ·(intro W hSw; have w0 := (hSw.cell (p := ⟨ag,ao + i * 13,none⟩) hag3).trans x0; have u0 := (hSw.cell (p := ⟨bg,bo + i * 13,none⟩) hbg3).trans y0; have w1 := (hSw.cell (p := ⟨ag,ao + i * 13 + 1,none⟩) hag3).trans x1; have u1 := (hSw.cell (p := ⟨bg,bo + i * 13 + 1,none⟩) hbg3).trans y1; have w2 := (hSw.cell (p := ⟨ag,ao + i * 13 + 2,none⟩) hag3).trans x2; have u2 := (hSw.cell (p := ⟨bg,bo + i * 13 + 2,none⟩) hbg3).trans y2; have w3 := (hSw.cell (p := ⟨ag,ao + i * 13 + 3,none⟩) hag3).trans x3; have u3 := (hSw.cell (p := ⟨bg,bo + i * 13 + 3,none⟩) hbg3).trans y3; have w4 := (hSw.cell (p := ⟨ag,ao + i * 13 + 4,none⟩) hag3).trans x4; have u4 := (hSw.cell (p := ⟨bg,bo + i * 13 + 4,none⟩) hbg3).trans y4; have w5 := (hSw.cell (p := ⟨ag,ao + i * 13 + 5,none⟩) hag3).trans x5; have u5 := (hSw.cell (p := ⟨bg,bo + i * 13 + 5,none⟩) hbg3).trans y5; have w6 := (hSw.cell (p := ⟨ag,ao + i * 13 + 6,none⟩) hag3).trans x6; have u6 := (hSw.cell (p := ⟨bg,bo + i * 13 + 6,none⟩) hbg3).trans y6; have w7 := (hSw.cell (p := ⟨ag,ao + i * 13 + 7,none⟩) hag3).trans x7; have u7 := (hSw.cell (p := ⟨bg,bo + i * 13 + 7,none⟩) hbg3).trans y7; have w8 := (hSw.cell (p := ⟨ag,ao + i * 13 + 8,none⟩) hag3).trans x8; have u8 := (hSw.cell (p := ⟨bg,bo + i * 13 + 8,none⟩) hbg3).trans y8; have w9 := (hSw.cell (p := ⟨ag,ao + i * 13 + 9,none⟩) hag3).trans x9; have u9 := (hSw.cell (p := ⟨bg,bo + i * 13 + 9,none⟩) hbg3).trans y9; have w10 := (hSw.cell (p := ⟨ag,ao + i * 13 + 10,none⟩) hag3).trans x10; have u10 := (hSw.cell (p := ⟨bg,bo + i * 13 + 10,none⟩) hbg3).trans y10; have w11 := (hSw.cell (p := ⟨ag,ao + i * 13 + 11,none⟩) hag3).trans x11; have u11 := (hSw.cell (p := ⟨bg,bo + i * 13 + 11,none⟩) hbg3).trans y11; have w12 := (hSw.cell (p := ⟨ag,ao + i * 13 + 12,none⟩) hag3).trans x12; have u12 := (hSw.cell (p := ⟨bg,bo + i * 13 + 12,none⟩) hbg3).trans y12; go_simp; try (with_reducible rfl))
     try simp only [Act.put,sl2,sl0,sl1]
     refine zt 8 (.bool false) rfl ?_ ?_
     ·(intro W hSw; have w0 := (hSw.cell (p := ⟨ag,ao + i * 13,none⟩) hag3).trans x0; have u0 := (hSw.cell (p := ⟨bg,bo + i * 13,none⟩) hbg3).trans y0; have w1 := (hSw.cell (p := ⟨ag,ao + i * 13 + 1,none⟩) hag3).trans x1; have u1 := (hSw.cell (p := ⟨bg,bo + i * 13 + 1,none⟩) hbg3).trans y1; have w2 := (hSw.cell (p := ⟨ag,ao + i * 13 + 2,none⟩) hag3).trans x2; have u2 := (hSw.cell (p := ⟨bg,bo + i * 13 + 2,none⟩) hbg3).trans y2; have w3 := (hSw.cell (p := ⟨ag,ao + i * 13 + 3,none⟩) hag3).trans x3; have u3 := (hSw.cell (p := ⟨bg,bo + i * 13 + 3,none⟩) hbg3).trans y3; have w4 := (hSw.cell (p := ⟨ag,ao + i * 13 + 4,none⟩) hag3).trans x4; have u4 := (hSw.cell (p := ⟨bg,bo + i * 13 + 4,none⟩) hbg3).trans y4; have w5 := (hSw.cell (p := ⟨ag,ao + i * 13 + 5,none⟩) hag3).trans x5; have u5 := (hSw.cell (p := ⟨bg,bo + i * 13 + 5,none⟩) hbg3).trans y5; have w6 := (hSw.cell (p := ⟨ag,ao + i * 13 + 6,none⟩) hag3).trans x6; have u6 := (hSw.cell (p := ⟨bg,bo + i * 13 + 6,none⟩) hbg3).trans y6; have w7 := (hSw.cell (p := ⟨ag,ao + i * 13 + 7,none⟩) hag3).trans x7; have u7 := (hSw.cell (p := ⟨bg,bo + i * 13 + 7,none⟩) hbg3).trans y7; have w8 := (hSw.cell (p := ⟨ag,ao + i * 13 + 8,none⟩) hag3).trans x8; have u8 := (hSw.cell (p := ⟨bg,bo + i * 13 + 8,none⟩) hbg3).trans y8; have w9 := (hSw.cell (p := ⟨ag,ao + i * 13 + 9,none⟩) hag3).trans x9; have u9 := (hSw.cell (p := ⟨bg,bo + i * 13 + 9,none⟩) hbg3).trans y9; have w10 := (hSw.cell (p := ⟨ag,ao + i * 13 + 10,none⟩) hag3).trans x10; have u10 := (hSw.cell (p := ⟨bg,bo + i * 13 + 10,none⟩) hbg3).trans y10; have w11 := (hSw.cell (p := ⟨ag,ao + i * 13 + 11,none⟩) hag3).trans x11; have u11 := (hSw.cell (p := ⟨bg,bo + i * 13 + 11,none⟩) hbg3).trans y11; have w12 := (hSw.cell (p := ⟨ag,ao + i * 13 + 12,none⟩) hag3).trans x12; have u12 := (hSw.cell (p := ⟨bg,bo + i * 13 + 12,none⟩) hbg3).trans y12; go_simp; try (with_reducible rfl))
     try simp only [Act.put,sl2,sl0,sl1]
     refine wpAnyH_done (by kernel_rfl) ?_ _
     go_wp2_with fail
     go_roundw
     case rel =>
      refine ⟨i + 1,hlt,by go_num,fun j hj => ?_,hS⟩
      by_cases hji : j = i
      ·rw [hji]; exact HQ.out
      ·exact HI.out j (by omega)
     case measure => simp [intOf]; omega
   ·obtain rfl : i = an := by omega
    have HE : Hid (r = true) := by
     rw [HR.out]
     exact eqL_refl HI.out
    go_wp2
    go_ret
    exact ⟨by rw [HE.out]; rfl,HB.out⟩
 ·have hd : ((an : Int) != (bn : Int)) = true := by simp; omega
  have HE : Hid (r = false) := by
   rw [HR.out]
   exact Bool.eq_false_iff.2 fun h => hl ((eqL_iff _ _ _).1 h).1
  clear hl
  go_enter Tryz.func80,Tryz.ntmps80
  go_wp2
  go_ret
  exact ⟨by rw [HE.out]; rfl,Below.refl _ _⟩
end Go.Proofs.YtjgeedgphcjhoaaGreat
