/-
  RSsg, SIns: merged, what the law does not reach left out (each text says what it holds where it lies in wip). No condition.
-/
import Derived.Test.YtjgeedgphcjhoaaGreatU33
import Derived.Test.YtjgeedgphcjhoaaGreatU12
import Derived.Deep.RegionHeld3
import Derived.Deep.DeepCutAuto
import Derived.BigGuard
import Derived.Test.YtjgeedgphcjhoaaGreatU18
import Derived.Test.YtjgeedgphcjhoaaGreatU03
import Derived.Test.YtjgeedgphcjhoaaGreatU06
import Derived.Test.YtjgeedgphcjhoaaGreatU01
set_option linter.unusedSimpArgs false
set_option linter.unusedVariables false
set_option maxRecDepth 100000
namespace Go.Proofs.YtjgeedgphcjhoaaGreat
open Go.RowKit
theorem all_less (P : Nat → Bool) {k n : Nat} (hk : k ≤ n) (h : (List.range k).all P = false) : (List.range n).all P = false := by
 refine Bool.eq_false_iff.2 fun h2 => ?_
 rw [List.all_eq_true] at h2
 rw [List.all_eq_false] at h
 obtain ⟨x,hx,hp⟩ := h
 exact hp (h2 x (List.mem_range.2 (by have := List.mem_range.1 hx; omega)))
theorem bl_b (a b : ByteArray) : (a == b) = (a.toList == b.toList) := by
 rw [Bool.eq_iff_iff,beq_iff_eq,beq_iff_eq]
 exact bl_eq a b
set_option maxHeartbeats 64000000 in
theorem RSsg_says (atp aimp afp atbp amp agp axp aep adp : Option Addr) (atn atc aimn aimc afn afc atbn atbc amn amc agn agc axn axc aec adc : Nat) (ast : Int) (acnt : Bool) (btp bimp bfp btbp bmp bgp bxp bep bdp : Option Addr) (btn btc bimn bimc bfn bfc btbn btbc bmn bmc bgn bgc bxn bxc bec bdc : Nat) (bst : Int) (bcnt : Bool) (en dn : Nat) (aeb aeo adb ado : Nat) (aer aem aet : Nat → Int) (aop : Nat → Option Addr) (aon aoc : Nat → Nat) (aip : Nat → Option Addr) (aiN aic akb ako : Nat → Nat) (abp : Nat → Nat → Option Addr) (abn abc : Nat → Nat → Nat) (adm adt : Nat → Int) (aDp : Nat → Option Addr) (aDn aDc : Nat → Nat) (ayp : Nat → Option Addr) (ayn ayc : Nat → Nat) (asz : Nat → ByteArray) (beb beo bdb bdo : Nat) (ber bem bet : Nat → Int) (bop : Nat → Option Addr) (bon boc : Nat → Nat) (bip : Nat → Option Addr) (biN bic bkb bko : Nat → Nat) (bbp : Nat → Nat → Option Addr) (bbn bbc : Nat → Nat → Nat) (bdm bdt : Nat → Int) (bDp : Nat → Option Addr) (bDn bDc : Nat → Nat) (byp : Nat → Option Addr) (byn byc : Nat → Nat) (bsz : Nat → ByteArray) (qo : Nat → Bool) (qb : Nat → Nat → Bool) (qd : Nat → Bool) (w : World) (henl : en < 9223372036854775807) (hdnl : dn < 9223372036854775807)
  (hae : en ≠ 0 → aep = some ⟨aeb,aeo,none⟩ ∧ aeb < w.heap.size) (had : dn ≠ 0 → adp = some ⟨adb,ado,none⟩ ∧ adb < w.heap.size)
  (hax : ∀ i,i < en → w.cell? ⟨aeb,aeo + i * 5,none⟩ = some (.int .i64 (aer i)) ∧ w.cell? ⟨aeb,aeo + i * 5 + 1,none⟩ = some (.int .i64 (aem i)) ∧ w.cell? ⟨aeb,aeo + i * 5 + 2,none⟩ = some (.int .i64 (aet i)) ∧ w.cell? ⟨aeb,aeo + i * 5 + 3,none⟩ = some (.slice (aop i) (aon i) (aoc i)) ∧ w.cell? ⟨aeb,aeo + i * 5 + 4,none⟩ = some (.slice (aip i) (aiN i) (aic i)))
  (hag : ∀ i,i < en → aiN i ≠ 0 → aip i = some ⟨akb i,ako i,none⟩ ∧ akb i < w.heap.size) (hal : ∀ i,i < en → aiN i < 9223372036854775807)
  (hak : ∀ i,i < en → ∀ k,k < aiN i → w.cell? ⟨akb i,ako i + k,none⟩ = some (.slice (abp i k) (abn i k) (abc i k)))
  (hay : ∀ i,i < dn → w.cell? ⟨adb,ado + i * 4,none⟩ = some (.int .i64 (adm i)) ∧ w.cell? ⟨adb,ado + i * 4 + 1,none⟩ = some (.int .i64 (adt i)) ∧ w.cell? ⟨adb,ado + i * 4 + 2,none⟩ = some (.slice (aDp i) (aDn i) (aDc i)) ∧ w.cell? ⟨adb,ado + i * 4 + 3,none⟩ = some (.slice (ayp i) (ayn i) (ayc i)))
  (hac : ∀ i,i < dn → ∀ W,Below w.heap.size w W → (convert 52 9 (.slice (ayp i) (ayn i) (ayc i))).run Tryz.prog W = .ok (.string (asz i)) W)
  (hbe : en ≠ 0 → bep = some ⟨beb,beo,none⟩ ∧ beb < w.heap.size) (hbd : dn ≠ 0 → bdp = some ⟨bdb,bdo,none⟩ ∧ bdb < w.heap.size)
  (hbx : ∀ i,i < en → w.cell? ⟨beb,beo + i * 5,none⟩ = some (.int .i64 (ber i)) ∧ w.cell? ⟨beb,beo + i * 5 + 1,none⟩ = some (.int .i64 (bem i)) ∧ w.cell? ⟨beb,beo + i * 5 + 2,none⟩ = some (.int .i64 (bet i)) ∧ w.cell? ⟨beb,beo + i * 5 + 3,none⟩ = some (.slice (bop i) (bon i) (boc i)) ∧ w.cell? ⟨beb,beo + i * 5 + 4,none⟩ = some (.slice (bip i) (biN i) (bic i)))
  (hbg : ∀ i,i < en → biN i ≠ 0 → bip i = some ⟨bkb i,bko i,none⟩ ∧ bkb i < w.heap.size) (hbl : ∀ i,i < en → biN i < 9223372036854775807)
  (hbk : ∀ i,i < en → ∀ k,k < biN i → w.cell? ⟨bkb i,bko i + k,none⟩ = some (.slice (bbp i k) (bbn i k) (bbc i k)))
  (hby : ∀ i,i < dn → w.cell? ⟨bdb,bdo + i * 4,none⟩ = some (.int .i64 (bdm i)) ∧ w.cell? ⟨bdb,bdo + i * 4 + 1,none⟩ = some (.int .i64 (bdt i)) ∧ w.cell? ⟨bdb,bdo + i * 4 + 2,none⟩ = some (.slice (bDp i) (bDn i) (bDc i)) ∧ w.cell? ⟨bdb,bdo + i * 4 + 3,none⟩ = some (.slice (byp i) (byn i) (byc i)))
  (hbc : ∀ i,i < dn → ∀ W,Below w.heap.size w W → (convert 52 9 (.slice (byp i) (byn i) (byc i))).run Tryz.prog W = .ok (.string (bsz i)) W)
  (hqo : ∀ i,i < en → ∀ W,Below w.heap.size w W → Calls Tryz.prog 93 #[.slice (aop i) (aon i) (aoc i),.slice (bop i) (bon i) (boc i)] W fun e w' => e = .returned (.bool (qo i)) ∧ Below W.heap.size W w')
  (hqb : ∀ i,i < en → ∀ k,k < aiN i → k < biN i → ∀ W,Below w.heap.size w W → Calls Tryz.prog 93 #[.slice (abp i k) (abn i k) (abc i k),.slice (bbp i k) (bbn i k) (bbc i k)] W fun e w' => e = .returned (.bool (qb i k)) ∧ Below W.heap.size W w')
  (hqd : ∀ i,i < dn → ∀ W,Below w.heap.size w W → Calls Tryz.prog 93 #[.slice (aDp i) (aDn i) (aDc i),.slice (bDp i) (bDn i) (bDc i)] W fun e w' => e = .returned (.bool (qd i)) ∧ Below W.heap.size W w') :
  Calls Tryz.prog 94 #[.agg #[.slice atp atn atc,.slice aimp aimn aimc,.slice afp afn afc,.slice atbp atbn atbc,.slice amp amn amc,.slice agp agn agc,.slice axp axn axc,.int .i64 ast,.slice aep en aec,.slice adp dn adc,.bool acnt],.agg #[.slice btp btn btc,.slice bimp bimn bimc,.slice bfp bfn bfc,.slice btbp btbn btbc,.slice bmp bmn bmc,.slice bgp bgn bgc,.slice bxp bxn bxc,.int .i64 bst,.slice bep en bec,.slice bdp dn bdc,.bool bcnt]] w fun e w' => e = .returned (.bool ((List.range en).all (fun i => qo i && (aer i == ber i) && (aem i == bem i) && (aet i == bet i) && ((aiN i : Int) == (biN i : Int)) && (List.range (aiN i)).all (qb i)) && (List.range dn).all (fun i => qd i && (adm i == bdm i) && (adt i == bdt i) && (asz i == bsz i)))) ∧ Below w.heap.size w w' := by
 have Hae := hid hae
 have Had := hid had
 have Hax := hid hax
 have Hag := hid hag
 have Hal := hid hal
 have Hak := hid hak
 have Hay := hid hay
 have Hac := hid hac
 have Hbe := hid hbe
 have Hbd := hid hbd
 have Hbx := hid hbx
 have Hbg := hid hbg
 have Hbl := hid hbl
 have Hbk := hid hbk
 have Hby := hid hby
 have Hbc := hid hbc
 have Hqo := hid hqo
 have Hqb := hid hqb
 have Hqd := hid hqd
 have ne62 : (en : Int) < 9223372036854775807 := by omega
 have nd62 : (dn : Int) < 9223372036854775807 := by omega
 obtain ⟨Qe,hQe⟩ : ∃ Q : Nat → Bool,Q = (fun i => qo i && (aer i == ber i) && (aem i == bem i) && (aet i == bet i) && ((aiN i : Int) == (biN i : Int)) && (List.range (aiN i)).all (qb i)) := ⟨_,rfl⟩
 rw [← hQe]
 have HQe := hid hQe
 obtain ⟨Qd,hQd⟩ : ∃ Q : Nat → Bool,Q = (fun i => qd i && (adm i == bdm i) && (adt i == bdt i) && (asz i == bsz i)) := ⟨_,rfl⟩
 rw [← hQd]
 have HQd := hid hQd
 obtain ⟨R,hR⟩ : ∃ R,R = ((List.range en).all Qe && (List.range dn).all Qd) := ⟨_,rfl⟩
 rw [← hR]
 have HR := hid hR
 have HX0 := hid ((CA.new w #[.slice atp atn atc,.slice aimp aimn aimc,.slice afp afn afc,.slice atbp atbn atbc,.slice amp amn amc,.slice agp agn agc,.slice axp axn axc,.int .i64 ast,.slice aep en aec,.slice adp dn adc,.bool acnt] 32).alloc (.cells #[.slice btp btn btc,.slice bimp bimn bimc,.slice bfp bfn bfc,.slice btbp btbn btbc,.slice bmp bmn bmc,.slice bgp bgn bgc,.slice bxp bxn bxc,.int .i64 bst,.slice bep en bec,.slice bdp dn bdc,.bool bcnt] 32))
 have HY0 := hid (CA.new (w.alloc (.cells #[.slice atp atn atc,.slice aimp aimn aimc,.slice afp afn afc,.slice atbp atbn atbc,.slice amp amn amc,.slice agp agn agc,.slice axp axn axc,.int .i64 ast,.slice aep en aec,.slice adp dn adc,.bool acnt] 32)) #[.slice btp btn btc,.slice bimp bimn bimc,.slice bfp bfn bfc,.slice btbp btbn btbc,.slice bmp bmn bmc,.slice bgp bgn bgc,.slice bxp bxn bxc,.int .i64 bst,.slice bep en bec,.slice bdp dn bdc,.bool bcnt] 32)
 rw [size_al] at HY0
 have HB0 := hid (((Below.refl w.heap.size w).alloc (Nat.le_refl _) (.cells #[.slice atp atn atc,.slice aimp aimn aimc,.slice afp afn afc,.slice atbp atbn atbc,.slice amp amn amc,.slice agp agn agc,.slice axp axn axc,.int .i64 ast,.slice aep en aec,.slice adp dn adc,.bool acnt] 32)).alloc (by rw [size_al]; omega) (.cells #[.slice btp btn btc,.slice bimp bimn bimc,.slice bfp bfn bfc,.slice btbp btbn btbc,.slice bmp bmn bmc,.slice bgp bgn bgc,.slice bxp bxn bxc,.int .i64 bst,.slice bep en bec,.slice bdp dn bdc,.bool bcnt] 32))
 clear hae had hax hag hal hak hay hac hbe hbd hbx hbg hbl hbk hby hbc hqo hqb hqd hQe hQd hR henl hdnl
 go_enter Tryz.func94,Tryz.ntmps94
 go_upto_region 1 with fail
 generalize ((w.alloc (.cells #[.slice atp atn atc,.slice aimp aimn aimc,.slice afp afn afc,.slice atbp atbn atbc,.slice amp amn amc,.slice agp agn agc,.slice axp axn axc,.int .i64 ast,.slice aep en aec,.slice adp dn adc,.bool acnt] 32)).alloc (.cells #[.slice btp btn btc,.slice bimp bimn bimc,.slice bfp bfn bfc,.slice btbp btbn btbc,.slice bmp bmn bmc,.slice bgp bgn bgc,.slice bxp bxn bxc,.int .i64 bst,.slice bep en bec,.slice bdp dn bdc,.bool bcnt] 32)) = W0 at *
 have y8 := HX0.out.at (k := 8) (v := .slice aep en aec) rfl
 go_wp2
 go_loopw [5,6] (fun vo vi wr => ∃ (i : Nat) (ok : Bool),i ≤ en ∧ vi = .int .i64 i ∧ vo = .bool ok ∧ Hid (ok = (List.range i).all Qe) ∧ Hid (Below w.heap.size w wr) ∧ Hid (CA w.heap.size #[.slice atp atn atc,.slice aimp aimn aimc,.slice afp afn afc,.slice atbp atbn atbc,.slice amp amn amc,.slice agp agn agc,.slice axp axn axc,.int .i64 ast,.slice aep en aec,.slice adp dn adc,.bool acnt] 32 wr) ∧ Hid (CA (w.heap.size + 1) #[.slice btp btn btc,.slice bimp bimn bimc,.slice bfp bfn bfc,.slice btbp btbn btbc,.slice bmp bmn bmc,.slice bgp bgn bgc,.slice bxp bxn bxc,.int .i64 bst,.slice bep en bec,.slice bdp dn bdc,.bool bcnt] 32 wr)) (fun _ vi _ => en - (intOf vi).toNat)
 case atStart => exact ⟨0,true,Nat.zero_le _,rfl,rfl,by simp [Hid],HB0,HX0,HY0⟩
 clear y8
 obtain ⟨i,ok,hi,rfl,rfl,HK,HB,HX,HY⟩ := hrel
 have y8 := HX.out.at (k := 8) (v := .slice aep en aec) rfl
 have u8 := HY.out.at (k := 8) (v := .slice bep en bec) rfl
 by_cases hlt : i < en
 ·as_aux_lemma =>
   obtain ⟨z0,z1,z2,z3,z4⟩ := Hax.out i hlt
   obtain ⟨v0,v1,v2,v3,v4⟩ := Hbx.out i hlt
   obtain ⟨hpa,hga⟩ := Hae.out (by omega)
   obtain ⟨hpb,hgb⟩ := Hbe.out (by omega)
   subst hpa hpb
   have x0 := (HB.out.cell (p := ⟨aeb,aeo + i * 5,none⟩) hga).trans z0
   have c0 := (HB.out.cell (p := ⟨beb,beo + i * 5,none⟩) hgb).trans v0
   have x1 := (HB.out.cell (p := ⟨aeb,aeo + i * 5 + 1,none⟩) hga).trans z1
   have c1 := (HB.out.cell (p := ⟨beb,beo + i * 5 + 1,none⟩) hgb).trans v1
   have x2 := (HB.out.cell (p := ⟨aeb,aeo + i * 5 + 2,none⟩) hga).trans z2
   have c2 := (HB.out.cell (p := ⟨beb,beo + i * 5 + 2,none⟩) hgb).trans v2
   have x3 := (HB.out.cell (p := ⟨aeb,aeo + i * 5 + 3,none⟩) hga).trans z3
   have c3 := (HB.out.cell (p := ⟨beb,beo + i * 5 + 3,none⟩) hgb).trans v3
   have x4 := (HB.out.cell (p := ⟨aeb,aeo + i * 5 + 4,none⟩) hga).trans z4
   have c4 := (HB.out.cell (p := ⟨beb,beo + i * 5 + 4,none⟩) hgb).trans v4
   have hga2 := Nat.lt_of_lt_of_le hga HB.out.size
   have hgb2 := Nat.lt_of_lt_of_le hgb HB.out.size
   have KO := fun W h => hid (Hqo.out i hlt W h)
   have KBB := hid (Hqb.out i hlt)
   have KXa := hid (Hak.out i hlt)
   have KXb := hid (Hbk.out i hlt)
   have KGa := hid (Hag.out i hlt)
   have KGb := hid (Hbg.out i hlt)
   have KLa := Hal.out i hlt
   have KLb := Hbl.out i hlt
   have HSN := hid (show (List.range (i + 1)).all Qe = ((List.range i).all Qe && (qo i && (aer i == ber i) && (aem i == bem i) && (aet i == bet i) && ((aiN i : Int) == (biN i : Int)) && (List.range (aiN i)).all (qb i))) by rw [range_all_snoc]; rw [HQe.out])
   clear z0 v0 z1 v1 z2 v2 z3 v3 z4 v4 hga hgb
   generalize qo i = bO at *
   generalize qb i = b2 at *
   generalize aer i = ar at *
   generalize aem i = am at *
   generalize aet i = af at *
   generalize aop i = aq at *
   generalize aon i = az at *
   generalize aoc i = aw at *
   generalize aip i = aQ at *
   generalize aiN i = aZ at *
   generalize aic i = aW at *
   generalize akb i = aK at *
   generalize ako i = aO at *
   generalize abp i = aP at *
   generalize abn i = aN at *
   generalize abc i = aC at *
   generalize ber i = br at *
   generalize bem i = bm at *
   generalize bet i = bf at *
   generalize bop i = bq at *
   generalize bon i = bz at *
   generalize boc i = bw at *
   generalize bip i = bQ at *
   generalize biN i = bZ at *
   generalize bic i = bW at *
   generalize bkb i = bK at *
   generalize bko i = bO_ at *
   generalize bbp i = bP at *
   generalize bbn i = bN at *
   generalize bbc i = bC_ at *
   have nZ : (aZ : Int) < 9223372036854775807 := by omega
   obtain ⟨e0,d0⟩ : ∃ b,(ar == br) = b := ⟨_,rfl⟩
   obtain ⟨e1,d1⟩ : ∃ b,(am == bm) = b := ⟨_,rfl⟩
   obtain ⟨e2,d2⟩ : ∃ b,(af == bf) = b := ⟨_,rfl⟩
   obtain ⟨e3,d3⟩ : ∃ b,((aZ : Int) == (bZ : Int)) = b := ⟨_,rfl⟩
   rw [d0,d1,d2,d3] at HSN
   have HZZ := hid (fun (h : e3 = true) => show bZ = aZ by rw [h] at d3; have := eq_of_beq d3; omega)
   obtain ⟨S,hS⟩ : ∃ S,S = (ok && bO && e0 && e1 && e2 && e3) := ⟨_,rfl⟩
   have HS := hid hS
   have HSZ := hid (fun (h : S = true) => show bZ = aZ from HZZ.out (by rw [hS] at h; simp only [Bool.and_eq_true] at h; exact h.2))
   have HSN2 := hid (show (List.range (i + 1)).all Qe = (S && (List.range aZ).all b2) by rw [HSN.out,← HK.out,hS]; simp only [Bool.and_assoc])
   have hA1 := (Below.refl wr.heap.size wr).alloc (Nat.le_refl _) (.cells #[.int .i64 ar,.int .i64 am,.int .i64 af,.slice aq az aw,.slice aQ aZ aW] 62)
   have HBE := hid ((HB.out.alloc HB.out.size (.cells #[.int .i64 ar,.int .i64 am,.int .i64 af,.slice aq az aw,.slice aQ aZ aW] 62)).alloc (Nat.le_trans HB.out.size (by rw [size_al]; omega)) (.cells #[.int .i64 br,.int .i64 bm,.int .i64 bf,.slice bq bz bw,.slice bQ bZ bW] 62))
   have HXE := hid ((HX.out.alloc (.cells #[.int .i64 ar,.int .i64 am,.int .i64 af,.slice aq az aw,.slice aQ aZ aW] 62)).alloc (.cells #[.int .i64 br,.int .i64 bm,.int .i64 bf,.slice bq bz bw,.slice bQ bZ bW] 62))
   have HYE := hid ((HY.out.alloc (.cells #[.int .i64 ar,.int .i64 am,.int .i64 af,.slice aq az aw,.slice aQ aZ aW] 62)).alloc (.cells #[.int .i64 br,.int .i64 bm,.int .i64 bf,.slice bq bz bw,.slice bQ bZ bW] 62))
   have HEA := hid ((CA.new wr #[.int .i64 ar,.int .i64 am,.int .i64 af,.slice aq az aw,.slice aQ aZ aW] 62).alloc (.cells #[.int .i64 br,.int .i64 bm,.int .i64 bf,.slice bq bz bw,.slice bQ bZ bW] 62))
   have HEB := hid (CA.new (wr.alloc (.cells #[.int .i64 ar,.int .i64 am,.int .i64 af,.slice aq az aw,.slice aQ aZ aW] 62)) #[.int .i64 br,.int .i64 bm,.int .i64 bf,.slice bq bz bw,.slice bQ bZ bW] 62)
   rw [size_al] at HEB
   have hq1 : wr.heap.size ≠ aeb := by omega
   have hq2 : wr.heap.size ≠ beb := by omega
   have w0_ := (hA1.cell (p := ⟨beb,beo + i * 5,none⟩) hgb2).trans c0
   have w1_ := (hA1.cell (p := ⟨beb,beo + i * 5 + 1,none⟩) hgb2).trans c1
   have w2_ := (hA1.cell (p := ⟨beb,beo + i * 5 + 2,none⟩) hgb2).trans c2
   have w3_ := (hA1.cell (p := ⟨beb,beo + i * 5 + 3,none⟩) hgb2).trans c3
   have w4_ := (hA1.cell (p := ⟨beb,beo + i * 5 + 4,none⟩) hgb2).trans c4
   have u8_ := (HY.out.alloc (.cells #[.int .i64 ar,.int .i64 am,.int .i64 af,.slice aq az aw,.slice aQ aZ aW] 62)).at (k := 8) (v := .slice (some ⟨beb,beo,none⟩) en bec) rfl
   clear HSN hS HZZ hA1 hga2 hgb2
   go_upto_region 8 with (go_at_call 93; (with_reducible refine (KO _ HBE.out).out.mono ?_); rintro e w2 ⟨rfl,hb⟩; have HB2 := hid (HBE.out.trans (hb.mono HBE.out.size)); have HX2 := hid (HXE.out.below hb HXE.out.lt); have HY2 := hid (HYE.out.below hb HYE.out.lt); have HA2 := hid (HEA.out.below hb HEA.out.lt); have HE2 := hid (HEB.out.below hb HEB.out.lt); clear hb)
   clear y8 u8 u8_ x0 c0 w0_ x1 c1 w1_ x2 c2 w2_ x3 c3 w3_ x4 c4 w4_ HX HY HEA HEB HXE HYE
   go_cut [5] (fun s wx => s = .bool S ∧ w2 = wx)
   case first => as_aux_lemma =>
    have X0 := HA2.out.at (k := 0) (v := .int .i64 ar) rfl
    have Y0 := HE2.out.at (k := 0) (v := .int .i64 br) rfl
    have X1 := HA2.out.at (k := 1) (v := .int .i64 am) rfl
    have Y1 := HE2.out.at (k := 1) (v := .int .i64 bm) rfl
    have X2 := HA2.out.at (k := 2) (v := .int .i64 af) rfl
    have Y2 := HE2.out.at (k := 2) (v := .int .i64 bf) rfl
    have X4 := HA2.out.at (k := 4) (v := .slice aQ aZ aW) rfl
    have Y4 := HE2.out.at (k := 4) (v := .slice bQ bZ bW) rfl
    have hS := HS.out
    rcases (show (ok = false) ∨ (ok = true ∧ bO = false) ∨ (ok = true ∧ bO = true ∧ e0 = false) ∨ (ok = true ∧ bO = true ∧ e0 = true ∧ e1 = false) ∨ (ok = true ∧ bO = true ∧ e0 = true ∧ e1 = true ∧ e2 = false) ∨ (ok = true ∧ bO = true ∧ e0 = true ∧ e1 = true ∧ e2 = true ∧ e3 = false) ∨ (ok = true ∧ bO = true ∧ e0 = true ∧ e1 = true ∧ e2 = true ∧ e3 = true) by cases ok <;> cases bO <;> cases e0 <;> cases e1 <;> cases e2 <;> cases e3 <;> simp) with rfl | ⟨rfl,rfl⟩ | ⟨rfl,rfl,rfl⟩ | ⟨rfl,rfl,rfl,rfl⟩ | ⟨rfl,rfl,rfl,rfl,rfl⟩ | ⟨rfl,rfl,rfl,rfl,rfl,rfl⟩ | ⟨rfl,rfl,rfl,rfl,rfl,rfl⟩
    all_goals
     have HSS := hid hS
     clear hS HS HSN2 HSZ
     go_wp2
     go_meet
     exact ⟨by rw [HSS.out]; rfl,rfl⟩
   obtain ⟨rfl,rfl⟩ := hcut
   generalize wr.heap.size = gE at *
   have X4 := HA2.out.at (k := 4) (v := .slice aQ aZ aW) rfl
   clear d0 d1 d2 d3
   go_wp2
   go_loopw [5,10] (fun vo vi wj => ∃ (k : Nat) (ok : Bool),k ≤ aZ ∧ vi = .int .i64 k ∧ vo = .bool ok ∧ Hid (ok = (S && (List.range k).all b2)) ∧ Hid (Below w.heap.size w wj) ∧ Hid (CA w.heap.size #[.slice atp atn atc,.slice aimp aimn aimc,.slice afp afn afc,.slice atbp atbn atbc,.slice amp amn amc,.slice agp agn agc,.slice axp axn axc,.int .i64 ast,.slice (some ⟨aeb,aeo,none⟩) en aec,.slice adp dn adc,.bool acnt] 32 wj) ∧ Hid (CA (w.heap.size + 1) #[.slice btp btn btc,.slice bimp bimn bimc,.slice bfp bfn bfc,.slice btbp btbn btbc,.slice bmp bmn bmc,.slice bgp bgn bgc,.slice bxp bxn bxc,.int .i64 bst,.slice (some ⟨beb,beo,none⟩) en bec,.slice bdp dn bdc,.bool bcnt] 32 wj) ∧ Hid (CA gE #[.int .i64 ar,.int .i64 am,.int .i64 af,.slice aq az aw,.slice aQ aZ aW] 62 wj) ∧ Hid (CA (gE + 1) #[.int .i64 br,.int .i64 bm,.int .i64 bf,.slice bq bz bw,.slice bQ bZ bW] 62 wj)) (fun _ vi _ => aZ - (intOf vi).toNat)
   case atStart => exact ⟨0,S,Nat.zero_le _,rfl,rfl,hid (by simp),HB2,HX2,HY2,HA2,HE2⟩
   clear X4
   obtain ⟨k,okk,hk,rfl,rfl,HKK,HBK,HXK,HYK,HAK,HEK⟩ := hrel
   have X4 := HAK.out.at (k := 4) (v := .slice aQ aZ aW) rfl
   by_cases hkt : k < aZ
   ·cases okk with
    | false =>
     have HF := hid (show (List.range (i + 1)).all Qe = false by
      rw [HSN2.out]
      have := HKK.out
      cases S
      ·rfl
      rw [Bool.true_and] at this ⊢
      exact all_less b2 hk this.symm)
     go_wp2
     go_roundw
     case rel => exact ⟨i + 1,_,hlt,by go_num,rfl,hid (by rw [HF.out]),HBK,HXK,HYK⟩
     case measure => simp [intOf]; omega
    | true =>
     have hST : S = true := by
      have h := HKK.out
      cases S with
      | false => simp at h
      | true => rfl
     have hZ := HSZ.out hST
     subst hZ
     have zka := KXa.out k hkt
     have zkb := KXb.out k hkt
     obtain ⟨hpi,hgi⟩ := KGa.out (by omega)
     obtain ⟨hpj,hgj⟩ := KGb.out (by omega)
     subst hpi hpj
     have gi2 := Nat.lt_of_lt_of_le hgi HBK.out.size
     have gj2 := Nat.lt_of_lt_of_le hgj HBK.out.size
     have x9 := (HBK.out.cell (p := ⟨aK,aO + k,none⟩) hgi).trans zka
     have y9 := (HBK.out.cell (p := ⟨bK,bO_ + k,none⟩) hgj).trans zkb
     have KC := fun W h => hid (KBB.out k hkt hkt W h)
     have HSK := hid (show (List.range (k + 1)).all b2 = ((List.range k).all b2 && b2 k) from range_all_snoc b2 k)
     generalize b2 k = bC at *
     generalize aP k = p9 at *
     generalize aN k = m9 at *
     generalize aC k = d9 at *
     generalize bP k = p8 at *
     generalize bN k = m8 at *
     generalize bC_ k = d8 at *
     have FX := fun W (h : Below wr.heap.size wr W) => hid (And.intro ((HAK.out.below h HAK.out.lt).at (k := 4) (v := .slice (some ⟨aK,aO,none⟩) bZ aW) rfl) (And.intro ((HEK.out.below h HEK.out.lt).at (k := 4) (v := .slice (some ⟨bK,bO_,none⟩) bZ bW) rfl) (And.intro ((h.cell (p := ⟨aK,aO + k,none⟩) gi2).trans x9) ((h.cell (p := ⟨bK,bO_ + k,none⟩) gj2).trans y9))))
     clear zka zkb hgi hgj x9 y9 gi2 gj2
     go_upto_region 12 with fail
     clear X4
     have hS : Below wr.heap.size wr wr.drew := (Below.refl _ _).drew
     refine wp_region_held_drew (S := fun W => Below wr.heap.size wr W) (by kernel_rfl) hS (fun _ => ?_)
     generalize wr.drew = W at *
     refine zt 0 (.pointer (some ⟨gE,4,none⟩)) rfl ?_ ?_
     ·(intro W hSw; obtain ⟨Xa,Ya,xa,ya⟩ := (FX W hSw).out; go_simp; try (exact wrap_b8 _); try (with_reducible rfl))
     try simp only [Act.put,sl2,sl0,sl1]
     refine zt 1 (.slice (some ⟨aK,aO,none⟩) bZ aW) rfl ?_ ?_
     ·(intro W hSw; obtain ⟨Xa,Ya,xa,ya⟩ := (FX W hSw).out; go_simp; try (exact wrap_b8 _); try (with_reducible rfl))
     try simp only [Act.put,sl2,sl0,sl1]
     refine zt 2 (.int .i64 k) rfl ?_ ?_
     ·(intro W hSw; obtain ⟨Xa,Ya,xa,ya⟩ := (FX W hSw).out; go_simp; try (exact wrap_b8 _); try (with_reducible rfl))
     try simp only [Act.put,sl2,sl0,sl1]
     refine zt 3 (.pointer (some ⟨aK,aO + k,none⟩)) rfl ?_ ?_
     ·(intro W hSw; obtain ⟨Xa,Ya,xa,ya⟩ := (FX W hSw).out; go_simp; try (exact wrap_b8 _); try (with_reducible rfl))
     try simp only [Act.put,sl2,sl0,sl1]
     refine zt 4 (.slice p9 m9 d9) rfl ?_ ?_
     ·(intro W hSw; obtain ⟨Xa,Ya,xa,ya⟩ := (FX W hSw).out; go_simp; try (exact wrap_b8 _); try (with_reducible rfl))
     try simp only [Act.put,sl2,sl0,sl1]
     refine zt 5 (.pointer (some ⟨gE + 1,4,none⟩)) rfl ?_ ?_
     ·(intro W hSw; obtain ⟨Xa,Ya,xa,ya⟩ := (FX W hSw).out; go_simp; try (exact wrap_b8 _); try (with_reducible rfl))
     try simp only [Act.put,sl2,sl0,sl1]
     refine zt 6 (.slice (some ⟨bK,bO_,none⟩) bZ bW) rfl ?_ ?_
     ·(intro W hSw; obtain ⟨Xa,Ya,xa,ya⟩ := (FX W hSw).out; go_simp; try (exact wrap_b8 _); try (with_reducible rfl))
     try simp only [Act.put,sl2,sl0,sl1]
     refine zt 7 (.int .i64 k) rfl ?_ ?_
     ·(intro W hSw; obtain ⟨Xa,Ya,xa,ya⟩ := (FX W hSw).out; go_simp; try (exact wrap_b8 _); try (with_reducible rfl))
     try simp only [Act.put,sl2,sl0,sl1]
     refine zt 8 (.pointer (some ⟨bK,bO_ + k,none⟩)) rfl ?_ ?_
     ·(intro W hSw; obtain ⟨Xa,Ya,xa,ya⟩ := (FX W hSw).out; go_simp; try (exact wrap_b8 _); try (with_reducible rfl))
     try simp only [Act.put,sl2,sl0,sl1]
     refine zt 9 (.slice p8 m8 d8) rfl ?_ ?_
     ·(intro W hSw; obtain ⟨Xa,Ya,xa,ya⟩ := (FX W hSw).out; go_simp; try (exact wrap_b8 _); try (with_reducible rfl))
     try simp only [Act.put,sl2,sl0,sl1]
     refine zr 10 rfl (fun K hK => ?_)
     go_simp
     go_at_call 93
     (with_reducible refine (KC _ (HBK.out.trans (hS.mono HBK.out.size))).out.mono ?_)
     rintro e W1 ⟨rfl,hb⟩
     replace hS := hS.trans (hb.mono hS.size)
     clear hb
     refine hK.out _ _ hS (fun _ => ?_)
     clear hK K
     try simp only [Act.put,sl2,sl0,sl1]
     refine zt 11 (.bool bC) rfl ?_ ?_
     ·(intro W hSw; obtain ⟨Xa,Ya,xa,ya⟩ := (FX W hSw).out; go_simp; try (exact wrap_b8 _); try (with_reducible rfl))
     try simp only [Act.put,sl2,sl0,sl1]
     refine wpAnyH_done (by kernel_rfl) ?_ _
     have HBn := hid (HBK.out.trans (hS.mono HBK.out.size))
     have HXn := hid (HXK.out.below hS HXK.out.lt)
     have HYn := hid (HYK.out.below hS HYK.out.lt)
     have HAn := hid (HAK.out.below hS HAK.out.lt)
     have HEn := hid (HEK.out.below hS HEK.out.lt)
     clear hS FX
     go_wp2
     go_roundw
     case rel => exact ⟨k + 1,_,hkt,by go_num,rfl,hid (by rw [HSK.out,← Bool.and_assoc,← HKK.out]; rfl),HBn,HXn,HYn,HAn,HEn⟩
     case measure => simp [intOf]; omega
   obtain rfl : k = aZ := by omega
   have HF := hid (show (List.range (i + 1)).all Qe = okk by rw [HSN2.out,← HKK.out])
   cases okk
   all_goals
    go_wp2
    go_roundw
    case rel => exact ⟨i + 1,_,hlt,by go_num,rfl,hid (by rw [HF.out]),HBK,HXK,HYK⟩
    case measure => simp [intOf]; omega
 have hie : en = i := by omega
 subst hie
 have HK1 := hid (show ok = (List.range en).all Qe from HK.out)
 have HB1 := HB
 have HX1 := HX
 have HY1 := HY
 clear HB HX HY HK hlt hi u8
 have y9 := HX1.out.at (k := 9) (v := .slice adp dn adc) rfl
 go_wp2
 go_loopw [5,12] (fun vo vi wr => ∃ (i : Nat) (ok2 : Bool),i ≤ dn ∧ vi = .int .i64 i ∧ vo = .bool ok2 ∧ Hid (ok2 = (ok && (List.range i).all Qd)) ∧ Hid (Below w.heap.size w wr) ∧ Hid (CA w.heap.size #[.slice atp atn atc,.slice aimp aimn aimc,.slice afp afn afc,.slice atbp atbn atbc,.slice amp amn amc,.slice agp agn agc,.slice axp axn axc,.int .i64 ast,.slice aep en aec,.slice adp dn adc,.bool acnt] 32 wr) ∧ Hid (CA (w.heap.size + 1) #[.slice btp btn btc,.slice bimp bimn bimc,.slice bfp bfn bfc,.slice btbp btbn btbc,.slice bmp bmn bmc,.slice bgp bgn bgc,.slice bxp bxn bxc,.int .i64 bst,.slice bep en bec,.slice bdp dn bdc,.bool bcnt] 32 wr)) (fun _ vi _ => dn - (intOf vi).toNat)
 case atStart => exact ⟨0,ok,Nat.zero_le _,rfl,rfl,hid (by simp),HB1,HX1,HY1⟩
 clear y9 y8
 obtain ⟨i,ok2,hi,rfl,rfl,HK,HB,HX,HY⟩ := hrel
 have y9 := HX.out.at (k := 9) (v := .slice adp dn adc) rfl
 have u9 := HY.out.at (k := 9) (v := .slice bdp dn bdc) rfl
 by_cases hlt : i < dn
 ·as_aux_lemma =>
   obtain ⟨z0,z1,z2,z3⟩ := Hay.out i hlt
   obtain ⟨v0,v1,v2,v3⟩ := Hby.out i hlt
   obtain ⟨hpa,hga⟩ := Had.out (by omega)
   obtain ⟨hpb,hgb⟩ := Hbd.out (by omega)
   subst hpa hpb
   have x0 := (HB.out.cell (p := ⟨adb,ado + i * 4,none⟩) hga).trans z0
   have c0 := (HB.out.cell (p := ⟨bdb,bdo + i * 4,none⟩) hgb).trans v0
   have x1 := (HB.out.cell (p := ⟨adb,ado + i * 4 + 1,none⟩) hga).trans z1
   have c1 := (HB.out.cell (p := ⟨bdb,bdo + i * 4 + 1,none⟩) hgb).trans v1
   have x2 := (HB.out.cell (p := ⟨adb,ado + i * 4 + 2,none⟩) hga).trans z2
   have c2 := (HB.out.cell (p := ⟨bdb,bdo + i * 4 + 2,none⟩) hgb).trans v2
   have x3 := (HB.out.cell (p := ⟨adb,ado + i * 4 + 3,none⟩) hga).trans z3
   have c3 := (HB.out.cell (p := ⟨bdb,bdo + i * 4 + 3,none⟩) hgb).trans v3
   have hga2 := Nat.lt_of_lt_of_le hga HB.out.size
   have hgb2 := Nat.lt_of_lt_of_le hgb HB.out.size
   have KO := fun W h => hid (Hqd.out i hlt W h)
   have KCa := hid (Hac.out i hlt)
   have KCb := hid (Hbc.out i hlt)
   have HSN := hid (show (List.range (i + 1)).all Qd = ((List.range i).all Qd && (qd i && (adm i == bdm i) && (adt i == bdt i) && (asz i == bsz i))) by rw [range_all_snoc]; rw [HQd.out])
   clear z0 v0 z1 v1 z2 v2 z3 v3 hga hgb
   generalize qd i = bO at *
   generalize adm i = am at *
   generalize adt i = af at *
   generalize aDp i = aq at *
   generalize aDn i = az at *
   generalize aDc i = aw at *
   generalize ayp i = aQ at *
   generalize ayn i = aZ at *
   generalize ayc i = aW at *
   generalize asz i = aS at *
   generalize bdm i = bm at *
   generalize bdt i = bf at *
   generalize bDp i = bq at *
   generalize bDn i = bz at *
   generalize bDc i = bw at *
   generalize byp i = bQ at *
   generalize byn i = bZ at *
   generalize byc i = bW at *
   generalize bsz i = bS at *
   obtain ⟨e0,d0⟩ : ∃ b,(am == bm) = b := ⟨_,rfl⟩
   obtain ⟨e1,d1⟩ : ∃ b,(af == bf) = b := ⟨_,rfl⟩
   obtain ⟨e2,d2⟩ : ∃ b,(aS == bS) = b := ⟨_,rfl⟩
   rw [d0,d1,d2] at HSN
   have k2 : (aS.toList == bS.toList) = e2 := by rw [← bl_b]; exact d2
   clear d2
   obtain ⟨S,hS⟩ : ∃ S,S = (ok2 && bO && e0 && e1 && e2) := ⟨_,rfl⟩
   have HS := hid hS
   have HSN2 := hid (show (ok && (List.range (i + 1)).all Qd) = S by rw [HSN.out,← Bool.and_assoc,← HK.out,hS]; simp only [Bool.and_assoc])
   have hA1 := (Below.refl wr.heap.size wr).alloc (Nat.le_refl _) (.cells #[.int .i64 am,.int .i64 af,.slice aq az aw,.slice aQ aZ aW] 64)
   have HBE := hid ((HB.out.alloc HB.out.size (.cells #[.int .i64 am,.int .i64 af,.slice aq az aw,.slice aQ aZ aW] 64)).alloc (Nat.le_trans HB.out.size (by rw [size_al]; omega)) (.cells #[.int .i64 bm,.int .i64 bf,.slice bq bz bw,.slice bQ bZ bW] 64))
   have HXE := hid ((HX.out.alloc (.cells #[.int .i64 am,.int .i64 af,.slice aq az aw,.slice aQ aZ aW] 64)).alloc (.cells #[.int .i64 bm,.int .i64 bf,.slice bq bz bw,.slice bQ bZ bW] 64))
   have HYE := hid ((HY.out.alloc (.cells #[.int .i64 am,.int .i64 af,.slice aq az aw,.slice aQ aZ aW] 64)).alloc (.cells #[.int .i64 bm,.int .i64 bf,.slice bq bz bw,.slice bQ bZ bW] 64))
   have HEA := hid ((CA.new wr #[.int .i64 am,.int .i64 af,.slice aq az aw,.slice aQ aZ aW] 64).alloc (.cells #[.int .i64 bm,.int .i64 bf,.slice bq bz bw,.slice bQ bZ bW] 64))
   have HEB := hid (CA.new (wr.alloc (.cells #[.int .i64 am,.int .i64 af,.slice aq az aw,.slice aQ aZ aW] 64)) #[.int .i64 bm,.int .i64 bf,.slice bq bz bw,.slice bQ bZ bW] 64)
   rw [size_al] at HEB
   have hq1 : wr.heap.size ≠ adb := by omega
   have hq2 : wr.heap.size ≠ bdb := by omega
   have w0_ := (hA1.cell (p := ⟨bdb,bdo + i * 4,none⟩) hgb2).trans c0
   have w1_ := (hA1.cell (p := ⟨bdb,bdo + i * 4 + 1,none⟩) hgb2).trans c1
   have w2_ := (hA1.cell (p := ⟨bdb,bdo + i * 4 + 2,none⟩) hgb2).trans c2
   have w3_ := (hA1.cell (p := ⟨bdb,bdo + i * 4 + 3,none⟩) hgb2).trans c3
   have u9_ := (HY.out.alloc (.cells #[.int .i64 am,.int .i64 af,.slice aq az aw,.slice aQ aZ aW] 64)).at (k := 9) (v := .slice (some ⟨bdb,bdo,none⟩) dn bdc) rfl
   clear HSN hS hA1 hga2 hgb2
   go_upto_region 20 with (go_at_call 93; (with_reducible refine (KO _ HBE.out).out.mono ?_); rintro e w2 ⟨rfl,hb⟩; have HB2 := hid (HBE.out.trans (hb.mono HBE.out.size)); have HX2 := hid (HXE.out.below hb HXE.out.lt); have HY2 := hid (HYE.out.below hb HYE.out.lt); have HA2 := hid (HEA.out.below hb HEA.out.lt); have HE2 := hid (HEB.out.below hb HEB.out.lt); clear hb)
   clear y9 u9 u9_ x0 c0 w0_ x1 c1 w1_ x2 c2 w2_ x3 c3 w3_ HX HY HEA HEB HXE HYE
   have cA := KCa.out w2 HB2.out
   have cB := KCb.out w2 HB2.out
   have X0 := HA2.out.at (k := 0) (v := .int .i64 am) rfl
   have Y0 := HE2.out.at (k := 0) (v := .int .i64 bm) rfl
   have X1 := HA2.out.at (k := 1) (v := .int .i64 af) rfl
   have Y1 := HE2.out.at (k := 1) (v := .int .i64 bf) rfl
   have X3 := HA2.out.at (k := 3) (v := .slice aQ aZ aW) rfl
   have Y3 := HE2.out.at (k := 3) (v := .slice bQ bZ bW) rfl
   have hS := HS.out
   rcases (show (ok2 = false) ∨ (ok2 = true ∧ bO = false) ∨ (ok2 = true ∧ bO = true ∧ e0 = false) ∨ (ok2 = true ∧ bO = true ∧ e0 = true ∧ e1 = false) ∨ (ok2 = true ∧ bO = true ∧ e0 = true ∧ e1 = true ∧ e2 = false) ∨ (ok2 = true ∧ bO = true ∧ e0 = true ∧ e1 = true ∧ e2 = true) by cases ok2 <;> cases bO <;> cases e0 <;> cases e1 <;> cases e2 <;> simp) with rfl | ⟨rfl,rfl⟩ | ⟨rfl,rfl,rfl⟩ | ⟨rfl,rfl,rfl,rfl⟩ | ⟨rfl,rfl,rfl,rfl,rfl⟩ | ⟨rfl,rfl,rfl,rfl,rfl⟩
   all_goals
    have HSS := hid hS
    clear hS HS
    go_wp2
    go_roundw
    case rel => exact ⟨i + 1,_,hlt,by go_num,rfl,hid (by rw [HSN2.out,HSS.out]; rfl),HB2,HX2,HY2⟩
    case measure => simp [intOf]; omega
 have hie : dn = i := by omega
 subst hie
 clear hlt hi u9
 go_wp2
 go_ret
 have hr := hid (show R = ok2 by have h1 := HR.out; have h2 := HK.out; have h3 := HK1.out; rw [h1,h2,h3])
 exact ⟨by rw [hr.out]; try rfl,HB.out⟩
end Go.Proofs.YtjgeedgphcjhoaaGreat
namespace Go.Proofs.YtjgeedgphcjhoaaGreat
open Go.RowKit
theorem natb (n m : Nat) : ((n : Int) == (m : Int)) = (n == m) := by
 rw [Bool.eq_iff_iff,beq_iff_eq,beq_iff_eq]
 omega
end Go.Proofs.YtjgeedgphcjhoaaGreat
