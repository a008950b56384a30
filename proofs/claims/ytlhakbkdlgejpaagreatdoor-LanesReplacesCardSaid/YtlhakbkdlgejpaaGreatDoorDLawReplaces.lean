/-
  The walk of the law LanesReplaces. Condition: the tables; the arguments are of their types.
-/
import Derived.Test.YtlhakbkdlgejpaaGreatDoorDLXFit
import Derived.Test.YtlhakbkdlgejpaaGreatDoorL13
set_option linter.unusedSimpArgs false
set_option linter.unusedVariables false
set_option maxRecDepth 100000
namespace Go.Proofs.YtlhakbkdlgejpaaGreatDoor
open Go.RowKit

theorem Rep_lane {n : Nat} (hn : Okn n) (at_ i lo hi nn : Nat) (hi' : i < cnt n) : splitF n (loF n (fun i => if i = at_ then nn else splitF n lo hi i)) (hiF n (fun i => if i = at_ then nn else splitF n lo hi i)) i = if i = at_ then nn % 2 ^ n else splitF n lo hi i := by
  have hc : cnt n = 64 / n + 64 / n := by rcases hn.cases with ⟨_, a, h⟩ | ⟨_, a, h⟩ | ⟨_, a, h⟩ | ⟨_, a, h⟩ <;> omega
  have key : ∀ j, (if j = at_ then nn else splitF n lo hi j) % 2 ^ n = if j = at_ then nn % 2 ^ n else splitF n lo hi j := fun j => by
    split
    · rfl
    · exact Nat.mod_eq_of_lt (splitF_lt n lo hi j)
  unfold loF hiF
  rw [splitF]
  split
  · rename_i h
    rw [packF_lane n _ _ i h]
    exact key i
  · rename_i h
    rw [packF_lane n _ _ (i - 64 / n) (by omega), show i - 64 / n + 64 / n = i by omega]
    exact key i
theorem ar_one {W : World} {o : Obj} (lo hi : Nat) (nl : Bool) : AR ((W.alloc o).alloc (.cells #[.int .i64 123, .int .u64 (lo : Nat), .int .u64 (hi : Nat), .bool nl] 24)) (.slice (some ⟨W.heap.size + 1, 0, none⟩) 1 1) [(123, lo, hi, nl)] := by
  have h := CA.new (W.alloc o) #[.int .i64 123, .int .u64 (lo : Nat), .int .u64 (hi : Nat), .bool nl] 24
  rw [size_al] at h
  refine ⟨_, 1, rfl, h.lt, Nat.le_refl _, fun j c hj => ?_⟩
  match j, hj with
  | 0, hj =>
    obtain rfl : (123, lo, hi, nl) = c := by simpa using hj
    exact ⟨h.at (k := 0) rfl, h.at (k := 1) rfl, h.at (k := 2) rfl, h.at (k := 3) rfl⟩
  | j + 1, hj => simp at hj
theorem ar_vn {W : World} {o : Obj} (lo hi nn : Nat) (nl : Bool) (T : Int) : AR ((W.alloc o).alloc (.cells #[.int .i64 123, .int .u64 (lo : Nat), .int .u64 (hi : Nat), .bool nl, .int .i64 T, .int .u64 (nn : Nat), .int .u64 0, .bool false] 24)) (.slice (some ⟨W.heap.size + 1, 0, none⟩) 2 2) [(123, lo, hi, nl), (T, nn, 0, false)] := by
  have h := CA.new (W.alloc o) #[.int .i64 123, .int .u64 (lo : Nat), .int .u64 (hi : Nat), .bool nl, .int .i64 T, .int .u64 (nn : Nat), .int .u64 0, .bool false] 24
  rw [size_al] at h
  refine ⟨_, 2, rfl, h.lt, Nat.le_refl _, fun j c hj => ?_⟩
  match j, hj with
  | 0, hj =>
    obtain rfl : (123, lo, hi, nl) = c := by simpa using hj
    exact ⟨h.at (k := 0) rfl, h.at (k := 1) rfl, h.at (k := 2) rfl, h.at (k := 3) rfl⟩
  | 1, hj =>
    obtain rfl : (T, nn, 0, false) = c := by simpa using hj
    exact ⟨h.at (k := 4) rfl, h.at (k := 5) rfl, h.at (k := 6) rfl, h.at (k := 7) rfl⟩
  | j + 2, hj => simp at hj
theorem imm_own (W : World) (x : Int) (o : Obj) : ((W.alloc (.cells #[.int .i64 x] 3)).alloc o).ownsRow 0 3 1 (.slice (some ⟨W.heap.size, 0, none⟩) 1 1) 1 (ic [x]) :=
  (World.ownsRow_lit W #[.int .i64 x] 1 (Nat.zero_le _) (by unfold maxLen; omega) rfl).alloc o
theorem ln_x8 : chkLn false 64790 8 127 = true := by kernel_rfl
theorem ln_r8 : chkLn true 64791 8 127 = true := by kernel_rfl
set_option maxHeartbeats 8000000 in
theorem law_Rep8 (ta : Int) (lo hi : Nat) (nl : Bool) (h1 : lo < 18446744073709551616) (h2 : hi < 18446744073709551616) (which lane : Int) (nn : Nat) (hnn : nn < 18446744073709551616) (hk : bits .and .i64 which 3 = 0) (at_ : Nat) (hat : at_ < 16) (hla : bits .and .i64 lane 15 = (at_ : Int)) (w : World) (hg : Glob w) :
    Calls Tryz.prog 3 #[vv ta lo hi nl, .int .i64 which, .int .i64 lane, .int .u64 (nn : Nat)] w fun e w' => e = .returned (.bool true) ∧ Below w.heap.size w w' := by
  have hn : Okn 8 := .inl rfl
  have PX := LN_of false 64790 8 127 ln_x8
  have PR := LN_of true 64791 8 127 ln_r8
  have HA := fun W h => hid (awake_says W h)
  have HR := fun W hg va ha gi hI => hid (Rep_do 64791 (by decide) 8 hn 127 (by decide) _ PR at_ hat lo hi nn nl h1 h2 hnn W hg va ha gi 0 hI)
  obtain ⟨lo2, hlo2⟩ : ∃ x, x = loF 8 (fun i => if i = at_ then nn else splitF 8 lo hi i) := ⟨_, rfl⟩
  obtain ⟨hi2, hhi2⟩ : ∃ x, x = hiF 8 (fun i => if i = at_ then nn else splitF 8 lo hi i) := ⟨_, rfl⟩
  have HLN := hid (fun i (h : i < 16) => Rep_lane hn at_ i lo hi nn h)
  rw [← hlo2, ← hhi2] at HR HLN
  have hl2 : lo2 < 18446744073709551616 := by rw [hlo2]; exact loF_lt hn _
  have hh2 : hi2 < 18446744073709551616 := by rw [hhi2]; exact hiF_lt hn _
  have HX := fun i (h : i < 16) W hg va ha gi hI => hid (Ext_do 64790 (by decide) 8 hn 127 (.inl ⟨rfl, by decide⟩) _ PX i h lo hi nl h1 h2 W hg va ha gi 0 hI)
  have HY := fun i (h : i < 16) W hg va ha gi hI => hid (Ext_do 64790 (by decide) 8 hn 127 (.inl ⟨rfl, by decide⟩) _ PX i h lo2 hi2 false hl2 hh2 W hg va ha gi 0 hI)
  have HZ := fun W hg va gi ci hgi => hid (Ext_bad 64790 (by decide) 8 127 _ PX W hg va gi ci hgi)
  have HAND : Hid (bits .and .u64 (nn : Int) 255 = ((nn % 2 ^ 8 : Nat) : Int)) := by
    have := bits_and_u64_nat nn 255 hnn (by decide)
    rw [show (255 : Nat) = 2 ^ 8 - 1 from rfl, Nat.and_two_pow_sub_one_eq_mod] at this
    exact this
  have HG := hid hg
  unfold vv at HR HX HY HZ ⊢
  clear PX PR hlo2 hhi2 hl2 hh2 h1 h2 hnn hn hg
  have HS0 := hid (CA.new w #[.int .i64 ta, .int .u64 (lo : Nat), .int .u64 (hi : Nat), .bool nl] 24)
  go_enter Tryz.func3, Tryz.ntmps3
  go_upto_region 4 with (go_at_call 19; (with_reducible refine (HA _ (HG.out.next ((Below.refl _ w).alloc (Nat.le_refl _) _))).out.mono ?_); rintro e w1 ⟨rfl, hb1⟩; have HB1 := hid (((Below.refl _ w).alloc (Nat.le_refl _) (.cells #[.int .i64 ta, .int .u64 (lo : Nat), .int .u64 (hi : Nat), .bool nl] 24)).trans (hb1.mono (by simp))); have HC1 := hid (HS0.out.call hb1); clear hb1)
  have e0 := HC1.out.at (k := 0) (v := .int .i64 ta) rfl
  have f0 := HC1.out.free 0
  go_upto_region 5 with fail
  have HB4 := hid (HB1.out.setCell (p := ⟨w.heap.size, 0, none⟩) (Nat.le_refl _) (.int .i64 123))
  have HC4 : Hid (CA w.heap.size #[.int .i64 123, .int .u64 (lo : Nat), .int .u64 (hi : Nat), .bool nl] 24 (w1.setCell ⟨w.heap.size, 0, none⟩ (.int .i64 123))) := HC1.out.set (k := 0) (.int .i64 123)
  clear e0 f0 HB1 HC1 HS0 HA
  generalize w1.setCell ⟨w.heap.size, 0, none⟩ (.int .i64 123) = W4 at *
  go_upto_region 6 with fail
  have hL := (CA.new W4 #[.int .i64 64790, .int .i64 64793, .int .i64 64795, .int .i64 64797] 3).at (k := 0) (v := .int .i64 64790) rfl
  go_upto_region 7 with fail
  have HB5 := hid (HB4.out.alloc HB4.out.size (.cells #[.int .i64 64790, .int .i64 64793, .int .i64 64795, .int .i64 64797] 3))
  have HC5 := hid (HC4.out.alloc (.cells #[.int .i64 64790, .int .i64 64793, .int .i64 64795, .int .i64 64797] 3))
  clear hL HB4 HC4
  generalize W4.alloc (.cells #[.int .i64 64790, .int .i64 64793, .int .i64 64795, .int .i64 64797] 3) = W5 at *
  have hL := (CA.new W5 #[.int .i64 64791, .int .i64 64794, .int .i64 64796, .int .i64 64798] 3).at (k := 0) (v := .int .i64 64791) rfl
  go_upto_region 8 with fail
  have HB6 := hid (HB5.out.alloc HB5.out.size (.cells #[.int .i64 64791, .int .i64 64794, .int .i64 64796, .int .i64 64798] 3))
  have HC6 := hid (HC5.out.alloc (.cells #[.int .i64 64791, .int .i64 64794, .int .i64 64796, .int .i64 64798] 3))
  clear hL HB5 HC5
  generalize W5.alloc (.cells #[.int .i64 64791, .int .i64 64794, .int .i64 64796, .int .i64 64798] 3) = W6 at *
  have hL := (CA.new W6 #[.int .i64 8, .int .i64 16, .int .i64 32, .int .i64 64] 3).at (k := 0) (v := .int .i64 8) rfl
  go_upto_region 9 with fail
  have HB7 := hid (HB6.out.alloc HB6.out.size (.cells #[.int .i64 8, .int .i64 16, .int .i64 32, .int .i64 64] 3))
  have HC7 := hid (HC6.out.alloc (.cells #[.int .i64 8, .int .i64 16, .int .i64 32, .int .i64 64] 3))
  clear hL HB6 HC6
  generalize W6.alloc (.cells #[.int .i64 8, .int .i64 16, .int .i64 32, .int .i64 64] 3) = W7 at *
  have hL := (CA.new W7 #[.int .i64 127, .int .i64 127, .int .i64 127, .int .i64 126] 3).at (k := 0) (v := .int .i64 127) rfl
  go_upto_region 10 with fail
  have HB8 := hid (HB7.out.alloc HB7.out.size (.cells #[.int .i64 127, .int .i64 127, .int .i64 127, .int .i64 126] 3))
  have HC8 := hid (HC7.out.alloc (.cells #[.int .i64 127, .int .i64 127, .int .i64 127, .int .i64 126] 3))
  clear hL HB7 HC7
  generalize W7.alloc (.cells #[.int .i64 127, .int .i64 127, .int .i64 127, .int .i64 126] 3) = W8 at *
  go_upto_region 11 with fail
  go_upto_region 12 with fail
  have e0 := fun o => (HC8.out.alloc o).at (k := 0) (v := .int .i64 123) rfl
  have e1 := fun o => (HC8.out.alloc o).at (k := 1) (v := .int .u64 (lo : Nat)) rfl
  have e2 := fun o => (HC8.out.alloc o).at (k := 2) (v := .int .u64 (hi : Nat)) rfl
  have e3 := fun o => (HC8.out.alloc o).at (k := 3) (v := .bool nl) rfl
  have HBA := hid ((HB8.out.alloc HB8.out.size (.cells #[.int .i64 (at_ : Int)] 3)).alloc (by have := HB8.out.size; rw [size_al]; omega) (.cells #[.int .i64 123, .int .u64 (lo : Nat), .int .u64 (hi : Nat), .bool nl, .int .i64 127, .int .u64 (nn : Nat), .int .u64 0, .bool false] 24))
  have HR1 := HR _ (HG.out.next HBA.out) _ (ar_vn lo hi nn nl 127) _ (imm_own W8 (at_ : Int) _)
  have HCA := hid ((HC8.out.alloc (.cells #[.int .i64 (at_ : Int)] 3)).alloc (.cells #[.int .i64 123, .int .u64 (lo : Nat), .int .u64 (hi : Nat), .bool nl, .int .i64 127, .int .u64 (nn : Nat), .int .u64 0, .bool false] 24))
  clear HB8 HC8 HR
  go_upto_region 13 with (go_at_call 20; (with_reducible refine HR1.out.mono ?_); rintro e w9 ⟨rfl, hb9⟩; have HB9 := hid (HBA.out.trans (hb9.mono HBA.out.size)); have HC9 := hid (HCA.out.call hb9); clear hb9)
  have HB10 := hid (HB9.out.alloc HB9.out.size (.cells #[.int .i64 123, .int .u64 (lo2 : Nat), .int .u64 (hi2 : Nat), .bool false] 24))
  have HC10 := hid (HC9.out.alloc (.cells #[.int .i64 123, .int .u64 (lo2 : Nat), .int .u64 (hi2 : Nat), .bool false] 24))
  have HD10 := hid (CA.new w9 #[.int .i64 123, .int .u64 (lo2 : Nat), .int .u64 (hi2 : Nat), .bool false] 24)
  clear e0 e1 e2 e3 HR1 HBA HCA HB9 HC9
  generalize w9.alloc (.cells #[.int .i64 123, .int .u64 (lo2 : Nat), .int .u64 (hi2 : Nat), .bool false] 24) = W10 at *
  generalize w9.heap.size = g9 at *
  go_wp2
  go_loopw [19] (fun vi wr => ∃ i : Nat, i ≤ 16 ∧ vi = .int .i64 i ∧ Hid (Below W10.heap.size W10 wr)) (fun vi _ => 16 - (intOf vi).toNat)
  case atStart => exact ⟨0, by decide, rfl, Below.refl _ _⟩
  case round =>
    obtain ⟨i, hin, rfl, HI⟩ := hrel
    have HBr := hid (HB10.out.trans (HI.out.mono HB10.out.size))
    have HCr := hid (HC10.out.call HI.out)
    have HDr := hid (HD10.out.call HI.out)
    by_cases hlt : i < 16
    · have HLT := hid hlt
      have e0 := fun o => (HDr.out.alloc o).at (k := 0) (v := .int .i64 123) rfl
      have e1 := fun o => (HDr.out.alloc o).at (k := 1) (v := .int .u64 (lo2 : Nat)) rfl
      have e2 := fun o => (HDr.out.alloc o).at (k := 2) (v := .int .u64 (hi2 : Nat)) rfl
      have e3 := fun o => (HDr.out.alloc o).at (k := 3) (v := .bool false) rfl
      have HBA := hid ((HBr.out.alloc HBr.out.size (.cells #[.int .i64 (i : Int)] 3)).alloc (by have := HBr.out.size; rw [size_al]; omega) (.cells #[.int .i64 123, .int .u64 (lo2 : Nat), .int .u64 (hi2 : Nat), .bool false] 24))
      have HIA := hid ((HI.out.alloc HI.out.size (.cells #[.int .i64 (i : Int)] 3)).alloc (by have := HI.out.size; rw [size_al]; omega) (.cells #[.int .i64 123, .int .u64 (lo2 : Nat), .int .u64 (hi2 : Nat), .bool false] 24))
      have HY1 := HY i hlt _ (HG.out.next HBA.out) _ (ar_one lo2 hi2 false) _ (imm_own wr (i : Int) _)
      have HCA := hid ((HCr.out.alloc (.cells #[.int .i64 (i : Int)] 3)).alloc (.cells #[.int .i64 123, .int .u64 (lo2 : Nat), .int .u64 (hi2 : Nat), .bool false] 24))
      go_upto_region 19 with (go_at_call 20; (with_reducible refine HY1.out.mono ?_); rintro e w11 ⟨rfl, hb11⟩; have HB11 := hid (HBA.out.trans (hb11.mono HBA.out.size)); have HI11 := hid (HIA.out.trans (hb11.mono HIA.out.size)); have HC11 := hid (HCA.out.call hb11); clear hb11)
      clear e0 e1 e2 e3 HY1 HBA HCA HCr HDr HBr HIA
      obtain ⟨y, hy⟩ : ∃ y, y = splitF 8 lo2 hi2 i := ⟨_, rfl⟩
      rw [← hy]
      have HB12 := hid (HB11.out.alloc HB11.out.size (.cells #[.int .i64 127, .int .u64 (y : Nat), .int .u64 0, .bool false] 24))
      have HI12 := hid (HI11.out.alloc HI11.out.size (.cells #[.int .i64 127, .int .u64 (y : Nat), .int .u64 0, .bool false] 24))
      have HC12 := hid (HC11.out.alloc (.cells #[.int .i64 127, .int .u64 (y : Nat), .int .u64 0, .bool false] 24))
      have HD12 := hid (CA.new w11 #[.int .i64 127, .int .u64 (y : Nat), .int .u64 0, .bool false] 24)
      clear HB11 HI11 HC11
      have HYY := hid hy
      clear hy
      generalize w11.alloc (.cells #[.int .i64 127, .int .u64 (y : Nat), .int .u64 0, .bool false] 24) = W12 at *
      generalize w11.heap.size = g11 at *
      have e0 := fun o => (HC12.out.alloc o).at (k := 0) (v := .int .i64 123) rfl
      have e1 := fun o => (HC12.out.alloc o).at (k := 1) (v := .int .u64 (lo : Nat)) rfl
      have e2 := fun o => (HC12.out.alloc o).at (k := 2) (v := .int .u64 (hi : Nat)) rfl
      have e3 := fun o => (HC12.out.alloc o).at (k := 3) (v := .bool nl) rfl
      have HBA := hid ((HB12.out.alloc HB12.out.size (.cells #[.int .i64 (i : Int)] 3)).alloc (by have := HB12.out.size; rw [size_al]; omega) (.cells #[.int .i64 123, .int .u64 (lo : Nat), .int .u64 (hi : Nat), .bool nl] 24))
      have HIA := hid ((HI12.out.alloc HI12.out.size (.cells #[.int .i64 (i : Int)] 3)).alloc (by have := HI12.out.size; rw [size_al]; omega) (.cells #[.int .i64 123, .int .u64 (lo : Nat), .int .u64 (hi : Nat), .bool nl] 24))
      have HX1 := HX i HLT.out _ (HG.out.next HBA.out) _ (ar_one lo hi nl) _ (imm_own W12 (i : Int) _)
      have HDA := hid ((HD12.out.alloc (.cells #[.int .i64 (i : Int)] 3)).alloc (.cells #[.int .i64 123, .int .u64 (lo : Nat), .int .u64 (hi : Nat), .bool nl] 24))
      clear HB12 HI12 HC12 HD12
      go_upto_region 20 with (go_at_call 20; (with_reducible refine HX1.out.mono ?_); rintro e w13 ⟨rfl, hb13⟩; have HI13 := hid (HIA.out.trans (hb13.mono HIA.out.size)); have HD13 := hid (HDA.out.call hb13); clear hb13)
      clear e0 e1 e2 e3 HX1 HBA HDA HIA
      obtain ⟨x, hx⟩ : ∃ x, x = splitF 8 lo hi i := ⟨_, rfl⟩
      rw [← hx]
      have HI14 := hid (HI13.out.alloc HI13.out.size (.cells #[.int .i64 127, .int .u64 (x : Nat), .int .u64 0, .bool false] 24))
      have HD14 := hid (HD13.out.alloc (.cells #[.int .i64 127, .int .u64 (x : Nat), .int .u64 0, .bool false] 24))
      have HE14 := hid (CA.new w13 #[.int .i64 127, .int .u64 (x : Nat), .int .u64 0, .bool false] 24)
      clear HI13 HD13
      have HXX := hid hx
      clear hx
      generalize w13.alloc (.cells #[.int .i64 127, .int .u64 (x : Nat), .int .u64 0, .bool false] 24) = W14 at *
      generalize w13.heap.size = g13 at *
      have d0 := HD14.out.at (k := 0) (v := .int .i64 127) rfl
      have d1 := HD14.out.at (k := 1) (v := .int .u64 (y : Nat)) rfl
      have d2 := HD14.out.at (k := 2) (v := .int .u64 0) rfl
      have d3 := HD14.out.at (k := 3) (v := .bool false) rfl
      have c0 := HE14.out.at (k := 0) (v := .int .i64 127) rfl
      have c1 := HE14.out.at (k := 1) (v := .int .u64 (x : Nat)) rfl
      have c2 := HE14.out.at (k := 2) (v := .int .u64 0) rfl
      have c3 := HE14.out.at (k := 3) (v := .bool false) rfl
      have hyx := HLN.out i HLT.out
      rw [← HYY.out, ← HXX.out] at hyx
      by_cases hia : i = at_
      · rw [if_pos hia] at hyx
        have HM := HAND.out
        rw [← hyx] at HM
        have q0 : ((i : Int) != (at_ : Int)) = false := by rw [hia]; simp
        have q1 : ((i : Int) == (at_ : Int)) = true := by rw [hia]; simp
        clear hyx HYY HXX hia
        go_wp2
        go_roundw
        case rel => exact ⟨i + 1, HLT.out, by go_num, HI14⟩
        case measure => (simp [intOf]; have := HLT.out; omega)
      · rw [if_neg hia] at hyx
        subst hyx
        have q0 : ((i : Int) != (at_ : Int)) = true := by simpa using fun h : (i : Int) = at_ => hia (by omega)
        have q1 : ((i : Int) == (at_ : Int)) = false := by simpa using fun h : (i : Int) = at_ => hia (by omega)
        clear hia
        go_wp2
        go_roundw
        case rel => exact ⟨i + 1, HLT.out, by go_num, HI14⟩
        case measure => (simp [intOf]; have := HLT.out; omega)
    · obtain rfl : i = 16 := by omega
      have e0 := fun o => (HCr.out.alloc o).at (k := 0) (v := .int .i64 123) rfl
      have e1 := fun o => (HCr.out.alloc o).at (k := 1) (v := .int .u64 (lo : Nat)) rfl
      have e2 := fun o => (HCr.out.alloc o).at (k := 2) (v := .int .u64 (hi : Nat)) rfl
      have e3 := fun o => (HCr.out.alloc o).at (k := 3) (v := .bool nl) rfl
      have HBA := hid ((HBr.out.alloc HBr.out.size (.cells #[.int .i64 16] 3)).alloc (by have := HBr.out.size; rw [size_al]; omega) (.cells #[.int .i64 123, .int .u64 (lo : Nat), .int .u64 (hi : Nat), .bool nl] 24))
      have hc0 := ((CA.new wr #[.int .i64 16] 3).alloc (.cells #[.int .i64 123, .int .u64 (lo : Nat), .int .u64 (hi : Nat), .bool nl] 24)).at (k := 0) (v := .int .i64 16) rfl
      have HZ1 := HZ _ (HG.out.next HBA.out) (.slice (some ⟨wr.heap.size + 1, 0, none⟩) 1 1) wr.heap.size 1 hc0
      clear hc0 HCr HDr HBr
      go_wp2_with (go_at_call 20; (with_reducible refine HZ1.out.mono ?_); rintro e w15 ⟨rfl, hb15⟩; have HB15 := hid (HBA.out.trans (hb15.mono HBA.out.size)); clear hb15)
      go_ret
      exact ⟨rfl, HB15.out.alloc HB15.out.size _⟩
theorem ln_x16 : chkLn false 64793 16 127 = true := by kernel_rfl
theorem ln_r16 : chkLn true 64794 16 127 = true := by kernel_rfl
set_option maxHeartbeats 8000000 in
theorem law_Rep16 (ta : Int) (lo hi : Nat) (nl : Bool) (h1 : lo < 18446744073709551616) (h2 : hi < 18446744073709551616) (which lane : Int) (nn : Nat) (hnn : nn < 18446744073709551616) (hk : bits .and .i64 which 3 = 1) (at_ : Nat) (hat : at_ < 8) (hla : bits .and .i64 lane 7 = (at_ : Int)) (w : World) (hg : Glob w) :
    Calls Tryz.prog 3 #[vv ta lo hi nl, .int .i64 which, .int .i64 lane, .int .u64 (nn : Nat)] w fun e w' => e = .returned (.bool true) ∧ Below w.heap.size w w' := by
  have hn : Okn 16 := .inr (.inl rfl)
  have PX := LN_of false 64793 16 127 ln_x16
  have PR := LN_of true 64794 16 127 ln_r16
  have HA := fun W h => hid (awake_says W h)
  have HR := fun W hg va ha gi hI => hid (Rep_do 64794 (by decide) 16 hn 127 (by decide) _ PR at_ hat lo hi nn nl h1 h2 hnn W hg va ha gi 0 hI)
  obtain ⟨lo2, hlo2⟩ : ∃ x, x = loF 16 (fun i => if i = at_ then nn else splitF 16 lo hi i) := ⟨_, rfl⟩
  obtain ⟨hi2, hhi2⟩ : ∃ x, x = hiF 16 (fun i => if i = at_ then nn else splitF 16 lo hi i) := ⟨_, rfl⟩
  have HLN := hid (fun i (h : i < 8) => Rep_lane hn at_ i lo hi nn h)
  rw [← hlo2, ← hhi2] at HR HLN
  have hl2 : lo2 < 18446744073709551616 := by rw [hlo2]; exact loF_lt hn _
  have hh2 : hi2 < 18446744073709551616 := by rw [hhi2]; exact hiF_lt hn _
  have HX := fun i (h : i < 8) W hg va ha gi hI => hid (Ext_do 64793 (by decide) 16 hn 127 (.inl ⟨rfl, by decide⟩) _ PX i h lo hi nl h1 h2 W hg va ha gi 0 hI)
  have HY := fun i (h : i < 8) W hg va ha gi hI => hid (Ext_do 64793 (by decide) 16 hn 127 (.inl ⟨rfl, by decide⟩) _ PX i h lo2 hi2 false hl2 hh2 W hg va ha gi 0 hI)
  have HZ := fun W hg va gi ci hgi => hid (Ext_bad 64793 (by decide) 16 127 _ PX W hg va gi ci hgi)
  have HAND : Hid (bits .and .u64 (nn : Int) 65535 = ((nn % 2 ^ 16 : Nat) : Int)) := by
    have := bits_and_u64_nat nn 65535 hnn (by decide)
    rw [show (65535 : Nat) = 2 ^ 16 - 1 from rfl, Nat.and_two_pow_sub_one_eq_mod] at this
    exact this
  have HG := hid hg
  unfold vv at HR HX HY HZ ⊢
  clear PX PR hlo2 hhi2 hl2 hh2 h1 h2 hnn hn hg
  have HS0 := hid (CA.new w #[.int .i64 ta, .int .u64 (lo : Nat), .int .u64 (hi : Nat), .bool nl] 24)
  go_enter Tryz.func3, Tryz.ntmps3
  go_upto_region 4 with (go_at_call 19; (with_reducible refine (HA _ (HG.out.next ((Below.refl _ w).alloc (Nat.le_refl _) _))).out.mono ?_); rintro e w1 ⟨rfl, hb1⟩; have HB1 := hid (((Below.refl _ w).alloc (Nat.le_refl _) (.cells #[.int .i64 ta, .int .u64 (lo : Nat), .int .u64 (hi : Nat), .bool nl] 24)).trans (hb1.mono (by simp))); have HC1 := hid (HS0.out.call hb1); clear hb1)
  have e0 := HC1.out.at (k := 0) (v := .int .i64 ta) rfl
  have f0 := HC1.out.free 0
  go_upto_region 5 with fail
  have HB4 := hid (HB1.out.setCell (p := ⟨w.heap.size, 0, none⟩) (Nat.le_refl _) (.int .i64 123))
  have HC4 : Hid (CA w.heap.size #[.int .i64 123, .int .u64 (lo : Nat), .int .u64 (hi : Nat), .bool nl] 24 (w1.setCell ⟨w.heap.size, 0, none⟩ (.int .i64 123))) := HC1.out.set (k := 0) (.int .i64 123)
  clear e0 f0 HB1 HC1 HS0 HA
  generalize w1.setCell ⟨w.heap.size, 0, none⟩ (.int .i64 123) = W4 at *
  go_upto_region 6 with fail
  have hL := (CA.new W4 #[.int .i64 64790, .int .i64 64793, .int .i64 64795, .int .i64 64797] 3).at (k := 1) (v := .int .i64 64793) rfl
  go_upto_region 7 with fail
  have HB5 := hid (HB4.out.alloc HB4.out.size (.cells #[.int .i64 64790, .int .i64 64793, .int .i64 64795, .int .i64 64797] 3))
  have HC5 := hid (HC4.out.alloc (.cells #[.int .i64 64790, .int .i64 64793, .int .i64 64795, .int .i64 64797] 3))
  clear hL HB4 HC4
  generalize W4.alloc (.cells #[.int .i64 64790, .int .i64 64793, .int .i64 64795, .int .i64 64797] 3) = W5 at *
  have hL := (CA.new W5 #[.int .i64 64791, .int .i64 64794, .int .i64 64796, .int .i64 64798] 3).at (k := 1) (v := .int .i64 64794) rfl
  go_upto_region 8 with fail
  have HB6 := hid (HB5.out.alloc HB5.out.size (.cells #[.int .i64 64791, .int .i64 64794, .int .i64 64796, .int .i64 64798] 3))
  have HC6 := hid (HC5.out.alloc (.cells #[.int .i64 64791, .int .i64 64794, .int .i64 64796, .int .i64 64798] 3))
  clear hL HB5 HC5
  generalize W5.alloc (.cells #[.int .i64 64791, .int .i64 64794, .int .i64 64796, .int .i64 64798] 3) = W6 at *
  have hL := (CA.new W6 #[.int .i64 8, .int .i64 16, .int .i64 32, .int .i64 64] 3).at (k := 1) (v := .int .i64 16) rfl
  go_upto_region 9 with fail
  have HB7 := hid (HB6.out.alloc HB6.out.size (.cells #[.int .i64 8, .int .i64 16, .int .i64 32, .int .i64 64] 3))
  have HC7 := hid (HC6.out.alloc (.cells #[.int .i64 8, .int .i64 16, .int .i64 32, .int .i64 64] 3))
  clear hL HB6 HC6
  generalize W6.alloc (.cells #[.int .i64 8, .int .i64 16, .int .i64 32, .int .i64 64] 3) = W7 at *
  have hL := (CA.new W7 #[.int .i64 127, .int .i64 127, .int .i64 127, .int .i64 126] 3).at (k := 1) (v := .int .i64 127) rfl
  go_upto_region 10 with fail
  have HB8 := hid (HB7.out.alloc HB7.out.size (.cells #[.int .i64 127, .int .i64 127, .int .i64 127, .int .i64 126] 3))
  have HC8 := hid (HC7.out.alloc (.cells #[.int .i64 127, .int .i64 127, .int .i64 127, .int .i64 126] 3))
  clear hL HB7 HC7
  generalize W7.alloc (.cells #[.int .i64 127, .int .i64 127, .int .i64 127, .int .i64 126] 3) = W8 at *
  go_upto_region 11 with fail
  go_upto_region 12 with fail
  have e0 := fun o => (HC8.out.alloc o).at (k := 0) (v := .int .i64 123) rfl
  have e1 := fun o => (HC8.out.alloc o).at (k := 1) (v := .int .u64 (lo : Nat)) rfl
  have e2 := fun o => (HC8.out.alloc o).at (k := 2) (v := .int .u64 (hi : Nat)) rfl
  have e3 := fun o => (HC8.out.alloc o).at (k := 3) (v := .bool nl) rfl
  have HBA := hid ((HB8.out.alloc HB8.out.size (.cells #[.int .i64 (at_ : Int)] 3)).alloc (by have := HB8.out.size; rw [size_al]; omega) (.cells #[.int .i64 123, .int .u64 (lo : Nat), .int .u64 (hi : Nat), .bool nl, .int .i64 127, .int .u64 (nn : Nat), .int .u64 0, .bool false] 24))
  have HR1 := HR _ (HG.out.next HBA.out) _ (ar_vn lo hi nn nl 127) _ (imm_own W8 (at_ : Int) _)
  have HCA := hid ((HC8.out.alloc (.cells #[.int .i64 (at_ : Int)] 3)).alloc (.cells #[.int .i64 123, .int .u64 (lo : Nat), .int .u64 (hi : Nat), .bool nl, .int .i64 127, .int .u64 (nn : Nat), .int .u64 0, .bool false] 24))
  clear HB8 HC8 HR
  go_upto_region 13 with (go_at_call 20; (with_reducible refine HR1.out.mono ?_); rintro e w9 ⟨rfl, hb9⟩; have HB9 := hid (HBA.out.trans (hb9.mono HBA.out.size)); have HC9 := hid (HCA.out.call hb9); clear hb9)
  have HB10 := hid (HB9.out.alloc HB9.out.size (.cells #[.int .i64 123, .int .u64 (lo2 : Nat), .int .u64 (hi2 : Nat), .bool false] 24))
  have HC10 := hid (HC9.out.alloc (.cells #[.int .i64 123, .int .u64 (lo2 : Nat), .int .u64 (hi2 : Nat), .bool false] 24))
  have HD10 := hid (CA.new w9 #[.int .i64 123, .int .u64 (lo2 : Nat), .int .u64 (hi2 : Nat), .bool false] 24)
  clear e0 e1 e2 e3 HR1 HBA HCA HB9 HC9
  generalize w9.alloc (.cells #[.int .i64 123, .int .u64 (lo2 : Nat), .int .u64 (hi2 : Nat), .bool false] 24) = W10 at *
  generalize w9.heap.size = g9 at *
  go_wp2
  go_loopw [19] (fun vi wr => ∃ i : Nat, i ≤ 8 ∧ vi = .int .i64 i ∧ Hid (Below W10.heap.size W10 wr)) (fun vi _ => 8 - (intOf vi).toNat)
  case atStart => exact ⟨0, by decide, rfl, Below.refl _ _⟩
  case round =>
    obtain ⟨i, hin, rfl, HI⟩ := hrel
    have HBr := hid (HB10.out.trans (HI.out.mono HB10.out.size))
    have HCr := hid (HC10.out.call HI.out)
    have HDr := hid (HD10.out.call HI.out)
    by_cases hlt : i < 8
    · have HLT := hid hlt
      have e0 := fun o => (HDr.out.alloc o).at (k := 0) (v := .int .i64 123) rfl
      have e1 := fun o => (HDr.out.alloc o).at (k := 1) (v := .int .u64 (lo2 : Nat)) rfl
      have e2 := fun o => (HDr.out.alloc o).at (k := 2) (v := .int .u64 (hi2 : Nat)) rfl
      have e3 := fun o => (HDr.out.alloc o).at (k := 3) (v := .bool false) rfl
      have HBA := hid ((HBr.out.alloc HBr.out.size (.cells #[.int .i64 (i : Int)] 3)).alloc (by have := HBr.out.size; rw [size_al]; omega) (.cells #[.int .i64 123, .int .u64 (lo2 : Nat), .int .u64 (hi2 : Nat), .bool false] 24))
      have HIA := hid ((HI.out.alloc HI.out.size (.cells #[.int .i64 (i : Int)] 3)).alloc (by have := HI.out.size; rw [size_al]; omega) (.cells #[.int .i64 123, .int .u64 (lo2 : Nat), .int .u64 (hi2 : Nat), .bool false] 24))
      have HY1 := HY i hlt _ (HG.out.next HBA.out) _ (ar_one lo2 hi2 false) _ (imm_own wr (i : Int) _)
      have HCA := hid ((HCr.out.alloc (.cells #[.int .i64 (i : Int)] 3)).alloc (.cells #[.int .i64 123, .int .u64 (lo2 : Nat), .int .u64 (hi2 : Nat), .bool false] 24))
      go_upto_region 19 with (go_at_call 20; (with_reducible refine HY1.out.mono ?_); rintro e w11 ⟨rfl, hb11⟩; have HB11 := hid (HBA.out.trans (hb11.mono HBA.out.size)); have HI11 := hid (HIA.out.trans (hb11.mono HIA.out.size)); have HC11 := hid (HCA.out.call hb11); clear hb11)
      clear e0 e1 e2 e3 HY1 HBA HCA HCr HDr HBr HIA
      obtain ⟨y, hy⟩ : ∃ y, y = splitF 16 lo2 hi2 i := ⟨_, rfl⟩
      rw [← hy]
      have HB12 := hid (HB11.out.alloc HB11.out.size (.cells #[.int .i64 127, .int .u64 (y : Nat), .int .u64 0, .bool false] 24))
      have HI12 := hid (HI11.out.alloc HI11.out.size (.cells #[.int .i64 127, .int .u64 (y : Nat), .int .u64 0, .bool false] 24))
      have HC12 := hid (HC11.out.alloc (.cells #[.int .i64 127, .int .u64 (y : Nat), .int .u64 0, .bool false] 24))
      have HD12 := hid (CA.new w11 #[.int .i64 127, .int .u64 (y : Nat), .int .u64 0, .bool false] 24)
      clear HB11 HI11 HC11
      have HYY := hid hy
      clear hy
      generalize w11.alloc (.cells #[.int .i64 127, .int .u64 (y : Nat), .int .u64 0, .bool false] 24) = W12 at *
      generalize w11.heap.size = g11 at *
      have e0 := fun o => (HC12.out.alloc o).at (k := 0) (v := .int .i64 123) rfl
      have e1 := fun o => (HC12.out.alloc o).at (k := 1) (v := .int .u64 (lo : Nat)) rfl
      have e2 := fun o => (HC12.out.alloc o).at (k := 2) (v := .int .u64 (hi : Nat)) rfl
      have e3 := fun o => (HC12.out.alloc o).at (k := 3) (v := .bool nl) rfl
      have HBA := hid ((HB12.out.alloc HB12.out.size (.cells #[.int .i64 (i : Int)] 3)).alloc (by have := HB12.out.size; rw [size_al]; omega) (.cells #[.int .i64 123, .int .u64 (lo : Nat), .int .u64 (hi : Nat), .bool nl] 24))
      have HIA := hid ((HI12.out.alloc HI12.out.size (.cells #[.int .i64 (i : Int)] 3)).alloc (by have := HI12.out.size; rw [size_al]; omega) (.cells #[.int .i64 123, .int .u64 (lo : Nat), .int .u64 (hi : Nat), .bool nl] 24))
      have HX1 := HX i HLT.out _ (HG.out.next HBA.out) _ (ar_one lo hi nl) _ (imm_own W12 (i : Int) _)
      have HDA := hid ((HD12.out.alloc (.cells #[.int .i64 (i : Int)] 3)).alloc (.cells #[.int .i64 123, .int .u64 (lo : Nat), .int .u64 (hi : Nat), .bool nl] 24))
      clear HB12 HI12 HC12 HD12
      go_upto_region 20 with (go_at_call 20; (with_reducible refine HX1.out.mono ?_); rintro e w13 ⟨rfl, hb13⟩; have HI13 := hid (HIA.out.trans (hb13.mono HIA.out.size)); have HD13 := hid (HDA.out.call hb13); clear hb13)
      clear e0 e1 e2 e3 HX1 HBA HDA HIA
      obtain ⟨x, hx⟩ : ∃ x, x = splitF 16 lo hi i := ⟨_, rfl⟩
      rw [← hx]
      have HI14 := hid (HI13.out.alloc HI13.out.size (.cells #[.int .i64 127, .int .u64 (x : Nat), .int .u64 0, .bool false] 24))
      have HD14 := hid (HD13.out.alloc (.cells #[.int .i64 127, .int .u64 (x : Nat), .int .u64 0, .bool false] 24))
      have HE14 := hid (CA.new w13 #[.int .i64 127, .int .u64 (x : Nat), .int .u64 0, .bool false] 24)
      clear HI13 HD13
      have HXX := hid hx
      clear hx
      generalize w13.alloc (.cells #[.int .i64 127, .int .u64 (x : Nat), .int .u64 0, .bool false] 24) = W14 at *
      generalize w13.heap.size = g13 at *
      have d0 := HD14.out.at (k := 0) (v := .int .i64 127) rfl
      have d1 := HD14.out.at (k := 1) (v := .int .u64 (y : Nat)) rfl
      have d2 := HD14.out.at (k := 2) (v := .int .u64 0) rfl
      have d3 := HD14.out.at (k := 3) (v := .bool false) rfl
      have c0 := HE14.out.at (k := 0) (v := .int .i64 127) rfl
      have c1 := HE14.out.at (k := 1) (v := .int .u64 (x : Nat)) rfl
      have c2 := HE14.out.at (k := 2) (v := .int .u64 0) rfl
      have c3 := HE14.out.at (k := 3) (v := .bool false) rfl
      have hyx := HLN.out i HLT.out
      rw [← HYY.out, ← HXX.out] at hyx
      by_cases hia : i = at_
      · rw [if_pos hia] at hyx
        have HM := HAND.out
        rw [← hyx] at HM
        have q0 : ((i : Int) != (at_ : Int)) = false := by rw [hia]; simp
        have q1 : ((i : Int) == (at_ : Int)) = true := by rw [hia]; simp
        clear hyx HYY HXX hia
        go_wp2
        go_roundw
        case rel => exact ⟨i + 1, HLT.out, by go_num, HI14⟩
        case measure => (simp [intOf]; have := HLT.out; omega)
      · rw [if_neg hia] at hyx
        subst hyx
        have q0 : ((i : Int) != (at_ : Int)) = true := by simpa using fun h : (i : Int) = at_ => hia (by omega)
        have q1 : ((i : Int) == (at_ : Int)) = false := by simpa using fun h : (i : Int) = at_ => hia (by omega)
        clear hia
        go_wp2
        go_roundw
        case rel => exact ⟨i + 1, HLT.out, by go_num, HI14⟩
        case measure => (simp [intOf]; have := HLT.out; omega)
    · obtain rfl : i = 8 := by omega
      have e0 := fun o => (HCr.out.alloc o).at (k := 0) (v := .int .i64 123) rfl
      have e1 := fun o => (HCr.out.alloc o).at (k := 1) (v := .int .u64 (lo : Nat)) rfl
      have e2 := fun o => (HCr.out.alloc o).at (k := 2) (v := .int .u64 (hi : Nat)) rfl
      have e3 := fun o => (HCr.out.alloc o).at (k := 3) (v := .bool nl) rfl
      have HBA := hid ((HBr.out.alloc HBr.out.size (.cells #[.int .i64 8] 3)).alloc (by have := HBr.out.size; rw [size_al]; omega) (.cells #[.int .i64 123, .int .u64 (lo : Nat), .int .u64 (hi : Nat), .bool nl] 24))
      have hc0 := ((CA.new wr #[.int .i64 8] 3).alloc (.cells #[.int .i64 123, .int .u64 (lo : Nat), .int .u64 (hi : Nat), .bool nl] 24)).at (k := 0) (v := .int .i64 8) rfl
      have HZ1 := HZ _ (HG.out.next HBA.out) (.slice (some ⟨wr.heap.size + 1, 0, none⟩) 1 1) wr.heap.size 1 hc0
      clear hc0 HCr HDr HBr
      go_wp2_with (go_at_call 20; (with_reducible refine HZ1.out.mono ?_); rintro e w15 ⟨rfl, hb15⟩; have HB15 := hid (HBA.out.trans (hb15.mono HBA.out.size)); clear hb15)
      go_ret
      exact ⟨rfl, HB15.out.alloc HB15.out.size _⟩
theorem ln_x32 : chkLn false 64795 32 127 = true := by kernel_rfl
theorem ln_r32 : chkLn true 64796 32 127 = true := by kernel_rfl
set_option maxHeartbeats 8000000 in
theorem law_Rep32 (ta : Int) (lo hi : Nat) (nl : Bool) (h1 : lo < 18446744073709551616) (h2 : hi < 18446744073709551616) (which lane : Int) (nn : Nat) (hnn : nn < 18446744073709551616) (hk : bits .and .i64 which 3 = 2) (at_ : Nat) (hat : at_ < 4) (hla : bits .and .i64 lane 3 = (at_ : Int)) (w : World) (hg : Glob w) :
    Calls Tryz.prog 3 #[vv ta lo hi nl, .int .i64 which, .int .i64 lane, .int .u64 (nn : Nat)] w fun e w' => e = .returned (.bool true) ∧ Below w.heap.size w w' := by
  have hn : Okn 32 := .inr (.inr (.inl rfl))
  have PX := LN_of false 64795 32 127 ln_x32
  have PR := LN_of true 64796 32 127 ln_r32
  have HA := fun W h => hid (awake_says W h)
  have HR := fun W hg va ha gi hI => hid (Rep_do 64796 (by decide) 32 hn 127 (by decide) _ PR at_ hat lo hi nn nl h1 h2 hnn W hg va ha gi 0 hI)
  obtain ⟨lo2, hlo2⟩ : ∃ x, x = loF 32 (fun i => if i = at_ then nn else splitF 32 lo hi i) := ⟨_, rfl⟩
  obtain ⟨hi2, hhi2⟩ : ∃ x, x = hiF 32 (fun i => if i = at_ then nn else splitF 32 lo hi i) := ⟨_, rfl⟩
  have HLN := hid (fun i (h : i < 4) => Rep_lane hn at_ i lo hi nn h)
  rw [← hlo2, ← hhi2] at HR HLN
  have hl2 : lo2 < 18446744073709551616 := by rw [hlo2]; exact loF_lt hn _
  have hh2 : hi2 < 18446744073709551616 := by rw [hhi2]; exact hiF_lt hn _
  have HX := fun i (h : i < 4) W hg va ha gi hI => hid (Ext_do 64795 (by decide) 32 hn 127 (.inl ⟨rfl, by decide⟩) _ PX i h lo hi nl h1 h2 W hg va ha gi 0 hI)
  have HY := fun i (h : i < 4) W hg va ha gi hI => hid (Ext_do 64795 (by decide) 32 hn 127 (.inl ⟨rfl, by decide⟩) _ PX i h lo2 hi2 false hl2 hh2 W hg va ha gi 0 hI)
  have HZ := fun W hg va gi ci hgi => hid (Ext_bad 64795 (by decide) 32 127 _ PX W hg va gi ci hgi)
  have HAND : Hid (bits .and .u64 (nn : Int) 4294967295 = ((nn % 2 ^ 32 : Nat) : Int)) := by
    have := bits_and_u64_nat nn 4294967295 hnn (by decide)
    rw [show (4294967295 : Nat) = 2 ^ 32 - 1 from rfl, Nat.and_two_pow_sub_one_eq_mod] at this
    exact this
  have HG := hid hg
  unfold vv at HR HX HY HZ ⊢
  clear PX PR hlo2 hhi2 hl2 hh2 h1 h2 hnn hn hg
  have HS0 := hid (CA.new w #[.int .i64 ta, .int .u64 (lo : Nat), .int .u64 (hi : Nat), .bool nl] 24)
  go_enter Tryz.func3, Tryz.ntmps3
  go_upto_region 4 with (go_at_call 19; (with_reducible refine (HA _ (HG.out.next ((Below.refl _ w).alloc (Nat.le_refl _) _))).out.mono ?_); rintro e w1 ⟨rfl, hb1⟩; have HB1 := hid (((Below.refl _ w).alloc (Nat.le_refl _) (.cells #[.int .i64 ta, .int .u64 (lo : Nat), .int .u64 (hi : Nat), .bool nl] 24)).trans (hb1.mono (by simp))); have HC1 := hid (HS0.out.call hb1); clear hb1)
  have e0 := HC1.out.at (k := 0) (v := .int .i64 ta) rfl
  have f0 := HC1.out.free 0
  go_upto_region 5 with fail
  have HB4 := hid (HB1.out.setCell (p := ⟨w.heap.size, 0, none⟩) (Nat.le_refl _) (.int .i64 123))
  have HC4 : Hid (CA w.heap.size #[.int .i64 123, .int .u64 (lo : Nat), .int .u64 (hi : Nat), .bool nl] 24 (w1.setCell ⟨w.heap.size, 0, none⟩ (.int .i64 123))) := HC1.out.set (k := 0) (.int .i64 123)
  clear e0 f0 HB1 HC1 HS0 HA
  generalize w1.setCell ⟨w.heap.size, 0, none⟩ (.int .i64 123) = W4 at *
  go_upto_region 6 with fail
  have hL := (CA.new W4 #[.int .i64 64790, .int .i64 64793, .int .i64 64795, .int .i64 64797] 3).at (k := 2) (v := .int .i64 64795) rfl
  go_upto_region 7 with fail
  have HB5 := hid (HB4.out.alloc HB4.out.size (.cells #[.int .i64 64790, .int .i64 64793, .int .i64 64795, .int .i64 64797] 3))
  have HC5 := hid (HC4.out.alloc (.cells #[.int .i64 64790, .int .i64 64793, .int .i64 64795, .int .i64 64797] 3))
  clear hL HB4 HC4
  generalize W4.alloc (.cells #[.int .i64 64790, .int .i64 64793, .int .i64 64795, .int .i64 64797] 3) = W5 at *
  have hL := (CA.new W5 #[.int .i64 64791, .int .i64 64794, .int .i64 64796, .int .i64 64798] 3).at (k := 2) (v := .int .i64 64796) rfl
  go_upto_region 8 with fail
  have HB6 := hid (HB5.out.alloc HB5.out.size (.cells #[.int .i64 64791, .int .i64 64794, .int .i64 64796, .int .i64 64798] 3))
  have HC6 := hid (HC5.out.alloc (.cells #[.int .i64 64791, .int .i64 64794, .int .i64 64796, .int .i64 64798] 3))
  clear hL HB5 HC5
  generalize W5.alloc (.cells #[.int .i64 64791, .int .i64 64794, .int .i64 64796, .int .i64 64798] 3) = W6 at *
  have hL := (CA.new W6 #[.int .i64 8, .int .i64 16, .int .i64 32, .int .i64 64] 3).at (k := 2) (v := .int .i64 32) rfl
  go_upto_region 9 with fail
  have HB7 := hid (HB6.out.alloc HB6.out.size (.cells #[.int .i64 8, .int .i64 16, .int .i64 32, .int .i64 64] 3))
  have HC7 := hid (HC6.out.alloc (.cells #[.int .i64 8, .int .i64 16, .int .i64 32, .int .i64 64] 3))
  clear hL HB6 HC6
  generalize W6.alloc (.cells #[.int .i64 8, .int .i64 16, .int .i64 32, .int .i64 64] 3) = W7 at *
  have hL := (CA.new W7 #[.int .i64 127, .int .i64 127, .int .i64 127, .int .i64 126] 3).at (k := 2) (v := .int .i64 127) rfl
  go_upto_region 10 with fail
  have HB8 := hid (HB7.out.alloc HB7.out.size (.cells #[.int .i64 127, .int .i64 127, .int .i64 127, .int .i64 126] 3))
  have HC8 := hid (HC7.out.alloc (.cells #[.int .i64 127, .int .i64 127, .int .i64 127, .int .i64 126] 3))
  clear hL HB7 HC7
  generalize W7.alloc (.cells #[.int .i64 127, .int .i64 127, .int .i64 127, .int .i64 126] 3) = W8 at *
  go_upto_region 11 with fail
  go_upto_region 12 with fail
  have e0 := fun o => (HC8.out.alloc o).at (k := 0) (v := .int .i64 123) rfl
  have e1 := fun o => (HC8.out.alloc o).at (k := 1) (v := .int .u64 (lo : Nat)) rfl
  have e2 := fun o => (HC8.out.alloc o).at (k := 2) (v := .int .u64 (hi : Nat)) rfl
  have e3 := fun o => (HC8.out.alloc o).at (k := 3) (v := .bool nl) rfl
  have HBA := hid ((HB8.out.alloc HB8.out.size (.cells #[.int .i64 (at_ : Int)] 3)).alloc (by have := HB8.out.size; rw [size_al]; omega) (.cells #[.int .i64 123, .int .u64 (lo : Nat), .int .u64 (hi : Nat), .bool nl, .int .i64 127, .int .u64 (nn : Nat), .int .u64 0, .bool false] 24))
  have HR1 := HR _ (HG.out.next HBA.out) _ (ar_vn lo hi nn nl 127) _ (imm_own W8 (at_ : Int) _)
  have HCA := hid ((HC8.out.alloc (.cells #[.int .i64 (at_ : Int)] 3)).alloc (.cells #[.int .i64 123, .int .u64 (lo : Nat), .int .u64 (hi : Nat), .bool nl, .int .i64 127, .int .u64 (nn : Nat), .int .u64 0, .bool false] 24))
  clear HB8 HC8 HR
  go_upto_region 13 with (go_at_call 20; (with_reducible refine HR1.out.mono ?_); rintro e w9 ⟨rfl, hb9⟩; have HB9 := hid (HBA.out.trans (hb9.mono HBA.out.size)); have HC9 := hid (HCA.out.call hb9); clear hb9)
  have HB10 := hid (HB9.out.alloc HB9.out.size (.cells #[.int .i64 123, .int .u64 (lo2 : Nat), .int .u64 (hi2 : Nat), .bool false] 24))
  have HC10 := hid (HC9.out.alloc (.cells #[.int .i64 123, .int .u64 (lo2 : Nat), .int .u64 (hi2 : Nat), .bool false] 24))
  have HD10 := hid (CA.new w9 #[.int .i64 123, .int .u64 (lo2 : Nat), .int .u64 (hi2 : Nat), .bool false] 24)
  clear e0 e1 e2 e3 HR1 HBA HCA HB9 HC9
  generalize w9.alloc (.cells #[.int .i64 123, .int .u64 (lo2 : Nat), .int .u64 (hi2 : Nat), .bool false] 24) = W10 at *
  generalize w9.heap.size = g9 at *
  go_wp2
  go_loopw [19] (fun vi wr => ∃ i : Nat, i ≤ 4 ∧ vi = .int .i64 i ∧ Hid (Below W10.heap.size W10 wr)) (fun vi _ => 4 - (intOf vi).toNat)
  case atStart => exact ⟨0, by decide, rfl, Below.refl _ _⟩
  case round =>
    obtain ⟨i, hin, rfl, HI⟩ := hrel
    have HBr := hid (HB10.out.trans (HI.out.mono HB10.out.size))
    have HCr := hid (HC10.out.call HI.out)
    have HDr := hid (HD10.out.call HI.out)
    by_cases hlt : i < 4
    · have HLT := hid hlt
      have e0 := fun o => (HDr.out.alloc o).at (k := 0) (v := .int .i64 123) rfl
      have e1 := fun o => (HDr.out.alloc o).at (k := 1) (v := .int .u64 (lo2 : Nat)) rfl
      have e2 := fun o => (HDr.out.alloc o).at (k := 2) (v := .int .u64 (hi2 : Nat)) rfl
      have e3 := fun o => (HDr.out.alloc o).at (k := 3) (v := .bool false) rfl
      have HBA := hid ((HBr.out.alloc HBr.out.size (.cells #[.int .i64 (i : Int)] 3)).alloc (by have := HBr.out.size; rw [size_al]; omega) (.cells #[.int .i64 123, .int .u64 (lo2 : Nat), .int .u64 (hi2 : Nat), .bool false] 24))
      have HIA := hid ((HI.out.alloc HI.out.size (.cells #[.int .i64 (i : Int)] 3)).alloc (by have := HI.out.size; rw [size_al]; omega) (.cells #[.int .i64 123, .int .u64 (lo2 : Nat), .int .u64 (hi2 : Nat), .bool false] 24))
      have HY1 := HY i hlt _ (HG.out.next HBA.out) _ (ar_one lo2 hi2 false) _ (imm_own wr (i : Int) _)
      have HCA := hid ((HCr.out.alloc (.cells #[.int .i64 (i : Int)] 3)).alloc (.cells #[.int .i64 123, .int .u64 (lo2 : Nat), .int .u64 (hi2 : Nat), .bool false] 24))
      go_upto_region 19 with (go_at_call 20; (with_reducible refine HY1.out.mono ?_); rintro e w11 ⟨rfl, hb11⟩; have HB11 := hid (HBA.out.trans (hb11.mono HBA.out.size)); have HI11 := hid (HIA.out.trans (hb11.mono HIA.out.size)); have HC11 := hid (HCA.out.call hb11); clear hb11)
      clear e0 e1 e2 e3 HY1 HBA HCA HCr HDr HBr HIA
      obtain ⟨y, hy⟩ : ∃ y, y = splitF 32 lo2 hi2 i := ⟨_, rfl⟩
      rw [← hy]
      have HB12 := hid (HB11.out.alloc HB11.out.size (.cells #[.int .i64 127, .int .u64 (y : Nat), .int .u64 0, .bool false] 24))
      have HI12 := hid (HI11.out.alloc HI11.out.size (.cells #[.int .i64 127, .int .u64 (y : Nat), .int .u64 0, .bool false] 24))
      have HC12 := hid (HC11.out.alloc (.cells #[.int .i64 127, .int .u64 (y : Nat), .int .u64 0, .bool false] 24))
      have HD12 := hid (CA.new w11 #[.int .i64 127, .int .u64 (y : Nat), .int .u64 0, .bool false] 24)
      clear HB11 HI11 HC11
      have HYY := hid hy
      clear hy
      generalize w11.alloc (.cells #[.int .i64 127, .int .u64 (y : Nat), .int .u64 0, .bool false] 24) = W12 at *
      generalize w11.heap.size = g11 at *
      have e0 := fun o => (HC12.out.alloc o).at (k := 0) (v := .int .i64 123) rfl
      have e1 := fun o => (HC12.out.alloc o).at (k := 1) (v := .int .u64 (lo : Nat)) rfl
      have e2 := fun o => (HC12.out.alloc o).at (k := 2) (v := .int .u64 (hi : Nat)) rfl
      have e3 := fun o => (HC12.out.alloc o).at (k := 3) (v := .bool nl) rfl
      have HBA := hid ((HB12.out.alloc HB12.out.size (.cells #[.int .i64 (i : Int)] 3)).alloc (by have := HB12.out.size; rw [size_al]; omega) (.cells #[.int .i64 123, .int .u64 (lo : Nat), .int .u64 (hi : Nat), .bool nl] 24))
      have HIA := hid ((HI12.out.alloc HI12.out.size (.cells #[.int .i64 (i : Int)] 3)).alloc (by have := HI12.out.size; rw [size_al]; omega) (.cells #[.int .i64 123, .int .u64 (lo : Nat), .int .u64 (hi : Nat), .bool nl] 24))
      have HX1 := HX i HLT.out _ (HG.out.next HBA.out) _ (ar_one lo hi nl) _ (imm_own W12 (i : Int) _)
      have HDA := hid ((HD12.out.alloc (.cells #[.int .i64 (i : Int)] 3)).alloc (.cells #[.int .i64 123, .int .u64 (lo : Nat), .int .u64 (hi : Nat), .bool nl] 24))
      clear HB12 HI12 HC12 HD12
      go_upto_region 20 with (go_at_call 20; (with_reducible refine HX1.out.mono ?_); rintro e w13 ⟨rfl, hb13⟩; have HI13 := hid (HIA.out.trans (hb13.mono HIA.out.size)); have HD13 := hid (HDA.out.call hb13); clear hb13)
      clear e0 e1 e2 e3 HX1 HBA HDA HIA
      obtain ⟨x, hx⟩ : ∃ x, x = splitF 32 lo hi i := ⟨_, rfl⟩
      rw [← hx]
      have HI14 := hid (HI13.out.alloc HI13.out.size (.cells #[.int .i64 127, .int .u64 (x : Nat), .int .u64 0, .bool false] 24))
      have HD14 := hid (HD13.out.alloc (.cells #[.int .i64 127, .int .u64 (x : Nat), .int .u64 0, .bool false] 24))
      have HE14 := hid (CA.new w13 #[.int .i64 127, .int .u64 (x : Nat), .int .u64 0, .bool false] 24)
      clear HI13 HD13
      have HXX := hid hx
      clear hx
      generalize w13.alloc (.cells #[.int .i64 127, .int .u64 (x : Nat), .int .u64 0, .bool false] 24) = W14 at *
      generalize w13.heap.size = g13 at *
      have d0 := HD14.out.at (k := 0) (v := .int .i64 127) rfl
      have d1 := HD14.out.at (k := 1) (v := .int .u64 (y : Nat)) rfl
      have d2 := HD14.out.at (k := 2) (v := .int .u64 0) rfl
      have d3 := HD14.out.at (k := 3) (v := .bool false) rfl
      have c0 := HE14.out.at (k := 0) (v := .int .i64 127) rfl
      have c1 := HE14.out.at (k := 1) (v := .int .u64 (x : Nat)) rfl
      have c2 := HE14.out.at (k := 2) (v := .int .u64 0) rfl
      have c3 := HE14.out.at (k := 3) (v := .bool false) rfl
      have hyx := HLN.out i HLT.out
      rw [← HYY.out, ← HXX.out] at hyx
      by_cases hia : i = at_
      · rw [if_pos hia] at hyx
        have HM := HAND.out
        rw [← hyx] at HM
        have q0 : ((i : Int) != (at_ : Int)) = false := by rw [hia]; simp
        have q1 : ((i : Int) == (at_ : Int)) = true := by rw [hia]; simp
        clear hyx HYY HXX hia
        go_wp2
        go_roundw
        case rel => exact ⟨i + 1, HLT.out, by go_num, HI14⟩
        case measure => (simp [intOf]; have := HLT.out; omega)
      · rw [if_neg hia] at hyx
        subst hyx
        have q0 : ((i : Int) != (at_ : Int)) = true := by simpa using fun h : (i : Int) = at_ => hia (by omega)
        have q1 : ((i : Int) == (at_ : Int)) = false := by simpa using fun h : (i : Int) = at_ => hia (by omega)
        clear hia
        go_wp2
        go_roundw
        case rel => exact ⟨i + 1, HLT.out, by go_num, HI14⟩
        case measure => (simp [intOf]; have := HLT.out; omega)
    · obtain rfl : i = 4 := by omega
      have e0 := fun o => (HCr.out.alloc o).at (k := 0) (v := .int .i64 123) rfl
      have e1 := fun o => (HCr.out.alloc o).at (k := 1) (v := .int .u64 (lo : Nat)) rfl
      have e2 := fun o => (HCr.out.alloc o).at (k := 2) (v := .int .u64 (hi : Nat)) rfl
      have e3 := fun o => (HCr.out.alloc o).at (k := 3) (v := .bool nl) rfl
      have HBA := hid ((HBr.out.alloc HBr.out.size (.cells #[.int .i64 4] 3)).alloc (by have := HBr.out.size; rw [size_al]; omega) (.cells #[.int .i64 123, .int .u64 (lo : Nat), .int .u64 (hi : Nat), .bool nl] 24))
      have hc0 := ((CA.new wr #[.int .i64 4] 3).alloc (.cells #[.int .i64 123, .int .u64 (lo : Nat), .int .u64 (hi : Nat), .bool nl] 24)).at (k := 0) (v := .int .i64 4) rfl
      have HZ1 := HZ _ (HG.out.next HBA.out) (.slice (some ⟨wr.heap.size + 1, 0, none⟩) 1 1) wr.heap.size 1 hc0
      clear hc0 HCr HDr HBr
      go_wp2_with (go_at_call 20; (with_reducible refine HZ1.out.mono ?_); rintro e w15 ⟨rfl, hb15⟩; have HB15 := hid (HBA.out.trans (hb15.mono HBA.out.size)); clear hb15)
      go_ret
      exact ⟨rfl, HB15.out.alloc HB15.out.size _⟩
theorem ln_x64 : chkLn false 64797 64 126 = true := by kernel_rfl
theorem ln_r64 : chkLn true 64798 64 126 = true := by kernel_rfl
set_option maxHeartbeats 8000000 in
theorem law_Rep64 (ta : Int) (lo hi : Nat) (nl : Bool) (h1 : lo < 18446744073709551616) (h2 : hi < 18446744073709551616) (which lane : Int) (nn : Nat) (hnn : nn < 18446744073709551616) (hk : bits .and .i64 which 3 = 3) (at_ : Nat) (hat : at_ < 2) (hla : bits .and .i64 lane 1 = (at_ : Int)) (w : World) (hg : Glob w) :
    Calls Tryz.prog 3 #[vv ta lo hi nl, .int .i64 which, .int .i64 lane, .int .u64 (nn : Nat)] w fun e w' => e = .returned (.bool true) ∧ Below w.heap.size w w' := by
  have hn : Okn 64 := .inr (.inr (.inr rfl))
  have PX := LN_of false 64797 64 126 ln_x64
  have PR := LN_of true 64798 64 126 ln_r64
  have HA := fun W h => hid (awake_says W h)
  have HR := fun W hg va ha gi hI => hid (Rep_do 64798 (by decide) 64 hn 126 (by decide) _ PR at_ hat lo hi nn nl h1 h2 hnn W hg va ha gi 0 hI)
  obtain ⟨lo2, hlo2⟩ : ∃ x, x = loF 64 (fun i => if i = at_ then nn else splitF 64 lo hi i) := ⟨_, rfl⟩
  obtain ⟨hi2, hhi2⟩ : ∃ x, x = hiF 64 (fun i => if i = at_ then nn else splitF 64 lo hi i) := ⟨_, rfl⟩
  have HLN := hid (fun i (h : i < 2) => Rep_lane hn at_ i lo hi nn h)
  rw [← hlo2, ← hhi2] at HR HLN
  have hl2 : lo2 < 18446744073709551616 := by rw [hlo2]; exact loF_lt hn _
  have hh2 : hi2 < 18446744073709551616 := by rw [hhi2]; exact hiF_lt hn _
  have HX := fun i (h : i < 2) W hg va ha gi hI => hid (Ext_do 64797 (by decide) 64 hn 126 (.inr rfl) _ PX i h lo hi nl h1 h2 W hg va ha gi 0 hI)
  have HY := fun i (h : i < 2) W hg va ha gi hI => hid (Ext_do 64797 (by decide) 64 hn 126 (.inr rfl) _ PX i h lo2 hi2 false hl2 hh2 W hg va ha gi 0 hI)
  have HZ := fun W hg va gi ci hgi => hid (Ext_bad 64797 (by decide) 64 126 _ PX W hg va gi ci hgi)
  have HAND : Hid (bits .and .u64 (nn : Int) 18446744073709551615 = ((nn % 2 ^ 64 : Nat) : Int)) := by
    have := bits_and_u64_nat nn 18446744073709551615 hnn (by decide)
    rw [show (18446744073709551615 : Nat) = 2 ^ 64 - 1 from rfl, Nat.and_two_pow_sub_one_eq_mod] at this
    exact this
  have HG := hid hg
  unfold vv at HR HX HY HZ ⊢
  clear PX PR hlo2 hhi2 hl2 hh2 h1 h2 hnn hn hg
  have HS0 := hid (CA.new w #[.int .i64 ta, .int .u64 (lo : Nat), .int .u64 (hi : Nat), .bool nl] 24)
  go_enter Tryz.func3, Tryz.ntmps3
  go_upto_region 4 with (go_at_call 19; (with_reducible refine (HA _ (HG.out.next ((Below.refl _ w).alloc (Nat.le_refl _) _))).out.mono ?_); rintro e w1 ⟨rfl, hb1⟩; have HB1 := hid (((Below.refl _ w).alloc (Nat.le_refl _) (.cells #[.int .i64 ta, .int .u64 (lo : Nat), .int .u64 (hi : Nat), .bool nl] 24)).trans (hb1.mono (by simp))); have HC1 := hid (HS0.out.call hb1); clear hb1)
  have e0 := HC1.out.at (k := 0) (v := .int .i64 ta) rfl
  have f0 := HC1.out.free 0
  go_upto_region 5 with fail
  have HB4 := hid (HB1.out.setCell (p := ⟨w.heap.size, 0, none⟩) (Nat.le_refl _) (.int .i64 123))
  have HC4 : Hid (CA w.heap.size #[.int .i64 123, .int .u64 (lo : Nat), .int .u64 (hi : Nat), .bool nl] 24 (w1.setCell ⟨w.heap.size, 0, none⟩ (.int .i64 123))) := HC1.out.set (k := 0) (.int .i64 123)
  clear e0 f0 HB1 HC1 HS0 HA
  generalize w1.setCell ⟨w.heap.size, 0, none⟩ (.int .i64 123) = W4 at *
  go_upto_region 6 with fail
  have hL := (CA.new W4 #[.int .i64 64790, .int .i64 64793, .int .i64 64795, .int .i64 64797] 3).at (k := 3) (v := .int .i64 64797) rfl
  go_upto_region 7 with fail
  have HB5 := hid (HB4.out.alloc HB4.out.size (.cells #[.int .i64 64790, .int .i64 64793, .int .i64 64795, .int .i64 64797] 3))
  have HC5 := hid (HC4.out.alloc (.cells #[.int .i64 64790, .int .i64 64793, .int .i64 64795, .int .i64 64797] 3))
  clear hL HB4 HC4
  generalize W4.alloc (.cells #[.int .i64 64790, .int .i64 64793, .int .i64 64795, .int .i64 64797] 3) = W5 at *
  have hL := (CA.new W5 #[.int .i64 64791, .int .i64 64794, .int .i64 64796, .int .i64 64798] 3).at (k := 3) (v := .int .i64 64798) rfl
  go_upto_region 8 with fail
  have HB6 := hid (HB5.out.alloc HB5.out.size (.cells #[.int .i64 64791, .int .i64 64794, .int .i64 64796, .int .i64 64798] 3))
  have HC6 := hid (HC5.out.alloc (.cells #[.int .i64 64791, .int .i64 64794, .int .i64 64796, .int .i64 64798] 3))
  clear hL HB5 HC5
  generalize W5.alloc (.cells #[.int .i64 64791, .int .i64 64794, .int .i64 64796, .int .i64 64798] 3) = W6 at *
  have hL := (CA.new W6 #[.int .i64 8, .int .i64 16, .int .i64 32, .int .i64 64] 3).at (k := 3) (v := .int .i64 64) rfl
  go_upto_region 9 with fail
  have HB7 := hid (HB6.out.alloc HB6.out.size (.cells #[.int .i64 8, .int .i64 16, .int .i64 32, .int .i64 64] 3))
  have HC7 := hid (HC6.out.alloc (.cells #[.int .i64 8, .int .i64 16, .int .i64 32, .int .i64 64] 3))
  clear hL HB6 HC6
  generalize W6.alloc (.cells #[.int .i64 8, .int .i64 16, .int .i64 32, .int .i64 64] 3) = W7 at *
  have hL := (CA.new W7 #[.int .i64 127, .int .i64 127, .int .i64 127, .int .i64 126] 3).at (k := 3) (v := .int .i64 126) rfl
  go_upto_region 10 with fail
  have HB8 := hid (HB7.out.alloc HB7.out.size (.cells #[.int .i64 127, .int .i64 127, .int .i64 127, .int .i64 126] 3))
  have HC8 := hid (HC7.out.alloc (.cells #[.int .i64 127, .int .i64 127, .int .i64 127, .int .i64 126] 3))
  clear hL HB7 HC7
  generalize W7.alloc (.cells #[.int .i64 127, .int .i64 127, .int .i64 127, .int .i64 126] 3) = W8 at *
  go_upto_region 11 with fail
  go_upto_region 12 with fail
  have e0 := fun o => (HC8.out.alloc o).at (k := 0) (v := .int .i64 123) rfl
  have e1 := fun o => (HC8.out.alloc o).at (k := 1) (v := .int .u64 (lo : Nat)) rfl
  have e2 := fun o => (HC8.out.alloc o).at (k := 2) (v := .int .u64 (hi : Nat)) rfl
  have e3 := fun o => (HC8.out.alloc o).at (k := 3) (v := .bool nl) rfl
  have HBA := hid ((HB8.out.alloc HB8.out.size (.cells #[.int .i64 (at_ : Int)] 3)).alloc (by have := HB8.out.size; rw [size_al]; omega) (.cells #[.int .i64 123, .int .u64 (lo : Nat), .int .u64 (hi : Nat), .bool nl, .int .i64 126, .int .u64 (nn : Nat), .int .u64 0, .bool false] 24))
  have HR1 := HR _ (HG.out.next HBA.out) _ (ar_vn lo hi nn nl 126) _ (imm_own W8 (at_ : Int) _)
  have HCA := hid ((HC8.out.alloc (.cells #[.int .i64 (at_ : Int)] 3)).alloc (.cells #[.int .i64 123, .int .u64 (lo : Nat), .int .u64 (hi : Nat), .bool nl, .int .i64 126, .int .u64 (nn : Nat), .int .u64 0, .bool false] 24))
  clear HB8 HC8 HR
  go_upto_region 13 with (go_at_call 20; (with_reducible refine HR1.out.mono ?_); rintro e w9 ⟨rfl, hb9⟩; have HB9 := hid (HBA.out.trans (hb9.mono HBA.out.size)); have HC9 := hid (HCA.out.call hb9); clear hb9)
  have HB10 := hid (HB9.out.alloc HB9.out.size (.cells #[.int .i64 123, .int .u64 (lo2 : Nat), .int .u64 (hi2 : Nat), .bool false] 24))
  have HC10 := hid (HC9.out.alloc (.cells #[.int .i64 123, .int .u64 (lo2 : Nat), .int .u64 (hi2 : Nat), .bool false] 24))
  have HD10 := hid (CA.new w9 #[.int .i64 123, .int .u64 (lo2 : Nat), .int .u64 (hi2 : Nat), .bool false] 24)
  clear e0 e1 e2 e3 HR1 HBA HCA HB9 HC9
  generalize w9.alloc (.cells #[.int .i64 123, .int .u64 (lo2 : Nat), .int .u64 (hi2 : Nat), .bool false] 24) = W10 at *
  generalize w9.heap.size = g9 at *
  go_wp2
  go_loopw [19] (fun vi wr => ∃ i : Nat, i ≤ 2 ∧ vi = .int .i64 i ∧ Hid (Below W10.heap.size W10 wr)) (fun vi _ => 2 - (intOf vi).toNat)
  case atStart => exact ⟨0, by decide, rfl, Below.refl _ _⟩
  case round =>
    obtain ⟨i, hin, rfl, HI⟩ := hrel
    have HBr := hid (HB10.out.trans (HI.out.mono HB10.out.size))
    have HCr := hid (HC10.out.call HI.out)
    have HDr := hid (HD10.out.call HI.out)
    by_cases hlt : i < 2
    · have HLT := hid hlt
      have e0 := fun o => (HDr.out.alloc o).at (k := 0) (v := .int .i64 123) rfl
      have e1 := fun o => (HDr.out.alloc o).at (k := 1) (v := .int .u64 (lo2 : Nat)) rfl
      have e2 := fun o => (HDr.out.alloc o).at (k := 2) (v := .int .u64 (hi2 : Nat)) rfl
      have e3 := fun o => (HDr.out.alloc o).at (k := 3) (v := .bool false) rfl
      have HBA := hid ((HBr.out.alloc HBr.out.size (.cells #[.int .i64 (i : Int)] 3)).alloc (by have := HBr.out.size; rw [size_al]; omega) (.cells #[.int .i64 123, .int .u64 (lo2 : Nat), .int .u64 (hi2 : Nat), .bool false] 24))
      have HIA := hid ((HI.out.alloc HI.out.size (.cells #[.int .i64 (i : Int)] 3)).alloc (by have := HI.out.size; rw [size_al]; omega) (.cells #[.int .i64 123, .int .u64 (lo2 : Nat), .int .u64 (hi2 : Nat), .bool false] 24))
      have HY1 := HY i hlt _ (HG.out.next HBA.out) _ (ar_one lo2 hi2 false) _ (imm_own wr (i : Int) _)
      have HCA := hid ((HCr.out.alloc (.cells #[.int .i64 (i : Int)] 3)).alloc (.cells #[.int .i64 123, .int .u64 (lo2 : Nat), .int .u64 (hi2 : Nat), .bool false] 24))
      go_upto_region 19 with (go_at_call 20; (with_reducible refine HY1.out.mono ?_); rintro e w11 ⟨rfl, hb11⟩; have HB11 := hid (HBA.out.trans (hb11.mono HBA.out.size)); have HI11 := hid (HIA.out.trans (hb11.mono HIA.out.size)); have HC11 := hid (HCA.out.call hb11); clear hb11)
      clear e0 e1 e2 e3 HY1 HBA HCA HCr HDr HBr HIA
      obtain ⟨y, hy⟩ : ∃ y, y = splitF 64 lo2 hi2 i := ⟨_, rfl⟩
      rw [← hy]
      have HB12 := hid (HB11.out.alloc HB11.out.size (.cells #[.int .i64 126, .int .u64 (y : Nat), .int .u64 0, .bool false] 24))
      have HI12 := hid (HI11.out.alloc HI11.out.size (.cells #[.int .i64 126, .int .u64 (y : Nat), .int .u64 0, .bool false] 24))
      have HC12 := hid (HC11.out.alloc (.cells #[.int .i64 126, .int .u64 (y : Nat), .int .u64 0, .bool false] 24))
      have HD12 := hid (CA.new w11 #[.int .i64 126, .int .u64 (y : Nat), .int .u64 0, .bool false] 24)
      clear HB11 HI11 HC11
      have HYY := hid hy
      clear hy
      generalize w11.alloc (.cells #[.int .i64 126, .int .u64 (y : Nat), .int .u64 0, .bool false] 24) = W12 at *
      generalize w11.heap.size = g11 at *
      have e0 := fun o => (HC12.out.alloc o).at (k := 0) (v := .int .i64 123) rfl
      have e1 := fun o => (HC12.out.alloc o).at (k := 1) (v := .int .u64 (lo : Nat)) rfl
      have e2 := fun o => (HC12.out.alloc o).at (k := 2) (v := .int .u64 (hi : Nat)) rfl
      have e3 := fun o => (HC12.out.alloc o).at (k := 3) (v := .bool nl) rfl
      have HBA := hid ((HB12.out.alloc HB12.out.size (.cells #[.int .i64 (i : Int)] 3)).alloc (by have := HB12.out.size; rw [size_al]; omega) (.cells #[.int .i64 123, .int .u64 (lo : Nat), .int .u64 (hi : Nat), .bool nl] 24))
      have HIA := hid ((HI12.out.alloc HI12.out.size (.cells #[.int .i64 (i : Int)] 3)).alloc (by have := HI12.out.size; rw [size_al]; omega) (.cells #[.int .i64 123, .int .u64 (lo : Nat), .int .u64 (hi : Nat), .bool nl] 24))
      have HX1 := HX i HLT.out _ (HG.out.next HBA.out) _ (ar_one lo hi nl) _ (imm_own W12 (i : Int) _)
      have HDA := hid ((HD12.out.alloc (.cells #[.int .i64 (i : Int)] 3)).alloc (.cells #[.int .i64 123, .int .u64 (lo : Nat), .int .u64 (hi : Nat), .bool nl] 24))
      clear HB12 HI12 HC12 HD12
      go_upto_region 20 with (go_at_call 20; (with_reducible refine HX1.out.mono ?_); rintro e w13 ⟨rfl, hb13⟩; have HI13 := hid (HIA.out.trans (hb13.mono HIA.out.size)); have HD13 := hid (HDA.out.call hb13); clear hb13)
      clear e0 e1 e2 e3 HX1 HBA HDA HIA
      obtain ⟨x, hx⟩ : ∃ x, x = splitF 64 lo hi i := ⟨_, rfl⟩
      rw [← hx]
      have HI14 := hid (HI13.out.alloc HI13.out.size (.cells #[.int .i64 126, .int .u64 (x : Nat), .int .u64 0, .bool false] 24))
      have HD14 := hid (HD13.out.alloc (.cells #[.int .i64 126, .int .u64 (x : Nat), .int .u64 0, .bool false] 24))
      have HE14 := hid (CA.new w13 #[.int .i64 126, .int .u64 (x : Nat), .int .u64 0, .bool false] 24)
      clear HI13 HD13
      have HXX := hid hx
      clear hx
      generalize w13.alloc (.cells #[.int .i64 126, .int .u64 (x : Nat), .int .u64 0, .bool false] 24) = W14 at *
      generalize w13.heap.size = g13 at *
      have d0 := HD14.out.at (k := 0) (v := .int .i64 126) rfl
      have d1 := HD14.out.at (k := 1) (v := .int .u64 (y : Nat)) rfl
      have d2 := HD14.out.at (k := 2) (v := .int .u64 0) rfl
      have d3 := HD14.out.at (k := 3) (v := .bool false) rfl
      have c0 := HE14.out.at (k := 0) (v := .int .i64 126) rfl
      have c1 := HE14.out.at (k := 1) (v := .int .u64 (x : Nat)) rfl
      have c2 := HE14.out.at (k := 2) (v := .int .u64 0) rfl
      have c3 := HE14.out.at (k := 3) (v := .bool false) rfl
      have hyx := HLN.out i HLT.out
      rw [← HYY.out, ← HXX.out] at hyx
      by_cases hia : i = at_
      · rw [if_pos hia] at hyx
        have HM := HAND.out
        rw [← hyx] at HM
        have q0 : ((i : Int) != (at_ : Int)) = false := by rw [hia]; simp
        have q1 : ((i : Int) == (at_ : Int)) = true := by rw [hia]; simp
        clear hyx HYY HXX hia
        go_wp2
        go_roundw
        case rel => exact ⟨i + 1, HLT.out, by go_num, HI14⟩
        case measure => (simp [intOf]; have := HLT.out; omega)
      · rw [if_neg hia] at hyx
        subst hyx
        have q0 : ((i : Int) != (at_ : Int)) = true := by simpa using fun h : (i : Int) = at_ => hia (by omega)
        have q1 : ((i : Int) == (at_ : Int)) = false := by simpa using fun h : (i : Int) = at_ => hia (by omega)
        clear hia
        go_wp2
        go_roundw
        case rel => exact ⟨i + 1, HLT.out, by go_num, HI14⟩
        case measure => (simp [intOf]; have := HLT.out; omega)
    · obtain rfl : i = 2 := by omega
      have e0 := fun o => (HCr.out.alloc o).at (k := 0) (v := .int .i64 123) rfl
      have e1 := fun o => (HCr.out.alloc o).at (k := 1) (v := .int .u64 (lo : Nat)) rfl
      have e2 := fun o => (HCr.out.alloc o).at (k := 2) (v := .int .u64 (hi : Nat)) rfl
      have e3 := fun o => (HCr.out.alloc o).at (k := 3) (v := .bool nl) rfl
      have HBA := hid ((HBr.out.alloc HBr.out.size (.cells #[.int .i64 2] 3)).alloc (by have := HBr.out.size; rw [size_al]; omega) (.cells #[.int .i64 123, .int .u64 (lo : Nat), .int .u64 (hi : Nat), .bool nl] 24))
      have hc0 := ((CA.new wr #[.int .i64 2] 3).alloc (.cells #[.int .i64 123, .int .u64 (lo : Nat), .int .u64 (hi : Nat), .bool nl] 24)).at (k := 0) (v := .int .i64 2) rfl
      have HZ1 := HZ _ (HG.out.next HBA.out) (.slice (some ⟨wr.heap.size + 1, 0, none⟩) 1 1) wr.heap.size 1 hc0
      clear hc0 HCr HDr HBr
      go_wp2_with (go_at_call 20; (with_reducible refine HZ1.out.mono ?_); rintro e w15 ⟨rfl, hb15⟩; have HB15 := hid (HBA.out.trans (hb15.mono HBA.out.size)); clear hb15)
      go_ret
      exact ⟨rfl, HB15.out.alloc HB15.out.size _⟩
theorem and_3 (a : Int) : ∃ q : Nat, q ≤ 3 ∧ bits .and .i64 a 3 = (q : Int) := by
  refine ⟨(BitVec.ofInt 64 a).toNat &&& 3, Nat.and_le_right, ?_⟩
  have hle : (BitVec.ofInt 64 a).toNat &&& 3 ≤ 3 := Nat.and_le_right
  have e2 : BitVec.toNat (BitVec.ofInt 64 3) = 3 := by decide
  show IntKind.i64.wrap ((BitVec.ofInt 64 a &&& BitVec.ofInt 64 3).toNat : Int) = _
  rw [BitVec.toNat_and, e2, IntKind.wrap_i64]
  generalize (BitVec.ofInt 64 a).toNat &&& 3 = q at *
  omega
theorem and_15 (a : Int) : ∃ q : Nat, q ≤ 15 ∧ bits .and .i64 a 15 = (q : Int) := by
  refine ⟨(BitVec.ofInt 64 a).toNat &&& 15, Nat.and_le_right, ?_⟩
  have hle : (BitVec.ofInt 64 a).toNat &&& 15 ≤ 15 := Nat.and_le_right
  have e2 : BitVec.toNat (BitVec.ofInt 64 15) = 15 := by decide
  show IntKind.i64.wrap ((BitVec.ofInt 64 a &&& BitVec.ofInt 64 15).toNat : Int) = _
  rw [BitVec.toNat_and, e2, IntKind.wrap_i64]
  generalize (BitVec.ofInt 64 a).toNat &&& 15 = q at *
  omega
theorem and_7 (a : Int) : ∃ q : Nat, q ≤ 7 ∧ bits .and .i64 a 7 = (q : Int) := by
  refine ⟨(BitVec.ofInt 64 a).toNat &&& 7, Nat.and_le_right, ?_⟩
  have hle : (BitVec.ofInt 64 a).toNat &&& 7 ≤ 7 := Nat.and_le_right
  have e2 : BitVec.toNat (BitVec.ofInt 64 7) = 7 := by decide
  show IntKind.i64.wrap ((BitVec.ofInt 64 a &&& BitVec.ofInt 64 7).toNat : Int) = _
  rw [BitVec.toNat_and, e2, IntKind.wrap_i64]
  generalize (BitVec.ofInt 64 a).toNat &&& 7 = q at *
  omega
theorem and_1 (a : Int) : ∃ q : Nat, q ≤ 1 ∧ bits .and .i64 a 1 = (q : Int) := by
  refine ⟨(BitVec.ofInt 64 a).toNat &&& 1, Nat.and_le_right, ?_⟩
  have hle : (BitVec.ofInt 64 a).toNat &&& 1 ≤ 1 := Nat.and_le_right
  have e2 : BitVec.toNat (BitVec.ofInt 64 1) = 1 := by decide
  show IntKind.i64.wrap ((BitVec.ofInt 64 a &&& BitVec.ofInt 64 1).toNat : Int) = _
  rw [BitVec.toNat_and, e2, IntKind.wrap_i64]
  generalize (BitVec.ofInt 64 a).toNat &&& 1 = q at *
  omega
theorem law_Replaces (ta : Int) (lo hi : Nat) (nl : Bool) (h1 : lo < 18446744073709551616) (h2 : hi < 18446744073709551616) (which lane : Int) (nn : Nat) (hnn : nn < 18446744073709551616) (w : World) (hg : Glob w) :
    Calls Tryz.prog 3 #[vv ta lo hi nl, .int .i64 which, .int .i64 lane, .int .u64 (nn : Nat)] w fun e w' => e = .returned (.bool true) ∧ Below w.heap.size w w' := by
  obtain ⟨k, hk, e⟩ := and_3 which
  rcases (show k = 0 ∨ k = 1 ∨ k = 2 ∨ k = 3 by omega) with rfl | rfl | rfl | rfl
  · obtain ⟨q, hq, e2⟩ := and_15 lane
    exact law_Rep8 ta lo hi nl h1 h2 which lane nn hnn e q (by omega) e2 w hg
  · obtain ⟨q, hq, e2⟩ := and_7 lane
    exact law_Rep16 ta lo hi nl h1 h2 which lane nn hnn e q (by omega) e2 w hg
  · obtain ⟨q, hq, e2⟩ := and_3 lane
    exact law_Rep32 ta lo hi nl h1 h2 which lane nn hnn e q (by omega) e2 w hg
  · obtain ⟨q, hq, e2⟩ := and_1 lane
    exact law_Rep64 ta lo hi nl h1 h2 which lane nn hnn e q (by omega) e2 w hg
end Go.Proofs.YtlhakbkdlgejpaaGreatDoor
