/-
  LBWho: merged, what the law does not reach left out (each text says what it holds where it lies in wip). No condition.
-/
import Derived.Test.YtlhakbkdlgejpaaGreatDoorK23
import Derived.Test.YtlhakbkdlgejpaaGreatDoorK22
import Derived.Test.YtlhakbkdlgejpaaGreatDoorK17
import Derived.Test.YtlhakbkdlgejpaaGreatDoorK18
set_option linter.unusedSimpArgs false
set_option linter.unusedVariables false
set_option maxRecDepth 100000
namespace Go.Proofs.YtlhakbkdlgejpaaGreatDoor
open Go.RowKit
def WHO : List (List UInt8) := [[110, 111, 116], [97, 110, 100], [97, 110, 100, 110, 111, 116], [111, 114], [120, 111, 114], [98, 105, 116, 115, 101, 108, 101, 99, 116], [97, 110, 121, 95, 116, 114, 117, 101]]
/-- What is done with bytes. -/
def whoB (k a b c : Nat) : Nat :=
  if k = 0 then 255 - a else if k = 1 then a &&& b else if k = 2 then a &&& (255 - b) else if k = 3 then a ||| b else if k = 4 then a ^^^ b else if k = 5 then (a &&& c) + (b &&& (255 - c)) else 0
theorem bin8 (op : Nat) (h : op = 8 ∨ op = 9 ∨ op = 10) (a b : Nat) (ha : a < 256) (hb : b < 256) (w : World) : Calls Tryz.prog 151 #[.int .i64 8, .int .i64 op, .int .u64 a, .int .u64 b] w fun e w' => e = .returned (.tuple #[.int .u64 ((if op = 8 then a &&& b else if op = 9 then a ||| b else a ^^^ b : Nat) : Int), .int .i64 0]) ∧ Below w.heap.size w w' := by
  have h1 := RBin_any 8 op a b (by omega) (by omega) w
  have e : binA 8 op a b = (if op = 8 then a &&& b else if op = 9 then a ||| b else a ^^^ b, 0) := by
    unfold binA
    rw [if_pos ⟨by decide, by omega, by omega, by omega⟩]
    rw [show a % 2 ^ (8 : Int).toNat = a from Nat.mod_eq_of_lt (by simpa using ha), show b % 2 ^ (8 : Int).toNat = b from Nat.mod_eq_of_lt (by simpa using hb)]
    rcases h with rfl | rfl | rfl <;> rfl
  rw [e] at h1
  exact h1
set_option maxHeartbeats 8000000 in
theorem whole_1 (k : Nat) (hk : k = 0 ∨ k = 6) (what : List UInt8) (hpl : plL WHO what 0 = k) (hany : (what == [97, 110, 121, 95, 116, 114, 117, 101]) = decide (k = 6)) (alo ahi : Nat) (anl : Bool) (ha1 : alo < 18446744073709551616) (ha2 : ahi < 18446744073709551616) (w : World) (va : Value) (ha : AR w va [(123, alo, ahi, anl)]) :
    Calls Tryz.prog 124 #[.string (str what), va] w fun e w' => e = .returned (if k = 6 then vv 0 (if anyN 16 (splitF 8 alo ahi) then 1 else 0) 0 false else vv 123 (loF 8 (fun i => whoB k (splitF 8 alo ahi i) (splitF 8 alo ahi i) (splitF 8 alo ahi i))) (hiF 8 (fun i => whoB k (splitF 8 alo ahi i) (splitF 8 alo ahi i) (splitF 8 alo ahi i))) false) ∧ Below w.heap.size w w' := by
  obtain ⟨sw, hsw⟩ : ∃ sw, sw = str what := ⟨_, rfl⟩
  have HPL := fun W => hid (place_at what WHO (by decide) #[.string ⟨#[110, 111, 116]⟩, .string ⟨#[97, 110, 100]⟩, .string ⟨#[97, 110, 100, 110, 111, 116]⟩, .string ⟨#[111, 114]⟩, .string ⟨#[120, 111, 114]⟩, .string ⟨#[98, 105, 116, 115, 101, 108, 101, 99, 116]⟩, .string ⟨#[97, 110, 121, 95, 116, 114, 117, 101]⟩] rfl 7 rfl k hpl W)
  rw [← hsw] at HPL ⊢
  have HQ := hid (show (sw.toList == [97, 110, 121, 95, 116, 114, 117, 101]) = decide (k = 6) by rw [hsw, str_list]; exact hany)
  clear hsw hpl hany
  have HSa : ∀ W, Hid (Calls Tryz.prog 126 #[.int .i64 8, .agg #[.int .i64 123, .int .u64 (alo : Nat), .int .u64 (ahi : Nat), .bool anl]] W (LPost W 16 (splitF 8 alo ahi))) := fun W => hid (RSplit_says 8 (by decide) 123 alo ahi anl ha1 ha2 W)
  have HLa : Hid (∀ i, splitF 8 alo ahi i < 256) := hid (fun i => splitF_lt 8 _ _ i)
  generalize splitF 8 alo ahi = Fa at *
  obtain ⟨R, hR⟩ : ∃ R : Nat → Nat, R = fun i => whoB k (Fa i) (Fa i) (Fa i) := ⟨_, rfl⟩
  rw [← hR]
  have HR := hid (fun i : Nat => congrFun hR i)
  have HRL : Hid (∀ i, i < cnt 8 → R i < 18446744073709551616) := hid (fun i _ => by
    have h1 := HLa.out i
    have h2 := HLa.out i
    have h3 := HLa.out i
    have e := congrFun hR i
    rw [e]
    show whoB k (Fa i) (Fa i) (Fa i) < _
    have a1 : ∀ y, Fa i &&& y ≤ Fa i := fun y => Nat.and_le_left
    have a2 : ∀ y, Fa i &&& y ≤ Fa i := fun y => Nat.and_le_left
    have a3 : Fa i ||| Fa i < 2 ^ 8 := Nat.or_lt_two_pow h1 h2
    have a4 : Fa i ^^^ Fa i < 2 ^ 8 := Nat.xor_lt_two_pow h1 h2
    have b1 := a1 (Fa i)
    have b2 := a1 (255 - Fa i)
    have b3 := a1 (Fa i)
    have b4 := a2 (255 - Fa i)
    unfold whoB
    repeat' split
    all_goals omega)
  have HVC : ∀ v W, RowAt W v 16 R → Hid (Calls Tryz.prog 129 #[.int .i64 8, v] W fun e w' => e = .returned (vv 123 (loF 8 R) (hiF 8 R) false) ∧ Below W.heap.size W w') := fun v W h => hid (RVector_says 8 (by decide) v 16 (by decide) (by decide) R W h HRL.out)
  have HRA : Hid (∀ W, AR W va [(123, alo, ahi, anl)] → AR W va [(123, alo, ahi, anl)]) := fun W h => h
  clear hR HRL ha1 ha2
  obtain ⟨lo, hlo⟩ : ∃ lo, lo = loF 8 R := ⟨_, rfl⟩
  obtain ⟨hi, hhi⟩ : ∃ hi, hi = hiF 8 R := ⟨_, rfl⟩
  rw [← hlo, ← hhi]
  rw [← hlo, ← hhi] at HVC
  clear hlo hhi
  unfold vv at HVC ⊢
  obtain ⟨i0, hi0, hz0, hz1, hz2⟩ := info_parts info22
  have HKK := hid hk
  clear hk
  obtain ⟨N, hN⟩ : ∃ N : Nat → Nat, N = fun i => if anyN i Fa then 1 else 0 := ⟨_, rfl⟩
  have HNB : Hid (∀ i, N i ≤ 1) := hid (fun i => by rw [hN]; show (if anyN i Fa then 1 else 0) ≤ 1; split <;> omega)
  have HN0 : Hid (N 0 = 0) := hid (by rw [hN]; rfl)
  have HN1 : Hid (∀ i, 0 < Fa i → N (i + 1) = 1) := hid (fun i h => by
    rw [hN]
    show (if anyN (i + 1) Fa then 1 else 0) = 1
    rw [if_pos]
    exact decide_eq_true ⟨i, by omega, by omega⟩)
  have HN2 : Hid (∀ i, Fa i = 0 → N (i + 1) = N i) := hid (fun i h => by
    rw [hN]
    show (if anyN (i + 1) Fa then 1 else 0) = (if anyN i Fa then 1 else 0)
    have : anyN (i + 1) Fa = anyN i Fa := decide_eq_decide.2 ⟨fun ⟨j, h1, h2⟩ => ⟨j, by rcases Nat.lt_succ_iff_lt_or_eq.1 h1 with h' | rfl; exact h'; exact absurd h h2, h2⟩, fun ⟨j, h1, h2⟩ => ⟨j, by omega, h2⟩⟩
    rw [this])
  rw [show (if anyN 16 Fa then 1 else 0) = N 16 by rw [hN]]
  clear hN
  go_enter Tryz.func124, Tryz.ntmps124
  go_upto_region 2 with fail
  have HC0 := hid (CA.new w #[.int .i64 0, .int .u64 0, .int .u64 0, .bool false] 24)
  have HB0 := hid ((Below.refl _ w).alloc (Nat.le_refl _) (.cells #[.int .i64 0, .int .u64 0, .int .u64 0, .bool false] 24))
  have HA0 := hid (ha.call HB0.out)
  clear ha HRA
  generalize w.alloc (.cells #[.int .i64 0, .int .u64 0, .int .u64 0, .bool false] 24) = W0 at *
  obtain ⟨ga, ca, rfl, hga, hca, hata⟩ := HA0.out
  obtain ⟨a0, a1, a2, a3⟩ := hata 0 (123, alo, ahi, anl) rfl
  simp only [Nat.zero_mul, Nat.zero_add, Nat.one_mul, Nat.reduceMul, Nat.reduceAdd] at a0 a1 a2 a3
  simp only [List.length_cons, List.length_nil, Nat.zero_add, Nat.reduceAdd] at hca ⊢
  clear hata HA0
  go_wp2_with fail
  go_loopw [5, 6, 7] (fun vo vn vi wr => ∃ i : Nat, i ≤ 16 ∧ vi = .int .i64 i ∧ vn = .int .i64 (N i : Nat) ∧ Hid (wr.ownsRow W0.heap.size 22 1 vo i (fc i R)) ∧ Hid (Below W0.heap.size W0 wr)) (fun _ _ vi _ => 16 - (intOf vi).toNat)
  case atStart => exact ⟨0, Nat.zero_le _, rfl, by rw [HN0.out]; rfl, World.ownsRow_nil _ _ _ _, Below.refl _ _⟩
  case round =>
    obtain ⟨i, hin, rfl, rfl, HOW, HBW⟩ := hrel
    by_cases hlt : i < 16
    · have HBC : Hid (Below wr.heap.size wr wr) := Below.refl _ _
      have a0' := (HBW.out.cell (p := ⟨ga, 0, none⟩) hga).trans a0
      have a1' := (HBW.out.cell (p := ⟨ga, 1, none⟩) hga).trans a1
      have a2' := (HBW.out.cell (p := ⟨ga, 2, none⟩) hga).trans a2
      have a3' := (HBW.out.cell (p := ⟨ga, 3, none⟩) hga).trans a3
      clear a0 a1 a2 a3
      have hgw : ga < wr.heap.size := Nat.lt_of_lt_of_le hga HBW.out.size
      have HSN := hid (fc_snoc i R)
      have la := HLa.out i
      have hri := HR.out i
      have hn1 := HN1.out i
      have hn2 := HN2.out i
      have HP1 : ∀ W, Hid (Calls Tryz.prog 151 #[.int .i64 8, .int .i64 8, .int .u64 ((Fa i : Nat) : Int), .int .u64 ((Fa i : Nat) : Int)] W fun e w' => e = .returned (.tuple #[.int .u64 ((Fa i &&& Fa i : Nat) : Int), .int .i64 0]) ∧ Below W.heap.size W w') := fun W => hid (bin8 8 (.inl rfl) (Fa i) (Fa i) la la W)
      have HP2 : ∀ W, Hid (Calls Tryz.prog 151 #[.int .i64 8, .int .i64 9, .int .u64 ((Fa i : Nat) : Int), .int .u64 ((Fa i : Nat) : Int)] W fun e w' => e = .returned (.tuple #[.int .u64 ((Fa i ||| Fa i : Nat) : Int), .int .i64 0]) ∧ Below W.heap.size W w') := fun W => hid (bin8 9 (.inr (.inl rfl)) (Fa i) (Fa i) la la W)
      have HP3 : ∀ W, Hid (Calls Tryz.prog 151 #[.int .i64 8, .int .i64 10, .int .u64 ((Fa i : Nat) : Int), .int .u64 ((Fa i : Nat) : Int)] W fun e w' => e = .returned (.tuple #[.int .u64 ((Fa i ^^^ Fa i : Nat) : Int), .int .i64 0]) ∧ Below W.heap.size W w') := fun W => hid (bin8 10 (.inr (.inr rfl)) (Fa i) (Fa i) la la W)
      have HP4 : ∀ W, Hid (Calls Tryz.prog 151 #[.int .i64 8, .int .i64 8, .int .u64 ((Fa i : Nat) : Int), .int .u64 ((255 - Fa i : Nat) : Int)] W fun e w' => e = .returned (.tuple #[.int .u64 ((Fa i &&& (255 - Fa i) : Nat) : Int), .int .i64 0]) ∧ Below W.heap.size W w') := fun W => hid (bin8 8 (.inl rfl) (Fa i) (255 - Fa i) la (by omega) W)
      have HP5 : ∀ W, Hid (Calls Tryz.prog 151 #[.int .i64 8, .int .i64 8, .int .u64 ((Fa i : Nat) : Int), .int .u64 ((Fa i : Nat) : Int)] W fun e w' => e = .returned (.tuple #[.int .u64 ((Fa i &&& Fa i : Nat) : Int), .int .i64 0]) ∧ Below W.heap.size W w') := fun W => hid (bin8 8 (.inl rfl) (Fa i) (Fa i) la la W)
      have HP6 : ∀ W, Hid (Calls Tryz.prog 151 #[.int .i64 8, .int .i64 8, .int .u64 ((Fa i : Nat) : Int), .int .u64 ((255 - Fa i : Nat) : Int)] W fun e w' => e = .returned (.tuple #[.int .u64 ((Fa i &&& (255 - Fa i) : Nat) : Int), .int .i64 0]) ∧ Below W.heap.size W w') := fun W => hid (bin8 8 (.inl rfl) (Fa i) (255 - Fa i) la (by omega) W)
      have w1 : IntKind.u64.wrap (255 - (Fa i : Int)) = ((255 - Fa i : Nat) : Int) := by rw [IntKind.wrap_u64]; omega
      have b5 : Fa i &&& Fa i ≤ Fa i := Nat.and_le_left
      have b6 : Fa i &&& (255 - Fa i) ≤ Fa i := Nat.and_le_left
      have w7 : IntKind.u64.wrap (((Fa i &&& Fa i : Nat) : Int) + ((Fa i &&& (255 - Fa i) : Nat) : Int)) = (((Fa i &&& Fa i) + (Fa i &&& (255 - Fa i)) : Nat) : Int) := by rw [IntKind.wrap_u64]; omega
      clear HLa HR HN1 HN2 HVC HN0
      have hz : (0 < (Fa i : Int)) = (0 < Fa i) := by simp
      rcases HKK.out with rfl | rfl
      · clear HKK HQ
        unfold whoB at hri
        simp only [if_true, Nat.reduceEqDiff, if_false] at hri
        rcases Nat.eq_zero_or_pos (Fa i) with hx0 | hx0
        · have hnn := hn2 hx0
          have hgt : ¬ (0 < (Fa i : Int)) := by omega
          have HNN := hid hnn
          have HRI := hid hri
          clear hn1 hn2 hnn hri hx0 hz
          obtain ⟨ri, hre⟩ : ∃ ri, ri = R i := ⟨_, rfl⟩
          have HRE := hid hre
          clear hre
          generalize Fa i &&& Fa i = p1 at *
          generalize Fa i ||| Fa i = p2 at *
          generalize Fa i ^^^ Fa i = p3 at *
          generalize Fa i &&& (255 - Fa i) = p4 at *
          generalize hqa : 255 - Fa i = qa at *
          generalize hs7 : p1 + p4 = p7 at *
          have hwr := HBW.out.size
          go_upto_region 21 with (first
            | (go_at_call 126; (with_reducible refine (HSa _).out.mono ?_); rintro e wn ⟨vr, rfl, ho3, hb3⟩; obtain ⟨g3, c3, rfl⟩ := owned_at ho3 (by decide); have ka : wn.cell? ⟨g3, i, none⟩ = some (.int .u64 (Fa i : Nat)) := (ho3.cellAt i (by omega)).trans (fc_get hlt); replace HBC := hid (HBC.out.trans (hb3.mono HBC.out.size)); have a0'' := (HBC.out.cell (p := ⟨ga, 0, none⟩) hgw).trans a0'; have a1'' := (HBC.out.cell (p := ⟨ga, 1, none⟩) hgw).trans a1'; have a2'' := (HBC.out.cell (p := ⟨ga, 2, none⟩) hgw).trans a2'; have a3'' := (HBC.out.cell (p := ⟨ga, 3, none⟩) hgw).trans a3'; clear ho3 hb3)
            | (go_at_call 151; (with_reducible refine (HP1 _).out.mono ?_); rintro e wn ⟨rfl, hb3⟩; replace HBC := hid (HBC.out.trans (hb3.mono HBC.out.size)); clear hb3)
            | (go_at_call 151; (with_reducible refine (HP2 _).out.mono ?_); rintro e wn ⟨rfl, hb3⟩; replace HBC := hid (HBC.out.trans (hb3.mono HBC.out.size)); clear hb3)
            | (go_at_call 151; (with_reducible refine (HP3 _).out.mono ?_); rintro e wn ⟨rfl, hb3⟩; replace HBC := hid (HBC.out.trans (hb3.mono HBC.out.size)); clear hb3)
            | (go_at_call 151; (with_reducible refine (HP4 _).out.mono ?_); rintro e wn ⟨rfl, hb3⟩; replace HBC := hid (HBC.out.trans (hb3.mono HBC.out.size)); clear hb3)
            | (go_at_call 151; (with_reducible refine (HP5 _).out.mono ?_); rintro e wn ⟨rfl, hb3⟩; replace HBC := hid (HBC.out.trans (hb3.mono HBC.out.size)); clear hb3)
            | (go_at_call 151; (with_reducible refine (HP6 _).out.mono ?_); rintro e wn ⟨rfl, hb3⟩; replace HBC := hid (HBC.out.trans (hb3.mono HBC.out.size)); clear hb3)
            | (go_at_call 195; (with_reducible refine (HPL _).out.mono ?_); rintro e wn ⟨rfl, rfl⟩))
          have HB21 := hid (HBW.out.trans (HBC.out.mono hwr))
          have HO21 := hid (own_below HOW.out HBC.out (Nat.le_refl _))
          have hs21 := HB21.out.size
          have hsn : fc i R ++ [Value.int .u64 (qa : Int)] = fc (i + 1) R := by have h := HSN.out; rw [HRI.out] at h; exact h
          have HSN2 := hid hsn
          clear hsn HSN HRI HRE HBC HOW HBW hwr
          go_wp2_with (first
            | (go_at_call 195; (with_reducible refine (HPL _).out.mono ?_); rintro e wm ⟨rfl, rfl⟩)
            | (at_builtin; refine append_u64 rfl _ _ rfl W0.heap.size _ _ _ (qa : Int) ((HO21.out.alloc _).alloc _) (by first | omega | (simp <;> omega)) (by omega) rfl (by simp only [size_al]; rfl) ?_; intro v' w8 hown' hnx8 hsz8))
          rw [HSN2.out] at hown'
          have HO8 := hid hown'
          have HB8 := hid (((HB21.out.alloc hs21 _).alloc (by first | omega | (simp <;> omega)) _).trans hnx8)
          clear hown' hnx8 hsz8
          go_roundw
          case rel => exact ⟨i + 1, hlt, rfl, by rw [HNN.out], HO8, HB8⟩
          case measure => (simp [intOf]; omega)
        · have hnn := hn1 hx0
          have hgt : (0 < (Fa i : Int)) := by omega
          have HNN := hid hnn
          have HRI := hid hri
          clear hn1 hn2 hnn hri hx0 hz
          obtain ⟨ri, hre⟩ : ∃ ri, ri = R i := ⟨_, rfl⟩
          have HRE := hid hre
          clear hre
          generalize Fa i &&& Fa i = p1 at *
          generalize Fa i ||| Fa i = p2 at *
          generalize Fa i ^^^ Fa i = p3 at *
          generalize Fa i &&& (255 - Fa i) = p4 at *
          generalize hqa : 255 - Fa i = qa at *
          generalize hs7 : p1 + p4 = p7 at *
          have hwr := HBW.out.size
          go_upto_region 21 with (first
            | (go_at_call 126; (with_reducible refine (HSa _).out.mono ?_); rintro e wn ⟨vr, rfl, ho3, hb3⟩; obtain ⟨g3, c3, rfl⟩ := owned_at ho3 (by decide); have ka : wn.cell? ⟨g3, i, none⟩ = some (.int .u64 (Fa i : Nat)) := (ho3.cellAt i (by omega)).trans (fc_get hlt); replace HBC := hid (HBC.out.trans (hb3.mono HBC.out.size)); have a0'' := (HBC.out.cell (p := ⟨ga, 0, none⟩) hgw).trans a0'; have a1'' := (HBC.out.cell (p := ⟨ga, 1, none⟩) hgw).trans a1'; have a2'' := (HBC.out.cell (p := ⟨ga, 2, none⟩) hgw).trans a2'; have a3'' := (HBC.out.cell (p := ⟨ga, 3, none⟩) hgw).trans a3'; clear ho3 hb3)
            | (go_at_call 151; (with_reducible refine (HP1 _).out.mono ?_); rintro e wn ⟨rfl, hb3⟩; replace HBC := hid (HBC.out.trans (hb3.mono HBC.out.size)); clear hb3)
            | (go_at_call 151; (with_reducible refine (HP2 _).out.mono ?_); rintro e wn ⟨rfl, hb3⟩; replace HBC := hid (HBC.out.trans (hb3.mono HBC.out.size)); clear hb3)
            | (go_at_call 151; (with_reducible refine (HP3 _).out.mono ?_); rintro e wn ⟨rfl, hb3⟩; replace HBC := hid (HBC.out.trans (hb3.mono HBC.out.size)); clear hb3)
            | (go_at_call 151; (with_reducible refine (HP4 _).out.mono ?_); rintro e wn ⟨rfl, hb3⟩; replace HBC := hid (HBC.out.trans (hb3.mono HBC.out.size)); clear hb3)
            | (go_at_call 151; (with_reducible refine (HP5 _).out.mono ?_); rintro e wn ⟨rfl, hb3⟩; replace HBC := hid (HBC.out.trans (hb3.mono HBC.out.size)); clear hb3)
            | (go_at_call 151; (with_reducible refine (HP6 _).out.mono ?_); rintro e wn ⟨rfl, hb3⟩; replace HBC := hid (HBC.out.trans (hb3.mono HBC.out.size)); clear hb3)
            | (go_at_call 195; (with_reducible refine (HPL _).out.mono ?_); rintro e wn ⟨rfl, rfl⟩))
          have HB21 := hid (HBW.out.trans (HBC.out.mono hwr))
          have HO21 := hid (own_below HOW.out HBC.out (Nat.le_refl _))
          have hs21 := HB21.out.size
          have hsn : fc i R ++ [Value.int .u64 (qa : Int)] = fc (i + 1) R := by have h := HSN.out; rw [HRI.out] at h; exact h
          have HSN2 := hid hsn
          clear hsn HSN HRI HRE HBC HOW HBW hwr
          go_wp2_with (first
            | (go_at_call 195; (with_reducible refine (HPL _).out.mono ?_); rintro e wm ⟨rfl, rfl⟩)
            | (at_builtin; refine append_u64 rfl _ _ rfl W0.heap.size _ _ _ (qa : Int) ((HO21.out.alloc _).alloc _) (by first | omega | (simp <;> omega)) (by omega) rfl (by simp only [size_al]; rfl) ?_; intro v' w8 hown' hnx8 hsz8))
          rw [HSN2.out] at hown'
          have HO8 := hid hown'
          have HB8 := hid (((HB21.out.alloc hs21 _).alloc (by first | omega | (simp <;> omega)) _).trans hnx8)
          clear hown' hnx8 hsz8
          go_roundw
          case rel => exact ⟨i + 1, hlt, rfl, by rw [HNN.out]; rfl, HO8, HB8⟩
          case measure => (simp [intOf]; omega)
      · clear HKK HQ
        unfold whoB at hri
        simp only [if_true, Nat.reduceEqDiff, if_false] at hri
        rcases Nat.eq_zero_or_pos (Fa i) with hx0 | hx0
        · have hnn := hn2 hx0
          have hgt : ¬ (0 < (Fa i : Int)) := by omega
          have HNN := hid hnn
          have HRI := hid hri
          clear hn1 hn2 hnn hri hx0 hz
          obtain ⟨ri, hre⟩ : ∃ ri, ri = R i := ⟨_, rfl⟩
          have HRE := hid hre
          clear hre
          generalize Fa i &&& Fa i = p1 at *
          generalize Fa i ||| Fa i = p2 at *
          generalize Fa i ^^^ Fa i = p3 at *
          generalize Fa i &&& (255 - Fa i) = p4 at *
          generalize hqa : 255 - Fa i = qa at *
          generalize hs7 : p1 + p4 = p7 at *
          have hwr := HBW.out.size
          go_upto_region 21 with (first
            | (go_at_call 126; (with_reducible refine (HSa _).out.mono ?_); rintro e wn ⟨vr, rfl, ho3, hb3⟩; obtain ⟨g3, c3, rfl⟩ := owned_at ho3 (by decide); have ka : wn.cell? ⟨g3, i, none⟩ = some (.int .u64 (Fa i : Nat)) := (ho3.cellAt i (by omega)).trans (fc_get hlt); replace HBC := hid (HBC.out.trans (hb3.mono HBC.out.size)); have a0'' := (HBC.out.cell (p := ⟨ga, 0, none⟩) hgw).trans a0'; have a1'' := (HBC.out.cell (p := ⟨ga, 1, none⟩) hgw).trans a1'; have a2'' := (HBC.out.cell (p := ⟨ga, 2, none⟩) hgw).trans a2'; have a3'' := (HBC.out.cell (p := ⟨ga, 3, none⟩) hgw).trans a3'; clear ho3 hb3)
            | (go_at_call 151; (with_reducible refine (HP1 _).out.mono ?_); rintro e wn ⟨rfl, hb3⟩; replace HBC := hid (HBC.out.trans (hb3.mono HBC.out.size)); clear hb3)
            | (go_at_call 151; (with_reducible refine (HP2 _).out.mono ?_); rintro e wn ⟨rfl, hb3⟩; replace HBC := hid (HBC.out.trans (hb3.mono HBC.out.size)); clear hb3)
            | (go_at_call 151; (with_reducible refine (HP3 _).out.mono ?_); rintro e wn ⟨rfl, hb3⟩; replace HBC := hid (HBC.out.trans (hb3.mono HBC.out.size)); clear hb3)
            | (go_at_call 151; (with_reducible refine (HP4 _).out.mono ?_); rintro e wn ⟨rfl, hb3⟩; replace HBC := hid (HBC.out.trans (hb3.mono HBC.out.size)); clear hb3)
            | (go_at_call 151; (with_reducible refine (HP5 _).out.mono ?_); rintro e wn ⟨rfl, hb3⟩; replace HBC := hid (HBC.out.trans (hb3.mono HBC.out.size)); clear hb3)
            | (go_at_call 151; (with_reducible refine (HP6 _).out.mono ?_); rintro e wn ⟨rfl, hb3⟩; replace HBC := hid (HBC.out.trans (hb3.mono HBC.out.size)); clear hb3)
            | (go_at_call 195; (with_reducible refine (HPL _).out.mono ?_); rintro e wn ⟨rfl, rfl⟩))
          have HB21 := hid (HBW.out.trans (HBC.out.mono hwr))
          have HO21 := hid (own_below HOW.out HBC.out (Nat.le_refl _))
          have hs21 := HB21.out.size
          have hsn : fc i R ++ [Value.int .u64 (0 : Int)] = fc (i + 1) R := by have h := HSN.out; rw [HRI.out] at h; exact h
          have HSN2 := hid hsn
          clear hsn HSN HRI HRE HBC HOW HBW hwr
          go_wp2_with (first
            | (go_at_call 195; (with_reducible refine (HPL _).out.mono ?_); rintro e wm ⟨rfl, rfl⟩)
            | (at_builtin; refine append_u64 rfl _ _ rfl W0.heap.size _ _ _ (0 : Int) ((HO21.out.alloc _).alloc _) (by first | omega | (simp <;> omega)) (by omega) rfl (by simp only [size_al]; rfl) ?_; intro v' w8 hown' hnx8 hsz8))
          rw [HSN2.out] at hown'
          have HO8 := hid hown'
          have HB8 := hid (((HB21.out.alloc hs21 _).alloc (by first | omega | (simp <;> omega)) _).trans hnx8)
          clear hown' hnx8 hsz8
          go_roundw
          case rel => exact ⟨i + 1, hlt, rfl, by rw [HNN.out], HO8, HB8⟩
          case measure => (simp [intOf]; omega)
        · have hnn := hn1 hx0
          have hgt : (0 < (Fa i : Int)) := by omega
          have HNN := hid hnn
          have HRI := hid hri
          clear hn1 hn2 hnn hri hx0 hz
          obtain ⟨ri, hre⟩ : ∃ ri, ri = R i := ⟨_, rfl⟩
          have HRE := hid hre
          clear hre
          generalize Fa i &&& Fa i = p1 at *
          generalize Fa i ||| Fa i = p2 at *
          generalize Fa i ^^^ Fa i = p3 at *
          generalize Fa i &&& (255 - Fa i) = p4 at *
          generalize hqa : 255 - Fa i = qa at *
          generalize hs7 : p1 + p4 = p7 at *
          have hwr := HBW.out.size
          go_upto_region 21 with (first
            | (go_at_call 126; (with_reducible refine (HSa _).out.mono ?_); rintro e wn ⟨vr, rfl, ho3, hb3⟩; obtain ⟨g3, c3, rfl⟩ := owned_at ho3 (by decide); have ka : wn.cell? ⟨g3, i, none⟩ = some (.int .u64 (Fa i : Nat)) := (ho3.cellAt i (by omega)).trans (fc_get hlt); replace HBC := hid (HBC.out.trans (hb3.mono HBC.out.size)); have a0'' := (HBC.out.cell (p := ⟨ga, 0, none⟩) hgw).trans a0'; have a1'' := (HBC.out.cell (p := ⟨ga, 1, none⟩) hgw).trans a1'; have a2'' := (HBC.out.cell (p := ⟨ga, 2, none⟩) hgw).trans a2'; have a3'' := (HBC.out.cell (p := ⟨ga, 3, none⟩) hgw).trans a3'; clear ho3 hb3)
            | (go_at_call 151; (with_reducible refine (HP1 _).out.mono ?_); rintro e wn ⟨rfl, hb3⟩; replace HBC := hid (HBC.out.trans (hb3.mono HBC.out.size)); clear hb3)
            | (go_at_call 151; (with_reducible refine (HP2 _).out.mono ?_); rintro e wn ⟨rfl, hb3⟩; replace HBC := hid (HBC.out.trans (hb3.mono HBC.out.size)); clear hb3)
            | (go_at_call 151; (with_reducible refine (HP3 _).out.mono ?_); rintro e wn ⟨rfl, hb3⟩; replace HBC := hid (HBC.out.trans (hb3.mono HBC.out.size)); clear hb3)
            | (go_at_call 151; (with_reducible refine (HP4 _).out.mono ?_); rintro e wn ⟨rfl, hb3⟩; replace HBC := hid (HBC.out.trans (hb3.mono HBC.out.size)); clear hb3)
            | (go_at_call 151; (with_reducible refine (HP5 _).out.mono ?_); rintro e wn ⟨rfl, hb3⟩; replace HBC := hid (HBC.out.trans (hb3.mono HBC.out.size)); clear hb3)
            | (go_at_call 151; (with_reducible refine (HP6 _).out.mono ?_); rintro e wn ⟨rfl, hb3⟩; replace HBC := hid (HBC.out.trans (hb3.mono HBC.out.size)); clear hb3)
            | (go_at_call 195; (with_reducible refine (HPL _).out.mono ?_); rintro e wn ⟨rfl, rfl⟩))
          have HB21 := hid (HBW.out.trans (HBC.out.mono hwr))
          have HO21 := hid (own_below HOW.out HBC.out (Nat.le_refl _))
          have hs21 := HB21.out.size
          have hsn : fc i R ++ [Value.int .u64 (0 : Int)] = fc (i + 1) R := by have h := HSN.out; rw [HRI.out] at h; exact h
          have HSN2 := hid hsn
          clear hsn HSN HRI HRE HBC HOW HBW hwr
          go_wp2_with (first
            | (go_at_call 195; (with_reducible refine (HPL _).out.mono ?_); rintro e wm ⟨rfl, rfl⟩)
            | (at_builtin; refine append_u64 rfl _ _ rfl W0.heap.size _ _ _ (0 : Int) ((HO21.out.alloc _).alloc _) (by first | omega | (simp <;> omega)) (by omega) rfl (by simp only [size_al]; rfl) ?_; intro v' w8 hown' hnx8 hsz8))
          rw [HSN2.out] at hown'
          have HO8 := hid hown'
          have HB8 := hid (((HB21.out.alloc hs21 _).alloc (by first | omega | (simp <;> omega)) _).trans hnx8)
          clear hown' hnx8 hsz8
          go_roundw
          case rel => exact ⟨i + 1, hlt, rfl, by rw [HNN.out]; rfl, HO8, HB8⟩
          case measure => (simp [intOf]; omega)
    · obtain rfl : i = 16 := by omega
      have HCr := HC0.out.call HBW.out
      have r0 := HCr.at (k := 0) (v := .int .i64 0) rfl
      have r1 := HCr.at (k := 1) (v := .int .u64 0) rfl
      have r2 := HCr.at (k := 2) (v := .int .u64 0) rfl
      have r3 := HCr.at (k := 3) (v := .bool false) rfl
      have f0 := HCr.free 0
      have f1 := HCr.free 1
      have f2 := HCr.free 2
      have f3 := HCr.free 3
      have HRW := hid (RowAt.of_own HOW.out (by decide))
      have HBE := hid (HB0.out.trans (HBW.out.mono HB0.out.size))
      have hN := HNB.out 16
      have hNw : IntKind.u64.wrap ((N 16 : Nat) : Int) = ((N 16 : Nat) : Int) := by rw [IntKind.wrap_u64]; omega
      have HCC := hid HCr
      clear HCr HPL HSa HLa HR HN0 HN1 HN2 a0 a1 a2 a3 HOW HBW HC0 HB0
      rcases HKK.out with rfl | rfl
      · have q : (sw.toList == [97, 110, 121, 95, 116, 114, 117, 101]) = false := HQ.out
        clear HKK HQ r0 r1 r2 r3 f0 f1 f2 f3 hN hNw
        generalize N 16 = n16 at *
        go_wp2_with (go_at_call 129; (with_reducible refine (HVC _ _ HRW.out).out.mono ?_); rintro e w9 ⟨rfl, hb9⟩; have hC9 := HCC.out.call hb9; have HB9 := hid (HBE.out.trans (hb9.mono HBE.out.size)); have r0 := hC9.at (k := 0) (v := .int .i64 0) rfl; have r1 := hC9.at (k := 1) (v := .int .u64 0) rfl; have r2 := hC9.at (k := 2) (v := .int .u64 0) rfl; have r3 := hC9.at (k := 3) (v := .bool false) rfl; have f0 := hC9.free 0; have f1 := hC9.free 1; have f2 := hC9.free 2; have f3 := hC9.free 3; clear hb9 hC9)
        refine bodyPost_ret (v := .agg #[.int .i64 123, .int .u64 (lo : Nat), .int .u64 (hi : Nat), .bool false]) ?_ rfl ⟨rfl, (((HB9.out.setCell (p := ⟨w.heap.size, 0, none⟩) (Nat.le_refl _) _).setCell (p := ⟨w.heap.size, 1, none⟩) (Nat.le_refl _) _).setCell (p := ⟨w.heap.size, 2, none⟩) (Nat.le_refl _) _).setCell (p := ⟨w.heap.size, 3, none⟩) (Nat.le_refl _) _⟩
        simp [results, Tryz.results124, go_sem, r0, r1, r2, r3]
      · have q : (sw.toList == [97, 110, 121, 95, 116, 114, 117, 101]) = true := HQ.out
        clear HKK HQ HVC HRW
        go_wp2
        refine bodyPost_ret (v := .agg #[.int .i64 0, .int .u64 (N 16 : Nat), .int .u64 0, .bool false]) ?_ rfl ⟨rfl, (((HBE.out.setCell (p := ⟨w.heap.size, 0, none⟩) (Nat.le_refl _) _).setCell (p := ⟨w.heap.size, 1, none⟩) (Nat.le_refl _) _).setCell (p := ⟨w.heap.size, 2, none⟩) (Nat.le_refl _) _).setCell (p := ⟨w.heap.size, 3, none⟩) (Nat.le_refl _) _⟩
        simp [results, Tryz.results124, go_sem, r0, r1, r2, r3]
set_option maxHeartbeats 8000000 in
theorem whole_2 (k : Nat) (hk : k = 1 ∨ k = 2 ∨ k = 3 ∨ k = 4) (what : List UInt8) (hpl : plL WHO what 0 = k) (hany : (what == [97, 110, 121, 95, 116, 114, 117, 101]) = decide (k = 6)) (alo ahi : Nat) (anl : Bool) (ha1 : alo < 18446744073709551616) (ha2 : ahi < 18446744073709551616) (blo bhi : Nat) (bnl : Bool) (hb1 : blo < 18446744073709551616) (hb2 : bhi < 18446744073709551616) (w : World) (va : Value) (ha : AR w va [(123, alo, ahi, anl), (123, blo, bhi, bnl)]) :
    Calls Tryz.prog 124 #[.string (str what), va] w fun e w' => e = .returned (if k = 6 then vv 0 (if anyN 16 (splitF 8 alo ahi) then 1 else 0) 0 false else vv 123 (loF 8 (fun i => whoB k (splitF 8 alo ahi i) (splitF 8 blo bhi i) (splitF 8 alo ahi i))) (hiF 8 (fun i => whoB k (splitF 8 alo ahi i) (splitF 8 blo bhi i) (splitF 8 alo ahi i))) false) ∧ Below w.heap.size w w' := by
  obtain ⟨sw, hsw⟩ : ∃ sw, sw = str what := ⟨_, rfl⟩
  have HPL := fun W => hid (place_at what WHO (by decide) #[.string ⟨#[110, 111, 116]⟩, .string ⟨#[97, 110, 100]⟩, .string ⟨#[97, 110, 100, 110, 111, 116]⟩, .string ⟨#[111, 114]⟩, .string ⟨#[120, 111, 114]⟩, .string ⟨#[98, 105, 116, 115, 101, 108, 101, 99, 116]⟩, .string ⟨#[97, 110, 121, 95, 116, 114, 117, 101]⟩] rfl 7 rfl k hpl W)
  rw [← hsw] at HPL ⊢
  have HQ := hid (show (sw.toList == [97, 110, 121, 95, 116, 114, 117, 101]) = decide (k = 6) by rw [hsw, str_list]; exact hany)
  clear hsw hpl hany
  have HSa : ∀ W, Hid (Calls Tryz.prog 126 #[.int .i64 8, .agg #[.int .i64 123, .int .u64 (alo : Nat), .int .u64 (ahi : Nat), .bool anl]] W (LPost W 16 (splitF 8 alo ahi))) := fun W => hid (RSplit_says 8 (by decide) 123 alo ahi anl ha1 ha2 W)
  have HLa : Hid (∀ i, splitF 8 alo ahi i < 256) := hid (fun i => splitF_lt 8 _ _ i)
  have HSb : ∀ W, Hid (Calls Tryz.prog 126 #[.int .i64 8, .agg #[.int .i64 123, .int .u64 (blo : Nat), .int .u64 (bhi : Nat), .bool bnl]] W (LPost W 16 (splitF 8 blo bhi))) := fun W => hid (RSplit_says 8 (by decide) 123 blo bhi bnl hb1 hb2 W)
  have HLb : Hid (∀ i, splitF 8 blo bhi i < 256) := hid (fun i => splitF_lt 8 _ _ i)
  generalize splitF 8 alo ahi = Fa at *
  generalize splitF 8 blo bhi = Fb at *
  obtain ⟨R, hR⟩ : ∃ R : Nat → Nat, R = fun i => whoB k (Fa i) (Fb i) (Fa i) := ⟨_, rfl⟩
  rw [← hR]
  have HR := hid (fun i : Nat => congrFun hR i)
  have HRL : Hid (∀ i, i < cnt 8 → R i < 18446744073709551616) := hid (fun i _ => by
    have h1 := HLa.out i
    have h2 := HLb.out i
    have h3 := HLa.out i
    have e := congrFun hR i
    rw [e]
    show whoB k (Fa i) (Fb i) (Fa i) < _
    have a1 : ∀ y, Fa i &&& y ≤ Fa i := fun y => Nat.and_le_left
    have a2 : ∀ y, Fb i &&& y ≤ Fb i := fun y => Nat.and_le_left
    have a3 : Fa i ||| Fb i < 2 ^ 8 := Nat.or_lt_two_pow h1 h2
    have a4 : Fa i ^^^ Fb i < 2 ^ 8 := Nat.xor_lt_two_pow h1 h2
    have b1 := a1 (Fb i)
    have b2 := a1 (255 - Fb i)
    have b3 := a1 (Fa i)
    have b4 := a2 (255 - Fa i)
    unfold whoB
    repeat' split
    all_goals omega)
  have HVC : ∀ v W, RowAt W v 16 R → Hid (Calls Tryz.prog 129 #[.int .i64 8, v] W fun e w' => e = .returned (vv 123 (loF 8 R) (hiF 8 R) false) ∧ Below W.heap.size W w') := fun v W h => hid (RVector_says 8 (by decide) v 16 (by decide) (by decide) R W h HRL.out)
  have HRA : Hid (∀ W, AR W va [(123, alo, ahi, anl), (123, blo, bhi, bnl)] → AR W va [(123, alo, ahi, anl), (123, blo, bhi, bnl)]) := fun W h => h
  clear hR HRL ha1 ha2 hb1 hb2
  obtain ⟨lo, hlo⟩ : ∃ lo, lo = loF 8 R := ⟨_, rfl⟩
  obtain ⟨hi, hhi⟩ : ∃ hi, hi = hiF 8 R := ⟨_, rfl⟩
  rw [← hlo, ← hhi]
  rw [← hlo, ← hhi] at HVC
  clear hlo hhi
  unfold vv at HVC ⊢
  obtain ⟨i0, hi0, hz0, hz1, hz2⟩ := info_parts info22
  have HKK := hid hk
  clear hk
  obtain ⟨N, hN⟩ : ∃ N : Nat → Nat, N = fun i => if anyN i Fa then 1 else 0 := ⟨_, rfl⟩
  have HNB : Hid (∀ i, N i ≤ 1) := hid (fun i => by rw [hN]; show (if anyN i Fa then 1 else 0) ≤ 1; split <;> omega)
  have HN0 : Hid (N 0 = 0) := hid (by rw [hN]; rfl)
  have HN1 : Hid (∀ i, 0 < Fa i → N (i + 1) = 1) := hid (fun i h => by
    rw [hN]
    show (if anyN (i + 1) Fa then 1 else 0) = 1
    rw [if_pos]
    exact decide_eq_true ⟨i, by omega, by omega⟩)
  have HN2 : Hid (∀ i, Fa i = 0 → N (i + 1) = N i) := hid (fun i h => by
    rw [hN]
    show (if anyN (i + 1) Fa then 1 else 0) = (if anyN i Fa then 1 else 0)
    have : anyN (i + 1) Fa = anyN i Fa := decide_eq_decide.2 ⟨fun ⟨j, h1, h2⟩ => ⟨j, by rcases Nat.lt_succ_iff_lt_or_eq.1 h1 with h' | rfl; exact h'; exact absurd h h2, h2⟩, fun ⟨j, h1, h2⟩ => ⟨j, by omega, h2⟩⟩
    rw [this])
  rw [show (if anyN 16 Fa then 1 else 0) = N 16 by rw [hN]]
  clear hN
  go_enter Tryz.func124, Tryz.ntmps124
  go_upto_region 2 with fail
  have HC0 := hid (CA.new w #[.int .i64 0, .int .u64 0, .int .u64 0, .bool false] 24)
  have HB0 := hid ((Below.refl _ w).alloc (Nat.le_refl _) (.cells #[.int .i64 0, .int .u64 0, .int .u64 0, .bool false] 24))
  have HA0 := hid (ha.call HB0.out)
  clear ha HRA
  generalize w.alloc (.cells #[.int .i64 0, .int .u64 0, .int .u64 0, .bool false] 24) = W0 at *
  obtain ⟨ga, ca, rfl, hga, hca, hata⟩ := HA0.out
  obtain ⟨a0, a1, a2, a3⟩ := hata 0 (123, alo, ahi, anl) rfl
  obtain ⟨b0, b1, b2, b3⟩ := hata 1 (123, blo, bhi, bnl) rfl
  simp only [Nat.zero_mul, Nat.zero_add, Nat.one_mul, Nat.reduceMul, Nat.reduceAdd] at a0 a1 a2 a3 b0 b1 b2 b3
  simp only [List.length_cons, List.length_nil, Nat.zero_add, Nat.reduceAdd] at hca ⊢
  clear hata HA0
  go_wp2_with fail
  go_loopw [5, 6, 7] (fun vo vn vi wr => ∃ i : Nat, i ≤ 16 ∧ vi = .int .i64 i ∧ vn = .int .i64 (N i : Nat) ∧ Hid (wr.ownsRow W0.heap.size 22 1 vo i (fc i R)) ∧ Hid (Below W0.heap.size W0 wr)) (fun _ _ vi _ => 16 - (intOf vi).toNat)
  case atStart => exact ⟨0, Nat.zero_le _, rfl, by rw [HN0.out]; rfl, World.ownsRow_nil _ _ _ _, Below.refl _ _⟩
  case round =>
    obtain ⟨i, hin, rfl, rfl, HOW, HBW⟩ := hrel
    by_cases hlt : i < 16
    · have HBC : Hid (Below wr.heap.size wr wr) := Below.refl _ _
      have a0' := (HBW.out.cell (p := ⟨ga, 0, none⟩) hga).trans a0
      have a1' := (HBW.out.cell (p := ⟨ga, 1, none⟩) hga).trans a1
      have a2' := (HBW.out.cell (p := ⟨ga, 2, none⟩) hga).trans a2
      have a3' := (HBW.out.cell (p := ⟨ga, 3, none⟩) hga).trans a3
      have b0' := (HBW.out.cell (p := ⟨ga, 4, none⟩) hga).trans b0
      have b1' := (HBW.out.cell (p := ⟨ga, 5, none⟩) hga).trans b1
      have b2' := (HBW.out.cell (p := ⟨ga, 6, none⟩) hga).trans b2
      have b3' := (HBW.out.cell (p := ⟨ga, 7, none⟩) hga).trans b3
      clear a0 a1 a2 a3 b0 b1 b2 b3
      have hgw : ga < wr.heap.size := Nat.lt_of_lt_of_le hga HBW.out.size
      have HSN := hid (fc_snoc i R)
      have la := HLa.out i
      have lb := HLb.out i
      have hri := HR.out i
      have hn1 := HN1.out i
      have hn2 := HN2.out i
      have HP1 : ∀ W, Hid (Calls Tryz.prog 151 #[.int .i64 8, .int .i64 8, .int .u64 ((Fa i : Nat) : Int), .int .u64 ((Fb i : Nat) : Int)] W fun e w' => e = .returned (.tuple #[.int .u64 ((Fa i &&& Fb i : Nat) : Int), .int .i64 0]) ∧ Below W.heap.size W w') := fun W => hid (bin8 8 (.inl rfl) (Fa i) (Fb i) la lb W)
      have HP2 : ∀ W, Hid (Calls Tryz.prog 151 #[.int .i64 8, .int .i64 9, .int .u64 ((Fa i : Nat) : Int), .int .u64 ((Fb i : Nat) : Int)] W fun e w' => e = .returned (.tuple #[.int .u64 ((Fa i ||| Fb i : Nat) : Int), .int .i64 0]) ∧ Below W.heap.size W w') := fun W => hid (bin8 9 (.inr (.inl rfl)) (Fa i) (Fb i) la lb W)
      have HP3 : ∀ W, Hid (Calls Tryz.prog 151 #[.int .i64 8, .int .i64 10, .int .u64 ((Fa i : Nat) : Int), .int .u64 ((Fb i : Nat) : Int)] W fun e w' => e = .returned (.tuple #[.int .u64 ((Fa i ^^^ Fb i : Nat) : Int), .int .i64 0]) ∧ Below W.heap.size W w') := fun W => hid (bin8 10 (.inr (.inr rfl)) (Fa i) (Fb i) la lb W)
      have HP4 : ∀ W, Hid (Calls Tryz.prog 151 #[.int .i64 8, .int .i64 8, .int .u64 ((Fa i : Nat) : Int), .int .u64 ((255 - Fb i : Nat) : Int)] W fun e w' => e = .returned (.tuple #[.int .u64 ((Fa i &&& (255 - Fb i) : Nat) : Int), .int .i64 0]) ∧ Below W.heap.size W w') := fun W => hid (bin8 8 (.inl rfl) (Fa i) (255 - Fb i) la (by omega) W)
      have HP5 : ∀ W, Hid (Calls Tryz.prog 151 #[.int .i64 8, .int .i64 8, .int .u64 ((Fa i : Nat) : Int), .int .u64 ((Fa i : Nat) : Int)] W fun e w' => e = .returned (.tuple #[.int .u64 ((Fa i &&& Fa i : Nat) : Int), .int .i64 0]) ∧ Below W.heap.size W w') := fun W => hid (bin8 8 (.inl rfl) (Fa i) (Fa i) la la W)
      have HP6 : ∀ W, Hid (Calls Tryz.prog 151 #[.int .i64 8, .int .i64 8, .int .u64 ((Fb i : Nat) : Int), .int .u64 ((255 - Fa i : Nat) : Int)] W fun e w' => e = .returned (.tuple #[.int .u64 ((Fb i &&& (255 - Fa i) : Nat) : Int), .int .i64 0]) ∧ Below W.heap.size W w') := fun W => hid (bin8 8 (.inl rfl) (Fb i) (255 - Fa i) lb (by omega) W)
      have w1 : IntKind.u64.wrap (255 - (Fa i : Int)) = ((255 - Fa i : Nat) : Int) := by rw [IntKind.wrap_u64]; omega
      have w2 : IntKind.u64.wrap (255 - (Fb i : Int)) = ((255 - Fb i : Nat) : Int) := by rw [IntKind.wrap_u64]; omega
      have b5 : Fa i &&& Fa i ≤ Fa i := Nat.and_le_left
      have b6 : Fb i &&& (255 - Fa i) ≤ Fb i := Nat.and_le_left
      have w7 : IntKind.u64.wrap (((Fa i &&& Fa i : Nat) : Int) + ((Fb i &&& (255 - Fa i) : Nat) : Int)) = (((Fa i &&& Fa i) + (Fb i &&& (255 - Fa i)) : Nat) : Int) := by rw [IntKind.wrap_u64]; omega
      clear HLa HLb HR HN1 HN2 HVC HN0
      have hz : (0 < (Fa i : Int)) = (0 < Fa i) := by simp
      rcases HKK.out with rfl | rfl | rfl | rfl
      · clear HKK HQ
        unfold whoB at hri
        simp only [if_true, Nat.reduceEqDiff, if_false] at hri
        rcases Nat.eq_zero_or_pos (Fa i) with hx0 | hx0
        · have hnn := hn2 hx0
          have hgt : ¬ (0 < (Fa i : Int)) := by omega
          have HNN := hid hnn
          have HRI := hid hri
          clear hn1 hn2 hnn hri hx0 hz
          obtain ⟨ri, hre⟩ : ∃ ri, ri = R i := ⟨_, rfl⟩
          have HRE := hid hre
          clear hre
          generalize Fa i &&& Fb i = p1 at *
          generalize Fa i ||| Fb i = p2 at *
          generalize Fa i ^^^ Fb i = p3 at *
          generalize Fa i &&& (255 - Fb i) = p4 at *
          generalize Fa i &&& Fa i = p5 at *
          generalize Fb i &&& (255 - Fa i) = p6 at *
          generalize hqa : 255 - Fa i = qa at *
          generalize hqb : 255 - Fb i = qb at *
          generalize hs7 : p5 + p6 = p7 at *
          have hwr := HBW.out.size
          go_upto_region 21 with (first
            | (go_at_call 126; (with_reducible refine (HSa _).out.mono ?_); rintro e wn ⟨vr, rfl, ho3, hb3⟩; obtain ⟨g3, c3, rfl⟩ := owned_at ho3 (by decide); have ka : wn.cell? ⟨g3, i, none⟩ = some (.int .u64 (Fa i : Nat)) := (ho3.cellAt i (by omega)).trans (fc_get hlt); replace HBC := hid (HBC.out.trans (hb3.mono HBC.out.size)); have a0'' := (HBC.out.cell (p := ⟨ga, 0, none⟩) hgw).trans a0'; have a1'' := (HBC.out.cell (p := ⟨ga, 1, none⟩) hgw).trans a1'; have a2'' := (HBC.out.cell (p := ⟨ga, 2, none⟩) hgw).trans a2'; have a3'' := (HBC.out.cell (p := ⟨ga, 3, none⟩) hgw).trans a3'; have b0'' := (HBC.out.cell (p := ⟨ga, 4, none⟩) hgw).trans b0'; have b1'' := (HBC.out.cell (p := ⟨ga, 5, none⟩) hgw).trans b1'; have b2'' := (HBC.out.cell (p := ⟨ga, 6, none⟩) hgw).trans b2'; have b3'' := (HBC.out.cell (p := ⟨ga, 7, none⟩) hgw).trans b3'; clear ho3 hb3)
            | (go_at_call 126; (with_reducible refine (HSb _).out.mono ?_); rintro e wn ⟨vr, rfl, ho3, hb3⟩; obtain ⟨g3, c3, rfl⟩ := owned_at ho3 (by decide); have kb : wn.cell? ⟨g3, i, none⟩ = some (.int .u64 (Fb i : Nat)) := (ho3.cellAt i (by omega)).trans (fc_get hlt); replace HBC := hid (HBC.out.trans (hb3.mono HBC.out.size)); have a0'' := (HBC.out.cell (p := ⟨ga, 0, none⟩) hgw).trans a0'; have a1'' := (HBC.out.cell (p := ⟨ga, 1, none⟩) hgw).trans a1'; have a2'' := (HBC.out.cell (p := ⟨ga, 2, none⟩) hgw).trans a2'; have a3'' := (HBC.out.cell (p := ⟨ga, 3, none⟩) hgw).trans a3'; have b0'' := (HBC.out.cell (p := ⟨ga, 4, none⟩) hgw).trans b0'; have b1'' := (HBC.out.cell (p := ⟨ga, 5, none⟩) hgw).trans b1'; have b2'' := (HBC.out.cell (p := ⟨ga, 6, none⟩) hgw).trans b2'; have b3'' := (HBC.out.cell (p := ⟨ga, 7, none⟩) hgw).trans b3'; clear ho3 hb3)
            | (go_at_call 151; (with_reducible refine (HP1 _).out.mono ?_); rintro e wn ⟨rfl, hb3⟩; replace HBC := hid (HBC.out.trans (hb3.mono HBC.out.size)); clear hb3)
            | (go_at_call 151; (with_reducible refine (HP2 _).out.mono ?_); rintro e wn ⟨rfl, hb3⟩; replace HBC := hid (HBC.out.trans (hb3.mono HBC.out.size)); clear hb3)
            | (go_at_call 151; (with_reducible refine (HP3 _).out.mono ?_); rintro e wn ⟨rfl, hb3⟩; replace HBC := hid (HBC.out.trans (hb3.mono HBC.out.size)); clear hb3)
            | (go_at_call 151; (with_reducible refine (HP4 _).out.mono ?_); rintro e wn ⟨rfl, hb3⟩; replace HBC := hid (HBC.out.trans (hb3.mono HBC.out.size)); clear hb3)
            | (go_at_call 151; (with_reducible refine (HP5 _).out.mono ?_); rintro e wn ⟨rfl, hb3⟩; replace HBC := hid (HBC.out.trans (hb3.mono HBC.out.size)); clear hb3)
            | (go_at_call 151; (with_reducible refine (HP6 _).out.mono ?_); rintro e wn ⟨rfl, hb3⟩; replace HBC := hid (HBC.out.trans (hb3.mono HBC.out.size)); clear hb3)
            | (go_at_call 195; (with_reducible refine (HPL _).out.mono ?_); rintro e wn ⟨rfl, rfl⟩))
          have HB21 := hid (HBW.out.trans (HBC.out.mono hwr))
          have HO21 := hid (own_below HOW.out HBC.out (Nat.le_refl _))
          have hs21 := HB21.out.size
          have hsn : fc i R ++ [Value.int .u64 (p1 : Int)] = fc (i + 1) R := by have h := HSN.out; rw [HRI.out] at h; exact h
          have HSN2 := hid hsn
          clear hsn HSN HRI HRE HBC HOW HBW hwr
          go_wp2_with (first
            | (go_at_call 195; (with_reducible refine (HPL _).out.mono ?_); rintro e wm ⟨rfl, rfl⟩)
            | (at_builtin; refine append_u64 rfl _ _ rfl W0.heap.size _ _ _ (p1 : Int) ((HO21.out.alloc _).alloc _) (by first | omega | (simp <;> omega)) (by omega) rfl (by simp only [size_al]; rfl) ?_; intro v' w8 hown' hnx8 hsz8))
          rw [HSN2.out] at hown'
          have HO8 := hid hown'
          have HB8 := hid (((HB21.out.alloc hs21 _).alloc (by first | omega | (simp <;> omega)) _).trans hnx8)
          clear hown' hnx8 hsz8
          go_roundw
          case rel => exact ⟨i + 1, hlt, rfl, by rw [HNN.out], HO8, HB8⟩
          case measure => (simp [intOf]; omega)
        · have hnn := hn1 hx0
          have hgt : (0 < (Fa i : Int)) := by omega
          have HNN := hid hnn
          have HRI := hid hri
          clear hn1 hn2 hnn hri hx0 hz
          obtain ⟨ri, hre⟩ : ∃ ri, ri = R i := ⟨_, rfl⟩
          have HRE := hid hre
          clear hre
          generalize Fa i &&& Fb i = p1 at *
          generalize Fa i ||| Fb i = p2 at *
          generalize Fa i ^^^ Fb i = p3 at *
          generalize Fa i &&& (255 - Fb i) = p4 at *
          generalize Fa i &&& Fa i = p5 at *
          generalize Fb i &&& (255 - Fa i) = p6 at *
          generalize hqa : 255 - Fa i = qa at *
          generalize hqb : 255 - Fb i = qb at *
          generalize hs7 : p5 + p6 = p7 at *
          have hwr := HBW.out.size
          go_upto_region 21 with (first
            | (go_at_call 126; (with_reducible refine (HSa _).out.mono ?_); rintro e wn ⟨vr, rfl, ho3, hb3⟩; obtain ⟨g3, c3, rfl⟩ := owned_at ho3 (by decide); have ka : wn.cell? ⟨g3, i, none⟩ = some (.int .u64 (Fa i : Nat)) := (ho3.cellAt i (by omega)).trans (fc_get hlt); replace HBC := hid (HBC.out.trans (hb3.mono HBC.out.size)); have a0'' := (HBC.out.cell (p := ⟨ga, 0, none⟩) hgw).trans a0'; have a1'' := (HBC.out.cell (p := ⟨ga, 1, none⟩) hgw).trans a1'; have a2'' := (HBC.out.cell (p := ⟨ga, 2, none⟩) hgw).trans a2'; have a3'' := (HBC.out.cell (p := ⟨ga, 3, none⟩) hgw).trans a3'; have b0'' := (HBC.out.cell (p := ⟨ga, 4, none⟩) hgw).trans b0'; have b1'' := (HBC.out.cell (p := ⟨ga, 5, none⟩) hgw).trans b1'; have b2'' := (HBC.out.cell (p := ⟨ga, 6, none⟩) hgw).trans b2'; have b3'' := (HBC.out.cell (p := ⟨ga, 7, none⟩) hgw).trans b3'; clear ho3 hb3)
            | (go_at_call 126; (with_reducible refine (HSb _).out.mono ?_); rintro e wn ⟨vr, rfl, ho3, hb3⟩; obtain ⟨g3, c3, rfl⟩ := owned_at ho3 (by decide); have kb : wn.cell? ⟨g3, i, none⟩ = some (.int .u64 (Fb i : Nat)) := (ho3.cellAt i (by omega)).trans (fc_get hlt); replace HBC := hid (HBC.out.trans (hb3.mono HBC.out.size)); have a0'' := (HBC.out.cell (p := ⟨ga, 0, none⟩) hgw).trans a0'; have a1'' := (HBC.out.cell (p := ⟨ga, 1, none⟩) hgw).trans a1'; have a2'' := (HBC.out.cell (p := ⟨ga, 2, none⟩) hgw).trans a2'; have a3'' := (HBC.out.cell (p := ⟨ga, 3, none⟩) hgw).trans a3'; have b0'' := (HBC.out.cell (p := ⟨ga, 4, none⟩) hgw).trans b0'; have b1'' := (HBC.out.cell (p := ⟨ga, 5, none⟩) hgw).trans b1'; have b2'' := (HBC.out.cell (p := ⟨ga, 6, none⟩) hgw).trans b2'; have b3'' := (HBC.out.cell (p := ⟨ga, 7, none⟩) hgw).trans b3'; clear ho3 hb3)
            | (go_at_call 151; (with_reducible refine (HP1 _).out.mono ?_); rintro e wn ⟨rfl, hb3⟩; replace HBC := hid (HBC.out.trans (hb3.mono HBC.out.size)); clear hb3)
            | (go_at_call 151; (with_reducible refine (HP2 _).out.mono ?_); rintro e wn ⟨rfl, hb3⟩; replace HBC := hid (HBC.out.trans (hb3.mono HBC.out.size)); clear hb3)
            | (go_at_call 151; (with_reducible refine (HP3 _).out.mono ?_); rintro e wn ⟨rfl, hb3⟩; replace HBC := hid (HBC.out.trans (hb3.mono HBC.out.size)); clear hb3)
            | (go_at_call 151; (with_reducible refine (HP4 _).out.mono ?_); rintro e wn ⟨rfl, hb3⟩; replace HBC := hid (HBC.out.trans (hb3.mono HBC.out.size)); clear hb3)
            | (go_at_call 151; (with_reducible refine (HP5 _).out.mono ?_); rintro e wn ⟨rfl, hb3⟩; replace HBC := hid (HBC.out.trans (hb3.mono HBC.out.size)); clear hb3)
            | (go_at_call 151; (with_reducible refine (HP6 _).out.mono ?_); rintro e wn ⟨rfl, hb3⟩; replace HBC := hid (HBC.out.trans (hb3.mono HBC.out.size)); clear hb3)
            | (go_at_call 195; (with_reducible refine (HPL _).out.mono ?_); rintro e wn ⟨rfl, rfl⟩))
          have HB21 := hid (HBW.out.trans (HBC.out.mono hwr))
          have HO21 := hid (own_below HOW.out HBC.out (Nat.le_refl _))
          have hs21 := HB21.out.size
          have hsn : fc i R ++ [Value.int .u64 (p1 : Int)] = fc (i + 1) R := by have h := HSN.out; rw [HRI.out] at h; exact h
          have HSN2 := hid hsn
          clear hsn HSN HRI HRE HBC HOW HBW hwr
          go_wp2_with (first
            | (go_at_call 195; (with_reducible refine (HPL _).out.mono ?_); rintro e wm ⟨rfl, rfl⟩)
            | (at_builtin; refine append_u64 rfl _ _ rfl W0.heap.size _ _ _ (p1 : Int) ((HO21.out.alloc _).alloc _) (by first | omega | (simp <;> omega)) (by omega) rfl (by simp only [size_al]; rfl) ?_; intro v' w8 hown' hnx8 hsz8))
          rw [HSN2.out] at hown'
          have HO8 := hid hown'
          have HB8 := hid (((HB21.out.alloc hs21 _).alloc (by first | omega | (simp <;> omega)) _).trans hnx8)
          clear hown' hnx8 hsz8
          go_roundw
          case rel => exact ⟨i + 1, hlt, rfl, by rw [HNN.out]; rfl, HO8, HB8⟩
          case measure => (simp [intOf]; omega)
      · clear HKK HQ
        unfold whoB at hri
        simp only [if_true, Nat.reduceEqDiff, if_false] at hri
        rcases Nat.eq_zero_or_pos (Fa i) with hx0 | hx0
        · have hnn := hn2 hx0
          have hgt : ¬ (0 < (Fa i : Int)) := by omega
          have HNN := hid hnn
          have HRI := hid hri
          clear hn1 hn2 hnn hri hx0 hz
          obtain ⟨ri, hre⟩ : ∃ ri, ri = R i := ⟨_, rfl⟩
          have HRE := hid hre
          clear hre
          generalize Fa i &&& Fb i = p1 at *
          generalize Fa i ||| Fb i = p2 at *
          generalize Fa i ^^^ Fb i = p3 at *
          generalize Fa i &&& (255 - Fb i) = p4 at *
          generalize Fa i &&& Fa i = p5 at *
          generalize Fb i &&& (255 - Fa i) = p6 at *
          generalize hqa : 255 - Fa i = qa at *
          generalize hqb : 255 - Fb i = qb at *
          generalize hs7 : p5 + p6 = p7 at *
          have hwr := HBW.out.size
          go_upto_region 21 with (first
            | (go_at_call 126; (with_reducible refine (HSa _).out.mono ?_); rintro e wn ⟨vr, rfl, ho3, hb3⟩; obtain ⟨g3, c3, rfl⟩ := owned_at ho3 (by decide); have ka : wn.cell? ⟨g3, i, none⟩ = some (.int .u64 (Fa i : Nat)) := (ho3.cellAt i (by omega)).trans (fc_get hlt); replace HBC := hid (HBC.out.trans (hb3.mono HBC.out.size)); have a0'' := (HBC.out.cell (p := ⟨ga, 0, none⟩) hgw).trans a0'; have a1'' := (HBC.out.cell (p := ⟨ga, 1, none⟩) hgw).trans a1'; have a2'' := (HBC.out.cell (p := ⟨ga, 2, none⟩) hgw).trans a2'; have a3'' := (HBC.out.cell (p := ⟨ga, 3, none⟩) hgw).trans a3'; have b0'' := (HBC.out.cell (p := ⟨ga, 4, none⟩) hgw).trans b0'; have b1'' := (HBC.out.cell (p := ⟨ga, 5, none⟩) hgw).trans b1'; have b2'' := (HBC.out.cell (p := ⟨ga, 6, none⟩) hgw).trans b2'; have b3'' := (HBC.out.cell (p := ⟨ga, 7, none⟩) hgw).trans b3'; clear ho3 hb3)
            | (go_at_call 126; (with_reducible refine (HSb _).out.mono ?_); rintro e wn ⟨vr, rfl, ho3, hb3⟩; obtain ⟨g3, c3, rfl⟩ := owned_at ho3 (by decide); have kb : wn.cell? ⟨g3, i, none⟩ = some (.int .u64 (Fb i : Nat)) := (ho3.cellAt i (by omega)).trans (fc_get hlt); replace HBC := hid (HBC.out.trans (hb3.mono HBC.out.size)); have a0'' := (HBC.out.cell (p := ⟨ga, 0, none⟩) hgw).trans a0'; have a1'' := (HBC.out.cell (p := ⟨ga, 1, none⟩) hgw).trans a1'; have a2'' := (HBC.out.cell (p := ⟨ga, 2, none⟩) hgw).trans a2'; have a3'' := (HBC.out.cell (p := ⟨ga, 3, none⟩) hgw).trans a3'; have b0'' := (HBC.out.cell (p := ⟨ga, 4, none⟩) hgw).trans b0'; have b1'' := (HBC.out.cell (p := ⟨ga, 5, none⟩) hgw).trans b1'; have b2'' := (HBC.out.cell (p := ⟨ga, 6, none⟩) hgw).trans b2'; have b3'' := (HBC.out.cell (p := ⟨ga, 7, none⟩) hgw).trans b3'; clear ho3 hb3)
            | (go_at_call 151; (with_reducible refine (HP1 _).out.mono ?_); rintro e wn ⟨rfl, hb3⟩; replace HBC := hid (HBC.out.trans (hb3.mono HBC.out.size)); clear hb3)
            | (go_at_call 151; (with_reducible refine (HP2 _).out.mono ?_); rintro e wn ⟨rfl, hb3⟩; replace HBC := hid (HBC.out.trans (hb3.mono HBC.out.size)); clear hb3)
            | (go_at_call 151; (with_reducible refine (HP3 _).out.mono ?_); rintro e wn ⟨rfl, hb3⟩; replace HBC := hid (HBC.out.trans (hb3.mono HBC.out.size)); clear hb3)
            | (go_at_call 151; (with_reducible refine (HP4 _).out.mono ?_); rintro e wn ⟨rfl, hb3⟩; replace HBC := hid (HBC.out.trans (hb3.mono HBC.out.size)); clear hb3)
            | (go_at_call 151; (with_reducible refine (HP5 _).out.mono ?_); rintro e wn ⟨rfl, hb3⟩; replace HBC := hid (HBC.out.trans (hb3.mono HBC.out.size)); clear hb3)
            | (go_at_call 151; (with_reducible refine (HP6 _).out.mono ?_); rintro e wn ⟨rfl, hb3⟩; replace HBC := hid (HBC.out.trans (hb3.mono HBC.out.size)); clear hb3)
            | (go_at_call 195; (with_reducible refine (HPL _).out.mono ?_); rintro e wn ⟨rfl, rfl⟩))
          have HB21 := hid (HBW.out.trans (HBC.out.mono hwr))
          have HO21 := hid (own_below HOW.out HBC.out (Nat.le_refl _))
          have hs21 := HB21.out.size
          have hsn : fc i R ++ [Value.int .u64 (p4 : Int)] = fc (i + 1) R := by have h := HSN.out; rw [HRI.out] at h; exact h
          have HSN2 := hid hsn
          clear hsn HSN HRI HRE HBC HOW HBW hwr
          go_wp2_with (first
            | (go_at_call 195; (with_reducible refine (HPL _).out.mono ?_); rintro e wm ⟨rfl, rfl⟩)
            | (at_builtin; refine append_u64 rfl _ _ rfl W0.heap.size _ _ _ (p4 : Int) ((HO21.out.alloc _).alloc _) (by first | omega | (simp <;> omega)) (by omega) rfl (by simp only [size_al]; rfl) ?_; intro v' w8 hown' hnx8 hsz8))
          rw [HSN2.out] at hown'
          have HO8 := hid hown'
          have HB8 := hid (((HB21.out.alloc hs21 _).alloc (by first | omega | (simp <;> omega)) _).trans hnx8)
          clear hown' hnx8 hsz8
          go_roundw
          case rel => exact ⟨i + 1, hlt, rfl, by rw [HNN.out], HO8, HB8⟩
          case measure => (simp [intOf]; omega)
        · have hnn := hn1 hx0
          have hgt : (0 < (Fa i : Int)) := by omega
          have HNN := hid hnn
          have HRI := hid hri
          clear hn1 hn2 hnn hri hx0 hz
          obtain ⟨ri, hre⟩ : ∃ ri, ri = R i := ⟨_, rfl⟩
          have HRE := hid hre
          clear hre
          generalize Fa i &&& Fb i = p1 at *
          generalize Fa i ||| Fb i = p2 at *
          generalize Fa i ^^^ Fb i = p3 at *
          generalize Fa i &&& (255 - Fb i) = p4 at *
          generalize Fa i &&& Fa i = p5 at *
          generalize Fb i &&& (255 - Fa i) = p6 at *
          generalize hqa : 255 - Fa i = qa at *
          generalize hqb : 255 - Fb i = qb at *
          generalize hs7 : p5 + p6 = p7 at *
          have hwr := HBW.out.size
          go_upto_region 21 with (first
            | (go_at_call 126; (with_reducible refine (HSa _).out.mono ?_); rintro e wn ⟨vr, rfl, ho3, hb3⟩; obtain ⟨g3, c3, rfl⟩ := owned_at ho3 (by decide); have ka : wn.cell? ⟨g3, i, none⟩ = some (.int .u64 (Fa i : Nat)) := (ho3.cellAt i (by omega)).trans (fc_get hlt); replace HBC := hid (HBC.out.trans (hb3.mono HBC.out.size)); have a0'' := (HBC.out.cell (p := ⟨ga, 0, none⟩) hgw).trans a0'; have a1'' := (HBC.out.cell (p := ⟨ga, 1, none⟩) hgw).trans a1'; have a2'' := (HBC.out.cell (p := ⟨ga, 2, none⟩) hgw).trans a2'; have a3'' := (HBC.out.cell (p := ⟨ga, 3, none⟩) hgw).trans a3'; have b0'' := (HBC.out.cell (p := ⟨ga, 4, none⟩) hgw).trans b0'; have b1'' := (HBC.out.cell (p := ⟨ga, 5, none⟩) hgw).trans b1'; have b2'' := (HBC.out.cell (p := ⟨ga, 6, none⟩) hgw).trans b2'; have b3'' := (HBC.out.cell (p := ⟨ga, 7, none⟩) hgw).trans b3'; clear ho3 hb3)
            | (go_at_call 126; (with_reducible refine (HSb _).out.mono ?_); rintro e wn ⟨vr, rfl, ho3, hb3⟩; obtain ⟨g3, c3, rfl⟩ := owned_at ho3 (by decide); have kb : wn.cell? ⟨g3, i, none⟩ = some (.int .u64 (Fb i : Nat)) := (ho3.cellAt i (by omega)).trans (fc_get hlt); replace HBC := hid (HBC.out.trans (hb3.mono HBC.out.size)); have a0'' := (HBC.out.cell (p := ⟨ga, 0, none⟩) hgw).trans a0'; have a1'' := (HBC.out.cell (p := ⟨ga, 1, none⟩) hgw).trans a1'; have a2'' := (HBC.out.cell (p := ⟨ga, 2, none⟩) hgw).trans a2'; have a3'' := (HBC.out.cell (p := ⟨ga, 3, none⟩) hgw).trans a3'; have b0'' := (HBC.out.cell (p := ⟨ga, 4, none⟩) hgw).trans b0'; have b1'' := (HBC.out.cell (p := ⟨ga, 5, none⟩) hgw).trans b1'; have b2'' := (HBC.out.cell (p := ⟨ga, 6, none⟩) hgw).trans b2'; have b3'' := (HBC.out.cell (p := ⟨ga, 7, none⟩) hgw).trans b3'; clear ho3 hb3)
            | (go_at_call 151; (with_reducible refine (HP1 _).out.mono ?_); rintro e wn ⟨rfl, hb3⟩; replace HBC := hid (HBC.out.trans (hb3.mono HBC.out.size)); clear hb3)
            | (go_at_call 151; (with_reducible refine (HP2 _).out.mono ?_); rintro e wn ⟨rfl, hb3⟩; replace HBC := hid (HBC.out.trans (hb3.mono HBC.out.size)); clear hb3)
            | (go_at_call 151; (with_reducible refine (HP3 _).out.mono ?_); rintro e wn ⟨rfl, hb3⟩; replace HBC := hid (HBC.out.trans (hb3.mono HBC.out.size)); clear hb3)
            | (go_at_call 151; (with_reducible refine (HP4 _).out.mono ?_); rintro e wn ⟨rfl, hb3⟩; replace HBC := hid (HBC.out.trans (hb3.mono HBC.out.size)); clear hb3)
            | (go_at_call 151; (with_reducible refine (HP5 _).out.mono ?_); rintro e wn ⟨rfl, hb3⟩; replace HBC := hid (HBC.out.trans (hb3.mono HBC.out.size)); clear hb3)
            | (go_at_call 151; (with_reducible refine (HP6 _).out.mono ?_); rintro e wn ⟨rfl, hb3⟩; replace HBC := hid (HBC.out.trans (hb3.mono HBC.out.size)); clear hb3)
            | (go_at_call 195; (with_reducible refine (HPL _).out.mono ?_); rintro e wn ⟨rfl, rfl⟩))
          have HB21 := hid (HBW.out.trans (HBC.out.mono hwr))
          have HO21 := hid (own_below HOW.out HBC.out (Nat.le_refl _))
          have hs21 := HB21.out.size
          have hsn : fc i R ++ [Value.int .u64 (p4 : Int)] = fc (i + 1) R := by have h := HSN.out; rw [HRI.out] at h; exact h
          have HSN2 := hid hsn
          clear hsn HSN HRI HRE HBC HOW HBW hwr
          go_wp2_with (first
            | (go_at_call 195; (with_reducible refine (HPL _).out.mono ?_); rintro e wm ⟨rfl, rfl⟩)
            | (at_builtin; refine append_u64 rfl _ _ rfl W0.heap.size _ _ _ (p4 : Int) ((HO21.out.alloc _).alloc _) (by first | omega | (simp <;> omega)) (by omega) rfl (by simp only [size_al]; rfl) ?_; intro v' w8 hown' hnx8 hsz8))
          rw [HSN2.out] at hown'
          have HO8 := hid hown'
          have HB8 := hid (((HB21.out.alloc hs21 _).alloc (by first | omega | (simp <;> omega)) _).trans hnx8)
          clear hown' hnx8 hsz8
          go_roundw
          case rel => exact ⟨i + 1, hlt, rfl, by rw [HNN.out]; rfl, HO8, HB8⟩
          case measure => (simp [intOf]; omega)
      · clear HKK HQ
        unfold whoB at hri
        simp only [if_true, Nat.reduceEqDiff, if_false] at hri
        rcases Nat.eq_zero_or_pos (Fa i) with hx0 | hx0
        · have hnn := hn2 hx0
          have hgt : ¬ (0 < (Fa i : Int)) := by omega
          have HNN := hid hnn
          have HRI := hid hri
          clear hn1 hn2 hnn hri hx0 hz
          obtain ⟨ri, hre⟩ : ∃ ri, ri = R i := ⟨_, rfl⟩
          have HRE := hid hre
          clear hre
          generalize Fa i &&& Fb i = p1 at *
          generalize Fa i ||| Fb i = p2 at *
          generalize Fa i ^^^ Fb i = p3 at *
          generalize Fa i &&& (255 - Fb i) = p4 at *
          generalize Fa i &&& Fa i = p5 at *
          generalize Fb i &&& (255 - Fa i) = p6 at *
          generalize hqa : 255 - Fa i = qa at *
          generalize hqb : 255 - Fb i = qb at *
          generalize hs7 : p5 + p6 = p7 at *
          have hwr := HBW.out.size
          go_upto_region 21 with (first
            | (go_at_call 126; (with_reducible refine (HSa _).out.mono ?_); rintro e wn ⟨vr, rfl, ho3, hb3⟩; obtain ⟨g3, c3, rfl⟩ := owned_at ho3 (by decide); have ka : wn.cell? ⟨g3, i, none⟩ = some (.int .u64 (Fa i : Nat)) := (ho3.cellAt i (by omega)).trans (fc_get hlt); replace HBC := hid (HBC.out.trans (hb3.mono HBC.out.size)); have a0'' := (HBC.out.cell (p := ⟨ga, 0, none⟩) hgw).trans a0'; have a1'' := (HBC.out.cell (p := ⟨ga, 1, none⟩) hgw).trans a1'; have a2'' := (HBC.out.cell (p := ⟨ga, 2, none⟩) hgw).trans a2'; have a3'' := (HBC.out.cell (p := ⟨ga, 3, none⟩) hgw).trans a3'; have b0'' := (HBC.out.cell (p := ⟨ga, 4, none⟩) hgw).trans b0'; have b1'' := (HBC.out.cell (p := ⟨ga, 5, none⟩) hgw).trans b1'; have b2'' := (HBC.out.cell (p := ⟨ga, 6, none⟩) hgw).trans b2'; have b3'' := (HBC.out.cell (p := ⟨ga, 7, none⟩) hgw).trans b3'; clear ho3 hb3)
            | (go_at_call 126; (with_reducible refine (HSb _).out.mono ?_); rintro e wn ⟨vr, rfl, ho3, hb3⟩; obtain ⟨g3, c3, rfl⟩ := owned_at ho3 (by decide); have kb : wn.cell? ⟨g3, i, none⟩ = some (.int .u64 (Fb i : Nat)) := (ho3.cellAt i (by omega)).trans (fc_get hlt); replace HBC := hid (HBC.out.trans (hb3.mono HBC.out.size)); have a0'' := (HBC.out.cell (p := ⟨ga, 0, none⟩) hgw).trans a0'; have a1'' := (HBC.out.cell (p := ⟨ga, 1, none⟩) hgw).trans a1'; have a2'' := (HBC.out.cell (p := ⟨ga, 2, none⟩) hgw).trans a2'; have a3'' := (HBC.out.cell (p := ⟨ga, 3, none⟩) hgw).trans a3'; have b0'' := (HBC.out.cell (p := ⟨ga, 4, none⟩) hgw).trans b0'; have b1'' := (HBC.out.cell (p := ⟨ga, 5, none⟩) hgw).trans b1'; have b2'' := (HBC.out.cell (p := ⟨ga, 6, none⟩) hgw).trans b2'; have b3'' := (HBC.out.cell (p := ⟨ga, 7, none⟩) hgw).trans b3'; clear ho3 hb3)
            | (go_at_call 151; (with_reducible refine (HP1 _).out.mono ?_); rintro e wn ⟨rfl, hb3⟩; replace HBC := hid (HBC.out.trans (hb3.mono HBC.out.size)); clear hb3)
            | (go_at_call 151; (with_reducible refine (HP2 _).out.mono ?_); rintro e wn ⟨rfl, hb3⟩; replace HBC := hid (HBC.out.trans (hb3.mono HBC.out.size)); clear hb3)
            | (go_at_call 151; (with_reducible refine (HP3 _).out.mono ?_); rintro e wn ⟨rfl, hb3⟩; replace HBC := hid (HBC.out.trans (hb3.mono HBC.out.size)); clear hb3)
            | (go_at_call 151; (with_reducible refine (HP4 _).out.mono ?_); rintro e wn ⟨rfl, hb3⟩; replace HBC := hid (HBC.out.trans (hb3.mono HBC.out.size)); clear hb3)
            | (go_at_call 151; (with_reducible refine (HP5 _).out.mono ?_); rintro e wn ⟨rfl, hb3⟩; replace HBC := hid (HBC.out.trans (hb3.mono HBC.out.size)); clear hb3)
            | (go_at_call 151; (with_reducible refine (HP6 _).out.mono ?_); rintro e wn ⟨rfl, hb3⟩; replace HBC := hid (HBC.out.trans (hb3.mono HBC.out.size)); clear hb3)
            | (go_at_call 195; (with_reducible refine (HPL _).out.mono ?_); rintro e wn ⟨rfl, rfl⟩))
          have HB21 := hid (HBW.out.trans (HBC.out.mono hwr))
          have HO21 := hid (own_below HOW.out HBC.out (Nat.le_refl _))
          have hs21 := HB21.out.size
          have hsn : fc i R ++ [Value.int .u64 (p2 : Int)] = fc (i + 1) R := by have h := HSN.out; rw [HRI.out] at h; exact h
          have HSN2 := hid hsn
          clear hsn HSN HRI HRE HBC HOW HBW hwr
          go_wp2_with (first
            | (go_at_call 195; (with_reducible refine (HPL _).out.mono ?_); rintro e wm ⟨rfl, rfl⟩)
            | (at_builtin; refine append_u64 rfl _ _ rfl W0.heap.size _ _ _ (p2 : Int) ((HO21.out.alloc _).alloc _) (by first | omega | (simp <;> omega)) (by omega) rfl (by simp only [size_al]; rfl) ?_; intro v' w8 hown' hnx8 hsz8))
          rw [HSN2.out] at hown'
          have HO8 := hid hown'
          have HB8 := hid (((HB21.out.alloc hs21 _).alloc (by first | omega | (simp <;> omega)) _).trans hnx8)
          clear hown' hnx8 hsz8
          go_roundw
          case rel => exact ⟨i + 1, hlt, rfl, by rw [HNN.out], HO8, HB8⟩
          case measure => (simp [intOf]; omega)
        · have hnn := hn1 hx0
          have hgt : (0 < (Fa i : Int)) := by omega
          have HNN := hid hnn
          have HRI := hid hri
          clear hn1 hn2 hnn hri hx0 hz
          obtain ⟨ri, hre⟩ : ∃ ri, ri = R i := ⟨_, rfl⟩
          have HRE := hid hre
          clear hre
          generalize Fa i &&& Fb i = p1 at *
          generalize Fa i ||| Fb i = p2 at *
          generalize Fa i ^^^ Fb i = p3 at *
          generalize Fa i &&& (255 - Fb i) = p4 at *
          generalize Fa i &&& Fa i = p5 at *
          generalize Fb i &&& (255 - Fa i) = p6 at *
          generalize hqa : 255 - Fa i = qa at *
          generalize hqb : 255 - Fb i = qb at *
          generalize hs7 : p5 + p6 = p7 at *
          have hwr := HBW.out.size
          go_upto_region 21 with (first
            | (go_at_call 126; (with_reducible refine (HSa _).out.mono ?_); rintro e wn ⟨vr, rfl, ho3, hb3⟩; obtain ⟨g3, c3, rfl⟩ := owned_at ho3 (by decide); have ka : wn.cell? ⟨g3, i, none⟩ = some (.int .u64 (Fa i : Nat)) := (ho3.cellAt i (by omega)).trans (fc_get hlt); replace HBC := hid (HBC.out.trans (hb3.mono HBC.out.size)); have a0'' := (HBC.out.cell (p := ⟨ga, 0, none⟩) hgw).trans a0'; have a1'' := (HBC.out.cell (p := ⟨ga, 1, none⟩) hgw).trans a1'; have a2'' := (HBC.out.cell (p := ⟨ga, 2, none⟩) hgw).trans a2'; have a3'' := (HBC.out.cell (p := ⟨ga, 3, none⟩) hgw).trans a3'; have b0'' := (HBC.out.cell (p := ⟨ga, 4, none⟩) hgw).trans b0'; have b1'' := (HBC.out.cell (p := ⟨ga, 5, none⟩) hgw).trans b1'; have b2'' := (HBC.out.cell (p := ⟨ga, 6, none⟩) hgw).trans b2'; have b3'' := (HBC.out.cell (p := ⟨ga, 7, none⟩) hgw).trans b3'; clear ho3 hb3)
            | (go_at_call 126; (with_reducible refine (HSb _).out.mono ?_); rintro e wn ⟨vr, rfl, ho3, hb3⟩; obtain ⟨g3, c3, rfl⟩ := owned_at ho3 (by decide); have kb : wn.cell? ⟨g3, i, none⟩ = some (.int .u64 (Fb i : Nat)) := (ho3.cellAt i (by omega)).trans (fc_get hlt); replace HBC := hid (HBC.out.trans (hb3.mono HBC.out.size)); have a0'' := (HBC.out.cell (p := ⟨ga, 0, none⟩) hgw).trans a0'; have a1'' := (HBC.out.cell (p := ⟨ga, 1, none⟩) hgw).trans a1'; have a2'' := (HBC.out.cell (p := ⟨ga, 2, none⟩) hgw).trans a2'; have a3'' := (HBC.out.cell (p := ⟨ga, 3, none⟩) hgw).trans a3'; have b0'' := (HBC.out.cell (p := ⟨ga, 4, none⟩) hgw).trans b0'; have b1'' := (HBC.out.cell (p := ⟨ga, 5, none⟩) hgw).trans b1'; have b2'' := (HBC.out.cell (p := ⟨ga, 6, none⟩) hgw).trans b2'; have b3'' := (HBC.out.cell (p := ⟨ga, 7, none⟩) hgw).trans b3'; clear ho3 hb3)
            | (go_at_call 151; (with_reducible refine (HP1 _).out.mono ?_); rintro e wn ⟨rfl, hb3⟩; replace HBC := hid (HBC.out.trans (hb3.mono HBC.out.size)); clear hb3)
            | (go_at_call 151; (with_reducible refine (HP2 _).out.mono ?_); rintro e wn ⟨rfl, hb3⟩; replace HBC := hid (HBC.out.trans (hb3.mono HBC.out.size)); clear hb3)
            | (go_at_call 151; (with_reducible refine (HP3 _).out.mono ?_); rintro e wn ⟨rfl, hb3⟩; replace HBC := hid (HBC.out.trans (hb3.mono HBC.out.size)); clear hb3)
            | (go_at_call 151; (with_reducible refine (HP4 _).out.mono ?_); rintro e wn ⟨rfl, hb3⟩; replace HBC := hid (HBC.out.trans (hb3.mono HBC.out.size)); clear hb3)
            | (go_at_call 151; (with_reducible refine (HP5 _).out.mono ?_); rintro e wn ⟨rfl, hb3⟩; replace HBC := hid (HBC.out.trans (hb3.mono HBC.out.size)); clear hb3)
            | (go_at_call 151; (with_reducible refine (HP6 _).out.mono ?_); rintro e wn ⟨rfl, hb3⟩; replace HBC := hid (HBC.out.trans (hb3.mono HBC.out.size)); clear hb3)
            | (go_at_call 195; (with_reducible refine (HPL _).out.mono ?_); rintro e wn ⟨rfl, rfl⟩))
          have HB21 := hid (HBW.out.trans (HBC.out.mono hwr))
          have HO21 := hid (own_below HOW.out HBC.out (Nat.le_refl _))
          have hs21 := HB21.out.size
          have hsn : fc i R ++ [Value.int .u64 (p2 : Int)] = fc (i + 1) R := by have h := HSN.out; rw [HRI.out] at h; exact h
          have HSN2 := hid hsn
          clear hsn HSN HRI HRE HBC HOW HBW hwr
          go_wp2_with (first
            | (go_at_call 195; (with_reducible refine (HPL _).out.mono ?_); rintro e wm ⟨rfl, rfl⟩)
            | (at_builtin; refine append_u64 rfl _ _ rfl W0.heap.size _ _ _ (p2 : Int) ((HO21.out.alloc _).alloc _) (by first | omega | (simp <;> omega)) (by omega) rfl (by simp only [size_al]; rfl) ?_; intro v' w8 hown' hnx8 hsz8))
          rw [HSN2.out] at hown'
          have HO8 := hid hown'
          have HB8 := hid (((HB21.out.alloc hs21 _).alloc (by first | omega | (simp <;> omega)) _).trans hnx8)
          clear hown' hnx8 hsz8
          go_roundw
          case rel => exact ⟨i + 1, hlt, rfl, by rw [HNN.out]; rfl, HO8, HB8⟩
          case measure => (simp [intOf]; omega)
      · clear HKK HQ
        unfold whoB at hri
        simp only [if_true, Nat.reduceEqDiff, if_false] at hri
        rcases Nat.eq_zero_or_pos (Fa i) with hx0 | hx0
        · have hnn := hn2 hx0
          have hgt : ¬ (0 < (Fa i : Int)) := by omega
          have HNN := hid hnn
          have HRI := hid hri
          clear hn1 hn2 hnn hri hx0 hz
          obtain ⟨ri, hre⟩ : ∃ ri, ri = R i := ⟨_, rfl⟩
          have HRE := hid hre
          clear hre
          generalize Fa i &&& Fb i = p1 at *
          generalize Fa i ||| Fb i = p2 at *
          generalize Fa i ^^^ Fb i = p3 at *
          generalize Fa i &&& (255 - Fb i) = p4 at *
          generalize Fa i &&& Fa i = p5 at *
          generalize Fb i &&& (255 - Fa i) = p6 at *
          generalize hqa : 255 - Fa i = qa at *
          generalize hqb : 255 - Fb i = qb at *
          generalize hs7 : p5 + p6 = p7 at *
          have hwr := HBW.out.size
          go_upto_region 21 with (first
            | (go_at_call 126; (with_reducible refine (HSa _).out.mono ?_); rintro e wn ⟨vr, rfl, ho3, hb3⟩; obtain ⟨g3, c3, rfl⟩ := owned_at ho3 (by decide); have ka : wn.cell? ⟨g3, i, none⟩ = some (.int .u64 (Fa i : Nat)) := (ho3.cellAt i (by omega)).trans (fc_get hlt); replace HBC := hid (HBC.out.trans (hb3.mono HBC.out.size)); have a0'' := (HBC.out.cell (p := ⟨ga, 0, none⟩) hgw).trans a0'; have a1'' := (HBC.out.cell (p := ⟨ga, 1, none⟩) hgw).trans a1'; have a2'' := (HBC.out.cell (p := ⟨ga, 2, none⟩) hgw).trans a2'; have a3'' := (HBC.out.cell (p := ⟨ga, 3, none⟩) hgw).trans a3'; have b0'' := (HBC.out.cell (p := ⟨ga, 4, none⟩) hgw).trans b0'; have b1'' := (HBC.out.cell (p := ⟨ga, 5, none⟩) hgw).trans b1'; have b2'' := (HBC.out.cell (p := ⟨ga, 6, none⟩) hgw).trans b2'; have b3'' := (HBC.out.cell (p := ⟨ga, 7, none⟩) hgw).trans b3'; clear ho3 hb3)
            | (go_at_call 126; (with_reducible refine (HSb _).out.mono ?_); rintro e wn ⟨vr, rfl, ho3, hb3⟩; obtain ⟨g3, c3, rfl⟩ := owned_at ho3 (by decide); have kb : wn.cell? ⟨g3, i, none⟩ = some (.int .u64 (Fb i : Nat)) := (ho3.cellAt i (by omega)).trans (fc_get hlt); replace HBC := hid (HBC.out.trans (hb3.mono HBC.out.size)); have a0'' := (HBC.out.cell (p := ⟨ga, 0, none⟩) hgw).trans a0'; have a1'' := (HBC.out.cell (p := ⟨ga, 1, none⟩) hgw).trans a1'; have a2'' := (HBC.out.cell (p := ⟨ga, 2, none⟩) hgw).trans a2'; have a3'' := (HBC.out.cell (p := ⟨ga, 3, none⟩) hgw).trans a3'; have b0'' := (HBC.out.cell (p := ⟨ga, 4, none⟩) hgw).trans b0'; have b1'' := (HBC.out.cell (p := ⟨ga, 5, none⟩) hgw).trans b1'; have b2'' := (HBC.out.cell (p := ⟨ga, 6, none⟩) hgw).trans b2'; have b3'' := (HBC.out.cell (p := ⟨ga, 7, none⟩) hgw).trans b3'; clear ho3 hb3)
            | (go_at_call 151; (with_reducible refine (HP1 _).out.mono ?_); rintro e wn ⟨rfl, hb3⟩; replace HBC := hid (HBC.out.trans (hb3.mono HBC.out.size)); clear hb3)
            | (go_at_call 151; (with_reducible refine (HP2 _).out.mono ?_); rintro e wn ⟨rfl, hb3⟩; replace HBC := hid (HBC.out.trans (hb3.mono HBC.out.size)); clear hb3)
            | (go_at_call 151; (with_reducible refine (HP3 _).out.mono ?_); rintro e wn ⟨rfl, hb3⟩; replace HBC := hid (HBC.out.trans (hb3.mono HBC.out.size)); clear hb3)
            | (go_at_call 151; (with_reducible refine (HP4 _).out.mono ?_); rintro e wn ⟨rfl, hb3⟩; replace HBC := hid (HBC.out.trans (hb3.mono HBC.out.size)); clear hb3)
            | (go_at_call 151; (with_reducible refine (HP5 _).out.mono ?_); rintro e wn ⟨rfl, hb3⟩; replace HBC := hid (HBC.out.trans (hb3.mono HBC.out.size)); clear hb3)
            | (go_at_call 151; (with_reducible refine (HP6 _).out.mono ?_); rintro e wn ⟨rfl, hb3⟩; replace HBC := hid (HBC.out.trans (hb3.mono HBC.out.size)); clear hb3)
            | (go_at_call 195; (with_reducible refine (HPL _).out.mono ?_); rintro e wn ⟨rfl, rfl⟩))
          have HB21 := hid (HBW.out.trans (HBC.out.mono hwr))
          have HO21 := hid (own_below HOW.out HBC.out (Nat.le_refl _))
          have hs21 := HB21.out.size
          have hsn : fc i R ++ [Value.int .u64 (p3 : Int)] = fc (i + 1) R := by have h := HSN.out; rw [HRI.out] at h; exact h
          have HSN2 := hid hsn
          clear hsn HSN HRI HRE HBC HOW HBW hwr
          go_wp2_with (first
            | (go_at_call 195; (with_reducible refine (HPL _).out.mono ?_); rintro e wm ⟨rfl, rfl⟩)
            | (at_builtin; refine append_u64 rfl _ _ rfl W0.heap.size _ _ _ (p3 : Int) ((HO21.out.alloc _).alloc _) (by first | omega | (simp <;> omega)) (by omega) rfl (by simp only [size_al]; rfl) ?_; intro v' w8 hown' hnx8 hsz8))
          rw [HSN2.out] at hown'
          have HO8 := hid hown'
          have HB8 := hid (((HB21.out.alloc hs21 _).alloc (by first | omega | (simp <;> omega)) _).trans hnx8)
          clear hown' hnx8 hsz8
          go_roundw
          case rel => exact ⟨i + 1, hlt, rfl, by rw [HNN.out], HO8, HB8⟩
          case measure => (simp [intOf]; omega)
        · have hnn := hn1 hx0
          have hgt : (0 < (Fa i : Int)) := by omega
          have HNN := hid hnn
          have HRI := hid hri
          clear hn1 hn2 hnn hri hx0 hz
          obtain ⟨ri, hre⟩ : ∃ ri, ri = R i := ⟨_, rfl⟩
          have HRE := hid hre
          clear hre
          generalize Fa i &&& Fb i = p1 at *
          generalize Fa i ||| Fb i = p2 at *
          generalize Fa i ^^^ Fb i = p3 at *
          generalize Fa i &&& (255 - Fb i) = p4 at *
          generalize Fa i &&& Fa i = p5 at *
          generalize Fb i &&& (255 - Fa i) = p6 at *
          generalize hqa : 255 - Fa i = qa at *
          generalize hqb : 255 - Fb i = qb at *
          generalize hs7 : p5 + p6 = p7 at *
          have hwr := HBW.out.size
          go_upto_region 21 with (first
            | (go_at_call 126; (with_reducible refine (HSa _).out.mono ?_); rintro e wn ⟨vr, rfl, ho3, hb3⟩; obtain ⟨g3, c3, rfl⟩ := owned_at ho3 (by decide); have ka : wn.cell? ⟨g3, i, none⟩ = some (.int .u64 (Fa i : Nat)) := (ho3.cellAt i (by omega)).trans (fc_get hlt); replace HBC := hid (HBC.out.trans (hb3.mono HBC.out.size)); have a0'' := (HBC.out.cell (p := ⟨ga, 0, none⟩) hgw).trans a0'; have a1'' := (HBC.out.cell (p := ⟨ga, 1, none⟩) hgw).trans a1'; have a2'' := (HBC.out.cell (p := ⟨ga, 2, none⟩) hgw).trans a2'; have a3'' := (HBC.out.cell (p := ⟨ga, 3, none⟩) hgw).trans a3'; have b0'' := (HBC.out.cell (p := ⟨ga, 4, none⟩) hgw).trans b0'; have b1'' := (HBC.out.cell (p := ⟨ga, 5, none⟩) hgw).trans b1'; have b2'' := (HBC.out.cell (p := ⟨ga, 6, none⟩) hgw).trans b2'; have b3'' := (HBC.out.cell (p := ⟨ga, 7, none⟩) hgw).trans b3'; clear ho3 hb3)
            | (go_at_call 126; (with_reducible refine (HSb _).out.mono ?_); rintro e wn ⟨vr, rfl, ho3, hb3⟩; obtain ⟨g3, c3, rfl⟩ := owned_at ho3 (by decide); have kb : wn.cell? ⟨g3, i, none⟩ = some (.int .u64 (Fb i : Nat)) := (ho3.cellAt i (by omega)).trans (fc_get hlt); replace HBC := hid (HBC.out.trans (hb3.mono HBC.out.size)); have a0'' := (HBC.out.cell (p := ⟨ga, 0, none⟩) hgw).trans a0'; have a1'' := (HBC.out.cell (p := ⟨ga, 1, none⟩) hgw).trans a1'; have a2'' := (HBC.out.cell (p := ⟨ga, 2, none⟩) hgw).trans a2'; have a3'' := (HBC.out.cell (p := ⟨ga, 3, none⟩) hgw).trans a3'; have b0'' := (HBC.out.cell (p := ⟨ga, 4, none⟩) hgw).trans b0'; have b1'' := (HBC.out.cell (p := ⟨ga, 5, none⟩) hgw).trans b1'; have b2'' := (HBC.out.cell (p := ⟨ga, 6, none⟩) hgw).trans b2'; have b3'' := (HBC.out.cell (p := ⟨ga, 7, none⟩) hgw).trans b3'; clear ho3 hb3)
            | (go_at_call 151; (with_reducible refine (HP1 _).out.mono ?_); rintro e wn ⟨rfl, hb3⟩; replace HBC := hid (HBC.out.trans (hb3.mono HBC.out.size)); clear hb3)
            | (go_at_call 151; (with_reducible refine (HP2 _).out.mono ?_); rintro e wn ⟨rfl, hb3⟩; replace HBC := hid (HBC.out.trans (hb3.mono HBC.out.size)); clear hb3)
            | (go_at_call 151; (with_reducible refine (HP3 _).out.mono ?_); rintro e wn ⟨rfl, hb3⟩; replace HBC := hid (HBC.out.trans (hb3.mono HBC.out.size)); clear hb3)
            | (go_at_call 151; (with_reducible refine (HP4 _).out.mono ?_); rintro e wn ⟨rfl, hb3⟩; replace HBC := hid (HBC.out.trans (hb3.mono HBC.out.size)); clear hb3)
            | (go_at_call 151; (with_reducible refine (HP5 _).out.mono ?_); rintro e wn ⟨rfl, hb3⟩; replace HBC := hid (HBC.out.trans (hb3.mono HBC.out.size)); clear hb3)
            | (go_at_call 151; (with_reducible refine (HP6 _).out.mono ?_); rintro e wn ⟨rfl, hb3⟩; replace HBC := hid (HBC.out.trans (hb3.mono HBC.out.size)); clear hb3)
            | (go_at_call 195; (with_reducible refine (HPL _).out.mono ?_); rintro e wn ⟨rfl, rfl⟩))
          have HB21 := hid (HBW.out.trans (HBC.out.mono hwr))
          have HO21 := hid (own_below HOW.out HBC.out (Nat.le_refl _))
          have hs21 := HB21.out.size
          have hsn : fc i R ++ [Value.int .u64 (p3 : Int)] = fc (i + 1) R := by have h := HSN.out; rw [HRI.out] at h; exact h
          have HSN2 := hid hsn
          clear hsn HSN HRI HRE HBC HOW HBW hwr
          go_wp2_with (first
            | (go_at_call 195; (with_reducible refine (HPL _).out.mono ?_); rintro e wm ⟨rfl, rfl⟩)
            | (at_builtin; refine append_u64 rfl _ _ rfl W0.heap.size _ _ _ (p3 : Int) ((HO21.out.alloc _).alloc _) (by first | omega | (simp <;> omega)) (by omega) rfl (by simp only [size_al]; rfl) ?_; intro v' w8 hown' hnx8 hsz8))
          rw [HSN2.out] at hown'
          have HO8 := hid hown'
          have HB8 := hid (((HB21.out.alloc hs21 _).alloc (by first | omega | (simp <;> omega)) _).trans hnx8)
          clear hown' hnx8 hsz8
          go_roundw
          case rel => exact ⟨i + 1, hlt, rfl, by rw [HNN.out]; rfl, HO8, HB8⟩
          case measure => (simp [intOf]; omega)
    · obtain rfl : i = 16 := by omega
      have HCr := HC0.out.call HBW.out
      have r0 := HCr.at (k := 0) (v := .int .i64 0) rfl
      have r1 := HCr.at (k := 1) (v := .int .u64 0) rfl
      have r2 := HCr.at (k := 2) (v := .int .u64 0) rfl
      have r3 := HCr.at (k := 3) (v := .bool false) rfl
      have f0 := HCr.free 0
      have f1 := HCr.free 1
      have f2 := HCr.free 2
      have f3 := HCr.free 3
      have HRW := hid (RowAt.of_own HOW.out (by decide))
      have HBE := hid (HB0.out.trans (HBW.out.mono HB0.out.size))
      have hN := HNB.out 16
      have hNw : IntKind.u64.wrap ((N 16 : Nat) : Int) = ((N 16 : Nat) : Int) := by rw [IntKind.wrap_u64]; omega
      have HCC := hid HCr
      clear HCr HPL HSa HSb HLa HLb HR HN0 HN1 HN2 a0 a1 a2 a3 b0 b1 b2 b3 HOW HBW HC0 HB0
      rcases HKK.out with rfl | rfl | rfl | rfl
      · have q : (sw.toList == [97, 110, 121, 95, 116, 114, 117, 101]) = false := HQ.out
        clear HKK HQ r0 r1 r2 r3 f0 f1 f2 f3 hN hNw
        generalize N 16 = n16 at *
        go_wp2_with (go_at_call 129; (with_reducible refine (HVC _ _ HRW.out).out.mono ?_); rintro e w9 ⟨rfl, hb9⟩; have hC9 := HCC.out.call hb9; have HB9 := hid (HBE.out.trans (hb9.mono HBE.out.size)); have r0 := hC9.at (k := 0) (v := .int .i64 0) rfl; have r1 := hC9.at (k := 1) (v := .int .u64 0) rfl; have r2 := hC9.at (k := 2) (v := .int .u64 0) rfl; have r3 := hC9.at (k := 3) (v := .bool false) rfl; have f0 := hC9.free 0; have f1 := hC9.free 1; have f2 := hC9.free 2; have f3 := hC9.free 3; clear hb9 hC9)
        refine bodyPost_ret (v := .agg #[.int .i64 123, .int .u64 (lo : Nat), .int .u64 (hi : Nat), .bool false]) ?_ rfl ⟨rfl, (((HB9.out.setCell (p := ⟨w.heap.size, 0, none⟩) (Nat.le_refl _) _).setCell (p := ⟨w.heap.size, 1, none⟩) (Nat.le_refl _) _).setCell (p := ⟨w.heap.size, 2, none⟩) (Nat.le_refl _) _).setCell (p := ⟨w.heap.size, 3, none⟩) (Nat.le_refl _) _⟩
        simp [results, Tryz.results124, go_sem, r0, r1, r2, r3]
      · have q : (sw.toList == [97, 110, 121, 95, 116, 114, 117, 101]) = false := HQ.out
        clear HKK HQ r0 r1 r2 r3 f0 f1 f2 f3 hN hNw
        generalize N 16 = n16 at *
        go_wp2_with (go_at_call 129; (with_reducible refine (HVC _ _ HRW.out).out.mono ?_); rintro e w9 ⟨rfl, hb9⟩; have hC9 := HCC.out.call hb9; have HB9 := hid (HBE.out.trans (hb9.mono HBE.out.size)); have r0 := hC9.at (k := 0) (v := .int .i64 0) rfl; have r1 := hC9.at (k := 1) (v := .int .u64 0) rfl; have r2 := hC9.at (k := 2) (v := .int .u64 0) rfl; have r3 := hC9.at (k := 3) (v := .bool false) rfl; have f0 := hC9.free 0; have f1 := hC9.free 1; have f2 := hC9.free 2; have f3 := hC9.free 3; clear hb9 hC9)
        refine bodyPost_ret (v := .agg #[.int .i64 123, .int .u64 (lo : Nat), .int .u64 (hi : Nat), .bool false]) ?_ rfl ⟨rfl, (((HB9.out.setCell (p := ⟨w.heap.size, 0, none⟩) (Nat.le_refl _) _).setCell (p := ⟨w.heap.size, 1, none⟩) (Nat.le_refl _) _).setCell (p := ⟨w.heap.size, 2, none⟩) (Nat.le_refl _) _).setCell (p := ⟨w.heap.size, 3, none⟩) (Nat.le_refl _) _⟩
        simp [results, Tryz.results124, go_sem, r0, r1, r2, r3]
      · have q : (sw.toList == [97, 110, 121, 95, 116, 114, 117, 101]) = false := HQ.out
        clear HKK HQ r0 r1 r2 r3 f0 f1 f2 f3 hN hNw
        generalize N 16 = n16 at *
        go_wp2_with (go_at_call 129; (with_reducible refine (HVC _ _ HRW.out).out.mono ?_); rintro e w9 ⟨rfl, hb9⟩; have hC9 := HCC.out.call hb9; have HB9 := hid (HBE.out.trans (hb9.mono HBE.out.size)); have r0 := hC9.at (k := 0) (v := .int .i64 0) rfl; have r1 := hC9.at (k := 1) (v := .int .u64 0) rfl; have r2 := hC9.at (k := 2) (v := .int .u64 0) rfl; have r3 := hC9.at (k := 3) (v := .bool false) rfl; have f0 := hC9.free 0; have f1 := hC9.free 1; have f2 := hC9.free 2; have f3 := hC9.free 3; clear hb9 hC9)
        refine bodyPost_ret (v := .agg #[.int .i64 123, .int .u64 (lo : Nat), .int .u64 (hi : Nat), .bool false]) ?_ rfl ⟨rfl, (((HB9.out.setCell (p := ⟨w.heap.size, 0, none⟩) (Nat.le_refl _) _).setCell (p := ⟨w.heap.size, 1, none⟩) (Nat.le_refl _) _).setCell (p := ⟨w.heap.size, 2, none⟩) (Nat.le_refl _) _).setCell (p := ⟨w.heap.size, 3, none⟩) (Nat.le_refl _) _⟩
        simp [results, Tryz.results124, go_sem, r0, r1, r2, r3]
      · have q : (sw.toList == [97, 110, 121, 95, 116, 114, 117, 101]) = false := HQ.out
        clear HKK HQ r0 r1 r2 r3 f0 f1 f2 f3 hN hNw
        generalize N 16 = n16 at *
        go_wp2_with (go_at_call 129; (with_reducible refine (HVC _ _ HRW.out).out.mono ?_); rintro e w9 ⟨rfl, hb9⟩; have hC9 := HCC.out.call hb9; have HB9 := hid (HBE.out.trans (hb9.mono HBE.out.size)); have r0 := hC9.at (k := 0) (v := .int .i64 0) rfl; have r1 := hC9.at (k := 1) (v := .int .u64 0) rfl; have r2 := hC9.at (k := 2) (v := .int .u64 0) rfl; have r3 := hC9.at (k := 3) (v := .bool false) rfl; have f0 := hC9.free 0; have f1 := hC9.free 1; have f2 := hC9.free 2; have f3 := hC9.free 3; clear hb9 hC9)
        refine bodyPost_ret (v := .agg #[.int .i64 123, .int .u64 (lo : Nat), .int .u64 (hi : Nat), .bool false]) ?_ rfl ⟨rfl, (((HB9.out.setCell (p := ⟨w.heap.size, 0, none⟩) (Nat.le_refl _) _).setCell (p := ⟨w.heap.size, 1, none⟩) (Nat.le_refl _) _).setCell (p := ⟨w.heap.size, 2, none⟩) (Nat.le_refl _) _).setCell (p := ⟨w.heap.size, 3, none⟩) (Nat.le_refl _) _⟩
        simp [results, Tryz.results124, go_sem, r0, r1, r2, r3]
set_option maxHeartbeats 8000000 in
theorem whole_3 (k : Nat) (hk : k = 5) (what : List UInt8) (hpl : plL WHO what 0 = k) (hany : (what == [97, 110, 121, 95, 116, 114, 117, 101]) = decide (k = 6)) (alo ahi : Nat) (anl : Bool) (ha1 : alo < 18446744073709551616) (ha2 : ahi < 18446744073709551616) (blo bhi : Nat) (bnl : Bool) (hb1 : blo < 18446744073709551616) (hb2 : bhi < 18446744073709551616) (clo chi : Nat) (cnl : Bool) (hc1 : clo < 18446744073709551616) (hc2 : chi < 18446744073709551616) (w : World) (va : Value) (ha : AR w va [(123, alo, ahi, anl), (123, blo, bhi, bnl), (123, clo, chi, cnl)]) :
    Calls Tryz.prog 124 #[.string (str what), va] w fun e w' => e = .returned (if k = 6 then vv 0 (if anyN 16 (splitF 8 alo ahi) then 1 else 0) 0 false else vv 123 (loF 8 (fun i => whoB k (splitF 8 alo ahi i) (splitF 8 blo bhi i) (splitF 8 clo chi i))) (hiF 8 (fun i => whoB k (splitF 8 alo ahi i) (splitF 8 blo bhi i) (splitF 8 clo chi i))) false) ∧ Below w.heap.size w w' := by
  obtain ⟨sw, hsw⟩ : ∃ sw, sw = str what := ⟨_, rfl⟩
  have HPL := fun W => hid (place_at what WHO (by decide) #[.string ⟨#[110, 111, 116]⟩, .string ⟨#[97, 110, 100]⟩, .string ⟨#[97, 110, 100, 110, 111, 116]⟩, .string ⟨#[111, 114]⟩, .string ⟨#[120, 111, 114]⟩, .string ⟨#[98, 105, 116, 115, 101, 108, 101, 99, 116]⟩, .string ⟨#[97, 110, 121, 95, 116, 114, 117, 101]⟩] rfl 7 rfl k hpl W)
  rw [← hsw] at HPL ⊢
  have HQ := hid (show (sw.toList == [97, 110, 121, 95, 116, 114, 117, 101]) = decide (k = 6) by rw [hsw, str_list]; exact hany)
  clear hsw hpl hany
  have HSa : ∀ W, Hid (Calls Tryz.prog 126 #[.int .i64 8, .agg #[.int .i64 123, .int .u64 (alo : Nat), .int .u64 (ahi : Nat), .bool anl]] W (LPost W 16 (splitF 8 alo ahi))) := fun W => hid (RSplit_says 8 (by decide) 123 alo ahi anl ha1 ha2 W)
  have HLa : Hid (∀ i, splitF 8 alo ahi i < 256) := hid (fun i => splitF_lt 8 _ _ i)
  have HSb : ∀ W, Hid (Calls Tryz.prog 126 #[.int .i64 8, .agg #[.int .i64 123, .int .u64 (blo : Nat), .int .u64 (bhi : Nat), .bool bnl]] W (LPost W 16 (splitF 8 blo bhi))) := fun W => hid (RSplit_says 8 (by decide) 123 blo bhi bnl hb1 hb2 W)
  have HLb : Hid (∀ i, splitF 8 blo bhi i < 256) := hid (fun i => splitF_lt 8 _ _ i)
  have HSc : ∀ W, Hid (Calls Tryz.prog 126 #[.int .i64 8, .agg #[.int .i64 123, .int .u64 (clo : Nat), .int .u64 (chi : Nat), .bool cnl]] W (LPost W 16 (splitF 8 clo chi))) := fun W => hid (RSplit_says 8 (by decide) 123 clo chi cnl hc1 hc2 W)
  have HLc : Hid (∀ i, splitF 8 clo chi i < 256) := hid (fun i => splitF_lt 8 _ _ i)
  generalize splitF 8 alo ahi = Fa at *
  generalize splitF 8 blo bhi = Fb at *
  generalize splitF 8 clo chi = Fc at *
  obtain ⟨R, hR⟩ : ∃ R : Nat → Nat, R = fun i => whoB k (Fa i) (Fb i) (Fc i) := ⟨_, rfl⟩
  rw [← hR]
  have HR := hid (fun i : Nat => congrFun hR i)
  have HRL : Hid (∀ i, i < cnt 8 → R i < 18446744073709551616) := hid (fun i _ => by
    have h1 := HLa.out i
    have h2 := HLb.out i
    have h3 := HLc.out i
    have e := congrFun hR i
    rw [e]
    show whoB k (Fa i) (Fb i) (Fc i) < _
    have a1 : ∀ y, Fa i &&& y ≤ Fa i := fun y => Nat.and_le_left
    have a2 : ∀ y, Fb i &&& y ≤ Fb i := fun y => Nat.and_le_left
    have a3 : Fa i ||| Fb i < 2 ^ 8 := Nat.or_lt_two_pow h1 h2
    have a4 : Fa i ^^^ Fb i < 2 ^ 8 := Nat.xor_lt_two_pow h1 h2
    have b1 := a1 (Fb i)
    have b2 := a1 (255 - Fb i)
    have b3 := a1 (Fc i)
    have b4 := a2 (255 - Fc i)
    unfold whoB
    repeat' split
    all_goals omega)
  have HVC : ∀ v W, RowAt W v 16 R → Hid (Calls Tryz.prog 129 #[.int .i64 8, v] W fun e w' => e = .returned (vv 123 (loF 8 R) (hiF 8 R) false) ∧ Below W.heap.size W w') := fun v W h => hid (RVector_says 8 (by decide) v 16 (by decide) (by decide) R W h HRL.out)
  have HRA : Hid (∀ W, AR W va [(123, alo, ahi, anl), (123, blo, bhi, bnl), (123, clo, chi, cnl)] → AR W va [(123, alo, ahi, anl), (123, blo, bhi, bnl), (123, clo, chi, cnl)]) := fun W h => h
  clear hR HRL ha1 ha2 hb1 hb2 hc1 hc2
  obtain ⟨lo, hlo⟩ : ∃ lo, lo = loF 8 R := ⟨_, rfl⟩
  obtain ⟨hi, hhi⟩ : ∃ hi, hi = hiF 8 R := ⟨_, rfl⟩
  rw [← hlo, ← hhi]
  rw [← hlo, ← hhi] at HVC
  clear hlo hhi
  unfold vv at HVC ⊢
  obtain ⟨i0, hi0, hz0, hz1, hz2⟩ := info_parts info22
  have HKK := hid hk
  clear hk
  obtain ⟨N, hN⟩ : ∃ N : Nat → Nat, N = fun i => if anyN i Fa then 1 else 0 := ⟨_, rfl⟩
  have HNB : Hid (∀ i, N i ≤ 1) := hid (fun i => by rw [hN]; show (if anyN i Fa then 1 else 0) ≤ 1; split <;> omega)
  have HN0 : Hid (N 0 = 0) := hid (by rw [hN]; rfl)
  have HN1 : Hid (∀ i, 0 < Fa i → N (i + 1) = 1) := hid (fun i h => by
    rw [hN]
    show (if anyN (i + 1) Fa then 1 else 0) = 1
    rw [if_pos]
    exact decide_eq_true ⟨i, by omega, by omega⟩)
  have HN2 : Hid (∀ i, Fa i = 0 → N (i + 1) = N i) := hid (fun i h => by
    rw [hN]
    show (if anyN (i + 1) Fa then 1 else 0) = (if anyN i Fa then 1 else 0)
    have : anyN (i + 1) Fa = anyN i Fa := decide_eq_decide.2 ⟨fun ⟨j, h1, h2⟩ => ⟨j, by rcases Nat.lt_succ_iff_lt_or_eq.1 h1 with h' | rfl; exact h'; exact absurd h h2, h2⟩, fun ⟨j, h1, h2⟩ => ⟨j, by omega, h2⟩⟩
    rw [this])
  rw [show (if anyN 16 Fa then 1 else 0) = N 16 by rw [hN]]
  clear hN
  go_enter Tryz.func124, Tryz.ntmps124
  go_upto_region 2 with fail
  have HC0 := hid (CA.new w #[.int .i64 0, .int .u64 0, .int .u64 0, .bool false] 24)
  have HB0 := hid ((Below.refl _ w).alloc (Nat.le_refl _) (.cells #[.int .i64 0, .int .u64 0, .int .u64 0, .bool false] 24))
  have HA0 := hid (ha.call HB0.out)
  clear ha HRA
  generalize w.alloc (.cells #[.int .i64 0, .int .u64 0, .int .u64 0, .bool false] 24) = W0 at *
  obtain ⟨ga, ca, rfl, hga, hca, hata⟩ := HA0.out
  obtain ⟨a0, a1, a2, a3⟩ := hata 0 (123, alo, ahi, anl) rfl
  obtain ⟨b0, b1, b2, b3⟩ := hata 1 (123, blo, bhi, bnl) rfl
  obtain ⟨c0, c1, c2, c3⟩ := hata 2 (123, clo, chi, cnl) rfl
  simp only [Nat.zero_mul, Nat.zero_add, Nat.one_mul, Nat.reduceMul, Nat.reduceAdd] at a0 a1 a2 a3 b0 b1 b2 b3 c0 c1 c2 c3
  simp only [List.length_cons, List.length_nil, Nat.zero_add, Nat.reduceAdd] at hca ⊢
  clear hata HA0
  go_wp2_with fail
  go_loopw [5, 6, 7] (fun vo vn vi wr => ∃ i : Nat, i ≤ 16 ∧ vi = .int .i64 i ∧ vn = .int .i64 (N i : Nat) ∧ Hid (wr.ownsRow W0.heap.size 22 1 vo i (fc i R)) ∧ Hid (Below W0.heap.size W0 wr)) (fun _ _ vi _ => 16 - (intOf vi).toNat)
  case atStart => exact ⟨0, Nat.zero_le _, rfl, by rw [HN0.out]; rfl, World.ownsRow_nil _ _ _ _, Below.refl _ _⟩
  case round =>
    obtain ⟨i, hin, rfl, rfl, HOW, HBW⟩ := hrel
    by_cases hlt : i < 16
    · have HBC : Hid (Below wr.heap.size wr wr) := Below.refl _ _
      have a0' := (HBW.out.cell (p := ⟨ga, 0, none⟩) hga).trans a0
      have a1' := (HBW.out.cell (p := ⟨ga, 1, none⟩) hga).trans a1
      have a2' := (HBW.out.cell (p := ⟨ga, 2, none⟩) hga).trans a2
      have a3' := (HBW.out.cell (p := ⟨ga, 3, none⟩) hga).trans a3
      have b0' := (HBW.out.cell (p := ⟨ga, 4, none⟩) hga).trans b0
      have b1' := (HBW.out.cell (p := ⟨ga, 5, none⟩) hga).trans b1
      have b2' := (HBW.out.cell (p := ⟨ga, 6, none⟩) hga).trans b2
      have b3' := (HBW.out.cell (p := ⟨ga, 7, none⟩) hga).trans b3
      have c0' := (HBW.out.cell (p := ⟨ga, 8, none⟩) hga).trans c0
      have c1' := (HBW.out.cell (p := ⟨ga, 9, none⟩) hga).trans c1
      have c2' := (HBW.out.cell (p := ⟨ga, 10, none⟩) hga).trans c2
      have c3' := (HBW.out.cell (p := ⟨ga, 11, none⟩) hga).trans c3
      clear a0 a1 a2 a3 b0 b1 b2 b3 c0 c1 c2 c3
      have hgw : ga < wr.heap.size := Nat.lt_of_lt_of_le hga HBW.out.size
      have HSN := hid (fc_snoc i R)
      have la := HLa.out i
      have lb := HLb.out i
      have lc := HLc.out i
      have hri := HR.out i
      have hn1 := HN1.out i
      have hn2 := HN2.out i
      have HP1 : ∀ W, Hid (Calls Tryz.prog 151 #[.int .i64 8, .int .i64 8, .int .u64 ((Fa i : Nat) : Int), .int .u64 ((Fb i : Nat) : Int)] W fun e w' => e = .returned (.tuple #[.int .u64 ((Fa i &&& Fb i : Nat) : Int), .int .i64 0]) ∧ Below W.heap.size W w') := fun W => hid (bin8 8 (.inl rfl) (Fa i) (Fb i) la lb W)
      have HP2 : ∀ W, Hid (Calls Tryz.prog 151 #[.int .i64 8, .int .i64 9, .int .u64 ((Fa i : Nat) : Int), .int .u64 ((Fb i : Nat) : Int)] W fun e w' => e = .returned (.tuple #[.int .u64 ((Fa i ||| Fb i : Nat) : Int), .int .i64 0]) ∧ Below W.heap.size W w') := fun W => hid (bin8 9 (.inr (.inl rfl)) (Fa i) (Fb i) la lb W)
      have HP3 : ∀ W, Hid (Calls Tryz.prog 151 #[.int .i64 8, .int .i64 10, .int .u64 ((Fa i : Nat) : Int), .int .u64 ((Fb i : Nat) : Int)] W fun e w' => e = .returned (.tuple #[.int .u64 ((Fa i ^^^ Fb i : Nat) : Int), .int .i64 0]) ∧ Below W.heap.size W w') := fun W => hid (bin8 10 (.inr (.inr rfl)) (Fa i) (Fb i) la lb W)
      have HP4 : ∀ W, Hid (Calls Tryz.prog 151 #[.int .i64 8, .int .i64 8, .int .u64 ((Fa i : Nat) : Int), .int .u64 ((255 - Fb i : Nat) : Int)] W fun e w' => e = .returned (.tuple #[.int .u64 ((Fa i &&& (255 - Fb i) : Nat) : Int), .int .i64 0]) ∧ Below W.heap.size W w') := fun W => hid (bin8 8 (.inl rfl) (Fa i) (255 - Fb i) la (by omega) W)
      have HP5 : ∀ W, Hid (Calls Tryz.prog 151 #[.int .i64 8, .int .i64 8, .int .u64 ((Fa i : Nat) : Int), .int .u64 ((Fc i : Nat) : Int)] W fun e w' => e = .returned (.tuple #[.int .u64 ((Fa i &&& Fc i : Nat) : Int), .int .i64 0]) ∧ Below W.heap.size W w') := fun W => hid (bin8 8 (.inl rfl) (Fa i) (Fc i) la lc W)
      have HP6 : ∀ W, Hid (Calls Tryz.prog 151 #[.int .i64 8, .int .i64 8, .int .u64 ((Fb i : Nat) : Int), .int .u64 ((255 - Fc i : Nat) : Int)] W fun e w' => e = .returned (.tuple #[.int .u64 ((Fb i &&& (255 - Fc i) : Nat) : Int), .int .i64 0]) ∧ Below W.heap.size W w') := fun W => hid (bin8 8 (.inl rfl) (Fb i) (255 - Fc i) lb (by omega) W)
      have w1 : IntKind.u64.wrap (255 - (Fa i : Int)) = ((255 - Fa i : Nat) : Int) := by rw [IntKind.wrap_u64]; omega
      have w2 : IntKind.u64.wrap (255 - (Fb i : Int)) = ((255 - Fb i : Nat) : Int) := by rw [IntKind.wrap_u64]; omega
      have w3 : IntKind.u64.wrap (255 - (Fc i : Int)) = ((255 - Fc i : Nat) : Int) := by rw [IntKind.wrap_u64]; omega
      have b5 : Fa i &&& Fc i ≤ Fa i := Nat.and_le_left
      have b6 : Fb i &&& (255 - Fc i) ≤ Fb i := Nat.and_le_left
      have w7 : IntKind.u64.wrap (((Fa i &&& Fc i : Nat) : Int) + ((Fb i &&& (255 - Fc i) : Nat) : Int)) = (((Fa i &&& Fc i) + (Fb i &&& (255 - Fc i)) : Nat) : Int) := by rw [IntKind.wrap_u64]; omega
      clear HLa HLb HLc HR HN1 HN2 HVC HN0
      have hz : (0 < (Fa i : Int)) = (0 < Fa i) := by simp
      rcases HKK.out with rfl
      · clear HKK HQ
        unfold whoB at hri
        simp only [if_true, Nat.reduceEqDiff, if_false] at hri
        rcases Nat.eq_zero_or_pos (Fa i) with hx0 | hx0
        · have hnn := hn2 hx0
          have hgt : ¬ (0 < (Fa i : Int)) := by omega
          have HNN := hid hnn
          have HRI := hid hri
          clear hn1 hn2 hnn hri hx0 hz
          obtain ⟨ri, hre⟩ : ∃ ri, ri = R i := ⟨_, rfl⟩
          have HRE := hid hre
          clear hre
          generalize Fa i &&& Fb i = p1 at *
          generalize Fa i ||| Fb i = p2 at *
          generalize Fa i ^^^ Fb i = p3 at *
          generalize Fa i &&& (255 - Fb i) = p4 at *
          generalize Fa i &&& Fc i = p5 at *
          generalize Fb i &&& (255 - Fc i) = p6 at *
          generalize hqa : 255 - Fa i = qa at *
          generalize hqb : 255 - Fb i = qb at *
          generalize hqc : 255 - Fc i = qc at *
          generalize hs7 : p5 + p6 = p7 at *
          have hwr := HBW.out.size
          go_upto_region 21 with (first
            | (go_at_call 126; (with_reducible refine (HSa _).out.mono ?_); rintro e wn ⟨vr, rfl, ho3, hb3⟩; obtain ⟨g3, c3, rfl⟩ := owned_at ho3 (by decide); have ka : wn.cell? ⟨g3, i, none⟩ = some (.int .u64 (Fa i : Nat)) := (ho3.cellAt i (by omega)).trans (fc_get hlt); replace HBC := hid (HBC.out.trans (hb3.mono HBC.out.size)); have a0'' := (HBC.out.cell (p := ⟨ga, 0, none⟩) hgw).trans a0'; have a1'' := (HBC.out.cell (p := ⟨ga, 1, none⟩) hgw).trans a1'; have a2'' := (HBC.out.cell (p := ⟨ga, 2, none⟩) hgw).trans a2'; have a3'' := (HBC.out.cell (p := ⟨ga, 3, none⟩) hgw).trans a3'; have b0'' := (HBC.out.cell (p := ⟨ga, 4, none⟩) hgw).trans b0'; have b1'' := (HBC.out.cell (p := ⟨ga, 5, none⟩) hgw).trans b1'; have b2'' := (HBC.out.cell (p := ⟨ga, 6, none⟩) hgw).trans b2'; have b3'' := (HBC.out.cell (p := ⟨ga, 7, none⟩) hgw).trans b3'; have c0'' := (HBC.out.cell (p := ⟨ga, 8, none⟩) hgw).trans c0'; have c1'' := (HBC.out.cell (p := ⟨ga, 9, none⟩) hgw).trans c1'; have c2'' := (HBC.out.cell (p := ⟨ga, 10, none⟩) hgw).trans c2'; have c3'' := (HBC.out.cell (p := ⟨ga, 11, none⟩) hgw).trans c3'; clear ho3 hb3)
            | (go_at_call 126; (with_reducible refine (HSb _).out.mono ?_); rintro e wn ⟨vr, rfl, ho3, hb3⟩; obtain ⟨g3, c3, rfl⟩ := owned_at ho3 (by decide); have kb : wn.cell? ⟨g3, i, none⟩ = some (.int .u64 (Fb i : Nat)) := (ho3.cellAt i (by omega)).trans (fc_get hlt); replace HBC := hid (HBC.out.trans (hb3.mono HBC.out.size)); have a0'' := (HBC.out.cell (p := ⟨ga, 0, none⟩) hgw).trans a0'; have a1'' := (HBC.out.cell (p := ⟨ga, 1, none⟩) hgw).trans a1'; have a2'' := (HBC.out.cell (p := ⟨ga, 2, none⟩) hgw).trans a2'; have a3'' := (HBC.out.cell (p := ⟨ga, 3, none⟩) hgw).trans a3'; have b0'' := (HBC.out.cell (p := ⟨ga, 4, none⟩) hgw).trans b0'; have b1'' := (HBC.out.cell (p := ⟨ga, 5, none⟩) hgw).trans b1'; have b2'' := (HBC.out.cell (p := ⟨ga, 6, none⟩) hgw).trans b2'; have b3'' := (HBC.out.cell (p := ⟨ga, 7, none⟩) hgw).trans b3'; have c0'' := (HBC.out.cell (p := ⟨ga, 8, none⟩) hgw).trans c0'; have c1'' := (HBC.out.cell (p := ⟨ga, 9, none⟩) hgw).trans c1'; have c2'' := (HBC.out.cell (p := ⟨ga, 10, none⟩) hgw).trans c2'; have c3'' := (HBC.out.cell (p := ⟨ga, 11, none⟩) hgw).trans c3'; clear ho3 hb3)
            | (go_at_call 126; (with_reducible refine (HSc _).out.mono ?_); rintro e wn ⟨vr, rfl, ho3, hb3⟩; obtain ⟨g3, c3, rfl⟩ := owned_at ho3 (by decide); have kc : wn.cell? ⟨g3, i, none⟩ = some (.int .u64 (Fc i : Nat)) := (ho3.cellAt i (by omega)).trans (fc_get hlt); replace HBC := hid (HBC.out.trans (hb3.mono HBC.out.size)); have a0'' := (HBC.out.cell (p := ⟨ga, 0, none⟩) hgw).trans a0'; have a1'' := (HBC.out.cell (p := ⟨ga, 1, none⟩) hgw).trans a1'; have a2'' := (HBC.out.cell (p := ⟨ga, 2, none⟩) hgw).trans a2'; have a3'' := (HBC.out.cell (p := ⟨ga, 3, none⟩) hgw).trans a3'; have b0'' := (HBC.out.cell (p := ⟨ga, 4, none⟩) hgw).trans b0'; have b1'' := (HBC.out.cell (p := ⟨ga, 5, none⟩) hgw).trans b1'; have b2'' := (HBC.out.cell (p := ⟨ga, 6, none⟩) hgw).trans b2'; have b3'' := (HBC.out.cell (p := ⟨ga, 7, none⟩) hgw).trans b3'; have c0'' := (HBC.out.cell (p := ⟨ga, 8, none⟩) hgw).trans c0'; have c1'' := (HBC.out.cell (p := ⟨ga, 9, none⟩) hgw).trans c1'; have c2'' := (HBC.out.cell (p := ⟨ga, 10, none⟩) hgw).trans c2'; have c3'' := (HBC.out.cell (p := ⟨ga, 11, none⟩) hgw).trans c3'; clear ho3 hb3)
            | (go_at_call 151; (with_reducible refine (HP1 _).out.mono ?_); rintro e wn ⟨rfl, hb3⟩; replace HBC := hid (HBC.out.trans (hb3.mono HBC.out.size)); clear hb3)
            | (go_at_call 151; (with_reducible refine (HP2 _).out.mono ?_); rintro e wn ⟨rfl, hb3⟩; replace HBC := hid (HBC.out.trans (hb3.mono HBC.out.size)); clear hb3)
            | (go_at_call 151; (with_reducible refine (HP3 _).out.mono ?_); rintro e wn ⟨rfl, hb3⟩; replace HBC := hid (HBC.out.trans (hb3.mono HBC.out.size)); clear hb3)
            | (go_at_call 151; (with_reducible refine (HP4 _).out.mono ?_); rintro e wn ⟨rfl, hb3⟩; replace HBC := hid (HBC.out.trans (hb3.mono HBC.out.size)); clear hb3)
            | (go_at_call 151; (with_reducible refine (HP5 _).out.mono ?_); rintro e wn ⟨rfl, hb3⟩; replace HBC := hid (HBC.out.trans (hb3.mono HBC.out.size)); clear hb3)
            | (go_at_call 151; (with_reducible refine (HP6 _).out.mono ?_); rintro e wn ⟨rfl, hb3⟩; replace HBC := hid (HBC.out.trans (hb3.mono HBC.out.size)); clear hb3)
            | (go_at_call 195; (with_reducible refine (HPL _).out.mono ?_); rintro e wn ⟨rfl, rfl⟩))
          have HB21 := hid (HBW.out.trans (HBC.out.mono hwr))
          have HO21 := hid (own_below HOW.out HBC.out (Nat.le_refl _))
          have hs21 := HB21.out.size
          have hsn : fc i R ++ [Value.int .u64 (p7 : Int)] = fc (i + 1) R := by have h := HSN.out; rw [HRI.out] at h; exact h
          have HSN2 := hid hsn
          clear hsn HSN HRI HRE HBC HOW HBW hwr
          go_wp2_with (first
            | (go_at_call 195; (with_reducible refine (HPL _).out.mono ?_); rintro e wm ⟨rfl, rfl⟩)
            | (at_builtin; refine append_u64 rfl _ _ rfl W0.heap.size _ _ _ (p7 : Int) ((HO21.out.alloc _).alloc _) (by first | omega | (simp <;> omega)) (by omega) rfl (by simp only [size_al]; rfl) ?_; intro v' w8 hown' hnx8 hsz8))
          rw [HSN2.out] at hown'
          have HO8 := hid hown'
          have HB8 := hid (((HB21.out.alloc hs21 _).alloc (by first | omega | (simp <;> omega)) _).trans hnx8)
          clear hown' hnx8 hsz8
          go_roundw
          case rel => exact ⟨i + 1, hlt, rfl, by rw [HNN.out], HO8, HB8⟩
          case measure => (simp [intOf]; omega)
        · have hnn := hn1 hx0
          have hgt : (0 < (Fa i : Int)) := by omega
          have HNN := hid hnn
          have HRI := hid hri
          clear hn1 hn2 hnn hri hx0 hz
          obtain ⟨ri, hre⟩ : ∃ ri, ri = R i := ⟨_, rfl⟩
          have HRE := hid hre
          clear hre
          generalize Fa i &&& Fb i = p1 at *
          generalize Fa i ||| Fb i = p2 at *
          generalize Fa i ^^^ Fb i = p3 at *
          generalize Fa i &&& (255 - Fb i) = p4 at *
          generalize Fa i &&& Fc i = p5 at *
          generalize Fb i &&& (255 - Fc i) = p6 at *
          generalize hqa : 255 - Fa i = qa at *
          generalize hqb : 255 - Fb i = qb at *
          generalize hqc : 255 - Fc i = qc at *
          generalize hs7 : p5 + p6 = p7 at *
          have hwr := HBW.out.size
          go_upto_region 21 with (first
            | (go_at_call 126; (with_reducible refine (HSa _).out.mono ?_); rintro e wn ⟨vr, rfl, ho3, hb3⟩; obtain ⟨g3, c3, rfl⟩ := owned_at ho3 (by decide); have ka : wn.cell? ⟨g3, i, none⟩ = some (.int .u64 (Fa i : Nat)) := (ho3.cellAt i (by omega)).trans (fc_get hlt); replace HBC := hid (HBC.out.trans (hb3.mono HBC.out.size)); have a0'' := (HBC.out.cell (p := ⟨ga, 0, none⟩) hgw).trans a0'; have a1'' := (HBC.out.cell (p := ⟨ga, 1, none⟩) hgw).trans a1'; have a2'' := (HBC.out.cell (p := ⟨ga, 2, none⟩) hgw).trans a2'; have a3'' := (HBC.out.cell (p := ⟨ga, 3, none⟩) hgw).trans a3'; have b0'' := (HBC.out.cell (p := ⟨ga, 4, none⟩) hgw).trans b0'; have b1'' := (HBC.out.cell (p := ⟨ga, 5, none⟩) hgw).trans b1'; have b2'' := (HBC.out.cell (p := ⟨ga, 6, none⟩) hgw).trans b2'; have b3'' := (HBC.out.cell (p := ⟨ga, 7, none⟩) hgw).trans b3'; have c0'' := (HBC.out.cell (p := ⟨ga, 8, none⟩) hgw).trans c0'; have c1'' := (HBC.out.cell (p := ⟨ga, 9, none⟩) hgw).trans c1'; have c2'' := (HBC.out.cell (p := ⟨ga, 10, none⟩) hgw).trans c2'; have c3'' := (HBC.out.cell (p := ⟨ga, 11, none⟩) hgw).trans c3'; clear ho3 hb3)
            | (go_at_call 126; (with_reducible refine (HSb _).out.mono ?_); rintro e wn ⟨vr, rfl, ho3, hb3⟩; obtain ⟨g3, c3, rfl⟩ := owned_at ho3 (by decide); have kb : wn.cell? ⟨g3, i, none⟩ = some (.int .u64 (Fb i : Nat)) := (ho3.cellAt i (by omega)).trans (fc_get hlt); replace HBC := hid (HBC.out.trans (hb3.mono HBC.out.size)); have a0'' := (HBC.out.cell (p := ⟨ga, 0, none⟩) hgw).trans a0'; have a1'' := (HBC.out.cell (p := ⟨ga, 1, none⟩) hgw).trans a1'; have a2'' := (HBC.out.cell (p := ⟨ga, 2, none⟩) hgw).trans a2'; have a3'' := (HBC.out.cell (p := ⟨ga, 3, none⟩) hgw).trans a3'; have b0'' := (HBC.out.cell (p := ⟨ga, 4, none⟩) hgw).trans b0'; have b1'' := (HBC.out.cell (p := ⟨ga, 5, none⟩) hgw).trans b1'; have b2'' := (HBC.out.cell (p := ⟨ga, 6, none⟩) hgw).trans b2'; have b3'' := (HBC.out.cell (p := ⟨ga, 7, none⟩) hgw).trans b3'; have c0'' := (HBC.out.cell (p := ⟨ga, 8, none⟩) hgw).trans c0'; have c1'' := (HBC.out.cell (p := ⟨ga, 9, none⟩) hgw).trans c1'; have c2'' := (HBC.out.cell (p := ⟨ga, 10, none⟩) hgw).trans c2'; have c3'' := (HBC.out.cell (p := ⟨ga, 11, none⟩) hgw).trans c3'; clear ho3 hb3)
            | (go_at_call 126; (with_reducible refine (HSc _).out.mono ?_); rintro e wn ⟨vr, rfl, ho3, hb3⟩; obtain ⟨g3, c3, rfl⟩ := owned_at ho3 (by decide); have kc : wn.cell? ⟨g3, i, none⟩ = some (.int .u64 (Fc i : Nat)) := (ho3.cellAt i (by omega)).trans (fc_get hlt); replace HBC := hid (HBC.out.trans (hb3.mono HBC.out.size)); have a0'' := (HBC.out.cell (p := ⟨ga, 0, none⟩) hgw).trans a0'; have a1'' := (HBC.out.cell (p := ⟨ga, 1, none⟩) hgw).trans a1'; have a2'' := (HBC.out.cell (p := ⟨ga, 2, none⟩) hgw).trans a2'; have a3'' := (HBC.out.cell (p := ⟨ga, 3, none⟩) hgw).trans a3'; have b0'' := (HBC.out.cell (p := ⟨ga, 4, none⟩) hgw).trans b0'; have b1'' := (HBC.out.cell (p := ⟨ga, 5, none⟩) hgw).trans b1'; have b2'' := (HBC.out.cell (p := ⟨ga, 6, none⟩) hgw).trans b2'; have b3'' := (HBC.out.cell (p := ⟨ga, 7, none⟩) hgw).trans b3'; have c0'' := (HBC.out.cell (p := ⟨ga, 8, none⟩) hgw).trans c0'; have c1'' := (HBC.out.cell (p := ⟨ga, 9, none⟩) hgw).trans c1'; have c2'' := (HBC.out.cell (p := ⟨ga, 10, none⟩) hgw).trans c2'; have c3'' := (HBC.out.cell (p := ⟨ga, 11, none⟩) hgw).trans c3'; clear ho3 hb3)
            | (go_at_call 151; (with_reducible refine (HP1 _).out.mono ?_); rintro e wn ⟨rfl, hb3⟩; replace HBC := hid (HBC.out.trans (hb3.mono HBC.out.size)); clear hb3)
            | (go_at_call 151; (with_reducible refine (HP2 _).out.mono ?_); rintro e wn ⟨rfl, hb3⟩; replace HBC := hid (HBC.out.trans (hb3.mono HBC.out.size)); clear hb3)
            | (go_at_call 151; (with_reducible refine (HP3 _).out.mono ?_); rintro e wn ⟨rfl, hb3⟩; replace HBC := hid (HBC.out.trans (hb3.mono HBC.out.size)); clear hb3)
            | (go_at_call 151; (with_reducible refine (HP4 _).out.mono ?_); rintro e wn ⟨rfl, hb3⟩; replace HBC := hid (HBC.out.trans (hb3.mono HBC.out.size)); clear hb3)
            | (go_at_call 151; (with_reducible refine (HP5 _).out.mono ?_); rintro e wn ⟨rfl, hb3⟩; replace HBC := hid (HBC.out.trans (hb3.mono HBC.out.size)); clear hb3)
            | (go_at_call 151; (with_reducible refine (HP6 _).out.mono ?_); rintro e wn ⟨rfl, hb3⟩; replace HBC := hid (HBC.out.trans (hb3.mono HBC.out.size)); clear hb3)
            | (go_at_call 195; (with_reducible refine (HPL _).out.mono ?_); rintro e wn ⟨rfl, rfl⟩))
          have HB21 := hid (HBW.out.trans (HBC.out.mono hwr))
          have HO21 := hid (own_below HOW.out HBC.out (Nat.le_refl _))
          have hs21 := HB21.out.size
          have hsn : fc i R ++ [Value.int .u64 (p7 : Int)] = fc (i + 1) R := by have h := HSN.out; rw [HRI.out] at h; exact h
          have HSN2 := hid hsn
          clear hsn HSN HRI HRE HBC HOW HBW hwr
          go_wp2_with (first
            | (go_at_call 195; (with_reducible refine (HPL _).out.mono ?_); rintro e wm ⟨rfl, rfl⟩)
            | (at_builtin; refine append_u64 rfl _ _ rfl W0.heap.size _ _ _ (p7 : Int) ((HO21.out.alloc _).alloc _) (by first | omega | (simp <;> omega)) (by omega) rfl (by simp only [size_al]; rfl) ?_; intro v' w8 hown' hnx8 hsz8))
          rw [HSN2.out] at hown'
          have HO8 := hid hown'
          have HB8 := hid (((HB21.out.alloc hs21 _).alloc (by first | omega | (simp <;> omega)) _).trans hnx8)
          clear hown' hnx8 hsz8
          go_roundw
          case rel => exact ⟨i + 1, hlt, rfl, by rw [HNN.out]; rfl, HO8, HB8⟩
          case measure => (simp [intOf]; omega)
    · obtain rfl : i = 16 := by omega
      have HCr := HC0.out.call HBW.out
      have r0 := HCr.at (k := 0) (v := .int .i64 0) rfl
      have r1 := HCr.at (k := 1) (v := .int .u64 0) rfl
      have r2 := HCr.at (k := 2) (v := .int .u64 0) rfl
      have r3 := HCr.at (k := 3) (v := .bool false) rfl
      have f0 := HCr.free 0
      have f1 := HCr.free 1
      have f2 := HCr.free 2
      have f3 := HCr.free 3
      have HRW := hid (RowAt.of_own HOW.out (by decide))
      have HBE := hid (HB0.out.trans (HBW.out.mono HB0.out.size))
      have hN := HNB.out 16
      have hNw : IntKind.u64.wrap ((N 16 : Nat) : Int) = ((N 16 : Nat) : Int) := by rw [IntKind.wrap_u64]; omega
      have HCC := hid HCr
      clear HCr HPL HSa HSb HSc HLa HLb HLc HR HN0 HN1 HN2 a0 a1 a2 a3 b0 b1 b2 b3 c0 c1 c2 c3 HOW HBW HC0 HB0
      rcases HKK.out with rfl
      · have q : (sw.toList == [97, 110, 121, 95, 116, 114, 117, 101]) = false := HQ.out
        clear HKK HQ r0 r1 r2 r3 f0 f1 f2 f3 hN hNw
        generalize N 16 = n16 at *
        go_wp2_with (go_at_call 129; (with_reducible refine (HVC _ _ HRW.out).out.mono ?_); rintro e w9 ⟨rfl, hb9⟩; have hC9 := HCC.out.call hb9; have HB9 := hid (HBE.out.trans (hb9.mono HBE.out.size)); have r0 := hC9.at (k := 0) (v := .int .i64 0) rfl; have r1 := hC9.at (k := 1) (v := .int .u64 0) rfl; have r2 := hC9.at (k := 2) (v := .int .u64 0) rfl; have r3 := hC9.at (k := 3) (v := .bool false) rfl; have f0 := hC9.free 0; have f1 := hC9.free 1; have f2 := hC9.free 2; have f3 := hC9.free 3; clear hb9 hC9)
        refine bodyPost_ret (v := .agg #[.int .i64 123, .int .u64 (lo : Nat), .int .u64 (hi : Nat), .bool false]) ?_ rfl ⟨rfl, (((HB9.out.setCell (p := ⟨w.heap.size, 0, none⟩) (Nat.le_refl _) _).setCell (p := ⟨w.heap.size, 1, none⟩) (Nat.le_refl _) _).setCell (p := ⟨w.heap.size, 2, none⟩) (Nat.le_refl _) _).setCell (p := ⟨w.heap.size, 3, none⟩) (Nat.le_refl _) _⟩
        simp [results, Tryz.results124, go_sem, r0, r1, r2, r3]
end Go.Proofs.YtlhakbkdlgejpaaGreatDoor
