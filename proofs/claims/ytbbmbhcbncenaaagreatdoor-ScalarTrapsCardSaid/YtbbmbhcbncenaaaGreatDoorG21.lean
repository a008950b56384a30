/-
  FQuo3, FQuo4, FProd64: merged, what the law does not reach left out (each text says what it holds where it lies in wip). No condition.
-/
import Derived.Test.YtbbmbhcbncenaaaGreatDoorG14
import Derived.Test.YtbbmbhcbncenaaaGreatDoorG15
import Derived.Test.YtbbmbhcbncenaaaGreatDoorG17
import Derived.Test.YtbbmbhcbncenaaaGreatDoorG01
set_option linter.unusedSimpArgs false
set_option linter.unusedVariables false
set_option maxRecDepth 100000
namespace Go.Proofs.YtbbmbhcbncenaaaGreatDoor.Fl
open Go.RowKit
set_option maxRecDepth 20000 in
set_option maxHeartbeats 6400000 in
theorem quo_64_eq (a b ka kb : Nat) (ha : a < 18446744073709551616) (hb : b < 18446744073709551616) (h1 : kindOf 9218868437227405312 (a % 9223372036854775808) = ka) (h2 : kindOf 9218868437227405312 (b % 9223372036854775808) = kb) (hk : kb = ka ∧ (ka = 1 ∨ ka = 3)) (w : World) :
  Calls Tryz.prog 164 #[.agg #[.int .i64 11,.int .i64 52],.int .u64 a,.int .u64 b] w fun r w' => r = .returned (.int .u64 ((((Ieee.double).div a b).getD 9221120237041090560 : Nat) : Int)) ∧ Below w.heap.size w w' := by
 have KA := fun w => hid (kind_64 a ha w)
 have KB := fun w => hid (kind_64 b hb w)
 rw [h1] at KA
 rw [h2] at KB
 have hx := xor_top (k := 63) (a := a) (b := b) (by omega) (by omega)
 rw [show (2 : Nat) ^ 63 = 9223372036854775808 by decide] at hx
 obtain ⟨xr,hxr⟩ : ∃ xr : Nat,xr = a ^^^ b := ⟨_,rfl⟩
 have hxb : bits .xor .u64 (a : Int) (b : Int) = (xr : Int) := by rw [hxr]; exact bits_xor_u64_nat a b (by omega) (by omega)
 rw [← hxr] at hx
 have SG := fun w => hid (sign_64 xr hx.2 w)
 obtain ⟨sg,hsg⟩ : ∃ sg : Nat,sg = if 9223372036854775808 ≤ xr then 9223372036854775808 else 0 := ⟨_,rfl⟩
 rw [← hsg] at SG
 have hsb : (decide (9223372036854775808 ≤ a) ^^ decide (9223372036854775808 ≤ b)) = decide (9223372036854775808 ≤ xr) := hx.1.symm
 have hR : ((Ieee.double).div a b).getD 9221120237041090560 = 9221120237041090560 := by
  rw [div_can fmt_double (by omega) (by omega) (by rw [h1,h2]; omega)]; rfl
 rw [hR]
 obtain ⟨RR,hRR⟩ : ∃ RR : Nat,RR = 9221120237041090560 := ⟨_,rfl⟩
 skip
 rw [← hRR]
 subst hRR; clear hsg
 obtain ⟨rfl,hk⟩ := hk
 have t2 : ((kb : Int) != 2) = true := bne_iff_ne.2 (by omega)
 clear hk
 have hS := Sx.new 11 52 w
 clear hR hsb hx hxr h1 h2 ha hb
 obtain ⟨c0,c1⟩ := id hS.1
 go_enter Tryz.func164,Tryz.ntmps164
 go_upto_region 2 with (first
  | (go_at_call 135; ((with_reducible refine (SG _).out.mono ?_); rintro e w1 ⟨rfl,hb⟩; replace hS := hS.call hb; clear c0 c1; obtain ⟨c0,c1⟩ := id hS.1)))
 go_cut [18] (fun s18 wx => s18 = .bool true ∧ Sx 11 52 w wx)
 case first =>
  replace hS := hS.drew
  refine wp_region_held_drew (S := Sx 11 52 w) (by kernel_rfl) hS (fun _ => ?_)
  clear c0 c1 hb
  generalize w1.drew = W at *
  refine zt 0 (.agg #[.int .i64 11,.int .i64 52]) rfl ?_ ?_
  ·(intro W hSw; obtain ⟨⟨c0,c1⟩,-⟩ := hSw; go_simp; try (with_reducible rfl))
  try simp only [Act.put,sl2,sl0,sl1]
  refine zt 1 (.int .u64 a) rfl ?_ ?_
  ·(intro W hSw; obtain ⟨⟨c0,c1⟩,-⟩ := hSw; go_simp; try (with_reducible rfl))
  try simp only [Act.put,sl2,sl0,sl1]
  refine zt 3 (.agg #[.int .i64 11,.int .i64 52]) rfl ?_ ?_
  ·(intro W hSw; obtain ⟨⟨c0,c1⟩,-⟩ := hSw; go_simp; try (with_reducible rfl))
  try simp only [Act.put,sl2,sl0,sl1]
  refine zt 4 (.int .u64 b) rfl ?_ ?_
  ·(intro W hSw; obtain ⟨⟨c0,c1⟩,-⟩ := hSw; go_simp; try (with_reducible rfl))
  try simp only [Act.put,sl2,sl0,sl1]
  refine zr 2 rfl (fun K hK => ?_)
  go_simp
  go_at_call 157
  (with_reducible refine (KA _).out.mono ?_)
  rintro e W1 ⟨rfl,hb⟩
  replace hS := hS.call hb
  clear hb
  refine hK.out _ _ hS (fun _ => ?_)
  clear hK K
  try simp only [Act.put,sl2,sl0,sl1]
  refine zr 5 rfl (fun K hK => ?_)
  go_simp
  go_at_call 157
  (with_reducible refine (KB _).out.mono ?_)
  rintro e W2 ⟨rfl,hb⟩
  replace hS := hS.call hb
  clear hb
  refine hK.out _ _ hS (fun _ => ?_)
  clear hK K
  try simp only [Act.put,sl2,sl0,sl1]
  refine zt 6 (.bool true) rfl ?_ ?_
  ·(intro W hSw; obtain ⟨⟨c0,c1⟩,-⟩ := hSw; go_simp; try (with_reducible rfl))
  try simp only [Act.put,sl2,sl0,sl1]
  refine zt 7 (.bool true) rfl ?_ ?_
  ·(intro W hSw; obtain ⟨⟨c0,c1⟩,-⟩ := hSw; go_simp; try (with_reducible rfl))
  try simp only [Act.put,sl2,sl0,sl1]
  refine zt 8 (.agg #[.int .i64 11,.int .i64 52]) rfl ?_ ?_
  ·(intro W hSw; obtain ⟨⟨c0,c1⟩,-⟩ := hSw; go_simp; try (with_reducible rfl))
  try simp only [Act.put,sl2,sl0,sl1]
  refine zt 9 (.int .u64 a) rfl ?_ ?_
  ·(intro W hSw; obtain ⟨⟨c0,c1⟩,-⟩ := hSw; go_simp; try (with_reducible rfl))
  try simp only [Act.put,sl2,sl0,sl1]
  refine zr 10 rfl (fun K hK => ?_)
  go_simp
  go_at_call 157
  (with_reducible refine (KA _).out.mono ?_)
  rintro e W3 ⟨rfl,hb⟩
  replace hS := hS.call hb
  clear hb
  refine hK.out _ _ hS (fun _ => ?_)
  clear hK K
  try simp only [Act.put,sl2,sl0,sl1]
  refine zt 11 (.bool true) rfl ?_ ?_
  ·(intro W hSw; obtain ⟨⟨c0,c1⟩,-⟩ := hSw; go_simp; try (with_reducible rfl))
  try simp only [Act.put,sl2,sl0,sl1]
  refine zt 12 (.bool true) rfl ?_ ?_
  ·(intro W hSw; obtain ⟨⟨c0,c1⟩,-⟩ := hSw; go_simp; try (with_reducible rfl))
  try simp only [Act.put,sl2,sl0,sl1]
  refine zt 13 (.bool true) rfl ?_ ?_
  ·(intro W hSw; obtain ⟨⟨c0,c1⟩,-⟩ := hSw; go_simp; try (with_reducible rfl))
  try simp only [Act.put,sl2,sl0,sl1]
  refine wpAnyH_done (by kernel_rfl) ?_ _
  (go_wp2_with fail)
  go_meet
  exact ⟨rfl,hS⟩
 case rest =>
  clear hS c0 c1 hb
  obtain ⟨rfl,hS⟩ := hcut
  obtain ⟨c0,c1⟩ := id hS.1
  skip
  go_wp2_with (first
   | (go_at_call 157; ((with_reducible refine (KA _).out.mono ?_); rintro e w1 ⟨rfl,hb⟩; replace hS := hS.call hb; have c0 := hS.1.1; have c1 := hS.1.2))
   | (go_at_call 157; ((with_reducible refine (KB _).out.mono ?_); rintro e w1 ⟨rfl,hb⟩; replace hS := hS.call hb; have c0 := hS.1.1; have c1 := hS.1.2))
   | (go_at_call 158; ((with_reducible refine (canonical_64 _).mono ?_); rintro e w1 ⟨rfl,hb⟩; replace hS := hS.call hb))
   | (go_at_call 174; ((with_reducible refine (infinity_64 _).mono ?_); rintro e w1 ⟨rfl,hb⟩; replace hS := hS.call hb)))
  all_goals
   go_ret
   exact ⟨rfl,hS.2⟩
set_option maxRecDepth 20000 in
set_option maxHeartbeats 6400000 in
theorem quo_64_inf (a b ka kb : Nat) (ha : a < 18446744073709551616) (hb : b < 18446744073709551616) (h1 : kindOf 9218868437227405312 (a % 9223372036854775808) = ka) (h2 : kindOf 9218868437227405312 (b % 9223372036854775808) = kb) (hk : ka ≠ kb ∧ (ka = 3 ∨ (ka ≠ 3 ∧ kb = 1)) ∧ (ka = 1 ∨ ka = 2 ∨ ka = 3) ∧ (kb = 1 ∨ kb = 2 ∨ kb = 3)) (w : World) :
  Calls Tryz.prog 164 #[.agg #[.int .i64 11,.int .i64 52],.int .u64 a,.int .u64 b] w fun r w' => r = .returned (.int .u64 ((((Ieee.double).div a b).getD 9221120237041090560 : Nat) : Int)) ∧ Below w.heap.size w w' := by
 have KA := fun w => hid (kind_64 a ha w)
 have KB := fun w => hid (kind_64 b hb w)
 rw [h1] at KA
 rw [h2] at KB
 have hx := xor_top (k := 63) (a := a) (b := b) (by omega) (by omega)
 rw [show (2 : Nat) ^ 63 = 9223372036854775808 by decide] at hx
 obtain ⟨xr,hxr⟩ : ∃ xr : Nat,xr = a ^^^ b := ⟨_,rfl⟩
 have hxb : bits .xor .u64 (a : Int) (b : Int) = (xr : Int) := by rw [hxr]; exact bits_xor_u64_nat a b (by omega) (by omega)
 rw [← hxr] at hx
 have SG := fun w => hid (sign_64 xr hx.2 w)
 obtain ⟨sg,hsg⟩ : ∃ sg : Nat,sg = if 9223372036854775808 ≤ xr then 9223372036854775808 else 0 := ⟨_,rfl⟩
 rw [← hsg] at SG
 have hsb : (decide (9223372036854775808 ≤ a) ^^ decide (9223372036854775808 ≤ b)) = decide (9223372036854775808 ≤ xr) := hx.1.symm
 have hR : ((Ieee.double).div a b).getD 9221120237041090560 = (sg + 9218868437227405312) := by
  rw [div_inf fmt_double (by omega) (by omega) (by rw [h1,h2]; omega),hsb,hsg]; unfold Ieee.Format.word; by_cases h : 9223372036854775808 ≤ xr <;> simp [h,show (Ieee.double).signWeight = 9223372036854775808 from rfl]
 rw [hR]
 obtain ⟨RR,hRR⟩ : ∃ RR : Nat,RR = (sg + 9218868437227405312) := ⟨_,rfl⟩
 have hor : bits .or .u64 (sg : Int) 9218868437227405312 = (RR : Int) := by
  have h9 := bits_or_u64_nat sg 9218868437227405312 (by rw [hsg]; split <;> decide) (by decide)
  have h7 : sg ||| 9218868437227405312 = RR := by
   rw [hRR,hsg]
   by_cases h : 9223372036854775808 ≤ xr
   ·rw [if_pos h]; decide
   ·rw [if_neg h]; simp
  rw [h7] at h9
  exact h9
 rw [← hRR]
 clear hRR hsg
 have t0 : ((ka : Int) == (kb : Int)) = false := beq_eq_false_iff_ne.2 (by omega)
 have t1 : (((ka : Int) == 3) = true) ∨ (((ka : Int) == 3) = false ∧ ((kb : Int) == 1) = true) := by
  rcases hk.2.1 with h | ⟨h,h'⟩
  ·exact .inl (by rw [h]; rfl)
  ·exact .inr ⟨beq_eq_false_iff_ne.2 (by omega),by rw [h']; rfl⟩
 clear hk
 have hS := Sx.new 11 52 w
 clear hR hsb hx hxr h1 h2 ha hb
 obtain ⟨c0,c1⟩ := id hS.1
 go_enter Tryz.func164,Tryz.ntmps164
 go_upto_region 2 with (first
  | (go_at_call 135; ((with_reducible refine (SG _).out.mono ?_); rintro e w1 ⟨rfl,hb⟩; replace hS := hS.call hb; clear c0 c1; obtain ⟨c0,c1⟩ := id hS.1)))
 go_cut [18] (fun s18 wx => s18 = .bool false ∧ Sx 11 52 w wx)
 case first =>
  replace hS := hS.drew
  refine wp_region_held_drew (S := Sx 11 52 w) (by kernel_rfl) hS (fun _ => ?_)
  clear c0 c1 hb
  generalize w1.drew = W at *
  refine zt 0 (.agg #[.int .i64 11,.int .i64 52]) rfl ?_ ?_
  ·(intro W hSw; obtain ⟨⟨c0,c1⟩,-⟩ := hSw; go_simp; try (with_reducible rfl))
  try simp only [Act.put,sl2,sl0,sl1]
  refine zt 1 (.int .u64 a) rfl ?_ ?_
  ·(intro W hSw; obtain ⟨⟨c0,c1⟩,-⟩ := hSw; go_simp; try (with_reducible rfl))
  try simp only [Act.put,sl2,sl0,sl1]
  refine zt 3 (.agg #[.int .i64 11,.int .i64 52]) rfl ?_ ?_
  ·(intro W hSw; obtain ⟨⟨c0,c1⟩,-⟩ := hSw; go_simp; try (with_reducible rfl))
  try simp only [Act.put,sl2,sl0,sl1]
  refine zt 4 (.int .u64 b) rfl ?_ ?_
  ·(intro W hSw; obtain ⟨⟨c0,c1⟩,-⟩ := hSw; go_simp; try (with_reducible rfl))
  try simp only [Act.put,sl2,sl0,sl1]
  refine zr 2 rfl (fun K hK => ?_)
  go_simp
  go_at_call 157
  (with_reducible refine (KA _).out.mono ?_)
  rintro e W1 ⟨rfl,hb⟩
  replace hS := hS.call hb
  clear hb
  refine hK.out _ _ hS (fun _ => ?_)
  clear hK K
  try simp only [Act.put,sl2,sl0,sl1]
  refine zr 5 rfl (fun K hK => ?_)
  go_simp
  go_at_call 157
  (with_reducible refine (KB _).out.mono ?_)
  rintro e W2 ⟨rfl,hb⟩
  replace hS := hS.call hb
  clear hb
  refine hK.out _ _ hS (fun _ => ?_)
  clear hK K
  try simp only [Act.put,sl2,sl0,sl1]
  refine zt 6 (.bool false) rfl ?_ ?_
  ·(intro W hSw; obtain ⟨⟨c0,c1⟩,-⟩ := hSw; go_simp; try (with_reducible rfl))
  try simp only [Act.put,sl2,sl0,sl1]
  refine zt 7 (.bool false) rfl ?_ ?_
  ·(intro W hSw; obtain ⟨⟨c0,c1⟩,-⟩ := hSw; go_simp; try (with_reducible rfl))
  try simp only [Act.put,sl2,sl0,sl1]
  refine zu 8 rfl ?_
  try simp only [Act.put,sl2,sl0,sl1]
  refine zu 9 rfl ?_
  try simp only [Act.put,sl2,sl0,sl1]
  refine zu 10 rfl ?_
  try simp only [Act.put,sl2,sl0,sl1]
  refine zu 11 rfl ?_
  try simp only [Act.put,sl2,sl0,sl1]
  refine zt 12 (.bool false) rfl ?_ ?_
  ·(intro W hSw; obtain ⟨⟨c0,c1⟩,-⟩ := hSw; go_simp; try (with_reducible rfl))
  try simp only [Act.put,sl2,sl0,sl1]
  refine zt 13 (.bool false) rfl ?_ ?_
  ·(intro W hSw; obtain ⟨⟨c0,c1⟩,-⟩ := hSw; go_simp; try (with_reducible rfl))
  try simp only [Act.put,sl2,sl0,sl1]
  refine wpAnyH_done (by kernel_rfl) ?_ _
  (go_wp2_with fail)
  go_meet
  exact ⟨rfl,hS⟩
 case rest =>
  clear hS c0 c1 hb
  obtain ⟨rfl,hS⟩ := hcut
  obtain ⟨c0,c1⟩ := id hS.1
  rcases t1 with t1 | ⟨t1,t2⟩
  all_goals
   go_wp2_with (first
    | (go_at_call 157; ((with_reducible refine (KA _).out.mono ?_); rintro e w1 ⟨rfl,hb⟩; replace hS := hS.call hb; have c0 := hS.1.1; have c1 := hS.1.2))
    | (go_at_call 157; ((with_reducible refine (KB _).out.mono ?_); rintro e w1 ⟨rfl,hb⟩; replace hS := hS.call hb; have c0 := hS.1.1; have c1 := hS.1.2))
    | (go_at_call 158; ((with_reducible refine (canonical_64 _).mono ?_); rintro e w1 ⟨rfl,hb⟩; replace hS := hS.call hb))
    | (go_at_call 174; ((with_reducible refine (infinity_64 _).mono ?_); rintro e w1 ⟨rfl,hb⟩; replace hS := hS.call hb)))
   all_goals
    go_ret
    exact ⟨rfl,hS.2⟩
set_option maxRecDepth 20000 in
set_option maxHeartbeats 6400000 in
theorem quo_64_zero (a b ka kb : Nat) (ha : a < 18446744073709551616) (hb : b < 18446744073709551616) (h1 : kindOf 9218868437227405312 (a % 9223372036854775808) = ka) (h2 : kindOf 9218868437227405312 (b % 9223372036854775808) = kb) (hk : ka ≠ kb ∧ ka ≠ 3 ∧ kb ≠ 1 ∧ (ka = 1 ∨ (ka ≠ 1 ∧ kb = 3)) ∧ (ka = 1 ∨ ka = 2 ∨ ka = 3) ∧ (kb = 1 ∨ kb = 2 ∨ kb = 3)) (w : World) :
  Calls Tryz.prog 164 #[.agg #[.int .i64 11,.int .i64 52],.int .u64 a,.int .u64 b] w fun r w' => r = .returned (.int .u64 ((((Ieee.double).div a b).getD 9221120237041090560 : Nat) : Int)) ∧ Below w.heap.size w w' := by
 have KA := fun w => hid (kind_64 a ha w)
 have KB := fun w => hid (kind_64 b hb w)
 rw [h1] at KA
 rw [h2] at KB
 have hx := xor_top (k := 63) (a := a) (b := b) (by omega) (by omega)
 rw [show (2 : Nat) ^ 63 = 9223372036854775808 by decide] at hx
 obtain ⟨xr,hxr⟩ : ∃ xr : Nat,xr = a ^^^ b := ⟨_,rfl⟩
 have hxb : bits .xor .u64 (a : Int) (b : Int) = (xr : Int) := by rw [hxr]; exact bits_xor_u64_nat a b (by omega) (by omega)
 rw [← hxr] at hx
 have SG := fun w => hid (sign_64 xr hx.2 w)
 obtain ⟨sg,hsg⟩ : ∃ sg : Nat,sg = if 9223372036854775808 ≤ xr then 9223372036854775808 else 0 := ⟨_,rfl⟩
 rw [← hsg] at SG
 have hsb : (decide (9223372036854775808 ≤ a) ^^ decide (9223372036854775808 ≤ b)) = decide (9223372036854775808 ≤ xr) := hx.1.symm
 have hR : ((Ieee.double).div a b).getD 9221120237041090560 = sg := by
  rw [div_zero fmt_double (by omega) (by omega) (by rw [h1,h2]; omega),hsb,hsg]; unfold Ieee.Format.word; by_cases h : 9223372036854775808 ≤ xr <;> simp [h,show (Ieee.double).signWeight = 9223372036854775808 from rfl]
 rw [hR]
 obtain ⟨RR,hRR⟩ : ∃ RR : Nat,RR = sg := ⟨_,rfl⟩
 skip
 rw [← hRR]
 subst hRR; clear hsg
 have t0 : ((ka : Int) == (kb : Int)) = false := beq_eq_false_iff_ne.2 (by omega)
 have t3 : ((ka : Int) == 3) = false := beq_eq_false_iff_ne.2 (by omega)
 have t4 : ((kb : Int) == 1) = false := beq_eq_false_iff_ne.2 (by omega)
 have t1 : (((ka : Int) == 1) = true) ∨ (((ka : Int) == 1) = false ∧ ((kb : Int) == 3) = true) := by
  rcases hk.2.2.2.1 with h | ⟨h,h'⟩
  ·exact .inl (by rw [h]; rfl)
  ·exact .inr ⟨beq_eq_false_iff_ne.2 (by omega),by rw [h']; rfl⟩
 clear hk
 have hS := Sx.new 11 52 w
 clear hR hsb hx hxr h1 h2 ha hb
 obtain ⟨c0,c1⟩ := id hS.1
 go_enter Tryz.func164,Tryz.ntmps164
 go_upto_region 2 with (first
  | (go_at_call 135; ((with_reducible refine (SG _).out.mono ?_); rintro e w1 ⟨rfl,hb⟩; replace hS := hS.call hb; clear c0 c1; obtain ⟨c0,c1⟩ := id hS.1)))
 go_cut [18] (fun s18 wx => s18 = .bool false ∧ Sx 11 52 w wx)
 case first =>
  replace hS := hS.drew
  refine wp_region_held_drew (S := Sx 11 52 w) (by kernel_rfl) hS (fun _ => ?_)
  clear c0 c1 hb
  generalize w1.drew = W at *
  refine zt 0 (.agg #[.int .i64 11,.int .i64 52]) rfl ?_ ?_
  ·(intro W hSw; obtain ⟨⟨c0,c1⟩,-⟩ := hSw; go_simp; try (with_reducible rfl))
  try simp only [Act.put,sl2,sl0,sl1]
  refine zt 1 (.int .u64 a) rfl ?_ ?_
  ·(intro W hSw; obtain ⟨⟨c0,c1⟩,-⟩ := hSw; go_simp; try (with_reducible rfl))
  try simp only [Act.put,sl2,sl0,sl1]
  refine zt 3 (.agg #[.int .i64 11,.int .i64 52]) rfl ?_ ?_
  ·(intro W hSw; obtain ⟨⟨c0,c1⟩,-⟩ := hSw; go_simp; try (with_reducible rfl))
  try simp only [Act.put,sl2,sl0,sl1]
  refine zt 4 (.int .u64 b) rfl ?_ ?_
  ·(intro W hSw; obtain ⟨⟨c0,c1⟩,-⟩ := hSw; go_simp; try (with_reducible rfl))
  try simp only [Act.put,sl2,sl0,sl1]
  refine zr 2 rfl (fun K hK => ?_)
  go_simp
  go_at_call 157
  (with_reducible refine (KA _).out.mono ?_)
  rintro e W1 ⟨rfl,hb⟩
  replace hS := hS.call hb
  clear hb
  refine hK.out _ _ hS (fun _ => ?_)
  clear hK K
  try simp only [Act.put,sl2,sl0,sl1]
  refine zr 5 rfl (fun K hK => ?_)
  go_simp
  go_at_call 157
  (with_reducible refine (KB _).out.mono ?_)
  rintro e W2 ⟨rfl,hb⟩
  replace hS := hS.call hb
  clear hb
  refine hK.out _ _ hS (fun _ => ?_)
  clear hK K
  try simp only [Act.put,sl2,sl0,sl1]
  refine zt 6 (.bool false) rfl ?_ ?_
  ·(intro W hSw; obtain ⟨⟨c0,c1⟩,-⟩ := hSw; go_simp; try (with_reducible rfl))
  try simp only [Act.put,sl2,sl0,sl1]
  refine zt 7 (.bool false) rfl ?_ ?_
  ·(intro W hSw; obtain ⟨⟨c0,c1⟩,-⟩ := hSw; go_simp; try (with_reducible rfl))
  try simp only [Act.put,sl2,sl0,sl1]
  refine zu 8 rfl ?_
  try simp only [Act.put,sl2,sl0,sl1]
  refine zu 9 rfl ?_
  try simp only [Act.put,sl2,sl0,sl1]
  refine zu 10 rfl ?_
  try simp only [Act.put,sl2,sl0,sl1]
  refine zu 11 rfl ?_
  try simp only [Act.put,sl2,sl0,sl1]
  refine zt 12 (.bool false) rfl ?_ ?_
  ·(intro W hSw; obtain ⟨⟨c0,c1⟩,-⟩ := hSw; go_simp; try (with_reducible rfl))
  try simp only [Act.put,sl2,sl0,sl1]
  refine zt 13 (.bool false) rfl ?_ ?_
  ·(intro W hSw; obtain ⟨⟨c0,c1⟩,-⟩ := hSw; go_simp; try (with_reducible rfl))
  try simp only [Act.put,sl2,sl0,sl1]
  refine wpAnyH_done (by kernel_rfl) ?_ _
  (go_wp2_with fail)
  go_meet
  exact ⟨rfl,hS⟩
 case rest =>
  clear hS c0 c1 hb
  obtain ⟨rfl,hS⟩ := hcut
  obtain ⟨c0,c1⟩ := id hS.1
  rcases t1 with t1 | ⟨t1,t2⟩
  all_goals
   go_wp2_with (first
    | (go_at_call 157; ((with_reducible refine (KA _).out.mono ?_); rintro e w1 ⟨rfl,hb⟩; replace hS := hS.call hb; have c0 := hS.1.1; have c1 := hS.1.2))
    | (go_at_call 157; ((with_reducible refine (KB _).out.mono ?_); rintro e w1 ⟨rfl,hb⟩; replace hS := hS.call hb; have c0 := hS.1.1; have c1 := hS.1.2))
    | (go_at_call 158; ((with_reducible refine (canonical_64 _).mono ?_); rintro e w1 ⟨rfl,hb⟩; replace hS := hS.call hb))
    | (go_at_call 174; ((with_reducible refine (infinity_64 _).mono ?_); rintro e w1 ⟨rfl,hb⟩; replace hS := hS.call hb)))
   all_goals
    go_ret
    exact ⟨rfl,hS.2⟩
end Go.Proofs.YtbbmbhcbncenaaaGreatDoor.Fl
namespace Go.Proofs.YtbbmbhcbncenaaaGreatDoor.Fl
open Go.RowKit
set_option maxRecDepth 20000 in
set_option maxHeartbeats 25600000 in
theorem quo_64_22 (a b : Nat) (ha : a < 18446744073709551616) (hb : b < 18446744073709551616) (h1 : kindOf 9218868437227405312 (a % 9223372036854775808) = 2) (h2 : kindOf 9218868437227405312 (b % 9223372036854775808) = 2) (w : World) :
  Calls Tryz.prog 164 #[.agg #[.int .i64 11,.int .i64 52],.int .u64 a,.int .u64 b] w fun r w' => r = .returned (.int .u64 ((((Ieee.double).div a b).getD 9221120237041090560 : Nat) : Int)) ∧ Below w.heap.size w w' := by
 have KA := fun w => hid (kind_64 a ha w)
 have KB := fun w => hid (kind_64 b hb w)
 have PA := fun w => hid (parts_64 a ha w)
 have PB := fun w => hid (parts_64 b hb w)
 rw [h1] at KA
 rw [h2] at KB
 have hx := xor_top (k := 63) (a := a) (b := b) (by omega) (by omega)
 rw [show (2 : Nat) ^ 63 = 9223372036854775808 by decide] at hx
 obtain ⟨xr,hxr⟩ : ∃ xr : Nat,xr = a ^^^ b := ⟨_,rfl⟩
 have hxb : bits .xor .u64 (a : Int) (b : Int) = (xr : Int) := by rw [hxr]; exact bits_xor_u64_nat a b (by omega) (by omega)
 rw [← hxr] at hx
 have SG := fun w => hid (sign_64 xr hx.2 w)
 obtain ⟨sg,hsg⟩ : ∃ sg : Nat,sg = if 9223372036854775808 ≤ xr then 9223372036854775808 else 0 := ⟨_,rfl⟩
 rw [← hsg] at SG
 obtain ⟨ns,hns⟩ : ∃ ns : Bool,ns = (decide (9223372036854775808 ≤ a) ^^ decide (9223372036854775808 ≤ b)) := ⟨_,rfl⟩
 have hsgn : ((sg : Int) != 0) = ns := by
  rw [hns,← hx.1,hsg]; by_cases h : 9223372036854775808 ≤ xr <;> simp [h]
 have k1 := kind2.1 h1
 have k2 := kind2.1 h2
 have p1 := (rk2 fmt_double (by omega) h1).2
 have p2 := (rk2 fmt_double (by omega) h2).2
 have hm1b := pm_lt 52 (a % 9223372036854775808)
 have hm2b := pm_lt 52 (b % 9223372036854775808)
 have he1b := pe_eq 52 (-1074) (a % 9223372036854775808)
 have he2b := pe_eq 52 (-1074) (b % 9223372036854775808)
 have hq1 : a % 9223372036854775808 / 2 ^ 52 ≤ 2046 := by show a % 9223372036854775808 / 4503599627370496 ≤ 2046; omega
 have hq2 : b % 9223372036854775808 / 2 ^ 52 ≤ 2046 := by show b % 9223372036854775808 / 4503599627370496 ≤ 2046; omega
 have HD := hid (fun j1 j2 => div_fin fmt_double (a := a) (b := b) (by omega) (by omega) h1 h2 (j1 := j1) (j2 := j2))
 rw [← hns] at HD
 obtain ⟨RR,hRR⟩ : ∃ RR : Nat,RR = ((Ieee.double).div a b).getD 9221120237041090560 := ⟨_,rfl⟩
 rw [← hRR]
 have HRR := hid hRR
 obtain ⟨n1,hn1⟩ : ∃ n1 : Bool,n1 = decide (9223372036854775808 ≤ a) := ⟨_,rfl⟩
 obtain ⟨n2,hn2⟩ : ∃ n2 : Bool,n2 = decide (9223372036854775808 ≤ b) := ⟨_,rfl⟩
 obtain ⟨m1,hm1⟩ : ∃ m1 : Nat,m1 = pm 52 (a % 9223372036854775808) := ⟨_,rfl⟩
 obtain ⟨m2,hm2⟩ : ∃ m2 : Nat,m2 = pm 52 (b % 9223372036854775808) := ⟨_,rfl⟩
 obtain ⟨e1,he1⟩ : ∃ e1 : Int,e1 = pe 52 (-1074) (a % 9223372036854775808) := ⟨_,rfl⟩
 obtain ⟨e2,he2⟩ : ∃ e2 : Int,e2 = pe 52 (-1074) (b % 9223372036854775808) := ⟨_,rfl⟩
 rw [← hn1,← hm1,← he1] at PA
 rw [← hn2,← hm2,← he2] at PB
 rw [← hm1,← hm2,← he1,← he2] at HD
 rw [← hm1] at hm1b p1
 rw [← hm2] at hm2b p2
 rw [← he1] at he1b
 rw [← he2] at he2b
 have HM1 : Hid (m1 < 18446744073709551616) := hid (by have : m1 < 4503599627370496 * 2 := hm1b; omega)
 have HM2 : Hid (m2 < 18446744073709551616) := hid (by have : m2 < 4503599627370496 * 2 := hm2b; omega)
 generalize a % 9223372036854775808 / 2 ^ 52 = q1 at *
 generalize b % 9223372036854775808 / 2 ^ 52 = q2 at *
 have HEB := hid (show -1100 ≤ e1 ∧ e1 ≤ 2100 ∧ -1100 ≤ e2 ∧ e2 ≤ 2100 by omega)
 have HE1 : Hid (-4611686018427387904 ≤ e1 ∧ e1 ≤ 4611686018427387904) := hid (by have := HEB.out; omega)
 have HE2 : Hid (-4611686018427387904 ≤ e2 ∧ e2 ≤ 4611686018427387904) := hid (by have := HEB.out; omega)
 have HP0 := hid (And.intro p1 p2)
 have HSGN := hid hsgn
 have HRC : Hid (∀ (q : Nat) (e3 : Int) (mo : Bool),q < 18446744073709551616 → -9223372036854775808 ≤ e3 → e3 ≤ 9223372036854775807 → (mo = true → 288230376151711744 ≤ q) → ∀ W,Calls Tryz.prog 161 #[.agg #[.int .i64 11,.int .i64 52],.agg #[.bool ns,.int .u64 q,.int .i64 e3],.bool mo] W fun r w' => r = .returned (.int .u64 (((Ieee.double).word ns (rungR Ieee.double q e3 mo) : Nat) : Int)) ∧ Below W.heap.size W w') := hid (fun q e3 mo hq h0 h3 hm W => round_64 ns q hq e3 h0 h3 mo hm W)
 exact quo_gen 11 52 Ieee.double a b xr sg ns n1 n2 m1 m2 RR e1 e2 KA KB PA PB SG hxb HSGN HM1 HM2 HEB HE1 HE2 HP0 (hid (fun j1 j2 a1 a2 a3 a4 a5 => by rw [HRR.out,HD.out j1 j2 a1 a2 a3 a4 a5]; rfl)) HRC w
end Go.Proofs.YtbbmbhcbncenaaaGreatDoor.Fl
namespace Go.Proofs.YtbbmbhcbncenaaaGreatDoor.Fl
open Go.RowKit
set_option maxRecDepth 20000 in
set_option maxHeartbeats 6400000 in
theorem prod_64_13 (a b : Nat) (ha : a < 18446744073709551616) (hb : b < 18446744073709551616) (h1 : kindOf 9218868437227405312 (a % 9223372036854775808) = 1) (h2 : kindOf 9218868437227405312 (b % 9223372036854775808) = 3) (w : World) :
  Calls Tryz.prog 163 #[.agg #[.int .i64 11,.int .i64 52],.int .u64 a,.int .u64 b] w fun r w' => r = .returned (.int .u64 ((((Ieee.double).mul a b).getD 9221120237041090560 : Nat) : Int)) ∧ Below w.heap.size w w' := by
 have KA := fun w => hid (kind_64 a ha w)
 have KB := fun w => hid (kind_64 b hb w)
 rw [h1] at KA
 rw [h2] at KB
 have hx := xor_top (k := 63) (a := a) (b := b) (by omega) (by omega)
 rw [show (2 : Nat) ^ 63 = 9223372036854775808 by decide] at hx
 obtain ⟨xr,hxr⟩ : ∃ xr : Nat,xr = a ^^^ b := ⟨_,rfl⟩
 have hxb : bits .xor .u64 (a : Int) (b : Int) = (xr : Int) := by rw [hxr]; exact bits_xor_u64_nat a b (by omega) (by omega)
 rw [← hxr] at hx
 have SG := fun w => hid (sign_64 xr hx.2 w)
 obtain ⟨sg,hsg⟩ : ∃ sg : Nat,sg = if 9223372036854775808 ≤ xr then 9223372036854775808 else 0 := ⟨_,rfl⟩
 rw [← hsg] at SG
 have hsb : (decide (9223372036854775808 ≤ a) ^^ decide (9223372036854775808 ≤ b)) = decide (9223372036854775808 ≤ xr) := hx.1.symm
 have hR : ((Ieee.double).mul a b).getD 9221120237041090560 = 9221120237041090560 := by
  rw [mul_can fmt_double (by omega) (by omega) (by simp [h1,h2])]; rfl
 rw [hR]
 obtain ⟨RR,hRR⟩ : ∃ RR : Nat,RR = 9221120237041090560 := ⟨_,rfl⟩
 skip
 rw [← hRR]
 subst hRR; clear hsg
 have hS := Sx.new 11 52 w
 clear hR hsb hx hxr h1 h2 ha hb
 obtain ⟨c0,c1⟩ := id hS.1
 go_enter Tryz.func163,Tryz.ntmps163
 go_wp2_with (first
  | (go_at_call 135; ((with_reducible refine (SG _).out.mono ?_); rintro e w1 ⟨rfl,hb⟩; replace hS := hS.call hb; clear c0 c1; obtain ⟨c0,c1⟩ := id hS.1))
  | (go_at_call 157; ((with_reducible refine (KA _).out.mono ?_); rintro e w1 ⟨rfl,hb⟩; replace hS := hS.call hb; clear c0 c1; obtain ⟨c0,c1⟩ := id hS.1))
  | (go_at_call 157; ((with_reducible refine (KB _).out.mono ?_); rintro e w1 ⟨rfl,hb⟩; replace hS := hS.call hb; clear c0 c1; obtain ⟨c0,c1⟩ := id hS.1))
  | (go_at_call 158; ((with_reducible refine (canonical_64 _).mono ?_); rintro e w1 ⟨rfl,hb⟩; replace hS := hS.call hb))
  | (go_at_call 174; ((with_reducible refine (infinity_64 _).mono ?_); rintro e w1 ⟨rfl,hb⟩; replace hS := hS.call hb)))
 go_ret
 exact ⟨rfl,hS.2⟩
set_option maxRecDepth 20000 in
set_option maxHeartbeats 6400000 in
theorem prod_64_31 (a b : Nat) (ha : a < 18446744073709551616) (hb : b < 18446744073709551616) (h1 : kindOf 9218868437227405312 (a % 9223372036854775808) = 3) (h2 : kindOf 9218868437227405312 (b % 9223372036854775808) = 1) (w : World) :
  Calls Tryz.prog 163 #[.agg #[.int .i64 11,.int .i64 52],.int .u64 a,.int .u64 b] w fun r w' => r = .returned (.int .u64 ((((Ieee.double).mul a b).getD 9221120237041090560 : Nat) : Int)) ∧ Below w.heap.size w w' := by
 have KA := fun w => hid (kind_64 a ha w)
 have KB := fun w => hid (kind_64 b hb w)
 rw [h1] at KA
 rw [h2] at KB
 have hx := xor_top (k := 63) (a := a) (b := b) (by omega) (by omega)
 rw [show (2 : Nat) ^ 63 = 9223372036854775808 by decide] at hx
 obtain ⟨xr,hxr⟩ : ∃ xr : Nat,xr = a ^^^ b := ⟨_,rfl⟩
 have hxb : bits .xor .u64 (a : Int) (b : Int) = (xr : Int) := by rw [hxr]; exact bits_xor_u64_nat a b (by omega) (by omega)
 rw [← hxr] at hx
 have SG := fun w => hid (sign_64 xr hx.2 w)
 obtain ⟨sg,hsg⟩ : ∃ sg : Nat,sg = if 9223372036854775808 ≤ xr then 9223372036854775808 else 0 := ⟨_,rfl⟩
 rw [← hsg] at SG
 have hsb : (decide (9223372036854775808 ≤ a) ^^ decide (9223372036854775808 ≤ b)) = decide (9223372036854775808 ≤ xr) := hx.1.symm
 have hR : ((Ieee.double).mul a b).getD 9221120237041090560 = 9221120237041090560 := by
  rw [mul_can fmt_double (by omega) (by omega) (by simp [h1,h2])]; rfl
 rw [hR]
 obtain ⟨RR,hRR⟩ : ∃ RR : Nat,RR = 9221120237041090560 := ⟨_,rfl⟩
 skip
 rw [← hRR]
 subst hRR; clear hsg
 have hS := Sx.new 11 52 w
 clear hR hsb hx hxr h1 h2 ha hb
 obtain ⟨c0,c1⟩ := id hS.1
 go_enter Tryz.func163,Tryz.ntmps163
 go_wp2_with (first
  | (go_at_call 135; ((with_reducible refine (SG _).out.mono ?_); rintro e w1 ⟨rfl,hb⟩; replace hS := hS.call hb; clear c0 c1; obtain ⟨c0,c1⟩ := id hS.1))
  | (go_at_call 157; ((with_reducible refine (KA _).out.mono ?_); rintro e w1 ⟨rfl,hb⟩; replace hS := hS.call hb; clear c0 c1; obtain ⟨c0,c1⟩ := id hS.1))
  | (go_at_call 157; ((with_reducible refine (KB _).out.mono ?_); rintro e w1 ⟨rfl,hb⟩; replace hS := hS.call hb; clear c0 c1; obtain ⟨c0,c1⟩ := id hS.1))
  | (go_at_call 158; ((with_reducible refine (canonical_64 _).mono ?_); rintro e w1 ⟨rfl,hb⟩; replace hS := hS.call hb))
  | (go_at_call 174; ((with_reducible refine (infinity_64 _).mono ?_); rintro e w1 ⟨rfl,hb⟩; replace hS := hS.call hb)))
 go_ret
 exact ⟨rfl,hS.2⟩
set_option maxRecDepth 20000 in
set_option maxHeartbeats 6400000 in
theorem prod_64_33 (a b : Nat) (ha : a < 18446744073709551616) (hb : b < 18446744073709551616) (h1 : kindOf 9218868437227405312 (a % 9223372036854775808) = 3) (h2 : kindOf 9218868437227405312 (b % 9223372036854775808) = 3) (w : World) :
  Calls Tryz.prog 163 #[.agg #[.int .i64 11,.int .i64 52],.int .u64 a,.int .u64 b] w fun r w' => r = .returned (.int .u64 ((((Ieee.double).mul a b).getD 9221120237041090560 : Nat) : Int)) ∧ Below w.heap.size w w' := by
 have KA := fun w => hid (kind_64 a ha w)
 have KB := fun w => hid (kind_64 b hb w)
 rw [h1] at KA
 rw [h2] at KB
 have hx := xor_top (k := 63) (a := a) (b := b) (by omega) (by omega)
 rw [show (2 : Nat) ^ 63 = 9223372036854775808 by decide] at hx
 obtain ⟨xr,hxr⟩ : ∃ xr : Nat,xr = a ^^^ b := ⟨_,rfl⟩
 have hxb : bits .xor .u64 (a : Int) (b : Int) = (xr : Int) := by rw [hxr]; exact bits_xor_u64_nat a b (by omega) (by omega)
 rw [← hxr] at hx
 have SG := fun w => hid (sign_64 xr hx.2 w)
 obtain ⟨sg,hsg⟩ : ∃ sg : Nat,sg = if 9223372036854775808 ≤ xr then 9223372036854775808 else 0 := ⟨_,rfl⟩
 rw [← hsg] at SG
 have hsb : (decide (9223372036854775808 ≤ a) ^^ decide (9223372036854775808 ≤ b)) = decide (9223372036854775808 ≤ xr) := hx.1.symm
 have hR : ((Ieee.double).mul a b).getD 9221120237041090560 = (sg + 9218868437227405312) := by
  rw [mul_inf fmt_double (by omega) (by omega) (by simp [h1,h2]),hsb,hsg]; unfold Ieee.Format.word; by_cases h : 9223372036854775808 ≤ xr <;> simp [h,show (Ieee.double).signWeight = 9223372036854775808 from rfl]
 rw [hR]
 obtain ⟨RR,hRR⟩ : ∃ RR : Nat,RR = (sg + 9218868437227405312) := ⟨_,rfl⟩
 have hor : bits .or .u64 (sg : Int) 9218868437227405312 = (RR : Int) := by
  have h9 := bits_or_u64_nat sg 9218868437227405312 (by rw [hsg]; split <;> decide) (by decide)
  have h7 : sg ||| 9218868437227405312 = RR := by
   rw [hRR,hsg]
   by_cases h : 9223372036854775808 ≤ xr
   ·rw [if_pos h]; decide
   ·rw [if_neg h]; simp
  rw [h7] at h9
  exact h9
 rw [← hRR]
 clear hRR hsg
 have hS := Sx.new 11 52 w
 clear hR hsb hx hxr h1 h2 ha hb
 obtain ⟨c0,c1⟩ := id hS.1
 go_enter Tryz.func163,Tryz.ntmps163
 go_wp2_with (first
  | (go_at_call 135; ((with_reducible refine (SG _).out.mono ?_); rintro e w1 ⟨rfl,hb⟩; replace hS := hS.call hb; clear c0 c1; obtain ⟨c0,c1⟩ := id hS.1))
  | (go_at_call 157; ((with_reducible refine (KA _).out.mono ?_); rintro e w1 ⟨rfl,hb⟩; replace hS := hS.call hb; clear c0 c1; obtain ⟨c0,c1⟩ := id hS.1))
  | (go_at_call 157; ((with_reducible refine (KB _).out.mono ?_); rintro e w1 ⟨rfl,hb⟩; replace hS := hS.call hb; clear c0 c1; obtain ⟨c0,c1⟩ := id hS.1))
  | (go_at_call 158; ((with_reducible refine (canonical_64 _).mono ?_); rintro e w1 ⟨rfl,hb⟩; replace hS := hS.call hb))
  | (go_at_call 174; ((with_reducible refine (infinity_64 _).mono ?_); rintro e w1 ⟨rfl,hb⟩; replace hS := hS.call hb)))
 go_ret
 exact ⟨rfl,hS.2⟩
set_option maxRecDepth 20000 in
set_option maxHeartbeats 6400000 in
theorem prod_64_32 (a b : Nat) (ha : a < 18446744073709551616) (hb : b < 18446744073709551616) (h1 : kindOf 9218868437227405312 (a % 9223372036854775808) = 3) (h2 : kindOf 9218868437227405312 (b % 9223372036854775808) = 2) (w : World) :
  Calls Tryz.prog 163 #[.agg #[.int .i64 11,.int .i64 52],.int .u64 a,.int .u64 b] w fun r w' => r = .returned (.int .u64 ((((Ieee.double).mul a b).getD 9221120237041090560 : Nat) : Int)) ∧ Below w.heap.size w w' := by
 have KA := fun w => hid (kind_64 a ha w)
 have KB := fun w => hid (kind_64 b hb w)
 rw [h1] at KA
 rw [h2] at KB
 have hx := xor_top (k := 63) (a := a) (b := b) (by omega) (by omega)
 rw [show (2 : Nat) ^ 63 = 9223372036854775808 by decide] at hx
 obtain ⟨xr,hxr⟩ : ∃ xr : Nat,xr = a ^^^ b := ⟨_,rfl⟩
 have hxb : bits .xor .u64 (a : Int) (b : Int) = (xr : Int) := by rw [hxr]; exact bits_xor_u64_nat a b (by omega) (by omega)
 rw [← hxr] at hx
 have SG := fun w => hid (sign_64 xr hx.2 w)
 obtain ⟨sg,hsg⟩ : ∃ sg : Nat,sg = if 9223372036854775808 ≤ xr then 9223372036854775808 else 0 := ⟨_,rfl⟩
 rw [← hsg] at SG
 have hsb : (decide (9223372036854775808 ≤ a) ^^ decide (9223372036854775808 ≤ b)) = decide (9223372036854775808 ≤ xr) := hx.1.symm
 have hR : ((Ieee.double).mul a b).getD 9221120237041090560 = (sg + 9218868437227405312) := by
  rw [mul_inf fmt_double (by omega) (by omega) (by simp [h1,h2]),hsb,hsg]; unfold Ieee.Format.word; by_cases h : 9223372036854775808 ≤ xr <;> simp [h,show (Ieee.double).signWeight = 9223372036854775808 from rfl]
 rw [hR]
 obtain ⟨RR,hRR⟩ : ∃ RR : Nat,RR = (sg + 9218868437227405312) := ⟨_,rfl⟩
 have hor : bits .or .u64 (sg : Int) 9218868437227405312 = (RR : Int) := by
  have h9 := bits_or_u64_nat sg 9218868437227405312 (by rw [hsg]; split <;> decide) (by decide)
  have h7 : sg ||| 9218868437227405312 = RR := by
   rw [hRR,hsg]
   by_cases h : 9223372036854775808 ≤ xr
   ·rw [if_pos h]; decide
   ·rw [if_neg h]; simp
  rw [h7] at h9
  exact h9
 rw [← hRR]
 clear hRR hsg
 have hS := Sx.new 11 52 w
 clear hR hsb hx hxr h1 h2 ha hb
 obtain ⟨c0,c1⟩ := id hS.1
 go_enter Tryz.func163,Tryz.ntmps163
 go_wp2_with (first
  | (go_at_call 135; ((with_reducible refine (SG _).out.mono ?_); rintro e w1 ⟨rfl,hb⟩; replace hS := hS.call hb; clear c0 c1; obtain ⟨c0,c1⟩ := id hS.1))
  | (go_at_call 157; ((with_reducible refine (KA _).out.mono ?_); rintro e w1 ⟨rfl,hb⟩; replace hS := hS.call hb; clear c0 c1; obtain ⟨c0,c1⟩ := id hS.1))
  | (go_at_call 157; ((with_reducible refine (KB _).out.mono ?_); rintro e w1 ⟨rfl,hb⟩; replace hS := hS.call hb; clear c0 c1; obtain ⟨c0,c1⟩ := id hS.1))
  | (go_at_call 158; ((with_reducible refine (canonical_64 _).mono ?_); rintro e w1 ⟨rfl,hb⟩; replace hS := hS.call hb))
  | (go_at_call 174; ((with_reducible refine (infinity_64 _).mono ?_); rintro e w1 ⟨rfl,hb⟩; replace hS := hS.call hb)))
 go_ret
 exact ⟨rfl,hS.2⟩
set_option maxRecDepth 20000 in
set_option maxHeartbeats 6400000 in
theorem prod_64_23 (a b : Nat) (ha : a < 18446744073709551616) (hb : b < 18446744073709551616) (h1 : kindOf 9218868437227405312 (a % 9223372036854775808) = 2) (h2 : kindOf 9218868437227405312 (b % 9223372036854775808) = 3) (w : World) :
  Calls Tryz.prog 163 #[.agg #[.int .i64 11,.int .i64 52],.int .u64 a,.int .u64 b] w fun r w' => r = .returned (.int .u64 ((((Ieee.double).mul a b).getD 9221120237041090560 : Nat) : Int)) ∧ Below w.heap.size w w' := by
 have KA := fun w => hid (kind_64 a ha w)
 have KB := fun w => hid (kind_64 b hb w)
 rw [h1] at KA
 rw [h2] at KB
 have hx := xor_top (k := 63) (a := a) (b := b) (by omega) (by omega)
 rw [show (2 : Nat) ^ 63 = 9223372036854775808 by decide] at hx
 obtain ⟨xr,hxr⟩ : ∃ xr : Nat,xr = a ^^^ b := ⟨_,rfl⟩
 have hxb : bits .xor .u64 (a : Int) (b : Int) = (xr : Int) := by rw [hxr]; exact bits_xor_u64_nat a b (by omega) (by omega)
 rw [← hxr] at hx
 have SG := fun w => hid (sign_64 xr hx.2 w)
 obtain ⟨sg,hsg⟩ : ∃ sg : Nat,sg = if 9223372036854775808 ≤ xr then 9223372036854775808 else 0 := ⟨_,rfl⟩
 rw [← hsg] at SG
 have hsb : (decide (9223372036854775808 ≤ a) ^^ decide (9223372036854775808 ≤ b)) = decide (9223372036854775808 ≤ xr) := hx.1.symm
 have hR : ((Ieee.double).mul a b).getD 9221120237041090560 = (sg + 9218868437227405312) := by
  rw [mul_inf fmt_double (by omega) (by omega) (by simp [h1,h2]),hsb,hsg]; unfold Ieee.Format.word; by_cases h : 9223372036854775808 ≤ xr <;> simp [h,show (Ieee.double).signWeight = 9223372036854775808 from rfl]
 rw [hR]
 obtain ⟨RR,hRR⟩ : ∃ RR : Nat,RR = (sg + 9218868437227405312) := ⟨_,rfl⟩
 have hor : bits .or .u64 (sg : Int) 9218868437227405312 = (RR : Int) := by
  have h9 := bits_or_u64_nat sg 9218868437227405312 (by rw [hsg]; split <;> decide) (by decide)
  have h7 : sg ||| 9218868437227405312 = RR := by
   rw [hRR,hsg]
   by_cases h : 9223372036854775808 ≤ xr
   ·rw [if_pos h]; decide
   ·rw [if_neg h]; simp
  rw [h7] at h9
  exact h9
 rw [← hRR]
 clear hRR hsg
 have hS := Sx.new 11 52 w
 clear hR hsb hx hxr h1 h2 ha hb
 obtain ⟨c0,c1⟩ := id hS.1
 go_enter Tryz.func163,Tryz.ntmps163
 go_wp2_with (first
  | (go_at_call 135; ((with_reducible refine (SG _).out.mono ?_); rintro e w1 ⟨rfl,hb⟩; replace hS := hS.call hb; clear c0 c1; obtain ⟨c0,c1⟩ := id hS.1))
  | (go_at_call 157; ((with_reducible refine (KA _).out.mono ?_); rintro e w1 ⟨rfl,hb⟩; replace hS := hS.call hb; clear c0 c1; obtain ⟨c0,c1⟩ := id hS.1))
  | (go_at_call 157; ((with_reducible refine (KB _).out.mono ?_); rintro e w1 ⟨rfl,hb⟩; replace hS := hS.call hb; clear c0 c1; obtain ⟨c0,c1⟩ := id hS.1))
  | (go_at_call 158; ((with_reducible refine (canonical_64 _).mono ?_); rintro e w1 ⟨rfl,hb⟩; replace hS := hS.call hb))
  | (go_at_call 174; ((with_reducible refine (infinity_64 _).mono ?_); rintro e w1 ⟨rfl,hb⟩; replace hS := hS.call hb)))
 go_ret
 exact ⟨rfl,hS.2⟩
set_option maxRecDepth 20000 in
set_option maxHeartbeats 25600000 in
theorem prod_64_fin (a b ka kb : Nat) (ha : a < 18446744073709551616) (hb : b < 18446744073709551616) (h1 : kindOf 9218868437227405312 (a % 9223372036854775808) = ka) (h2 : kindOf 9218868437227405312 (b % 9223372036854775808) = kb) (h1' : ka = 1 ∨ ka = 2) (h2' : kb = 1 ∨ kb = 2) (w : World) :
  Calls Tryz.prog 163 #[.agg #[.int .i64 11,.int .i64 52],.int .u64 a,.int .u64 b] w fun r w' => r = .returned (.int .u64 ((((Ieee.double).mul a b).getD 9221120237041090560 : Nat) : Int)) ∧ Below w.heap.size w w' := by
 have KA := fun w => hid (kind_64 a ha w)
 have KB := fun w => hid (kind_64 b hb w)
 have PA := fun w => hid (parts_64 a ha w)
 have PB := fun w => hid (parts_64 b hb w)
 rw [h1] at KA
 rw [h2] at KB
 have f1 : ((ka : Int) == 3) = false := beq_eq_false_iff_ne.2 (by omega)
 have f2 : ((kb : Int) == 3) = false := beq_eq_false_iff_ne.2 (by omega)
 have hx := xor_top (k := 63) (a := a) (b := b) (by omega) (by omega)
 rw [show (2 : Nat) ^ 63 = 9223372036854775808 by decide] at hx
 obtain ⟨xr,hxr⟩ : ∃ xr : Nat,xr = a ^^^ b := ⟨_,rfl⟩
 have hxb : bits .xor .u64 (a : Int) (b : Int) = (xr : Int) := by rw [hxr]; exact bits_xor_u64_nat a b (by omega) (by omega)
 rw [← hxr] at hx
 have SG := fun w => hid (sign_64 xr hx.2 w)
 obtain ⟨sg,hsg⟩ : ∃ sg : Nat,sg = if 9223372036854775808 ≤ xr then 9223372036854775808 else 0 := ⟨_,rfl⟩
 rw [← hsg] at SG
 obtain ⟨ns,hns⟩ : ∃ ns : Bool,ns = (decide (9223372036854775808 ≤ a) ^^ decide (9223372036854775808 ≤ b)) := ⟨_,rfl⟩
 have hsgn : ((sg : Int) != 0) = ns := by
  rw [hns,← hx.1,hsg]; by_cases h : 9223372036854775808 ≤ xr <;> simp [h]
 have hA1 : a % 9223372036854775808 < 9218868437227405312 := by
  rcases h1' with h | h
  ·rw [h] at h1; rw [kind1.1 h1]; decide
  ·rw [h] at h1; exact (kind2.1 h1).2
 have hB1 : b % 9223372036854775808 < 9218868437227405312 := by
  rcases h2' with h | h
  ·rw [h] at h2; rw [kind1.1 h2]; decide
  ·rw [h] at h2; exact (kind2.1 h2).2
 have hm1b := pm_lt 52 (a % 9223372036854775808)
 have hm2b := pm_lt 52 (b % 9223372036854775808)
 have he1b := pe_eq 52 (-1074) (a % 9223372036854775808)
 have he2b := pe_eq 52 (-1074) (b % 9223372036854775808)
 have hq1 : a % 9223372036854775808 / 2 ^ 52 ≤ 2046 := by show a % 9223372036854775808 / 4503599627370496 ≤ 2046; omega
 have hq2 : b % 9223372036854775808 / 2 ^ 52 ≤ 2046 := by show b % 9223372036854775808 / 4503599627370496 ≤ 2046; omega
 have hmul := mul_fin fmt_double (a := a) (b := b) (by omega) (by omega) (by rw [h1]; exact h1') (by rw [h2]; exact h2')
 rw [← hns] at hmul
 rw [hmul]
 show Calls Tryz.prog 163 #[.agg #[.int .i64 11,.int .i64 52],.int .u64 a,.int .u64 b] w fun r w' => r = .returned (.int .u64 (((Ieee.double).word ns (rungOf Ieee.double (pm 52 (a % 9223372036854775808) * pm 52 (b % 9223372036854775808)) (pe 52 (-1074) (a % 9223372036854775808) + pe 52 (-1074) (b % 9223372036854775808))) : Nat) : Int)) ∧ Below w.heap.size w w'
 obtain ⟨n1,hn1⟩ : ∃ n1 : Bool,n1 = decide (9223372036854775808 ≤ a) := ⟨_,rfl⟩
 obtain ⟨n2,hn2⟩ : ∃ n2 : Bool,n2 = decide (9223372036854775808 ≤ b) := ⟨_,rfl⟩
 obtain ⟨m1,hm1⟩ : ∃ m1 : Nat,m1 = pm 52 (a % 9223372036854775808) := ⟨_,rfl⟩
 obtain ⟨m2,hm2⟩ : ∃ m2 : Nat,m2 = pm 52 (b % 9223372036854775808) := ⟨_,rfl⟩
 obtain ⟨e1,he1⟩ : ∃ e1 : Int,e1 = pe 52 (-1074) (a % 9223372036854775808) := ⟨_,rfl⟩
 obtain ⟨e2,he2⟩ : ∃ e2 : Int,e2 = pe 52 (-1074) (b % 9223372036854775808) := ⟨_,rfl⟩
 rw [← hn1,← hm1,← he1] at PA
 rw [← hn2,← hm2,← he2] at PB
 rw [← hm1,← hm2,← he1,← he2]
 rw [← hm1] at hm1b
 rw [← hm2] at hm2b
 rw [← he1] at he1b
 rw [← he2] at he2b
 obtain ⟨RR,hRR⟩ : ∃ RR : Nat,RR = (Ieee.double).word ns (rungOf Ieee.double (m1 * m2) (e1 + e2)) := ⟨_,rfl⟩
 rw [← hRR]
 have HRR := hid hRR
 have HM1 : Hid (m1 < 18446744073709551616) := hid (by have : m1 < 4503599627370496 * 2 := hm1b; omega)
 have HM2 : Hid (m2 < 18446744073709551616) := hid (by have : m2 < 4503599627370496 * 2 := hm2b; omega)
 generalize a % 9223372036854775808 / 2 ^ 52 = q1 at *
 generalize b % 9223372036854775808 / 2 ^ 52 = q2 at *
 have HEB := hid (show -1100 ≤ e1 ∧ e1 ≤ 2100 ∧ -1100 ≤ e2 ∧ e2 ≤ 2100 by omega)
 have HE1 : Hid (-4611686018427387904 ≤ e1 ∧ e1 ≤ 4611686018427387904) := hid (by have := HEB.out; omega)
 have HE2 : Hid (-4611686018427387904 ≤ e2 ∧ e2 ≤ 4611686018427387904) := hid (by have := HEB.out; omega)
 have HSGN := hid hsgn
 have HRC : Hid (∀ (q : Nat) (e3 : Int) (mo : Bool),q < 18446744073709551616 → -9223372036854775808 ≤ e3 → e3 ≤ 9223372036854775807 → (mo = true → 288230376151711744 ≤ q) → ∀ W,Calls Tryz.prog 161 #[.agg #[.int .i64 11,.int .i64 52],.agg #[.bool ns,.int .u64 q,.int .i64 e3],.bool mo] W fun r w' => r = .returned (.int .u64 (((Ieee.double).word ns (rungR Ieee.double q e3 mo) : Nat) : Int)) ∧ Below W.heap.size W w') := hid (fun q e3 mo hq h0 h3 hm W => round_64 ns q hq e3 h0 h3 mo hm W)
 exact prod_gen 11 52 Ieee.double (by decide) a b ka kb xr sg ns n1 n2 m1 m2 RR e1 e2 KA KB PA PB SG hxb HSGN f1 f2 HM1 HM2 HEB HE1 HE2 HRR HRC w
theorem prod_64 (a b : Nat) (ha : a < 18446744073709551616) (hb : b < 18446744073709551616) (hna : a % 9223372036854775808 ≤ 9218868437227405312) (hnb : b % 9223372036854775808 ≤ 9218868437227405312) (w : World) :
  Calls Tryz.prog 163 #[.agg #[.int .i64 11,.int .i64 52],.int .u64 a,.int .u64 b] w fun r w' => r = .returned (.int .u64 ((((Ieee.double).mul a b).getD 9221120237041090560 : Nat) : Int)) ∧ Below w.heap.size w w' := by
 have h1 := kind_le hna
 have h2 := kind_le hnb
 rcases h1 with h1 | h1 | h1 <;> rcases h2 with h2 | h2 | h2
 ·exact prod_64_fin a b 1 1 ha hb h1 h2 (.inl rfl) (.inl rfl) w
 ·exact prod_64_fin a b 1 2 ha hb h1 h2 (.inl rfl) (.inr rfl) w
 ·exact prod_64_13 a b ha hb h1 h2 w
 ·exact prod_64_fin a b 2 1 ha hb h1 h2 (.inr rfl) (.inl rfl) w
 ·exact prod_64_fin a b 2 2 ha hb h1 h2 (.inr rfl) (.inr rfl) w
 ·exact prod_64_23 a b ha hb h1 h2 w
 ·exact prod_64_31 a b ha hb h1 h2 w
 ·exact prod_64_32 a b ha hb h1 h2 w
 ·exact prod_64_33 a b ha hb h1 h2 w
end Go.Proofs.YtbbmbhcbncenaaaGreatDoor.Fl
