/-
 The contract of the program's quotient, of 64 bits, but for two numbers. Condition: the words are no NaNs.
-/
import Derived.Test.YtffceodbadedjaaQuo
set_option linter.unusedSimpArgs false
set_option linter.unusedVariables false
namespace Go.Proofs.Ytffceodbadedjaa
open Go.RowKit

set_option maxRecDepth 20000 in
set_option maxHeartbeats 6400000 in
theorem quo_64_eq (a b ka kb : Nat) (ha : a < 18446744073709551616) (hb : b < 18446744073709551616) (h1 : kindOf 9218868437227405312 (a % 9223372036854775808) = ka) (h2 : kindOf 9218868437227405312 (b % 9223372036854775808) = kb) (hk : kb = ka ∧ (ka = 1 ∨ ka = 3)) (w : World) :
  Calls Try.prog 64 #[.agg #[.int .i64 11, .int .i64 52], .int .u64 a, .int .u64 b] w fun r w' => r = .returned (.int .u64 ((((Ieee.double).div a b).getD 9221120237041090560 : Nat) : Int)) ∧ Below w.heap.size w w' := by
 have KA := fun w => hid (kind_64 a ha w)
 have KB := fun w => hid (kind_64 b hb w)
 rw [h1] at KA
 rw [h2] at KB
 have hx := xor_top (k := 63) (a := a) (b := b) (by omega) (by omega)
 rw [show (2 : Nat) ^ 63 = 9223372036854775808 by decide] at hx
 obtain ⟨xr, hxr⟩ : ∃ xr : Nat, xr = a ^^^ b := ⟨_, rfl⟩
 have hxb : bits .xor .u64 (a : Int) (b : Int) = (xr : Int) := by rw [hxr]; exact bits_xor_u64_nat a b (by omega) (by omega)
 rw [← hxr] at hx
 have SG := fun w => hid (sign_64 xr hx.2 w)
 obtain ⟨sg, hsg⟩ : ∃ sg : Nat, sg = if 9223372036854775808 ≤ xr then 9223372036854775808 else 0 := ⟨_, rfl⟩
 rw [← hsg] at SG
 have hsb : (decide (9223372036854775808 ≤ a) ^^ decide (9223372036854775808 ≤ b)) = decide (9223372036854775808 ≤ xr) := hx.1.symm
 have hR : ((Ieee.double).div a b).getD 9221120237041090560 = 9221120237041090560 := by
  rw [div_can fmt_double (by omega) (by omega) (by rw [h1, h2]; omega)]; rfl
 rw [hR]
 obtain ⟨RR, hRR⟩ : ∃ RR : Nat, RR = 9221120237041090560 := ⟨_, rfl⟩
 skip
 rw [← hRR]
 subst hRR; clear hsg
 obtain ⟨rfl, hk⟩ := hk
 have t2 : ((kb : Int) != 2) = true := bne_iff_ne.2 (by omega)
 clear hk
 have hS := Sx.new 11 52 w
 clear hR hsb hx hxr h1 h2 ha hb
 obtain ⟨c0, c1⟩ := id hS.1
 go_enter Try.func64, Try.ntmps64
 go_upto_region 2 with (first
  | (go_at_call 36; ((with_reducible refine (SG _).out.mono ?_); rintro e w1 ⟨rfl, hb⟩; replace hS := hS.call hb; clear c0 c1; obtain ⟨c0, c1⟩ := id hS.1)))
 go_cut [18] (fun s18 wx => s18 = .bool true ∧ Sx 11 52 w wx)
 case first =>
  replace hS := hS.drew
  refine wp_region_held_drew (S := Sx 11 52 w) (by kernel_rfl) hS (fun _ => ?_)
  clear c0 c1 hb
  generalize w1.drew = W at *
  refine wpAnyH_take (oi := ⟨_, _, _, _, _, _⟩) (i := 0) (v := .agg #[.int .i64 11, .int .i64 52]) rfl (by kernel_rfl) (by kernel_rfl) (by kernel_rfl) (fun _ _ _ h => h) (Or.inl ⟨by rfl, ?_⟩) (by assumption) ?_
  ·(intro W hSw; obtain ⟨⟨c0, c1⟩, -⟩ := hSw; go_simp; try (with_reducible rfl))
  try simp only [Act.put, sl2, sl0, sl1]
  refine wpAnyH_take (oi := ⟨_, _, _, _, _, _⟩) (i := 1) (v := .int .u64 a) rfl (by kernel_rfl) (by kernel_rfl) (by kernel_rfl) (fun _ _ _ h => h) (Or.inl ⟨by rfl, ?_⟩) (by assumption) ?_
  ·(intro W hSw; obtain ⟨⟨c0, c1⟩, -⟩ := hSw; go_simp; try (with_reducible rfl))
  try simp only [Act.put, sl2, sl0, sl1]
  refine wpAnyH_take (oi := ⟨_, _, _, _, _, _⟩) (i := 3) (v := .agg #[.int .i64 11, .int .i64 52]) rfl (by kernel_rfl) (by kernel_rfl) (by kernel_rfl) (fun _ _ _ h => h) (Or.inl ⟨by rfl, ?_⟩) (by assumption) ?_
  ·(intro W hSw; obtain ⟨⟨c0, c1⟩, -⟩ := hSw; go_simp; try (with_reducible rfl))
  try simp only [Act.put, sl2, sl0, sl1]
  refine wpAnyH_take (oi := ⟨_, _, _, _, _, _⟩) (i := 4) (v := .int .u64 b) rfl (by kernel_rfl) (by kernel_rfl) (by kernel_rfl) (fun _ _ _ h => h) (Or.inl ⟨by rfl, ?_⟩) (by assumption) ?_
  ·(intro W hSw; obtain ⟨⟨c0, c1⟩, -⟩ := hSw; go_simp; try (with_reducible rfl))
  try simp only [Act.put, sl2, sl0, sl1]
  refine wpAnyH_ready (rs := [2]) (by kernel_rfl) (by simp) ?_
  refine AllReadyH.cons (o := ⟨_, _, _, _, _, _⟩) rfl (fun K hK => ?_) ?_
  ·go_simp
   go_at_call 45
   (with_reducible refine (KA _).out.mono ?_)
   rintro e W1 ⟨rfl, hb⟩
   replace hS := hS.call hb
   clear hb
   refine hK.out _ _ hS (fun _ => ?_)
   clear hK K
   try simp only [Act.put, sl2, sl0, sl1]
   refine wpAnyH_ready (rs := [5]) (by kernel_rfl) (by simp) ?_
   refine AllReadyH.cons (o := ⟨_, _, _, _, _, _⟩) rfl (fun K hK => ?_) ?_
   ·go_simp
    go_at_call 45
    (with_reducible refine (KB _).out.mono ?_)
    rintro e W2 ⟨rfl, hb⟩
    replace hS := hS.call hb
    clear hb
    refine hK.out _ _ hS (fun _ => ?_)
    clear hK K
    try simp only [Act.put, sl2, sl0, sl1]
    refine wpAnyH_take (oi := ⟨_, _, _, _, _, _⟩) (i := 6) (v := .bool true) rfl (by kernel_rfl) (by kernel_rfl) (by kernel_rfl) (fun _ _ _ h => h) (Or.inl ⟨by rfl, ?_⟩) (by assumption) ?_
    ·(intro W hSw; obtain ⟨⟨c0, c1⟩, -⟩ := hSw; go_simp; try (with_reducible rfl))
    try simp only [Act.put, sl2, sl0, sl1]
    refine wpAnyH_take (oi := ⟨_, _, _, _, _, _⟩) (i := 7) (v := .bool true) rfl (by kernel_rfl) (by kernel_rfl) (by kernel_rfl) (fun _ _ _ h => h) (Or.inl ⟨by rfl, ?_⟩) (by assumption) ?_
    ·(intro W hSw; obtain ⟨⟨c0, c1⟩, -⟩ := hSw; go_simp; try (with_reducible rfl))
    try simp only [Act.put, sl2, sl0, sl1]
    refine wpAnyH_take (oi := ⟨_, _, _, _, _, _⟩) (i := 8) (v := .agg #[.int .i64 11, .int .i64 52]) rfl (by kernel_rfl) (by kernel_rfl) (by kernel_rfl) (fun _ _ _ h => h) (Or.inl ⟨by rfl, ?_⟩) (by assumption) ?_
    ·(intro W hSw; obtain ⟨⟨c0, c1⟩, -⟩ := hSw; go_simp; try (with_reducible rfl))
    try simp only [Act.put, sl2, sl0, sl1]
    refine wpAnyH_take (oi := ⟨_, _, _, _, _, _⟩) (i := 9) (v := .int .u64 a) rfl (by kernel_rfl) (by kernel_rfl) (by kernel_rfl) (fun _ _ _ h => h) (Or.inl ⟨by rfl, ?_⟩) (by assumption) ?_
    ·(intro W hSw; obtain ⟨⟨c0, c1⟩, -⟩ := hSw; go_simp; try (with_reducible rfl))
    try simp only [Act.put, sl2, sl0, sl1]
    refine wpAnyH_ready (rs := [10]) (by kernel_rfl) (by simp) ?_
    refine AllReadyH.cons (o := ⟨_, _, _, _, _, _⟩) rfl (fun K hK => ?_) ?_
    ·go_simp
     go_at_call 45
     (with_reducible refine (KA _).out.mono ?_)
     rintro e W3 ⟨rfl, hb⟩
     replace hS := hS.call hb
     clear hb
     refine hK.out _ _ hS (fun _ => ?_)
     clear hK K
     try simp only [Act.put, sl2, sl0, sl1]
     refine wpAnyH_take (oi := ⟨_, _, _, _, _, _⟩) (i := 11) (v := .bool true) rfl (by kernel_rfl) (by kernel_rfl) (by kernel_rfl) (fun _ _ _ h => h) (Or.inl ⟨by rfl, ?_⟩) (by assumption) ?_
     ·(intro W hSw; obtain ⟨⟨c0, c1⟩, -⟩ := hSw; go_simp; try (with_reducible rfl))
     try simp only [Act.put, sl2, sl0, sl1]
     refine wpAnyH_take (oi := ⟨_, _, _, _, _, _⟩) (i := 12) (v := .bool true) rfl (by kernel_rfl) (by kernel_rfl) (by kernel_rfl) (fun _ _ _ h => h) (Or.inl ⟨by rfl, ?_⟩) (by assumption) ?_
     ·(intro W hSw; obtain ⟨⟨c0, c1⟩, -⟩ := hSw; go_simp; try (with_reducible rfl))
     try simp only [Act.put, sl2, sl0, sl1]
     refine wpAnyH_take (oi := ⟨_, _, _, _, _, _⟩) (i := 13) (v := .bool true) rfl (by kernel_rfl) (by kernel_rfl) (by kernel_rfl) (fun _ _ _ h => h) (Or.inl ⟨by rfl, ?_⟩) (by assumption) ?_
     ·(intro W hSw; obtain ⟨⟨c0, c1⟩, -⟩ := hSw; go_simp; try (with_reducible rfl))
     try simp only [Act.put, sl2, sl0, sl1]
     refine wpAnyH_done (by kernel_rfl) ?_ _
     (go_wp2_with fail)
     go_meet
     exact ⟨rfl, hS⟩
    exact AllReadyH.nil
   exact AllReadyH.nil
  exact AllReadyH.nil
 case rest =>
  clear hS c0 c1 hb
  obtain ⟨rfl, hS⟩ := hcut
  obtain ⟨c0, c1⟩ := id hS.1
  skip
  go_wp2_with (first
   | (go_at_call 45; ((with_reducible refine (KA _).out.mono ?_); rintro e w1 ⟨rfl, hb⟩; replace hS := hS.call hb; have c0 := hS.1.1; have c1 := hS.1.2))
   | (go_at_call 45; ((with_reducible refine (KB _).out.mono ?_); rintro e w1 ⟨rfl, hb⟩; replace hS := hS.call hb; have c0 := hS.1.1; have c1 := hS.1.2))
   | (go_at_call 46; ((with_reducible refine (canonical_64 _).mono ?_); rintro e w1 ⟨rfl, hb⟩; replace hS := hS.call hb))
   | (go_at_call 59; ((with_reducible refine (infinity_64 _).mono ?_); rintro e w1 ⟨rfl, hb⟩; replace hS := hS.call hb)))
  all_goals
   go_ret
   exact ⟨rfl, hS.2⟩

set_option maxRecDepth 20000 in
set_option maxHeartbeats 6400000 in
theorem quo_64_inf (a b ka kb : Nat) (ha : a < 18446744073709551616) (hb : b < 18446744073709551616) (h1 : kindOf 9218868437227405312 (a % 9223372036854775808) = ka) (h2 : kindOf 9218868437227405312 (b % 9223372036854775808) = kb) (hk : ka ≠ kb ∧ (ka = 3 ∨ (ka ≠ 3 ∧ kb = 1)) ∧ (ka = 1 ∨ ka = 2 ∨ ka = 3) ∧ (kb = 1 ∨ kb = 2 ∨ kb = 3)) (w : World) :
  Calls Try.prog 64 #[.agg #[.int .i64 11, .int .i64 52], .int .u64 a, .int .u64 b] w fun r w' => r = .returned (.int .u64 ((((Ieee.double).div a b).getD 9221120237041090560 : Nat) : Int)) ∧ Below w.heap.size w w' := by
 have KA := fun w => hid (kind_64 a ha w)
 have KB := fun w => hid (kind_64 b hb w)
 rw [h1] at KA
 rw [h2] at KB
 have hx := xor_top (k := 63) (a := a) (b := b) (by omega) (by omega)
 rw [show (2 : Nat) ^ 63 = 9223372036854775808 by decide] at hx
 obtain ⟨xr, hxr⟩ : ∃ xr : Nat, xr = a ^^^ b := ⟨_, rfl⟩
 have hxb : bits .xor .u64 (a : Int) (b : Int) = (xr : Int) := by rw [hxr]; exact bits_xor_u64_nat a b (by omega) (by omega)
 rw [← hxr] at hx
 have SG := fun w => hid (sign_64 xr hx.2 w)
 obtain ⟨sg, hsg⟩ : ∃ sg : Nat, sg = if 9223372036854775808 ≤ xr then 9223372036854775808 else 0 := ⟨_, rfl⟩
 rw [← hsg] at SG
 have hsb : (decide (9223372036854775808 ≤ a) ^^ decide (9223372036854775808 ≤ b)) = decide (9223372036854775808 ≤ xr) := hx.1.symm
 have hR : ((Ieee.double).div a b).getD 9221120237041090560 = (sg + 9218868437227405312) := by
  rw [div_inf fmt_double (by omega) (by omega) (by rw [h1, h2]; omega), hsb, hsg]; unfold Ieee.Format.word; by_cases h : 9223372036854775808 ≤ xr <;> simp [h, show (Ieee.double).signWeight = 9223372036854775808 from rfl]
 rw [hR]
 obtain ⟨RR, hRR⟩ : ∃ RR : Nat, RR = (sg + 9218868437227405312) := ⟨_, rfl⟩
 have hor : bits .or .u64 (sg : Int) 9218868437227405312 = (RR : Int) := by
  have h9 := bits_or_u64_nat sg 9218868437227405312 (by rw [hsg]; split <;> decide) (by decide)
  have h7 : sg ||| 9218868437227405312 = RR := by
   rw [hRR, hsg]
   by_cases h : 9223372036854775808 ≤ xr
   ·rw [if_pos h]; decide
   ·rw [if_neg h]; simp
  rw [h7] at h9
  exact h9
 rw [← hRR]
 clear hRR hsg
 have t0 : ((ka : Int) == (kb : Int)) = false := beq_eq_false_iff_ne.2 (by omega)
 have t1 : (((ka : Int) == 3) = true) ∨ (((ka : Int) == 3) = false ∧ ((kb : Int) == 1) = true) := by
  rcases hk.2.1 with h | ⟨h, h'⟩
  ·exact .inl (by rw [h]; rfl)
  ·exact .inr ⟨beq_eq_false_iff_ne.2 (by omega), by rw [h']; rfl⟩
 clear hk
 have hS := Sx.new 11 52 w
 clear hR hsb hx hxr h1 h2 ha hb
 obtain ⟨c0, c1⟩ := id hS.1
 go_enter Try.func64, Try.ntmps64
 go_upto_region 2 with (first
  | (go_at_call 36; ((with_reducible refine (SG _).out.mono ?_); rintro e w1 ⟨rfl, hb⟩; replace hS := hS.call hb; clear c0 c1; obtain ⟨c0, c1⟩ := id hS.1)))
 go_cut [18] (fun s18 wx => s18 = .bool false ∧ Sx 11 52 w wx)
 case first =>
  replace hS := hS.drew
  refine wp_region_held_drew (S := Sx 11 52 w) (by kernel_rfl) hS (fun _ => ?_)
  clear c0 c1 hb
  generalize w1.drew = W at *
  refine wpAnyH_take (oi := ⟨_, _, _, _, _, _⟩) (i := 0) (v := .agg #[.int .i64 11, .int .i64 52]) rfl (by kernel_rfl) (by kernel_rfl) (by kernel_rfl) (fun _ _ _ h => h) (Or.inl ⟨by rfl, ?_⟩) (by assumption) ?_
  ·(intro W hSw; obtain ⟨⟨c0, c1⟩, -⟩ := hSw; go_simp; try (with_reducible rfl))
  try simp only [Act.put, sl2, sl0, sl1]
  refine wpAnyH_take (oi := ⟨_, _, _, _, _, _⟩) (i := 1) (v := .int .u64 a) rfl (by kernel_rfl) (by kernel_rfl) (by kernel_rfl) (fun _ _ _ h => h) (Or.inl ⟨by rfl, ?_⟩) (by assumption) ?_
  ·(intro W hSw; obtain ⟨⟨c0, c1⟩, -⟩ := hSw; go_simp; try (with_reducible rfl))
  try simp only [Act.put, sl2, sl0, sl1]
  refine wpAnyH_take (oi := ⟨_, _, _, _, _, _⟩) (i := 3) (v := .agg #[.int .i64 11, .int .i64 52]) rfl (by kernel_rfl) (by kernel_rfl) (by kernel_rfl) (fun _ _ _ h => h) (Or.inl ⟨by rfl, ?_⟩) (by assumption) ?_
  ·(intro W hSw; obtain ⟨⟨c0, c1⟩, -⟩ := hSw; go_simp; try (with_reducible rfl))
  try simp only [Act.put, sl2, sl0, sl1]
  refine wpAnyH_take (oi := ⟨_, _, _, _, _, _⟩) (i := 4) (v := .int .u64 b) rfl (by kernel_rfl) (by kernel_rfl) (by kernel_rfl) (fun _ _ _ h => h) (Or.inl ⟨by rfl, ?_⟩) (by assumption) ?_
  ·(intro W hSw; obtain ⟨⟨c0, c1⟩, -⟩ := hSw; go_simp; try (with_reducible rfl))
  try simp only [Act.put, sl2, sl0, sl1]
  refine wpAnyH_ready (rs := [2]) (by kernel_rfl) (by simp) ?_
  refine AllReadyH.cons (o := ⟨_, _, _, _, _, _⟩) rfl (fun K hK => ?_) ?_
  ·go_simp
   go_at_call 45
   (with_reducible refine (KA _).out.mono ?_)
   rintro e W1 ⟨rfl, hb⟩
   replace hS := hS.call hb
   clear hb
   refine hK.out _ _ hS (fun _ => ?_)
   clear hK K
   try simp only [Act.put, sl2, sl0, sl1]
   refine wpAnyH_ready (rs := [5]) (by kernel_rfl) (by simp) ?_
   refine AllReadyH.cons (o := ⟨_, _, _, _, _, _⟩) rfl (fun K hK => ?_) ?_
   ·go_simp
    go_at_call 45
    (with_reducible refine (KB _).out.mono ?_)
    rintro e W2 ⟨rfl, hb⟩
    replace hS := hS.call hb
    clear hb
    refine hK.out _ _ hS (fun _ => ?_)
    clear hK K
    try simp only [Act.put, sl2, sl0, sl1]
    refine wpAnyH_take (oi := ⟨_, _, _, _, _, _⟩) (i := 6) (v := .bool false) rfl (by kernel_rfl) (by kernel_rfl) (by kernel_rfl) (fun _ _ _ h => h) (Or.inl ⟨by rfl, ?_⟩) (by assumption) ?_
    ·(intro W hSw; obtain ⟨⟨c0, c1⟩, -⟩ := hSw; go_simp; try (with_reducible rfl))
    try simp only [Act.put, sl2, sl0, sl1]
    refine wpAnyH_take (oi := ⟨_, _, _, _, _, _⟩) (i := 7) (v := .bool false) rfl (by kernel_rfl) (by kernel_rfl) (by kernel_rfl) (fun _ _ _ h => h) (Or.inl ⟨by rfl, ?_⟩) (by assumption) ?_
    ·(intro W hSw; obtain ⟨⟨c0, c1⟩, -⟩ := hSw; go_simp; try (with_reducible rfl))
    try simp only [Act.put, sl2, sl0, sl1]
    refine wpAnyH_take (oi := ⟨_, _, _, _, _, _⟩) (i := 8) (v := undef) rfl (by kernel_rfl) (by kernel_rfl) (by kernel_rfl) (fun _ _ _ h => h) (Or.inr ⟨by rfl, rfl⟩) (by assumption) ?_
    try simp only [Act.put, sl2, sl0, sl1]
    refine wpAnyH_take (oi := ⟨_, _, _, _, _, _⟩) (i := 9) (v := undef) rfl (by kernel_rfl) (by kernel_rfl) (by kernel_rfl) (fun _ _ _ h => h) (Or.inr ⟨by rfl, rfl⟩) (by assumption) ?_
    try simp only [Act.put, sl2, sl0, sl1]
    refine wpAnyH_take (oi := ⟨_, _, _, _, _, _⟩) (i := 10) (v := undef) rfl (by kernel_rfl) (by kernel_rfl) (by kernel_rfl) (fun _ _ _ h => h) (Or.inr ⟨by rfl, rfl⟩) (by assumption) ?_
    try simp only [Act.put, sl2, sl0, sl1]
    refine wpAnyH_take (oi := ⟨_, _, _, _, _, _⟩) (i := 11) (v := undef) rfl (by kernel_rfl) (by kernel_rfl) (by kernel_rfl) (fun _ _ _ h => h) (Or.inr ⟨by rfl, rfl⟩) (by assumption) ?_
    try simp only [Act.put, sl2, sl0, sl1]
    refine wpAnyH_take (oi := ⟨_, _, _, _, _, _⟩) (i := 12) (v := .bool false) rfl (by kernel_rfl) (by kernel_rfl) (by kernel_rfl) (fun _ _ _ h => h) (Or.inl ⟨by rfl, ?_⟩) (by assumption) ?_
    ·(intro W hSw; obtain ⟨⟨c0, c1⟩, -⟩ := hSw; go_simp; try (with_reducible rfl))
    try simp only [Act.put, sl2, sl0, sl1]
    refine wpAnyH_take (oi := ⟨_, _, _, _, _, _⟩) (i := 13) (v := .bool false) rfl (by kernel_rfl) (by kernel_rfl) (by kernel_rfl) (fun _ _ _ h => h) (Or.inl ⟨by rfl, ?_⟩) (by assumption) ?_
    ·(intro W hSw; obtain ⟨⟨c0, c1⟩, -⟩ := hSw; go_simp; try (with_reducible rfl))
    try simp only [Act.put, sl2, sl0, sl1]
    refine wpAnyH_done (by kernel_rfl) ?_ _
    (go_wp2_with fail)
    go_meet
    exact ⟨rfl, hS⟩
   exact AllReadyH.nil
  exact AllReadyH.nil
 case rest =>
  clear hS c0 c1 hb
  obtain ⟨rfl, hS⟩ := hcut
  obtain ⟨c0, c1⟩ := id hS.1
  rcases t1 with t1 | ⟨t1, t2⟩
  all_goals
   go_wp2_with (first
    | (go_at_call 45; ((with_reducible refine (KA _).out.mono ?_); rintro e w1 ⟨rfl, hb⟩; replace hS := hS.call hb; have c0 := hS.1.1; have c1 := hS.1.2))
    | (go_at_call 45; ((with_reducible refine (KB _).out.mono ?_); rintro e w1 ⟨rfl, hb⟩; replace hS := hS.call hb; have c0 := hS.1.1; have c1 := hS.1.2))
    | (go_at_call 46; ((with_reducible refine (canonical_64 _).mono ?_); rintro e w1 ⟨rfl, hb⟩; replace hS := hS.call hb))
    | (go_at_call 59; ((with_reducible refine (infinity_64 _).mono ?_); rintro e w1 ⟨rfl, hb⟩; replace hS := hS.call hb)))
   all_goals
    go_ret
    exact ⟨rfl, hS.2⟩

set_option maxRecDepth 20000 in
set_option maxHeartbeats 6400000 in
theorem quo_64_zero (a b ka kb : Nat) (ha : a < 18446744073709551616) (hb : b < 18446744073709551616) (h1 : kindOf 9218868437227405312 (a % 9223372036854775808) = ka) (h2 : kindOf 9218868437227405312 (b % 9223372036854775808) = kb) (hk : ka ≠ kb ∧ ka ≠ 3 ∧ kb ≠ 1 ∧ (ka = 1 ∨ (ka ≠ 1 ∧ kb = 3)) ∧ (ka = 1 ∨ ka = 2 ∨ ka = 3) ∧ (kb = 1 ∨ kb = 2 ∨ kb = 3)) (w : World) :
  Calls Try.prog 64 #[.agg #[.int .i64 11, .int .i64 52], .int .u64 a, .int .u64 b] w fun r w' => r = .returned (.int .u64 ((((Ieee.double).div a b).getD 9221120237041090560 : Nat) : Int)) ∧ Below w.heap.size w w' := by
 have KA := fun w => hid (kind_64 a ha w)
 have KB := fun w => hid (kind_64 b hb w)
 rw [h1] at KA
 rw [h2] at KB
 have hx := xor_top (k := 63) (a := a) (b := b) (by omega) (by omega)
 rw [show (2 : Nat) ^ 63 = 9223372036854775808 by decide] at hx
 obtain ⟨xr, hxr⟩ : ∃ xr : Nat, xr = a ^^^ b := ⟨_, rfl⟩
 have hxb : bits .xor .u64 (a : Int) (b : Int) = (xr : Int) := by rw [hxr]; exact bits_xor_u64_nat a b (by omega) (by omega)
 rw [← hxr] at hx
 have SG := fun w => hid (sign_64 xr hx.2 w)
 obtain ⟨sg, hsg⟩ : ∃ sg : Nat, sg = if 9223372036854775808 ≤ xr then 9223372036854775808 else 0 := ⟨_, rfl⟩
 rw [← hsg] at SG
 have hsb : (decide (9223372036854775808 ≤ a) ^^ decide (9223372036854775808 ≤ b)) = decide (9223372036854775808 ≤ xr) := hx.1.symm
 have hR : ((Ieee.double).div a b).getD 9221120237041090560 = sg := by
  rw [div_zero fmt_double (by omega) (by omega) (by rw [h1, h2]; omega), hsb, hsg]; unfold Ieee.Format.word; by_cases h : 9223372036854775808 ≤ xr <;> simp [h, show (Ieee.double).signWeight = 9223372036854775808 from rfl]
 rw [hR]
 obtain ⟨RR, hRR⟩ : ∃ RR : Nat, RR = sg := ⟨_, rfl⟩
 skip
 rw [← hRR]
 subst hRR; clear hsg
 have t0 : ((ka : Int) == (kb : Int)) = false := beq_eq_false_iff_ne.2 (by omega)
 have t3 : ((ka : Int) == 3) = false := beq_eq_false_iff_ne.2 (by omega)
 have t4 : ((kb : Int) == 1) = false := beq_eq_false_iff_ne.2 (by omega)
 have t1 : (((ka : Int) == 1) = true) ∨ (((ka : Int) == 1) = false ∧ ((kb : Int) == 3) = true) := by
  rcases hk.2.2.2.1 with h | ⟨h, h'⟩
  ·exact .inl (by rw [h]; rfl)
  ·exact .inr ⟨beq_eq_false_iff_ne.2 (by omega), by rw [h']; rfl⟩
 clear hk
 have hS := Sx.new 11 52 w
 clear hR hsb hx hxr h1 h2 ha hb
 obtain ⟨c0, c1⟩ := id hS.1
 go_enter Try.func64, Try.ntmps64
 go_upto_region 2 with (first
  | (go_at_call 36; ((with_reducible refine (SG _).out.mono ?_); rintro e w1 ⟨rfl, hb⟩; replace hS := hS.call hb; clear c0 c1; obtain ⟨c0, c1⟩ := id hS.1)))
 go_cut [18] (fun s18 wx => s18 = .bool false ∧ Sx 11 52 w wx)
 case first =>
  replace hS := hS.drew
  refine wp_region_held_drew (S := Sx 11 52 w) (by kernel_rfl) hS (fun _ => ?_)
  clear c0 c1 hb
  generalize w1.drew = W at *
  refine wpAnyH_take (oi := ⟨_, _, _, _, _, _⟩) (i := 0) (v := .agg #[.int .i64 11, .int .i64 52]) rfl (by kernel_rfl) (by kernel_rfl) (by kernel_rfl) (fun _ _ _ h => h) (Or.inl ⟨by rfl, ?_⟩) (by assumption) ?_
  ·(intro W hSw; obtain ⟨⟨c0, c1⟩, -⟩ := hSw; go_simp; try (with_reducible rfl))
  try simp only [Act.put, sl2, sl0, sl1]
  refine wpAnyH_take (oi := ⟨_, _, _, _, _, _⟩) (i := 1) (v := .int .u64 a) rfl (by kernel_rfl) (by kernel_rfl) (by kernel_rfl) (fun _ _ _ h => h) (Or.inl ⟨by rfl, ?_⟩) (by assumption) ?_
  ·(intro W hSw; obtain ⟨⟨c0, c1⟩, -⟩ := hSw; go_simp; try (with_reducible rfl))
  try simp only [Act.put, sl2, sl0, sl1]
  refine wpAnyH_take (oi := ⟨_, _, _, _, _, _⟩) (i := 3) (v := .agg #[.int .i64 11, .int .i64 52]) rfl (by kernel_rfl) (by kernel_rfl) (by kernel_rfl) (fun _ _ _ h => h) (Or.inl ⟨by rfl, ?_⟩) (by assumption) ?_
  ·(intro W hSw; obtain ⟨⟨c0, c1⟩, -⟩ := hSw; go_simp; try (with_reducible rfl))
  try simp only [Act.put, sl2, sl0, sl1]
  refine wpAnyH_take (oi := ⟨_, _, _, _, _, _⟩) (i := 4) (v := .int .u64 b) rfl (by kernel_rfl) (by kernel_rfl) (by kernel_rfl) (fun _ _ _ h => h) (Or.inl ⟨by rfl, ?_⟩) (by assumption) ?_
  ·(intro W hSw; obtain ⟨⟨c0, c1⟩, -⟩ := hSw; go_simp; try (with_reducible rfl))
  try simp only [Act.put, sl2, sl0, sl1]
  refine wpAnyH_ready (rs := [2]) (by kernel_rfl) (by simp) ?_
  refine AllReadyH.cons (o := ⟨_, _, _, _, _, _⟩) rfl (fun K hK => ?_) ?_
  ·go_simp
   go_at_call 45
   (with_reducible refine (KA _).out.mono ?_)
   rintro e W1 ⟨rfl, hb⟩
   replace hS := hS.call hb
   clear hb
   refine hK.out _ _ hS (fun _ => ?_)
   clear hK K
   try simp only [Act.put, sl2, sl0, sl1]
   refine wpAnyH_ready (rs := [5]) (by kernel_rfl) (by simp) ?_
   refine AllReadyH.cons (o := ⟨_, _, _, _, _, _⟩) rfl (fun K hK => ?_) ?_
   ·go_simp
    go_at_call 45
    (with_reducible refine (KB _).out.mono ?_)
    rintro e W2 ⟨rfl, hb⟩
    replace hS := hS.call hb
    clear hb
    refine hK.out _ _ hS (fun _ => ?_)
    clear hK K
    try simp only [Act.put, sl2, sl0, sl1]
    refine wpAnyH_take (oi := ⟨_, _, _, _, _, _⟩) (i := 6) (v := .bool false) rfl (by kernel_rfl) (by kernel_rfl) (by kernel_rfl) (fun _ _ _ h => h) (Or.inl ⟨by rfl, ?_⟩) (by assumption) ?_
    ·(intro W hSw; obtain ⟨⟨c0, c1⟩, -⟩ := hSw; go_simp; try (with_reducible rfl))
    try simp only [Act.put, sl2, sl0, sl1]
    refine wpAnyH_take (oi := ⟨_, _, _, _, _, _⟩) (i := 7) (v := .bool false) rfl (by kernel_rfl) (by kernel_rfl) (by kernel_rfl) (fun _ _ _ h => h) (Or.inl ⟨by rfl, ?_⟩) (by assumption) ?_
    ·(intro W hSw; obtain ⟨⟨c0, c1⟩, -⟩ := hSw; go_simp; try (with_reducible rfl))
    try simp only [Act.put, sl2, sl0, sl1]
    refine wpAnyH_take (oi := ⟨_, _, _, _, _, _⟩) (i := 8) (v := undef) rfl (by kernel_rfl) (by kernel_rfl) (by kernel_rfl) (fun _ _ _ h => h) (Or.inr ⟨by rfl, rfl⟩) (by assumption) ?_
    try simp only [Act.put, sl2, sl0, sl1]
    refine wpAnyH_take (oi := ⟨_, _, _, _, _, _⟩) (i := 9) (v := undef) rfl (by kernel_rfl) (by kernel_rfl) (by kernel_rfl) (fun _ _ _ h => h) (Or.inr ⟨by rfl, rfl⟩) (by assumption) ?_
    try simp only [Act.put, sl2, sl0, sl1]
    refine wpAnyH_take (oi := ⟨_, _, _, _, _, _⟩) (i := 10) (v := undef) rfl (by kernel_rfl) (by kernel_rfl) (by kernel_rfl) (fun _ _ _ h => h) (Or.inr ⟨by rfl, rfl⟩) (by assumption) ?_
    try simp only [Act.put, sl2, sl0, sl1]
    refine wpAnyH_take (oi := ⟨_, _, _, _, _, _⟩) (i := 11) (v := undef) rfl (by kernel_rfl) (by kernel_rfl) (by kernel_rfl) (fun _ _ _ h => h) (Or.inr ⟨by rfl, rfl⟩) (by assumption) ?_
    try simp only [Act.put, sl2, sl0, sl1]
    refine wpAnyH_take (oi := ⟨_, _, _, _, _, _⟩) (i := 12) (v := .bool false) rfl (by kernel_rfl) (by kernel_rfl) (by kernel_rfl) (fun _ _ _ h => h) (Or.inl ⟨by rfl, ?_⟩) (by assumption) ?_
    ·(intro W hSw; obtain ⟨⟨c0, c1⟩, -⟩ := hSw; go_simp; try (with_reducible rfl))
    try simp only [Act.put, sl2, sl0, sl1]
    refine wpAnyH_take (oi := ⟨_, _, _, _, _, _⟩) (i := 13) (v := .bool false) rfl (by kernel_rfl) (by kernel_rfl) (by kernel_rfl) (fun _ _ _ h => h) (Or.inl ⟨by rfl, ?_⟩) (by assumption) ?_
    ·(intro W hSw; obtain ⟨⟨c0, c1⟩, -⟩ := hSw; go_simp; try (with_reducible rfl))
    try simp only [Act.put, sl2, sl0, sl1]
    refine wpAnyH_done (by kernel_rfl) ?_ _
    (go_wp2_with fail)
    go_meet
    exact ⟨rfl, hS⟩
   exact AllReadyH.nil
  exact AllReadyH.nil
 case rest =>
  clear hS c0 c1 hb
  obtain ⟨rfl, hS⟩ := hcut
  obtain ⟨c0, c1⟩ := id hS.1
  rcases t1 with t1 | ⟨t1, t2⟩
  all_goals
   go_wp2_with (first
    | (go_at_call 45; ((with_reducible refine (KA _).out.mono ?_); rintro e w1 ⟨rfl, hb⟩; replace hS := hS.call hb; have c0 := hS.1.1; have c1 := hS.1.2))
    | (go_at_call 45; ((with_reducible refine (KB _).out.mono ?_); rintro e w1 ⟨rfl, hb⟩; replace hS := hS.call hb; have c0 := hS.1.1; have c1 := hS.1.2))
    | (go_at_call 46; ((with_reducible refine (canonical_64 _).mono ?_); rintro e w1 ⟨rfl, hb⟩; replace hS := hS.call hb))
    | (go_at_call 59; ((with_reducible refine (infinity_64 _).mono ?_); rintro e w1 ⟨rfl, hb⟩; replace hS := hS.call hb)))
   all_goals
    go_ret
    exact ⟨rfl, hS.2⟩

end Go.Proofs.Ytffceodbadedjaa
