/-
  FProd: merged, what the law does not reach left out (each text says what it holds where it lies in wip). No condition.
-/
import Derived.Test.YtbbmbhcbncenaaaGreatDoorG17
import Derived.Test.YtbbmbhcbncenaaaGreatDoorG01
set_option linter.unusedSimpArgs false
set_option linter.unusedVariables false
set_option maxRecDepth 100000
namespace Go.Proofs.YtbbmbhcbncenaaaGreatDoor.Fl
open Go.RowKit
set_option maxRecDepth 20000 in
set_option maxHeartbeats 6400000 in
theorem prod_32_13 (a b : Nat) (ha : a < 4294967296) (hb : b < 4294967296) (h1 : kindOf 2139095040 (a % 2147483648) = 1) (h2 : kindOf 2139095040 (b % 2147483648) = 3) (w : World) :
  Calls Tryz.prog 163 #[.agg #[.int .i64 8,.int .i64 23],.int .u64 a,.int .u64 b] w fun r w' => r = .returned (.int .u64 ((((Ieee.single).mul a b).getD 2143289344 : Nat) : Int)) ∧ Below w.heap.size w w' := by
 have KA := fun w => hid (kind_32 a ha w)
 have KB := fun w => hid (kind_32 b hb w)
 rw [h1] at KA
 rw [h2] at KB
 have hx := xor_top (k := 31) (a := a) (b := b) (by omega) (by omega)
 rw [show (2 : Nat) ^ 31 = 2147483648 by decide] at hx
 obtain ⟨xr,hxr⟩ : ∃ xr : Nat,xr = a ^^^ b := ⟨_,rfl⟩
 have hxb : bits .xor .u64 (a : Int) (b : Int) = (xr : Int) := by rw [hxr]; exact bits_xor_u64_nat a b (by omega) (by omega)
 rw [← hxr] at hx
 have SG := fun w => hid (sign_32 xr hx.2 w)
 obtain ⟨sg,hsg⟩ : ∃ sg : Nat,sg = if 2147483648 ≤ xr then 2147483648 else 0 := ⟨_,rfl⟩
 rw [← hsg] at SG
 have hsb : (decide (2147483648 ≤ a) ^^ decide (2147483648 ≤ b)) = decide (2147483648 ≤ xr) := hx.1.symm
 have hR : ((Ieee.single).mul a b).getD 2143289344 = 2143289344 := by
  rw [mul_can fmt_single (by omega) (by omega) (by simp [h1,h2])]; rfl
 rw [hR]
 obtain ⟨RR,hRR⟩ : ∃ RR : Nat,RR = 2143289344 := ⟨_,rfl⟩
 skip
 rw [← hRR]
 subst hRR; clear hsg
 have hS := Sx.new 8 23 w
 clear hR hsb hx hxr h1 h2 ha hb
 obtain ⟨c0,c1⟩ := id hS.1
 go_enter Tryz.func163,Tryz.ntmps163
 go_wp2_with (first
  | (go_at_call 135; ((with_reducible refine (SG _).out.mono ?_); rintro e w1 ⟨rfl,hb⟩; replace hS := hS.call hb; clear c0 c1; obtain ⟨c0,c1⟩ := id hS.1))
  | (go_at_call 157; ((with_reducible refine (KA _).out.mono ?_); rintro e w1 ⟨rfl,hb⟩; replace hS := hS.call hb; clear c0 c1; obtain ⟨c0,c1⟩ := id hS.1))
  | (go_at_call 157; ((with_reducible refine (KB _).out.mono ?_); rintro e w1 ⟨rfl,hb⟩; replace hS := hS.call hb; clear c0 c1; obtain ⟨c0,c1⟩ := id hS.1))
  | (go_at_call 158; ((with_reducible refine (canonical_32 _).mono ?_); rintro e w1 ⟨rfl,hb⟩; replace hS := hS.call hb))
  | (go_at_call 174; ((with_reducible refine (infinity_32 _).mono ?_); rintro e w1 ⟨rfl,hb⟩; replace hS := hS.call hb)))
 go_ret
 exact ⟨rfl,hS.2⟩
set_option maxRecDepth 20000 in
set_option maxHeartbeats 6400000 in
theorem prod_32_31 (a b : Nat) (ha : a < 4294967296) (hb : b < 4294967296) (h1 : kindOf 2139095040 (a % 2147483648) = 3) (h2 : kindOf 2139095040 (b % 2147483648) = 1) (w : World) :
  Calls Tryz.prog 163 #[.agg #[.int .i64 8,.int .i64 23],.int .u64 a,.int .u64 b] w fun r w' => r = .returned (.int .u64 ((((Ieee.single).mul a b).getD 2143289344 : Nat) : Int)) ∧ Below w.heap.size w w' := by
 have KA := fun w => hid (kind_32 a ha w)
 have KB := fun w => hid (kind_32 b hb w)
 rw [h1] at KA
 rw [h2] at KB
 have hx := xor_top (k := 31) (a := a) (b := b) (by omega) (by omega)
 rw [show (2 : Nat) ^ 31 = 2147483648 by decide] at hx
 obtain ⟨xr,hxr⟩ : ∃ xr : Nat,xr = a ^^^ b := ⟨_,rfl⟩
 have hxb : bits .xor .u64 (a : Int) (b : Int) = (xr : Int) := by rw [hxr]; exact bits_xor_u64_nat a b (by omega) (by omega)
 rw [← hxr] at hx
 have SG := fun w => hid (sign_32 xr hx.2 w)
 obtain ⟨sg,hsg⟩ : ∃ sg : Nat,sg = if 2147483648 ≤ xr then 2147483648 else 0 := ⟨_,rfl⟩
 rw [← hsg] at SG
 have hsb : (decide (2147483648 ≤ a) ^^ decide (2147483648 ≤ b)) = decide (2147483648 ≤ xr) := hx.1.symm
 have hR : ((Ieee.single).mul a b).getD 2143289344 = 2143289344 := by
  rw [mul_can fmt_single (by omega) (by omega) (by simp [h1,h2])]; rfl
 rw [hR]
 obtain ⟨RR,hRR⟩ : ∃ RR : Nat,RR = 2143289344 := ⟨_,rfl⟩
 skip
 rw [← hRR]
 subst hRR; clear hsg
 have hS := Sx.new 8 23 w
 clear hR hsb hx hxr h1 h2 ha hb
 obtain ⟨c0,c1⟩ := id hS.1
 go_enter Tryz.func163,Tryz.ntmps163
 go_wp2_with (first
  | (go_at_call 135; ((with_reducible refine (SG _).out.mono ?_); rintro e w1 ⟨rfl,hb⟩; replace hS := hS.call hb; clear c0 c1; obtain ⟨c0,c1⟩ := id hS.1))
  | (go_at_call 157; ((with_reducible refine (KA _).out.mono ?_); rintro e w1 ⟨rfl,hb⟩; replace hS := hS.call hb; clear c0 c1; obtain ⟨c0,c1⟩ := id hS.1))
  | (go_at_call 157; ((with_reducible refine (KB _).out.mono ?_); rintro e w1 ⟨rfl,hb⟩; replace hS := hS.call hb; clear c0 c1; obtain ⟨c0,c1⟩ := id hS.1))
  | (go_at_call 158; ((with_reducible refine (canonical_32 _).mono ?_); rintro e w1 ⟨rfl,hb⟩; replace hS := hS.call hb))
  | (go_at_call 174; ((with_reducible refine (infinity_32 _).mono ?_); rintro e w1 ⟨rfl,hb⟩; replace hS := hS.call hb)))
 go_ret
 exact ⟨rfl,hS.2⟩
set_option maxRecDepth 20000 in
set_option maxHeartbeats 6400000 in
theorem prod_32_33 (a b : Nat) (ha : a < 4294967296) (hb : b < 4294967296) (h1 : kindOf 2139095040 (a % 2147483648) = 3) (h2 : kindOf 2139095040 (b % 2147483648) = 3) (w : World) :
  Calls Tryz.prog 163 #[.agg #[.int .i64 8,.int .i64 23],.int .u64 a,.int .u64 b] w fun r w' => r = .returned (.int .u64 ((((Ieee.single).mul a b).getD 2143289344 : Nat) : Int)) ∧ Below w.heap.size w w' := by
 have KA := fun w => hid (kind_32 a ha w)
 have KB := fun w => hid (kind_32 b hb w)
 rw [h1] at KA
 rw [h2] at KB
 have hx := xor_top (k := 31) (a := a) (b := b) (by omega) (by omega)
 rw [show (2 : Nat) ^ 31 = 2147483648 by decide] at hx
 obtain ⟨xr,hxr⟩ : ∃ xr : Nat,xr = a ^^^ b := ⟨_,rfl⟩
 have hxb : bits .xor .u64 (a : Int) (b : Int) = (xr : Int) := by rw [hxr]; exact bits_xor_u64_nat a b (by omega) (by omega)
 rw [← hxr] at hx
 have SG := fun w => hid (sign_32 xr hx.2 w)
 obtain ⟨sg,hsg⟩ : ∃ sg : Nat,sg = if 2147483648 ≤ xr then 2147483648 else 0 := ⟨_,rfl⟩
 rw [← hsg] at SG
 have hsb : (decide (2147483648 ≤ a) ^^ decide (2147483648 ≤ b)) = decide (2147483648 ≤ xr) := hx.1.symm
 have hR : ((Ieee.single).mul a b).getD 2143289344 = (sg + 2139095040) := by
  rw [mul_inf fmt_single (by omega) (by omega) (by simp [h1,h2]),hsb,hsg]; unfold Ieee.Format.word; by_cases h : 2147483648 ≤ xr <;> simp [h,show (Ieee.single).signWeight = 2147483648 from rfl]
 rw [hR]
 obtain ⟨RR,hRR⟩ : ∃ RR : Nat,RR = (sg + 2139095040) := ⟨_,rfl⟩
 have hor : bits .or .u64 (sg : Int) 2139095040 = (RR : Int) := by
  have h9 := bits_or_u64_nat sg 2139095040 (by rw [hsg]; split <;> decide) (by decide)
  have h7 : sg ||| 2139095040 = RR := by
   rw [hRR,hsg]
   by_cases h : 2147483648 ≤ xr
   ·rw [if_pos h]; decide
   ·rw [if_neg h]; simp
  rw [h7] at h9
  exact h9
 rw [← hRR]
 clear hRR hsg
 have hS := Sx.new 8 23 w
 clear hR hsb hx hxr h1 h2 ha hb
 obtain ⟨c0,c1⟩ := id hS.1
 go_enter Tryz.func163,Tryz.ntmps163
 go_wp2_with (first
  | (go_at_call 135; ((with_reducible refine (SG _).out.mono ?_); rintro e w1 ⟨rfl,hb⟩; replace hS := hS.call hb; clear c0 c1; obtain ⟨c0,c1⟩ := id hS.1))
  | (go_at_call 157; ((with_reducible refine (KA _).out.mono ?_); rintro e w1 ⟨rfl,hb⟩; replace hS := hS.call hb; clear c0 c1; obtain ⟨c0,c1⟩ := id hS.1))
  | (go_at_call 157; ((with_reducible refine (KB _).out.mono ?_); rintro e w1 ⟨rfl,hb⟩; replace hS := hS.call hb; clear c0 c1; obtain ⟨c0,c1⟩ := id hS.1))
  | (go_at_call 158; ((with_reducible refine (canonical_32 _).mono ?_); rintro e w1 ⟨rfl,hb⟩; replace hS := hS.call hb))
  | (go_at_call 174; ((with_reducible refine (infinity_32 _).mono ?_); rintro e w1 ⟨rfl,hb⟩; replace hS := hS.call hb)))
 go_ret
 exact ⟨rfl,hS.2⟩
set_option maxRecDepth 20000 in
set_option maxHeartbeats 6400000 in
theorem prod_32_32 (a b : Nat) (ha : a < 4294967296) (hb : b < 4294967296) (h1 : kindOf 2139095040 (a % 2147483648) = 3) (h2 : kindOf 2139095040 (b % 2147483648) = 2) (w : World) :
  Calls Tryz.prog 163 #[.agg #[.int .i64 8,.int .i64 23],.int .u64 a,.int .u64 b] w fun r w' => r = .returned (.int .u64 ((((Ieee.single).mul a b).getD 2143289344 : Nat) : Int)) ∧ Below w.heap.size w w' := by
 have KA := fun w => hid (kind_32 a ha w)
 have KB := fun w => hid (kind_32 b hb w)
 rw [h1] at KA
 rw [h2] at KB
 have hx := xor_top (k := 31) (a := a) (b := b) (by omega) (by omega)
 rw [show (2 : Nat) ^ 31 = 2147483648 by decide] at hx
 obtain ⟨xr,hxr⟩ : ∃ xr : Nat,xr = a ^^^ b := ⟨_,rfl⟩
 have hxb : bits .xor .u64 (a : Int) (b : Int) = (xr : Int) := by rw [hxr]; exact bits_xor_u64_nat a b (by omega) (by omega)
 rw [← hxr] at hx
 have SG := fun w => hid (sign_32 xr hx.2 w)
 obtain ⟨sg,hsg⟩ : ∃ sg : Nat,sg = if 2147483648 ≤ xr then 2147483648 else 0 := ⟨_,rfl⟩
 rw [← hsg] at SG
 have hsb : (decide (2147483648 ≤ a) ^^ decide (2147483648 ≤ b)) = decide (2147483648 ≤ xr) := hx.1.symm
 have hR : ((Ieee.single).mul a b).getD 2143289344 = (sg + 2139095040) := by
  rw [mul_inf fmt_single (by omega) (by omega) (by simp [h1,h2]),hsb,hsg]; unfold Ieee.Format.word; by_cases h : 2147483648 ≤ xr <;> simp [h,show (Ieee.single).signWeight = 2147483648 from rfl]
 rw [hR]
 obtain ⟨RR,hRR⟩ : ∃ RR : Nat,RR = (sg + 2139095040) := ⟨_,rfl⟩
 have hor : bits .or .u64 (sg : Int) 2139095040 = (RR : Int) := by
  have h9 := bits_or_u64_nat sg 2139095040 (by rw [hsg]; split <;> decide) (by decide)
  have h7 : sg ||| 2139095040 = RR := by
   rw [hRR,hsg]
   by_cases h : 2147483648 ≤ xr
   ·rw [if_pos h]; decide
   ·rw [if_neg h]; simp
  rw [h7] at h9
  exact h9
 rw [← hRR]
 clear hRR hsg
 have hS := Sx.new 8 23 w
 clear hR hsb hx hxr h1 h2 ha hb
 obtain ⟨c0,c1⟩ := id hS.1
 go_enter Tryz.func163,Tryz.ntmps163
 go_wp2_with (first
  | (go_at_call 135; ((with_reducible refine (SG _).out.mono ?_); rintro e w1 ⟨rfl,hb⟩; replace hS := hS.call hb; clear c0 c1; obtain ⟨c0,c1⟩ := id hS.1))
  | (go_at_call 157; ((with_reducible refine (KA _).out.mono ?_); rintro e w1 ⟨rfl,hb⟩; replace hS := hS.call hb; clear c0 c1; obtain ⟨c0,c1⟩ := id hS.1))
  | (go_at_call 157; ((with_reducible refine (KB _).out.mono ?_); rintro e w1 ⟨rfl,hb⟩; replace hS := hS.call hb; clear c0 c1; obtain ⟨c0,c1⟩ := id hS.1))
  | (go_at_call 158; ((with_reducible refine (canonical_32 _).mono ?_); rintro e w1 ⟨rfl,hb⟩; replace hS := hS.call hb))
  | (go_at_call 174; ((with_reducible refine (infinity_32 _).mono ?_); rintro e w1 ⟨rfl,hb⟩; replace hS := hS.call hb)))
 go_ret
 exact ⟨rfl,hS.2⟩
set_option maxRecDepth 20000 in
set_option maxHeartbeats 6400000 in
theorem prod_32_23 (a b : Nat) (ha : a < 4294967296) (hb : b < 4294967296) (h1 : kindOf 2139095040 (a % 2147483648) = 2) (h2 : kindOf 2139095040 (b % 2147483648) = 3) (w : World) :
  Calls Tryz.prog 163 #[.agg #[.int .i64 8,.int .i64 23],.int .u64 a,.int .u64 b] w fun r w' => r = .returned (.int .u64 ((((Ieee.single).mul a b).getD 2143289344 : Nat) : Int)) ∧ Below w.heap.size w w' := by
 have KA := fun w => hid (kind_32 a ha w)
 have KB := fun w => hid (kind_32 b hb w)
 rw [h1] at KA
 rw [h2] at KB
 have hx := xor_top (k := 31) (a := a) (b := b) (by omega) (by omega)
 rw [show (2 : Nat) ^ 31 = 2147483648 by decide] at hx
 obtain ⟨xr,hxr⟩ : ∃ xr : Nat,xr = a ^^^ b := ⟨_,rfl⟩
 have hxb : bits .xor .u64 (a : Int) (b : Int) = (xr : Int) := by rw [hxr]; exact bits_xor_u64_nat a b (by omega) (by omega)
 rw [← hxr] at hx
 have SG := fun w => hid (sign_32 xr hx.2 w)
 obtain ⟨sg,hsg⟩ : ∃ sg : Nat,sg = if 2147483648 ≤ xr then 2147483648 else 0 := ⟨_,rfl⟩
 rw [← hsg] at SG
 have hsb : (decide (2147483648 ≤ a) ^^ decide (2147483648 ≤ b)) = decide (2147483648 ≤ xr) := hx.1.symm
 have hR : ((Ieee.single).mul a b).getD 2143289344 = (sg + 2139095040) := by
  rw [mul_inf fmt_single (by omega) (by omega) (by simp [h1,h2]),hsb,hsg]; unfold Ieee.Format.word; by_cases h : 2147483648 ≤ xr <;> simp [h,show (Ieee.single).signWeight = 2147483648 from rfl]
 rw [hR]
 obtain ⟨RR,hRR⟩ : ∃ RR : Nat,RR = (sg + 2139095040) := ⟨_,rfl⟩
 have hor : bits .or .u64 (sg : Int) 2139095040 = (RR : Int) := by
  have h9 := bits_or_u64_nat sg 2139095040 (by rw [hsg]; split <;> decide) (by decide)
  have h7 : sg ||| 2139095040 = RR := by
   rw [hRR,hsg]
   by_cases h : 2147483648 ≤ xr
   ·rw [if_pos h]; decide
   ·rw [if_neg h]; simp
  rw [h7] at h9
  exact h9
 rw [← hRR]
 clear hRR hsg
 have hS := Sx.new 8 23 w
 clear hR hsb hx hxr h1 h2 ha hb
 obtain ⟨c0,c1⟩ := id hS.1
 go_enter Tryz.func163,Tryz.ntmps163
 go_wp2_with (first
  | (go_at_call 135; ((with_reducible refine (SG _).out.mono ?_); rintro e w1 ⟨rfl,hb⟩; replace hS := hS.call hb; clear c0 c1; obtain ⟨c0,c1⟩ := id hS.1))
  | (go_at_call 157; ((with_reducible refine (KA _).out.mono ?_); rintro e w1 ⟨rfl,hb⟩; replace hS := hS.call hb; clear c0 c1; obtain ⟨c0,c1⟩ := id hS.1))
  | (go_at_call 157; ((with_reducible refine (KB _).out.mono ?_); rintro e w1 ⟨rfl,hb⟩; replace hS := hS.call hb; clear c0 c1; obtain ⟨c0,c1⟩ := id hS.1))
  | (go_at_call 158; ((with_reducible refine (canonical_32 _).mono ?_); rintro e w1 ⟨rfl,hb⟩; replace hS := hS.call hb))
  | (go_at_call 174; ((with_reducible refine (infinity_32 _).mono ?_); rintro e w1 ⟨rfl,hb⟩; replace hS := hS.call hb)))
 go_ret
 exact ⟨rfl,hS.2⟩
set_option maxRecDepth 20000 in
set_option maxHeartbeats 25600000 in
theorem prod_32_fin (a b ka kb : Nat) (ha : a < 4294967296) (hb : b < 4294967296) (h1 : kindOf 2139095040 (a % 2147483648) = ka) (h2 : kindOf 2139095040 (b % 2147483648) = kb) (h1' : ka = 1 ∨ ka = 2) (h2' : kb = 1 ∨ kb = 2) (w : World) :
  Calls Tryz.prog 163 #[.agg #[.int .i64 8,.int .i64 23],.int .u64 a,.int .u64 b] w fun r w' => r = .returned (.int .u64 ((((Ieee.single).mul a b).getD 2143289344 : Nat) : Int)) ∧ Below w.heap.size w w' := by
 have KA := fun w => hid (kind_32 a ha w)
 have KB := fun w => hid (kind_32 b hb w)
 have PA := fun w => hid (parts_32 a ha w)
 have PB := fun w => hid (parts_32 b hb w)
 rw [h1] at KA
 rw [h2] at KB
 have f1 : ((ka : Int) == 3) = false := beq_eq_false_iff_ne.2 (by omega)
 have f2 : ((kb : Int) == 3) = false := beq_eq_false_iff_ne.2 (by omega)
 have hx := xor_top (k := 31) (a := a) (b := b) (by omega) (by omega)
 rw [show (2 : Nat) ^ 31 = 2147483648 by decide] at hx
 obtain ⟨xr,hxr⟩ : ∃ xr : Nat,xr = a ^^^ b := ⟨_,rfl⟩
 have hxb : bits .xor .u64 (a : Int) (b : Int) = (xr : Int) := by rw [hxr]; exact bits_xor_u64_nat a b (by omega) (by omega)
 rw [← hxr] at hx
 have SG := fun w => hid (sign_32 xr hx.2 w)
 obtain ⟨sg,hsg⟩ : ∃ sg : Nat,sg = if 2147483648 ≤ xr then 2147483648 else 0 := ⟨_,rfl⟩
 rw [← hsg] at SG
 obtain ⟨ns,hns⟩ : ∃ ns : Bool,ns = (decide (2147483648 ≤ a) ^^ decide (2147483648 ≤ b)) := ⟨_,rfl⟩
 have hsgn : ((sg : Int) != 0) = ns := by
  rw [hns,← hx.1,hsg]; by_cases h : 2147483648 ≤ xr <;> simp [h]
 have hA1 : a % 2147483648 < 2139095040 := by
  rcases h1' with h | h
  ·rw [h] at h1; rw [kind1.1 h1]; decide
  ·rw [h] at h1; exact (kind2.1 h1).2
 have hB1 : b % 2147483648 < 2139095040 := by
  rcases h2' with h | h
  ·rw [h] at h2; rw [kind1.1 h2]; decide
  ·rw [h] at h2; exact (kind2.1 h2).2
 have hm1b := pm_lt 23 (a % 2147483648)
 have hm2b := pm_lt 23 (b % 2147483648)
 have he1b := pe_eq 23 (-149) (a % 2147483648)
 have he2b := pe_eq 23 (-149) (b % 2147483648)
 have hq1 : a % 2147483648 / 2 ^ 23 ≤ 2046 := by show a % 2147483648 / 8388608 ≤ 2046; omega
 have hq2 : b % 2147483648 / 2 ^ 23 ≤ 2046 := by show b % 2147483648 / 8388608 ≤ 2046; omega
 have hmul := mul_fin fmt_single (a := a) (b := b) (by omega) (by omega) (by rw [h1]; exact h1') (by rw [h2]; exact h2')
 rw [← hns] at hmul
 rw [hmul]
 show Calls Tryz.prog 163 #[.agg #[.int .i64 8,.int .i64 23],.int .u64 a,.int .u64 b] w fun r w' => r = .returned (.int .u64 (((Ieee.single).word ns (rungOf Ieee.single (pm 23 (a % 2147483648) * pm 23 (b % 2147483648)) (pe 23 (-149) (a % 2147483648) + pe 23 (-149) (b % 2147483648))) : Nat) : Int)) ∧ Below w.heap.size w w'
 obtain ⟨n1,hn1⟩ : ∃ n1 : Bool,n1 = decide (2147483648 ≤ a) := ⟨_,rfl⟩
 obtain ⟨n2,hn2⟩ : ∃ n2 : Bool,n2 = decide (2147483648 ≤ b) := ⟨_,rfl⟩
 obtain ⟨m1,hm1⟩ : ∃ m1 : Nat,m1 = pm 23 (a % 2147483648) := ⟨_,rfl⟩
 obtain ⟨m2,hm2⟩ : ∃ m2 : Nat,m2 = pm 23 (b % 2147483648) := ⟨_,rfl⟩
 obtain ⟨e1,he1⟩ : ∃ e1 : Int,e1 = pe 23 (-149) (a % 2147483648) := ⟨_,rfl⟩
 obtain ⟨e2,he2⟩ : ∃ e2 : Int,e2 = pe 23 (-149) (b % 2147483648) := ⟨_,rfl⟩
 rw [← hn1,← hm1,← he1] at PA
 rw [← hn2,← hm2,← he2] at PB
 rw [← hm1,← hm2,← he1,← he2]
 rw [← hm1] at hm1b
 rw [← hm2] at hm2b
 rw [← he1] at he1b
 rw [← he2] at he2b
 obtain ⟨RR,hRR⟩ : ∃ RR : Nat,RR = (Ieee.single).word ns (rungOf Ieee.single (m1 * m2) (e1 + e2)) := ⟨_,rfl⟩
 rw [← hRR]
 have HRR := hid hRR
 have HM1 : Hid (m1 < 18446744073709551616) := hid (by have : m1 < 8388608 * 2 := hm1b; omega)
 have HM2 : Hid (m2 < 18446744073709551616) := hid (by have : m2 < 8388608 * 2 := hm2b; omega)
 generalize a % 2147483648 / 2 ^ 23 = q1 at *
 generalize b % 2147483648 / 2 ^ 23 = q2 at *
 have HEB := hid (show -1100 ≤ e1 ∧ e1 ≤ 2100 ∧ -1100 ≤ e2 ∧ e2 ≤ 2100 by omega)
 have HE1 : Hid (-4611686018427387904 ≤ e1 ∧ e1 ≤ 4611686018427387904) := hid (by have := HEB.out; omega)
 have HE2 : Hid (-4611686018427387904 ≤ e2 ∧ e2 ≤ 4611686018427387904) := hid (by have := HEB.out; omega)
 have HSGN := hid hsgn
 have HRC : Hid (∀ (q : Nat) (e3 : Int) (mo : Bool),q < 18446744073709551616 → -9223372036854775808 ≤ e3 → e3 ≤ 9223372036854775807 → (mo = true → 288230376151711744 ≤ q) → ∀ W,Calls Tryz.prog 161 #[.agg #[.int .i64 8,.int .i64 23],.agg #[.bool ns,.int .u64 q,.int .i64 e3],.bool mo] W fun r w' => r = .returned (.int .u64 (((Ieee.single).word ns (rungR Ieee.single q e3 mo) : Nat) : Int)) ∧ Below W.heap.size W w') := hid (fun q e3 mo hq h0 h3 hm W => round_32 ns q hq e3 h0 h3 mo hm W)
 exact prod_gen 8 23 Ieee.single (by decide) a b ka kb xr sg ns n1 n2 m1 m2 RR e1 e2 KA KB PA PB SG hxb HSGN f1 f2 HM1 HM2 HEB HE1 HE2 HRR HRC w
theorem prod_32 (a b : Nat) (ha : a < 4294967296) (hb : b < 4294967296) (hna : a % 2147483648 ≤ 2139095040) (hnb : b % 2147483648 ≤ 2139095040) (w : World) :
  Calls Tryz.prog 163 #[.agg #[.int .i64 8,.int .i64 23],.int .u64 a,.int .u64 b] w fun r w' => r = .returned (.int .u64 ((((Ieee.single).mul a b).getD 2143289344 : Nat) : Int)) ∧ Below w.heap.size w w' := by
 have h1 := kind_le hna
 have h2 := kind_le hnb
 rcases h1 with h1 | h1 | h1 <;> rcases h2 with h2 | h2 | h2
 ·exact prod_32_fin a b 1 1 ha hb h1 h2 (.inl rfl) (.inl rfl) w
 ·exact prod_32_fin a b 1 2 ha hb h1 h2 (.inl rfl) (.inr rfl) w
 ·exact prod_32_13 a b ha hb h1 h2 w
 ·exact prod_32_fin a b 2 1 ha hb h1 h2 (.inr rfl) (.inl rfl) w
 ·exact prod_32_fin a b 2 2 ha hb h1 h2 (.inr rfl) (.inr rfl) w
 ·exact prod_32_23 a b ha hb h1 h2 w
 ·exact prod_32_31 a b ha hb h1 h2 w
 ·exact prod_32_32 a b ha hb h1 h2 w
 ·exact prod_32_33 a b ha hb h1 h2 w
end Go.Proofs.YtbbmbhcbncenaaaGreatDoor.Fl
