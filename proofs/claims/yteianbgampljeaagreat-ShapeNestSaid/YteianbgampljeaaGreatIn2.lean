/-
  What the law comes to, whatever the input: true. Condition: the number is one of 64 bits.
-/
import Derived.Test.YteianbgampljeaaGreatIn1
set_option linter.unusedSimpArgs false
set_option linter.unusedVariables false
set_option maxRecDepth 100000
namespace Go.Proofs.YteianbgampljeaaGreat
open Go.RowKit

theorem ins_blk (op : Int) (h : op = 2 ∨ op = 3) : insB op 0 0 0 0 [] false 1 0 = true ∧ insB op 0 0 0 0 [] true 0 0 = false ∧ ((lineL op).2.1 != 17 && (lineL op).2.1 != 18) = true := by
  rcases h with rfl | rfl
  · exact ⟨by kernel_rfl, by kernel_rfl, by kernel_rfl⟩
  · exact ⟨by kernel_rfl, by kernel_rfl, by kernel_rfl⟩
theorem ins_if (ot : Bool) : insB 4 0 0 0 0 [] ot 0 1 = ot := by
  cases ot
  · kernel_rfl
  · kernel_rfl
theorem ins_nop : insB 1 0 0 0 0 [] false 1 0 = false := by kernel_rfl
theorem data_4 : ((lineL 4).2.1 != 17 && (lineL 4).2.1 != 18) = true := by kernel_rfl
set_option maxHeartbeats 16000000 in
theorem law_op (kind : Int) (n : Nat) (ot : Bool) (op q : Int) (N1 N2 : Nat) (hk : bits .and .i64 kind 1 = q) (hq : wrap64 (2 + q) = op) (ho : op = 2 ∨ op = 3) (h1 : bits .and .u64 (n : Int) 4294967295 = (N1 : Int)) (h2 : bits .or .u64 (n : Int) 4294967296 = (N2 : Int)) (hN1 : N1 ≤ 4294967295) (hN2 : 4294967295 < N2) (w : World) :
    Calls Tryz.prog 8 #[.int .i64 kind, .int .u64 n, .bool ot] w fun e w' => e = .returned (.bool true) ∧ Below w.heap.size w w' := by
  have HA := fun W => hid (awake_says W)
  obtain ⟨i1, i2, i3⟩ := ins_blk op ho
  have KA := fun V => hid (may_body op false N1 V)
  rw [code_body, data_body _ _ _ i3, i1, show decide ((N1 : Int) ≤ 4294967295) = true by simp; omega] at KA
  have KB := fun V => hid (may_body op false N2 V)
  rw [code_body, data_body _ _ _ i3, i1, show decide ((N2 : Int) ≤ 4294967295) = false by simp; omega] at KB
  have KC := fun V => hid (may_else 4 ot N1 V)
  rw [code_else, data_else _ _ _ data_4, ins_if, show decide ((N1 : Int) ≤ 4294967295) = true by simp; omega] at KC
  have KD := fun V => hid (may_none op true V)
  rw [code_none, data_none _ _ i3, i2] at KD
  have KE := fun V => hid (may_body 1 false N1 V)
  rw [code_body, ins_nop] at KE
  simp only [Bool.and_true, Bool.true_and, Bool.and_false, Bool.false_and] at KA KB KC KD KE
  clear i1 i2 i3 ho hN1 hN2
  cases ot with
  | false =>
    go_enter Tryz.func8, Tryz.ntmps8
    go_upto_region 7 with (go_at_call 9; (with_reducible refine (HA _).out.mono ?_); rintro e w1 ⟨rfl, hb1⟩; have HB1 := hid hb1; clear hb1)
    have HB2 := hid ((HB1.out.alloc HB1.out.size (.cells #[.int .i64 65, .int .i64 0, .int .i64 0, .int .u64 (N1 : Nat), .int .u64 0, .slice none 0 0, .slice none 0 0, .slice none 0 0, .bool false] 39)).alloc (by rw [size_al]; have := HB1.out.size; omega) (.cells #[.int .i64 65, .int .i64 0, .int .i64 0, .int .u64 (N2 : Nat), .int .u64 0, .slice none 0 0, .slice none 0 0, .slice none 0 0, .bool false] 39))
    have HG := hid (CA.alloc (CA.new w1 #[.int .i64 65, .int .i64 0, .int .i64 0, .int .u64 (N1 : Nat), .int .u64 0, .slice none 0 0, .slice none 0 0, .slice none 0 0, .bool false] 39) (.cells #[.int .i64 65, .int .i64 0, .int .i64 0, .int .u64 (N2 : Nat), .int .u64 0, .slice none 0 0, .slice none 0 0, .slice none 0 0, .bool false] 39))
    have HH := CA.new (w1.alloc (.cells #[.int .i64 65, .int .i64 0, .int .i64 0, .int .u64 (N1 : Nat), .int .u64 0, .slice none 0 0, .slice none 0 0, .slice none 0 0, .bool false] 39)) #[.int .i64 65, .int .i64 0, .int .i64 0, .int .u64 (N2 : Nat), .int .u64 0, .slice none 0 0, .slice none 0 0, .slice none 0 0, .bool false] 39
    rw [size_al] at HH
    have HH := hid HH
    generalize (w1.alloc (.cells #[.int .i64 65, .int .i64 0, .int .i64 0, .int .u64 (N1 : Nat), .int .u64 0, .slice none 0 0, .slice none 0 0, .slice none 0 0, .bool false] 39)).alloc (.cells #[.int .i64 65, .int .i64 0, .int .i64 0, .int .u64 (N2 : Nat), .int .u64 0, .slice none 0 0, .slice none 0 0, .slice none 0 0, .bool false] 39) = V1 at *
    generalize w1.heap.size + 1 = g2 at *
    generalize w1.heap.size = g1 at *
    have x00 := HG.out.at (k := 0) (v := .int .i64 65) rfl; have x01 := HG.out.at (k := 1) (v := .int .i64 0) rfl; have x02 := HG.out.at (k := 2) (v := .int .i64 0) rfl; have x03 := HG.out.at (k := 3) (v := .int .u64 (N1 : Nat)) rfl; have x04 := HG.out.at (k := 4) (v := .int .u64 0) rfl; have x05 := HG.out.at (k := 5) (v := .slice none 0 0) rfl; have x06 := HG.out.at (k := 6) (v := .slice none 0 0) rfl; have x07 := HG.out.at (k := 7) (v := .slice none 0 0) rfl; have x08 := HG.out.at (k := 8) (v := .bool false) rfl
    have HN0 := hid ((((Below.refl V1.heap.size V1).alloc (by (try simp only [size_al]); omega) (.cells #[.int .i64 65, .int .i64 0, .int .i64 0, .int .u64 (N1 : Nat), .int .u64 0, .slice none 0 0, .slice none 0 0, .slice none 0 0, .bool false] 39)).alloc (by (try simp only [size_al]); omega) (.cells #[.int .i64 op, .int .i64 0, .int .i64 0, .int .u64 0, .int .u64 0, .slice none 0 0, .slice (some ⟨V1.heap.size, 0, none⟩) 1 1, .slice none 0 0, .bool false] 39)).alloc (by (try simp only [size_al]); omega) (.cells #[.int .i64 0, .slice none 0 0, .slice (some ⟨V1.heap.size + 1, 0, none⟩) 1 1] 42))
    go_upto_region 8 with (go_at_call 11; (with_reducible refine (KA V1).out.mono ?_); rintro e V2 ⟨rfl, hb⟩; have HQ0 := hid (HN0.out.trans (hb.mono HN0.out.size)); clear hb)
    clear x00 x01 x02 x03 x04 x05 x06 x07 x08; replace HB2 := hid (HB2.out.trans (HQ0.out.mono HB2.out.size))
    replace HG := hid (CA.below HG.out HQ0.out HG.out.lt)
    replace HH := hid (CA.below HH.out HQ0.out HH.out.lt)
    clear HQ0 HN0
    have x10 := HH.out.at (k := 0) (v := .int .i64 65) rfl; have x11 := HH.out.at (k := 1) (v := .int .i64 0) rfl; have x12 := HH.out.at (k := 2) (v := .int .i64 0) rfl; have x13 := HH.out.at (k := 3) (v := .int .u64 (N2 : Nat)) rfl; have x14 := HH.out.at (k := 4) (v := .int .u64 0) rfl; have x15 := HH.out.at (k := 5) (v := .slice none 0 0) rfl; have x16 := HH.out.at (k := 6) (v := .slice none 0 0) rfl; have x17 := HH.out.at (k := 7) (v := .slice none 0 0) rfl; have x18 := HH.out.at (k := 8) (v := .bool false) rfl
    have HN1 := hid ((((Below.refl V2.heap.size V2).alloc (by (try simp only [size_al]); omega) (.cells #[.int .i64 65, .int .i64 0, .int .i64 0, .int .u64 (N2 : Nat), .int .u64 0, .slice none 0 0, .slice none 0 0, .slice none 0 0, .bool false] 39)).alloc (by (try simp only [size_al]); omega) (.cells #[.int .i64 op, .int .i64 0, .int .i64 0, .int .u64 0, .int .u64 0, .slice none 0 0, .slice (some ⟨V2.heap.size, 0, none⟩) 1 1, .slice none 0 0, .bool false] 39)).alloc (by (try simp only [size_al]); omega) (.cells #[.int .i64 0, .slice none 0 0, .slice (some ⟨V2.heap.size + 1, 0, none⟩) 1 1] 42))
    go_upto_region 9 with (go_at_call 11; (with_reducible refine (KB V2).out.mono ?_); rintro e V3 ⟨rfl, hb⟩; have HQ1 := hid (HN1.out.trans (hb.mono HN1.out.size)); clear hb)
    clear x10 x11 x12 x13 x14 x15 x16 x17 x18; replace HB2 := hid (HB2.out.trans (HQ1.out.mono HB2.out.size))
    replace HG := hid (CA.below HG.out HQ1.out HG.out.lt)
    replace HH := hid (CA.below HH.out HQ1.out HH.out.lt)
    clear HQ1 HN1
    have x20 := HG.out.at (k := 0) (v := .int .i64 65) rfl; have x21 := HG.out.at (k := 1) (v := .int .i64 0) rfl; have x22 := HG.out.at (k := 2) (v := .int .i64 0) rfl; have x23 := HG.out.at (k := 3) (v := .int .u64 (N1 : Nat)) rfl; have x24 := HG.out.at (k := 4) (v := .int .u64 0) rfl; have x25 := HG.out.at (k := 5) (v := .slice none 0 0) rfl; have x26 := HG.out.at (k := 6) (v := .slice none 0 0) rfl; have x27 := HG.out.at (k := 7) (v := .slice none 0 0) rfl; have x28 := HG.out.at (k := 8) (v := .bool false) rfl
    have HN2 := hid ((((Below.refl V3.heap.size V3).alloc (by (try simp only [size_al]); omega) (.cells #[.int .i64 65, .int .i64 0, .int .i64 0, .int .u64 (N1 : Nat), .int .u64 0, .slice none 0 0, .slice none 0 0, .slice none 0 0, .bool false] 39)).alloc (by (try simp only [size_al]); omega) (.cells #[.int .i64 4, .int .i64 0, .int .i64 0, .int .u64 0, .int .u64 0, .slice none 0 0, .slice none 0 0, .slice (some ⟨V3.heap.size, 0, none⟩) 1 1, .bool false] 39)).alloc (by (try simp only [size_al]); omega) (.cells #[.int .i64 0, .slice none 0 0, .slice (some ⟨V3.heap.size + 1, 0, none⟩) 1 1] 42))
    go_upto_region 10 with (go_at_call 11; (with_reducible refine (KC V3).out.mono ?_); rintro e V4 ⟨rfl, hb⟩; have HQ2 := hid (HN2.out.trans (hb.mono HN2.out.size)); clear hb)
    clear x20 x21 x22 x23 x24 x25 x26 x27 x28; replace HB2 := hid (HB2.out.trans (HQ2.out.mono HB2.out.size))
    replace HG := hid (CA.below HG.out HQ2.out HG.out.lt)
    replace HH := hid (CA.below HH.out HQ2.out HH.out.lt)
    clear HQ2 HN2
    have HN3 := hid (((Below.refl V4.heap.size V4).alloc (by (try simp only [size_al]); omega) (.cells #[.int .i64 op, .int .i64 0, .int .i64 0, .int .u64 0, .int .u64 0, .slice none 0 0, .slice none 0 0, .slice none 0 0, .bool true] 39)).alloc (by (try simp only [size_al]); omega) (.cells #[.int .i64 0, .slice none 0 0, .slice (some ⟨V4.heap.size, 0, none⟩) 1 1] 42))
    go_upto_region 11 with (go_at_call 11; (with_reducible refine (KD V4).out.mono ?_); rintro e V5 ⟨rfl, hb⟩; have HQ3 := hid (HN3.out.trans (hb.mono HN3.out.size)); clear hb)
    replace HB2 := hid (HB2.out.trans (HQ3.out.mono HB2.out.size))
    replace HG := hid (CA.below HG.out HQ3.out HG.out.lt)
    replace HH := hid (CA.below HH.out HQ3.out HH.out.lt)
    clear HQ3 HN3
    have x40 := HG.out.at (k := 0) (v := .int .i64 65) rfl; have x41 := HG.out.at (k := 1) (v := .int .i64 0) rfl; have x42 := HG.out.at (k := 2) (v := .int .i64 0) rfl; have x43 := HG.out.at (k := 3) (v := .int .u64 (N1 : Nat)) rfl; have x44 := HG.out.at (k := 4) (v := .int .u64 0) rfl; have x45 := HG.out.at (k := 5) (v := .slice none 0 0) rfl; have x46 := HG.out.at (k := 6) (v := .slice none 0 0) rfl; have x47 := HG.out.at (k := 7) (v := .slice none 0 0) rfl; have x48 := HG.out.at (k := 8) (v := .bool false) rfl
    have HN4 := hid ((((Below.refl V5.heap.size V5).alloc (by (try simp only [size_al]); omega) (.cells #[.int .i64 65, .int .i64 0, .int .i64 0, .int .u64 (N1 : Nat), .int .u64 0, .slice none 0 0, .slice none 0 0, .slice none 0 0, .bool false] 39)).alloc (by (try simp only [size_al]); omega) (.cells #[.int .i64 1, .int .i64 0, .int .i64 0, .int .u64 0, .int .u64 0, .slice none 0 0, .slice (some ⟨V5.heap.size, 0, none⟩) 1 1, .slice none 0 0, .bool false] 39)).alloc (by (try simp only [size_al]); omega) (.cells #[.int .i64 0, .slice none 0 0, .slice (some ⟨V5.heap.size + 1, 0, none⟩) 1 1] 42))
    go_upto_region 12 with (go_at_call 11; (with_reducible refine (KE V5).out.mono ?_); rintro e V6 ⟨rfl, hb⟩; have HQ4 := hid (HN4.out.trans (hb.mono HN4.out.size)); clear hb)
    clear x40 x41 x42 x43 x44 x45 x46 x47 x48; replace HB2 := hid (HB2.out.trans (HQ4.out.mono HB2.out.size))
    replace HG := hid (CA.below HG.out HQ4.out HG.out.lt)
    replace HH := hid (CA.below HH.out HQ4.out HH.out.lt)
    clear HQ4 HN4
    go_wp2
    go_ret
    exact ⟨rfl, HB2.out⟩
  | true =>
    go_enter Tryz.func8, Tryz.ntmps8
    go_upto_region 7 with (go_at_call 9; (with_reducible refine (HA _).out.mono ?_); rintro e w1 ⟨rfl, hb1⟩; have HB1 := hid hb1; clear hb1)
    have HB2 := hid ((HB1.out.alloc HB1.out.size (.cells #[.int .i64 65, .int .i64 0, .int .i64 0, .int .u64 (N1 : Nat), .int .u64 0, .slice none 0 0, .slice none 0 0, .slice none 0 0, .bool false] 39)).alloc (by rw [size_al]; have := HB1.out.size; omega) (.cells #[.int .i64 65, .int .i64 0, .int .i64 0, .int .u64 (N2 : Nat), .int .u64 0, .slice none 0 0, .slice none 0 0, .slice none 0 0, .bool false] 39))
    have HG := hid (CA.alloc (CA.new w1 #[.int .i64 65, .int .i64 0, .int .i64 0, .int .u64 (N1 : Nat), .int .u64 0, .slice none 0 0, .slice none 0 0, .slice none 0 0, .bool false] 39) (.cells #[.int .i64 65, .int .i64 0, .int .i64 0, .int .u64 (N2 : Nat), .int .u64 0, .slice none 0 0, .slice none 0 0, .slice none 0 0, .bool false] 39))
    have HH := CA.new (w1.alloc (.cells #[.int .i64 65, .int .i64 0, .int .i64 0, .int .u64 (N1 : Nat), .int .u64 0, .slice none 0 0, .slice none 0 0, .slice none 0 0, .bool false] 39)) #[.int .i64 65, .int .i64 0, .int .i64 0, .int .u64 (N2 : Nat), .int .u64 0, .slice none 0 0, .slice none 0 0, .slice none 0 0, .bool false] 39
    rw [size_al] at HH
    have HH := hid HH
    generalize (w1.alloc (.cells #[.int .i64 65, .int .i64 0, .int .i64 0, .int .u64 (N1 : Nat), .int .u64 0, .slice none 0 0, .slice none 0 0, .slice none 0 0, .bool false] 39)).alloc (.cells #[.int .i64 65, .int .i64 0, .int .i64 0, .int .u64 (N2 : Nat), .int .u64 0, .slice none 0 0, .slice none 0 0, .slice none 0 0, .bool false] 39) = V1 at *
    generalize w1.heap.size + 1 = g2 at *
    generalize w1.heap.size = g1 at *
    have x00 := HG.out.at (k := 0) (v := .int .i64 65) rfl; have x01 := HG.out.at (k := 1) (v := .int .i64 0) rfl; have x02 := HG.out.at (k := 2) (v := .int .i64 0) rfl; have x03 := HG.out.at (k := 3) (v := .int .u64 (N1 : Nat)) rfl; have x04 := HG.out.at (k := 4) (v := .int .u64 0) rfl; have x05 := HG.out.at (k := 5) (v := .slice none 0 0) rfl; have x06 := HG.out.at (k := 6) (v := .slice none 0 0) rfl; have x07 := HG.out.at (k := 7) (v := .slice none 0 0) rfl; have x08 := HG.out.at (k := 8) (v := .bool false) rfl
    have HN0 := hid ((((Below.refl V1.heap.size V1).alloc (by (try simp only [size_al]); omega) (.cells #[.int .i64 65, .int .i64 0, .int .i64 0, .int .u64 (N1 : Nat), .int .u64 0, .slice none 0 0, .slice none 0 0, .slice none 0 0, .bool false] 39)).alloc (by (try simp only [size_al]); omega) (.cells #[.int .i64 op, .int .i64 0, .int .i64 0, .int .u64 0, .int .u64 0, .slice none 0 0, .slice (some ⟨V1.heap.size, 0, none⟩) 1 1, .slice none 0 0, .bool false] 39)).alloc (by (try simp only [size_al]); omega) (.cells #[.int .i64 0, .slice none 0 0, .slice (some ⟨V1.heap.size + 1, 0, none⟩) 1 1] 42))
    go_upto_region 8 with (go_at_call 11; (with_reducible refine (KA V1).out.mono ?_); rintro e V2 ⟨rfl, hb⟩; have HQ0 := hid (HN0.out.trans (hb.mono HN0.out.size)); clear hb)
    clear x00 x01 x02 x03 x04 x05 x06 x07 x08; replace HB2 := hid (HB2.out.trans (HQ0.out.mono HB2.out.size))
    replace HG := hid (CA.below HG.out HQ0.out HG.out.lt)
    replace HH := hid (CA.below HH.out HQ0.out HH.out.lt)
    clear HQ0 HN0
    have x10 := HH.out.at (k := 0) (v := .int .i64 65) rfl; have x11 := HH.out.at (k := 1) (v := .int .i64 0) rfl; have x12 := HH.out.at (k := 2) (v := .int .i64 0) rfl; have x13 := HH.out.at (k := 3) (v := .int .u64 (N2 : Nat)) rfl; have x14 := HH.out.at (k := 4) (v := .int .u64 0) rfl; have x15 := HH.out.at (k := 5) (v := .slice none 0 0) rfl; have x16 := HH.out.at (k := 6) (v := .slice none 0 0) rfl; have x17 := HH.out.at (k := 7) (v := .slice none 0 0) rfl; have x18 := HH.out.at (k := 8) (v := .bool false) rfl
    have HN1 := hid ((((Below.refl V2.heap.size V2).alloc (by (try simp only [size_al]); omega) (.cells #[.int .i64 65, .int .i64 0, .int .i64 0, .int .u64 (N2 : Nat), .int .u64 0, .slice none 0 0, .slice none 0 0, .slice none 0 0, .bool false] 39)).alloc (by (try simp only [size_al]); omega) (.cells #[.int .i64 op, .int .i64 0, .int .i64 0, .int .u64 0, .int .u64 0, .slice none 0 0, .slice (some ⟨V2.heap.size, 0, none⟩) 1 1, .slice none 0 0, .bool false] 39)).alloc (by (try simp only [size_al]); omega) (.cells #[.int .i64 0, .slice none 0 0, .slice (some ⟨V2.heap.size + 1, 0, none⟩) 1 1] 42))
    go_upto_region 9 with (go_at_call 11; (with_reducible refine (KB V2).out.mono ?_); rintro e V3 ⟨rfl, hb⟩; have HQ1 := hid (HN1.out.trans (hb.mono HN1.out.size)); clear hb)
    clear x10 x11 x12 x13 x14 x15 x16 x17 x18; replace HB2 := hid (HB2.out.trans (HQ1.out.mono HB2.out.size))
    replace HG := hid (CA.below HG.out HQ1.out HG.out.lt)
    replace HH := hid (CA.below HH.out HQ1.out HH.out.lt)
    clear HQ1 HN1
    have x20 := HG.out.at (k := 0) (v := .int .i64 65) rfl; have x21 := HG.out.at (k := 1) (v := .int .i64 0) rfl; have x22 := HG.out.at (k := 2) (v := .int .i64 0) rfl; have x23 := HG.out.at (k := 3) (v := .int .u64 (N1 : Nat)) rfl; have x24 := HG.out.at (k := 4) (v := .int .u64 0) rfl; have x25 := HG.out.at (k := 5) (v := .slice none 0 0) rfl; have x26 := HG.out.at (k := 6) (v := .slice none 0 0) rfl; have x27 := HG.out.at (k := 7) (v := .slice none 0 0) rfl; have x28 := HG.out.at (k := 8) (v := .bool false) rfl
    have HN2 := hid ((((Below.refl V3.heap.size V3).alloc (by (try simp only [size_al]); omega) (.cells #[.int .i64 65, .int .i64 0, .int .i64 0, .int .u64 (N1 : Nat), .int .u64 0, .slice none 0 0, .slice none 0 0, .slice none 0 0, .bool false] 39)).alloc (by (try simp only [size_al]); omega) (.cells #[.int .i64 4, .int .i64 0, .int .i64 0, .int .u64 0, .int .u64 0, .slice none 0 0, .slice none 0 0, .slice (some ⟨V3.heap.size, 0, none⟩) 1 1, .bool true] 39)).alloc (by (try simp only [size_al]); omega) (.cells #[.int .i64 0, .slice none 0 0, .slice (some ⟨V3.heap.size + 1, 0, none⟩) 1 1] 42))
    go_upto_region 10 with (go_at_call 11; (with_reducible refine (KC V3).out.mono ?_); rintro e V4 ⟨rfl, hb⟩; have HQ2 := hid (HN2.out.trans (hb.mono HN2.out.size)); clear hb)
    clear x20 x21 x22 x23 x24 x25 x26 x27 x28; replace HB2 := hid (HB2.out.trans (HQ2.out.mono HB2.out.size))
    replace HG := hid (CA.below HG.out HQ2.out HG.out.lt)
    replace HH := hid (CA.below HH.out HQ2.out HH.out.lt)
    clear HQ2 HN2
    have HN3 := hid (((Below.refl V4.heap.size V4).alloc (by (try simp only [size_al]); omega) (.cells #[.int .i64 op, .int .i64 0, .int .i64 0, .int .u64 0, .int .u64 0, .slice none 0 0, .slice none 0 0, .slice none 0 0, .bool true] 39)).alloc (by (try simp only [size_al]); omega) (.cells #[.int .i64 0, .slice none 0 0, .slice (some ⟨V4.heap.size, 0, none⟩) 1 1] 42))
    go_upto_region 11 with (go_at_call 11; (with_reducible refine (KD V4).out.mono ?_); rintro e V5 ⟨rfl, hb⟩; have HQ3 := hid (HN3.out.trans (hb.mono HN3.out.size)); clear hb)
    replace HB2 := hid (HB2.out.trans (HQ3.out.mono HB2.out.size))
    replace HG := hid (CA.below HG.out HQ3.out HG.out.lt)
    replace HH := hid (CA.below HH.out HQ3.out HH.out.lt)
    clear HQ3 HN3
    have x40 := HG.out.at (k := 0) (v := .int .i64 65) rfl; have x41 := HG.out.at (k := 1) (v := .int .i64 0) rfl; have x42 := HG.out.at (k := 2) (v := .int .i64 0) rfl; have x43 := HG.out.at (k := 3) (v := .int .u64 (N1 : Nat)) rfl; have x44 := HG.out.at (k := 4) (v := .int .u64 0) rfl; have x45 := HG.out.at (k := 5) (v := .slice none 0 0) rfl; have x46 := HG.out.at (k := 6) (v := .slice none 0 0) rfl; have x47 := HG.out.at (k := 7) (v := .slice none 0 0) rfl; have x48 := HG.out.at (k := 8) (v := .bool false) rfl
    have HN4 := hid ((((Below.refl V5.heap.size V5).alloc (by (try simp only [size_al]); omega) (.cells #[.int .i64 65, .int .i64 0, .int .i64 0, .int .u64 (N1 : Nat), .int .u64 0, .slice none 0 0, .slice none 0 0, .slice none 0 0, .bool false] 39)).alloc (by (try simp only [size_al]); omega) (.cells #[.int .i64 1, .int .i64 0, .int .i64 0, .int .u64 0, .int .u64 0, .slice none 0 0, .slice (some ⟨V5.heap.size, 0, none⟩) 1 1, .slice none 0 0, .bool false] 39)).alloc (by (try simp only [size_al]); omega) (.cells #[.int .i64 0, .slice none 0 0, .slice (some ⟨V5.heap.size + 1, 0, none⟩) 1 1] 42))
    go_upto_region 12 with (go_at_call 11; (with_reducible refine (KE V5).out.mono ?_); rintro e V6 ⟨rfl, hb⟩; have HQ4 := hid (HN4.out.trans (hb.mono HN4.out.size)); clear hb)
    clear x40 x41 x42 x43 x44 x45 x46 x47 x48; replace HB2 := hid (HB2.out.trans (HQ4.out.mono HB2.out.size))
    replace HG := hid (CA.below HG.out HQ4.out HG.out.lt)
    replace HH := hid (CA.below HH.out HQ4.out HH.out.lt)
    clear HQ4 HN4
    go_wp2
    go_ret
    exact ⟨rfl, HB2.out⟩
theorem law_Inside (kind : Int) (n : Nat) (hn : n < 18446744073709551616) (ot : Bool) (w : World) : Calls Tryz.prog 8 #[.int .i64 kind, .int .u64 n, .bool ot] w fun e w' => e = .returned (.bool true) ∧ Below w.heap.size w w' := by
  obtain ⟨k, hk, hb⟩ := and_i64_le kind 1 (by decide)
  have h1 := bits_and_u64_nat n 4294967295 hn (by decide)
  have h2 := bits_or_u64_nat n 4294967296 hn (by decide)
  have hN1 : n &&& 4294967295 ≤ 4294967295 := Nat.and_le_right
  have hN2 : 4294967296 ≤ n ||| 4294967296 := Nat.right_le_or
  have hb' : bits .and .i64 kind 1 = (k : Int) := hb
  rcases (show k = 0 ∨ k = 1 by omega) with rfl | rfl
  · exact law_op kind n ot 2 0 _ _ hb' (by unfold wrap64; decide) (.inl rfl) h1 h2 hN1 (by omega) w
  · exact law_op kind n ot 3 1 _ _ hb' (by unfold wrap64; decide) (.inr rfl) h1 h2 hN1 (by omega) w
end Go.Proofs.YteianbgampljeaaGreat
