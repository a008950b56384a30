/-
  The contracts of the program's extender and of the closure that it makes; of the program's number, where a lane is taken out. Condition: lanes of 8, 16, 32 or 64 bits.
-/
import Derived.Test.YtlhakbkdlgejpaaGreatDoorL04
import Derived.Test.YtlhakbkdlgejpaaGreatDoorL03
set_option linter.unusedSimpArgs false
set_option linter.unusedVariables false
set_option maxRecDepth 100000
namespace Go.Proofs.YtlhakbkdlgejpaaGreatDoor
open Go.RowKit

/-- A lane in 64 bits, with its sign or without. -/
def extF (n : Nat) (s : Bool) (x : Nat) : Nat := if s then toN 64 (sg n (x % 2 ^ n)) else x
/-- A function value that works with one lane. -/
def Does1 (g : Nat) (lb : Array Value) (f : Nat → Nat) (w : World) : Prop :=
  ∀ (W : World) (x : Nat), Below w.heap.size w W → x < 18446744073709551616 →
    Calls Tryz.prog g (#[.int .u64 x] ++ lb) W fun e w' => e = .returned (.int .u64 (f x : Nat)) ∧ Below W.heap.size W w'
theorem Does1.later {g : Nat} {lb : Array Value} {f : Nat → Nat} {w W : World} (h : Does1 g lb f w) (hb : Below w.heap.size w W) : Does1 g lb f W :=
  fun W' x hb' => h W' x (hb.trans (hb'.mono hb.size))
theorem u64_toN (z : Int) : IntKind.u64.wrap z = ((toN 64 z : Nat) : Int) := by
  rw [IntKind.wrap_u64]
  unfold toN
  rw [Int.toNat_of_nonneg (Int.emod_nonneg _ (by decide))]
  rfl
theorem extF_lt (n : Nat) (s : Bool) (x : Nat) (hx : x < 18446744073709551616) : extF n s x < 18446744073709551616 := by
  unfold extF
  split
  · exact by unfold toN; exact (Int.toNat_lt (Int.emod_nonneg _ (by decide))).2 (Int.emod_lt_of_pos _ (by decide))
  · exact hx
theorem clo_ext (n : Nat) (hn : Okn n) (s : Bool) (b1 b2 : Nat) (w : World) (c1 : w.cell? ⟨b1, 0, none⟩ = some (.bool s)) (c2 : w.cell? ⟨b2, 0, none⟩ = some (.int .i64 n)) :
    Does1 120 #[.pointer (some ⟨b1, 0, none⟩), .pointer (some ⟨b2, 0, none⟩)] (extF n s) w := fun W x hb hx => by
  have d1 := (hb.cell (p := ⟨b1, 0, none⟩) (World.block_lt_of_cell? _ _ c1)).trans c1
  have d2 := (hb.cell (p := ⟨b2, 0, none⟩) (World.block_lt_of_cell? _ _ c2)).trans c2
  have H := fun W => hid (Signed_ok n hn x hx W)
  show Calls Tryz.prog 120 #[.int .u64 x, .pointer (some ⟨b1, 0, none⟩), .pointer (some ⟨b2, 0, none⟩)] W _
  clear c1 c2 hb hn
  cases s with
  | false =>
    show Calls _ _ _ _ fun e w' => e = .returned (.int .u64 (x : Nat)) ∧ _
    clear H
    go_enter Tryz.func120, Tryz.ntmps120
    go_wp2
    go_ret
    exact ⟨rfl, Below.refl _ _⟩
  | true =>
    show Calls _ _ _ _ fun e w' => e = .returned (.int .u64 (toN 64 (sg n (x % 2 ^ n)) : Nat)) ∧ _
    have hz := u64_toN (sg n (x % 2 ^ n))
    generalize sg n (x % 2 ^ n) = z at *
    generalize toN 64 z = r at *
    clear hx
    go_enter Tryz.func120, Tryz.ntmps120
    go_wp2_with (go_at_call 121; refine (H _).out.mono ?_; rintro e w1 ⟨rfl, rfl⟩)
    go_ret
    exact ⟨rfl, Below.refl _ _⟩
theorem ext_says (n : Nat) (hn : Okn n) (s : Bool) (w : World) : Calls Tryz.prog 77 #[.int .i64 n, .bool s] w fun e w' => (∃ lb, e = .returned (.func (.func 120) #[] lb) ∧ Does1 120 lb (extF n s) w') ∧ Below w.heap.size w w' := by
  have hmf : ∀ (fn : Fn) (first cap : Array Value) (w : World), (Instr.makeFunc fn first cap).run Tryz.prog w = .ok (.func fn first cap) w := fun _ _ _ _ => rfl
  have HC := fun b1 b2 w h1 h2 => hid (clo_ext n hn s b1 b2 w h1 h2)
  clear hn
  go_enter Tryz.func77, Tryz.ntmps77
  go_wp2
  go_ret
  refine ⟨⟨_, rfl, (HC _ _ _ ?_ ?_).out⟩, ((Below.refl _ w).alloc (Nat.le_refl _) _).alloc (by simp) _⟩
  · have := (CA.new (w.alloc (.cells #[.int .i64 n] 3)) #[.bool s] 4).at (k := 0) (v := .bool s) rfl
    rw [size_al] at this
    exact this
  · exact ((CA.new w #[.int .i64 n] 3).alloc _).at (k := 0) rfl

set_option maxHeartbeats 4000000 in
theorem number_ext (vb : List UInt8) (q0 : (vb == [97, 110, 121, 95, 116, 114, 117, 101]) = false) (q1 : (vb == [97, 108, 108, 95, 116, 114, 117, 101]) = false) (q2 : (vb == [98, 105, 116, 109, 97, 115, 107]) = false) (ff : Bool) (n : Nat) (hn : Okn n) (tf : Bool) (tb : Int) (sg : Bool) (gi ci : Nat) (va : Value) (at_ c : Nat) (hc1 : 1 ≤ c) (hat : at_ < c) (F : Nat → Nat) (hF : F at_ < 18446744073709551616) (w : World) (hgi : w.cell? ⟨gi, 0, none⟩ = some (.int .i64 at_))
    (H0 : ∀ W, Below w.heap.size w W → Calls Tryz.prog 64 #[insV vb ff n tf tb sg, va, .int .i64 0] W (LPost W c F)) :
    Calls Tryz.prog 36 #[insV vb ff n tf tb sg, .slice (some ⟨gi, 0, none⟩) 1 ci, va] w fun e w' => e = .returned (.int .u64 (extF n sg (F at_) : Nat)) ∧ Below w.heap.size w w' := by
  have hgl : gi < w.heap.size := World.block_lt_of_cell? _ _ hgi
  unfold insV at H0 ⊢
  obtain ⟨s, hs⟩ : ∃ s, s = str vb := ⟨_, rfl⟩
  rw [← hs] at H0 ⊢
  have z0 : (s.toList == [97, 110, 121, 95, 116, 114, 117, 101]) = false := by rw [hs, str_list]; exact q0
  have z1 : (s.toList == [97, 108, 108, 95, 116, 114, 117, 101]) = false := by rw [hs, str_list]; exact q1
  have z2 : (s.toList == [98, 105, 116, 109, 97, 115, 107]) = false := by rw [hs, str_list]; exact q2
  have HH0 := fun W h => hid (H0 W h)
  have HE := fun W => hid (ext_says n hn sg W)
  have HFF := hid hF
  obtain ⟨r, hr⟩ : ∃ r, r = extF n sg (F at_) := ⟨_, rfl⟩
  rw [← hr]
  have HRR := hid hr
  clear hr
  have eg : ∀ args w, (callFunc 120 args).run Tryz.prog w = .ok (.enter 120 args) w := enters_of Tryz.func120 (by kernel_rfl) rfl
  clear q0 q1 q2 hs H0 hn hF
  go_enter Tryz.func36, Tryz.ntmps36
  go_upto_region 15 with (go_at_call 64; (with_reducible refine (HH0 _ ((Below.refl _ w).alloc (Nat.le_refl _) _)).out.mono ?_); rintro e w1 ⟨v1, rfl, ho1, hb1⟩; have HO1 := hid ho1; have HX1 := hid (And.intro ((CA.new w _ 50).call hb1) (((Below.refl _ w).alloc (Nat.le_refl _) _).trans (hb1.mono (by simp)))); have x0 := HX1.out.1.at (k := 0) (v := .string s) rfl; clear ho1 hb1)
  obtain ⟨g1, o1, cap1, rfl, hg1, hcap1, hat1⟩ := RowAt.of_own HO1.out hc1
  have k1 := (hat1 at_ hat).1
  have x2 := HX1.out.1.at (k := 2) (v := .int .i64 n) rfl
  have x5 := HX1.out.1.at (k := 5) (v := .bool sg) rfl
  have xi := (HX1.out.2.cell (p := ⟨gi, 0, none⟩) hgl).trans hgi
  have hgi1 : gi < w1.heap.size := Nat.lt_of_lt_of_le hgl HX1.out.2.size
  have HB1 := hid HX1.out.2
  clear hat1 HO1 HX1 HH0 x0 hgi
  go_upto_region 16 with (go_at_call 77; refine (HE _).out.mono ?_; rintro e w2 ⟨⟨lb, rfl, hd⟩, hb2⟩; have HD2 := hid hd; have HN2 := hid hb2; clear hd hb2)
  have k2 := (HN2.out.cell (p := ⟨g1, o1 + at_, none⟩) hg1).trans k1
  have xi2 := (HN2.out.cell (p := ⟨gi, 0, none⟩) hgi1).trans xi
  have HB2 := hid (HB1.out.trans (HN2.out.mono HB1.out.size))
  have hf2 := HD2.out w2 (F at_) (Below.refl _ _) HFF.out
  rw [← HRR.out] at hf2
  have HF2 := hid hf2
  clear hf2
  clear k1 xi HN2 HB1 HD2 HE HFF HRR
  generalize F at_ = q at *
  go_wp2_with (go_at_fn 120; (with_reducible refine HF2.out.mono ?_); rintro e w3 ⟨rfl, hb3⟩; have HB3 := hid (HB2.out.trans (hb3.mono HB2.out.size)); clear hb3)
  go_ret
  exact ⟨rfl, HB3.out⟩
end Go.Proofs.YtlhakbkdlgejpaaGreatDoor
