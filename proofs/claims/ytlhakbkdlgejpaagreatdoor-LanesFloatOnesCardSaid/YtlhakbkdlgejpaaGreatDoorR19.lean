/-
  LAwakeC, LFLane, LFBase, FMath, FBel: merged, what the law does not reach left out (each text says what it holds where it lies in wip). No condition.
-/
import Derived.Test.YtlhakbkdlgejpaaGreatDoorR18
import Derived.Test.YtlhakbkdlgejpaaGreatDoorR15
import Derived.Test.YtlhakbkdlgejpaaGreatDoorR10
import Ieee.Arith
import Derived.Test.YtlhakbkdlgejpaaGreatDoorProg
import Derived.WalkKit
import Derived.WalkSpells
import Derived.WalkLawsBesides
import Derived.WalkSmall
import Derived.Below
import Derived.Laws.Bits64b
import Derived.Deep.RegionHeld3
import Derived.Deep.QuietTactic
import Derived.BigQuiet
set_option linter.unusedSimpArgs false
set_option linter.unusedVariables false
set_option maxRecDepth 100000
namespace Go.Proofs.YtlhakbkdlgejpaaGreatDoor
open Go.RowKit
theorem and_1023 (a : Int) : ∃ K : Nat, K ≤ 1023 ∧ bits .and .i64 a 1023 = (K : Int) := by
  refine ⟨(BitVec.ofInt 64 a).toNat &&& 1023, Nat.and_le_right, ?_⟩
  have hle : (BitVec.ofInt 64 a).toNat &&& 1023 ≤ 1023 := Nat.and_le_right
  have e2 : BitVec.toNat (BitVec.ofInt 64 1023) = 1023 := by decide
  show IntKind.i64.wrap ((BitVec.ofInt 64 a &&& BitVec.ofInt 64 1023).toNat : Int) = _
  rw [BitVec.toNat_and, e2, IntKind.wrap_i64]
  generalize (BitVec.ofInt 64 a).toNat &&& 1023 = q at *
  omega
theorem row16 (w : World) : RowAt (w.alloc (.cells #[.int .u64 200, .int .u64 200, .int .u64 200, .int .u64 200, .int .u64 200, .int .u64 200, .int .u64 200, .int .u64 200, .int .u64 200, .int .u64 200, .int .u64 200, .int .u64 200, .int .u64 200, .int .u64 200, .int .u64 200, .int .u64 200] 22)) (.slice (some ⟨w.heap.size, 0, none⟩) 16 16) 16 (fun _ => 200) := by
  have h := CA.new w #[.int .u64 200, .int .u64 200, .int .u64 200, .int .u64 200, .int .u64 200, .int .u64 200, .int .u64 200, .int .u64 200, .int .u64 200, .int .u64 200, .int .u64 200, .int .u64 200, .int .u64 200, .int .u64 200, .int .u64 200, .int .u64 200] 22
  refine ⟨_, 0, 16, rfl, h.lt, Nat.le_refl _, fun j hj => ?_⟩
  rw [Nat.zero_add]
  refine ⟨h.at (k := j) ?_, h.free j⟩
  rcases (show j = 0 ∨ j = 1 ∨ j = 2 ∨ j = 3 ∨ j = 4 ∨ j = 5 ∨ j = 6 ∨ j = 7 ∨ j = 8 ∨ j = 9 ∨ j = 10 ∨ j = 11 ∨ j = 12 ∨ j = 13 ∨ j = 14 ∨ j = 15 by omega) with rfl | rfl | rfl | rfl | rfl | rfl | rfl | rfl | rfl | rfl | rfl | rfl | rfl | rfl | rfl | rfl <;> rfl
theorem ar_two (w : World) (alo ahi blo bhi : Nat) (T : TypeId) : AR (w.alloc (.cells #[.int .i64 123, .int .u64 (alo : Nat), .int .u64 (ahi : Nat), .bool false, .int .i64 123, .int .u64 (blo : Nat), .int .u64 (bhi : Nat), .bool false] T)) (.slice (some ⟨w.heap.size, 0, none⟩) 2 2) [(123, alo, ahi, false), (123, blo, bhi, false)] := by
  have h := CA.new w #[.int .i64 123, .int .u64 (alo : Nat), .int .u64 (ahi : Nat), .bool false, .int .i64 123, .int .u64 (blo : Nat), .int .u64 (bhi : Nat), .bool false] T
  refine ⟨_, 2, rfl, h.lt, Nat.le_refl _, fun j c hj => ?_⟩
  match j, hj with
  | 0, hj =>
    obtain rfl : (123, alo, ahi, false) = c := by simpa using hj
    exact ⟨h.at (k := 0) rfl, h.at (k := 1) rfl, h.at (k := 2) rfl, h.at (k := 3) rfl⟩
  | 1, hj =>
    obtain rfl : (123, blo, bhi, false) = c := by simpa using hj
    exact ⟨h.at (k := 4) rfl, h.at (k := 5) rfl, h.at (k := 6) rfl, h.at (k := 7) rfl⟩
  | j + 2, hj => simp at hj
set_option maxHeartbeats 4000000 in
set_option maxRecDepth 100000 in
theorem awake_says (w : World) (hg : Glob w) : Calls Tryz.prog 19 #[] w fun e w' => e = .returned (.bool true) ∧ Below w.heap.size w w' := by
  have HS : ∀ W, Hid (Calls Tryz.prog 28 #[.int .i64 32, .agg #[.int .i64 0, .int .u64 4294967297, .int .u64 3, .bool false]] W (LPost W 4 (splitF 32 4294967297 3))) := fun W => hid (Split_says 32 (by right; right; left; rfl) 0 4294967297 3 false (by decide) (by decide) W)
  have hJ1 : loF 8 (fun _ => 200) = 14468034567615334600 := by decide +kernel
  have hJ2 : hiF 8 (fun _ => 200) = 14468034567615334600 := by decide +kernel
  have HJ : ∀ W v, RowAt W v 16 (fun _ => 200) → Hid (Calls Tryz.prog 29 #[.int .i64 8, v] W fun e w' => e = .returned (.tuple #[.agg #[.int .i64 123, .int .u64 14468034567615334600, .int .u64 14468034567615334600, .bool false], .int .i64 0]) ∧ Below W.heap.size W w') := fun W v h => by
    have H := Join_says 8 (by left; rfl) v (fun _ => 200) W h (fun _ _ => by decide)
    rw [hJ1, hJ2] at H
    exact hid H
  have HD : ∀ W, Glob W → ∀ va, AR W va [(123, 14468034567615334600, 14468034567615334600, false), (123, 100, 56, false)] → Hid (Calls Tryz.prog 20 #[.int .i64 64878, .slice none 0 0, va] W fun e w' => e = .returned (.tuple #[.agg #[.int .i64 123, .int .u64 14468034567615334444, .int .u64 14468034567615334400, .bool false], .int .i64 0]) ∧ Below W.heap.size W w') := fun W h va ha => hid (Do_awake W h va ha)
  have HL : ∀ vi va W, Hid (Calls Tryz.prog 20 #[.int .i64 106, vi, va] W fun e w' => e = .returned (.tuple #[.agg #[.int .i64 0, .int .u64 0, .int .u64 0, .bool false], .int .i64 1]) ∧ Below W.heap.size W w') := fun vi va W => hid (Do_low 106 (by decide) vi va W)
  have HG := hid hg
  clear hJ1 hJ2 hg
  go_enter Tryz.func19, Tryz.ntmps19
  go_upto_region 2 with (go_at_call 28; (with_reducible refine (HS _).out.mono ?_); rintro e w1 ⟨v1, rfl, ho1, hb1⟩; have HO1 := hid ho1; have HB1 := hid hb1; clear ho1 hb1)
  obtain ⟨g1, c1, rfl⟩ : ∃ g cap, v1 = .slice (some ⟨g, 0, none⟩) 4 cap := owned_at HO1.out (by decide)
  have k0 : w1.cell? ⟨g1, 0, none⟩ = some (.int .u64 1) := HO1.out.cellAt 0 (by decide)
  have k2 : w1.cell? ⟨g1, 2, none⟩ = some (.int .u64 3) := HO1.out.cellAt 2 (by decide)
  have hg1 : g1 < w1.heap.size := (HO1.out.lt g1 rfl).2
  clear HO1 HS
  have HJ1 := HJ _ _ (row16 w1)
  clear HJ
  go_upto_region 3 with (go_at_call 29; (with_reducible refine HJ1.out.mono ?_); rintro e w2 ⟨rfl, hb2⟩; have HN2 := hid (below_new hb2); clear hb2)
  have hB2 : Below w.heap.size w w2 := HB1.out.trans (HN2.out.2.mono HB1.out.size)
  have k02 := (HN2.out.2.cell (p := ⟨g1, 0, none⟩) hg1).trans k0
  have k22 := (HN2.out.2.cell (p := ⟨g1, 2, none⟩) hg1).trans k2
  have hg2 : g1 < w2.heap.size := Nat.lt_of_lt_of_le hg1 HN2.out.2.size
  have HG3 := hid (HG.out.next (hB2.alloc hB2.size (.cells #[.int .i64 123, .int .u64 14468034567615334600, .int .u64 14468034567615334600, .bool false] 24)))
  have HB3 := hid (hB2.alloc hB2.size (.cells #[.int .i64 123, .int .u64 14468034567615334600, .int .u64 14468034567615334600, .bool false] 24))
  have hC3 := CA.new w2 #[.int .i64 123, .int .u64 14468034567615334600, .int .u64 14468034567615334600, .bool false] 24
  have k03 := (((Below.refl _ w2).alloc (Nat.le_refl _) (.cells #[.int .i64 123, .int .u64 14468034567615334600, .int .u64 14468034567615334600, .bool false] 24)).cell (p := ⟨g1, 0, none⟩) hg2).trans k02
  have k23 := (((Below.refl _ w2).alloc (Nat.le_refl _) (.cells #[.int .i64 123, .int .u64 14468034567615334600, .int .u64 14468034567615334600, .bool false] 24)).cell (p := ⟨g1, 2, none⟩) hg2).trans k22
  have hg3 : g1 < (w2.alloc (.cells #[.int .i64 123, .int .u64 14468034567615334600, .int .u64 14468034567615334600, .bool false] 24)).heap.size := by rw [size_al]; omega
  generalize w2.alloc (.cells #[.int .i64 123, .int .u64 14468034567615334600, .int .u64 14468034567615334600, .bool false] 24) = W3 at *
  generalize w2.heap.size = g2 at *
  clear k0 k2 k02 k22 hg1 hg2 HN2 hB2 HJ1 HB1
  have a0 := hC3.at (k := 0) (v := .int .i64 123) rfl
  have a1 := hC3.at (k := 1) (v := .int .u64 14468034567615334600) rfl
  have a2 := hC3.at (k := 2) (v := .int .u64 14468034567615334600) rfl
  have a3 := hC3.at (k := 3) (v := .bool false) rfl
  have HD1 := HD _ (HG.out.next (HB3.out.alloc HB3.out.size (.cells #[.int .i64 123, .int .u64 14468034567615334600, .int .u64 14468034567615334600, .bool false, .int .i64 123, .int .u64 100, .int .u64 56, .bool false] 24))) _ (ar_two W3 14468034567615334600 14468034567615334600 100 56 24)
  have HBB := hid (HB3.out.alloc HB3.out.size (.cells #[.int .i64 123, .int .u64 14468034567615334600, .int .u64 14468034567615334600, .bool false, .int .i64 123, .int .u64 100, .int .u64 56, .bool false] 24))
  have kk := fun o => (((Below.refl _ W3).alloc (Nat.le_refl _) o).cell (p := ⟨g1, 0, none⟩) hg3).trans k03
  have kk2 := fun o => (((Below.refl _ W3).alloc (Nat.le_refl _) o).cell (p := ⟨g1, 2, none⟩) hg3).trans k23
  have hsz3 : ∀ o, g1 < (W3.alloc o).heap.size := fun o => by rw [size_al]; omega
  clear HD
  go_upto_region 4 with (go_at_call 20; (with_reducible refine HD1.out.mono ?_); rintro e w4 ⟨rfl, hb4⟩; have HN4 := hid hb4; clear hb4)
  have HB4 := hid (HBB.out.trans (HN4.out.mono HBB.out.size))
  have p0 := (HN4.out.cell (p := ⟨g1, 0, none⟩) (hsz3 _)).trans (kk _)
  have p2 := (HN4.out.cell (p := ⟨g1, 2, none⟩) (hsz3 _)).trans (kk2 _)
  have hg4 : g1 < w4.heap.size := Nat.lt_of_lt_of_le (hsz3 _) HN4.out.size
  have HB5 := hid (HB4.out.alloc HB4.out.size (.cells #[.int .i64 123, .int .u64 14468034567615334444, .int .u64 14468034567615334400, .bool false] 24))
  have HC5 := hid (CA.new w4 #[.int .i64 123, .int .u64 14468034567615334444, .int .u64 14468034567615334400, .bool false] 24)
  have q0 := (((Below.refl _ w4).alloc (Nat.le_refl _) (.cells #[.int .i64 123, .int .u64 14468034567615334444, .int .u64 14468034567615334400, .bool false] 24)).cell (p := ⟨g1, 0, none⟩) hg4).trans p0
  have q2 := (((Below.refl _ w4).alloc (Nat.le_refl _) (.cells #[.int .i64 123, .int .u64 14468034567615334444, .int .u64 14468034567615334400, .bool false] 24)).cell (p := ⟨g1, 2, none⟩) hg4).trans p2
  have hg5 : g1 < (w4.alloc (.cells #[.int .i64 123, .int .u64 14468034567615334444, .int .u64 14468034567615334400, .bool false] 24)).heap.size := by rw [size_al]; omega
  clear kk kk2 hsz3 HD1 HN4 HBB p0 p2 hg4 k03 k23 a0 a1 a2 a3 hC3 hg3 HB3 HG3
  generalize w4.alloc (.cells #[.int .i64 123, .int .u64 14468034567615334444, .int .u64 14468034567615334400, .bool false] 24) = W5 at *
  generalize w4.heap.size = g4 at *
  clear HB4
  have HL1 := HL (.slice none 0 0) (.slice none 0 0) W5
  clear HL
  go_upto_region 5 with (go_at_call 20; (with_reducible refine HL1.out.mono ?_); rintro e w6 ⟨rfl, hb6⟩; have HN6 := hid hb6; clear hb6)
  have HB6 := hid (HB5.out.trans (HN6.out.mono HB5.out.size))
  have HB7 := hid (HB6.out.alloc HB6.out.size (.cells #[.int .i64 0, .int .u64 0, .int .u64 0, .bool false] 24))
  have HC7 := hid ((HC5.out.call HN6.out).alloc (.cells #[.int .i64 0, .int .u64 0, .int .u64 0, .bool false] 24))
  have r0 := (((Below.refl _ w6).alloc (Nat.le_refl _) (.cells #[.int .i64 0, .int .u64 0, .int .u64 0, .bool false] 24)).cell (p := ⟨g1, 0, none⟩) (Nat.lt_of_lt_of_le hg5 HN6.out.size)).trans ((HN6.out.cell (p := ⟨g1, 0, none⟩) hg5).trans q0)
  have r2 := (((Below.refl _ w6).alloc (Nat.le_refl _) (.cells #[.int .i64 0, .int .u64 0, .int .u64 0, .bool false] 24)).cell (p := ⟨g1, 2, none⟩) (Nat.lt_of_lt_of_le hg5 HN6.out.size)).trans ((HN6.out.cell (p := ⟨g1, 2, none⟩) hg5).trans q2)
  clear q0 q2 hg5 HB6 HB5 HC5 HL1 HN6
  generalize w6.alloc (.cells #[.int .i64 0, .int .u64 0, .int .u64 0, .bool false] 24) = W7 at *
  have t0 := HC7.out.at (k := 0) (v := .int .i64 123) rfl
  have t1 := HC7.out.at (k := 1) (v := .int .u64 14468034567615334444) rfl
  have t2 := HC7.out.at (k := 2) (v := .int .u64 14468034567615334400) rfl
  clear HG HC7
  go_upto_region 6 with fail
  go_wp2
  go_ret
  exact ⟨rfl, HB7.out⟩
end Go.Proofs.YtlhakbkdlgejpaaGreatDoor
namespace Go.Proofs.YtlhakbkdlgejpaaGreatDoor
open Go.RowKit
def FBINL : List (List UInt8) := [[], [97, 100, 100], [115, 117, 98], [109, 117, 108], [100, 105, 118], [109, 105, 110], [109, 97, 120], [45], [112, 109, 105, 110], [112, 109, 97, 120]]
def FUNL : List (List UInt8) := [[], [97, 98, 115], [110, 101, 103], [115, 113, 114, 116], [99, 101, 105, 108], [102, 108, 111, 111, 114], [116, 114, 117, 110, 99], [110, 101, 97, 114, 101, 115, 116]]
theorem place_f (v : List UInt8) (L : List (List UInt8)) (hL : L.length ≤ 30) (cs : Array Value) (hcs : cs = (sc L).toArray) (n : Nat) (hn : n = L.length) (k : Int) (hk : plL L v 0 = k) :
    ∀ (W : World), Calls Tryz.prog 195 #[.string (str v), .slice (some ⟨W.heap.size, 0, none⟩) n n] (W.alloc (.cells cs 9)) fun e w' => e = .returned (.int .i64 k) ∧ (W.alloc (.cells cs 9)) = w' := fun W => by
  subst hcs
  rw [← hk]
  exact RPlace_says v L hL _ n hn _ (CA.new W _ 9)
set_option maxHeartbeats 4000000 in
theorem RLaneF_un (n : Nat) (v : List UInt8) (h0 : plL FBINL v 0 = -1) (k : Nat) (hk : plL FUNL v 0 = k) (hk1 : 1 ≤ k) (r : Nat) (a b : Nat)
    (HB : ∀ W, Calls Tryz.prog 147 #[.int .i64 n, .int .i64 k, .int .u64 a] W fun e w' => e = .returned (.tuple #[.int .u64 r, .int .i64 0]) ∧ Below W.heap.size W w') (w : World) :
    Calls Tryz.prog 131 #[.int .i64 n, .bool true, .string (str v), .int .u64 a, .int .u64 b] w fun e w' => e = .returned (.int .u64 r) ∧ Below w.heap.size w w' := by
  have HP1 := fun W => hid (place_f v FBINL (by decide) #[.string ⟨#[]⟩, .string ⟨#[97, 100, 100]⟩, .string ⟨#[115, 117, 98]⟩, .string ⟨#[109, 117, 108]⟩, .string ⟨#[100, 105, 118]⟩, .string ⟨#[109, 105, 110]⟩, .string ⟨#[109, 97, 120]⟩, .string ⟨#[45]⟩, .string ⟨#[112, 109, 105, 110]⟩, .string ⟨#[112, 109, 97, 120]⟩] rfl 10 rfl (-1) h0 W)
  have HP2 := fun (W : World) (o0 : Obj) => place_f v FUNL (by decide) #[.string ⟨#[]⟩, .string ⟨#[97, 98, 115]⟩, .string ⟨#[110, 101, 103]⟩, .string ⟨#[115, 113, 114, 116]⟩, .string ⟨#[99, 101, 105, 108]⟩, .string ⟨#[102, 108, 111, 111, 114]⟩, .string ⟨#[116, 114, 117, 110, 99]⟩, .string ⟨#[110, 101, 97, 114, 101, 115, 116]⟩] rfl 8 rfl k hk (W.alloc o0)
  simp only [size_al] at HP2
  have HP2 := fun W o0 => hid (HP2 W o0)
  have HBB := fun W => hid (HB W)
  have hgt : decide ((k : Int) > 0) = true := decide_eq_true (by omega)
  have hgt' : decide ((0 : Int) < (k : Int)) = true := decide_eq_true (by omega)
  generalize str v = s at *
  clear hk h0 HB
  go_enter Tryz.func131, Tryz.ntmps131
  go_wp2_with (first
    | (go_at_call 195; (with_reducible refine (HP1 _).out.mono ?_); rintro e w1 ⟨rfl, rfl⟩)
    | (go_at_call 195; (with_reducible refine (HP2 _ _).out.mono ?_); rintro e w1 ⟨rfl, rfl⟩; have HA := hid (((Below.refl _ w).alloc (Nat.le_refl _) (.cells #[.string ⟨#[]⟩, .string ⟨#[97, 100, 100]⟩, .string ⟨#[115, 117, 98]⟩, .string ⟨#[109, 117, 108]⟩, .string ⟨#[100, 105, 118]⟩, .string ⟨#[109, 105, 110]⟩, .string ⟨#[109, 97, 120]⟩, .string ⟨#[45]⟩, .string ⟨#[112, 109, 105, 110]⟩, .string ⟨#[112, 109, 97, 120]⟩] 9)).alloc (by simp) (.cells #[.string ⟨#[]⟩, .string ⟨#[97, 98, 115]⟩, .string ⟨#[110, 101, 103]⟩, .string ⟨#[115, 113, 114, 116]⟩, .string ⟨#[99, 101, 105, 108]⟩, .string ⟨#[102, 108, 111, 111, 114]⟩, .string ⟨#[116, 114, 117, 110, 99]⟩, .string ⟨#[110, 101, 97, 114, 101, 115, 116]⟩] 9)))
    | (go_at_call 147; refine (HBB _).out.mono ?_; rintro e w2 ⟨rfl, hb2⟩; have HB2 := hid (HA.out.trans (hb2.mono (by simp only [size_al]; omega))); clear hb2))
  go_ret
  exact ⟨rfl, HB2.out⟩
end Go.Proofs.YtlhakbkdlgejpaaGreatDoor
namespace Go.Proofs.YtlhakbkdlgejpaaGreatDoor
open Go.RowKit
noncomputable def chkFl (op : Int) : Bool := ((toL (nmL op)).1 == true) && ((headC (nmL op) 46).headD 0 == 102) && decide (1 ≤ (headC (nmL op) 46).length)
noncomputable def n3264 (op : Int) : Bool := ((toL (nmL op)).2 == 32) || ((toL (nmL op)).2 == 64)
/-- What the Boolean of all kinds says. -/
structure PCF (two : Bool) (op : Int) (n : Nat) (vb : List UInt8) (sg : Bool) (sh what nm : List UInt8) (ro : Int) (tk lv : List UInt8) (fx : Bool) : Prop where
  kn : knB (lineL op) = true
  lo : 64768 ≤ op
  hi : op < 65024
  im : (lineL op).2.1 = 0
  la : laL op = (if two then [123, 123] else [123])
  lb : lbL op = [123]
  ea : eachV vb = true
  len : nm.length ≤ 1000
  xs : ((xsL nm).2 == 0) = true
  okn : Okn n
  n0 : (vb == [110, 111, 116]) = false
  n1 : (vb == [97, 110, 100, 110, 111, 116]) = false
  ro0 : 0 ≤ ro
  of : ofL op = (ro, nm, 0, tk, lv, fx)
  tk1 : tk.length ≤ 100
  lv1 : lv.length ≤ 100
  tk2 : tyL tk = (if two then [123, 123] else [123])
  lv2 : tyL lv = [123]
  bi : biL sh = n
  w0 : (what == [115, 112, 108, 97, 116]) = false
  w1 : (what == [115, 119, 105, 122, 122, 108, 101]) = false
  w2 : (what == [97, 108, 108, 95, 116, 114, 117, 101]) = false
  w3 : (what == [98, 105, 116, 109, 97, 115, 107]) = false
  ns : noSh 10 what = true
  par : parV nm = insV vb true n true n sg
  nm1 : (lineL op).1 = str nm
  shE : headC nm 46 = sh
  whE : tailC nm 46 = what
  ix : ∀ W, (Instr.index 9 (.string (str sh)) (.int .i64 0)).run Tryz.prog W = .ok (.int .u8 102) W
theorem PCF_of (two : Bool) (op : Int) (h : chkC two op = true) (h' : chkFl op = true) :
    ∃ n ro tk lv fx, PCF two op n (verbL (nmL op)) (sgL (nmL op)) (headC (nmL op) 46) (tailC (nmL op) 46) (nmL op) ro tk lv fx := by
  unfold chkC at h
  unfold chkFl at h'
  have e1 : (lineL op).1 = str (nmL op) := (list_str _).symm
  generalize nmL op = nm at *
  obtain ⟨⟨ro, nm', im, tk, lv, fx⟩, hr⟩ : ∃ r, ofL op = r := ⟨_, rfl⟩
  rw [hr] at h
  obtain ⟨n, hn⟩ : ∃ n, n = (toL nm).2.toNat := ⟨_, rfl⟩
  rw [← hn] at h
  simp only [Bool.and_eq_true, decide_eq_true_eq, beq_iff_eq, Bool.not_eq_true'] at h h'
  obtain ⟨⟨⟨⟨⟨⟨⟨⟨⟨⟨⟨⟨⟨⟨⟨⟨⟨⟨⟨⟨⟨⟨⟨⟨⟨a1, a2⟩, a3⟩, a4⟩, a5⟩, a6⟩, a7⟩, a8⟩, a9⟩, a10⟩, a11⟩, a12⟩, a13⟩, b1⟩, b2⟩, b3⟩, b4⟩, b5⟩, b6⟩, b7⟩, c1⟩, c2⟩, c3⟩, c4⟩, c5⟩, c6⟩ := h
  obtain ⟨⟨d1, d2⟩, d3⟩ := h'
  subst b2
  subst b3
  have x0 : ((xsL nm').2 == 0) = true := by rw [a9]; rfl
  refine ⟨n, ro, tk, lv, fx, a1, a2, a3, a4, a5, a6, a7, a8, x0, a10, a12, a13, b1, hr, b4, b5, b6, b7, by rw [c1, a11], c2, c3, c4, c5, c6, ?_, e1, rfl, rfl, ?_⟩
  · unfold parV
    have hf : fromL nm' = toL nm' := by unfold fromL; rw [if_pos x0]
    rw [hf, d1, a11]
  · cases hc : headC nm' 46 with
    | nil => rw [hc] at d3; simp at d3
    | cons b t =>
      rw [hc] at d2
      obtain rfl : b = 102 := d2
      exact fun W => ix_str 102 t W
theorem PCF_n (two : Bool) (op : Int) (h : n3264 op = true) (n : Nat) (hn : biL (headC (nmL op) 46) = n) (hc : chkC two op = true) : n = 32 ∨ n = 64 := by
  have e : biL (headC (nmL op) 46) = (toL (nmL op)).2 := by
    unfold chkC at hc
    simp only [Bool.and_eq_true, decide_eq_true_eq, beq_iff_eq, Bool.not_eq_true'] at hc
    obtain ⟨⟨⟨⟨⟨⟨c0, c1⟩, c2⟩, c3⟩, c4⟩, c5⟩, c6⟩ := hc
    exact c1
  unfold n3264 at h
  rw [← e, hn] at h
  simp only [Bool.or_eq_true, beq_iff_eq] at h
  omega
end Go.Proofs.YtlhakbkdlgejpaaGreatDoor
namespace Go.Proofs.YtlhakbkdlgejpaaGreatDoor.Fl
open Ieee
/-- n / 2^d to the nearest, between two to the even one. -/
def rne (n d : Nat) : Nat :=
  n / 2 ^ d + (if 2 ^ d < 2 * (n % 2 ^ d) ∨ (2 ^ d = 2 * (n % 2 ^ d) ∧ n / 2 ^ d % 2 = 1) then 1 else 0)
theorem log2_two_pow_mul {m : Nat} (hm : m ≠ 0) (k : Nat) : (m * 2 ^ k).log2 = m.log2 + k := by
  have h2 : 0 < 2 ^ k := Nat.two_pow_pos k
  have hne : m * 2 ^ k ≠ 0 := Nat.mul_ne_zero hm (by omega)
  rw [Nat.log2_eq_iff hne]
  have h1 := Nat.log2_self_le hm
  have h3 := @Nat.lt_log2_self m
  constructor
  · rw [Nat.pow_add]; exact Nat.mul_le_mul_right _ h1
  · rw [show m.log2 + k + 1 = (m.log2 + 1) + k by omega, Nat.pow_add 2 (m.log2 + 1) k]
    exact Nat.mul_lt_mul_of_pos_right h3 h2
theorem rne_zero (n : Nat) : rne n 0 = n := by
  unfold rne; simp [Nat.mod_one]
theorem rne_big {n d : Nat} (h : 2 * n < 2 ^ d) : rne n d = 0 := by
  unfold rne
  have h1 : n < 2 ^ d := by omega
  rw [Nat.div_eq_of_lt h1, Nat.mod_eq_of_lt h1]
  simp
  omega
theorem cut_rne (neg : Bool) (n d : Nat) : Toward.even.cut neg n d = rne n d := by
  have key : ∀ D : Nat, (n / 2 ^ D + (decide (2 ^ D < 2 * (n % 2 ^ D)) || (2 ^ D == 2 * (n % 2 ^ D) && n / 2 ^ D % 2 == 1)).toNat) = rne n D := by
    intro D
    unfold rne
    congr 1
    by_cases h1 : 2 ^ D < 2 * (n % 2 ^ D)
    · simp [h1]
    · by_cases h2 : 2 ^ D = 2 * (n % 2 ^ D)
      · by_cases h3 : n / 2 ^ D % 2 = 1
        · simp [h1, h2.symm, h3]
        · have : (n / 2 ^ D % 2 == 1) = false := by simpa using h3
          simp [h1, h2.symm, h3]
      · have : (2 ^ D == 2 * (n % 2 ^ D)) = false := by simpa using h2
        simp [h1, h2, this]
  unfold Toward.cut
  simp only [Nat.one_shiftLeft]
  by_cases h : d ≤ n.log2 + 2
  · rw [Nat.min_eq_left h]; exact key d
  · rw [Nat.min_eq_right (by omega), key]
    have hn := @Nat.lt_log2_self n
    have e : (2 : Nat) ^ (n.log2 + 2) = 2 * 2 ^ (n.log2 + 1) := by rw [show n.log2 + 2 = (n.log2 + 1) + 1 by omega, Nat.pow_succ]; omega
    have hle : (2 : Nat) ^ (n.log2 + 2) ≤ 2 ^ d := Nat.pow_le_pow_right (by omega) (by omega)
    rw [rne_big (by omega), rne_big (by omega)]
theorem rne_scale (n d k : Nat) : rne (n * 2 ^ k) (d + k) = rne n d := by
  have h2 : 0 < 2 ^ k := Nat.two_pow_pos k
  unfold rne
  rw [Nat.pow_add, Nat.mul_div_mul_right _ _ h2, Nat.mul_mod_mul_right]
  congr 1
  have e1 : 2 ^ d * 2 ^ k < 2 * (n % 2 ^ d * 2 ^ k) ↔ 2 ^ d < 2 * (n % 2 ^ d) := by
    rw [← Nat.mul_assoc]; exact Nat.mul_lt_mul_right h2
  have e2 : 2 ^ d * 2 ^ k = 2 * (n % 2 ^ d * 2 ^ k) ↔ 2 ^ d = 2 * (n % 2 ^ d) := by
    rw [← Nat.mul_assoc]; exact ⟨fun h => Nat.eq_of_mul_eq_mul_right h2 h, fun h => congrArg (· * 2 ^ k) h⟩
  simp only [e1, e2]
/-- The same, to a place that may lie on either side. -/
def rneI (n : Nat) (d : Int) : Nat := if 0 ≤ d then rne n d.toNat else n * 2 ^ (-d).toNat
theorem rneI_scale (n : Nat) (d : Int) (k : Nat) : rneI (n * 2 ^ k) (d + k) = rneI n d := by
  unfold rneI
  by_cases h : 0 ≤ d
  · rw [if_pos h, if_pos (by omega), show (d + k).toNat = d.toNat + k by omega, rne_scale]
  · rw [if_neg h]
    by_cases h' : 0 ≤ d + k
    · rw [if_pos h']
      obtain ⟨j, hj⟩ : ∃ j : Nat, j = (d + k).toNat := ⟨_, rfl⟩
      have e : k = (-d).toNat + j := by omega
      rw [← hj]
      have e3 : n * 2 ^ k = n * 2 ^ (-d).toNat * 2 ^ j := by rw [Nat.mul_assoc, ← Nat.pow_add, ← e]
      have := rne_scale (n * 2 ^ (-d).toNat) 0 j
      rw [Nat.zero_add, rne_zero] at this
      rw [e3, this]
    · rw [if_neg h']
      rw [Nat.mul_assoc, ← Nat.pow_add]
      congr 2
      omega
/-- The place of the last digit that is kept. -/
def lastP (f : Format) (m : Nat) (e : Int) : Int := max (e + m.log2 - f.fractionBits) f.leastPlace
def rungOf (f : Format) (m : Nat) (e : Int) : Nat :=
  if m = 0 then 0 else min ((lastP f m e - f.leastPlace).toNat * 2 ^ f.fractionBits + rneI m (lastP f m e - e)) f.infRung
theorem nearest_eq (f : Format) (neg : Bool) (m : Nat) (e : Int) : f.nearest neg m e = f.word neg (rungOf f m e) := by
  unfold Format.nearest rungOf
  by_cases hm : m = 0
  · simp [hm]
  · simp only [if_neg hm]
    rw [show max (e + ↑m.log2 - ↑f.fractionBits) f.leastPlace = lastP f m e from rfl]
    congr 2
    rw [cut_rne]
    show _ = _ + rneI m (lastP f m e - e)
    congr 1
    unfold rneI
    rw [Nat.shiftLeft_eq]
    by_cases h : 0 ≤ lastP f m e - e
    · rw [if_pos h, show (e - lastP f m e).toNat = 0 by omega]; simp
    · rw [if_neg h, show (lastP f m e - e).toNat = 0 by omega, rne_zero, show (-(lastP f m e - e)).toNat = (e - lastP f m e).toNat by omega]
theorem lastP_scale (f : Format) {m : Nat} (hm : m ≠ 0) (e : Int) (k : Nat) : lastP f (m * 2 ^ k) (e - k) = lastP f m e := by
  unfold lastP; rw [log2_two_pow_mul hm]; congr 2; omega
theorem rungOf_scale (f : Format) (m : Nat) (e : Int) (k : Nat) : rungOf f (m * 2 ^ k) (e - k) = rungOf f m e := by
  by_cases hm : m = 0
  · simp [rungOf, hm]
  · have h2 : 0 < 2 ^ k := Nat.two_pow_pos k
    have hne : m * 2 ^ k ≠ 0 := Nat.mul_ne_zero hm (by omega)
    unfold rungOf
    rw [if_neg hm, if_neg hne, lastP_scale f hm]
    rw [show lastP f m e - (e - k) = lastP f m e - e + k by omega, rneI_scale]
/-- What is left out, told by one bit. -/
def jam (M d : Nat) : Nat := 2 * (M / 2 ^ d) + (if M % 2 ^ d = 0 then 0 else 1)
theorem jam_log2 {M d : Nat} (h : M / 2 ^ d ≠ 0) : (jam M d).log2 + d = M.log2 + 1 := by
  have hq : (jam M d).log2 = (M / 2 ^ d).log2 + 1 := by
    have hne : jam M d ≠ 0 := by unfold jam; omega
    rw [Nat.log2_eq_iff hne]
    have h1 := Nat.log2_self_le h
    have h2 := @Nat.lt_log2_self (M / 2 ^ d)
    have e1 : (2 : Nat) ^ ((M / 2 ^ d).log2 + 1) = 2 * 2 ^ (M / 2 ^ d).log2 := by rw [Nat.pow_succ]; omega
    have e2 : (2 : Nat) ^ ((M / 2 ^ d).log2 + 1 + 1) = 2 * 2 ^ ((M / 2 ^ d).log2 + 1) := by rw [Nat.pow_succ 2 ((M / 2 ^ d).log2 + 1)]; omega
    unfold jam
    constructor
    · rw [e1]; omega
    · rw [e2]; split <;> omega
  have hM : M.log2 = (M / 2 ^ d).log2 + d := by
    have hM0 : M ≠ 0 := by intro h0; rw [h0] at h; simp at h
    rw [Nat.log2_eq_iff hM0]
    have h1 := Nat.log2_self_le h
    have h2 := @Nat.lt_log2_self (M / 2 ^ d)
    have hp : 0 < 2 ^ d := Nat.two_pow_pos d
    have hdm := Nat.div_add_mod M (2 ^ d)
    have hml := Nat.mod_lt M hp
    constructor
    · rw [Nat.pow_add]
      calc 2 ^ (M / 2 ^ d).log2 * 2 ^ d ≤ M / 2 ^ d * 2 ^ d := Nat.mul_le_mul_right _ h1
        _ ≤ M := Nat.div_mul_le_self _ _
    · rw [show (M / 2 ^ d).log2 + d + 1 = ((M / 2 ^ d).log2 + 1) + d by omega, Nat.pow_add 2 ((M / 2 ^ d).log2 + 1)]
      exact (Nat.div_lt_iff_lt_mul hp).1 h2
  omega
theorem rne_jam (M d D : Nat) (hD : 2 ≤ D) : rne (jam M d) D = rne M (D + d - 1) := by
  obtain ⟨c, rfl⟩ : ∃ c, D = c + 2 := ⟨D - 2, by omega⟩
  rw [show c + 2 + d - 1 = c + 1 + d by omega]
  have hp : 0 < 2 ^ d := Nat.two_pow_pos d
  have hh : 0 < 2 ^ c := Nat.two_pow_pos c
  have hdm := Nat.div_add_mod M (2 ^ d)
  have hml := Nat.mod_lt M hp
  obtain ⟨q, hq⟩ : ∃ q, q = M / 2 ^ d := ⟨_, rfl⟩
  obtain ⟨r, hr⟩ : ∃ r, r = M % 2 ^ d := ⟨_, rfl⟩
  obtain ⟨P, hP⟩ : ∃ P, P = 2 ^ d := ⟨_, rfl⟩
  obtain ⟨h, hh'⟩ : ∃ h, h = 2 ^ c := ⟨_, rfl⟩
  have hqd := Nat.div_add_mod q (2 * h)
  have hql := Nat.mod_lt q (show 0 < 2 * h by omega)
  have e1 : (2 : Nat) ^ (c + 2) = 4 * h := by rw [Nat.pow_add, hh']; omega
  have e2 : (2 : Nat) ^ (c + 1 + d) = P * (2 * h) := by rw [Nat.pow_add, Nat.pow_succ, hh', hP, Nat.mul_comm (2 ^ c) 2, Nat.mul_comm]
  unfold rne jam
  rw [← hq, ← hr, e1, e2]
  -- quotients
  have s2 : (if r = 0 then (0 : Nat) else 1) < 2 := by split <;> omega
  obtain ⟨s, hs⟩ : ∃ s, s = (if r = 0 then (0 : Nat) else 1) := ⟨_, rfl⟩
  rw [← hs] at s2 ⊢
  obtain ⟨Q, hQ⟩ : ∃ Q, Q = q / (2 * h) := ⟨_, rfl⟩
  obtain ⟨q', hq'⟩ : ∃ q', q' = q % (2 * h) := ⟨_, rfl⟩
  rw [← hQ, ← hq'] at hqd
  rw [← hq'] at hql
  have d1 : (2 * q + s) / (4 * h) = Q := by
    rw [show 2 * q + s = (2 * q' + s) + (4 * h) * Q by rw [← hqd, Nat.mul_add]; have : 2 * (2 * h * Q) = 4 * h * Q := by rw [← Nat.mul_assoc, ← Nat.mul_assoc]; 
                                                       omega]
    rw [Nat.add_mul_div_left _ _ (by omega), Nat.div_eq_of_lt (by omega)]; omega
  have m1 : (2 * q + s) % (4 * h) = 2 * q' + s := by
    rw [show 2 * q + s = (2 * q' + s) + (4 * h) * Q by rw [← hqd, Nat.mul_add]; have : 2 * (2 * h * Q) = 4 * h * Q := by rw [← Nat.mul_assoc, ← Nat.mul_assoc]; 
                                                       omega]
    rw [Nat.add_mul_mod_self_left, Nat.mod_eq_of_lt (by omega)]
  have d2 : M / (P * (2 * h)) = Q := by rw [hP, ← Nat.div_div_eq_div_mul, ← hq, hQ]
  have m2 : M % (P * (2 * h)) = r + P * q' := by rw [hP, Nat.mod_mul, ← hq, ← hr, ← hq']
  rw [d1, m1, d2, m2]
  rw [← hr, ← hP] at hml
  rw [← hP] at hp
  congr 1
  have c1 : 4 * h < 2 * (2 * q' + s) ↔ P * (2 * h) < 2 * (r + P * q') := by
    rw [show P * (2 * h) = 2 * (P * h) by rw [← Nat.mul_assoc, Nat.mul_comm P 2, Nat.mul_assoc]]
    rcases Nat.lt_trichotomy q' h with hl | hl | hl
    · have : P * (q' + 1) ≤ P * h := Nat.mul_le_mul_left _ hl
      rw [Nat.mul_add] at this
      constructor <;> intro _ <;> omega
    · subst hl
      by_cases h0 : r = 0
      · rw [if_pos h0] at hs; constructor <;> intro _ <;> omega
      · rw [if_neg h0] at hs; constructor <;> intro _ <;> omega
    · have : P * (h + 1) ≤ P * q' := Nat.mul_le_mul_left _ hl
      rw [Nat.mul_add] at this
      constructor <;> intro _ <;> omega
  have c2 : 4 * h = 2 * (2 * q' + s) ↔ P * (2 * h) = 2 * (r + P * q') := by
    rw [show P * (2 * h) = 2 * (P * h) by rw [← Nat.mul_assoc, Nat.mul_comm P 2, Nat.mul_assoc]]
    rcases Nat.lt_trichotomy q' h with hl | hl | hl
    · have : P * (q' + 1) ≤ P * h := Nat.mul_le_mul_left _ hl
      rw [Nat.mul_add] at this
      constructor <;> intro _ <;> omega
    · subst hl
      by_cases h0 : r = 0
      · rw [if_pos h0] at hs; constructor <;> intro _ <;> omega
      · rw [if_neg h0] at hs; constructor <;> intro _ <;> omega
    · have : P * (h + 1) ≤ P * q' := Nat.mul_le_mul_left _ hl
      rw [Nat.mul_add] at this
      constructor <;> intro _ <;> omega
  simp only [c1, c2]
theorem rungOf_jam (f : Format) (M d : Nat) (e : Int) (h : 2 ^ (f.fractionBits + 1) ≤ M / 2 ^ d) : rungOf f (jam M d) (e + d - 1) = rungOf f M e := by
  have hp : 0 < 2 ^ (f.fractionBits + 1) := Nat.two_pow_pos _
  have hq : M / 2 ^ d ≠ 0 := by omega
  have hM : M ≠ 0 := by intro h0; rw [h0] at hq; simp at hq
  have hj : jam M d ≠ 0 := by unfold jam; omega
  have hl := jam_log2 hq
  have hL : lastP f (jam M d) (e + d - 1) = lastP f M e := by unfold lastP; congr 2; omega
  have hlog : f.fractionBits + 2 ≤ (jam M d).log2 := by
    rw [Nat.le_log2 hj]
    unfold jam
    rw [Nat.pow_succ]; omega
  unfold rungOf
  rw [if_neg hM, if_neg hj, hL]
  congr 2
  unfold rneI
  have hge : e + d - 1 + (jam M d).log2 - f.fractionBits ≤ lastP f (jam M d) (e + d - 1) := Int.le_max_left _ _
  rw [hL] at hge
  rw [if_pos (by omega), if_pos (by omega), rne_jam _ _ _ (by omega)]
  congr 1
  omega
/-- A number times a power of two, and perhaps a little more, rounded. -/
def rungR (f : Format) (m : Nat) (e : Int) (more : Bool) : Nat := rungOf f (2 * m + more.toNat) (e - 1)
theorem rungR_false (f : Format) (m : Nat) (e : Int) : rungR f m e false = rungOf f m e := by
  have := rungOf_scale f m e 1
  unfold rungR
  rw [← this]
  congr 1
  simp; omega
theorem rungR_scale (f : Format) (m : Nat) (e : Int) (more : Bool) (k : Nat) (h : more = true → 2 ^ (f.fractionBits + 1) ≤ m) :
    rungR f (m * 2 ^ k) (e - k) more = rungR f m e more := by
  cases more with
  | false => rw [rungR_false, rungR_false, rungOf_scale]
  | true =>
    have hk : 0 < 2 ^ k := Nat.two_pow_pos k
    have hk1 : 1 < 2 ^ (k + 1) := by rw [Nat.pow_succ]; omega
    have hdiv : (2 * (m * 2 ^ k) + 1) / 2 ^ (k + 1) = m := by
      rw [show 2 * (m * 2 ^ k) + 1 = 1 + 2 ^ (k + 1) * m by rw [Nat.pow_succ, Nat.mul_comm m, Nat.mul_comm (2 ^ k) 2, Nat.mul_assoc]; omega]
      rw [Nat.add_mul_div_left _ _ (by omega), Nat.div_eq_of_lt hk1]; omega
    have hmod : (2 * (m * 2 ^ k) + 1) % 2 ^ (k + 1) = 1 := by
      rw [show 2 * (m * 2 ^ k) + 1 = 1 + 2 ^ (k + 1) * m by rw [Nat.pow_succ, Nat.mul_comm m, Nat.mul_comm (2 ^ k) 2, Nat.mul_assoc]; omega]
      rw [Nat.add_mul_mod_self_left, Nat.mod_eq_of_lt hk1]
    have := rungOf_jam f (2 * (m * 2 ^ k) + 1) (k + 1) (e - k - 1) (by rw [hdiv]; exact h rfl)
    unfold rungR
    show rungOf f (2 * (m * 2 ^ k) + 1) (e - k - 1) = _
    rw [← this]
    unfold jam
    rw [hdiv, hmod]
    simp
    congr 1
    omega
end Go.Proofs.YtlhakbkdlgejpaaGreatDoor.Fl
namespace Go.Proofs.YtlhakbkdlgejpaaGreatDoor.Fl
open Go.RowKit
theorem hid {p : Prop} (h : p) : Hid p := h
theorem bnext {w w1 w2 : World} (h : Below w.heap.size w w1) (k : Below w1.heap.size w1 w2) : Below w.heap.size w w2 := h.trans (k.mono h.size)
/-- A cell that there was reads as it did behind a call that makes memory. -/
theorem bkeep {w1 w2 : World} {a : Addr} {v : Value} (h : w1.cell? a = some v) (hb : Below w1.heap.size w1 w2) : w2.cell? a = some v := by
  rw [hb.cell (World.block_lt_of_cell? _ _ h)]; exact h
theorem word_and {k a : Nat} (ha : a < 2 * 2 ^ k) : a &&& 2 ^ k = if 2 ^ k ≤ a then 2 ^ k else 0 := by
  have hp : 0 < 2 ^ k := Nat.two_pow_pos k
  have h1 : a.testBit k = decide (2 ^ k ≤ a) := by
    rw [Nat.testBit_eq_decide_div_mod_eq]
    by_cases hc : 2 ^ k ≤ a
    · have : a / 2 ^ k = 1 := by rw [Nat.div_eq_iff hp]; omega
      simp [this, hc]
    · have : a / 2 ^ k = 0 := Nat.div_eq_of_lt (by omega)
      simp [this, hc]
  apply Nat.eq_of_testBit_eq
  intro j
  rw [Nat.testBit_and, Nat.testBit_two_pow]
  by_cases h : k = j
  · subst h
    rw [h1]
    by_cases hc : 2 ^ k ≤ a <;> simp [hc, Nat.testBit_two_pow]
  · by_cases hc : 2 ^ k ≤ a <;> simp [hc, h, Nat.testBit_two_pow]
theorem word_xor {k a : Nat} (ha : a < 2 * 2 ^ k) : a ^^^ 2 ^ k = if 2 ^ k ≤ a then a - 2 ^ k else a + 2 ^ k := by
  have hp : 0 < 2 ^ k := Nat.two_pow_pos k
  by_cases hc : 2 ^ k ≤ a
  · rw [if_pos hc]
    obtain ⟨r, rfl⟩ : ∃ r, a = 2 ^ k + r := ⟨a - 2 ^ k, by omega⟩
    have hr : r < 2 ^ k := by omega
    have e : 2 ^ k + r = 2 ^ k ^^^ r := by
      have := Nat.two_pow_add_eq_or_of_lt hr 1
      rw [Nat.mul_one] at this
      rw [this]
      apply Nat.eq_of_testBit_eq
      intro j
      rw [Nat.testBit_or, Nat.testBit_xor, Nat.testBit_two_pow]
      by_cases h : k = j
      · subst h; simp [Nat.testBit_lt_two_pow hr]
      · simp [h]
    rw [show 2 ^ k + r - 2 ^ k = r by omega]
    rw [e, Nat.xor_comm (2 ^ k) r, Nat.xor_assoc, Nat.xor_self, Nat.xor_zero]
  · rw [if_neg hc]
    have hr : a < 2 ^ k := by omega
    have := Nat.two_pow_add_eq_or_of_lt hr 1
    rw [Nat.mul_one] at this
    rw [Nat.add_comm, this]
    apply Nat.eq_of_testBit_eq
    intro j
    rw [Nat.testBit_or, Nat.testBit_xor, Nat.testBit_two_pow]
    by_cases h : k = j
    · subst h; simp [Nat.testBit_lt_two_pow hr]
    · simp [h]
/-- 'a &^ b' on words, b a single bit, the highest one. -/
theorem bits_andNot_top (k a : Nat) (hk : k < 64) (ha : a < 2 * 2 ^ k) : bits .andNot .u64 (a : Int) ((2 ^ k : Nat) : Int) = ((a % 2 ^ k : Nat) : Int) := by
  have hk64 : (2 : Nat) ^ k < 2 ^ 64 := Nat.pow_lt_pow_right (by decide) hk
  have hk65 : (2 : Nat) * 2 ^ k ≤ 2 ^ 64 := by
    rw [Nat.mul_comm, ← Nat.pow_succ]; exact Nat.pow_le_pow_right (by decide) (by omega)
  have ha64 : a < 2 ^ 64 := by omega
  have h1 : (BitVec.ofInt 64 (a : Int)) = BitVec.ofNat 64 a := by rw [BitVec.ofInt_natCast]
  have h2 : (BitVec.ofInt 64 ((2 ^ k : Nat) : Int)) = BitVec.ofNat 64 (2 ^ k) := by rw [BitVec.ofInt_natCast]
  show IntKind.u64.wrap ((BitVec.ofInt 64 (a : Int) &&& ~~~ BitVec.ofInt 64 ((2 ^ k : Nat) : Int)).toNat : Int) = _
  rw [h1, h2, IntKind.wrap_u64]
  have hp : 0 < 2 ^ k := Nat.two_pow_pos k
  have key : (BitVec.ofNat 64 a &&& ~~~ BitVec.ofNat 64 (2 ^ k)).toNat = a % 2 ^ k := by
    rw [BitVec.toNat_and, BitVec.toNat_not, BitVec.toNat_ofNat, BitVec.toNat_ofNat, Nat.mod_eq_of_lt ha64, Nat.mod_eq_of_lt hk64]
    apply Nat.eq_of_testBit_eq
    intro j
    rw [show (2 : Nat) ^ 64 - 1 - 2 ^ k = 2 ^ 64 - (2 ^ k + 1) by omega, Nat.testBit_and, Nat.testBit_two_pow_sub_succ hk64, Nat.testBit_mod_two_pow, Nat.testBit_two_pow]
    rcases Nat.lt_trichotomy j k with h | h | h
    · have : ¬ k = j := by omega
      have h64 : j < 64 := by omega
      simp [h, this, h64]
    · subst h; simp
    · have hz : a.testBit j = false := Nat.testBit_lt_two_pow (Nat.lt_of_lt_of_le ha (by
        rw [Nat.mul_comm, ← Nat.pow_succ]; exact Nat.pow_le_pow_right (by decide) (by omega)))
      simp [hz]
  rw [key]
  have : a % 2 ^ k < 2 ^ k := Nat.mod_lt _ hp
  have : (2 : Nat) ^ 64 = 18446744073709551616 := by decide
  omega
end Go.Proofs.YtlhakbkdlgejpaaGreatDoor.Fl
