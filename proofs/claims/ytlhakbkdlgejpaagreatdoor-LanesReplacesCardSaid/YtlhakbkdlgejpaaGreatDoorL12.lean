/-
  LRLane, LOps, LAgree, LAgree2, LAwakeB: merged (each text says what it holds where it lies in wip). No condition.
-/
import Derived.Test.YtlhakbkdlgejpaaGreatDoorL09
import Derived.Test.YtlhakbkdlgejpaaGreatDoorI08
import Derived.Test.YtlhakbkdlgejpaaGreatDoorI09
import Derived.Test.YtlhakbkdlgejpaaGreatDoorI10
import Derived.Test.YtlhakbkdlgejpaaGreatDoorL11
import Derived.Test.YtlhakbkdlgejpaaGreatDoorL08
import Derived.Deep.DeepCutAuto
import Derived.Deep.RegionHeld3
set_option linter.unusedSimpArgs false
set_option linter.unusedVariables false
set_option maxRecDepth 100000
namespace Go.Proofs.YtlhakbkdlgejpaaGreatDoor
open Go.RowKit

def RELI : List (List UInt8) := [[], [101, 113], [110, 101], [108, 116, 95, 115], [108, 116, 95, 117], [103, 116, 95, 115], [103, 116, 95, 117], [108, 101, 95, 115], [108, 101, 95, 117], [103, 101, 95, 115], [103, 101, 95, 117]]
def BINI : List (List UInt8) := [[], [97, 100, 100], [115, 117, 98], [109, 117, 108], [], [], [], [], [], [], [], [115, 104, 108], [115, 104, 114, 95, 115], [115, 104, 114, 95, 117], [], [], [97, 100, 100, 95, 115, 97, 116, 95, 115], [97, 100, 100, 95, 115, 97, 116, 95, 117], [115, 117, 98, 95, 115, 97, 116, 95, 115], [115, 117, 98, 95, 115, 97, 116, 95, 117], [109, 105, 110, 95, 115], [109, 105, 110, 95, 117], [109, 97, 120, 95, 115], [109, 97, 120, 95, 117], [97, 118, 103, 114, 95, 117], [113, 49, 53, 109, 117, 108, 114, 95, 115, 97, 116, 95, 115]]

theorem place_at (v : List UInt8) (L : List (List UInt8)) (hL : L.length ≤ 30) (cs : Array Value) (hcs : cs = (sc L).toArray) (n : Nat) (hn : n = L.length) (k : Int) (hk : plL L v 0 = k) :
    ∀ (W : World), Calls Tryz.prog 195 #[.string (str v), .slice (some ⟨W.heap.size, 0, none⟩) n n] (W.alloc (.cells cs 9)) fun e w' => e = .returned (.int .i64 k) ∧ (W.alloc (.cells cs 9)) = w' := fun W => by
  subst hcs
  rw [← hk]
  exact RPlace_says v L hL _ n hn _ (CA.new W _ 9)
set_option maxHeartbeats 4000000 in
set_option maxRecDepth 100000 in
theorem RLane_rel (n : Nat) (hn : Okn n) (v : List UInt8) (k : Nat) (hk : plL RELI v 0 = k) (hk1 : 1 ≤ k) (hk2 : k ≤ 10) (a b : Nat) (ha : a < 18446744073709551616) (hb : b < 18446744073709551616) (w : World) :
    Calls Tryz.prog 131 #[.int .i64 n, .bool false, .string (str v), .int .u64 a, .int .u64 b] w fun e w' => e = .returned (.int .u64 ((if (relA n k a b).1 then 2 ^ n - 1 else 0 : Nat) : Int)) ∧ Below w.heap.size w w' := by
  have HPR := fun W => hid (place_at v RELI (by decide) #[.string ⟨#[]⟩, .string ⟨#[101, 113]⟩, .string ⟨#[110, 101]⟩, .string ⟨#[108, 116, 95, 115]⟩, .string ⟨#[108, 116, 95, 117]⟩, .string ⟨#[103, 116, 95, 115]⟩, .string ⟨#[103, 116, 95, 117]⟩, .string ⟨#[108, 101, 95, 115]⟩, .string ⟨#[108, 101, 95, 117]⟩, .string ⟨#[103, 101, 95, 115]⟩, .string ⟨#[103, 101, 95, 117]⟩] rfl 11 rfl k hk W)
  have HRR := fun W => hid (RRel_any n k a b ha hb W)
  have HC := fun W => hid (Cut_any n hn 18446744073709551615 (by decide) W)
  have e2 : (relA n k a b).2 = 0 := by unfold relA; rw [if_pos ⟨by simpa using hn, by omega, by omega⟩]
  have hm : 18446744073709551615 % 2 ^ n = 2 ^ n - 1 := by rcases hn with rfl | rfl | rfl | rfl <;> decide
  rw [hm] at HC
  unfold RelPost at HRR
  rw [e2] at HRR
  generalize (relA n k a b).1 = is at *
  generalize 2 ^ n - 1 = m at *
  generalize str v = s at *
  clear hk hk1 hk2 ha hb e2 hm hn
  have h00 : ((0 : Nat) : Int) = 0 := rfl
  rw [h00] at HRR
  cases is
  all_goals
    go_enter Tryz.func131, Tryz.ntmps131
    go_wp2_with (first
      | (go_at_call 195; (with_reducible refine (HPR _).out.mono ?_); rintro e w1 ⟨rfl, rfl⟩)
      | (go_at_call 149; refine (HRR _).out.mono ?_; rintro e w2 ⟨rfl, hb2⟩; have HB2 := hid (((Below.refl _ w).alloc (Nat.le_refl _) _).trans (hb2.mono (by simp))); clear hb2)
      | (go_at_call 81; refine (HC _).out.mono ?_; rintro e w3 ⟨rfl, rfl⟩))
  all_goals (go_ret; exact ⟨rfl, HB2.out⟩)
set_option maxHeartbeats 4000000 in
set_option maxRecDepth 100000 in
theorem RLane_abs (n : Nat) (hn : Okn n) (a b : Nat) (ha : a < 18446744073709551616) (hb : b < 18446744073709551616) (w : World) :
    Calls Tryz.prog 131 #[.int .i64 n, .bool false, .string (str [97, 98, 115]), .int .u64 a, .int .u64 b] w fun e w' => e = .returned (.int .u64 ((unA n 7 a).1 : Nat)) ∧ Below w.heap.size w w' := by
  have HPR := fun W => hid (place_at [97, 98, 115] RELI (by decide) #[.string ⟨#[]⟩, .string ⟨#[101, 113]⟩, .string ⟨#[110, 101]⟩, .string ⟨#[108, 116, 95, 115]⟩, .string ⟨#[108, 116, 95, 117]⟩, .string ⟨#[103, 116, 95, 115]⟩, .string ⟨#[103, 116, 95, 117]⟩, .string ⟨#[108, 101, 95, 115]⟩, .string ⟨#[108, 101, 95, 117]⟩, .string ⟨#[103, 101, 95, 115]⟩, .string ⟨#[103, 101, 95, 117]⟩] rfl 11 rfl (-1) (by decide) W)
  have HRR := fun W => hid (RRel_any n (-1) a b ha hb W)
  have HUU := fun W => hid (RUn_any n 7 a ha W)
  have e2 : (relA n (-1) a b).2 = 1 := by unfold relA; rw [if_neg (by omega)]
  unfold RelPost at HRR
  unfold DivPost at HUU
  rw [e2] at HRR
  have h01 : ((1 : Nat) : Int) = 1 := rfl
  rw [h01] at HRR
  have q : ∀ x : List UInt8, ((str [97, 98, 115]).toList == x) = ([97, 98, 115] == x) := fun x => by rw [str_list]
  have q0 : ((str [97, 98, 115]).toList == [97, 98, 115]) = true := by rw [q]; decide
  generalize (relA n (-1) a b).1 = is at *
  generalize (unA n 7 a).1 = r at *
  generalize (unA n 7 a).2 = r2 at *
  generalize str [97, 98, 115] = s at *
  clear ha hb e2 hn q
  go_enter Tryz.func131, Tryz.ntmps131
  go_wp2_with (first
    | (go_at_call 195; (with_reducible refine (HPR _).out.mono ?_); rintro e w1 ⟨rfl, rfl⟩)
    | (go_at_call 149; refine (HRR _).out.mono ?_; rintro e w2 ⟨rfl, hb2⟩; have HB2 := hid (((Below.refl _ w).alloc (Nat.le_refl _) _).trans (hb2.mono (by simp))); clear hb2)
    | (go_at_call 150; refine (HUU _).out.mono ?_; rintro e w3 ⟨rfl, hb3⟩; have HB3 := hid (HB2.out.trans (hb3.mono HB2.out.size)); clear hb3))
  go_ret
  exact ⟨rfl, HB3.out⟩
set_option maxHeartbeats 4000000 in
set_option maxRecDepth 100000 in
theorem RLane_neg (n : Nat) (hn : Okn n) (a b : Nat) (ha : a < 18446744073709551616) (hb : b < 18446744073709551616) (w : World) :
    Calls Tryz.prog 131 #[.int .i64 n, .bool false, .string (str [110, 101, 103]), .int .u64 a, .int .u64 b] w fun e w' => e = .returned (.int .u64 ((unA n 8 a).1 : Nat)) ∧ Below w.heap.size w w' := by
  have HPR := fun W => hid (place_at [110, 101, 103] RELI (by decide) #[.string ⟨#[]⟩, .string ⟨#[101, 113]⟩, .string ⟨#[110, 101]⟩, .string ⟨#[108, 116, 95, 115]⟩, .string ⟨#[108, 116, 95, 117]⟩, .string ⟨#[103, 116, 95, 115]⟩, .string ⟨#[103, 116, 95, 117]⟩, .string ⟨#[108, 101, 95, 115]⟩, .string ⟨#[108, 101, 95, 117]⟩, .string ⟨#[103, 101, 95, 115]⟩, .string ⟨#[103, 101, 95, 117]⟩] rfl 11 rfl (-1) (by decide) W)
  have HRR := fun W => hid (RRel_any n (-1) a b ha hb W)
  have HUU := fun W => hid (RUn_any n 8 a ha W)
  have e2 : (relA n (-1) a b).2 = 1 := by unfold relA; rw [if_neg (by omega)]
  unfold RelPost at HRR
  unfold DivPost at HUU
  rw [e2] at HRR
  have h01 : ((1 : Nat) : Int) = 1 := rfl
  rw [h01] at HRR
  have q : ∀ x : List UInt8, ((str [110, 101, 103]).toList == x) = ([110, 101, 103] == x) := fun x => by rw [str_list]
  have q0 : ((str [110, 101, 103]).toList == [97, 98, 115]) = false := by rw [q]; decide
  have q1 : ((str [110, 101, 103]).toList == [110, 101, 103]) = true := by rw [q]; decide
  generalize (relA n (-1) a b).1 = is at *
  generalize (unA n 8 a).1 = r at *
  generalize (unA n 8 a).2 = r2 at *
  generalize str [110, 101, 103] = s at *
  clear ha hb e2 hn q
  go_enter Tryz.func131, Tryz.ntmps131
  go_wp2_with (first
    | (go_at_call 195; (with_reducible refine (HPR _).out.mono ?_); rintro e w1 ⟨rfl, rfl⟩)
    | (go_at_call 149; refine (HRR _).out.mono ?_; rintro e w2 ⟨rfl, hb2⟩; have HB2 := hid (((Below.refl _ w).alloc (Nat.le_refl _) _).trans (hb2.mono (by simp))); clear hb2)
    | (go_at_call 150; refine (HUU _).out.mono ?_; rintro e w3 ⟨rfl, hb3⟩; have HB3 := hid (HB2.out.trans (hb3.mono HB2.out.size)); clear hb3))
  go_ret
  exact ⟨rfl, HB3.out⟩
set_option maxHeartbeats 4000000 in
set_option maxRecDepth 100000 in
theorem RLane_popcnt (n : Nat) (hn : Okn n) (a b : Nat) (ha : a < 18446744073709551616) (hb : b < 18446744073709551616) (w : World) :
    Calls Tryz.prog 131 #[.int .i64 n, .bool false, .string (str [112, 111, 112, 99, 110, 116]), .int .u64 a, .int .u64 b] w fun e w' => e = .returned (.int .u64 ((unA n 3 a).1 : Nat)) ∧ Below w.heap.size w w' := by
  have HPR := fun W => hid (place_at [112, 111, 112, 99, 110, 116] RELI (by decide) #[.string ⟨#[]⟩, .string ⟨#[101, 113]⟩, .string ⟨#[110, 101]⟩, .string ⟨#[108, 116, 95, 115]⟩, .string ⟨#[108, 116, 95, 117]⟩, .string ⟨#[103, 116, 95, 115]⟩, .string ⟨#[103, 116, 95, 117]⟩, .string ⟨#[108, 101, 95, 115]⟩, .string ⟨#[108, 101, 95, 117]⟩, .string ⟨#[103, 101, 95, 115]⟩, .string ⟨#[103, 101, 95, 117]⟩] rfl 11 rfl (-1) (by decide) W)
  have HRR := fun W => hid (RRel_any n (-1) a b ha hb W)
  have HUU := fun W => hid (RUn_any n 3 a ha W)
  have e2 : (relA n (-1) a b).2 = 1 := by unfold relA; rw [if_neg (by omega)]
  unfold RelPost at HRR
  unfold DivPost at HUU
  rw [e2] at HRR
  have h01 : ((1 : Nat) : Int) = 1 := rfl
  rw [h01] at HRR
  have q : ∀ x : List UInt8, ((str [112, 111, 112, 99, 110, 116]).toList == x) = ([112, 111, 112, 99, 110, 116] == x) := fun x => by rw [str_list]
  have q0 : ((str [112, 111, 112, 99, 110, 116]).toList == [97, 98, 115]) = false := by rw [q]; decide
  have q1 : ((str [112, 111, 112, 99, 110, 116]).toList == [110, 101, 103]) = false := by rw [q]; decide
  have q2 : ((str [112, 111, 112, 99, 110, 116]).toList == [112, 111, 112, 99, 110, 116]) = true := by rw [q]; decide
  generalize (relA n (-1) a b).1 = is at *
  generalize (unA n 3 a).1 = r at *
  generalize (unA n 3 a).2 = r2 at *
  generalize str [112, 111, 112, 99, 110, 116] = s at *
  clear ha hb e2 hn q
  go_enter Tryz.func131, Tryz.ntmps131
  go_wp2_with (first
    | (go_at_call 195; (with_reducible refine (HPR _).out.mono ?_); rintro e w1 ⟨rfl, rfl⟩)
    | (go_at_call 149; refine (HRR _).out.mono ?_; rintro e w2 ⟨rfl, hb2⟩; have HB2 := hid (((Below.refl _ w).alloc (Nat.le_refl _) _).trans (hb2.mono (by simp))); clear hb2)
    | (go_at_call 150; refine (HUU _).out.mono ?_; rintro e w3 ⟨rfl, hb3⟩; have HB3 := hid (HB2.out.trans (hb3.mono HB2.out.size)); clear hb3))
  go_ret
  exact ⟨rfl, HB3.out⟩
set_option maxHeartbeats 4000000 in
set_option maxRecDepth 100000 in
theorem RLane_bin (n : Nat) (hn : Okn n) (v : List UInt8) (hr : plL RELI v 0 = -1) (k : Int) (hk : plL BINI v 0 = k) (u0 : (v == [97, 98, 115]) = false) (u1 : (v == [110, 101, 103]) = false) (u2 : (v == [112, 111, 112, 99, 110, 116]) = false) (a b : Nat) (ha : a < 18446744073709551616) (hb : b < 18446744073709551616) (w : World) :
    Calls Tryz.prog 131 #[.int .i64 n, .bool false, .string (str v), .int .u64 a, .int .u64 b] w fun e w' => e = .returned (.int .u64 ((binA n k a b).1 : Nat)) ∧ Below w.heap.size w w' := by
  have HPR := fun W => hid (place_at v RELI (by decide) #[.string ⟨#[]⟩, .string ⟨#[101, 113]⟩, .string ⟨#[110, 101]⟩, .string ⟨#[108, 116, 95, 115]⟩, .string ⟨#[108, 116, 95, 117]⟩, .string ⟨#[103, 116, 95, 115]⟩, .string ⟨#[103, 116, 95, 117]⟩, .string ⟨#[108, 101, 95, 115]⟩, .string ⟨#[108, 101, 95, 117]⟩, .string ⟨#[103, 101, 95, 115]⟩, .string ⟨#[103, 101, 95, 117]⟩] rfl 11 rfl (-1) hr W)
  have HRR := fun W => hid (RRel_any n (-1) a b ha hb W)
  have HPB := fun W => hid (place_at v BINI (by decide) #[.string ⟨#[]⟩, .string ⟨#[97, 100, 100]⟩, .string ⟨#[115, 117, 98]⟩, .string ⟨#[109, 117, 108]⟩, .string ⟨#[]⟩, .string ⟨#[]⟩, .string ⟨#[]⟩, .string ⟨#[]⟩, .string ⟨#[]⟩, .string ⟨#[]⟩, .string ⟨#[]⟩, .string ⟨#[115, 104, 108]⟩, .string ⟨#[115, 104, 114, 95, 115]⟩, .string ⟨#[115, 104, 114, 95, 117]⟩, .string ⟨#[]⟩, .string ⟨#[]⟩, .string ⟨#[97, 100, 100, 95, 115, 97, 116, 95, 115]⟩, .string ⟨#[97, 100, 100, 95, 115, 97, 116, 95, 117]⟩, .string ⟨#[115, 117, 98, 95, 115, 97, 116, 95, 115]⟩, .string ⟨#[115, 117, 98, 95, 115, 97, 116, 95, 117]⟩, .string ⟨#[109, 105, 110, 95, 115]⟩, .string ⟨#[109, 105, 110, 95, 117]⟩, .string ⟨#[109, 97, 120, 95, 115]⟩, .string ⟨#[109, 97, 120, 95, 117]⟩, .string ⟨#[97, 118, 103, 114, 95, 117]⟩, .string ⟨#[113, 49, 53, 109, 117, 108, 114, 95, 115, 97, 116, 95, 115]⟩] rfl 26 rfl k hk W)
  have HBB := fun W => hid (RBin_any n k a b ha hb W)
  have e2 : (relA n (-1) a b).2 = 1 := by unfold relA; rw [if_neg (by omega)]
  unfold RelPost at HRR
  unfold DivPost at HBB
  rw [e2] at HRR
  have h01 : ((1 : Nat) : Int) = 1 := rfl
  rw [h01] at HRR
  have q0 : ((str v).toList == [97, 98, 115]) = false := by rw [str_list]; exact u0
  have q1 : ((str v).toList == [110, 101, 103]) = false := by rw [str_list]; exact u1
  have q2 : ((str v).toList == [112, 111, 112, 99, 110, 116]) = false := by rw [str_list]; exact u2
  generalize (relA n (-1) a b).1 = is at *
  generalize (binA n k a b).1 = r at *
  generalize (binA n k a b).2 = r2 at *
  generalize str v = s at *
  clear ha hb e2 hn u0 u1 u2 hr hk
  go_enter Tryz.func131, Tryz.ntmps131
  go_wp2_with (first
    | (go_at_call 195; (with_reducible refine (HPR _).out.mono ?_); rintro e w1 ⟨rfl, rfl⟩)
    | (go_at_call 149; refine (HRR _).out.mono ?_; rintro e w2 ⟨rfl, hb2⟩; have HB2 := hid (((Below.refl _ w).alloc (Nat.le_refl _) _).trans (hb2.mono (by simp))); clear hb2)
    | (go_at_call 195; (with_reducible refine (HPB _).out.mono ?_); rintro e w3 ⟨rfl, rfl⟩)
    | (go_at_call 151; refine (HBB _).out.mono ?_; rintro e w4 ⟨rfl, hb4⟩; have HB4 := hid ((HB2.out.alloc HB2.out.size _).trans (hb4.mono (by have := HB2.out.size; simp; omega))); clear hb4))
  go_ret
  exact ⟨rfl, HB4.out⟩
end Go.Proofs.YtlhakbkdlgejpaaGreatDoor
namespace Go.Proofs.YtlhakbkdlgejpaaGreatDoor
open Go.RowKit

noncomputable def nmL (op : Int) : List UInt8 := (lineL op).1.toList
/-- What all kinds share. -/
noncomputable def chkC (two : Bool) (op : Int) : Bool :=
  knB (lineL op) && decide (64768 ≤ op) && decide (op < 65024) && ((lineL op).2.1 == 0) && (laL op == (if two then [123, 123] else [123])) && (lbL op == [123]) && eachV (verbL (nmL op)) && decide ((nmL op).length ≤ 1000) && ((xsL (nmL op)).2 == 0) &&
  decide (Okn (toL (nmL op)).2.toNat) && ((toL (nmL op)).2 == (((toL (nmL op)).2.toNat : Nat) : Int)) && !(verbL (nmL op) == [110, 111, 116]) && !(verbL (nmL op) == [97, 110, 100, 110, 111, 116]) &&
  decide (0 ≤ (ofL op).1) && ((ofL op).2.1 == nmL op) && ((ofL op).2.2.1 == 0) && decide ((ofL op).2.2.2.1.length ≤ 100) && decide ((ofL op).2.2.2.2.1.length ≤ 100) && (tyL (ofL op).2.2.2.1 == (if two then [123, 123] else [123])) && (tyL (ofL op).2.2.2.2.1 == [123]) &&
  (biL (headC (nmL op) 46) == (toL (nmL op)).2) && !(tailC (nmL op) 46 == [115, 112, 108, 97, 116]) && !(tailC (nmL op) 46 == [115, 119, 105, 122, 122, 108, 101]) && !(tailC (nmL op) 46 == [97, 108, 108, 95, 116, 114, 117, 101]) && !(tailC (nmL op) 46 == [98, 105, 116, 109, 97, 115, 107]) && noSh 10 (tailC (nmL op) 46)
noncomputable def chkI (op : Int) : Bool := ((toL (nmL op)).1 == false) && ((headC (nmL op) 46).headD 0 == 105) && decide (1 ≤ (headC (nmL op) 46).length)
noncomputable def chkBin (op : Int) : Bool := chkC true op && chkI op && (swL IU (verbL (nmL op)) == 0) && (swL (IR (sgL (nmL op))) (verbL (nmL op)) == 0) && (plL RELI (tailC (nmL op) 46) 0 == -1) && (plL BINI (tailC (nmL op) 46) 0 == swL (IB (sgL (nmL op))) (verbL (nmL op))) &&
  !(tailC (nmL op) 46 == [97, 98, 115]) && !(tailC (nmL op) 46 == [110, 101, 103]) && !(tailC (nmL op) 46 == [112, 111, 112, 99, 110, 116])
noncomputable def chkRel (op : Int) : Bool := chkC true op && chkI op && (swL IU (verbL (nmL op)) == 0) && decide (1 ≤ swL (IR (sgL (nmL op))) (verbL (nmL op))) && decide (swL (IR (sgL (nmL op))) (verbL (nmL op)) ≤ 10) && (plL RELI (tailC (nmL op) 46) 0 == swL (IR (sgL (nmL op))) (verbL (nmL op)))
noncomputable def chkUn (op : Int) : Bool := chkC false op && chkI op && ((tailC (nmL op) 46 == [97, 98, 115] && swL IU (verbL (nmL op)) == 7) || (tailC (nmL op) 46 == [110, 101, 103] && swL IU (verbL (nmL op)) == 8) || (tailC (nmL op) 46 == [112, 111, 112, 99, 110, 116] && swL IU (verbL (nmL op)) == 3))

def LMoves : List Int := [107, 108, 109, 139, 140, 141, 171, 172, 173, 203, 204, 205]
def LStand : List Int := [35, 36, 37, 38, 39, 40, 41, 42, 43, 44, 45, 46, 47, 48, 49, 50, 51, 52, 53, 54, 55, 56, 57, 58, 59, 60, 61, 62, 63, 64, 214, 215, 216, 217, 218, 219]
def LSums : List Int := [110, 111, 112, 113, 114, 115, 142, 143, 144, 145, 146, 147, 149, 174, 177, 181, 206, 209, 213, 130]
def LEnds : List Int := [118, 119, 120, 121, 123, 150, 151, 152, 153, 155, 182, 183, 184, 185]
def LOnes : List Int := [96, 97, 98, 128, 129, 160, 161, 192, 193]
set_option maxRecDepth 100000 in
theorem sums_all : (LSums.all fun x => chkBin (64768 + x)) = true := by kernel_rfl
set_option maxRecDepth 100000 in
theorem ends_all : (LEnds.all fun x => chkBin (64768 + x)) = true := by kernel_rfl
set_option maxRecDepth 100000 in
theorem stand_all : (LStand.all fun x => chkRel (64768 + x)) = true := by kernel_rfl
set_option maxRecDepth 100000 in
theorem ones_all : (LOnes.all fun x => chkUn (64768 + x)) = true := by kernel_rfl
end Go.Proofs.YtlhakbkdlgejpaaGreatDoor
namespace Go.Proofs.YtlhakbkdlgejpaaGreatDoor
open Go.RowKit

theorem toN_lt (n : Nat) (z : Int) : toN n z < 2 ^ n := by
  unfold toN
  have h : (0 : Int) < ((2 ^ n : Nat) : Int) := by exact_mod_cast Nat.two_pow_pos n
  have h1 := Int.emod_nonneg z (Int.ne_of_gt h)
  have h2 := Int.emod_lt_of_pos z h
  omega
theorem divR_lt {n : Nat} (op a b : Nat) (ha : a < 2 ^ n) (hb : b < 2 ^ n) : (divR n op a b).1 < 2 ^ n := by
  have h0 := Nat.two_pow_pos n
  have ht := toN_lt n
  have h1 : a / b < 2 ^ n := Nat.lt_of_le_of_lt (Nat.div_le_self _ _) ha
  have h2 : a % b < 2 ^ n := Nat.lt_of_le_of_lt (Nat.mod_le _ _) ha
  have h3 := ht ((sg n a).tmod (sg n b))
  have h4 := ht ((sg n a).tdiv (sg n b))
  unfold divR
  generalize toN n ((sg n a).tmod (sg n b)) = t1 at *
  generalize toN n ((sg n a).tdiv (sg n b)) = t2 at *
  generalize a / b = t3 at *
  generalize a % b = t4 at *
  by_cases c0 : b = 0
  · rw [if_pos c0]; exact h0
  rw [if_neg c0]
  by_cases c1 : op = 5
  · rw [if_pos c1]; exact h1
  rw [if_neg c1]
  by_cases c2 : op = 7
  · rw [if_pos c2]; exact h2
  rw [if_neg c2]
  by_cases c3 : op = 6
  · rw [if_pos c3]; exact h3
  rw [if_neg c3]
  by_cases c4 : a = 2 ^ (n - 1) ∧ b = 2 ^ n - 1
  · rw [if_pos c4]; exact h0
  rw [if_neg c4]; exact h4
theorem shiftR_lt {n : Nat} (op a k : Nat) (ha : a < 2 ^ n) : shiftR n op a k < 2 ^ n := by
  have h0 := Nat.two_pow_pos n
  have hm : ∀ x : Nat, x % 2 ^ n < 2 ^ n := fun x => Nat.mod_lt _ h0
  have ht := toN_lt n
  unfold shiftR
  by_cases c0 : op = 11
  · rw [if_pos c0]; exact hm _
  rw [if_neg c0]
  by_cases c1 : op = 12
  · rw [if_pos c1]; exact ht _
  rw [if_neg c1]
  by_cases c2 : op = 13
  · rw [if_pos c2]; exact Nat.lt_of_le_of_lt (Nat.div_le_self _ _) ha
  rw [if_neg c2]
  by_cases c3 : op = 14
  · rw [if_pos c3]; exact hm _
  rw [if_neg c3]; exact hm _
theorem satR_lt {n : Nat} (op a b : Nat) (ha : a < 2 ^ n) (hb : b < 2 ^ n) : satR n op a b < 2 ^ n := by
  have h0 := Nat.two_pow_pos n
  have ht := toN_lt n
  unfold satR
  by_cases c0 : op = 16
  · rw [if_pos c0]; exact ht _
  rw [if_neg c0]
  by_cases c1 : op = 18
  · rw [if_pos c1]; exact ht _
  rw [if_neg c1]
  by_cases c2 : op = 17
  · rw [if_pos c2]
    by_cases c3 : 2 ^ n - 1 < a + b
    · rw [if_pos c3]; omega
    · rw [if_neg c3]; omega
  rw [if_neg c2]; omega
theorem mmR_lt {n : Nat} (op a b : Nat) (ha : a < 2 ^ n) (hb : b < 2 ^ n) : mmR n op a b < 2 ^ n := by
  unfold mmR
  by_cases c0 : op = 20
  · rw [if_pos c0]; split <;> assumption
  rw [if_neg c0]
  by_cases c1 : op = 22
  · rw [if_pos c1]; split <;> assumption
  rw [if_neg c1]
  by_cases c2 : op = 21
  · rw [if_pos c2]; split <;> assumption
  rw [if_neg c2]; split <;> assumption
theorem binR_lt {n : Nat} (hn : Okn n) (op a b : Nat) (ha : a < 2 ^ n) (hb : b < 2 ^ n) : (binR n op a b).1 < 2 ^ n := by
  have h0 := Nat.two_pow_pos n
  have hm : ∀ x : Nat, x % 2 ^ n < 2 ^ n := fun x => Nat.mod_lt _ h0
  have ht := toN_lt n
  unfold binR
  by_cases c1 : op = 1
  · rw [if_pos c1]; exact hm _
  rw [if_neg c1]
  by_cases c2 : op = 2
  · rw [if_pos c2]; exact hm _
  rw [if_neg c2]
  by_cases c3 : op = 3
  · rw [if_pos c3]; exact hm _
  rw [if_neg c3]
  by_cases c4 : op ≤ 7
  · rw [if_pos c4]; exact divR_lt _ _ _ ha hb
  rw [if_neg c4]
  by_cases c5 : op = 8
  · rw [if_pos c5]; exact Nat.and_lt_two_pow _ hb
  rw [if_neg c5]
  by_cases c6 : op = 9
  · rw [if_pos c6]; exact Nat.or_lt_two_pow ha hb
  rw [if_neg c6]
  by_cases c7 : op = 10
  · rw [if_pos c7]; exact Nat.xor_lt_two_pow ha hb
  rw [if_neg c7]
  by_cases c8 : op ≤ 15
  · rw [if_pos c8]; exact shiftR_lt _ _ _ ha
  rw [if_neg c8]
  by_cases c9 : op ≤ 19
  · rw [if_pos c9]; exact satR_lt _ _ _ ha hb
  rw [if_neg c9]
  by_cases c10 : op ≤ 23
  · rw [if_pos c10]; exact mmR_lt _ _ _ ha hb
  rw [if_neg c10]
  by_cases c11 : op = 24
  · rw [if_pos c11]; show (a + b + 1) / 2 < 2 ^ n; omega
  rw [if_neg c11]; exact ht _
theorem binA_lt (n : Nat) (hn : Okn n) (k : Int) (x y : Nat) : (binA n k x y).1 < 18446744073709551616 := by
  have h64 : 2 ^ n ≤ 18446744073709551616 := (pow_lt64 hn).2.2.1
  unfold binA
  split
  · exact Nat.lt_of_lt_of_le (binR_lt (by simpa using hn) _ _ _ (Nat.mod_lt _ (Nat.two_pow_pos _)) (Nat.mod_lt _ (Nat.two_pow_pos _))) h64
  · decide
theorem pop_le' : ∀ (n a : Nat), a < 2 ^ n → pop a ≤ n
  | 0, a, h => by
    have : a = 0 := by simpa using h
    subst this
    unfold pop
    simp
  | n + 1, a, h => by
    have ih := pop_le' n (a / 2) (by rw [Nat.pow_succ] at h; omega)
    unfold pop
    split
    · omega
    · omega
theorem unR_lt {n : Nat} (hn : Okn n) (k a : Nat) (hk : k = 7 ∨ k = 8 ∨ k = 3) (ha : a < 2 ^ n) : unR n k a < 18446744073709551616 := by
  obtain ⟨p1, p2, p3, p4⟩ := pow_lt64 hn
  rcases hk with rfl | rfl | rfl
  · show (sg n a).natAbs < _
    rw [sg_abs ha]
    split <;> omega
  · show (2 ^ n - a) % 2 ^ n < _
    exact Nat.lt_of_lt_of_le (Nat.mod_lt _ (Nat.two_pow_pos n)) p3
  · show pop a < _
    have := pop_le' n a ha
    have := hn.le
    omega
theorem unA_lt (n : Nat) (hn : Okn n) (k : Int) (hk : k = 7 ∨ k = 8 ∨ k = 3) (x : Nat) : (unA n k x).1 < 18446744073709551616 := by
  unfold unA
  split
  · exact unR_lt (by simpa using hn) _ _ (by omega) (Nat.mod_lt _ (Nat.two_pow_pos _))
  · decide
theorem ix_str (b : UInt8) (t : List UInt8) (W : World) : (Instr.index 9 (.string (str (b :: t))) (.int .i64 0)).run Tryz.prog W = .ok (.int .u8 b.toNat) W := by
  simp [Instr.index, asIntOf, run_underlying Tryz.underlying9, str]
  rfl
end Go.Proofs.YtlhakbkdlgejpaaGreatDoor
namespace Go.Proofs.YtlhakbkdlgejpaaGreatDoor
open Go.RowKit

/-- What the Boolean of all kinds says. -/
structure PC (two : Bool) (op : Int) (n : Nat) (vb : List UInt8) (sg : Bool) (sh what nm : List UInt8) (ro : Int) (tk lv : List UInt8) (fx : Bool) : Prop where
  kn : knB (lineL op) = true
  lo : 64768 ≤ op
  hi : op < 65024
  im : (lineL op).2.1 = 0
  la : laL op = (if two then [123, 123] else [123])
  lb : lbL op = [123]
  ea : eachV vb = true
  len : nm.length ≤ 1000
  xs : ((xsL nm).2 == 0) = true
  okn : Okn n
  n0 : (vb == [110, 111, 116]) = false
  n1 : (vb == [97, 110, 100, 110, 111, 116]) = false
  ro0 : 0 ≤ ro
  of : ofL op = (ro, nm, 0, tk, lv, fx)
  tk1 : tk.length ≤ 100
  lv1 : lv.length ≤ 100
  tk2 : tyL tk = (if two then [123, 123] else [123])
  lv2 : tyL lv = [123]
  bi : biL sh = n
  w0 : (what == [115, 112, 108, 97, 116]) = false
  w1 : (what == [115, 119, 105, 122, 122, 108, 101]) = false
  w2 : (what == [97, 108, 108, 95, 116, 114, 117, 101]) = false
  w3 : (what == [98, 105, 116, 109, 97, 115, 107]) = false
  ns : noSh 10 what = true
  par : parV nm = insV vb false n false n sg
  nm1 : (lineL op).1 = str nm
  shE : headC nm 46 = sh
  whE : tailC nm 46 = what
  ix : ∀ W, (Instr.index 9 (.string (str sh)) (.int .i64 0)).run Tryz.prog W = .ok (.int .u8 105) W

theorem PC_of (two : Bool) (op : Int) (h : chkC two op = true) (h' : chkI op = true) :
    ∃ n ro tk lv fx, PC two op n (verbL (nmL op)) (sgL (nmL op)) (headC (nmL op) 46) (tailC (nmL op) 46) (nmL op) ro tk lv fx := by
  unfold chkC at h
  unfold chkI at h'
  have e1 : (lineL op).1 = str (nmL op) := (list_str _).symm
  generalize nmL op = nm at *
  obtain ⟨⟨ro, nm', im, tk, lv, fx⟩, hr⟩ : ∃ r, ofL op = r := ⟨_, rfl⟩
  rw [hr] at h
  obtain ⟨n, hn⟩ : ∃ n, n = (toL nm).2.toNat := ⟨_, rfl⟩
  rw [← hn] at h
  simp only [Bool.and_eq_true, decide_eq_true_eq, beq_iff_eq, Bool.not_eq_true'] at h h'
  obtain ⟨⟨⟨⟨⟨⟨⟨⟨⟨⟨⟨⟨⟨⟨⟨⟨⟨⟨⟨⟨⟨⟨⟨⟨⟨a1, a2⟩, a3⟩, a4⟩, a5⟩, a6⟩, a7⟩, a8⟩, a9⟩, a10⟩, a11⟩, a12⟩, a13⟩, b1⟩, b2⟩, b3⟩, b4⟩, b5⟩, b6⟩, b7⟩, c1⟩, c2⟩, c3⟩, c4⟩, c5⟩, c6⟩ := h
  obtain ⟨⟨d1, d2⟩, d3⟩ := h'
  subst b2
  subst b3
  have x0 : ((xsL nm').2 == 0) = true := by rw [a9]; rfl
  refine ⟨n, ro, tk, lv, fx, a1, a2, a3, a4, a5, a6, a7, a8, x0, a10, a12, a13, b1, hr, b4, b5, b6, b7, by rw [c1, a11], c2, c3, c4, c5, c6, ?_, e1, rfl, rfl, ?_⟩
  · unfold parV
    have hf : fromL nm' = toL nm' := by unfold fromL; rw [if_pos x0]
    rw [hf, d1, a11]
  · cases hc : headC nm' 46 with
    | nil => rw [hc] at d3; simp at d3
    | cons b t =>
      rw [hc] at d2
      obtain rfl : b = 105 := d2
      exact fun W => ix_str 105 t W

theorem agree_bin (op : Int) (h : chkBin op = true) (alo ahi blo bhi : Nat) (anl bnl : Bool) (h1 : alo < 18446744073709551616) (h2 : ahi < 18446744073709551616) (h3 : blo < 18446744073709551616) (h4 : bhi < 18446744073709551616) (w : World) (hg : Glob w) :
    ∃ lo hi, (∀ W va, Below w.heap.size w W → AR W va [(123, alo, ahi, anl), (123, blo, bhi, bnl)] → Calls Tryz.prog 20 #[.int .i64 op, .slice none 0 0, va] W fun e w' => e = .returned (.tuple #[vv 123 lo hi false, .int .i64 0]) ∧ Below W.heap.size W w') ∧
      (∀ W va, Below w.heap.size w W → AR W va [(123, alo, ahi, anl), (123, blo, bhi, bnl)] → Calls Tryz.prog 38 #[.int .i64 op, .slice none 0 0, va] W fun e w' => e = .returned (.tuple #[vv 123 lo hi false, .int .i64 0]) ∧ Below W.heap.size W w') := by
  unfold chkBin at h
  simp only [Bool.and_eq_true, Bool.not_eq_true'] at h
  obtain ⟨⟨⟨⟨⟨⟨⟨⟨hc, hi⟩, u0⟩, u1⟩, u2⟩, u3⟩, v0⟩, v1⟩, v2⟩ := h
  obtain ⟨n, ro, tk, lv, fx, P⟩ := PC_of true op hc hi
  generalize nmL op = nm at *
  generalize verbL nm = vb at *
  generalize sgL nm = sg at *
  generalize headC nm 46 = sh at *
  generalize tailC nm 46 = what at *
  obtain ⟨k, hk⟩ : ∃ k, k = swL (IB sg) vb := ⟨_, rfl⟩
  have u0 := eq_of_beq u0
  have u1 := eq_of_beq u1
  have u2 := eq_of_beq u2
  have u3 : plL BINI what 0 = k := (eq_of_beq u3).trans hk.symm
  refine ⟨_, _, fun W va hb ha => Do_each2 op nm vb n P.okn false false 0 sg P.nm1 P.par P.len (fun hx => by rw [P.xs] at hx; cases hx) P.lo P.kn P.im P.la P.lb P.ea (fun x y => (binA n k x y).1)
    (fun W => operation_bin_i vb false n n sg k u0 u1 hk.symm _ (Two_int n k) P.n0 P.n1 W) (fun x y _ _ => binA_lt n P.okn k x y) alo ahi blo bhi anl bnl h1 h2 h3 h4 W (hg.next hb) va ha, fun W va hb ha => ?_⟩
  refine RDo_vec op P.lo ro nm tk lv fx P.of P.ro0 P.tk1 P.lv1 P.lv2 [(123, alo, ahi, anl), (123, blo, bhi, bnl)] P.tk2 (by simp) (by simp) va W ha _ _ fun W' hb' => ?_
  exact RDone_two (ro, nm, 0, tk, lv, fx) sh what P.shE P.whE P.len n P.okn P.bi rfl rfl P.w0 P.w1 P.w2 P.w3 10 P.ns 105 false rfl P.ix (.slice none 0 0) va alo ahi anl blo bhi bnl h3 h4 h1 h2 W' (ha.call hb') (fun x y => (binA n k x y).1)
    (fun a b W ha hb => RLane_bin n P.okn what u2 k u3 v0 v1 v2 a b ha hb W) (fun i _ => binA_lt n P.okn k _ _)

theorem Two_rel (n : Nat) (k : Int) : Rel2 107 n k (fun x y => (relA n k x y).1) := fun x y W hx hy =>
  (Rel_any n k x y hx hy W).mono fun e w' ⟨he, hw⟩ => ⟨⟨_, he⟩, hw ▸ Below.refl _ _⟩
theorem One_un (n : Nat) (k : Int) : One 87 n k (fun x => (unA n k x).1) := fun x W hx =>
  (Un_any n k x hx W).mono fun e w' ⟨he, hw⟩ => ⟨⟨_, he⟩, hw ▸ Below.refl _ _⟩
theorem ones_mod (n : Nat) (hn : Okn n) (b : Bool) : (if b then 18446744073709551615 else 0) % 2 ^ n = (if b then 2 ^ n - 1 else 0) % 2 ^ n := by
  rcases hn with rfl | rfl | rfl | rfl <;> cases b <;> decide
theorem ones_lt (n : Nat) (hn : Okn n) (b : Bool) : (if b then 2 ^ n - 1 else 0) < 18446744073709551616 := by
  rcases hn with rfl | rfl | rfl | rfl <;> cases b <;> decide

theorem agree_rel (op : Int) (h : chkRel op = true) (alo ahi blo bhi : Nat) (anl bnl : Bool) (h1 : alo < 18446744073709551616) (h2 : ahi < 18446744073709551616) (h3 : blo < 18446744073709551616) (h4 : bhi < 18446744073709551616) (w : World) (hg : Glob w) :
    ∃ lo hi, (∀ W va, Below w.heap.size w W → AR W va [(123, alo, ahi, anl), (123, blo, bhi, bnl)] → Calls Tryz.prog 20 #[.int .i64 op, .slice none 0 0, va] W fun e w' => e = .returned (.tuple #[vv 123 lo hi false, .int .i64 0]) ∧ Below W.heap.size W w') ∧
      (∀ W va, Below w.heap.size w W → AR W va [(123, alo, ahi, anl), (123, blo, bhi, bnl)] → Calls Tryz.prog 38 #[.int .i64 op, .slice none 0 0, va] W fun e w' => e = .returned (.tuple #[vv 123 lo hi false, .int .i64 0]) ∧ Below W.heap.size W w') := by
  unfold chkRel at h
  simp only [Bool.and_eq_true, Bool.not_eq_true', decide_eq_true_eq] at h
  obtain ⟨⟨⟨⟨⟨hc, hi⟩, u0⟩, u1⟩, u2⟩, u3⟩ := h
  obtain ⟨n, ro, tk, lv, fx, P⟩ := PC_of true op hc hi
  generalize nmL op = nm at *
  generalize verbL nm = vb at *
  generalize sgL nm = sg at *
  generalize headC nm 46 = sh at *
  generalize tailC nm 46 = what at *
  generalize hs : swL (IR sg) vb = s at *
  obtain ⟨k, rfl⟩ : ∃ k : Nat, s = (k : Int) := ⟨s.toNat, by omega⟩
  have u0 := eq_of_beq u0
  have u3 : plL RELI what 0 = k := eq_of_beq u3
  have k1 : 1 ≤ k := by omega
  have k2 : k ≤ 10 := by omega
  have hF := fun b => ones_lt n P.okn b
  refine ⟨loF n (fun i => if (relA n k (splitF n alo ahi i) (splitF n blo bhi i)).1 then 2 ^ n - 1 else 0), hiF n (fun i => if (relA n k (splitF n alo ahi i) (splitF n blo bhi i)).1 then 2 ^ n - 1 else 0), fun W va hb ha => ?_, fun W va hb ha => ?_⟩
  · have H := Do_each2 op nm vb n P.okn false false 0 sg P.nm1 P.par P.len (fun hx => by rw [P.xs] at hx; cases hx) P.lo P.kn P.im P.la P.lb P.ea (fun x y => if (relA n k x y).1 then 18446744073709551615 else 0)
      (fun W => operation_rel_i vb false n n sg k u0 hs (by omega) _ (Two_rel n k) P.n0 P.n1 W) (fun x y _ _ => by cases (relA n k x y).1 <;> decide) alo ahi blo bhi anl bnl h1 h2 h3 h4 W (hg.next hb) va ha
    rw [loF_congr P.okn (G := fun i => if (relA n k (splitF n alo ahi i) (splitF n blo bhi i)).1 then 2 ^ n - 1 else 0) (fun i _ => ones_mod n P.okn _), hiF_congr P.okn (G := fun i => if (relA n k (splitF n alo ahi i) (splitF n blo bhi i)).1 then 2 ^ n - 1 else 0) (fun i _ => ones_mod n P.okn _)] at H
    exact H
  refine RDo_vec op P.lo ro nm tk lv fx P.of P.ro0 P.tk1 P.lv1 P.lv2 [(123, alo, ahi, anl), (123, blo, bhi, bnl)] P.tk2 (by simp) (by simp) va W ha _ _ fun W' hb' => ?_
  exact RDone_two (ro, nm, 0, tk, lv, fx) sh what P.shE P.whE P.len n P.okn P.bi rfl rfl P.w0 P.w1 P.w2 P.w3 10 P.ns 105 false rfl P.ix (.slice none 0 0) va alo ahi anl blo bhi bnl h3 h4 h1 h2 W' (ha.call hb') (fun x y => if (relA n k x y).1 then 2 ^ n - 1 else 0)
    (fun a b W ha hb => RLane_rel n P.okn what k u3 k1 k2 a b ha hb W) (fun i _ => hF _)

theorem agree_un (op : Int) (h : chkUn op = true) (alo ahi : Nat) (anl : Bool) (h1 : alo < 18446744073709551616) (h2 : ahi < 18446744073709551616) (w : World) (hg : Glob w) :
    ∃ lo hi, (∀ W va, Below w.heap.size w W → AR W va [(123, alo, ahi, anl)] → Calls Tryz.prog 20 #[.int .i64 op, .slice none 0 0, va] W fun e w' => e = .returned (.tuple #[vv 123 lo hi false, .int .i64 0]) ∧ Below W.heap.size W w') ∧
      (∀ W va, Below w.heap.size w W → AR W va [(123, alo, ahi, anl)] → Calls Tryz.prog 38 #[.int .i64 op, .slice none 0 0, va] W fun e w' => e = .returned (.tuple #[vv 123 lo hi false, .int .i64 0]) ∧ Below W.heap.size W w') := by
  unfold chkUn at h
  simp only [Bool.and_eq_true, Bool.not_eq_true', Bool.or_eq_true] at h
  obtain ⟨⟨hc, hi⟩, hu⟩ := h
  obtain ⟨n, ro, tk, lv, fx, P⟩ := PC_of false op hc hi
  generalize nmL op = nm at *
  generalize verbL nm = vb at *
  generalize sgL nm = sg at *
  generalize headC nm 46 = sh at *
  generalize tailC nm 46 = what at *
  obtain ⟨k, hk, hk3, HL⟩ : ∃ k : Int, swL IU vb = k ∧ (k = 7 ∨ k = 8 ∨ k = 3) ∧ ∀ (a b : Nat) (W : World), a < 18446744073709551616 → b < 18446744073709551616 → Calls Tryz.prog 131 #[.int .i64 n, .bool false, .string (str what), .int .u64 a, .int .u64 b] W fun e w' => e = .returned (.int .u64 ((unA n k a).1 : Nat)) ∧ Below W.heap.size W w' := by
    rcases hu with (⟨x, y⟩ | ⟨x, y⟩) | ⟨x, y⟩
    · exact ⟨7, eq_of_beq y, .inl rfl, fun a b W ha hb => by rw [eq_of_beq x]; exact RLane_abs n P.okn a b ha hb W⟩
    · exact ⟨8, eq_of_beq y, .inr (.inl rfl), fun a b W ha hb => by rw [eq_of_beq x]; exact RLane_neg n P.okn a b ha hb W⟩
    · exact ⟨3, eq_of_beq y, .inr (.inr rfl), fun a b W ha hb => by rw [eq_of_beq x]; exact RLane_popcnt n P.okn a b ha hb W⟩
  refine ⟨_, _, fun W va hb ha => Do_each1 op nm vb n P.okn false false 0 sg P.nm1 P.par P.len (fun hx => by rw [P.xs] at hx; cases hx) P.lo P.kn P.im P.la P.lb P.ea (fun x _ => (unA n k x).1)
    (fun W => operation_un_i vb false n n sg k hk (by omega) _ (One_un n k) P.n0 P.n1 W) (fun x y _ _ => unA_lt n P.okn k hk3 x) alo ahi anl h1 h2 W (hg.next hb) va ha, fun W va hb ha => ?_⟩
  refine RDo_vec op P.lo ro nm tk lv fx P.of P.ro0 P.tk1 P.lv1 P.lv2 [(123, alo, ahi, anl)] P.tk2 (by simp) (by simp) va W ha _ _ fun W' hb' => ?_
  exact RDone_one (ro, nm, 0, tk, lv, fx) sh what P.shE P.whE P.len n P.okn P.bi rfl rfl P.w0 P.w1 P.w2 P.w3 10 P.ns 105 false rfl P.ix (.slice none 0 0) va alo ahi anl h1 h2 W' (ha.call hb') (fun x _ => (unA n k x).1)
    HL (fun i _ => unA_lt n P.okn k hk3 _)
end Go.Proofs.YtlhakbkdlgejpaaGreatDoor
namespace Go.Proofs.YtlhakbkdlgejpaaGreatDoor
open Go.RowKit

theorem bin64878 : chkBin 64878 = true := by kernel_rfl
theorem name64878 : nmL 64878 = [105, 56, 120, 49, 54, 46, 97, 100, 100] := by kernel_rfl
/-- What the program's Do comes to at 64878 (a sum of sixteen lanes) of awake's two vectors. -/
theorem Do_awake (w : World) (hg : Glob w) (va : Value) (ha : AR w va [(123, 14468034567615334600, 14468034567615334600, false), (123, 100, 56, false)]) :
    Calls Tryz.prog 20 #[.int .i64 64878, .slice none 0 0, va] w fun e w' => e = .returned (.tuple #[vv 123 14468034567615334444 14468034567615334400 false, .int .i64 0]) ∧ Below w.heap.size w w' := by
  have h := bin64878
  unfold chkBin at h
  simp only [Bool.and_eq_true, Bool.not_eq_true'] at h
  obtain ⟨⟨⟨⟨⟨⟨⟨⟨hc, hi⟩, u0⟩, u1⟩, u2⟩, u3⟩, v0⟩, v1⟩, v2⟩ := h
  obtain ⟨n, ro, tk, lv, fx, P⟩ := PC_of true 64878 hc hi
  have hbi := P.bi
  rw [name64878] at P u0 u1 u3 hbi
  have hn : n = 8 := by
    have e : biL (headC [105, 56, 120, 49, 54, 46, 97, 100, 100] 46) = 8 := by decide +kernel
    rw [e] at hbi; omega
  subst hn
  have e1 : verbL [105, 56, 120, 49, 54, 46, 97, 100, 100] = [97, 100, 100] := by decide +kernel
  have e2 : sgL [105, 56, 120, 49, 54, 46, 97, 100, 100] = false := by decide +kernel
  rw [e1, e2] at P
  have H := Do_each2 64878 [105, 56, 120, 49, 54, 46, 97, 100, 100] [97, 100, 100] 8 P.okn false false 0 false P.nm1 P.par P.len (fun hx => by rw [P.xs] at hx; cases hx) P.lo P.kn P.im P.la P.lb P.ea (fun x y => (binA 8 1 x y).1)
    (fun W => operation_bin_i [97, 100, 100] false 8 8 false 1 (by decide +kernel) (by decide +kernel) (by decide +kernel) _ (Two_int 8 1) P.n0 P.n1 W) (fun x y _ _ => binA_lt 8 P.okn 1 x y) 14468034567615334600 14468034567615334600 100 56 false false (by decide) (by decide) (by decide) (by decide) w hg va ha
  have x1 : loF 8 (fun i => (binA 8 1 (splitF 8 14468034567615334600 14468034567615334600 i) (splitF 8 100 56 i)).1) = 14468034567615334444 := by decide +kernel
  have x2 : hiF 8 (fun i => (binA 8 1 (splitF 8 14468034567615334600 14468034567615334600 i) (splitF 8 100 56 i)).1) = 14468034567615334400 := by decide +kernel
  rw [x1, x2] at H
  exact H
end Go.Proofs.YtlhakbkdlgejpaaGreatDoor
