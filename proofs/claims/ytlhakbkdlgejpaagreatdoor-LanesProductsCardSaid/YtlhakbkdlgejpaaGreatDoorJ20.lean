/-
  LWSrc, LRWid, LRW1x8: merged, what the law does not reach left out (each text says what it holds where it lies in wip). No condition.
-/
import Derived.Test.YtlhakbkdlgejpaaGreatDoorJ15
import Derived.Test.YtlhakbkdlgejpaaGreatDoorJ07
import Derived.Test.YtlhakbkdlgejpaaGreatDoorJ18
import Derived.Test.YtlhakbkdlgejpaaGreatDoorJ14
import Derived.Test.YtlhakbkdlgejpaaGreatDoorJ01
set_option linter.unusedSimpArgs false
set_option linter.unusedVariables false
set_option maxRecDepth 100000
namespace Go.Proofs.YtlhakbkdlgejpaaGreatDoor
open Go.RowKit
/-- Does a text begin so? -/
def begL (l t : List UInt8) : Bool := decide (t.length ≤ l.length) && (l.take t.length == t)
theorem begins_says (l t : List UInt8) (hl : l.length ≤ 1000) (w : World) : Calls Tryz.prog 197 #[.string (str l), .string (str t)] w fun e w' => e = .returned (.bool (begL l t)) ∧ w = w' := by
 obtain ⟨s, hs⟩ : ∃ s, s = str l := ⟨_, rfl⟩
 obtain ⟨u, hu⟩ : ∃ u, u = str t := ⟨_, rfl⟩
 have z1 : s.size = l.length := by rw [hs, str_size]
 have z2 : u.size = t.length := by rw [hu, str_size]
 rw [← hs, ← hu]
 by_cases h : t.length ≤ l.length
 ·have he := ext_list l 0 t.length (Nat.zero_le _)
  rw [← hs, List.drop_zero, Nat.sub_zero] at he
  have hv : begL l t = (l.take t.length == u.toList) := by
   unfold begL
   rw [decide_eq_true h, Bool.true_and, hu, str_list]
  have HV := hid hv
  clear hv hs hu
  go_enter Tryz.func197, Tryz.ntmps197
  go_wp2
  go_ret
  rw [HV.out]
  exact ⟨by rw [← he]; rfl, rfl⟩
 ·have HV := hid (show begL l t = false by unfold begL; rw [decide_eq_false h]; rfl)
  clear hs hu
  go_enter Tryz.func197, Tryz.ntmps197
  go_wp2
  go_ret
  exact ⟨by rw [HV.out]; rfl, rfl⟩
/-- The last shape among a text's words, and whether an s stands behind it. -/
def srcL : Nat → List UInt8 → List UInt8 × Bool → List UInt8 × Bool
 | 0, _, acc => acc
 | m + 1, l, acc => if l = [] then acc else srcL m (tailC l 95) (if 0 < biL (headC l 95) then (headC l 95, begL (tailC l 95) [115]) else acc)
theorem srcL_nil (m : Nat) (acc : List UInt8 × Bool) : srcL m [] acc = acc := by cases m <;> simp [srcL]
set_option maxHeartbeats 4000000 in
theorem source_says (v : List UInt8) (hl : v.length ≤ 1000) (R : List UInt8 × Bool) (hR : srcL v.length v ([], false) = R) (w : World) : Calls Tryz.prog 128 #[.string (str v)] w fun e w' => e = .returned (.tuple #[.string (str R.1), .bool R.2]) ∧ Below w.heap.size w w' := by
 have HR0 := hid hR
 have HL := hid hl
 obtain ⟨s, hs⟩ : ∃ s, s = str v := ⟨_, rfl⟩
 have HS := hid hs
 rw [← hs]
 have he : str [] = (⟨#[]⟩ : ByteArray) := rfl
 clear hl hs hR
 go_enter Tryz.func128, Tryz.ntmps128
 go_wp2
 go_loopw [4, 5, 6] (fun v4 v5 v6 wr => ∃ (x y : ByteArray) (b : Bool), v4 = .string x ∧ v5 = .bool b ∧ v6 = .string y ∧ Hid (∃ r m a, x = str a ∧ y = str r ∧ r.length ≤ m ∧ r.length ≤ 1000 ∧ srcL m r (a, b) = R) ∧ Hid (Below w.heap.size w wr)) (fun _ _ v6 _ => strSz v6)
 case atStart => exact ⟨⟨#[]⟩, s, false, rfl, rfl, rfl, ⟨v, v.length, [], rfl, HS.out, Nat.le_refl _, HL.out, HR0.out⟩, Below.refl _ _⟩
 case round =>
  obtain ⟨x, y, b, rfl, rfl, rfl, HQ, HB⟩ := hrel
  obtain ⟨r, m, a, hx, hy, hrm, hrl, hsr⟩ := HQ.out
  by_cases h0 : r = []
  ·have q : y.toList.isEmpty = true := by rw [hy, str_list, h0]; rfl
   rw [h0, srcL_nil] at hsr
   have HX : Hid (Ending.returned (.tuple #[.string x, .bool b]) = .returned (.tuple #[.string (str R.1), .bool R.2])) := by rw [← hsr, hx]; rfl
   clear hx hy hrm hrl hsr HQ h0 he HR0 HS
   go_wp2
   go_ret2
   exact ⟨HX.out, HB.out⟩
  ·have q : y.toList.isEmpty = false := by rw [hy, str_list]; simpa using h0
   obtain ⟨k, rfl⟩ : ∃ k, m = k + 1 := ⟨m - 1, by have := List.length_pos_iff.2 h0; omega⟩
   rw [srcL, if_neg h0] at hsr
   have HC := fun W => hid (RCut_says r hrl 95 95 rfl W)
   rw [← hy] at HC
   have HBI := fun W => hid (RBits_says (headC r 95) W)
   have ht := tailC_lt r 95 h0
   have HBG := fun W => hid (begins_says (tailC r 95) [115] (by omega) W)
   rw [show str [115] = (⟨#[115]⟩ : ByteArray) from rfl] at HBG
   have HSZ : Hid ((str (tailC r 95)).size < y.size) := by show (str (tailC r 95)).size < y.size; rw [hy, str_size, str_size]; exact ht
   by_cases hb : 0 < biL (headC r 95)
   ·rw [if_pos hb] at hsr
    have hbd : decide (biL (headC r 95) > 0) = true := decide_eq_true hb
    have hbd2 : decide (0 < biL (headC r 95)) = true := decide_eq_true hb
    have HT : Hid (∃ r' m' a', str (headC r 95) = str a' ∧ str (tailC r 95) = str r' ∧ r'.length ≤ m' ∧ r'.length ≤ 1000 ∧ srcL m' r' (a', begL (tailC r 95) [115]) = R) := ⟨tailC r 95, k, headC r 95, rfl, rfl, by omega, by omega, hsr⟩
    generalize begL (tailC r 95) [115] = b2 at *
    generalize biL (headC r 95) = nb at *
    generalize str (tailC r 95) = s2 at *
    generalize str (headC r 95) = s1 at *
    clear hx hy hrm hrl hsr HQ h0 he HR0 HS ht hb
    go_wp2_with (first
     | (go_at_call 122; refine (HC _).out.mono ?_; rintro e w1 ⟨rfl, hbb⟩; have HB1 := hid (HB.out.trans (hbb.mono HB.out.size)); clear hbb)
     | (go_at_call 123; refine (HBI _).out.mono ?_; rintro e w2 ⟨rfl, rfl⟩)
     | (go_at_call 197; refine (HBG _).out.mono ?_; rintro e w3 ⟨rfl, rfl⟩))
    go_roundw
    case rel => exact ⟨s1, s2, b2, rfl, rfl, rfl, HT, HB1⟩
    case measure => exact HSZ.out
   ·rw [if_neg hb] at hsr
    have hbd : decide (biL (headC r 95) > 0) = false := decide_eq_false hb
    have hbd2 : decide (0 < biL (headC r 95)) = false := decide_eq_false hb
    have HT : Hid (∃ r' m' a', x = str a' ∧ str (tailC r 95) = str r' ∧ r'.length ≤ m' ∧ r'.length ≤ 1000 ∧ srcL m' r' (a', b) = R) := ⟨tailC r 95, k, a, hx, rfl, by omega, by omega, hsr⟩
    generalize biL (headC r 95) = nb at *
    generalize str (tailC r 95) = s2 at *
    generalize str (headC r 95) = s1 at *
    clear hx hy hrm hrl hsr HQ h0 he HR0 HS ht hb HBG
    go_wp2_with (first
     | (go_at_call 122; refine (HC _).out.mono ?_; rintro e w1 ⟨rfl, hbb⟩; have HB1 := hid (HB.out.trans (hbb.mono HB.out.size)); clear hbb)
     | (go_at_call 123; refine (HBI _).out.mono ?_; rintro e w2 ⟨rfl, rfl⟩))
    go_roundw
    case rel => exact ⟨x, s2, b, rfl, rfl, rfl, HT, HB1⟩
    case measure => exact HSZ.out
set_option maxHeartbeats 4000000 in
theorem RDone_oth (r : Rw) (sh what : List UInt8) (hsh : headC r.2.1 46 = sh) (hwhat : tailC r.2.1 46 = what) (hnl : r.2.1.length ≤ 1000) (n : Nat) (hn : Okn n) (hbi : biL sh = n) (him : (r.2.2.1 == 25) = false) (him2 : (r.2.2.1 == 24) = false)
  (hw0 : (what == [115, 112, 108, 97, 116]) = false) (hw1 : (what == [115, 119, 105, 122, 122, 108, 101]) = false) (hw2 : (what == [97, 108, 108, 95, 116, 114, 117, 101]) = false) (hw3 : (what == [98, 105, 116, 109, 97, 115, 107]) = false)
  (src : List UInt8 × Bool) (hsrc : srcL what.length what ([], false) = src) (hne : (src.1 == []) = false)
  (vi va : Value) (l : List Av) (lo hi : Nat) (nl : Bool) (hl0 : l[0]? = some (123, lo, hi, nl)) (hlo : lo < 18446744073709551616) (hhi : hi < 18446744073709551616) (w : World) (ha : AR w va l) (F : Nat → Nat) (hF : ∀ i, i < cnt n → F i < 18446744073709551616)
  (HO : ∀ W, Below w.heap.size w W → Calls Tryz.prog 130 #[.int .i64 n, .string (str what), va] W (LPost W (cnt n) F)) :
  Calls Tryz.prog 80 #[rwV r, vi, va] w fun e w' => e = .returned (vv 123 (loF n F) (hiF n F) false) ∧ Below w.heap.size w w' := by
 obtain ⟨ro, nm, im, tk, lv, fx⟩ := r
 simp only [] at hsh hwhat hnl him him2
 have HCT := fun W => hid (RCut_says nm hnl 46 46 rfl W)
 rw [hsh, hwhat] at HCT
 have HBI := fun W => hid (RBits_says sh W)
 rw [hbi] at HBI
 have hwl : what.length ≤ 1000 := by
  rw [← hwhat]; unfold tailC; split
  ·rw [List.length_drop]; omega
  ·simp
 have HSO := fun W => hid (source_says what hwl src hsrc W)
 have HSP := fun W => hid (RSplit_says n hn 123 lo hi nl hlo hhi W)
 have hc1 : 1 ≤ cnt n := by rcases hn.cases with ⟨_, _, h⟩ | ⟨_, _, h⟩ | ⟨_, _, h⟩ | ⟨_, _, h⟩ <;> omega
 have HVC := fun v W (h : RowAt W v (cnt n) F) => hid (RVector_says n hn v (cnt n) (Nat.le_refl _) (by rcases hn.cases with ⟨_, _, h⟩ | ⟨_, _, h⟩ | ⟨_, _, h⟩ | ⟨_, _, h⟩ <;> omega) F W h hF)
 have hn0 : ((n : Int) == 0) = false := by have := hn.le; simp; have := hn.cases; omega
 have q0 : ((str what).toList == [115, 112, 108, 97, 116]) = false := by rw [str_list]; exact hw0
 have q1 : ((str what).toList == [115, 119, 105, 122, 122, 108, 101]) = false := by rw [str_list]; exact hw1
 have q2 : ((str what).toList == [97, 108, 108, 95, 116, 114, 117, 101]) = false := by rw [str_list]; exact hw2
 have q3 : ((str what).toList == [98, 105, 116, 109, 97, 115, 107]) = false := by rw [str_list]; exact hw3
 have q4 : (str src.1).toList.isEmpty = false := by rw [str_list]; simpa using hne
 have HOO := fun W h => hid (HO W h)
 have hll : 1 ≤ l.length := by have := (List.getElem?_eq_some_iff.1 hl0).1; omega
 obtain ⟨ga, ca, rfl, hga, hca, hata⟩ := ha
 obtain ⟨a0, a1, a2, a3⟩ := hata 0 (123, lo, hi, nl) hl0
 simp only [Nat.zero_mul, Nat.zero_add] at a0 a1 a2 a3
 obtain ⟨ll, hle⟩ : ∃ ll, ll = l.length := ⟨_, rfl⟩
 rw [← hle] at hll hca HOO ⊢
 unfold vv at HSP HVC ⊢
 unfold rwV
 generalize loF n F = lo2 at *
 generalize hiF n F = hi2 at *
 generalize cnt n = c at *
 generalize str what = sw at *
 generalize str sh = ss at *
 generalize str nm = sn at *
 generalize str src.1 = s1 at *
 generalize src.2 = b2 at *
 clear hsh hwhat hbi hsrc hne hlo hhi hata HO hF hw0 hw1 hw2 hw3 hn hnl hwl hle hl0
 go_enter Tryz.func80, Tryz.ntmps80
 go_wp2_with (first
  | (go_at_call 122; refine (HCT _).out.mono ?_; rintro e w1 ⟨rfl, hb1⟩; have hX1 := (And.intro ((CA.new _ _ 24).call hb1) (((((Below.refl w.heap.size w).alloc (Nat.le_refl _) _).alloc (by first | omega | (simp <;> omega)) _)).trans (hb1.mono (by first | omega | (simp <;> omega))))); have HX1 := hid hX1; have a0' := (hX1.2.cell (p := ⟨ga, 0, none⟩) hga).trans a0; have a1' := (hX1.2.cell (p := ⟨ga, 1, none⟩) hga).trans a1; have a2' := (hX1.2.cell (p := ⟨ga, 2, none⟩) hga).trans a2; have a3' := (hX1.2.cell (p := ⟨ga, 3, none⟩) hga).trans a3; have hbx := (((CA.new w _ 36).alloc _).call hb1).at (k := 2) (v := .int .i64 im) rfl; clear hb1 hX1)
  | (go_at_call 123; refine (HBI _).out.mono ?_; rintro e w2 ⟨rfl, rfl⟩)
  | (go_at_call 126; (with_reducible refine (HSP _).out.mono ?_); rintro e w3 ⟨v3, rfl, ho3, hb3⟩; have HX3 := hid (And.intro (HX1.out.1.call hb3) (HX1.out.2.trans (hb3.mono HX1.out.2.size))); clear hb3 ho3)
  | (go_at_call 128; refine (HSO _).out.mono ?_; rintro e w4 ⟨rfl, hb4⟩; have HX4 := hid (And.intro (HX3.out.1.call hb4) (HX3.out.2.trans (hb4.mono HX3.out.2.size))); clear hb4)
  | (go_at_call 130; (with_reducible refine (HOO _ HX4.out.2).out.mono ?_); rintro e w5 ⟨v5, rfl, ho5, hb5⟩; have HVR := HVC _ _ (RowAt.of_own ho5 hc1); have HX5 := hid (And.intro (HX4.out.1.call hb5) (HX4.out.2.trans (hb5.mono HX4.out.2.size))); clear hb5 ho5)
  | (go_at_call 129; (with_reducible refine HVR.out.mono ?_); rintro e w9 ⟨rfl, hb9⟩; have hC9 := HX5.out.1.call hb9; rw [size_al] at hC9; have HC9 := hid hC9; have HB10 := hid (HX5.out.2.trans (hb9.mono HX5.out.2.size)); have r0 := hC9.at (k := 0) (v := .int .i64 0) rfl; have r1 := hC9.at (k := 1) (v := .int .u64 0) rfl; have r2 := hC9.at (k := 2) (v := .int .u64 0) rfl; have r3 := hC9.at (k := 3) (v := .bool false) rfl; have f0 := hC9.free 0; have f1 := hC9.free 1; have f2 := hC9.free 2; have f3 := hC9.free 3; clear hb9 hC9))
 refine bodyPost_ret (v := .agg #[.int .i64 123, .int .u64 (lo2 : Nat), .int .u64 (hi2 : Nat), .bool false]) ?_ rfl ⟨rfl, (((HB10.out.setCell (p := ⟨w.heap.size + 1, 0, none⟩) (Nat.le_succ _) _).setCell (p := ⟨w.heap.size + 1, 1, none⟩) (Nat.le_succ _) _).setCell (p := ⟨w.heap.size + 1, 2, none⟩) (Nat.le_succ _) _).setCell (p := ⟨w.heap.size + 1, 3, none⟩) (Nat.le_succ _) _⟩
 simp [results, Tryz.results80, go_sem, r0, r1, r2, r3]
end Go.Proofs.YtlhakbkdlgejpaaGreatDoor
namespace Go.Proofs.YtlhakbkdlgejpaaGreatDoor
open Go.RowKit
/-- How a verb that widens begins, by what is done. -/
def begs (what : List UInt8) (k : Nat) : Bool := (begL what [110, 97, 114, 114, 111, 119] == false) && (begL what [101, 120, 116, 101, 110, 100, 95, 104, 105, 103, 104] == decide (k = 1)) && (begL what [101, 120, 116, 109, 117, 108, 95, 104, 105, 103, 104] == decide (k = 3)) && (begL what [101, 120, 116, 97, 100, 100] == decide (k = 4)) && (begL what [100, 111, 116] == decide (k = 5)) && (begL what [116, 114, 117, 110, 99] == false) && (begL what [99, 111, 110, 118, 101, 114, 116] == false) && (begL what [100, 101, 109, 111, 116, 101] == false) && (begL what [112, 114, 111, 109, 111, 116, 101] == false) && (begL what [101, 120, 116, 109, 117, 108] == decide (k = 2 ∨ k = 3))
theorem wid_mul (a b : Nat) : IntKind.u64.wrap ((a : Int) * (b : Int)) = ((a * b % 18446744073709551616 : Nat) : Int) := by rw [IntKind.wrap_u64]; simp
theorem wid_add (a b : Nat) : IntKind.u64.wrap ((a : Int) + (b : Int)) = (((a + b) % 18446744073709551616 : Nat) : Int) := by rw [IntKind.wrap_u64]; simp
theorem ext_true (n x : Nat) : IntKind.u64.wrap (sg n (x % 2 ^ n)) = ((extF n true x : Nat) : Int) := u64_toN _
theorem ext_false (n x : Nat) : extF n false x = x := rfl
end Go.Proofs.YtlhakbkdlgejpaaGreatDoor
namespace Go.Proofs.YtlhakbkdlgejpaaGreatDoor
open Go.RowKit
set_option maxHeartbeats 8000000 in
theorem roth1_8 (k : Nat) (hk : k = 0 ∨ k = 1 ∨ k = 4) (s : Bool) (what sh : List UInt8) (hwl : what.length ≤ 1000) (hsrc : srcL what.length what ([], false) = (sh, s)) (hsh : biL sh = 8) (hb : begs what k = true) (alo ahi : Nat) (anl : Bool) (h1 : alo < 18446744073709551616) (h2 : ahi < 18446744073709551616) (w : World) (va : Value) (ha : AR w va [(123, alo, ahi, anl)]) :
  Calls Tryz.prog 130 #[.int .i64 16, .string (str what), va] w (LPost w 8 (widR k 8 (fun i => extF 8 s (splitF 8 alo ahi i)) (fun i => extF 8 s (splitF 8 alo ahi i)))) := by
 obtain ⟨sw, hsw⟩ : ∃ sw, sw = str what := ⟨_, rfl⟩
 obtain ⟨ss, hss⟩ : ∃ ss, ss = str sh := ⟨_, rfl⟩
 rw [← hsw]
 unfold begs at hb
 simp only [Bool.and_eq_true, beq_iff_eq] at hb
 obtain ⟨⟨⟨⟨⟨⟨⟨⟨⟨hb0, hb1⟩, hb2⟩, hb3⟩, hb4⟩, hb5⟩, hb6⟩, hb7⟩, hb8⟩, hb9⟩ := hb
 have HSO : ∀ W, Hid (Calls Tryz.prog 128 #[.string sw] W fun e w' => e = .returned (.tuple #[.string ss, .bool s]) ∧ Below W.heap.size W w') := fun W => by rw [hsw, hss]; exact hid (source_says what hwl (sh, s) hsrc W)
 have HBI : ∀ W, Hid (Calls Tryz.prog 123 #[.string ss] W fun e w' => e = .returned (.int .i64 8) ∧ W = w') := fun W => by rw [hss, ← hsh]; exact hid (RBits_says sh W)
 have G0 : ∀ W, Hid (Calls Tryz.prog 197 #[.string sw, .string ⟨#[110, 97, 114, 114, 111, 119]⟩] W fun e w' => e = .returned (.bool (false)) ∧ W = w') := fun W => by rw [hsw, ← hb0]; exact hid (begins_says what [110, 97, 114, 114, 111, 119] hwl W)
 have G1 : ∀ W, Hid (Calls Tryz.prog 197 #[.string sw, .string ⟨#[101, 120, 116, 101, 110, 100, 95, 104, 105, 103, 104]⟩] W fun e w' => e = .returned (.bool (decide (k = 1))) ∧ W = w') := fun W => by rw [hsw, ← hb1]; exact hid (begins_says what [101, 120, 116, 101, 110, 100, 95, 104, 105, 103, 104] hwl W)
 have G2 : ∀ W, Hid (Calls Tryz.prog 197 #[.string sw, .string ⟨#[101, 120, 116, 109, 117, 108, 95, 104, 105, 103, 104]⟩] W fun e w' => e = .returned (.bool (decide (k = 3))) ∧ W = w') := fun W => by rw [hsw, ← hb2]; exact hid (begins_says what [101, 120, 116, 109, 117, 108, 95, 104, 105, 103, 104] hwl W)
 have G3 : ∀ W, Hid (Calls Tryz.prog 197 #[.string sw, .string ⟨#[101, 120, 116, 97, 100, 100]⟩] W fun e w' => e = .returned (.bool (decide (k = 4))) ∧ W = w') := fun W => by rw [hsw, ← hb3]; exact hid (begins_says what [101, 120, 116, 97, 100, 100] hwl W)
 have G4 : ∀ W, Hid (Calls Tryz.prog 197 #[.string sw, .string ⟨#[100, 111, 116]⟩] W fun e w' => e = .returned (.bool (decide (k = 5))) ∧ W = w') := fun W => by rw [hsw, ← hb4]; exact hid (begins_says what [100, 111, 116] hwl W)
 have G5 : ∀ W, Hid (Calls Tryz.prog 197 #[.string sw, .string ⟨#[116, 114, 117, 110, 99]⟩] W fun e w' => e = .returned (.bool (false)) ∧ W = w') := fun W => by rw [hsw, ← hb5]; exact hid (begins_says what [116, 114, 117, 110, 99] hwl W)
 have G6 : ∀ W, Hid (Calls Tryz.prog 197 #[.string sw, .string ⟨#[99, 111, 110, 118, 101, 114, 116]⟩] W fun e w' => e = .returned (.bool (false)) ∧ W = w') := fun W => by rw [hsw, ← hb6]; exact hid (begins_says what [99, 111, 110, 118, 101, 114, 116] hwl W)
 have G7 : ∀ W, Hid (Calls Tryz.prog 197 #[.string sw, .string ⟨#[100, 101, 109, 111, 116, 101]⟩] W fun e w' => e = .returned (.bool (false)) ∧ W = w') := fun W => by rw [hsw, ← hb7]; exact hid (begins_says what [100, 101, 109, 111, 116, 101] hwl W)
 have G8 : ∀ W, Hid (Calls Tryz.prog 197 #[.string sw, .string ⟨#[112, 114, 111, 109, 111, 116, 101]⟩] W fun e w' => e = .returned (.bool (false)) ∧ W = w') := fun W => by rw [hsw, ← hb8]; exact hid (begins_says what [112, 114, 111, 109, 111, 116, 101] hwl W)
 have G9 : ∀ W, Hid (Calls Tryz.prog 197 #[.string sw, .string ⟨#[101, 120, 116, 109, 117, 108]⟩] W fun e w' => e = .returned (.bool (decide (k = 2 ∨ k = 3))) ∧ W = w') := fun W => by rw [hsw, ← hb9]; exact hid (begins_says what [101, 120, 116, 109, 117, 108] hwl W)
 clear hsw hss hb0 hb1 hb2 hb3 hb4 hb5 hb6 hb7 hb8 hb9 hwl hsrc hsh
 have HSPA : ∀ W, Hid (Calls Tryz.prog 126 #[.int .i64 8, .agg #[.int .i64 123, .int .u64 (alo : Nat), .int .u64 (ahi : Nat), .bool anl]] W (LPost W 16 (splitF 8 alo ahi))) := fun W => hid (RSplit_says 8 (by decide) 123 alo ahi anl h1 h2 W)
 have HF : Hid (∀ i, splitF 8 alo ahi i < 2 ^ 8) := hid (fun i => splitF_lt _ _ _ _)
 generalize splitF 8 alo ahi = F at *
 obtain ⟨R, hR⟩ : ∃ R : Nat → Nat, R = widR k 8 (fun i => extF 8 s (F i)) (fun i => extF 8 s (F i)) := ⟨_, rfl⟩
 rw [← hR]
 have HR := hid hR
 clear hR h1 h2
 obtain ⟨ga, ca, rfl, hga, hca, hata⟩ := ha
 obtain ⟨a0, a1, a2, a3⟩ := hata 0 (123, alo, ahi, anl) rfl
 simp only [Nat.zero_mul, Nat.zero_add, Nat.one_mul] at a0 a1 a2 a3
 simp only [List.length_cons, List.length_nil] at hca ⊢
 have HAA := hid (And.intro a0 (And.intro a1 (And.intro a2 a3)))
 have HGA := hid hga
 have HKK := hid hk
 clear hata a0 a1 a2 a3 hk
 go_enter Tryz.func130, Tryz.ntmps130
 go_upto_region 3 with (first
  | (go_at_call 128; (with_reducible refine (HSO _).out.mono ?_); rintro e w1 ⟨rfl, hb1⟩; have HB1 := hid hb1; clear hb1)
  | (go_at_call 123; (with_reducible refine (HBI _).out.mono ?_); rintro e w2 ⟨rfl, rfl⟩))
 obtain ⟨x0, x1, x2, x3⟩ := HAA.out
 have z0 := (HB1.out.cell (p := ⟨ga, 0, none⟩) hga).trans x0
 have z1 := (HB1.out.cell (p := ⟨ga, 1, none⟩) hga).trans x1
 have z2 := (HB1.out.cell (p := ⟨ga, 2, none⟩) hga).trans x2
 have z3 := (HB1.out.cell (p := ⟨ga, 3, none⟩) hga).trans x3
 clear x0 x1 x2 x3
 go_upto_region 7 with (go_at_call 126; (with_reducible refine (HSPA _).out.mono ?_); rintro e w3 ⟨v3, rfl, ho3, hb3⟩; have HO3 := hid ho3; have HB3 := hid (HB1.out.trans (hb3.mono HB1.out.size)); have HN3 := hid hb3; obtain ⟨g3, cap3, rfl⟩ := owned_at ho3 (by decide); clear ho3 hb3)
 have HL5 : Hid (RowAt w3 (.slice (some ⟨g3, 0, none⟩) 16 cap3) 16 F) := RowAt.of_own HO3.out (by decide)
 clear HO3 HN3 z0 z1 z2 z3 HAA
 have HB5 := HB3
 have HB1 := HB3
 clear HB3
 have B0 : ∀ W, Hid (Calls Tryz.prog 197 #[.string sw, .string ⟨#[110, 97, 114, 114, 111, 119]⟩] W fun e w' => e = .returned (.bool false) ∧ W = w') := G0
 go_upto_region 11 with (go_at_call 197; (with_reducible refine (B0 _).out.mono ?_); rintro e w5 ⟨rfl, rfl⟩)
 clear HSO HBI HSPA hga hca
 obtain ⟨gl, ol, cl, e1, hgl, hcl, hatl⟩ := HL5.out
 injection e1 with e1 _ _
 injection e1 with e1
 injection e1 with e1 e2
 subst e1; subst e2
 have HLL := hid hatl
 clear hatl HL5
 go_wp2_with fail
 go_loopw [12, 14] (fun vo vi wr => ∃ i : Nat, i ≤ 8 ∧ vi = .int .i64 i ∧ Hid (wr.ownsRow w3.heap.size 22 1 vo i (fc i R)) ∧ Hid (Below w3.heap.size w3 wr)) (fun _ vi _ => 8 - (intOf vi).toNat)
 case atStart => exact ⟨0, Nat.zero_le _, rfl, World.ownsRow_nil _ _ _ _, Below.refl _ _⟩
 case round =>
  obtain ⟨i, hin, rfl, HOW, HBW⟩ := hrel
  by_cases hlt : i < 8
  ·rcases HKK.out with rfl | rfl | rfl
   ·have B1 : ∀ W, Hid (Calls Tryz.prog 197 #[.string sw, .string ⟨#[101, 120, 116, 101, 110, 100, 95, 104, 105, 103, 104]⟩] W fun e w' => e = .returned (.bool false) ∧ W = w') := G1
    have B2 : ∀ W, Hid (Calls Tryz.prog 197 #[.string sw, .string ⟨#[101, 120, 116, 109, 117, 108, 95, 104, 105, 103, 104]⟩] W fun e w' => e = .returned (.bool false) ∧ W = w') := G2
    have B3 : ∀ W, Hid (Calls Tryz.prog 197 #[.string sw, .string ⟨#[101, 120, 116, 97, 100, 100]⟩] W fun e w' => e = .returned (.bool false) ∧ W = w') := G3
    have B4 : ∀ W, Hid (Calls Tryz.prog 197 #[.string sw, .string ⟨#[100, 111, 116]⟩] W fun e w' => e = .returned (.bool false) ∧ W = w') := G4
    have B5 : ∀ W, Hid (Calls Tryz.prog 197 #[.string sw, .string ⟨#[116, 114, 117, 110, 99]⟩] W fun e w' => e = .returned (.bool false) ∧ W = w') := G5
    have B6 : ∀ W, Hid (Calls Tryz.prog 197 #[.string sw, .string ⟨#[99, 111, 110, 118, 101, 114, 116]⟩] W fun e w' => e = .returned (.bool false) ∧ W = w') := G6
    have B7 : ∀ W, Hid (Calls Tryz.prog 197 #[.string sw, .string ⟨#[100, 101, 109, 111, 116, 101]⟩] W fun e w' => e = .returned (.bool false) ∧ W = w') := G7
    have B8 : ∀ W, Hid (Calls Tryz.prog 197 #[.string sw, .string ⟨#[112, 114, 111, 109, 111, 116, 101]⟩] W fun e w' => e = .returned (.bool false) ∧ W = w') := G8
    have B9 : ∀ W, Hid (Calls Tryz.prog 197 #[.string sw, .string ⟨#[101, 120, 116, 109, 117, 108]⟩] W fun e w' => e = .returned (.bool false) ∧ W = w') := G9
    clear G0 G1 G2 G3 G4 G5 G6 G7 G8 G9 HKK
    have hjc : i < 16 := by omega
    have tmv : ((i : Int).tmod 16) = (i : Int) := by rw [Int.tmod_eq_emod_of_nonneg (by omega)]; omega
    have k1 : wr.cell? ⟨g3, i, none⟩ = some (.int .u64 (F i : Nat)) := by have h := (HBW.out.cell (p := ⟨g3, 0 + i, none⟩) hgl).trans (HLL.out i (by omega)).1; rwa [Nat.zero_add] at h
    have hri : R i = extF 8 s (F i) := by rw [HR.out]; rfl
    have HSN := hid (fc_snoc i R)
    have HVx := hid (show F i < 2 ^ 8 from HF.out _)
    cases s with
    | false =>
     simp only [ext_false] at hri
     generalize F i = ex at *
     clear HVx HF HR HLL
     subst hri
     have hwr := HBW.out.size
     go_wp2_with (first
      | (go_at_call 197; (first | (with_reducible refine (B0 _).out.mono ?_) | (with_reducible refine (B1 _).out.mono ?_) | (with_reducible refine (B2 _).out.mono ?_) | (with_reducible refine (B3 _).out.mono ?_) | (with_reducible refine (B4 _).out.mono ?_) | (with_reducible refine (B5 _).out.mono ?_) | (with_reducible refine (B6 _).out.mono ?_) | (with_reducible refine (B7 _).out.mono ?_) | (with_reducible refine (B8 _).out.mono ?_) | (with_reducible refine (B9 _).out.mono ?_)); rintro e w6 ⟨rfl, rfl⟩)
      | (at_builtin; refine append_u64 rfl _ _ rfl w3.heap.size _ _ _ (R i : Int) HOW.out hwr (by omega) rfl rfl ?_; intro v' w8 hown' hnx8 hsz8))
     rw [HSN.out] at hown'
     have HO8 := hid hown'
     have HB8 := hid (HBW.out.trans hnx8)
     clear hown' hnx8 hsz8
     go_roundw
     case rel => exact ⟨i + 1, hlt, rfl, HO8, HB8⟩
     case measure => (simp [intOf]; omega)
    | true =>
     have HSx : ∀ W, Hid (Calls Tryz.prog 143 #[.int .i64 8, .int .u64 (F i : Nat)] W fun e w' => e = .returned (.int .i64 (sg 8 (F i % 2 ^ 8))) ∧ W = w') := fun W => hid (RSigned_ok 8 (by decide) (F i) (by have := HVx.out; omega) W)
     have hzx := ext_true 8 (F i)
     generalize extF 8 true (F i) = ex at *
     generalize sg 8 (F i % 2 ^ 8) = zx at *
     generalize F i = ax at *
     clear HVx HF HR HLL
     rw [← hri] at hzx
     clear hri
     have hwr := HBW.out.size
     go_wp2_with (first
      | (go_at_call 197; (first | (with_reducible refine (B0 _).out.mono ?_) | (with_reducible refine (B1 _).out.mono ?_) | (with_reducible refine (B2 _).out.mono ?_) | (with_reducible refine (B3 _).out.mono ?_) | (with_reducible refine (B4 _).out.mono ?_) | (with_reducible refine (B5 _).out.mono ?_) | (with_reducible refine (B6 _).out.mono ?_) | (with_reducible refine (B7 _).out.mono ?_) | (with_reducible refine (B8 _).out.mono ?_) | (with_reducible refine (B9 _).out.mono ?_)); rintro e w6 ⟨rfl, rfl⟩)
      | (go_at_call 143; (first | (with_reducible refine (HSx _).out.mono ?_)); rintro e w6 ⟨rfl, rfl⟩)
      | (at_builtin; refine append_u64 rfl _ _ rfl w3.heap.size _ _ _ (R i : Int) HOW.out hwr (by omega) rfl rfl ?_; intro v' w8 hown' hnx8 hsz8))
     rw [HSN.out] at hown'
     have HO8 := hid hown'
     have HB8 := hid (HBW.out.trans hnx8)
     clear hown' hnx8 hsz8
     go_roundw
     case rel => exact ⟨i + 1, hlt, rfl, HO8, HB8⟩
     case measure => (simp [intOf]; omega)
   ·have B1 : ∀ W, Hid (Calls Tryz.prog 197 #[.string sw, .string ⟨#[101, 120, 116, 101, 110, 100, 95, 104, 105, 103, 104]⟩] W fun e w' => e = .returned (.bool true) ∧ W = w') := G1
    have B2 : ∀ W, Hid (Calls Tryz.prog 197 #[.string sw, .string ⟨#[101, 120, 116, 109, 117, 108, 95, 104, 105, 103, 104]⟩] W fun e w' => e = .returned (.bool false) ∧ W = w') := G2
    have B3 : ∀ W, Hid (Calls Tryz.prog 197 #[.string sw, .string ⟨#[101, 120, 116, 97, 100, 100]⟩] W fun e w' => e = .returned (.bool false) ∧ W = w') := G3
    have B4 : ∀ W, Hid (Calls Tryz.prog 197 #[.string sw, .string ⟨#[100, 111, 116]⟩] W fun e w' => e = .returned (.bool false) ∧ W = w') := G4
    have B5 : ∀ W, Hid (Calls Tryz.prog 197 #[.string sw, .string ⟨#[116, 114, 117, 110, 99]⟩] W fun e w' => e = .returned (.bool false) ∧ W = w') := G5
    have B6 : ∀ W, Hid (Calls Tryz.prog 197 #[.string sw, .string ⟨#[99, 111, 110, 118, 101, 114, 116]⟩] W fun e w' => e = .returned (.bool false) ∧ W = w') := G6
    have B7 : ∀ W, Hid (Calls Tryz.prog 197 #[.string sw, .string ⟨#[100, 101, 109, 111, 116, 101]⟩] W fun e w' => e = .returned (.bool false) ∧ W = w') := G7
    have B8 : ∀ W, Hid (Calls Tryz.prog 197 #[.string sw, .string ⟨#[112, 114, 111, 109, 111, 116, 101]⟩] W fun e w' => e = .returned (.bool false) ∧ W = w') := G8
    have B9 : ∀ W, Hid (Calls Tryz.prog 197 #[.string sw, .string ⟨#[101, 120, 116, 109, 117, 108]⟩] W fun e w' => e = .returned (.bool false) ∧ W = w') := G9
    clear G0 G1 G2 G3 G4 G5 G6 G7 G8 G9 HKK
    obtain ⟨j, hj⟩ : ∃ j, j = i + 8 := ⟨_, rfl⟩
    have i1 : (i : Int) + 8 = (j : Int) := by omega
    have hjc : j < 16 := by omega
    have tmv : ((j : Int).tmod 16) = (j : Int) := by rw [Int.tmod_eq_emod_of_nonneg (by omega)]; omega
    have k1 : wr.cell? ⟨g3, j, none⟩ = some (.int .u64 (F j : Nat)) := by have h := (HBW.out.cell (p := ⟨g3, 0 + j, none⟩) hgl).trans (HLL.out j (by omega)).1; rwa [Nat.zero_add] at h
    have hri : R i = extF 8 s (F j) := by rw [HR.out]; subst hj; rfl
    have HSN := hid (fc_snoc i R)
    have HVx := hid (show F j < 2 ^ 8 from HF.out _)
    cases s with
    | false =>
     simp only [ext_false] at hri
     generalize F j = ex at *
     clear HVx HF HR HLL
     subst hri
     clear hj
     have hwr := HBW.out.size
     go_wp2_with (first
      | (go_at_call 197; (first | (with_reducible refine (B0 _).out.mono ?_) | (with_reducible refine (B1 _).out.mono ?_) | (with_reducible refine (B2 _).out.mono ?_) | (with_reducible refine (B3 _).out.mono ?_) | (with_reducible refine (B4 _).out.mono ?_) | (with_reducible refine (B5 _).out.mono ?_) | (with_reducible refine (B6 _).out.mono ?_) | (with_reducible refine (B7 _).out.mono ?_) | (with_reducible refine (B8 _).out.mono ?_) | (with_reducible refine (B9 _).out.mono ?_)); rintro e w6 ⟨rfl, rfl⟩)
      | (at_builtin; refine append_u64 rfl _ _ rfl w3.heap.size _ _ _ (R i : Int) HOW.out hwr (by omega) rfl rfl ?_; intro v' w8 hown' hnx8 hsz8))
     rw [HSN.out] at hown'
     have HO8 := hid hown'
     have HB8 := hid (HBW.out.trans hnx8)
     clear hown' hnx8 hsz8
     go_roundw
     case rel => exact ⟨i + 1, hlt, rfl, HO8, HB8⟩
     case measure => (simp [intOf]; omega)
    | true =>
     have HSx : ∀ W, Hid (Calls Tryz.prog 143 #[.int .i64 8, .int .u64 (F j : Nat)] W fun e w' => e = .returned (.int .i64 (sg 8 (F j % 2 ^ 8))) ∧ W = w') := fun W => hid (RSigned_ok 8 (by decide) (F j) (by have := HVx.out; omega) W)
     have hzx := ext_true 8 (F j)
     generalize extF 8 true (F j) = ex at *
     generalize sg 8 (F j % 2 ^ 8) = zx at *
     generalize F j = ax at *
     clear HVx HF HR HLL
     rw [← hri] at hzx
     clear hri
     clear hj
     have hwr := HBW.out.size
     go_wp2_with (first
      | (go_at_call 197; (first | (with_reducible refine (B0 _).out.mono ?_) | (with_reducible refine (B1 _).out.mono ?_) | (with_reducible refine (B2 _).out.mono ?_) | (with_reducible refine (B3 _).out.mono ?_) | (with_reducible refine (B4 _).out.mono ?_) | (with_reducible refine (B5 _).out.mono ?_) | (with_reducible refine (B6 _).out.mono ?_) | (with_reducible refine (B7 _).out.mono ?_) | (with_reducible refine (B8 _).out.mono ?_) | (with_reducible refine (B9 _).out.mono ?_)); rintro e w6 ⟨rfl, rfl⟩)
      | (go_at_call 143; (first | (with_reducible refine (HSx _).out.mono ?_)); rintro e w6 ⟨rfl, rfl⟩)
      | (at_builtin; refine append_u64 rfl _ _ rfl w3.heap.size _ _ _ (R i : Int) HOW.out hwr (by omega) rfl rfl ?_; intro v' w8 hown' hnx8 hsz8))
     rw [HSN.out] at hown'
     have HO8 := hid hown'
     have HB8 := hid (HBW.out.trans hnx8)
     clear hown' hnx8 hsz8
     go_roundw
     case rel => exact ⟨i + 1, hlt, rfl, HO8, HB8⟩
     case measure => (simp [intOf]; omega)
   ·have B1 : ∀ W, Hid (Calls Tryz.prog 197 #[.string sw, .string ⟨#[101, 120, 116, 101, 110, 100, 95, 104, 105, 103, 104]⟩] W fun e w' => e = .returned (.bool false) ∧ W = w') := G1
    have B2 : ∀ W, Hid (Calls Tryz.prog 197 #[.string sw, .string ⟨#[101, 120, 116, 109, 117, 108, 95, 104, 105, 103, 104]⟩] W fun e w' => e = .returned (.bool false) ∧ W = w') := G2
    have B3 : ∀ W, Hid (Calls Tryz.prog 197 #[.string sw, .string ⟨#[101, 120, 116, 97, 100, 100]⟩] W fun e w' => e = .returned (.bool true) ∧ W = w') := G3
    have B4 : ∀ W, Hid (Calls Tryz.prog 197 #[.string sw, .string ⟨#[100, 111, 116]⟩] W fun e w' => e = .returned (.bool false) ∧ W = w') := G4
    have B5 : ∀ W, Hid (Calls Tryz.prog 197 #[.string sw, .string ⟨#[116, 114, 117, 110, 99]⟩] W fun e w' => e = .returned (.bool false) ∧ W = w') := G5
    have B6 : ∀ W, Hid (Calls Tryz.prog 197 #[.string sw, .string ⟨#[99, 111, 110, 118, 101, 114, 116]⟩] W fun e w' => e = .returned (.bool false) ∧ W = w') := G6
    have B7 : ∀ W, Hid (Calls Tryz.prog 197 #[.string sw, .string ⟨#[100, 101, 109, 111, 116, 101]⟩] W fun e w' => e = .returned (.bool false) ∧ W = w') := G7
    have B8 : ∀ W, Hid (Calls Tryz.prog 197 #[.string sw, .string ⟨#[112, 114, 111, 109, 111, 116, 101]⟩] W fun e w' => e = .returned (.bool false) ∧ W = w') := G8
    have B9 : ∀ W, Hid (Calls Tryz.prog 197 #[.string sw, .string ⟨#[101, 120, 116, 109, 117, 108]⟩] W fun e w' => e = .returned (.bool false) ∧ W = w') := G9
    clear G0 G1 G2 G3 G4 G5 G6 G7 G8 G9 HKK
    obtain ⟨j, hj⟩ : ∃ j, j = 2 * i := ⟨_, rfl⟩
    obtain ⟨q, hq⟩ : ∃ q, q = 2 * i + 1 := ⟨_, rfl⟩
    have i1 : 2 * (i : Int) = (j : Int) := by omega
    have i2 : (j : Int) + 1 = (q : Int) := by omega
    have hqc : q < 16 := by omega
    have hjc : j < 16 := by omega
    have tmv : ((j : Int).tmod 16) = (j : Int) := by rw [Int.tmod_eq_emod_of_nonneg (by omega)]; omega
    have k1 : wr.cell? ⟨g3, j, none⟩ = some (.int .u64 (F j : Nat)) := by have h := (HBW.out.cell (p := ⟨g3, 0 + j, none⟩) hgl).trans (HLL.out j (by omega)).1; rwa [Nat.zero_add] at h
    have k3 : wr.cell? ⟨g3, q, none⟩ = some (.int .u64 (F q : Nat)) := by have h := (HBW.out.cell (p := ⟨g3, 0 + q, none⟩) hgl).trans (HLL.out q (by omega)).1; rwa [Nat.zero_add] at h
    have hri : R i = (extF 8 s (F j) + extF 8 s (F q)) % 18446744073709551616 := by rw [HR.out]; subst hj; subst hq; rfl
    have HSN := hid (fc_snoc i R)
    have HVx := hid (show F j < 2 ^ 8 from HF.out _)
    have HVu := hid (show F q < 2 ^ 8 from HF.out _)
    cases s with
    | false =>
     simp only [ext_false] at hri
     generalize F j = ex at *
     generalize F q = eu at *
     clear HVx HVu HF HR HLL
     have hs1 := wid_add ex eu
     rw [← hri] at hs1
     clear hri
     clear hj hq
     have hwr := HBW.out.size
     go_wp2_with (first
      | (go_at_call 197; (first | (with_reducible refine (B0 _).out.mono ?_) | (with_reducible refine (B1 _).out.mono ?_) | (with_reducible refine (B2 _).out.mono ?_) | (with_reducible refine (B3 _).out.mono ?_) | (with_reducible refine (B4 _).out.mono ?_) | (with_reducible refine (B5 _).out.mono ?_) | (with_reducible refine (B6 _).out.mono ?_) | (with_reducible refine (B7 _).out.mono ?_) | (with_reducible refine (B8 _).out.mono ?_) | (with_reducible refine (B9 _).out.mono ?_)); rintro e w6 ⟨rfl, rfl⟩)
      | (at_builtin; refine append_u64 rfl _ _ rfl w3.heap.size _ _ _ (R i : Int) HOW.out hwr (by omega) rfl rfl ?_; intro v' w8 hown' hnx8 hsz8))
     rw [HSN.out] at hown'
     have HO8 := hid hown'
     have HB8 := hid (HBW.out.trans hnx8)
     clear hown' hnx8 hsz8
     go_roundw
     case rel => exact ⟨i + 1, hlt, rfl, HO8, HB8⟩
     case measure => (simp [intOf]; omega)
    | true =>
     have HSx : ∀ W, Hid (Calls Tryz.prog 143 #[.int .i64 8, .int .u64 (F j : Nat)] W fun e w' => e = .returned (.int .i64 (sg 8 (F j % 2 ^ 8))) ∧ W = w') := fun W => hid (RSigned_ok 8 (by decide) (F j) (by have := HVx.out; omega) W)
     have hzx := ext_true 8 (F j)
     have HSu : ∀ W, Hid (Calls Tryz.prog 143 #[.int .i64 8, .int .u64 (F q : Nat)] W fun e w' => e = .returned (.int .i64 (sg 8 (F q % 2 ^ 8))) ∧ W = w') := fun W => hid (RSigned_ok 8 (by decide) (F q) (by have := HVu.out; omega) W)
     have hzu := ext_true 8 (F q)
     generalize extF 8 true (F j) = ex at *
     generalize extF 8 true (F q) = eu at *
     generalize sg 8 (F j % 2 ^ 8) = zx at *
     generalize sg 8 (F q % 2 ^ 8) = zu at *
     generalize F j = ax at *
     generalize F q = au at *
     clear HVx HVu HF HR HLL
     have hs1 := wid_add ex eu
     rw [← hri] at hs1
     clear hri
     clear hj hq
     have hwr := HBW.out.size
     go_wp2_with (first
      | (go_at_call 197; (first | (with_reducible refine (B0 _).out.mono ?_) | (with_reducible refine (B1 _).out.mono ?_) | (with_reducible refine (B2 _).out.mono ?_) | (with_reducible refine (B3 _).out.mono ?_) | (with_reducible refine (B4 _).out.mono ?_) | (with_reducible refine (B5 _).out.mono ?_) | (with_reducible refine (B6 _).out.mono ?_) | (with_reducible refine (B7 _).out.mono ?_) | (with_reducible refine (B8 _).out.mono ?_) | (with_reducible refine (B9 _).out.mono ?_)); rintro e w6 ⟨rfl, rfl⟩)
      | (go_at_call 143; (first | (with_reducible refine (HSx _).out.mono ?_) | (with_reducible refine (HSu _).out.mono ?_)); rintro e w6 ⟨rfl, rfl⟩)
      | (at_builtin; refine append_u64 rfl _ _ rfl w3.heap.size _ _ _ (R i : Int) HOW.out hwr (by omega) rfl rfl ?_; intro v' w8 hown' hnx8 hsz8))
     rw [HSN.out] at hown'
     have HO8 := hid hown'
     have HB8 := hid (HBW.out.trans hnx8)
     clear hown' hnx8 hsz8
     go_roundw
     case rel => exact ⟨i + 1, hlt, rfl, HO8, HB8⟩
     case measure => (simp [intOf]; omega)
  ·have hE : i = 8 := by omega
   subst hE
   go_wp2
   go_ret
   exact ⟨_, rfl, own_mono HOW.out HB5.out.size, HB5.out.trans (HBW.out.mono HB5.out.size)⟩
end Go.Proofs.YtlhakbkdlgejpaaGreatDoor
