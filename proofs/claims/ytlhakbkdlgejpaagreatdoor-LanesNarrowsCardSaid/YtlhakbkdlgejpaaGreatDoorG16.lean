/-
  LWSrc, LXExt: merged, what the law does not reach left out (each text says what it holds where it lies in wip). No condition.
-/
import Derived.Test.YtlhakbkdlgejpaaGreatDoorG14
import Derived.Test.YtlhakbkdlgejpaaGreatDoorG07
import Derived.Test.YtlhakbkdlgejpaaGreatDoorG06
import Derived.Test.YtlhakbkdlgejpaaGreatDoorG05
set_option linter.unusedSimpArgs false
set_option linter.unusedVariables false
set_option maxRecDepth 100000
namespace Go.Proofs.YtlhakbkdlgejpaaGreatDoor
open Go.RowKit
/-- Does a text begin so? -/
def begL (l t : List UInt8) : Bool := decide (t.length ≤ l.length) && (l.take t.length == t)
theorem begins_says (l t : List UInt8) (hl : l.length ≤ 1000) (w : World) : Calls Tryz.prog 197 #[.string (str l), .string (str t)] w fun e w' => e = .returned (.bool (begL l t)) ∧ w = w' := by
 obtain ⟨s, hs⟩ : ∃ s, s = str l := ⟨_, rfl⟩
 obtain ⟨u, hu⟩ : ∃ u, u = str t := ⟨_, rfl⟩
 have z1 : s.size = l.length := by rw [hs, str_size]
 have z2 : u.size = t.length := by rw [hu, str_size]
 rw [← hs, ← hu]
 by_cases h : t.length ≤ l.length
 ·have he := ext_list l 0 t.length (Nat.zero_le _)
  rw [← hs, List.drop_zero, Nat.sub_zero] at he
  have hv : begL l t = (l.take t.length == u.toList) := by
   unfold begL
   rw [decide_eq_true h, Bool.true_and, hu, str_list]
  have HV := hid hv
  clear hv hs hu
  go_enter Tryz.func197, Tryz.ntmps197
  go_wp2
  go_ret
  rw [HV.out]
  exact ⟨by rw [← he]; rfl, rfl⟩
 ·have HV := hid (show begL l t = false by unfold begL; rw [decide_eq_false h]; rfl)
  clear hs hu
  go_enter Tryz.func197, Tryz.ntmps197
  go_wp2
  go_ret
  exact ⟨by rw [HV.out]; rfl, rfl⟩
/-- The last shape among a text's words, and whether an s stands behind it. -/
def srcL : Nat → List UInt8 → List UInt8 × Bool → List UInt8 × Bool
 | 0, _, acc => acc
 | m + 1, l, acc => if l = [] then acc else srcL m (tailC l 95) (if 0 < biL (headC l 95) then (headC l 95, begL (tailC l 95) [115]) else acc)
theorem srcL_nil (m : Nat) (acc : List UInt8 × Bool) : srcL m [] acc = acc := by cases m <;> simp [srcL]
set_option maxHeartbeats 4000000 in
theorem source_says (v : List UInt8) (hl : v.length ≤ 1000) (R : List UInt8 × Bool) (hR : srcL v.length v ([], false) = R) (w : World) : Calls Tryz.prog 128 #[.string (str v)] w fun e w' => e = .returned (.tuple #[.string (str R.1), .bool R.2]) ∧ Below w.heap.size w w' := by
 have HR0 := hid hR
 have HL := hid hl
 obtain ⟨s, hs⟩ : ∃ s, s = str v := ⟨_, rfl⟩
 have HS := hid hs
 rw [← hs]
 have he : str [] = (⟨#[]⟩ : ByteArray) := rfl
 clear hl hs hR
 go_enter Tryz.func128, Tryz.ntmps128
 go_wp2
 go_loopw [4, 5, 6] (fun v4 v5 v6 wr => ∃ (x y : ByteArray) (b : Bool), v4 = .string x ∧ v5 = .bool b ∧ v6 = .string y ∧ Hid (∃ r m a, x = str a ∧ y = str r ∧ r.length ≤ m ∧ r.length ≤ 1000 ∧ srcL m r (a, b) = R) ∧ Hid (Below w.heap.size w wr)) (fun _ _ v6 _ => strSz v6)
 case atStart => exact ⟨⟨#[]⟩, s, false, rfl, rfl, rfl, ⟨v, v.length, [], rfl, HS.out, Nat.le_refl _, HL.out, HR0.out⟩, Below.refl _ _⟩
 case round =>
  obtain ⟨x, y, b, rfl, rfl, rfl, HQ, HB⟩ := hrel
  obtain ⟨r, m, a, hx, hy, hrm, hrl, hsr⟩ := HQ.out
  by_cases h0 : r = []
  ·have q : y.toList.isEmpty = true := by rw [hy, str_list, h0]; rfl
   rw [h0, srcL_nil] at hsr
   have HX : Hid (Ending.returned (.tuple #[.string x, .bool b]) = .returned (.tuple #[.string (str R.1), .bool R.2])) := by rw [← hsr, hx]; rfl
   clear hx hy hrm hrl hsr HQ h0 he HR0 HS
   go_wp2
   go_ret2
   exact ⟨HX.out, HB.out⟩
  ·have q : y.toList.isEmpty = false := by rw [hy, str_list]; simpa using h0
   obtain ⟨k, rfl⟩ : ∃ k, m = k + 1 := ⟨m - 1, by have := List.length_pos_iff.2 h0; omega⟩
   rw [srcL, if_neg h0] at hsr
   have HC := fun W => hid (RCut_says r hrl 95 95 rfl W)
   rw [← hy] at HC
   have HBI := fun W => hid (RBits_says (headC r 95) W)
   have ht := tailC_lt r 95 h0
   have HBG := fun W => hid (begins_says (tailC r 95) [115] (by omega) W)
   rw [show str [115] = (⟨#[115]⟩ : ByteArray) from rfl] at HBG
   have HSZ : Hid ((str (tailC r 95)).size < y.size) := by show (str (tailC r 95)).size < y.size; rw [hy, str_size, str_size]; exact ht
   by_cases hb : 0 < biL (headC r 95)
   ·rw [if_pos hb] at hsr
    have hbd : decide (biL (headC r 95) > 0) = true := decide_eq_true hb
    have hbd2 : decide (0 < biL (headC r 95)) = true := decide_eq_true hb
    have HT : Hid (∃ r' m' a', str (headC r 95) = str a' ∧ str (tailC r 95) = str r' ∧ r'.length ≤ m' ∧ r'.length ≤ 1000 ∧ srcL m' r' (a', begL (tailC r 95) [115]) = R) := ⟨tailC r 95, k, headC r 95, rfl, rfl, by omega, by omega, hsr⟩
    generalize begL (tailC r 95) [115] = b2 at *
    generalize biL (headC r 95) = nb at *
    generalize str (tailC r 95) = s2 at *
    generalize str (headC r 95) = s1 at *
    clear hx hy hrm hrl hsr HQ h0 he HR0 HS ht hb
    go_wp2_with (first
     | (go_at_call 122; refine (HC _).out.mono ?_; rintro e w1 ⟨rfl, hbb⟩; have HB1 := hid (HB.out.trans (hbb.mono HB.out.size)); clear hbb)
     | (go_at_call 123; refine (HBI _).out.mono ?_; rintro e w2 ⟨rfl, rfl⟩)
     | (go_at_call 197; refine (HBG _).out.mono ?_; rintro e w3 ⟨rfl, rfl⟩))
    go_roundw
    case rel => exact ⟨s1, s2, b2, rfl, rfl, rfl, HT, HB1⟩
    case measure => exact HSZ.out
   ·rw [if_neg hb] at hsr
    have hbd : decide (biL (headC r 95) > 0) = false := decide_eq_false hb
    have hbd2 : decide (0 < biL (headC r 95)) = false := decide_eq_false hb
    have HT : Hid (∃ r' m' a', x = str a' ∧ str (tailC r 95) = str r' ∧ r'.length ≤ m' ∧ r'.length ≤ 1000 ∧ srcL m' r' (a', b) = R) := ⟨tailC r 95, k, a, hx, rfl, by omega, by omega, hsr⟩
    generalize biL (headC r 95) = nb at *
    generalize str (tailC r 95) = s2 at *
    generalize str (headC r 95) = s1 at *
    clear hx hy hrm hrl hsr HQ h0 he HR0 HS ht hb HBG
    go_wp2_with (first
     | (go_at_call 122; refine (HC _).out.mono ?_; rintro e w1 ⟨rfl, hbb⟩; have HB1 := hid (HB.out.trans (hbb.mono HB.out.size)); clear hbb)
     | (go_at_call 123; refine (HBI _).out.mono ?_; rintro e w2 ⟨rfl, rfl⟩))
    go_roundw
    case rel => exact ⟨x, s2, b, rfl, rfl, rfl, HT, HB1⟩
    case measure => exact HSZ.out
set_option maxHeartbeats 4000000 in
theorem RDone_oth (r : Rw) (sh what : List UInt8) (hsh : headC r.2.1 46 = sh) (hwhat : tailC r.2.1 46 = what) (hnl : r.2.1.length ≤ 1000) (n : Nat) (hn : Okn n) (hbi : biL sh = n) (him : (r.2.2.1 == 25) = false) (him2 : (r.2.2.1 == 24) = false)
  (hw0 : (what == [115, 112, 108, 97, 116]) = false) (hw1 : (what == [115, 119, 105, 122, 122, 108, 101]) = false) (hw2 : (what == [97, 108, 108, 95, 116, 114, 117, 101]) = false) (hw3 : (what == [98, 105, 116, 109, 97, 115, 107]) = false)
  (src : List UInt8 × Bool) (hsrc : srcL what.length what ([], false) = src) (hne : (src.1 == []) = false)
  (vi va : Value) (l : List Av) (lo hi : Nat) (nl : Bool) (hl0 : l[0]? = some (123, lo, hi, nl)) (hlo : lo < 18446744073709551616) (hhi : hi < 18446744073709551616) (w : World) (ha : AR w va l) (F : Nat → Nat) (hF : ∀ i, i < cnt n → F i < 18446744073709551616)
  (HO : ∀ W, Below w.heap.size w W → Calls Tryz.prog 130 #[.int .i64 n, .string (str what), va] W (LPost W (cnt n) F)) :
  Calls Tryz.prog 80 #[rwV r, vi, va] w fun e w' => e = .returned (vv 123 (loF n F) (hiF n F) false) ∧ Below w.heap.size w w' := by
 obtain ⟨ro, nm, im, tk, lv, fx⟩ := r
 simp only [] at hsh hwhat hnl him him2
 have HCT := fun W => hid (RCut_says nm hnl 46 46 rfl W)
 rw [hsh, hwhat] at HCT
 have HBI := fun W => hid (RBits_says sh W)
 rw [hbi] at HBI
 have hwl : what.length ≤ 1000 := by
  rw [← hwhat]; unfold tailC; split
  ·rw [List.length_drop]; omega
  ·simp
 have HSO := fun W => hid (source_says what hwl src hsrc W)
 have HSP := fun W => hid (RSplit_says n hn 123 lo hi nl hlo hhi W)
 have hc1 : 1 ≤ cnt n := by rcases hn.cases with ⟨_, _, h⟩ | ⟨_, _, h⟩ | ⟨_, _, h⟩ | ⟨_, _, h⟩ <;> omega
 have HVC := fun v W (h : RowAt W v (cnt n) F) => hid (RVector_says n hn v (cnt n) (Nat.le_refl _) (by rcases hn.cases with ⟨_, _, h⟩ | ⟨_, _, h⟩ | ⟨_, _, h⟩ | ⟨_, _, h⟩ <;> omega) F W h hF)
 have hn0 : ((n : Int) == 0) = false := by have := hn.le; simp; have := hn.cases; omega
 have q0 : ((str what).toList == [115, 112, 108, 97, 116]) = false := by rw [str_list]; exact hw0
 have q1 : ((str what).toList == [115, 119, 105, 122, 122, 108, 101]) = false := by rw [str_list]; exact hw1
 have q2 : ((str what).toList == [97, 108, 108, 95, 116, 114, 117, 101]) = false := by rw [str_list]; exact hw2
 have q3 : ((str what).toList == [98, 105, 116, 109, 97, 115, 107]) = false := by rw [str_list]; exact hw3
 have q4 : (str src.1).toList.isEmpty = false := by rw [str_list]; simpa using hne
 have HOO := fun W h => hid (HO W h)
 have hll : 1 ≤ l.length := by have := (List.getElem?_eq_some_iff.1 hl0).1; omega
 obtain ⟨ga, ca, rfl, hga, hca, hata⟩ := ha
 obtain ⟨a0, a1, a2, a3⟩ := hata 0 (123, lo, hi, nl) hl0
 simp only [Nat.zero_mul, Nat.zero_add] at a0 a1 a2 a3
 obtain ⟨ll, hle⟩ : ∃ ll, ll = l.length := ⟨_, rfl⟩
 rw [← hle] at hll hca HOO ⊢
 unfold vv at HSP HVC ⊢
 unfold rwV
 generalize loF n F = lo2 at *
 generalize hiF n F = hi2 at *
 generalize cnt n = c at *
 generalize str what = sw at *
 generalize str sh = ss at *
 generalize str nm = sn at *
 generalize str src.1 = s1 at *
 generalize src.2 = b2 at *
 clear hsh hwhat hbi hsrc hne hlo hhi hata HO hF hw0 hw1 hw2 hw3 hn hnl hwl hle hl0
 go_enter Tryz.func80, Tryz.ntmps80
 go_wp2_with (first
  | (go_at_call 122; refine (HCT _).out.mono ?_; rintro e w1 ⟨rfl, hb1⟩; have hX1 := (And.intro ((CA.new _ _ 24).call hb1) (((((Below.refl w.heap.size w).alloc (Nat.le_refl _) _).alloc (by first | omega | (simp <;> omega)) _)).trans (hb1.mono (by first | omega | (simp <;> omega))))); have HX1 := hid hX1; have a0' := (hX1.2.cell (p := ⟨ga, 0, none⟩) hga).trans a0; have a1' := (hX1.2.cell (p := ⟨ga, 1, none⟩) hga).trans a1; have a2' := (hX1.2.cell (p := ⟨ga, 2, none⟩) hga).trans a2; have a3' := (hX1.2.cell (p := ⟨ga, 3, none⟩) hga).trans a3; have hbx := (((CA.new w _ 36).alloc _).call hb1).at (k := 2) (v := .int .i64 im) rfl; clear hb1 hX1)
  | (go_at_call 123; refine (HBI _).out.mono ?_; rintro e w2 ⟨rfl, rfl⟩)
  | (go_at_call 126; (with_reducible refine (HSP _).out.mono ?_); rintro e w3 ⟨v3, rfl, ho3, hb3⟩; have HX3 := hid (And.intro (HX1.out.1.call hb3) (HX1.out.2.trans (hb3.mono HX1.out.2.size))); clear hb3 ho3)
  | (go_at_call 128; refine (HSO _).out.mono ?_; rintro e w4 ⟨rfl, hb4⟩; have HX4 := hid (And.intro (HX3.out.1.call hb4) (HX3.out.2.trans (hb4.mono HX3.out.2.size))); clear hb4)
  | (go_at_call 130; (with_reducible refine (HOO _ HX4.out.2).out.mono ?_); rintro e w5 ⟨v5, rfl, ho5, hb5⟩; have HVR := HVC _ _ (RowAt.of_own ho5 hc1); have HX5 := hid (And.intro (HX4.out.1.call hb5) (HX4.out.2.trans (hb5.mono HX4.out.2.size))); clear hb5 ho5)
  | (go_at_call 129; (with_reducible refine HVR.out.mono ?_); rintro e w9 ⟨rfl, hb9⟩; have hC9 := HX5.out.1.call hb9; rw [size_al] at hC9; have HC9 := hid hC9; have HB10 := hid (HX5.out.2.trans (hb9.mono HX5.out.2.size)); have r0 := hC9.at (k := 0) (v := .int .i64 0) rfl; have r1 := hC9.at (k := 1) (v := .int .u64 0) rfl; have r2 := hC9.at (k := 2) (v := .int .u64 0) rfl; have r3 := hC9.at (k := 3) (v := .bool false) rfl; have f0 := hC9.free 0; have f1 := hC9.free 1; have f2 := hC9.free 2; have f3 := hC9.free 3; clear hb9 hC9))
 refine bodyPost_ret (v := .agg #[.int .i64 123, .int .u64 (lo2 : Nat), .int .u64 (hi2 : Nat), .bool false]) ?_ rfl ⟨rfl, (((HB10.out.setCell (p := ⟨w.heap.size + 1, 0, none⟩) (Nat.le_succ _) _).setCell (p := ⟨w.heap.size + 1, 1, none⟩) (Nat.le_succ _) _).setCell (p := ⟨w.heap.size + 1, 2, none⟩) (Nat.le_succ _) _).setCell (p := ⟨w.heap.size + 1, 3, none⟩) (Nat.le_succ _) _⟩
 simp [results, Tryz.results80, go_sem, r0, r1, r2, r3]
end Go.Proofs.YtlhakbkdlgejpaaGreatDoor
namespace Go.Proofs.YtlhakbkdlgejpaaGreatDoor
open Go.RowKit
/-- A lane in 64 bits, with its sign or without. -/
def extF (n : Nat) (s : Bool) (x : Nat) : Nat := if s then toN 64 (sg n (x % 2 ^ n)) else x
/-- A function value that works with one lane. -/
def Does1 (g : Nat) (lb : Array Value) (f : Nat → Nat) (w : World) : Prop :=
 ∀ (W : World) (x : Nat), Below w.heap.size w W → x < 18446744073709551616 →
  Calls Tryz.prog g (#[.int .u64 x] ++ lb) W fun e w' => e = .returned (.int .u64 (f x : Nat)) ∧ Below W.heap.size W w'
theorem Does1.later {g : Nat} {lb : Array Value} {f : Nat → Nat} {w W : World} (h : Does1 g lb f w) (hb : Below w.heap.size w W) : Does1 g lb f W :=
 fun W' x hb' => h W' x (hb.trans (hb'.mono hb.size))
theorem u64_toN (z : Int) : IntKind.u64.wrap z = ((toN 64 z : Nat) : Int) := by
 rw [IntKind.wrap_u64]
 unfold toN
 rw [Int.toNat_of_nonneg (Int.emod_nonneg _ (by decide))]
 rfl
theorem clo_ext (n : Nat) (hn : Okn n) (s : Bool) (b1 b2 : Nat) (w : World) (c1 : w.cell? ⟨b1, 0, none⟩ = some (.bool s)) (c2 : w.cell? ⟨b2, 0, none⟩ = some (.int .i64 n)) :
  Does1 120 #[.pointer (some ⟨b1, 0, none⟩), .pointer (some ⟨b2, 0, none⟩)] (extF n s) w := fun W x hb hx => by
 have d1 := (hb.cell (p := ⟨b1, 0, none⟩) (World.block_lt_of_cell? _ _ c1)).trans c1
 have d2 := (hb.cell (p := ⟨b2, 0, none⟩) (World.block_lt_of_cell? _ _ c2)).trans c2
 have H := fun W => hid (Signed_ok n hn x hx W)
 show Calls Tryz.prog 120 #[.int .u64 x, .pointer (some ⟨b1, 0, none⟩), .pointer (some ⟨b2, 0, none⟩)] W _
 clear c1 c2 hb hn
 cases s with
 | false =>
  show Calls _ _ _ _ fun e w' => e = .returned (.int .u64 (x : Nat)) ∧ _
  clear H
  go_enter Tryz.func120, Tryz.ntmps120
  go_wp2
  go_ret
  exact ⟨rfl, Below.refl _ _⟩
 | true =>
  show Calls _ _ _ _ fun e w' => e = .returned (.int .u64 (toN 64 (sg n (x % 2 ^ n)) : Nat)) ∧ _
  have hz := u64_toN (sg n (x % 2 ^ n))
  generalize sg n (x % 2 ^ n) = z at *
  generalize toN 64 z = r at *
  clear hx
  go_enter Tryz.func120, Tryz.ntmps120
  go_wp2_with (go_at_call 121; refine (H _).out.mono ?_; rintro e w1 ⟨rfl, rfl⟩)
  go_ret
  exact ⟨rfl, Below.refl _ _⟩
theorem ext_says (n : Nat) (hn : Okn n) (s : Bool) (w : World) : Calls Tryz.prog 77 #[.int .i64 n, .bool s] w fun e w' => (∃ lb, e = .returned (.func (.func 120) #[] lb) ∧ Does1 120 lb (extF n s) w') ∧ Below w.heap.size w w' := by
 have hmf : ∀ (fn : Fn) (first cap : Array Value) (w : World), (Instr.makeFunc fn first cap).run Tryz.prog w = .ok (.func fn first cap) w := fun _ _ _ _ => rfl
 have HC := fun b1 b2 w h1 h2 => hid (clo_ext n hn s b1 b2 w h1 h2)
 clear hn
 go_enter Tryz.func77, Tryz.ntmps77
 go_wp2
 go_ret
 refine ⟨⟨_, rfl, (HC _ _ _ ?_ ?_).out⟩, ((Below.refl _ w).alloc (Nat.le_refl _) _).alloc (by simp) _⟩
 ·have := (CA.new (w.alloc (.cells #[.int .i64 n] 3)) #[.bool s] 4).at (k := 0) (v := .bool s) rfl
  rw [size_al] at this
  exact this
 ·exact ((CA.new w #[.int .i64 n] 3).alloc _).at (k := 0) rfl
end Go.Proofs.YtlhakbkdlgejpaaGreatDoor
