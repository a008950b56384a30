/-
  LRName, LRSplit: merged, what the law does not reach left out (each text says what it holds where it lies in wip). No condition.
-/
import Derived.Test.YtlhakbkdlgejpaaGreatDoorK11
import Derived.Test.YtlhakbkdlgejpaaGreatDoorK06
import Derived.Test.YtlhakbkdlgejpaaGreatDoorK04
set_option linter.unusedSimpArgs false
set_option linter.unusedVariables false
set_option maxRecDepth 100000
namespace Go.Proofs.YtlhakbkdlgejpaaGreatDoor
open Go.RowKit
def biL (v : List UInt8) : Int := if (v == [105, 56, 120, 49, 54]) = true then 8 else if (v == [105, 49, 54, 120, 56]) = true then 16 else if (v == [105, 51, 50, 120, 52]) = true then 32 else if (v == [102, 51, 50, 120, 52]) = true then 32 else if (v == [105, 54, 52, 120, 50]) = true then 64 else if (v == [102, 54, 52, 120, 50]) = true then 64 else 0
set_option maxHeartbeats 2000000 in
set_option maxRecDepth 100000 in
theorem RBits_says (v : List UInt8) (w : World) : Calls Tryz.prog 123 #[.string (str v)] w fun e w' => e = .returned (.int .i64 (biL v)) ∧ w = w' := by
  obtain ⟨s, hs⟩ : ∃ s, s = str v := ⟨_, rfl⟩
  rw [← hs]
  cases h0 : (v == [105, 56, 120, 49, 54]) with
  | true =>
    have q0 : (s.toList == [105, 56, 120, 49, 54]) = true := by rw [hs, str_list]; exact h0
    have hv : Hid (biL v = 8) := by simp [Hid, biL, h0]
    clear h0 hs
    go_enter Tryz.func123, Tryz.ntmps123
    go_wp2
    go_ret
    exact ⟨ret_int hv.out.symm, rfl⟩
  | false =>
    cases h1 : (v == [105, 49, 54, 120, 56]) with
    | true =>
      have q0 : (s.toList == [105, 56, 120, 49, 54]) = false := by rw [hs, str_list]; exact h0
      have q1 : (s.toList == [105, 49, 54, 120, 56]) = true := by rw [hs, str_list]; exact h1
      have hv : Hid (biL v = 16) := by simp [Hid, biL, h0, h1]
      clear h0 h1 hs
      go_enter Tryz.func123, Tryz.ntmps123
      go_wp2
      go_ret
      exact ⟨ret_int hv.out.symm, rfl⟩
    | false =>
      cases h2 : (v == [105, 51, 50, 120, 52]) with
      | true =>
        have q0 : (s.toList == [105, 56, 120, 49, 54]) = false := by rw [hs, str_list]; exact h0
        have q1 : (s.toList == [105, 49, 54, 120, 56]) = false := by rw [hs, str_list]; exact h1
        have q2 : (s.toList == [105, 51, 50, 120, 52]) = true := by rw [hs, str_list]; exact h2
        have hv : Hid (biL v = 32) := by simp [Hid, biL, h0, h1, h2]
        clear h0 h1 h2 hs
        go_enter Tryz.func123, Tryz.ntmps123
        go_wp2
        go_ret
        exact ⟨ret_int hv.out.symm, rfl⟩
      | false =>
        cases h3 : (v == [102, 51, 50, 120, 52]) with
        | true =>
          have q0 : (s.toList == [105, 56, 120, 49, 54]) = false := by rw [hs, str_list]; exact h0
          have q1 : (s.toList == [105, 49, 54, 120, 56]) = false := by rw [hs, str_list]; exact h1
          have q2 : (s.toList == [105, 51, 50, 120, 52]) = false := by rw [hs, str_list]; exact h2
          have q3 : (s.toList == [102, 51, 50, 120, 52]) = true := by rw [hs, str_list]; exact h3
          have hv : Hid (biL v = 32) := by simp [Hid, biL, h0, h1, h2, h3]
          clear h0 h1 h2 h3 hs
          go_enter Tryz.func123, Tryz.ntmps123
          go_wp2
          go_ret
          exact ⟨ret_int hv.out.symm, rfl⟩
        | false =>
          cases h4 : (v == [105, 54, 52, 120, 50]) with
          | true =>
            have q0 : (s.toList == [105, 56, 120, 49, 54]) = false := by rw [hs, str_list]; exact h0
            have q1 : (s.toList == [105, 49, 54, 120, 56]) = false := by rw [hs, str_list]; exact h1
            have q2 : (s.toList == [105, 51, 50, 120, 52]) = false := by rw [hs, str_list]; exact h2
            have q3 : (s.toList == [102, 51, 50, 120, 52]) = false := by rw [hs, str_list]; exact h3
            have q4 : (s.toList == [105, 54, 52, 120, 50]) = true := by rw [hs, str_list]; exact h4
            have hv : Hid (biL v = 64) := by simp [Hid, biL, h0, h1, h2, h3, h4]
            clear h0 h1 h2 h3 h4 hs
            go_enter Tryz.func123, Tryz.ntmps123
            go_wp2
            go_ret
            exact ⟨ret_int hv.out.symm, rfl⟩
          | false =>
            cases h5 : (v == [102, 54, 52, 120, 50]) with
            | true =>
              have q0 : (s.toList == [105, 56, 120, 49, 54]) = false := by rw [hs, str_list]; exact h0
              have q1 : (s.toList == [105, 49, 54, 120, 56]) = false := by rw [hs, str_list]; exact h1
              have q2 : (s.toList == [105, 51, 50, 120, 52]) = false := by rw [hs, str_list]; exact h2
              have q3 : (s.toList == [102, 51, 50, 120, 52]) = false := by rw [hs, str_list]; exact h3
              have q4 : (s.toList == [105, 54, 52, 120, 50]) = false := by rw [hs, str_list]; exact h4
              have q5 : (s.toList == [102, 54, 52, 120, 50]) = true := by rw [hs, str_list]; exact h5
              have hv : Hid (biL v = 64) := by simp [Hid, biL, h0, h1, h2, h3, h4, h5]
              clear h0 h1 h2 h3 h4 h5 hs
              go_enter Tryz.func123, Tryz.ntmps123
              go_wp2
              go_ret
              exact ⟨ret_int hv.out.symm, rfl⟩
            | false =>
              have q0 : (s.toList == [105, 56, 120, 49, 54]) = false := by rw [hs, str_list]; exact h0
              have q1 : (s.toList == [105, 49, 54, 120, 56]) = false := by rw [hs, str_list]; exact h1
              have q2 : (s.toList == [105, 51, 50, 120, 52]) = false := by rw [hs, str_list]; exact h2
              have q3 : (s.toList == [102, 51, 50, 120, 52]) = false := by rw [hs, str_list]; exact h3
              have q4 : (s.toList == [105, 54, 52, 120, 50]) = false := by rw [hs, str_list]; exact h4
              have q5 : (s.toList == [102, 54, 52, 120, 50]) = false := by rw [hs, str_list]; exact h5
              have hv : Hid (biL v = 0) := by simp [Hid, biL, h0, h1, h2, h3, h4, h5]
              clear h0 h1 h2 h3 h4 h5 hs
              go_enter Tryz.func123, Tryz.ntmps123
              go_wp2
              go_ret
              exact ⟨ret_int hv.out.symm, rfl⟩
theorem index_first (l : List UInt8) (c : UInt8) : ∀ k : Nat, (∀ j : Nat, j < k → l[j]? ≠ some c) → l[k]? = some c → Lib.indexByte l c = k := by
  induction l with
  | nil => intro k _ h; simp at h
  | cons b l ih =>
    intro k hk h
    cases k with
    | zero =>
      have : b = c := by simpa using h
      unfold Lib.indexByte
      simp [this]
    | succ k =>
      have h0 : b ≠ c := by have := hk 0 (by omega); simpa using this
      have := ih k (fun j hj => by have := hk (j + 1) (by omega); simpa using this) (by simpa using h)
      unfold Lib.indexByte
      rw [this]
      (simp [h0] <;> omega)
theorem index_no (l : List UInt8) (c : UInt8) (h : ∀ j, j < l.length → l[j]? ≠ some c) : Lib.indexByte l c = -1 := by
  induction l with
  | nil => rfl
  | cons b l ih =>
    have h0 : b ≠ c := by have := h 0 (by simp); simpa using this
    have := ih (fun j hj => by have := h (j + 1) (by simpa using hj); simpa using this)
    unfold Lib.indexByte
    rw [this]
    simp [h0]
def headC (l : List UInt8) (c : UInt8) : List UInt8 := if 0 ≤ Lib.indexByte l c then l.take (Lib.indexByte l c).toNat else l
def tailC (l : List UInt8) (c : UInt8) : List UInt8 := if 0 ≤ Lib.indexByte l c then l.drop ((Lib.indexByte l c).toNat + 1) else []
theorem u8_eqc (x c : UInt8) : ((x.toNat : Int) == (c.toNat : Int)) = (x == c) := by
  rw [Bool.eq_iff_iff]
  simp only [beq_iff_eq]
  rw [Int.natCast_inj, UInt8.toNat_inj]
set_option maxHeartbeats 2000000 in
set_option maxRecDepth 100000 in
theorem RCut_says (l : List UInt8) (hl : l.length ≤ 1000) (c : UInt8) (ci : Int) (hc : ci = (c.toNat : Int)) (w : World) : Calls Tryz.prog 122 #[.string (str l), .int .u8 ci] w fun e w' => e = .returned (.tuple #[.string (str (headC l c)), .string (str (tailC l c))]) ∧ Below w.heap.size w w' := by
  obtain ⟨s, hs⟩ : ∃ s, s = str l := ⟨_, rfl⟩
  have z1 : s.size = l.length := by rw [hs, str_size]
  have HG : Hid (∀ k (h : k < l.length) (h' : k < s.size), s[k]'h' = l[k]) := fun k h h' => by subst hs; exact str_get l k h h'
  have HX : Hid (∀ k, k < l.length → (∀ j, j < k → l[j]? ≠ some c) → l[k]? = some c → str (headC l c) = s.extract 0 k ∧ str (tailC l c) = s.extract (k + 1) l.length) := by
    intro k hk h1 h2
    have e := index_first l c k h1 h2
    unfold headC tailC
    rw [e, if_pos (by omega), if_pos (by omega), hs, Int.toNat_natCast]
    refine ⟨(cut_str l k).symm, ?_⟩
    rw [ext_str l _ _ (by omega), List.take_of_length_le (by rw [List.length_drop]; omega)]
  have HY : Hid ((∀ j, j < l.length → l[j]? ≠ some c) → str (headC l c) = s ∧ str (tailC l c) = ⟨#[]⟩) := by
    intro h
    have e := index_no l c h
    unfold headC tailC
    rw [e, if_neg (by decide), if_neg (by decide), hs]
    exact ⟨rfl, rfl⟩
  rw [← hs]
  obtain ⟨n, hn⟩ : ∃ n, n = l.length := ⟨_, rfl⟩
  rw [← hn] at z1 hl HX HY
  have HN := hid hn
  have HCI := hid hc
  clear hs hn hc
  go_enter Tryz.func122, Tryz.ntmps122
  go_wp2
  go_loopw [6] (fun vi wr => ∃ k : Nat, k ≤ n ∧ vi = .int .i64 (k : Int) ∧ Hid (∀ j, j < k → l[j]? ≠ some c) ∧ wr = w) (fun vi _ => n - (intOf vi).toNat)
  case atStart => exact ⟨0, Nat.zero_le _, rfl, fun j hj => by omega, rfl⟩
  case round =>
    obtain ⟨k, hk, rfl, HJ, rfl⟩ := hrel
    by_cases hlt : k < n
    · have hkl : k < l.length := by rw [← HN.out]; exact hlt
      have hks : k < s.size := by omega
      have hxx : ((s[k].toNat : Int) == ci) = (l[k] == c) := by rw [HG.out k hkl hks, HCI.out]; exact u8_eqc _ _
      cases hb : (l[k] == c) with
      | true =>
        have hq : ((s[k].toNat : Int) == ci) = true := by rw [hxx, hb]
        have HE := hid (HX.out k hlt HJ.out (by rw [List.getElem?_eq_getElem hkl]; simpa using hb))
        have hw : wrap64 ((k : Int) + 1) = ((k + 1 : Nat) : Int) := by unfold wrap64; omega
        have hk1 : k + 1 ≤ n := hlt
        clear hb hxx
        go_wp2
        go_region
        go_wp2
        go_ret2
        exact ⟨by rw [HE.out.1, HE.out.2]; rfl, (Below.refl _ _).drew⟩
      | false =>
        have hq : ((s[k].toNat : Int) == ci) = false := by rw [hxx, hb]
        have HK : Hid (∀ j, j < k + 1 → l[j]? ≠ some c) := fun j hj => by
          rcases Nat.lt_or_ge j k with h | h
          · exact HJ.out j h
          · obtain rfl : j = k := by omega
            rw [List.getElem?_eq_getElem hkl]
            simpa using hb
        clear hb hxx
        go_wp2
        go_roundw
        case rel => exact ⟨k + 1, hlt, by go_num, HK, by first | trivial | rfl⟩
        case measure => simp [intOf]; omega
    · obtain rfl : k = n := by omega
      have HE := hid (HY.out HJ.out)
      go_wp2
      go_ret2
      exact ⟨by rw [HE.out.1, HE.out.2]; rfl, Below.refl _ _⟩
/-- Where a text stands among others. -/
def plL : List (List UInt8) → List UInt8 → Nat → Int
  | [], _, _ => -1
  | x :: t, s, k => if (x == s) = true then (k : Int) else plL t s (k + 1)
theorem pl_drop (L : List (List UInt8)) (s : List UInt8) : ∀ k, k < L.length → plL (L.drop k) s k = if (L.getD k [] == s) = true then (k : Int) else plL (L.drop (k + 1)) s (k + 1) := fun k h => by
  rw [List.drop_eq_getElem_cons h, plL]
  simp [List.getD_eq_getElem?_getD, List.getElem?_eq_getElem h]
theorem sc_getD {L : List (List UInt8)} {k : Nat} (h : k < L.length) : (sc L).toArray[k]? = some (.string (str (L.getD k []))) := by
  simp [sc, List.getElem?_eq_getElem h, List.getD_eq_getElem?_getD]
set_option maxHeartbeats 2000000 in
set_option maxRecDepth 100000 in
theorem RPlace_says (v : List UInt8) (L : List (List UInt8)) (hL : L.length ≤ 30) (g n : Nat) (hn : n = L.length) (w : World) (hA : CA g (sc L).toArray 9 w) : Calls Tryz.prog 195 #[.string (str v), .slice (some ⟨g, 0, none⟩) n n] w fun e w' => e = .returned (.int .i64 (plL L v 0)) ∧ w = w' := by
  obtain ⟨s, hs⟩ : ∃ s, s = str v := ⟨_, rfl⟩
  have HS := hid hs
  have HA := hid hA
  have HP := hid (pl_drop L v)
  rw [← hs]
  have HR : Hid (plL L v 0 = plL (L.drop 0) v 0) := rfl
  generalize plL L v 0 = r at *
  rw [← hn] at hL
  have HN := hid hn
  clear hs hA hn
  go_enter Tryz.func195, Tryz.ntmps195
  go_wp2
  go_loop [5] (fun vi => ∃ k : Nat, k ≤ n ∧ vi = .int .i64 (k : Int) ∧ Hid (r = plL (L.drop k) v k)) (fun vi => n - (intOf vi).toNat)
  case atStart => exact ⟨0, Nat.zero_le _, rfl, HR⟩
  case round =>
    obtain ⟨k, hk, rfl, HK⟩ := hrel
    by_cases hlt : k < n
    · have hkl : k < L.length := by rw [← HN.out]; exact hlt
      have hc := HA.out.at (sc_getD hkl)
      have hp := HP.out k hkl
      obtain ⟨t, ht⟩ : ∃ t, t = str (L.getD k []) := ⟨_, rfl⟩
      rw [← ht] at hc
      have hq0 : (t.toList == s.toList) = (L.getD k [] == v) := by rw [ht, HS.out, str_list, str_list]
      cases hb : (L.getD k [] == v) with
      | true =>
        have hq : (t.toList == s.toList) = true := by rw [hq0, hb]
        have HE := hid (HK.out.trans (hp.trans (if_pos hb)))
        clear hb hq0 hp ht
        go_wp2
        go_ret
        exact ⟨ret_int HE.out.symm, rfl⟩
      | false =>
        have hq : (t.toList == s.toList) = false := by rw [hq0, hb]
        have HE := hid (HK.out.trans (hp.trans (if_neg (by rw [hb]; decide))))
        clear hb hq0 hp ht
        go_wp2
        go_round
        case rel => exact ⟨k + 1, hlt, by go_num, HE⟩
        case measure => simp [intOf]; omega
    · obtain rfl : k = n := by omega
      have HE : Hid (r = -1) := by have := HK.out; rw [List.drop_of_length_le (by rw [← HN.out]; exact Nat.le_refl _)] at this; exact this
      go_wp2
      go_ret
      exact ⟨ret_int HE.out.symm, rfl⟩
end Go.Proofs.YtlhakbkdlgejpaaGreatDoor
namespace Go.Proofs.YtlhakbkdlgejpaaGreatDoor
open Go.RowKit
set_option maxHeartbeats 4000000 in
set_option maxRecDepth 100000 in
theorem RSplit_says (n : Nat) (hn : Okn n) (t : Int) (lo hi : Nat) (nl : Bool) (hl : lo < 18446744073709551616) (hh : hi < 18446744073709551616) (w : World) :
    Calls Tryz.prog 126 #[.int .i64 n, vv t lo hi nl] w (LPost w (cnt n) (splitF n lo hi)) := by
  have HC := fun W => hid (Right_yes n hn W)
  have HXC := fun (a : Nat) (ha : a < 18446744073709551616) W => hid (Cut_any n hn a ha W)
  have hn8 := hn.le
  have hn0 : 0 < (n : Int) := by omega
  have HQ2 : Hid (cnt n = 2 * (64 / n)) := by show cnt n = 2 * (64 / n); rcases hn.cases with ⟨_, h, h'⟩ | ⟨_, h, h'⟩ | ⟨_, h, h'⟩ | ⟨_, h, h'⟩ <;> omega
  have HS := fun h j hh hj => hid (split_step hn lo hi h j hh hj)
  have hqi : (64 : Int) / (n : Int) = ((64 / n : Nat) : Int) := by simp
  have hq8 : 64 / n ≤ 8 := by rcases hn.cases with ⟨_, h, _⟩ | ⟨_, h, _⟩ | ⟨_, h, _⟩ | ⟨_, h, _⟩ <;> omega
  obtain ⟨q, hqe⟩ : ∃ q, q = 64 / n := ⟨_, rfl⟩
  rw [← hqe] at HQ2 HS hqi hq8
  have HL := hid hl
  have HH := hid hh
  obtain ⟨G, hG⟩ : ∃ G, G = splitF n lo hi := ⟨_, rfl⟩
  rw [← hG] at HS ⊢
  obtain ⟨c, hce⟩ : ∃ c, c = cnt n := ⟨_, rfl⟩
  rw [← hce] at HQ2 ⊢
  clear hce hn hqe hG hl hh
  unfold vv
  go_enter Tryz.func126, Tryz.ntmps126
  go_wp2_with (first
    | (go_at_call 196; refine (HC _).out.mono ?_; rintro e w' ⟨rfl, rfl⟩))
  have HW0 : Hid (Below w.heap.size w (w.alloc (.cells #[.int .i64 t, .int .u64 (lo : Nat), .int .u64 (hi : Nat), .bool nl] 24)) ∧ CA w.heap.size #[.int .i64 t, .int .u64 (lo : Nat), .int .u64 (hi : Nat), .bool nl] 24 (w.alloc (.cells #[.int .i64 t, .int .u64 (lo : Nat), .int .u64 (hi : Nat), .bool nl] 24)) ∧ (w.alloc (.cells #[.int .i64 t, .int .u64 (lo : Nat), .int .u64 (hi : Nat), .bool nl] 24)).heap.size = w.heap.size + 1) := ⟨(Below.refl _ _).alloc (Nat.le_refl _) _, CA.new w _ 24, by simp⟩
  generalize w.alloc (.cells #[.int .i64 t, .int .u64 (lo : Nat), .int .u64 (hi : Nat), .bool nl] 24) = W0 at *
  go_loopw [6, 7] (fun vo vi wr => ∃ h : Nat, h ≤ 2 ∧ vi = .int .i64 h ∧ wr.ownsRow (w.heap.size + 1) 22 1 vo (h * q) (fc (h * q) G) ∧ Below (w.heap.size + 1) W0 wr) (fun _ vi _ => 2 - (intOf vi).toNat)
  case atStart => exact ⟨0, Nat.zero_le _, rfl, by simpa [fc] using World.ownsRow_nil _ (w.heap.size + 1) 22 1, Below.refl _ _⟩
  case round =>
    obtain ⟨h, hh, rfl, hown, hB⟩ := hrel
    have hwr := hB.size
    rw [HW0.out.2.2] at hwr
    have hA := (HW0.out.2.1.below hB (by omega)).at (k := 1) (v := .int .u64 lo) rfl
    have hA2 := (HW0.out.2.1.below hB (by omega)).at (k := 2) (v := .int .u64 hi) rfl
    rcases (show h = 0 ∨ h = 1 ∨ h = 2 by omega) with rfl | rfl | rfl
    · have HW := hid hown
      have HBB := hid hB
      clear hown hB
      rw [show ((0 : Nat) : Int) = 0 from rfl]
      go_wp2
      go_loopw [6, 8, 9] (fun vo vw vi wr => ∃ j : Nat, j ≤ q ∧ vi = .int .i64 (j : Int) ∧ vw = .int .u64 ((lo / 2 ^ (n * j) : Nat) : Int) ∧ wr.ownsRow (w.heap.size + 1) 22 1 vo (0 * q + j) (fc (0 * q + j) G) ∧ Below (w.heap.size + 1) W0 wr) (fun _ _ vi _ => q - (intOf vi).toNat)
      case atStart => exact ⟨0, Nat.zero_le _, rfl, by rw [Nat.mul_zero, Nat.pow_zero, Nat.div_one], HW.out, HBB.out⟩
      case round =>
        obtain ⟨j, hj, rfl, rfl, hown, hB⟩ := hrel
        have hwr := hB.size
        rw [HW0.out.2.2] at hwr
        by_cases hlt : j < q
        · have hx : lo / 2 ^ (n * j) % 2 ^ n = G (0 * q + j) := (HS 0 j (by decide) hlt).out
          have hxl : lo / 2 ^ (n * j) < 18446744073709551616 := Nat.lt_of_le_of_lt (Nat.div_le_self _ _) HL.out
          have HX2 : Hid (∀ k, lo / 2 ^ (n * j) / 2 ^ k = lo / 2 ^ (n * j + k)) := fun k => by rw [Nat.div_div_eq_div_mul, ← Nat.pow_add]
          have HNJ : Hid (n * j + n = n * (j + 1)) := by show n * j + n = n * (j + 1); rw [Nat.mul_add, Nat.mul_one]
          obtain ⟨i, hie⟩ : ∃ i : Nat, i = 0 * q + j := ⟨_, rfl⟩
          rw [← hie] at hx hown
          obtain ⟨y, hy⟩ : ∃ y : Nat, y = lo / 2 ^ (n * j) := ⟨_, rfl⟩
          rw [← hy] at hx hxl HX2 ⊢
          have HCU : Hid (∀ W, Calls Tryz.prog 81 #[.int .i64 n, .int .u64 (y : Int)] W fun e w' => e = .returned (.int .u64 (G i : Nat)) ∧ W = w') := fun W => by
            have := (HXC y hxl W).out
            rw [hx] at this
            exact this
          have HSN := hid (fc_snoc i G)
          have HI := hid hie
          have hi8 : i ≤ 64 := by omega
          have HXL := hid hxl
          have HW2 := hid hown
          have HB2 := hid hB
          clear hown hB hx hxl hie hy
          go_wp2_with (first
            | (go_at_call 81; refine (HCU.out _).mono ?_; rintro e w' ⟨rfl, rfl⟩)
            | (at_builtin; refine append_u64 rfl _ _ rfl (w.heap.size + 1) _ _ _ (G i : Int) HW2.out hwr (by omega) rfl rfl ?_; intro v' w3 hown' hnx3 hsz3))
          have HO3 := hid hown'
          have HN3 := hid hnx3
          clear hown' hnx3
          go_loop [8, 10] (fun vw vk => ∃ k : Nat, k ≤ n ∧ vk = .int .i64 (k : Int) ∧ vw = .int .u64 ((y / 2 ^ k : Nat) : Int)) (fun _ vk => n - (intOf vk).toNat)
          case atStart => exact ⟨0, Nat.zero_le _, rfl, by rw [Nat.pow_zero, Nat.div_one]⟩
          case round =>
            obtain ⟨k, hk, rfl, rfl⟩ := hrel
            by_cases hkn : k < n
            · have e : ((y / 2 ^ k : Nat) : Int) / 2 = ((y / 2 ^ (k + 1) : Nat) : Int) := by
                rw [Nat.pow_succ, ← Nat.div_div_eq_div_mul]; simp
              have hl : y / 2 ^ (k + 1) < 18446744073709551616 := Nat.lt_of_le_of_lt (Nat.div_le_self _ _) HXL.out
              obtain ⟨z, hz⟩ : ∃ z : Nat, z = y / 2 ^ k := ⟨_, rfl⟩
              obtain ⟨z', hz'⟩ : ∃ z : Nat, z = y / 2 ^ (k + 1) := ⟨_, rfl⟩
              rw [← hz, ← hz'] at e
              rw [← hz'] at hl
              rw [← hz]
              have HZ := hid hz'
              clear hz hz'
              go_wp2
              go_round
              case rel => exact ⟨k + 1, by omega, by go_num, by rw [← HZ.out]⟩
              case measure => simp [intOf]; omega
            · obtain rfl : k = n := by omega
              have HX3 := hid (HX2.out k)
              obtain ⟨z, hz⟩ : ∃ z : Nat, z = y / 2 ^ k := ⟨_, rfl⟩
              rw [← hz] at HX3 ⊢
              clear hz HX2
              go_wp2
              go_roundw
              case rel => exact ⟨j + 1, by omega, by go_num, by rw [← HNJ.out, ← HX3.out], by rw [← Nat.add_assoc, ← HI.out, ← HSN.out]; exact HO3.out, HB2.out.trans HN3.out⟩
              case measure => simp [intOf]; omega
        · obtain rfl : j = q := by omega
          obtain ⟨z, hz⟩ : ∃ z : Nat, z = lo / 2 ^ (n * j) := ⟨_, rfl⟩
          rw [← hz]
          have HW2 := hid hown
          have HB2 := hid hB
          clear hown hB hz
          go_wp2
          go_roundw
          case rel => exact ⟨0 + 1, by omega, by go_num, by rw [show (0 + 1) * j = 0 * j + j by omega]; exact HW2.out, HB2.out⟩
          case measure => simp [intOf]
    · have HW := hid hown
      have HBB := hid hB
      clear hown hB
      rw [show ((1 : Nat) : Int) = 1 from rfl]
      go_wp2
      go_loopw [6, 8, 9] (fun vo vw vi wr => ∃ j : Nat, j ≤ q ∧ vi = .int .i64 (j : Int) ∧ vw = .int .u64 ((hi / 2 ^ (n * j) : Nat) : Int) ∧ wr.ownsRow (w.heap.size + 1) 22 1 vo (1 * q + j) (fc (1 * q + j) G) ∧ Below (w.heap.size + 1) W0 wr) (fun _ _ vi _ => q - (intOf vi).toNat)
      case atStart => exact ⟨0, Nat.zero_le _, rfl, by rw [Nat.mul_zero, Nat.pow_zero, Nat.div_one], HW.out, HBB.out⟩
      case round =>
        obtain ⟨j, hj, rfl, rfl, hown, hB⟩ := hrel
        have hwr := hB.size
        rw [HW0.out.2.2] at hwr
        by_cases hlt : j < q
        · have hx : hi / 2 ^ (n * j) % 2 ^ n = G (1 * q + j) := (HS 1 j (by decide) hlt).out
          have hxl : hi / 2 ^ (n * j) < 18446744073709551616 := Nat.lt_of_le_of_lt (Nat.div_le_self _ _) HH.out
          have HX2 : Hid (∀ k, hi / 2 ^ (n * j) / 2 ^ k = hi / 2 ^ (n * j + k)) := fun k => by rw [Nat.div_div_eq_div_mul, ← Nat.pow_add]
          have HNJ : Hid (n * j + n = n * (j + 1)) := by show n * j + n = n * (j + 1); rw [Nat.mul_add, Nat.mul_one]
          obtain ⟨i, hie⟩ : ∃ i : Nat, i = 1 * q + j := ⟨_, rfl⟩
          rw [← hie] at hx hown
          obtain ⟨y, hy⟩ : ∃ y : Nat, y = hi / 2 ^ (n * j) := ⟨_, rfl⟩
          rw [← hy] at hx hxl HX2 ⊢
          have HCU : Hid (∀ W, Calls Tryz.prog 81 #[.int .i64 n, .int .u64 (y : Int)] W fun e w' => e = .returned (.int .u64 (G i : Nat)) ∧ W = w') := fun W => by
            have := (HXC y hxl W).out
            rw [hx] at this
            exact this
          have HSN := hid (fc_snoc i G)
          have HI := hid hie
          have hi8 : i ≤ 64 := by omega
          have HXL := hid hxl
          have HW2 := hid hown
          have HB2 := hid hB
          clear hown hB hx hxl hie hy
          go_wp2_with (first
            | (go_at_call 81; refine (HCU.out _).mono ?_; rintro e w' ⟨rfl, rfl⟩)
            | (at_builtin; refine append_u64 rfl _ _ rfl (w.heap.size + 1) _ _ _ (G i : Int) HW2.out hwr (by omega) rfl rfl ?_; intro v' w3 hown' hnx3 hsz3))
          have HO3 := hid hown'
          have HN3 := hid hnx3
          clear hown' hnx3
          go_loop [8, 10] (fun vw vk => ∃ k : Nat, k ≤ n ∧ vk = .int .i64 (k : Int) ∧ vw = .int .u64 ((y / 2 ^ k : Nat) : Int)) (fun _ vk => n - (intOf vk).toNat)
          case atStart => exact ⟨0, Nat.zero_le _, rfl, by rw [Nat.pow_zero, Nat.div_one]⟩
          case round =>
            obtain ⟨k, hk, rfl, rfl⟩ := hrel
            by_cases hkn : k < n
            · have e : ((y / 2 ^ k : Nat) : Int) / 2 = ((y / 2 ^ (k + 1) : Nat) : Int) := by
                rw [Nat.pow_succ, ← Nat.div_div_eq_div_mul]; simp
              have hl : y / 2 ^ (k + 1) < 18446744073709551616 := Nat.lt_of_le_of_lt (Nat.div_le_self _ _) HXL.out
              obtain ⟨z, hz⟩ : ∃ z : Nat, z = y / 2 ^ k := ⟨_, rfl⟩
              obtain ⟨z', hz'⟩ : ∃ z : Nat, z = y / 2 ^ (k + 1) := ⟨_, rfl⟩
              rw [← hz, ← hz'] at e
              rw [← hz'] at hl
              rw [← hz]
              have HZ := hid hz'
              clear hz hz'
              go_wp2
              go_round
              case rel => exact ⟨k + 1, by omega, by go_num, by rw [← HZ.out]⟩
              case measure => simp [intOf]; omega
            · obtain rfl : k = n := by omega
              have HX3 := hid (HX2.out k)
              obtain ⟨z, hz⟩ : ∃ z : Nat, z = y / 2 ^ k := ⟨_, rfl⟩
              rw [← hz] at HX3 ⊢
              clear hz HX2
              go_wp2
              go_roundw
              case rel => exact ⟨j + 1, by omega, by go_num, by rw [← HNJ.out, ← HX3.out], by rw [← Nat.add_assoc, ← HI.out, ← HSN.out]; exact HO3.out, HB2.out.trans HN3.out⟩
              case measure => simp [intOf]; omega
        · obtain rfl : j = q := by omega
          obtain ⟨z, hz⟩ : ∃ z : Nat, z = hi / 2 ^ (n * j) := ⟨_, rfl⟩
          rw [← hz]
          have HW2 := hid hown
          have HB2 := hid hB
          clear hown hB hz
          go_wp2
          go_roundw
          case rel => exact ⟨1 + 1, by omega, by go_num, by rw [show (1 + 1) * j = 1 * j + j by omega]; exact HW2.out, HB2.out⟩
          case measure => simp [intOf]
    · have HW := hid hown
      have HBB := hid hB
      clear hown hB
      go_wp2
      go_ret
      exact ⟨_, rfl, by rw [HQ2.out]; exact own_mono HW.out (Nat.le_succ _), HW0.out.1.trans (HBB.out.mono (Nat.le_succ _))⟩
end Go.Proofs.YtlhakbkdlgejpaaGreatDoor
