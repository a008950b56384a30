/-
  The contracts of the document's rows of one value, of tables that grow, and of rows of values that are the same. Condition: fewer elements than memory holds.
-/
import Derived.Test.YtlifnddofgeaaaaRef2
set_option linter.unusedSimpArgs false
set_option linter.unusedVariables false
set_option maxRecDepth 100000
namespace Go.Proofs.Ytlifnddofgeaaaa
open Go.RowKit

/-- Values in a row, as cells. -/
def cellsV : List V4 → List Value
  | [] => []
  | x :: l => x.cs ++ cellsV l
theorem cellsV_len (l : List V4) : (cellsV l).length = l.length * 4 := by
  induction l with
  | nil => rfl
  | cons x l ih => rw [cellsV, List.length_append, ih, List.length_cons, Nat.succ_mul, Nat.add_comm]; rfl
theorem cellsV_app (a b : List V4) : cellsV (a ++ b) = cellsV a ++ cellsV b := by
  induction a with
  | nil => rfl
  | cons x a ih => rw [List.cons_append, cellsV, ih, cellsV, List.append_assoc]
theorem cellsV_take (l : List V4) (n : Nat) : cellsV (l.take n) = (cellsV l).take (n * 4) := by
  induction l generalizing n with
  | nil => simp [cellsV]
  | cons x l ih =>
    cases n with
    | zero => simp [cellsV]
    | succ n =>
      rw [List.take_succ_cons, cellsV, cellsV, ih, List.take_append, show x.cs.length = 4 from rfl, List.take_of_length_le (l := x.cs) (show 4 ≤ (n + 1) * 4 by omega), show (n + 1) * 4 - 4 = n * 4 by omega]
theorem cellsV_drop (l : List V4) (n : Nat) : cellsV (l.drop n) = (cellsV l).drop (n * 4) := by
  induction l generalizing n with
  | nil => simp [cellsV]
  | cons x l ih =>
    cases n with
    | zero => simp [cellsV]
    | succ n =>
      rw [List.drop_succ_cons, cellsV, ih, List.drop_append, show x.cs.length = 4 from rfl, List.drop_eq_nil_of_le (show x.cs.length ≤ (n + 1) * 4 from (show 4 ≤ (n + 1) * 4 by omega)), List.nil_append, show (n + 1) * 4 - 4 = n * 4 by omega]
theorem cellsV_cut (l : List V4) (a n : Nat) : cellsV (cut l a n) = cut (cellsV l) (a * 4) (n * 4) := by
  unfold cut
  rw [cellsV_take, cellsV_drop]
theorem cellsV_splice (l m : List V4) (a : Nat) : cellsV (splice l a m) = splice (cellsV l) (a * 4) (cellsV m) := by
  unfold splice
  rw [cellsV_app, cellsV_app, cellsV_take, cellsV_drop, cellsV_len, Nat.add_mul]
theorem cellsV_rep (x : V4) (n : Nat) : cellsV (List.replicate n x) = repC x.cs n := by
  induction n with
  | zero => rfl
  | succ n ih => rw [List.replicate_succ, cellsV, ih, repC]
theorem cellsV_one (l : List V4) : ∀ u ∈ cellsV l, u.oneCell' = true := by
  induction l with
  | nil => intro u h; cases h
  | cons x l ih =>
    intro u h
    rw [cellsV, List.mem_append] at h
    rcases h with h | h
    · simp [V4.cs] at h
      rcases h with rfl | rfl | rfl | rfl <;> rfl
    · exact ih u h
theorem cellsV_at (l : List V4) (i : Nat) (x : V4) (h : l[i]? = some x) : cut (cellsV l) (i * 4) (1 * 4) = x.cs := by
  rw [← cellsV_cut]
  have : cut l i 1 = [x] := by
    unfold cut
    rw [List.drop_eq_getElem_cons (List.getElem?_eq_some_iff.1 h).1, List.take_succ_cons, List.take_zero, (List.getElem?_eq_some_iff.1 h).2]
  rw [this]
  simp [cellsV]
theorem cellsV_get (l : List V4) (i k : Nat) (x : V4) (h : l[i]? = some x) (hk : k < 4) : (cellsV l)[i * 4 + k]? = x.cs[k]? := by
  have h1 := cellsV_at l i x h
  rw [← h1]
  simp only [cut, List.getElem?_take, List.getElem?_drop]
  rw [if_pos (by omega)]
set_option maxHeartbeats 2000000 in
theorem rep_says (x0 : Int) (x1 x2 : Nat) (x3 : Bool) (n : Nat) (hn : n ≤ 1000000) (w : World) :
    Calls Try.prog 22 #[.agg #[.int .i64 x0, .int .u64 x1, .int .u64 x2, .bool x3], .int .u64 n] w fun e w' => ∃ p' c', e = .returned (.slice p' n c') ∧ Row w.heap.size 32 4 p' n c' (repC [.int .i64 x0, .int .u64 x1, .int .u64 x2, .bool x3] n) w' ∧ Below w.heap.size w w' := by
  have HX := hid (CA.new w #[.int .i64 x0, .int .u64 x1, .int .u64 x2, .bool x3] 32)
  have HB0 := hid ((Below.refl w.heap.size w).alloc (Nat.le_refl _) (.cells #[.int .i64 x0, .int .u64 x1, .int .u64 x2, .bool x3] 32))
  obtain ⟨W1, hW1⟩ : ∃ W1, W1 = w.alloc (.cells #[.int .i64 x0, .int .u64 x1, .int .u64 x2, .bool x3] 32) := ⟨_, rfl⟩
  have HSZ : Hid (W1.heap.size = w.heap.size + 1) := by rw [hW1]; exact size_al _ _
  have hn62 : n < 9223372036854775808 := by omega
  have HN := hid hn
  clear hn
  rw [← hW1] at HX HB0
  have HW1 := hid hW1
  clear hW1
  go_enter Try.func22, Try.ntmps22
  go_wp2
  rw [← HW1.out]
  go_loopw [5, 6] (fun vb vi wr => ∃ (i : Nat) (p : Option Addr) (c : Nat), i ≤ n ∧ vi = .int .u64 i ∧ vb = .slice p i c ∧ Hid (Row W1.heap.size 32 4 p i c (repC [.int .i64 x0, .int .u64 x1, .int .u64 x2, .bool x3] i) wr) ∧ Hid (Below W1.heap.size W1 wr)) (fun _ vi _ => n - (intOf vi).toNat)
  case atStart => exact ⟨0, none, 0, Nat.zero_le _, rfl, rfl, ⟨World.ownsRow_nil _ _ _ _, fun _ h => by cases h⟩, Below.refl _ _⟩
  case round =>
    obtain ⟨i, p, c, hi, rfl, rfl, HR, HB⟩ := hrel
    by_cases hlt : i < n
    · have hx := HX.out.below HB.out HX.out.lt
      have y0 := hx.at (k := 0) (v := .int .i64 x0) rfl
      have y1 := hx.at (k := 1) (v := .int .u64 x1) rfl
      have y2 := hx.at (k := 2) (v := .int .u64 x2) rfl
      have y3 := hx.at (k := 3) (v := .bool x3) rfl
      have HAL := hid ((Below.refl wr.heap.size wr).alloc (Nat.le_refl _) (.cells #[.int .i64 x0, .int .u64 x1, .int .u64 x2, .bool x3] 32))
      have HL : Hid (Src 4 (some ⟨wr.heap.size, 0, none⟩) 1 [.int .i64 x0, .int .u64 x1, .int .u64 x2, .bool x3] (wr.alloc (.cells #[.int .i64 x0, .int .u64 x1, .int .u64 x2, .bool x3] 32))) := by
        refine ⟨rfl, by simp [Value.oneCell'], fun _ => ⟨wr.heap.size, 0, rfl, by simp, fun j u hj => ?_⟩⟩
        rw [Nat.zero_add, cell_of_row _ _ _ _ 32 _ (heap_alloc_new _ _)]
        simpa using hj
      clear hx
      go_wp2_with (at_builtin; refine app_v rfl _ _ rfl W1.heap.size p _ i c 1 1 _ _ (HR.out.below HAL.out) HL.out (fun h => by cases h) (i + 1) rfl (by have := HN.out; omega) (by have := HB.out.size; simp; omega) rfl rfl ?_; intro p2 c2 w2 hr2 hk2 hn2; have HR2 := hid hr2; have HB2 := hid (KP.fresh (HB.out.alloc HB.out.size (.cells #[.int .i64 x0, .int .u64 x1, .int .u64 x2, .bool x3] 32)) hk2 (by have := HB.out.size; simp; omega) HR.out.blk_ge); clear hr2 hk2 hn2)
      go_roundw
      case rel =>
        refine ⟨i + 1, p2, c2, hlt, by go_num, rfl, ?_, HB2⟩
        rw [repC_snoc]
        exact HR2.out
      case measure => simp [intOf]; omega
    · obtain rfl : i = n := by omega
      go_wp2
      go_ret
      exact ⟨p, c, rfl, HR.out.mono (by have := HSZ.out; omega), HB0.out.trans (HB.out.mono (by have := HSZ.out; omega))⟩
set_option maxHeartbeats 2000000 in
theorem same_says (p q : Option Addr) (N c d : Nat) (l : List V4) (w : World) (hp : Sl 4 p N c (cellsV l) w) (hq : Sl 4 q N d (cellsV l) w) :
    Calls Try.prog 28 #[.slice p N c, .slice q N d] w fun e w' => e = .returned (.bool true) ∧ Below w.heap.size w w' := by
  have hN62 : N < 9223372036854775808 := by have := hp.cap; have := hp.big; omega
  have HP := hid hp.src
  have HQ := hid hq.src
  have HL : Hid (l.length = N) := by have := hp.src.len; rw [cellsV_len] at this; show _ = _; omega
  clear hp hq
  go_enter Try.func28, Try.ntmps28
  go_wp2
  go_loopw [5] (fun vi wr => ∃ i : Nat, i ≤ N ∧ vi = .int .i64 i ∧ Hid (Below w.heap.size w wr)) (fun vi _ => N - (intOf vi).toNat)
  case atStart => exact ⟨0, Nat.zero_le _, rfl, Below.refl _ _⟩
  case round =>
    obtain ⟨i, hi, rfl, HB⟩ := hrel
    by_cases hlt : i < N
    · obtain ⟨x, hx⟩ : ∃ x, l[i]? = some x := ⟨_, List.getElem?_eq_getElem (by rw [HL.out]; exact hlt)⟩
      have hne : cellsV l ≠ [] := by intro e; have := cellsV_len l; rw [e, HL.out] at this; simp at this; omega
      obtain ⟨g, o, rfl, hg, ha⟩ := (HP.out.below HB.out).at_ hne
      obtain ⟨g2, o2, rfl, hg2, ha2⟩ := (HQ.out.below HB.out).at_ hne
      have a0 := ha (i * 4 + 0) (.int .i64 x.t) (by rw [cellsV_get l i 0 x hx (by omega)]; rfl)
      have a1 := ha (i * 4 + 1) (.int .u64 x.lo) (by rw [cellsV_get l i 1 x hx (by omega)]; rfl)
      have a2 := ha (i * 4 + 2) (.int .u64 x.hi) (by rw [cellsV_get l i 2 x hx (by omega)]; rfl)
      have a3 := ha (i * 4 + 3) (.bool x.nl) (by rw [cellsV_get l i 3 x hx (by omega)]; rfl)
      have b0 := ha2 (i * 4 + 0) (.int .i64 x.t) (by rw [cellsV_get l i 0 x hx (by omega)]; rfl)
      have b1 := ha2 (i * 4 + 1) (.int .u64 x.lo) (by rw [cellsV_get l i 1 x hx (by omega)]; rfl)
      have b2 := ha2 (i * 4 + 2) (.int .u64 x.hi) (by rw [cellsV_get l i 2 x hx (by omega)]; rfl)
      have b3 := ha2 (i * 4 + 3) (.bool x.nl) (by rw [cellsV_get l i 3 x hx (by omega)]; rfl)
      rw [Nat.add_zero] at a0 b0
      simp only [← Nat.add_assoc] at a1 a2 a3 b1 b2 b3
      generalize x.t = x0 at a0 b0
      generalize x.lo = x1 at a1 b1
      generalize x.hi = x2 at a2 b2
      generalize x.nl = x3 at a3 b3
      clear ha ha2 hx hne hg hg2
      go_upto_region 6 with fail
      go_region
      go_wp2
      go_roundw
      case rel => exact ⟨i + 1, hlt, by go_num, ⟨HB.out.os, HB.out.tape, HB.out.output, HB.out.size, HB.out.block⟩⟩
      case measure => simp [intOf]; omega
    · obtain rfl : i = N := by omega
      go_wp2
      go_ret
      exact ⟨rfl, HB.out⟩
set_option maxHeartbeats 2000000 in
theorem rgrowt_no (p : Option Addr) (N c n : Nat) (mn mx : Int) (has : Bool) (x0 : Int) (x1 x2 : Nat) (x3 : Bool) (w : World) (hN : N < 4611686018427387904) (hn : n < 18446744073709551616) (h3 : -9223372036854775808 ≤ mx) (h4 : mx < 9223372036854775808)
    (hr : roomB N n 10000 mx has = false) :
    Calls Try.prog 27 #[.slice p N c, .agg #[.int .i64 mn, .int .i64 mx, .bool has], .int .u64 n, .agg #[.int .i64 x0, .int .u64 x1, .int .u64 x2, .bool x3]] w fun e w' => e = .returned (.tuple #[.slice p N c, .int .i64 (-1)]) ∧ Below w.heap.size w w' := by
  cases has with
  | false =>
    have hlim : limI 10000 mx false = 10000 := by unfold limI; (repeat' split) <;> first | rfl | omega | (exfalso; simp_all; done)
    have hk : ¬ ((N : Int) + n ≤ 10000) := by rw [roomB, hlim] at hr; simpa using hr
    clear hlim hr
    by_cases hn2 : 10000 < n
    · clear hk
      go_enter Try.func27, Try.ntmps27
      go_wp2
      go_ret2
      exact ⟨rfl, ((Below.refl _ _).alloc (Nat.le_refl _) _).alloc (by simp) _⟩
    · have hk2 : 10000 < (N : Int) + n := by omega
      clear hk
      go_enter Try.func27, Try.ntmps27
      go_wp2
      go_ret2
      exact ⟨rfl, ((Below.refl _ _).alloc (Nat.le_refl _) _).alloc (by simp) _⟩
  | true =>
    rcases (show mx < 10000 ∨ 10000 ≤ mx by omega) with hx | hx
    · have hlim : limI 10000 mx true = mx := by unfold limI; (repeat' split) <;> first | rfl | omega | (exfalso; simp_all; done)
      have hk : ¬ ((N : Int) + n ≤ mx) := by rw [roomB, hlim] at hr; simpa using hr
      clear hlim hr
      by_cases hn2 : 10000 < n
      · clear hk
        go_enter Try.func27, Try.ntmps27
        go_wp2
        go_ret2
        exact ⟨rfl, ((Below.refl _ _).alloc (Nat.le_refl _) _).alloc (by simp) _⟩
      · have hk2 : mx < (N : Int) + n := by omega
        clear hk
        go_enter Try.func27, Try.ntmps27
        go_wp2
        go_ret2
        exact ⟨rfl, ((Below.refl _ _).alloc (Nat.le_refl _) _).alloc (by simp) _⟩
    · have hlim : limI 10000 mx true = 10000 := by unfold limI; (repeat' split) <;> first | rfl | omega | (exfalso; simp_all; done)
      have hk : ¬ ((N : Int) + n ≤ 10000) := by rw [roomB, hlim] at hr; simpa using hr
      clear hlim hr
      by_cases hn2 : 10000 < n
      · clear hk
        go_enter Try.func27, Try.ntmps27
        go_wp2
        go_ret2
        exact ⟨rfl, ((Below.refl _ _).alloc (Nat.le_refl _) _).alloc (by simp) _⟩
      · have hk2 : 10000 < (N : Int) + n := by omega
        clear hk
        go_enter Try.func27, Try.ntmps27
        go_wp2
        go_ret2
        exact ⟨rfl, ((Below.refl _ _).alloc (Nat.le_refl _) _).alloc (by simp) _⟩
set_option maxHeartbeats 4000000 in
theorem rgrowt_yes (p : Option Addr) (N c n : Nat) (mn mx : Int) (has : Bool) (x0 : Int) (x1 x2 : Nat) (x3 : Bool) (xs : List Value) (w : World) (hm : Sl 4 p N c xs w) (hN : N < 4611686018427387904) (hn : n < 18446744073709551616) (h3 : -9223372036854775808 ≤ mx) (h4 : mx < 9223372036854775808)
    (hr : roomB N n 10000 mx has = true) :
    Calls Try.prog 27 #[.slice p N c, .agg #[.int .i64 mn, .int .i64 mx, .bool has], .int .u64 n, .agg #[.int .i64 x0, .int .u64 x1, .int .u64 x2, .bool x3]] w fun e w' => ∃ p' c', e = .returned (.tuple #[.slice p' (N + n) c', .int .i64 N]) ∧ Row w.heap.size 32 4 p' (N + n) c' (xs ++ repC [.int .i64 x0, .int .u64 x1, .int .u64 x2, .bool x3] n) w' ∧ Below w.heap.size w w' ∧ Nx w none p' := by
  have hnk : (N : Int) + n ≤ 10000 := by
    have h : (N : Int) + n ≤ limI 10000 mx has := by simpa [roomB] using hr
    have h5 : limI 10000 mx has ≤ 10000 := by
      unfold limI
      repeat' split
      all_goals omega
    omega
  obtain ⟨K, hK⟩ : ∃ K, K = N + n := ⟨_, rfl⟩
  have HK : Hid (N + n = K) := hK.symm
  rw [← hK]
  have HN : Hid (K ≤ 10000 ∧ N ≤ 10000) := by constructor <;> omega
  have PR := fun W => hid (rep_says x0 x1 x2 x3 n (by omega) W)
  have HM := hid hm
  have hN62 : N < 9223372036854775808 := by omega
  clear hK hm
  cases has with
  | false =>
    have hlim : limI 10000 mx false = 10000 := by unfold limI; (repeat' split) <;> first | rfl | omega | (exfalso; simp_all; done)
    have hk : (N : Int) + n ≤ 10000 := by rw [roomB, hlim] at hr; simpa using hr
    have hk3 : ¬ (10000 < (N : Int) + n) := by omega
    have hn2 : ¬ 10000 < n := by omega
    clear hlim hr hk
    have HA := hid (((Below.refl w.heap.size w).alloc (Nat.le_refl _) (.cells #[.int .i64 mn, .int .i64 mx, .bool false] 23)).alloc (by simp) (.cells #[.int .i64 x0, .int .u64 x1, .int .u64 x2, .bool x3] 32))
    have HV : Hid (CA (w.heap.size + 1) #[.int .i64 x0, .int .u64 x1, .int .u64 x2, .bool x3] 32 ((w.alloc (.cells #[.int .i64 mn, .int .i64 mx, .bool false] 23)).alloc (.cells #[.int .i64 x0, .int .u64 x1, .int .u64 x2, .bool x3] 32))) := by have hh := CA.new (w.alloc (.cells #[.int .i64 mn, .int .i64 mx, .bool false] 23)) #[.int .i64 x0, .int .u64 x1, .int .u64 x2, .bool x3] 32; rw [size_al] at hh; exact hh
    have HSZ := hid (size_al (w.alloc (.cells #[.int .i64 mn, .int .i64 mx, .bool false] 23)) (.cells #[.int .i64 x0, .int .u64 x1, .int .u64 x2, .bool x3] 32))
    have hlc := (CA.new w #[.int .i64 mn, .int .i64 mx, .bool false] 23).alloc (.cells #[.int .i64 x0, .int .u64 x1, .int .u64 x2, .bool x3] 32)
    have l1 := hlc.at (k := 1) (v := .int .i64 mx) rfl
    have l2 := hlc.at (k := 2) (v := .bool false) rfl
    clear hlc
    have HSY := hid (size_al w (.cells #[.int .i64 mn, .int .i64 mx, .bool false] 23))
    generalize hW1 : (w.alloc (.cells #[.int .i64 mn, .int .i64 mx, .bool false] 23)).alloc (.cells #[.int .i64 x0, .int .u64 x1, .int .u64 x2, .bool x3] 32) = W1 at HA HV HSZ l1 l2
    go_enter Try.func27, Try.ntmps27
    go_wp2_with (first
      | (go_at_call 22; (with_reducible refine (PR _).out.mono ?_); rintro e w3 ⟨p3, c3, rfl, hr3, hb3⟩; have HR3 := hid hr3; have HB3 := hid (HB2.out.trans (hb3.mono HB2.out.size)); have HR2b := hid (HR2.out.below hb3); clear hr3 hb3)
      | (at_builtin; refine app_v rfl _ _ rfl w.heap.size p2 p3 N c2 n c3 _ _ HR2b.out HR3.out.src HR3.out.sl.nil K HK.out (by have := HN.out; omega) HB3.out.size rfl rfl ?_; intro p4 c4 w4 hr4 hk4 hn4; have HR4 := hid hr4; have HN4 := hid (HN2.out.trans hn4 HB3.out.size); have HB4 := hid (KP.fresh HB3.out hk4 HB3.out.size HR2b.out.blk_ge); clear hr4 hk4 hn4)
      | (at_builtin; (try rw [hW1]); refine app_v rfl _ _ rfl w.heap.size none _ 0 0 _ _ [] _ ⟨World.ownsRow_nil _ _ _ _, fun _ h => by cases h⟩ (HM.out.below HA.out).src HM.out.nil N (Nat.zero_add _) (by have := HN.out; omega) HA.out.size rfl rfl ?_; intro p2 c2 w2 hr2 hk2 hn2; rw [List.nil_append] at hr2; have HR2 := hid hr2; have HN2 : Hid (Nx w none p2) := (by rcases hn2 with h | ⟨g, h, h2⟩; exact .inl h; exact .inr ⟨g, h, by have := HA.out.size; omega⟩); have HB2 := hid (KP.fresh HA.out hk2 HA.out.size (fun g h => by cases h)); have hv2 := HV.out.keep hk2 (by intro h; cases h); have y0 := hv2.at (k := 0) (v := .int .i64 x0) rfl; have y1 := hv2.at (k := 1) (v := .int .u64 x1) rfl; have y2 := hv2.at (k := 2) (v := .int .u64 x2) rfl; have y3 := hv2.at (k := 3) (v := .bool x3) rfl; clear hr2 hk2 hn2 hv2))
    go_ret2
    exact ⟨p4, c4, rfl, HR4.out, HB4.out, HN4.out⟩
  | true =>
    rcases (show mx < 10000 ∨ 10000 ≤ mx by omega) with hx | hx
    · have hlim : limI 10000 mx true = mx := by unfold limI; (repeat' split) <;> first | rfl | omega | (exfalso; simp_all; done)
      have hk : (N : Int) + n ≤ mx := by rw [roomB, hlim] at hr; simpa using hr
      have hk3 : ¬ (mx < (N : Int) + n) := by omega
      have hn2 : ¬ 10000 < n := by omega
      clear hlim hr hk
      have HA := hid (((Below.refl w.heap.size w).alloc (Nat.le_refl _) (.cells #[.int .i64 mn, .int .i64 mx, .bool true] 23)).alloc (by simp) (.cells #[.int .i64 x0, .int .u64 x1, .int .u64 x2, .bool x3] 32))
      have HV : Hid (CA (w.heap.size + 1) #[.int .i64 x0, .int .u64 x1, .int .u64 x2, .bool x3] 32 ((w.alloc (.cells #[.int .i64 mn, .int .i64 mx, .bool true] 23)).alloc (.cells #[.int .i64 x0, .int .u64 x1, .int .u64 x2, .bool x3] 32))) := by have hh := CA.new (w.alloc (.cells #[.int .i64 mn, .int .i64 mx, .bool true] 23)) #[.int .i64 x0, .int .u64 x1, .int .u64 x2, .bool x3] 32; rw [size_al] at hh; exact hh
      have HSZ := hid (size_al (w.alloc (.cells #[.int .i64 mn, .int .i64 mx, .bool true] 23)) (.cells #[.int .i64 x0, .int .u64 x1, .int .u64 x2, .bool x3] 32))
      have hlc := (CA.new w #[.int .i64 mn, .int .i64 mx, .bool true] 23).alloc (.cells #[.int .i64 x0, .int .u64 x1, .int .u64 x2, .bool x3] 32)
      have l1 := hlc.at (k := 1) (v := .int .i64 mx) rfl
      have l2 := hlc.at (k := 2) (v := .bool true) rfl
      clear hlc
      have HSY := hid (size_al w (.cells #[.int .i64 mn, .int .i64 mx, .bool true] 23))
      generalize hW1 : (w.alloc (.cells #[.int .i64 mn, .int .i64 mx, .bool true] 23)).alloc (.cells #[.int .i64 x0, .int .u64 x1, .int .u64 x2, .bool x3] 32) = W1 at HA HV HSZ l1 l2
      go_enter Try.func27, Try.ntmps27
      go_wp2_with (first
        | (go_at_call 22; (with_reducible refine (PR _).out.mono ?_); rintro e w3 ⟨p3, c3, rfl, hr3, hb3⟩; have HR3 := hid hr3; have HB3 := hid (HB2.out.trans (hb3.mono HB2.out.size)); have HR2b := hid (HR2.out.below hb3); clear hr3 hb3)
        | (at_builtin; refine app_v rfl _ _ rfl w.heap.size p2 p3 N c2 n c3 _ _ HR2b.out HR3.out.src HR3.out.sl.nil K HK.out (by have := HN.out; omega) HB3.out.size rfl rfl ?_; intro p4 c4 w4 hr4 hk4 hn4; have HR4 := hid hr4; have HN4 := hid (HN2.out.trans hn4 HB3.out.size); have HB4 := hid (KP.fresh HB3.out hk4 HB3.out.size HR2b.out.blk_ge); clear hr4 hk4 hn4)
        | (at_builtin; (try rw [hW1]); refine app_v rfl _ _ rfl w.heap.size none _ 0 0 _ _ [] _ ⟨World.ownsRow_nil _ _ _ _, fun _ h => by cases h⟩ (HM.out.below HA.out).src HM.out.nil N (Nat.zero_add _) (by have := HN.out; omega) HA.out.size rfl rfl ?_; intro p2 c2 w2 hr2 hk2 hn2; rw [List.nil_append] at hr2; have HR2 := hid hr2; have HN2 : Hid (Nx w none p2) := (by rcases hn2 with h | ⟨g, h, h2⟩; exact .inl h; exact .inr ⟨g, h, by have := HA.out.size; omega⟩); have HB2 := hid (KP.fresh HA.out hk2 HA.out.size (fun g h => by cases h)); have hv2 := HV.out.keep hk2 (by intro h; cases h); have y0 := hv2.at (k := 0) (v := .int .i64 x0) rfl; have y1 := hv2.at (k := 1) (v := .int .u64 x1) rfl; have y2 := hv2.at (k := 2) (v := .int .u64 x2) rfl; have y3 := hv2.at (k := 3) (v := .bool x3) rfl; clear hr2 hk2 hn2 hv2))
      go_ret2
      exact ⟨p4, c4, rfl, HR4.out, HB4.out, HN4.out⟩
    · have hlim : limI 10000 mx true = 10000 := by unfold limI; (repeat' split) <;> first | rfl | omega | (exfalso; simp_all; done)
      have hk : (N : Int) + n ≤ 10000 := by rw [roomB, hlim] at hr; simpa using hr
      have hk3 : ¬ (10000 < (N : Int) + n) := by omega
      have hn2 : ¬ 10000 < n := by omega
      clear hlim hr hk
      have HA := hid (((Below.refl w.heap.size w).alloc (Nat.le_refl _) (.cells #[.int .i64 mn, .int .i64 mx, .bool true] 23)).alloc (by simp) (.cells #[.int .i64 x0, .int .u64 x1, .int .u64 x2, .bool x3] 32))
      have HV : Hid (CA (w.heap.size + 1) #[.int .i64 x0, .int .u64 x1, .int .u64 x2, .bool x3] 32 ((w.alloc (.cells #[.int .i64 mn, .int .i64 mx, .bool true] 23)).alloc (.cells #[.int .i64 x0, .int .u64 x1, .int .u64 x2, .bool x3] 32))) := by have hh := CA.new (w.alloc (.cells #[.int .i64 mn, .int .i64 mx, .bool true] 23)) #[.int .i64 x0, .int .u64 x1, .int .u64 x2, .bool x3] 32; rw [size_al] at hh; exact hh
      have HSZ := hid (size_al (w.alloc (.cells #[.int .i64 mn, .int .i64 mx, .bool true] 23)) (.cells #[.int .i64 x0, .int .u64 x1, .int .u64 x2, .bool x3] 32))
      have hlc := (CA.new w #[.int .i64 mn, .int .i64 mx, .bool true] 23).alloc (.cells #[.int .i64 x0, .int .u64 x1, .int .u64 x2, .bool x3] 32)
      have l1 := hlc.at (k := 1) (v := .int .i64 mx) rfl
      have l2 := hlc.at (k := 2) (v := .bool true) rfl
      clear hlc
      have HSY := hid (size_al w (.cells #[.int .i64 mn, .int .i64 mx, .bool true] 23))
      generalize hW1 : (w.alloc (.cells #[.int .i64 mn, .int .i64 mx, .bool true] 23)).alloc (.cells #[.int .i64 x0, .int .u64 x1, .int .u64 x2, .bool x3] 32) = W1 at HA HV HSZ l1 l2
      go_enter Try.func27, Try.ntmps27
      go_wp2_with (first
        | (go_at_call 22; (with_reducible refine (PR _).out.mono ?_); rintro e w3 ⟨p3, c3, rfl, hr3, hb3⟩; have HR3 := hid hr3; have HB3 := hid (HB2.out.trans (hb3.mono HB2.out.size)); have HR2b := hid (HR2.out.below hb3); clear hr3 hb3)
        | (at_builtin; refine app_v rfl _ _ rfl w.heap.size p2 p3 N c2 n c3 _ _ HR2b.out HR3.out.src HR3.out.sl.nil K HK.out (by have := HN.out; omega) HB3.out.size rfl rfl ?_; intro p4 c4 w4 hr4 hk4 hn4; have HR4 := hid hr4; have HN4 := hid (HN2.out.trans hn4 HB3.out.size); have HB4 := hid (KP.fresh HB3.out hk4 HB3.out.size HR2b.out.blk_ge); clear hr4 hk4 hn4)
        | (at_builtin; (try rw [hW1]); refine app_v rfl _ _ rfl w.heap.size none _ 0 0 _ _ [] _ ⟨World.ownsRow_nil _ _ _ _, fun _ h => by cases h⟩ (HM.out.below HA.out).src HM.out.nil N (Nat.zero_add _) (by have := HN.out; omega) HA.out.size rfl rfl ?_; intro p2 c2 w2 hr2 hk2 hn2; rw [List.nil_append] at hr2; have HR2 := hid hr2; have HN2 : Hid (Nx w none p2) := (by rcases hn2 with h | ⟨g, h, h2⟩; exact .inl h; exact .inr ⟨g, h, by have := HA.out.size; omega⟩); have HB2 := hid (KP.fresh HA.out hk2 HA.out.size (fun g h => by cases h)); have hv2 := HV.out.keep hk2 (by intro h; cases h); have y0 := hv2.at (k := 0) (v := .int .i64 x0) rfl; have y1 := hv2.at (k := 1) (v := .int .u64 x1) rfl; have y2 := hv2.at (k := 2) (v := .int .u64 x2) rfl; have y3 := hv2.at (k := 3) (v := .bool x3) rfl; clear hr2 hk2 hn2 hv2))
      go_ret2
      exact ⟨p4, c4, rfl, HR4.out, HB4.out, HN4.out⟩
end Go.Proofs.Ytlifnddofgeaaaa
