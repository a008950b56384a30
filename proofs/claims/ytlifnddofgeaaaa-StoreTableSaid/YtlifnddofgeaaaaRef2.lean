/-
  The contracts of the document's answers for what grows, and for rows of values that are the same. Condition: fewer elements than memory holds.
-/
import Derived.Test.YtlifnddofgeaaaaRef
set_option linter.unusedSimpArgs false
set_option linter.unusedVariables false
set_option maxRecDepth 100000
namespace Go.Proofs.Ytlifnddofgeaaaa
open Go.RowKit

set_option maxHeartbeats 2000000 in
theorem rgrow_no (p : Option Addr) (k c n : Nat) (most mn mx : Int) (has : Bool) (w : World) (hk0 : k ≤ 65536) (hn : n < 18446744073709551616) (h1 : -9223372036854775808 ≤ most) (h2 : most < 9223372036854775808) (h3 : -9223372036854775808 ≤ mx) (h4 : mx < 9223372036854775808)
    (hr : roomB k n (lim65 most) mx has = false) :
    Calls Try.prog 18 #[.slice p (65536 * k) c, .agg #[.int .i64 mn, .int .i64 mx, .bool has], .int .u64 n, .int .i64 most] w fun e w' => e = .returned (.tuple #[.slice p (65536 * k) c, .int .i64 (-1)]) ∧ Below w.heap.size w w' := by
  have hq := quo_pages k
  obtain ⟨N, hN⟩ : ∃ N, N = 65536 * k := ⟨_, rfl⟩
  rw [← hN] at hq ⊢
  have hn62 : N < 9223372036854775808 := by omega
  clear hN
  rcases (show most ≤ 65536 ∨ 65536 < most by omega) with hm | hm
  · cases has with
    | false =>
      have hlim : limI (lim65 most) mx false = most := by unfold limI lim65; (repeat' split) <;> first | rfl | omega | (exfalso; simp_all; done)
      have hk : ¬ ((k : Int) + n ≤ most) := by rw [roomB, hlim] at hr; simpa using hr
      clear hlim hr
      by_cases hn2 : 65536 < n
      · clear hk
        go_enter Try.func18, Try.ntmps18
        go_wp2
        go_ret2
        exact ⟨rfl, (Below.refl _ _).alloc (Nat.le_refl _) _⟩
      · have hk2 : most < (k : Int) + n := by omega
        clear hk
        go_enter Try.func18, Try.ntmps18
        go_wp2
        go_ret2
        exact ⟨rfl, (Below.refl _ _).alloc (Nat.le_refl _) _⟩
    | true =>
      rcases (show mx < most ∨ most ≤ mx by omega) with hx | hx
      · have hlim : limI (lim65 most) mx true = mx := by unfold limI lim65; (repeat' split) <;> first | rfl | omega | (exfalso; simp_all; done)
        have hk : ¬ ((k : Int) + n ≤ mx) := by rw [roomB, hlim] at hr; simpa using hr
        clear hlim hr
        by_cases hn2 : 65536 < n
        · clear hk
          go_enter Try.func18, Try.ntmps18
          go_wp2
          go_ret2
          exact ⟨rfl, (Below.refl _ _).alloc (Nat.le_refl _) _⟩
        · have hk2 : mx < (k : Int) + n := by omega
          clear hk
          go_enter Try.func18, Try.ntmps18
          go_wp2
          go_ret2
          exact ⟨rfl, (Below.refl _ _).alloc (Nat.le_refl _) _⟩
      · have hlim : limI (lim65 most) mx true = most := by unfold limI lim65; (repeat' split) <;> first | rfl | omega | (exfalso; simp_all; done)
        have hk : ¬ ((k : Int) + n ≤ most) := by rw [roomB, hlim] at hr; simpa using hr
        clear hlim hr
        by_cases hn2 : 65536 < n
        · clear hk
          go_enter Try.func18, Try.ntmps18
          go_wp2
          go_ret2
          exact ⟨rfl, (Below.refl _ _).alloc (Nat.le_refl _) _⟩
        · have hk2 : most < (k : Int) + n := by omega
          clear hk
          go_enter Try.func18, Try.ntmps18
          go_wp2
          go_ret2
          exact ⟨rfl, (Below.refl _ _).alloc (Nat.le_refl _) _⟩
  · cases has with
    | false =>
      have hlim : limI (lim65 most) mx false = 65536 := by unfold limI lim65; (repeat' split) <;> first | rfl | omega | (exfalso; simp_all; done)
      have hk : ¬ ((k : Int) + n ≤ 65536) := by rw [roomB, hlim] at hr; simpa using hr
      clear hlim hr
      by_cases hn2 : 65536 < n
      · clear hk
        go_enter Try.func18, Try.ntmps18
        go_wp2
        go_ret2
        exact ⟨rfl, (Below.refl _ _).alloc (Nat.le_refl _) _⟩
      · have hk2 : 65536 < (k : Int) + n := by omega
        clear hk
        go_enter Try.func18, Try.ntmps18
        go_wp2
        go_ret2
        exact ⟨rfl, (Below.refl _ _).alloc (Nat.le_refl _) _⟩
    | true =>
      rcases (show mx < 65536 ∨ 65536 ≤ mx by omega) with hx | hx
      · have hlim : limI (lim65 most) mx true = mx := by unfold limI lim65; (repeat' split) <;> first | rfl | omega | (exfalso; simp_all; done)
        have hk : ¬ ((k : Int) + n ≤ mx) := by rw [roomB, hlim] at hr; simpa using hr
        clear hlim hr
        by_cases hn2 : 65536 < n
        · clear hk
          go_enter Try.func18, Try.ntmps18
          go_wp2
          go_ret2
          exact ⟨rfl, (Below.refl _ _).alloc (Nat.le_refl _) _⟩
        · have hk2 : mx < (k : Int) + n := by omega
          clear hk
          go_enter Try.func18, Try.ntmps18
          go_wp2
          go_ret2
          exact ⟨rfl, (Below.refl _ _).alloc (Nat.le_refl _) _⟩
      · have hlim : limI (lim65 most) mx true = 65536 := by unfold limI lim65; (repeat' split) <;> first | rfl | omega | (exfalso; simp_all; done)
        have hk : ¬ ((k : Int) + n ≤ 65536) := by rw [roomB, hlim] at hr; simpa using hr
        clear hlim hr
        by_cases hn2 : 65536 < n
        · clear hk
          go_enter Try.func18, Try.ntmps18
          go_wp2
          go_ret2
          exact ⟨rfl, (Below.refl _ _).alloc (Nat.le_refl _) _⟩
        · have hk2 : 65536 < (k : Int) + n := by omega
          clear hk
          go_enter Try.func18, Try.ntmps18
          go_wp2
          go_ret2
          exact ⟨rfl, (Below.refl _ _).alloc (Nat.le_refl _) _⟩
set_option maxHeartbeats 4000000 in
theorem rgrow_yes (p : Option Addr) (k c n : Nat) (most mn mx : Int) (has : Bool) (xs : List Value) (w : World) (hm0 : Sl 1 p (65536 * k) c xs w) (hk0 : k ≤ 65536) (hn : n < 18446744073709551616) (h1 : -9223372036854775808 ≤ most) (h2 : most < 9223372036854775808) (h3 : -9223372036854775808 ≤ mx) (h4 : mx < 9223372036854775808)
    (hr : roomB k n (lim65 most) mx has = true) :
    Calls Try.prog 18 #[.slice p (65536 * k) c, .agg #[.int .i64 mn, .int .i64 mx, .bool has], .int .u64 n, .int .i64 most] w fun e w' => ∃ p' c', e = .returned (.tuple #[.slice p' (65536 * (k + n)) c', .int .i64 k]) ∧ Row w.heap.size 5 1 p' (65536 * (k + n)) c' (xs ++ repC [.int .u8 0] (65536 * n)) w' ∧ Below w.heap.size w w' ∧ Nx w none p' := by
  have hq := quo_pages k
  have hnk : (k : Int) + n ≤ 65536 := by
    have h : (k : Int) + n ≤ limI (lim65 most) mx has := by simpa [roomB] using hr
    have h5 : limI (lim65 most) mx has ≤ 65536 := by
      unfold limI lim65
      repeat' split
      all_goals omega
    omega
  obtain ⟨N, hN⟩ : ∃ N, N = 65536 * k := ⟨_, rfl⟩
  obtain ⟨M, hM⟩ : ∃ M, M = 65536 * n := ⟨_, rfl⟩
  obtain ⟨K, hK⟩ : ∃ K, K = 65536 * (k + n) := ⟨_, rfl⟩
  rw [← hN] at hq hm0
  rw [← hN, ← hM, ← hK]
  have HNK : Hid (N + M = K) := by show _ = _; omega
  have HN : Hid (K ≤ 8000000000 ∧ N ≤ 8000000000) := by constructor <;> omega
  have hn62 : N < 9223372036854775808 := by omega
  have he : (n : Int) * 65536 = (M : Int) := by omega
  have hm62 : M < 9223372036854775808 := by omega
  have HM := hid hm0
  clear hN hM hK hm0
  rcases (show most ≤ 65536 ∨ 65536 < most by omega) with hm | hm
  · cases has with
    | false =>
      have hlim : limI (lim65 most) mx false = most := by unfold limI lim65; (repeat' split) <;> first | rfl | omega | (exfalso; simp_all; done)
      have hk : (k : Int) + n ≤ most := by rw [roomB, hlim] at hr; simpa using hr
      have hk3 : ¬ (most < (k : Int) + n) := by omega
      have hn2 : ¬ 65536 < n := by omega
      clear hlim hr hk
      go_enter Try.func18, Try.ntmps18
      go_wp2_with (first
        | (at_builtin; refine app_z rfl _ _ rfl w.heap.size p2 N c2 M _ HR2.out K HNK.out (by have := HN.out; omega) HB2.out.size rfl rfl ?_; intro p3 c3 w3 hr3 hk3 hn3; have HR3 := hid hr3; have HN3 := hid (HN2.out.trans hn3 HB2.out.size); have HB3 := hid (KP.fresh HB2.out hk3 HB2.out.size HR2.out.blk_ge); clear hr3 hk3 hn3)
        | (at_builtin; refine app_b rfl _ _ rfl w.heap.size none _ 0 0 _ _ [] _ ⟨World.ownsRow_nil _ _ _ _, fun _ h => by cases h⟩ (HM.out.below ((Below.refl _ _).alloc (Nat.le_refl _) _)).src HM.out.nil N (Nat.zero_add _) (by have := HN.out; omega) (by simp) rfl rfl ?_; intro p2 c2 w2 hr2 hk2 hn2; rw [List.nil_append] at hr2; have HR2 := hid hr2; have HN2 : Hid (Nx w none p2) := (by rcases hn2 with h | ⟨g, h, h2⟩; exact .inl h; exact .inr ⟨g, h, by rw [size_al] at h2; omega⟩); have HB2 := hid (KP.fresh ((Below.refl w.heap.size w).alloc (Nat.le_refl _) _) hk2 (by simp) (fun g h => by cases h)); clear hr2 hk2 hn2))
      go_ret2
      exact ⟨p3, c3, rfl, HR3.out, HB3.out, HN3.out⟩
    | true =>
      rcases (show mx < most ∨ most ≤ mx by omega) with hx | hx
      · have hlim : limI (lim65 most) mx true = mx := by unfold limI lim65; (repeat' split) <;> first | rfl | omega | (exfalso; simp_all; done)
        have hk : (k : Int) + n ≤ mx := by rw [roomB, hlim] at hr; simpa using hr
        have hk3 : ¬ (mx < (k : Int) + n) := by omega
        have hn2 : ¬ 65536 < n := by omega
        clear hlim hr hk
        go_enter Try.func18, Try.ntmps18
        go_wp2_with (first
          | (at_builtin; refine app_z rfl _ _ rfl w.heap.size p2 N c2 M _ HR2.out K HNK.out (by have := HN.out; omega) HB2.out.size rfl rfl ?_; intro p3 c3 w3 hr3 hk3 hn3; have HR3 := hid hr3; have HN3 := hid (HN2.out.trans hn3 HB2.out.size); have HB3 := hid (KP.fresh HB2.out hk3 HB2.out.size HR2.out.blk_ge); clear hr3 hk3 hn3)
          | (at_builtin; refine app_b rfl _ _ rfl w.heap.size none _ 0 0 _ _ [] _ ⟨World.ownsRow_nil _ _ _ _, fun _ h => by cases h⟩ (HM.out.below ((Below.refl _ _).alloc (Nat.le_refl _) _)).src HM.out.nil N (Nat.zero_add _) (by have := HN.out; omega) (by simp) rfl rfl ?_; intro p2 c2 w2 hr2 hk2 hn2; rw [List.nil_append] at hr2; have HR2 := hid hr2; have HN2 : Hid (Nx w none p2) := (by rcases hn2 with h | ⟨g, h, h2⟩; exact .inl h; exact .inr ⟨g, h, by rw [size_al] at h2; omega⟩); have HB2 := hid (KP.fresh ((Below.refl w.heap.size w).alloc (Nat.le_refl _) _) hk2 (by simp) (fun g h => by cases h)); clear hr2 hk2 hn2))
        go_ret2
        exact ⟨p3, c3, rfl, HR3.out, HB3.out, HN3.out⟩
      · have hlim : limI (lim65 most) mx true = most := by unfold limI lim65; (repeat' split) <;> first | rfl | omega | (exfalso; simp_all; done)
        have hk : (k : Int) + n ≤ most := by rw [roomB, hlim] at hr; simpa using hr
        have hk3 : ¬ (most < (k : Int) + n) := by omega
        have hn2 : ¬ 65536 < n := by omega
        clear hlim hr hk
        go_enter Try.func18, Try.ntmps18
        go_wp2_with (first
          | (at_builtin; refine app_z rfl _ _ rfl w.heap.size p2 N c2 M _ HR2.out K HNK.out (by have := HN.out; omega) HB2.out.size rfl rfl ?_; intro p3 c3 w3 hr3 hk3 hn3; have HR3 := hid hr3; have HN3 := hid (HN2.out.trans hn3 HB2.out.size); have HB3 := hid (KP.fresh HB2.out hk3 HB2.out.size HR2.out.blk_ge); clear hr3 hk3 hn3)
          | (at_builtin; refine app_b rfl _ _ rfl w.heap.size none _ 0 0 _ _ [] _ ⟨World.ownsRow_nil _ _ _ _, fun _ h => by cases h⟩ (HM.out.below ((Below.refl _ _).alloc (Nat.le_refl _) _)).src HM.out.nil N (Nat.zero_add _) (by have := HN.out; omega) (by simp) rfl rfl ?_; intro p2 c2 w2 hr2 hk2 hn2; rw [List.nil_append] at hr2; have HR2 := hid hr2; have HN2 : Hid (Nx w none p2) := (by rcases hn2 with h | ⟨g, h, h2⟩; exact .inl h; exact .inr ⟨g, h, by rw [size_al] at h2; omega⟩); have HB2 := hid (KP.fresh ((Below.refl w.heap.size w).alloc (Nat.le_refl _) _) hk2 (by simp) (fun g h => by cases h)); clear hr2 hk2 hn2))
        go_ret2
        exact ⟨p3, c3, rfl, HR3.out, HB3.out, HN3.out⟩
  · cases has with
    | false =>
      have hlim : limI (lim65 most) mx false = 65536 := by unfold limI lim65; (repeat' split) <;> first | rfl | omega | (exfalso; simp_all; done)
      have hk : (k : Int) + n ≤ 65536 := by rw [roomB, hlim] at hr; simpa using hr
      have hk3 : ¬ (65536 < (k : Int) + n) := by omega
      have hn2 : ¬ 65536 < n := by omega
      clear hlim hr hk
      go_enter Try.func18, Try.ntmps18
      go_wp2_with (first
        | (at_builtin; refine app_z rfl _ _ rfl w.heap.size p2 N c2 M _ HR2.out K HNK.out (by have := HN.out; omega) HB2.out.size rfl rfl ?_; intro p3 c3 w3 hr3 hk3 hn3; have HR3 := hid hr3; have HN3 := hid (HN2.out.trans hn3 HB2.out.size); have HB3 := hid (KP.fresh HB2.out hk3 HB2.out.size HR2.out.blk_ge); clear hr3 hk3 hn3)
        | (at_builtin; refine app_b rfl _ _ rfl w.heap.size none _ 0 0 _ _ [] _ ⟨World.ownsRow_nil _ _ _ _, fun _ h => by cases h⟩ (HM.out.below ((Below.refl _ _).alloc (Nat.le_refl _) _)).src HM.out.nil N (Nat.zero_add _) (by have := HN.out; omega) (by simp) rfl rfl ?_; intro p2 c2 w2 hr2 hk2 hn2; rw [List.nil_append] at hr2; have HR2 := hid hr2; have HN2 : Hid (Nx w none p2) := (by rcases hn2 with h | ⟨g, h, h2⟩; exact .inl h; exact .inr ⟨g, h, by rw [size_al] at h2; omega⟩); have HB2 := hid (KP.fresh ((Below.refl w.heap.size w).alloc (Nat.le_refl _) _) hk2 (by simp) (fun g h => by cases h)); clear hr2 hk2 hn2))
      go_ret2
      exact ⟨p3, c3, rfl, HR3.out, HB3.out, HN3.out⟩
    | true =>
      rcases (show mx < 65536 ∨ 65536 ≤ mx by omega) with hx | hx
      · have hlim : limI (lim65 most) mx true = mx := by unfold limI lim65; (repeat' split) <;> first | rfl | omega | (exfalso; simp_all; done)
        have hk : (k : Int) + n ≤ mx := by rw [roomB, hlim] at hr; simpa using hr
        have hk3 : ¬ (mx < (k : Int) + n) := by omega
        have hn2 : ¬ 65536 < n := by omega
        clear hlim hr hk
        go_enter Try.func18, Try.ntmps18
        go_wp2_with (first
          | (at_builtin; refine app_z rfl _ _ rfl w.heap.size p2 N c2 M _ HR2.out K HNK.out (by have := HN.out; omega) HB2.out.size rfl rfl ?_; intro p3 c3 w3 hr3 hk3 hn3; have HR3 := hid hr3; have HN3 := hid (HN2.out.trans hn3 HB2.out.size); have HB3 := hid (KP.fresh HB2.out hk3 HB2.out.size HR2.out.blk_ge); clear hr3 hk3 hn3)
          | (at_builtin; refine app_b rfl _ _ rfl w.heap.size none _ 0 0 _ _ [] _ ⟨World.ownsRow_nil _ _ _ _, fun _ h => by cases h⟩ (HM.out.below ((Below.refl _ _).alloc (Nat.le_refl _) _)).src HM.out.nil N (Nat.zero_add _) (by have := HN.out; omega) (by simp) rfl rfl ?_; intro p2 c2 w2 hr2 hk2 hn2; rw [List.nil_append] at hr2; have HR2 := hid hr2; have HN2 : Hid (Nx w none p2) := (by rcases hn2 with h | ⟨g, h, h2⟩; exact .inl h; exact .inr ⟨g, h, by rw [size_al] at h2; omega⟩); have HB2 := hid (KP.fresh ((Below.refl w.heap.size w).alloc (Nat.le_refl _) _) hk2 (by simp) (fun g h => by cases h)); clear hr2 hk2 hn2))
        go_ret2
        exact ⟨p3, c3, rfl, HR3.out, HB3.out, HN3.out⟩
      · have hlim : limI (lim65 most) mx true = 65536 := by unfold limI lim65; (repeat' split) <;> first | rfl | omega | (exfalso; simp_all; done)
        have hk : (k : Int) + n ≤ 65536 := by rw [roomB, hlim] at hr; simpa using hr
        have hk3 : ¬ (65536 < (k : Int) + n) := by omega
        have hn2 : ¬ 65536 < n := by omega
        clear hlim hr hk
        go_enter Try.func18, Try.ntmps18
        go_wp2_with (first
          | (at_builtin; refine app_z rfl _ _ rfl w.heap.size p2 N c2 M _ HR2.out K HNK.out (by have := HN.out; omega) HB2.out.size rfl rfl ?_; intro p3 c3 w3 hr3 hk3 hn3; have HR3 := hid hr3; have HN3 := hid (HN2.out.trans hn3 HB2.out.size); have HB3 := hid (KP.fresh HB2.out hk3 HB2.out.size HR2.out.blk_ge); clear hr3 hk3 hn3)
          | (at_builtin; refine app_b rfl _ _ rfl w.heap.size none _ 0 0 _ _ [] _ ⟨World.ownsRow_nil _ _ _ _, fun _ h => by cases h⟩ (HM.out.below ((Below.refl _ _).alloc (Nat.le_refl _) _)).src HM.out.nil N (Nat.zero_add _) (by have := HN.out; omega) (by simp) rfl rfl ?_; intro p2 c2 w2 hr2 hk2 hn2; rw [List.nil_append] at hr2; have HR2 := hid hr2; have HN2 : Hid (Nx w none p2) := (by rcases hn2 with h | ⟨g, h, h2⟩; exact .inl h; exact .inr ⟨g, h, by rw [size_al] at h2; omega⟩); have HB2 := hid (KP.fresh ((Below.refl w.heap.size w).alloc (Nat.le_refl _) _) hk2 (by simp) (fun g h => by cases h)); clear hr2 hk2 hn2))
        go_ret2
        exact ⟨p3, c3, rfl, HR3.out, HB3.out, HN3.out⟩
end Go.Proofs.Ytlifnddofgeaaaa
