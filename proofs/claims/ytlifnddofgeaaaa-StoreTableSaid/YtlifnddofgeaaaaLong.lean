/-
  The contracts of store.longer, over bytes and over values. Condition: fewer elements than memory holds.
-/
import Derived.Test.YtlifnddofgeaaaaMove
set_option linter.unusedSimpArgs false
set_option linter.unusedVariables false
set_option maxRecDepth 100000
namespace Go.Proofs.Ytlifnddofgeaaaa
open Go.RowKit

theorem info32 : (Try.prog.info? 32).map (fun i => (i.zero, i.size, i.bytes)) = some (some (.agg #[.int .i64 0, .int .u64 0, .int .u64 0, .bool false]), 4, 32) := by kernel_rfl
/-- These cells, n times. -/
def repC (cs : List Value) : Nat → List Value
  | 0 => []
  | n + 1 => cs ++ repC cs n
theorem repC_len (cs : List Value) (n : Nat) : (repC cs n).length = n * cs.length := by
  induction n with
  | zero => simp [repC]
  | succ n ih => rw [repC, List.length_append, ih, Nat.succ_mul, Nat.add_comm]
theorem repC_mem {cs : List Value} {n : Nat} {v : Value} (h : v ∈ repC cs n) : v ∈ cs := by
  induction n with
  | zero => cases h
  | succ n ih =>
    rw [repC, List.mem_append] at h
    exact h.elim id ih
theorem repC_snoc (cs : List Value) (n : Nat) : repC cs (n + 1) = repC cs n ++ cs := by
  induction n with
  | zero => simp [repC]
  | succ n ih => rw [repC, ih, ← List.append_assoc, ← ih, repC]
theorem repC_get (cs : List Value) (hs : 0 < cs.length) : ∀ n i, (repC cs n)[i]? = if i < n * cs.length then cs[i % cs.length]? else none := by
  intro n
  induction n with
  | zero => intro i; simp [repC]
  | succ n ih =>
    intro i
    rw [repC, Nat.succ_mul]
    by_cases h : i < cs.length
    · rw [List.getElem?_append_left h, if_pos (by omega), Nat.mod_eq_of_lt h]
    · rw [List.getElem?_append_right (by omega), ih]
      by_cases h2 : i < n * cs.length + cs.length
      · rw [if_pos (by omega), if_pos h2, ← Nat.mod_eq_sub_mod (by omega)]
      · rw [if_neg (by omega), if_neg h2]
theorem made_rep (z : Array Value) (n : Nat) (hz : 0 < z.size) : (madeCells z (n * z.size)).toList = repC z.toList n := by
  apply List.ext_getElem?
  intro i
  rw [repC_get _ (by simpa using hz)]
  simp only [madeCells, Array.toList_map, Array.toList_range, List.getElem?_map, List.getElem?_range', Array.length_toList]
  by_cases h : i < n * z.size
  · have hm : i % z.size < z.size := Nat.mod_lt _ hz
    rw [if_pos h, List.getElem?_range h]
    rw [Array.getElem?_toList, Array.getElem?_eq_getElem hm, Option.map_some, getElem!_pos z (i % z.size) hm]
  · rw [if_neg h, List.getElem?_eq_none (by simpa using h)]
    rfl
theorem madeB (n : Nat) : (madeCells (Value.int .u8 0).cells (n * 1)).toList = repC [.int .u8 0] n := made_rep #[.int .u8 0] n (by decide)
theorem madeV (n : Nat) : (madeCells (Value.agg #[.int .i64 0, .int .u64 0, .int .u64 0, .bool false]).cells (n * 4)).toList = repC [.int .i64 0, .int .u64 0, .int .u64 0, .bool false] n := made_rep #[.int .i64 0, .int .u64 0, .int .u64 0, .bool false] n (by decide)
theorem repC_one {cs : List Value} (h : ∀ u ∈ cs, u.oneCell' = true) (n : Nat) : ∀ u ∈ repC cs n, u.oneCell' = true := fun u hu => h u (repC_mem hu)
theorem repC_add (cs : List Value) (a b : Nat) : repC cs (a + b) = repC cs a ++ repC cs b := by
  induction a with
  | zero => simp [repC]
  | succ a ih => rw [Nat.succ_add, repC, ih, repC, List.append_assoc]
theorem cut_all {α : Type} (ys : List α) (n : Nat) (h : ys.length = n) : cut ys 0 n = ys := by
  unfold cut
  rw [List.drop_zero, List.take_of_length_le (by omega)]
/-- Laid over the front. -/
theorem splice_rep (cs ys : List Value) (N n : Nat) (h : ys.length = N * cs.length) : splice (repC cs (N + n)) 0 ys = ys ++ repC cs n := by
  unfold splice
  rw [repC_add, List.take_zero, Nat.zero_add, h, ← repC_len cs N, List.drop_left]
  rfl
set_option maxHeartbeats 1000000 in
theorem long_b (sp : Option Addr) (N sc n K : Nat) (ys : List Value) (w : World) (hs : Src 1 sp N ys w) (hN : N ≤ sc) (hsc : sc < 9223372036854775808) (hK : N + n = K) (hK2 : K ≤ 8000000000) :
    Calls Try.prog 34 #[.slice sp N sc, .int .u64 n] w fun e w' => ∃ g, e = .returned (.slice (some ⟨g, 0, none⟩) K K) ∧ w.heap.size ≤ g ∧ Row w.heap.size 5 1 (some ⟨g, 0, none⟩) K K (ys ++ repC [.int .u8 0] n) w' ∧ Below w.heap.size w w' := by
  obtain ⟨i0, hi0, hz0, hz1, hz2⟩ := info_parts info5
  have he : (N : Int) + (n : Int) = (K : Int) := by omega
  have hn64 : n < 18446744073709551616 := by omega
  have HNK := hid (show N ≤ K by omega)
  have HK := hid hK
  have HS := hid hs
  have HNS := hid hN
  have HSC := hid hsc
  have HK2 := hid hK2
  have PM : ∀ w2 : World, w2.ownsRow w.heap.size 5 1 (.slice (some ⟨w.heap.size, 0, none⟩) K K) K (madeCells ((.int .u8 0) : Value).cells (K * 1)).toList → w.grownBy w2 none →
      Hid (Calls Try.prog 32 #[.slice (some ⟨w.heap.size, 0, none⟩) K K, .int .u64 0, .slice sp N sc, .int .u64 0, .int .u64 N] w2 fun e w' => e = .returned (.bool true) ∧ Row w.heap.size 5 1 (some ⟨w.heap.size, 0, none⟩) K K (splice (repC [.int .u8 0] K) (0) (cut ys (0) (N))) w' ∧ KP (blk (some ⟨w.heap.size, 0, none⟩)) w2 w') := by
    intro w2 hown2 hgrow2
    have hb2 := (Below.refl w.heap.size w).grown hgrow2 (Nat.le_refl _) (by simp)
    rw [madeB] at hown2
    have hr2 : Row w.heap.size 5 1 (some ⟨w.heap.size, 0, none⟩) K K (repC [.int .u8 0] K) w2 := ⟨hown2, repC_one (by simp [Value.oneCell']) _⟩
    exact move_b_yes w.heap.size _ sp K K N sc 0 0 N _ ys w2 hr2 (hs.below hb2) hN hsc (by omega) (by omega)
  clear hs hN hsc hK
  go_enter Try.func34, Try.ntmps34
  go_wp2_with (first
    | (at_make; refine wpList_make_full _ rfl _ _ 27 rfl w.heap.size 5 i0 (.int .u8 0) 1 Try.underlying27 hi0 hz0 hz1 .u64 .u64 _ _ K rfl rfl rfl rfl (by rw [hz2]; have := HK2.out; omega) (by have := HK2.out; unfold maxLen; omega) (Nat.le_refl _) ?_; intro w2 hown2 hgrow2)
    | (go_at_call 32; have P := PM w2 hown2 hgrow2; (with_reducible refine P.out.mono ?_); rintro e w3 ⟨rfl, hr3, hk3⟩; have hb2 := (Below.refl w.heap.size w).grown hgrow2 (Nat.le_refl _) (by simp); have HB3 := hid (hb2.trans (hk3.below hb2.size (fun k hk => by cases hk; exact Nat.le_refl _))); have HR3 := hid hr3; clear hb2 hk3 hr3 hgrow2 hown2 P))
  go_ret
  refine ⟨w.heap.size, rfl, Nat.le_refl _, ?_, HB3.out⟩
  have h := HR3.out
  have hl := HS.out.len
  rw [← HK.out, cut_all ys _ (by rw [hl]; omega), splice_rep _ ys N n (by rw [hl]; rfl)] at h
  rw [← HK.out]
  exact h
set_option maxHeartbeats 1000000 in
theorem long_v (sp : Option Addr) (N sc n K : Nat) (ys : List Value) (w : World) (hs : Src 4 sp N ys w) (hN : N ≤ sc) (hsc : sc < 9223372036854775808) (hK : N + n = K) (hK2 : K ≤ 8000000000) :
    Calls Try.prog 39 #[.slice sp N sc, .int .u64 n] w fun e w' => ∃ g, e = .returned (.slice (some ⟨g, 0, none⟩) K K) ∧ w.heap.size ≤ g ∧ Row w.heap.size 32 4 (some ⟨g, 0, none⟩) K K (ys ++ repC [.int .i64 0, .int .u64 0, .int .u64 0, .bool false] n) w' ∧ Below w.heap.size w w' := by
  obtain ⟨i0, hi0, hz0, hz1, hz2⟩ := info_parts info32
  have he : (N : Int) + (n : Int) = (K : Int) := by omega
  have hn64 : n < 18446744073709551616 := by omega
  have HNK := hid (show N ≤ K by omega)
  have HK := hid hK
  have HS := hid hs
  have HNS := hid hN
  have HSC := hid hsc
  have HK2 := hid hK2
  have PM : ∀ w2 : World, w2.ownsRow w.heap.size 32 4 (.slice (some ⟨w.heap.size, 0, none⟩) K K) K (madeCells ((.agg #[.int .i64 0, .int .u64 0, .int .u64 0, .bool false]) : Value).cells (K * 4)).toList → w.grownBy w2 none →
      Hid (Calls Try.prog 37 #[.slice (some ⟨w.heap.size, 0, none⟩) K K, .int .u64 0, .slice sp N sc, .int .u64 0, .int .u64 N] w2 fun e w' => e = .returned (.bool true) ∧ Row w.heap.size 32 4 (some ⟨w.heap.size, 0, none⟩) K K (splice (repC [.int .i64 0, .int .u64 0, .int .u64 0, .bool false] K) (0 * 4) (cut ys (0 * 4) (N * 4))) w' ∧ KP (blk (some ⟨w.heap.size, 0, none⟩)) w2 w') := by
    intro w2 hown2 hgrow2
    have hb2 := (Below.refl w.heap.size w).grown hgrow2 (Nat.le_refl _) (by simp)
    rw [madeV] at hown2
    have hr2 : Row w.heap.size 32 4 (some ⟨w.heap.size, 0, none⟩) K K (repC [.int .i64 0, .int .u64 0, .int .u64 0, .bool false] K) w2 := ⟨hown2, repC_one (by simp [Value.oneCell']) _⟩
    exact move_v_yes w.heap.size _ sp K K N sc 0 0 N _ ys w2 hr2 (hs.below hb2) hN hsc (by omega) (by omega)
  clear hs hN hsc hK
  go_enter Try.func39, Try.ntmps39
  go_wp2_with (first
    | (at_make; refine wpList_make_full _ rfl _ _ 49 rfl w.heap.size 32 i0 (.agg #[.int .i64 0, .int .u64 0, .int .u64 0, .bool false]) 4 Try.underlying49 hi0 hz0 hz1 .u64 .u64 _ _ K rfl rfl rfl rfl (by rw [hz2]; have := HK2.out; omega) (by have := HK2.out; unfold maxLen; omega) (Nat.le_refl _) ?_; intro w2 hown2 hgrow2)
    | (go_at_call 37; have P := PM w2 hown2 hgrow2; (with_reducible refine P.out.mono ?_); rintro e w3 ⟨rfl, hr3, hk3⟩; have hb2 := (Below.refl w.heap.size w).grown hgrow2 (Nat.le_refl _) (by simp); have HB3 := hid (hb2.trans (hk3.below hb2.size (fun k hk => by cases hk; exact Nat.le_refl _))); have HR3 := hid hr3; clear hb2 hk3 hr3 hgrow2 hown2 P))
  go_ret
  refine ⟨w.heap.size, rfl, Nat.le_refl _, ?_, HB3.out⟩
  have h := HR3.out
  have hl := HS.out.len
  rw [← HK.out, Nat.zero_mul, cut_all ys _ (by rw [hl]), splice_rep _ ys N n (by rw [hl]; rfl)] at h
  rw [← HK.out]
  exact h
/-- How many there may be at most. -/
def limI (most mx : Int) (has : Bool) : Int := if has = true then (if mx < most then mx else most) else most
def roomB (size n : Nat) (most mx : Int) (has : Bool) : Bool := decide ((size : Int) + n ≤ limI most mx has)
end Go.Proofs.Ytlifnddofgeaaaa
