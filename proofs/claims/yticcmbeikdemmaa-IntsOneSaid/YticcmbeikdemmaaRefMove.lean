/-
  The contract of the document's own moved. Condition: the bits are 8, 16, 32 or 64, the number is cut.
-/
import Derived.Test.YticcmbeikdemmaaMoveMath
namespace Go.Proofs.Yticcmbeikdemmaa
open Go.RowKit

theorem ownsRow_mono {w : World} {base base' : Nat} {e : TypeId} {size : Nat} {v : Value} {n : Nat} {xs : List Value} (h : w.ownsRow base e size v n xs) (hb : base' ≤ base) : w.ownsRow base' e size v n xs := by
  refine ⟨h.1, ?_⟩
  rcases h.2 with h | ⟨g, cap, cur, h1, h2, h3⟩
  · exact .inl h
  · exact .inr ⟨g, cap, cur, h1, by omega, h3⟩

/-- Behind i rounds: the number's bits as they were, i bits of the result. -/
def MvInv (w : World) (g g2 n a : Nat) (F : Nat → Nat) (i : Nat) (wr : World) : Prop :=
  g < g2 ∧ w.heap.size ≤ g2 ∧ (∀ j, j < n → wr.cell? ⟨g, j, none⟩ = some (.int .u64 (btN a j : Nat))) ∧
    wr.ownsRow w.heap.size 22 1 (.slice (some ⟨g2, 0, none⟩) n n) n (fc n (fun j => if j < i then F j else 0)) ∧ Below w.heap.size w wr

theorem mv_start {w w1 w2 : World} {g cap n a : Nat} {F : Nat → Nat} (hown1 : w1.ownsRow w.heap.size 22 1 (.slice (some ⟨g, 0, none⟩) n cap) n (fc n (btN a))) (hB1 : Below w.heap.size w w1)
    (hown2 : w2.ownsRow w1.heap.size 22 1 (.slice (some ⟨w1.heap.size, 0, none⟩) n n) n (madeCells (Value.int .u64 0).cells (n * 1)).toList) (hg2 : w1.grownBy w2 none) : MvInv w g w1.heap.size n a F 0 w2 := by
  have hlt := (hown1.lt g rfl).2
  have hsz := hB1.size
  refine ⟨hlt, hsz, fun j hj => ?_, ?_, ?_⟩
  · rw [World.cell?_of_block (hg2.block g hlt (by simp)), hown1.cellAt j (by omega), fc_get hj]
  · have e : (madeCells (Value.int .u64 0).cells (n * 1)).toList = fc n (fun j => if j < 0 then F j else 0) := by
      rw [Nat.mul_one, show (Value.int .u64 0).cells = #[Value.int .u64 0] from rfl, toList_madeCells_one]
      apply List.ext_getElem?
      intro j
      by_cases hj : j < n
      · rw [fc_get hj]; simp [hj]
      · simp [fc, hj]
    rw [e] at hown2
    exact ownsRow_mono hown2 hsz
  · exact hB1.grown hg2 hsz (by simp)

theorem mv_next {w wr : World} {g g2 n a i : Nat} {F : Nat → Nat} (h : MvInv w g g2 n a F i wr) : MvInv w g g2 n a F (i + 1) (wr.setCell ⟨g2, i, none⟩ (.int .u64 (F i : Nat))) := by
  obtain ⟨h1, h2, h3, h4, h5⟩ := h
  refine ⟨h1, h2, fun j hj => ?_, ?_, h5.setCell (p := ⟨g2, i, none⟩) h2 _⟩
  · rw [World.cell?_setCell_other wr ⟨g2, i, none⟩ ⟨g, j, none⟩ _ (fun e => by injection e with e1; omega)]
    exact h3 j hj
  · have := (h4.stored i (.int .u64 (F i : Nat))).1
    rw [fc_set] at this
    rw [fc_congr (g := fun j => if j = i then F i else if j < i then F j else 0) (fun j _ => by
      by_cases hji : j = i
      · subst hji; simp
      · by_cases hlt : j < i
        · simp [hji, hlt, show j < i + 1 by omega]
        · simp [hji, hlt, show ¬ j < i + 1 by omega])]
    exact this

theorem mv_skip {w wr : World} {g g2 n a i : Nat} {F : Nat → Nat} (h : MvInv w g g2 n a F i wr) (hF : F i = 0) : MvInv w g g2 n a F (i + 1) wr := by
  obtain ⟨h1, h2, h3, h4, h5⟩ := h
  refine ⟨h1, h2, h3, ?_, h5⟩
  rw [fc_congr (g := fun j => if j < i then F j else 0) (fun j _ => by
    by_cases hji : j = i
    · subst hji; simp [hF]
    · by_cases hlt : j < i
      · simp [hlt, show j < i + 1 by omega]
      · simp [hlt, show ¬ j < i + 1 by omega])]
  exact h4

theorem mv_cells {w wr : World} {g g2 n a i : Nat} {F : Nat → Nat} (h : MvInv w g g2 n a F i wr) (hi : i < n) : wr.cell? ⟨g2, i, none⟩ = some (.int .u64 0) ∧ wr.frozen? ⟨g2, i, none⟩ = false := by
  obtain ⟨h1, h2, h3, h4, h5⟩ := h
  refine ⟨?_, h4.frozenAt i⟩
  rw [h4.cellAt i (by omega), fc_get hi]
  simp

theorem mv_end {w wr : World} {g g2 n a i : Nat} {F : Nat → Nat} (h : MvInv w g g2 n a F i wr) (hi : n ≤ i) : wr.ownsRow w.heap.size 22 1 (.slice (some ⟨g2, 0, none⟩) n n) n (fc n F) ∧ Below w.heap.size w wr := by
  obtain ⟨h1, h2, h3, h4, h5⟩ := h
  refine ⟨?_, h5⟩
  rw [fc_congr (g := fun j => if j < i then F j else 0) (fun j hj => by simp [show j < i by omega])]
  exact h4

def MvPost (w : World) (s : Nat) (e : Ending) (w' : World) : Prop := e = .returned (.int .u64 (s : Nat)) ∧ Below w.heap.size w w'

theorem mvF_11 (n a k j : Nat) : mvF n 11 a k j = if k ≤ j then btN a (j - k) else 0 := by rw [mvF, if_pos rfl]

set_option maxHeartbeats 1600000 in
theorem moved_11 (n : Nat) (hn : Okn n) (a k : Nat) (ha : a < 2 ^ n) (hk : k < n) (w : World) :
    Calls Try.prog 37 #[.int .i64 n, .int .i64 11, .int .u64 a, .int .i64 k] w (MvPost w (shiftR n 11 a k)) := by
  obtain ⟨h1, h2, h3, h4⟩ := pow_lt64 hn
  have hn8 := hn.le
  obtain ⟨i0, hi, hz0, hz1, hz2⟩ := info_parts info22
  have HL := hid (list_any n hn8.2 a (by omega) w)
  rw [← move_bits hn (by decide) (by decide) ha hk]
  have HF : Hid (∀ j, mvF n 11 a k j ≤ 1) := fun j => mvF_le n 11 a k j
  have hn1 : 1 ≤ n := by omega
  have hn64 : n ≤ 64 := hn8.2
  have hn0 : 0 < (n : Int) := by omega
  clear h1 h2 h3 h4 hn ha hn8
  go_enter Try.func37, Try.ntmps37
  go_wp2_with (first
    | (go_at_call 35; refine HL.out.mono ?_; rintro e w1 ⟨v1, rfl, hown1, hB1⟩)
    | (at_make; refine wpList_make_full _ rfl _ _ 41 rfl w1.heap.size 22 i0 (.int .u64 0) 1 Try.underlying41 hi hz0 hz1 .i64 .i64 _ _ n rfl rfl rfl rfl (by rw [hz2]; omega) (by unfold maxLen; omega) (Nat.le_refl _) ?_; intro w2 hown2 hgrow2))
  obtain ⟨g, cap, rfl⟩ := owned_at hown1 hn1
  have HS := hid (mv_start (F := mvF n 11 a k) hown1 hB1 hown2 hgrow2)
  have hcap : n ≤ cap := by
    rcases hown1.2 with ⟨h, _⟩ | ⟨g', cap', cur, h, _, _, hnc, _⟩
    · simp at h
    · injection h with h1 h2 h3
      omega
  obtain ⟨g2, hg2⟩ : ∃ g2 : Nat, g2 = w1.heap.size := ⟨_, rfl⟩
  rw [← hg2] at HS ⊢
  clear hown1 hB1 hown2 hgrow2 hg2 hi hz0 hz1 hz2
  go_loopw [11] (fun vi wr => ∃ i : Nat, i ≤ n ∧ vi = .int .i64 i ∧ MvInv w g g2 n a (mvF n 11 a k) i wr) (fun vi _ => n - (intOf vi).toNat)
  case atStart => exact ⟨0, Nat.zero_le _, rfl, HS.out⟩
  case round =>
    obtain ⟨i, hi, rfl, hI⟩ := hrel
    by_cases hlt : i < n
    · have hF := mvF_11 n a k i
      by_cases hki : k ≤ i
      · rw [if_pos hki] at hF
        have hfr : (i : Int) - (k : Int) = ((i - k : Nat) : Int) := by omega
        obtain ⟨f, hf⟩ : ∃ f : Nat, f = i - k := ⟨_, rfl⟩
        rw [← hf] at hfr hF
        have hfn : f < n := by omega
        clear hf
        have hc := hI.2.2.1 f (by omega)
        obtain ⟨hc2, hf2⟩ := mv_cells hI hlt
        have hnx := mv_next hI
        rw [hF] at hnx
        obtain ⟨c, hce⟩ : ∃ c : Nat, c = btN a f := ⟨_, rfl⟩
        rw [← hce] at hc hnx
        have HX := hid hnx
        clear hnx hI hce hF
        go_wp2
        go_roundw
        case rel => exact ⟨i + 1, by omega, by go_num, HX.out⟩
        case measure => simp [intOf]; omega
      · rw [if_neg hki] at hF
        have HX := hid (mv_skip hI hF)
        have hneg : (i : Int) - (k : Int) < 0 := by omega
        have hnn : 0 ≤ (i : Int) - (k : Int) + (n : Int) := by omega
        clear hI hF
        go_wp2
        go_roundw
        case rel => exact ⟨i + 1, by omega, by go_num, HX.out⟩
        case measure => simp [intOf]; omega
    · have hE := mv_end hI (by omega)
      have HOf := hid (of_any n hn1 hn64 _ HF.out wr w.heap.size _ hE.1)
      have HB := hid hE.2
      clear hE hI
      go_wp2_with (go_at_call 36; refine HOf.out.mono ?_; rintro e w' ⟨rfl, rfl⟩)
      go_ret
      exact ⟨rfl, HB.out⟩

theorem mvF_12 (n a k j : Nat) : mvF n 12 a k j = btN a (if n ≤ j + k then n - 1 else j + k) := by rw [mvF, if_neg (by decide), if_pos rfl]

set_option maxHeartbeats 1600000 in
theorem moved_12 (n : Nat) (hn : Okn n) (a k : Nat) (ha : a < 2 ^ n) (hk : k < n) (w : World) :
    Calls Try.prog 37 #[.int .i64 n, .int .i64 12, .int .u64 a, .int .i64 k] w (MvPost w (shiftR n 12 a k)) := by
  obtain ⟨h1, h2, h3, h4⟩ := pow_lt64 hn
  have hn8 := hn.le
  obtain ⟨i0, hi, hz0, hz1, hz2⟩ := info_parts info22
  have HL := hid (list_any n hn8.2 a (by omega) w)
  rw [← move_bits hn (by decide) (by decide) ha hk]
  have HF : Hid (∀ j, mvF n 12 a k j ≤ 1) := fun j => mvF_le n 12 a k j
  have hn1 : 1 ≤ n := by omega
  have hn64 : n ≤ 64 := hn8.2
  have hn0 : 0 < (n : Int) := by omega
  clear h1 h2 h3 h4 hn ha hn8
  go_enter Try.func37, Try.ntmps37
  go_wp2_with (first
    | (go_at_call 35; refine HL.out.mono ?_; rintro e w1 ⟨v1, rfl, hown1, hB1⟩)
    | (at_make; refine wpList_make_full _ rfl _ _ 41 rfl w1.heap.size 22 i0 (.int .u64 0) 1 Try.underlying41 hi hz0 hz1 .i64 .i64 _ _ n rfl rfl rfl rfl (by rw [hz2]; omega) (by unfold maxLen; omega) (Nat.le_refl _) ?_; intro w2 hown2 hgrow2))
  obtain ⟨g, cap, rfl⟩ := owned_at hown1 hn1
  have HS := hid (mv_start (F := mvF n 12 a k) hown1 hB1 hown2 hgrow2)
  have hcap : n ≤ cap := by
    rcases hown1.2 with ⟨h, _⟩ | ⟨g', cap', cur, h, _, _, hnc, _⟩
    · simp at h
    · injection h with h1 h2 h3
      omega
  obtain ⟨g2, hg2⟩ : ∃ g2 : Nat, g2 = w1.heap.size := ⟨_, rfl⟩
  rw [← hg2] at HS ⊢
  clear hown1 hB1 hown2 hgrow2 hg2 hi hz0 hz1 hz2
  go_loopw [11] (fun vi wr => ∃ i : Nat, i ≤ n ∧ vi = .int .i64 i ∧ MvInv w g g2 n a (mvF n 12 a k) i wr) (fun vi _ => n - (intOf vi).toNat)
  case atStart => exact ⟨0, Nat.zero_le _, rfl, HS.out⟩
  case round =>
    obtain ⟨i, hi, rfl, hI⟩ := hrel
    by_cases hlt : i < n
    · have hF := mvF_12 n a k i
      by_cases hki : n ≤ i + k
      · rw [if_pos hki] at hF
        have hfr : (n : Int) - 1 = ((n - 1 : Nat) : Int) := by omega
        have hge : (n : Int) ≤ (i : Int) + (k : Int) := by omega
        obtain ⟨f, hf⟩ : ∃ f : Nat, f = n - 1 := ⟨_, rfl⟩
        rw [← hf] at hfr hF
        have hfn : f < n := by omega
        clear hf
        have hc := hI.2.2.1 f (by omega)
        obtain ⟨hc2, hf2⟩ := mv_cells hI hlt
        have hnx := mv_next hI
        rw [hF] at hnx
        obtain ⟨c, hce⟩ : ∃ c : Nat, c = btN a f := ⟨_, rfl⟩
        rw [← hce] at hc hnx
        have HX := hid hnx
        clear hnx hI hce hF
        go_wp2
        go_roundw
        case rel => exact ⟨i + 1, by omega, by go_num, HX.out⟩
        case measure => simp [intOf]; omega
      · rw [if_neg hki] at hF
        have hfr : (i : Int) + (k : Int) = ((i + k : Nat) : Int) := by omega
        obtain ⟨f, hf⟩ : ∃ f : Nat, f = i + k := ⟨_, rfl⟩
        rw [← hf] at hfr hF
        have hfn : f < n := by omega
        have hd : decide ((n : Int) ≤ (f : Int)) = false := by simp; omega
        clear hf
        have hc := hI.2.2.1 f (by omega)
        obtain ⟨hc2, hf2⟩ := mv_cells hI hlt
        have hnx := mv_next hI
        rw [hF] at hnx
        obtain ⟨c, hce⟩ : ∃ c : Nat, c = btN a f := ⟨_, rfl⟩
        rw [← hce] at hc hnx
        have HX := hid hnx
        clear hnx hI hce hF
        go_wp2
        go_roundw
        case rel => exact ⟨i + 1, by omega, by go_num, HX.out⟩
        case measure => simp [intOf]; omega
    · have hE := mv_end hI (by omega)
      have HOf := hid (of_any n hn1 hn64 _ HF.out wr w.heap.size _ hE.1)
      have HB := hid hE.2
      clear hE hI
      go_wp2_with (go_at_call 36; refine HOf.out.mono ?_; rintro e w' ⟨rfl, rfl⟩)
      go_ret
      exact ⟨rfl, HB.out⟩

theorem mvF_13 (n a k j : Nat) : mvF n 13 a k j = if j + k < n then btN a (j + k) else 0 := by rw [mvF, if_neg (by decide), if_neg (by decide), if_pos rfl]

set_option maxHeartbeats 1600000 in
theorem moved_13 (n : Nat) (hn : Okn n) (a k : Nat) (ha : a < 2 ^ n) (hk : k < n) (w : World) :
    Calls Try.prog 37 #[.int .i64 n, .int .i64 13, .int .u64 a, .int .i64 k] w (MvPost w (shiftR n 13 a k)) := by
  obtain ⟨h1, h2, h3, h4⟩ := pow_lt64 hn
  have hn8 := hn.le
  obtain ⟨i0, hi, hz0, hz1, hz2⟩ := info_parts info22
  have HL := hid (list_any n hn8.2 a (by omega) w)
  rw [← move_bits hn (by decide) (by decide) ha hk]
  have HF : Hid (∀ j, mvF n 13 a k j ≤ 1) := fun j => mvF_le n 13 a k j
  have hn1 : 1 ≤ n := by omega
  have hn64 : n ≤ 64 := hn8.2
  have hn0 : 0 < (n : Int) := by omega
  clear h1 h2 h3 h4 hn ha hn8
  go_enter Try.func37, Try.ntmps37
  go_wp2_with (first
    | (go_at_call 35; refine HL.out.mono ?_; rintro e w1 ⟨v1, rfl, hown1, hB1⟩)
    | (at_make; refine wpList_make_full _ rfl _ _ 41 rfl w1.heap.size 22 i0 (.int .u64 0) 1 Try.underlying41 hi hz0 hz1 .i64 .i64 _ _ n rfl rfl rfl rfl (by rw [hz2]; omega) (by unfold maxLen; omega) (Nat.le_refl _) ?_; intro w2 hown2 hgrow2))
  obtain ⟨g, cap, rfl⟩ := owned_at hown1 hn1
  have HS := hid (mv_start (F := mvF n 13 a k) hown1 hB1 hown2 hgrow2)
  have hcap : n ≤ cap := by
    rcases hown1.2 with ⟨h, _⟩ | ⟨g', cap', cur, h, _, _, hnc, _⟩
    · simp at h
    · injection h with h1 h2 h3
      omega
  obtain ⟨g2, hg2⟩ : ∃ g2 : Nat, g2 = w1.heap.size := ⟨_, rfl⟩
  rw [← hg2] at HS ⊢
  clear hown1 hB1 hown2 hgrow2 hg2 hi hz0 hz1 hz2
  go_loopw [11] (fun vi wr => ∃ i : Nat, i ≤ n ∧ vi = .int .i64 i ∧ MvInv w g g2 n a (mvF n 13 a k) i wr) (fun vi _ => n - (intOf vi).toNat)
  case atStart => exact ⟨0, Nat.zero_le _, rfl, HS.out⟩
  case round =>
    obtain ⟨i, hi, rfl, hI⟩ := hrel
    by_cases hlt : i < n
    · have hF := mvF_13 n a k i
      have hfr : (i : Int) + (k : Int) = ((i + k : Nat) : Int) := by omega
      by_cases hki : i + k < n
      · rw [if_pos hki] at hF
        obtain ⟨f, hf⟩ : ∃ f : Nat, f = i + k := ⟨_, rfl⟩
        rw [← hf] at hfr hF
        have hfn : f < n := by omega
        clear hf hki
        have hc := hI.2.2.1 f (by omega)
        obtain ⟨hc2, hf2⟩ := mv_cells hI hlt
        have hnx := mv_next hI
        rw [hF] at hnx
        obtain ⟨c, hce⟩ : ∃ c : Nat, c = btN a f := ⟨_, rfl⟩
        rw [← hce] at hc hnx
        have HX := hid hnx
        clear hnx hI hce hF
        go_wp2
        go_roundw
        case rel => exact ⟨i + 1, by omega, by go_num, HX.out⟩
        case measure => simp [intOf]; omega
      · rw [if_neg hki] at hF
        have HX := hid (mv_skip hI hF)
        obtain ⟨f, hf⟩ : ∃ f : Nat, f = i + k := ⟨_, rfl⟩
        rw [← hf] at hfr
        have hfn : n ≤ f := by omega
        have hf2 : f ≤ 128 := by omega
        clear hI hF hf hki
        go_wp2
        go_roundw
        case rel => exact ⟨i + 1, by omega, by go_num, HX.out⟩
        case measure => simp [intOf]; omega
    · have hE := mv_end hI (by omega)
      have HOf := hid (of_any n hn1 hn64 _ HF.out wr w.heap.size _ hE.1)
      have HB := hid hE.2
      clear hE hI
      go_wp2_with (go_at_call 36; refine HOf.out.mono ?_; rintro e w' ⟨rfl, rfl⟩)
      go_ret
      exact ⟨rfl, HB.out⟩

theorem mvF_14 (n a k j : Nat) : mvF n 14 a k j = btN a ((j + n - k) % n) := by rw [mvF, if_neg (by decide), if_neg (by decide), if_neg (by decide), if_pos rfl]

set_option maxHeartbeats 1600000 in
theorem moved_14 (n : Nat) (hn : Okn n) (a k : Nat) (ha : a < 2 ^ n) (hk : k < n) (w : World) :
    Calls Try.prog 37 #[.int .i64 n, .int .i64 14, .int .u64 a, .int .i64 k] w (MvPost w (shiftR n 14 a k)) := by
  obtain ⟨h1, h2, h3, h4⟩ := pow_lt64 hn
  have hn8 := hn.le
  obtain ⟨i0, hi, hz0, hz1, hz2⟩ := info_parts info22
  have HL := hid (list_any n hn8.2 a (by omega) w)
  rw [← move_bits hn (by decide) (by decide) ha hk]
  have HF : Hid (∀ j, mvF n 14 a k j ≤ 1) := fun j => mvF_le n 14 a k j
  have hn1 : 1 ≤ n := by omega
  have hn64 : n ≤ 64 := hn8.2
  have hn0 : 0 < (n : Int) := by omega
  clear h1 h2 h3 h4 hn ha hn8
  go_enter Try.func37, Try.ntmps37
  go_wp2_with (first
    | (go_at_call 35; refine HL.out.mono ?_; rintro e w1 ⟨v1, rfl, hown1, hB1⟩)
    | (at_make; refine wpList_make_full _ rfl _ _ 41 rfl w1.heap.size 22 i0 (.int .u64 0) 1 Try.underlying41 hi hz0 hz1 .i64 .i64 _ _ n rfl rfl rfl rfl (by rw [hz2]; omega) (by unfold maxLen; omega) (Nat.le_refl _) ?_; intro w2 hown2 hgrow2))
  obtain ⟨g, cap, rfl⟩ := owned_at hown1 hn1
  have HS := hid (mv_start (F := mvF n 14 a k) hown1 hB1 hown2 hgrow2)
  have hcap : n ≤ cap := by
    rcases hown1.2 with ⟨h, _⟩ | ⟨g', cap', cur, h, _, _, hnc, _⟩
    · simp at h
    · injection h with h1 h2 h3
      omega
  obtain ⟨g2, hg2⟩ : ∃ g2 : Nat, g2 = w1.heap.size := ⟨_, rfl⟩
  rw [← hg2] at HS ⊢
  clear hown1 hB1 hown2 hgrow2 hg2 hi hz0 hz1 hz2
  go_loopw [11] (fun vi wr => ∃ i : Nat, i ≤ n ∧ vi = .int .i64 i ∧ MvInv w g g2 n a (mvF n 14 a k) i wr) (fun vi _ => n - (intOf vi).toNat)
  case atStart => exact ⟨0, Nat.zero_le _, rfl, HS.out⟩
  case round =>
    obtain ⟨i, hi, rfl, hI⟩ := hrel
    by_cases hlt : i < n
    · have hF := mvF_14 n a k i
      have hfr : ((i : Int) - (k : Int) + (n : Int)) % (n : Int) = ((i + n - k) % n : Nat) := by
        have : (i : Int) - (k : Int) + (n : Int) = ((i + n - k : Nat) : Int) := by omega
        rw [this]; simp
      have hnn : 0 ≤ (i : Int) - (k : Int) + (n : Int) := by omega
      obtain ⟨f, hf⟩ : ∃ f : Nat, f = (i + n - k) % n := ⟨_, rfl⟩
      have hfn : f < n := by rw [hf]; exact Nat.mod_lt _ (by omega)
      rw [← hf] at hfr hF
      clear hf
      have hc := hI.2.2.1 f (by omega)
      obtain ⟨hc2, hf2⟩ := mv_cells hI hlt
      have hnx := mv_next hI
      rw [hF] at hnx
      obtain ⟨c, hce⟩ : ∃ c : Nat, c = btN a f := ⟨_, rfl⟩
      rw [← hce] at hc hnx
      have HX := hid hnx
      clear hnx hI hce hF
      go_wp2
      go_roundw
      case rel => exact ⟨i + 1, by omega, by go_num, HX.out⟩
      case measure => simp [intOf]; omega
    · have hE := mv_end hI (by omega)
      have HOf := hid (of_any n hn1 hn64 _ HF.out wr w.heap.size _ hE.1)
      have HB := hid hE.2
      clear hE hI
      go_wp2_with (go_at_call 36; refine HOf.out.mono ?_; rintro e w' ⟨rfl, rfl⟩)
      go_ret
      exact ⟨rfl, HB.out⟩

theorem mvF_15 (n a k j : Nat) : mvF n 15 a k j = btN a ((j + k + n) % n) := by rw [mvF, if_neg (by decide), if_neg (by decide), if_neg (by decide), if_neg (by decide)]

set_option maxHeartbeats 1600000 in
theorem moved_15 (n : Nat) (hn : Okn n) (a k : Nat) (ha : a < 2 ^ n) (hk : k < n) (w : World) :
    Calls Try.prog 37 #[.int .i64 n, .int .i64 15, .int .u64 a, .int .i64 k] w (MvPost w (shiftR n 15 a k)) := by
  obtain ⟨h1, h2, h3, h4⟩ := pow_lt64 hn
  have hn8 := hn.le
  obtain ⟨i0, hi, hz0, hz1, hz2⟩ := info_parts info22
  have HL := hid (list_any n hn8.2 a (by omega) w)
  rw [← move_bits hn (by decide) (by decide) ha hk]
  have HF : Hid (∀ j, mvF n 15 a k j ≤ 1) := fun j => mvF_le n 15 a k j
  have hn1 : 1 ≤ n := by omega
  have hn64 : n ≤ 64 := hn8.2
  have hn0 : 0 < (n : Int) := by omega
  clear h1 h2 h3 h4 hn ha hn8
  go_enter Try.func37, Try.ntmps37
  go_wp2_with (first
    | (go_at_call 35; refine HL.out.mono ?_; rintro e w1 ⟨v1, rfl, hown1, hB1⟩)
    | (at_make; refine wpList_make_full _ rfl _ _ 41 rfl w1.heap.size 22 i0 (.int .u64 0) 1 Try.underlying41 hi hz0 hz1 .i64 .i64 _ _ n rfl rfl rfl rfl (by rw [hz2]; omega) (by unfold maxLen; omega) (Nat.le_refl _) ?_; intro w2 hown2 hgrow2))
  obtain ⟨g, cap, rfl⟩ := owned_at hown1 hn1
  have HS := hid (mv_start (F := mvF n 15 a k) hown1 hB1 hown2 hgrow2)
  have hcap : n ≤ cap := by
    rcases hown1.2 with ⟨h, _⟩ | ⟨g', cap', cur, h, _, _, hnc, _⟩
    · simp at h
    · injection h with h1 h2 h3
      omega
  obtain ⟨g2, hg2⟩ : ∃ g2 : Nat, g2 = w1.heap.size := ⟨_, rfl⟩
  rw [← hg2] at HS ⊢
  clear hown1 hB1 hown2 hgrow2 hg2 hi hz0 hz1 hz2
  go_loopw [11] (fun vi wr => ∃ i : Nat, i ≤ n ∧ vi = .int .i64 i ∧ MvInv w g g2 n a (mvF n 15 a k) i wr) (fun vi _ => n - (intOf vi).toNat)
  case atStart => exact ⟨0, Nat.zero_le _, rfl, HS.out⟩
  case round =>
    obtain ⟨i, hi, rfl, hI⟩ := hrel
    by_cases hlt : i < n
    · have hF := mvF_15 n a k i
      have hfr : ((i : Int) + (k : Int) + (n : Int)) % (n : Int) = ((i + k + n) % n : Nat) := by
        have : (i : Int) + (k : Int) + (n : Int) = ((i + k + n : Nat) : Int) := by omega
        rw [this]; simp
      have hnn : 0 ≤ (i : Int) + (k : Int) + (n : Int) := by omega
      obtain ⟨f, hf⟩ : ∃ f : Nat, f = (i + k + n) % n := ⟨_, rfl⟩
      have hfn : f < n := by rw [hf]; exact Nat.mod_lt _ (by omega)
      rw [← hf] at hfr hF
      clear hf
      have hc := hI.2.2.1 f (by omega)
      obtain ⟨hc2, hf2⟩ := mv_cells hI hlt
      have hnx := mv_next hI
      rw [hF] at hnx
      obtain ⟨c, hce⟩ : ∃ c : Nat, c = btN a f := ⟨_, rfl⟩
      rw [← hce] at hc hnx
      have HX := hid hnx
      clear hnx hI hce hF
      go_wp2
      go_roundw
      case rel => exact ⟨i + 1, by omega, by go_num, HX.out⟩
      case measure => simp [intOf]; omega
    · have hE := mv_end hI (by omega)
      have HOf := hid (of_any n hn1 hn64 _ HF.out wr w.heap.size _ hE.1)
      have HB := hid hE.2
      clear hE hI
      go_wp2_with (go_at_call 36; refine HOf.out.mono ?_; rintro e w' ⟨rfl, rfl⟩)
      go_ret
      exact ⟨rfl, HB.out⟩

theorem moved_any (n : Nat) (hn : Okn n) (op : Nat) (h1 : 11 ≤ op) (h2 : op ≤ 15) (a k : Nat) (ha : a < 2 ^ n) (hk : k < n) (w : World) :
    Calls Try.prog 37 #[.int .i64 n, .int .i64 op, .int .u64 a, .int .i64 k] w (MvPost w (shiftR n op a k)) := by
  have hop : op = 11 ∨ op = 12 ∨ op = 13 ∨ op = 14 ∨ op = 15 := by omega
  rcases hop with rfl | rfl | rfl | rfl | rfl
  · exact moved_11 n hn a k ha hk w
  · exact moved_12 n hn a k ha hk w
  · exact moved_13 n hn a k ha hk w
  · exact moved_14 n hn a k ha hk w
  · exact moved_15 n hn a k ha hk w

end Go.Proofs.Yticcmbeikdemmaa
