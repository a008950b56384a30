/-
  RefMove, RefHeld, RefHeld2: merged (each text says what it holds where it lies in wip). No condition.
-/
import Derived.Test.YtlhakbkdlgejpaaGreatDoorI04
import Derived.Test.YtlhakbkdlgejpaaGreatDoorI01
set_option linter.unusedSimpArgs false
set_option linter.unusedVariables false
set_option maxRecDepth 100000
namespace Go.Proofs.YtlhakbkdlgejpaaGreatDoor
open Go.RowKit

theorem ownsRow_mono {w : World} {base base' : Nat} {e : TypeId} {size : Nat} {v : Value} {n : Nat} {xs : List Value} (h : w.ownsRow base e size v n xs) (hb : base' ≤ base) : w.ownsRow base' e size v n xs := by
  refine ⟨h.1, ?_⟩
  rcases h.2 with h | ⟨g, cap, cur, h1, h2, h3⟩
  · exact .inl h
  · exact .inr ⟨g, cap, cur, h1, by omega, h3⟩

/-- Behind i rounds: the number's bits as they were, i bits of the result. -/
def MvInv (w : World) (g g2 n a : Nat) (F : Nat → Nat) (i : Nat) (wr : World) : Prop :=
  g < g2 ∧ w.heap.size ≤ g2 ∧ (∀ j, j < n → wr.cell? ⟨g, j, none⟩ = some (.int .u64 (btN a j : Nat))) ∧
    wr.ownsRow w.heap.size 22 1 (.slice (some ⟨g2, 0, none⟩) n n) n (fc n (fun j => if j < i then F j else 0)) ∧ Below w.heap.size w wr

theorem mv_start {w w1 w2 : World} {g cap n a : Nat} {F : Nat → Nat} (hown1 : w1.ownsRow w.heap.size 22 1 (.slice (some ⟨g, 0, none⟩) n cap) n (fc n (btN a))) (hB1 : Below w.heap.size w w1)
    (hown2 : w2.ownsRow w1.heap.size 22 1 (.slice (some ⟨w1.heap.size, 0, none⟩) n n) n (madeCells (Value.int .u64 0).cells (n * 1)).toList) (hg2 : w1.grownBy w2 none) : MvInv w g w1.heap.size n a F 0 w2 := by
  have hlt := (hown1.lt g rfl).2
  have hsz := hB1.size
  refine ⟨hlt, hsz, fun j hj => ?_, ?_, ?_⟩
  · rw [World.cell?_of_block (hg2.block g hlt (by simp)), hown1.cellAt j (by omega), fc_get hj]
  · have e : (madeCells (Value.int .u64 0).cells (n * 1)).toList = fc n (fun j => if j < 0 then F j else 0) := by
      rw [Nat.mul_one, show (Value.int .u64 0).cells = #[Value.int .u64 0] from rfl, toList_madeCells_one]
      apply List.ext_getElem?
      intro j
      by_cases hj : j < n
      · rw [fc_get hj]; simp [hj]
      · simp [fc, hj]
    rw [e] at hown2
    exact ownsRow_mono hown2 hsz
  · exact hB1.grown hg2 hsz (by simp)

theorem mv_next {w wr : World} {g g2 n a i : Nat} {F : Nat → Nat} (h : MvInv w g g2 n a F i wr) : MvInv w g g2 n a F (i + 1) (wr.setCell ⟨g2, i, none⟩ (.int .u64 (F i : Nat))) := by
  obtain ⟨h1, h2, h3, h4, h5⟩ := h
  refine ⟨h1, h2, fun j hj => ?_, ?_, h5.setCell (p := ⟨g2, i, none⟩) h2 _⟩
  · rw [World.cell?_setCell_other wr ⟨g2, i, none⟩ ⟨g, j, none⟩ _ (fun e => by injection e with e1; omega)]
    exact h3 j hj
  · have := (h4.stored i (.int .u64 (F i : Nat))).1
    rw [fc_set] at this
    rw [fc_congr (g := fun j => if j = i then F i else if j < i then F j else 0) (fun j _ => by
      by_cases hji : j = i
      · subst hji; simp
      · by_cases hlt : j < i
        · simp [hji, hlt, show j < i + 1 by omega]
        · simp [hji, hlt, show ¬ j < i + 1 by omega])]
    exact this

theorem mv_skip {w wr : World} {g g2 n a i : Nat} {F : Nat → Nat} (h : MvInv w g g2 n a F i wr) (hF : F i = 0) : MvInv w g g2 n a F (i + 1) wr := by
  obtain ⟨h1, h2, h3, h4, h5⟩ := h
  refine ⟨h1, h2, h3, ?_, h5⟩
  rw [fc_congr (g := fun j => if j < i then F j else 0) (fun j _ => by
    by_cases hji : j = i
    · subst hji; simp [hF]
    · by_cases hlt : j < i
      · simp [hlt, show j < i + 1 by omega]
      · simp [hlt, show ¬ j < i + 1 by omega])]
  exact h4

theorem mv_cells {w wr : World} {g g2 n a i : Nat} {F : Nat → Nat} (h : MvInv w g g2 n a F i wr) (hi : i < n) : wr.cell? ⟨g2, i, none⟩ = some (.int .u64 0) ∧ wr.frozen? ⟨g2, i, none⟩ = false := by
  obtain ⟨h1, h2, h3, h4, h5⟩ := h
  refine ⟨?_, h4.frozenAt i⟩
  rw [h4.cellAt i (by omega), fc_get hi]
  simp

theorem mv_end {w wr : World} {g g2 n a i : Nat} {F : Nat → Nat} (h : MvInv w g g2 n a F i wr) (hi : n ≤ i) : wr.ownsRow w.heap.size 22 1 (.slice (some ⟨g2, 0, none⟩) n n) n (fc n F) ∧ Below w.heap.size w wr := by
  obtain ⟨h1, h2, h3, h4, h5⟩ := h
  refine ⟨?_, h5⟩
  rw [fc_congr (g := fun j => if j < i then F j else 0) (fun j hj => by simp [show j < i by omega])]
  exact h4

def MvPost (w : World) (s : Nat) (e : Ending) (w' : World) : Prop := e = .returned (.int .u64 (s : Nat)) ∧ Below w.heap.size w w'

theorem mvF_11 (n a k j : Nat) : mvF n 11 a k j = if k ≤ j then btN a (j - k) else 0 := by rw [mvF, if_pos rfl]

set_option maxHeartbeats 1600000 in
theorem moved_11 (n : Nat) (hn : Okn n) (a k : Nat) (ha : a < 2 ^ n) (hk : k < n) (w : World) :
    Calls Tryz.prog 231 #[.int .i64 n, .int .i64 11, .int .u64 a, .int .i64 k] w (MvPost w (shiftR n 11 a k)) := by
  obtain ⟨h1, h2, h3, h4⟩ := pow_lt64 hn
  have hn8 := hn.le
  obtain ⟨i0, hi, hz0, hz1, hz2⟩ := info_parts info22
  have HL := hid (list_any n hn8.2 a (by omega) w)
  rw [← move_bits hn (by decide) (by decide) ha hk]
  have HF : Hid (∀ j, mvF n 11 a k j ≤ 1) := fun j => mvF_le n 11 a k j
  have hn1 : 1 ≤ n := by omega
  have hn64 : n ≤ 64 := hn8.2
  have hn0 : 0 < (n : Int) := by omega
  clear h1 h2 h3 h4 hn ha hn8
  go_enter Tryz.func231, Tryz.ntmps231
  go_wp2_with (first
    | (go_at_call 228; refine HL.out.mono ?_; rintro e w1 ⟨v1, rfl, hown1, hB1⟩)
    | (at_make; refine wpList_make_full _ rfl _ _ 40 rfl w1.heap.size 22 i0 (.int .u64 0) 1 Tryz.underlying40 hi hz0 hz1 .i64 .i64 _ _ n rfl rfl rfl rfl (by rw [hz2]; omega) (by unfold maxLen; omega) (Nat.le_refl _) ?_; intro w2 hown2 hgrow2))
  obtain ⟨g, cap, rfl⟩ := owned_at hown1 hn1
  have HS := hid (mv_start (F := mvF n 11 a k) hown1 hB1 hown2 hgrow2)
  have hcap : n ≤ cap := by
    rcases hown1.2 with ⟨h, _⟩ | ⟨g', cap', cur, h, _, _, hnc, _⟩
    · simp at h
    · injection h with h1 h2 h3
      omega
  obtain ⟨g2, hg2⟩ : ∃ g2 : Nat, g2 = w1.heap.size := ⟨_, rfl⟩
  rw [← hg2] at HS ⊢
  clear hown1 hB1 hown2 hgrow2 hg2 hi hz0 hz1 hz2
  go_loopw [11] (fun vi wr => ∃ i : Nat, i ≤ n ∧ vi = .int .i64 i ∧ MvInv w g g2 n a (mvF n 11 a k) i wr) (fun vi _ => n - (intOf vi).toNat)
  case atStart => exact ⟨0, Nat.zero_le _, rfl, HS.out⟩
  case round =>
    obtain ⟨i, hi, rfl, hI⟩ := hrel
    by_cases hlt : i < n
    · have hF := mvF_11 n a k i
      by_cases hki : k ≤ i
      · rw [if_pos hki] at hF
        have hfr : (i : Int) - (k : Int) = ((i - k : Nat) : Int) := by omega
        obtain ⟨f, hf⟩ : ∃ f : Nat, f = i - k := ⟨_, rfl⟩
        rw [← hf] at hfr hF
        have hfn : f < n := by omega
        clear hf
        have hc := hI.2.2.1 f (by omega)
        obtain ⟨hc2, hf2⟩ := mv_cells hI hlt
        have hnx := mv_next hI
        rw [hF] at hnx
        obtain ⟨c, hce⟩ : ∃ c : Nat, c = btN a f := ⟨_, rfl⟩
        rw [← hce] at hc hnx
        have HX := hid hnx
        clear hnx hI hce hF
        go_wp2
        go_roundw
        case rel => exact ⟨i + 1, by omega, by go_num, HX.out⟩
        case measure => simp [intOf]; omega
      · rw [if_neg hki] at hF
        have HX := hid (mv_skip hI hF)
        have hneg : (i : Int) - (k : Int) < 0 := by omega
        have hnn : 0 ≤ (i : Int) - (k : Int) + (n : Int) := by omega
        clear hI hF
        go_wp2
        go_roundw
        case rel => exact ⟨i + 1, by omega, by go_num, HX.out⟩
        case measure => simp [intOf]; omega
    · have hE := mv_end hI (by omega)
      have HOf := hid (of_any n hn1 hn64 _ HF.out wr w.heap.size _ hE.1)
      have HB := hid hE.2
      clear hE hI
      go_wp2_with (go_at_call 229; refine HOf.out.mono ?_; rintro e w' ⟨rfl, rfl⟩)
      go_ret
      exact ⟨rfl, HB.out⟩

theorem mvF_12 (n a k j : Nat) : mvF n 12 a k j = btN a (if n ≤ j + k then n - 1 else j + k) := by rw [mvF, if_neg (by decide), if_pos rfl]

set_option maxHeartbeats 1600000 in
theorem moved_12 (n : Nat) (hn : Okn n) (a k : Nat) (ha : a < 2 ^ n) (hk : k < n) (w : World) :
    Calls Tryz.prog 231 #[.int .i64 n, .int .i64 12, .int .u64 a, .int .i64 k] w (MvPost w (shiftR n 12 a k)) := by
  obtain ⟨h1, h2, h3, h4⟩ := pow_lt64 hn
  have hn8 := hn.le
  obtain ⟨i0, hi, hz0, hz1, hz2⟩ := info_parts info22
  have HL := hid (list_any n hn8.2 a (by omega) w)
  rw [← move_bits hn (by decide) (by decide) ha hk]
  have HF : Hid (∀ j, mvF n 12 a k j ≤ 1) := fun j => mvF_le n 12 a k j
  have hn1 : 1 ≤ n := by omega
  have hn64 : n ≤ 64 := hn8.2
  have hn0 : 0 < (n : Int) := by omega
  clear h1 h2 h3 h4 hn ha hn8
  go_enter Tryz.func231, Tryz.ntmps231
  go_wp2_with (first
    | (go_at_call 228; refine HL.out.mono ?_; rintro e w1 ⟨v1, rfl, hown1, hB1⟩)
    | (at_make; refine wpList_make_full _ rfl _ _ 40 rfl w1.heap.size 22 i0 (.int .u64 0) 1 Tryz.underlying40 hi hz0 hz1 .i64 .i64 _ _ n rfl rfl rfl rfl (by rw [hz2]; omega) (by unfold maxLen; omega) (Nat.le_refl _) ?_; intro w2 hown2 hgrow2))
  obtain ⟨g, cap, rfl⟩ := owned_at hown1 hn1
  have HS := hid (mv_start (F := mvF n 12 a k) hown1 hB1 hown2 hgrow2)
  have hcap : n ≤ cap := by
    rcases hown1.2 with ⟨h, _⟩ | ⟨g', cap', cur, h, _, _, hnc, _⟩
    · simp at h
    · injection h with h1 h2 h3
      omega
  obtain ⟨g2, hg2⟩ : ∃ g2 : Nat, g2 = w1.heap.size := ⟨_, rfl⟩
  rw [← hg2] at HS ⊢
  clear hown1 hB1 hown2 hgrow2 hg2 hi hz0 hz1 hz2
  go_loopw [11] (fun vi wr => ∃ i : Nat, i ≤ n ∧ vi = .int .i64 i ∧ MvInv w g g2 n a (mvF n 12 a k) i wr) (fun vi _ => n - (intOf vi).toNat)
  case atStart => exact ⟨0, Nat.zero_le _, rfl, HS.out⟩
  case round =>
    obtain ⟨i, hi, rfl, hI⟩ := hrel
    by_cases hlt : i < n
    · have hF := mvF_12 n a k i
      by_cases hki : n ≤ i + k
      · rw [if_pos hki] at hF
        have hfr : (n : Int) - 1 = ((n - 1 : Nat) : Int) := by omega
        have hge : (n : Int) ≤ (i : Int) + (k : Int) := by omega
        obtain ⟨f, hf⟩ : ∃ f : Nat, f = n - 1 := ⟨_, rfl⟩
        rw [← hf] at hfr hF
        have hfn : f < n := by omega
        clear hf
        have hc := hI.2.2.1 f (by omega)
        obtain ⟨hc2, hf2⟩ := mv_cells hI hlt
        have hnx := mv_next hI
        rw [hF] at hnx
        obtain ⟨c, hce⟩ : ∃ c : Nat, c = btN a f := ⟨_, rfl⟩
        rw [← hce] at hc hnx
        have HX := hid hnx
        clear hnx hI hce hF
        go_wp2
        go_roundw
        case rel => exact ⟨i + 1, by omega, by go_num, HX.out⟩
        case measure => simp [intOf]; omega
      · rw [if_neg hki] at hF
        have hfr : (i : Int) + (k : Int) = ((i + k : Nat) : Int) := by omega
        obtain ⟨f, hf⟩ : ∃ f : Nat, f = i + k := ⟨_, rfl⟩
        rw [← hf] at hfr hF
        have hfn : f < n := by omega
        have hd : decide ((n : Int) ≤ (f : Int)) = false := by simp; omega
        clear hf
        have hc := hI.2.2.1 f (by omega)
        obtain ⟨hc2, hf2⟩ := mv_cells hI hlt
        have hnx := mv_next hI
        rw [hF] at hnx
        obtain ⟨c, hce⟩ : ∃ c : Nat, c = btN a f := ⟨_, rfl⟩
        rw [← hce] at hc hnx
        have HX := hid hnx
        clear hnx hI hce hF
        go_wp2
        go_roundw
        case rel => exact ⟨i + 1, by omega, by go_num, HX.out⟩
        case measure => simp [intOf]; omega
    · have hE := mv_end hI (by omega)
      have HOf := hid (of_any n hn1 hn64 _ HF.out wr w.heap.size _ hE.1)
      have HB := hid hE.2
      clear hE hI
      go_wp2_with (go_at_call 229; refine HOf.out.mono ?_; rintro e w' ⟨rfl, rfl⟩)
      go_ret
      exact ⟨rfl, HB.out⟩

theorem mvF_13 (n a k j : Nat) : mvF n 13 a k j = if j + k < n then btN a (j + k) else 0 := by rw [mvF, if_neg (by decide), if_neg (by decide), if_pos rfl]

set_option maxHeartbeats 1600000 in
theorem moved_13 (n : Nat) (hn : Okn n) (a k : Nat) (ha : a < 2 ^ n) (hk : k < n) (w : World) :
    Calls Tryz.prog 231 #[.int .i64 n, .int .i64 13, .int .u64 a, .int .i64 k] w (MvPost w (shiftR n 13 a k)) := by
  obtain ⟨h1, h2, h3, h4⟩ := pow_lt64 hn
  have hn8 := hn.le
  obtain ⟨i0, hi, hz0, hz1, hz2⟩ := info_parts info22
  have HL := hid (list_any n hn8.2 a (by omega) w)
  rw [← move_bits hn (by decide) (by decide) ha hk]
  have HF : Hid (∀ j, mvF n 13 a k j ≤ 1) := fun j => mvF_le n 13 a k j
  have hn1 : 1 ≤ n := by omega
  have hn64 : n ≤ 64 := hn8.2
  have hn0 : 0 < (n : Int) := by omega
  clear h1 h2 h3 h4 hn ha hn8
  go_enter Tryz.func231, Tryz.ntmps231
  go_wp2_with (first
    | (go_at_call 228; refine HL.out.mono ?_; rintro e w1 ⟨v1, rfl, hown1, hB1⟩)
    | (at_make; refine wpList_make_full _ rfl _ _ 40 rfl w1.heap.size 22 i0 (.int .u64 0) 1 Tryz.underlying40 hi hz0 hz1 .i64 .i64 _ _ n rfl rfl rfl rfl (by rw [hz2]; omega) (by unfold maxLen; omega) (Nat.le_refl _) ?_; intro w2 hown2 hgrow2))
  obtain ⟨g, cap, rfl⟩ := owned_at hown1 hn1
  have HS := hid (mv_start (F := mvF n 13 a k) hown1 hB1 hown2 hgrow2)
  have hcap : n ≤ cap := by
    rcases hown1.2 with ⟨h, _⟩ | ⟨g', cap', cur, h, _, _, hnc, _⟩
    · simp at h
    · injection h with h1 h2 h3
      omega
  obtain ⟨g2, hg2⟩ : ∃ g2 : Nat, g2 = w1.heap.size := ⟨_, rfl⟩
  rw [← hg2] at HS ⊢
  clear hown1 hB1 hown2 hgrow2 hg2 hi hz0 hz1 hz2
  go_loopw [11] (fun vi wr => ∃ i : Nat, i ≤ n ∧ vi = .int .i64 i ∧ MvInv w g g2 n a (mvF n 13 a k) i wr) (fun vi _ => n - (intOf vi).toNat)
  case atStart => exact ⟨0, Nat.zero_le _, rfl, HS.out⟩
  case round =>
    obtain ⟨i, hi, rfl, hI⟩ := hrel
    by_cases hlt : i < n
    · have hF := mvF_13 n a k i
      have hfr : (i : Int) + (k : Int) = ((i + k : Nat) : Int) := by omega
      by_cases hki : i + k < n
      · rw [if_pos hki] at hF
        obtain ⟨f, hf⟩ : ∃ f : Nat, f = i + k := ⟨_, rfl⟩
        rw [← hf] at hfr hF
        have hfn : f < n := by omega
        clear hf hki
        have hc := hI.2.2.1 f (by omega)
        obtain ⟨hc2, hf2⟩ := mv_cells hI hlt
        have hnx := mv_next hI
        rw [hF] at hnx
        obtain ⟨c, hce⟩ : ∃ c : Nat, c = btN a f := ⟨_, rfl⟩
        rw [← hce] at hc hnx
        have HX := hid hnx
        clear hnx hI hce hF
        go_wp2
        go_roundw
        case rel => exact ⟨i + 1, by omega, by go_num, HX.out⟩
        case measure => simp [intOf]; omega
      · rw [if_neg hki] at hF
        have HX := hid (mv_skip hI hF)
        obtain ⟨f, hf⟩ : ∃ f : Nat, f = i + k := ⟨_, rfl⟩
        rw [← hf] at hfr
        have hfn : n ≤ f := by omega
        have hf2 : f ≤ 128 := by omega
        clear hI hF hf hki
        go_wp2
        go_roundw
        case rel => exact ⟨i + 1, by omega, by go_num, HX.out⟩
        case measure => simp [intOf]; omega
    · have hE := mv_end hI (by omega)
      have HOf := hid (of_any n hn1 hn64 _ HF.out wr w.heap.size _ hE.1)
      have HB := hid hE.2
      clear hE hI
      go_wp2_with (go_at_call 229; refine HOf.out.mono ?_; rintro e w' ⟨rfl, rfl⟩)
      go_ret
      exact ⟨rfl, HB.out⟩

theorem mvF_14 (n a k j : Nat) : mvF n 14 a k j = btN a ((j + n - k) % n) := by rw [mvF, if_neg (by decide), if_neg (by decide), if_neg (by decide), if_pos rfl]

set_option maxHeartbeats 1600000 in
theorem moved_14 (n : Nat) (hn : Okn n) (a k : Nat) (ha : a < 2 ^ n) (hk : k < n) (w : World) :
    Calls Tryz.prog 231 #[.int .i64 n, .int .i64 14, .int .u64 a, .int .i64 k] w (MvPost w (shiftR n 14 a k)) := by
  obtain ⟨h1, h2, h3, h4⟩ := pow_lt64 hn
  have hn8 := hn.le
  obtain ⟨i0, hi, hz0, hz1, hz2⟩ := info_parts info22
  have HL := hid (list_any n hn8.2 a (by omega) w)
  rw [← move_bits hn (by decide) (by decide) ha hk]
  have HF : Hid (∀ j, mvF n 14 a k j ≤ 1) := fun j => mvF_le n 14 a k j
  have hn1 : 1 ≤ n := by omega
  have hn64 : n ≤ 64 := hn8.2
  have hn0 : 0 < (n : Int) := by omega
  clear h1 h2 h3 h4 hn ha hn8
  go_enter Tryz.func231, Tryz.ntmps231
  go_wp2_with (first
    | (go_at_call 228; refine HL.out.mono ?_; rintro e w1 ⟨v1, rfl, hown1, hB1⟩)
    | (at_make; refine wpList_make_full _ rfl _ _ 40 rfl w1.heap.size 22 i0 (.int .u64 0) 1 Tryz.underlying40 hi hz0 hz1 .i64 .i64 _ _ n rfl rfl rfl rfl (by rw [hz2]; omega) (by unfold maxLen; omega) (Nat.le_refl _) ?_; intro w2 hown2 hgrow2))
  obtain ⟨g, cap, rfl⟩ := owned_at hown1 hn1
  have HS := hid (mv_start (F := mvF n 14 a k) hown1 hB1 hown2 hgrow2)
  have hcap : n ≤ cap := by
    rcases hown1.2 with ⟨h, _⟩ | ⟨g', cap', cur, h, _, _, hnc, _⟩
    · simp at h
    · injection h with h1 h2 h3
      omega
  obtain ⟨g2, hg2⟩ : ∃ g2 : Nat, g2 = w1.heap.size := ⟨_, rfl⟩
  rw [← hg2] at HS ⊢
  clear hown1 hB1 hown2 hgrow2 hg2 hi hz0 hz1 hz2
  go_loopw [11] (fun vi wr => ∃ i : Nat, i ≤ n ∧ vi = .int .i64 i ∧ MvInv w g g2 n a (mvF n 14 a k) i wr) (fun vi _ => n - (intOf vi).toNat)
  case atStart => exact ⟨0, Nat.zero_le _, rfl, HS.out⟩
  case round =>
    obtain ⟨i, hi, rfl, hI⟩ := hrel
    by_cases hlt : i < n
    · have hF := mvF_14 n a k i
      have hfr : ((i : Int) - (k : Int) + (n : Int)) % (n : Int) = ((i + n - k) % n : Nat) := by
        have : (i : Int) - (k : Int) + (n : Int) = ((i + n - k : Nat) : Int) := by omega
        rw [this]; simp
      have hnn : 0 ≤ (i : Int) - (k : Int) + (n : Int) := by omega
      obtain ⟨f, hf⟩ : ∃ f : Nat, f = (i + n - k) % n := ⟨_, rfl⟩
      have hfn : f < n := by rw [hf]; exact Nat.mod_lt _ (by omega)
      rw [← hf] at hfr hF
      clear hf
      have hc := hI.2.2.1 f (by omega)
      obtain ⟨hc2, hf2⟩ := mv_cells hI hlt
      have hnx := mv_next hI
      rw [hF] at hnx
      obtain ⟨c, hce⟩ : ∃ c : Nat, c = btN a f := ⟨_, rfl⟩
      rw [← hce] at hc hnx
      have HX := hid hnx
      clear hnx hI hce hF
      go_wp2
      go_roundw
      case rel => exact ⟨i + 1, by omega, by go_num, HX.out⟩
      case measure => simp [intOf]; omega
    · have hE := mv_end hI (by omega)
      have HOf := hid (of_any n hn1 hn64 _ HF.out wr w.heap.size _ hE.1)
      have HB := hid hE.2
      clear hE hI
      go_wp2_with (go_at_call 229; refine HOf.out.mono ?_; rintro e w' ⟨rfl, rfl⟩)
      go_ret
      exact ⟨rfl, HB.out⟩

theorem mvF_15 (n a k j : Nat) : mvF n 15 a k j = btN a ((j + k + n) % n) := by rw [mvF, if_neg (by decide), if_neg (by decide), if_neg (by decide), if_neg (by decide)]

set_option maxHeartbeats 1600000 in
theorem moved_15 (n : Nat) (hn : Okn n) (a k : Nat) (ha : a < 2 ^ n) (hk : k < n) (w : World) :
    Calls Tryz.prog 231 #[.int .i64 n, .int .i64 15, .int .u64 a, .int .i64 k] w (MvPost w (shiftR n 15 a k)) := by
  obtain ⟨h1, h2, h3, h4⟩ := pow_lt64 hn
  have hn8 := hn.le
  obtain ⟨i0, hi, hz0, hz1, hz2⟩ := info_parts info22
  have HL := hid (list_any n hn8.2 a (by omega) w)
  rw [← move_bits hn (by decide) (by decide) ha hk]
  have HF : Hid (∀ j, mvF n 15 a k j ≤ 1) := fun j => mvF_le n 15 a k j
  have hn1 : 1 ≤ n := by omega
  have hn64 : n ≤ 64 := hn8.2
  have hn0 : 0 < (n : Int) := by omega
  clear h1 h2 h3 h4 hn ha hn8
  go_enter Tryz.func231, Tryz.ntmps231
  go_wp2_with (first
    | (go_at_call 228; refine HL.out.mono ?_; rintro e w1 ⟨v1, rfl, hown1, hB1⟩)
    | (at_make; refine wpList_make_full _ rfl _ _ 40 rfl w1.heap.size 22 i0 (.int .u64 0) 1 Tryz.underlying40 hi hz0 hz1 .i64 .i64 _ _ n rfl rfl rfl rfl (by rw [hz2]; omega) (by unfold maxLen; omega) (Nat.le_refl _) ?_; intro w2 hown2 hgrow2))
  obtain ⟨g, cap, rfl⟩ := owned_at hown1 hn1
  have HS := hid (mv_start (F := mvF n 15 a k) hown1 hB1 hown2 hgrow2)
  have hcap : n ≤ cap := by
    rcases hown1.2 with ⟨h, _⟩ | ⟨g', cap', cur, h, _, _, hnc, _⟩
    · simp at h
    · injection h with h1 h2 h3
      omega
  obtain ⟨g2, hg2⟩ : ∃ g2 : Nat, g2 = w1.heap.size := ⟨_, rfl⟩
  rw [← hg2] at HS ⊢
  clear hown1 hB1 hown2 hgrow2 hg2 hi hz0 hz1 hz2
  go_loopw [11] (fun vi wr => ∃ i : Nat, i ≤ n ∧ vi = .int .i64 i ∧ MvInv w g g2 n a (mvF n 15 a k) i wr) (fun vi _ => n - (intOf vi).toNat)
  case atStart => exact ⟨0, Nat.zero_le _, rfl, HS.out⟩
  case round =>
    obtain ⟨i, hi, rfl, hI⟩ := hrel
    by_cases hlt : i < n
    · have hF := mvF_15 n a k i
      have hfr : ((i : Int) + (k : Int) + (n : Int)) % (n : Int) = ((i + k + n) % n : Nat) := by
        have : (i : Int) + (k : Int) + (n : Int) = ((i + k + n : Nat) : Int) := by omega
        rw [this]; simp
      have hnn : 0 ≤ (i : Int) + (k : Int) + (n : Int) := by omega
      obtain ⟨f, hf⟩ : ∃ f : Nat, f = (i + k + n) % n := ⟨_, rfl⟩
      have hfn : f < n := by rw [hf]; exact Nat.mod_lt _ (by omega)
      rw [← hf] at hfr hF
      clear hf
      have hc := hI.2.2.1 f (by omega)
      obtain ⟨hc2, hf2⟩ := mv_cells hI hlt
      have hnx := mv_next hI
      rw [hF] at hnx
      obtain ⟨c, hce⟩ : ∃ c : Nat, c = btN a f := ⟨_, rfl⟩
      rw [← hce] at hc hnx
      have HX := hid hnx
      clear hnx hI hce hF
      go_wp2
      go_roundw
      case rel => exact ⟨i + 1, by omega, by go_num, HX.out⟩
      case measure => simp [intOf]; omega
    · have hE := mv_end hI (by omega)
      have HOf := hid (of_any n hn1 hn64 _ HF.out wr w.heap.size _ hE.1)
      have HB := hid hE.2
      clear hE hI
      go_wp2_with (go_at_call 229; refine HOf.out.mono ?_; rintro e w' ⟨rfl, rfl⟩)
      go_ret
      exact ⟨rfl, HB.out⟩

theorem moved_any (n : Nat) (hn : Okn n) (op : Nat) (h1 : 11 ≤ op) (h2 : op ≤ 15) (a k : Nat) (ha : a < 2 ^ n) (hk : k < n) (w : World) :
    Calls Tryz.prog 231 #[.int .i64 n, .int .i64 op, .int .u64 a, .int .i64 k] w (MvPost w (shiftR n op a k)) := by
  have hop : op = 11 ∨ op = 12 ∨ op = 13 ∨ op = 14 ∨ op = 15 := by omega
  rcases hop with rfl | rfl | rfl | rfl | rfl
  · exact moved_11 n hn a k ha hk w
  · exact moved_12 n hn a k ha hk w
  · exact moved_13 n hn a k ha hk w
  · exact moved_14 n hn a k ha hk w
  · exact moved_15 n hn a k ha hk w

end Go.Proofs.YtlhakbkdlgejpaaGreatDoor
namespace Go.Proofs.YtlhakbkdlgejpaaGreatDoor
open Go.RowKit

theorem rsize_any (x : Int) (h1 : -9223372036854775808 ≤ x) (h2 : x < 9223372036854775808) (w : World) :
    Calls Tryz.prog 264 #[.int .i64 x] w fun e w' => e = .returned (.int .u64 (x.natAbs : Nat)) ∧ w = w' := by
  by_cases hx : x < 0
  · have hw : IntKind.u64.wrap (-(x + 1)) = ((x.natAbs - 1 : Nat) : Int) := by rw [IntKind.wrap_u64]; omega
    obtain ⟨m, hm⟩ : ∃ m : Nat, m = x.natAbs - 1 := ⟨_, rfl⟩
    have hw2 : IntKind.u64.wrap ((m : Int) + 1) = ((x.natAbs : Nat) : Int) := by rw [IntKind.wrap_u64]; omega
    rw [← hm] at hw
    obtain ⟨r, hr⟩ : ∃ r : Nat, r = x.natAbs := ⟨_, rfl⟩
    rw [← hr] at hw2 ⊢
    clear hm hr
    go_enter Tryz.func264, Tryz.ntmps264
    go_wp2
    go_ret
    exact ⟨rfl, rfl⟩
  · have hw : IntKind.u64.wrap x = ((x.natAbs : Nat) : Int) := by rw [IntKind.wrap_u64]; omega
    obtain ⟨r, hr⟩ : ∃ r : Nat, r = x.natAbs := ⟨_, rfl⟩
    rw [← hr] at hw ⊢
    clear hr
    go_enter Tryz.func264, Tryz.ntmps264
    go_wp2
    go_ret
    exact ⟨rfl, rfl⟩

def clampM (M z : Int) : Int := if z < -M - 1 then -M - 1 else if M < z then M else z

set_option maxHeartbeats 800000 in
theorem within_less (x y M : Int) (h0 : 0 ≤ M) (h1 : M ≤ 9223372036854775807) (hx1 : -M - 1 ≤ x) (hx2 : x ≤ M) (hy1 : -M - 1 ≤ y) (hy2 : y ≤ M) (w : World) :
    Calls Tryz.prog 265 #[.int .i64 x, .int .i64 y, .int .i64 M, .bool true] w fun e w' => e = .returned (.int .i64 (clampM M (x - y))) ∧ w = w' := by
  by_cases hp : 0 < y
  · have hn : ¬ y < 0 := by omega
    by_cases hc : x < -M - 1 + y
    · have e : clampM M (x - y) = -M - 1 := by unfold clampM; rw [if_pos (by omega)]
      rw [e]
      go_enter Tryz.func265, Tryz.ntmps265
      go_wp2
      go_ret
      exact ⟨rfl, rfl⟩
    · have e : clampM M (x - y) = x - y := by unfold clampM; rw [if_neg (by omega), if_neg (by omega)]
      rw [e]
      go_enter Tryz.func265, Tryz.ntmps265
      go_wp2
      go_ret
      exact ⟨rfl, rfl⟩
  · by_cases hn : y < 0
    · by_cases hc : M + y < x
      · have e : clampM M (x - y) = M := by unfold clampM; rw [if_neg (by omega), if_pos (by omega)]
        rw [e]
        go_enter Tryz.func265, Tryz.ntmps265
        go_wp2
        go_ret
        exact ⟨rfl, rfl⟩
      · have e : clampM M (x - y) = x - y := by unfold clampM; rw [if_neg (by omega), if_neg (by omega)]
        rw [e]
        go_enter Tryz.func265, Tryz.ntmps265
        go_wp2
        go_ret
        exact ⟨rfl, rfl⟩
    · have e : clampM M (x - y) = x - y := by unfold clampM; rw [if_neg (by omega), if_neg (by omega)]
      rw [e]
      go_enter Tryz.func265, Tryz.ntmps265
      go_wp2
      go_ret
      exact ⟨rfl, rfl⟩

set_option maxHeartbeats 800000 in
theorem within_more (x y M : Int) (h0 : 0 ≤ M) (h1 : M ≤ 9223372036854775807) (hx1 : -M - 1 ≤ x) (hx2 : x ≤ M) (hy1 : -M - 1 ≤ y) (hy2 : y ≤ M) (w : World) :
    Calls Tryz.prog 265 #[.int .i64 x, .int .i64 y, .int .i64 M, .bool false] w fun e w' => e = .returned (.int .i64 (clampM M (x + y))) ∧ w = w' := by
  by_cases hp : 0 < y
  · have hn : ¬ y < 0 := by omega
    by_cases hc : M - y < x
    · have e : clampM M (x + y) = M := by unfold clampM; rw [if_neg (by omega), if_pos (by omega)]
      rw [e]
      go_enter Tryz.func265, Tryz.ntmps265
      go_wp2
      go_ret
      exact ⟨rfl, rfl⟩
    · have e : clampM M (x + y) = x + y := by unfold clampM; rw [if_neg (by omega), if_neg (by omega)]
      rw [e]
      go_enter Tryz.func265, Tryz.ntmps265
      go_wp2
      go_ret
      exact ⟨rfl, rfl⟩
  · by_cases hn : y < 0
    · by_cases hc : x < -M - 1 - y
      · have e : clampM M (x + y) = -M - 1 := by unfold clampM; rw [if_pos (by omega)]
        rw [e]
        go_enter Tryz.func265, Tryz.ntmps265
        go_wp2
        go_ret
        exact ⟨rfl, rfl⟩
      · have e : clampM M (x + y) = x + y := by unfold clampM; rw [if_neg (by omega), if_neg (by omega)]
        rw [e]
        go_enter Tryz.func265, Tryz.ntmps265
        go_wp2
        go_ret
        exact ⟨rfl, rfl⟩
    · have e : clampM M (x + y) = x + y := by unfold clampM; rw [if_neg (by omega), if_neg (by omega)]
      rw [e]
      go_enter Tryz.func265, Tryz.ntmps265
      go_wp2
      go_ret
      exact ⟨rfl, rfl⟩

end Go.Proofs.YtlhakbkdlgejpaaGreatDoor
namespace Go.Proofs.YtlhakbkdlgejpaaGreatDoor
open Go.RowKit

theorem clampM_eq {n : Nat} (z : Int) : clampM (((2 ^ (n - 1) : Nat) : Int) - 1) z = clampS n z := by
  unfold clampM clampS
  have e : -(((2 ^ (n - 1) : Nat) : Int) - 1) - 1 = -((2 ^ (n - 1) : Nat) : Int) := by omega
  rw [e]

theorem all_ones {n : Nat} (hn : Okn n) : 18446744073709551615 % 2 ^ n = 2 ^ n - 1 ∧ (2 ^ n - 1) / 2 = 2 ^ (n - 1) - 1 := by
  rcases hn with rfl | rfl | rfl | rfl <;> decide

theorem clampS_range {n : Nat} (hn : Okn n) (z : Int) : -9223372036854775808 ≤ clampS n z ∧ clampS n z < 9223372036854775808 := by
  obtain ⟨h1, h2, h3, h4⟩ := pow_lt64 hn
  unfold clampS
  split
  · omega
  · split <;> omega

/-- What held begins with: all ones, and the greatest number with a sign. -/
theorem ones_cut (n : Nat) (hn : Okn n) (W : World) : Calls Tryz.prog 81 #[.int .i64 n, .int .u64 18446744073709551615] W fun e w' => e = .returned (.int .u64 ((2 ^ n - 1 : Nat) : Int)) ∧ W = w' := by
  have := Cut_any n hn 18446744073709551615 (by decide) W
  rw [(all_ones hn).1] at this
  exact this

set_option maxHeartbeats 800000 in
theorem held_sat (n : Nat) (hn : Okn n) (op : Nat) (hop : op = 16 ∨ op = 18) (a b : Nat) (ha : a < 2 ^ n) (hb : b < 2 ^ n) (w : World) :
    Calls Tryz.prog 232 #[.int .i64 n, .int .i64 op, .int .u64 a, .int .u64 b, .int .i64 (sg n a), .int .i64 (sg n b)] w fun e w' => e = .returned (.int .u64 (satR n op a b : Nat)) ∧ w = w' := by
  obtain ⟨h1, h2, h3, h4⟩ := pow_lt64 hn
  have HO := hid (ones_cut n hn)
  have rA := sg_range hn ha
  have rB := sg_range hn hb
  obtain ⟨x, hx⟩ : ∃ x, x = sg n a := ⟨_, rfl⟩
  obtain ⟨y, hy⟩ : ∃ y, y = sg n b := ⟨_, rfl⟩
  obtain ⟨M, hM⟩ : ∃ M : Nat, M = (2 ^ n - 1) / 2 := ⟨_, rfl⟩
  have hM2 := (all_ones hn).2
  rw [← hM] at hM2
  have hMc : (M : Int) = ((2 ^ (n - 1) : Nat) : Int) - 1 := by omega
  obtain ⟨O, hO⟩ : ∃ O : Nat, O = 2 ^ n - 1 := ⟨_, rfl⟩
  rw [← hO] at HO hM
  have hOM : (O : Int) / 2 = (M : Int) := by rw [hM]; simp
  have hM64 : (M : Int) ≤ 9223372036854775807 := by omega
  rw [← hx] at rA
  rw [← hy] at rB
  have hwO := wrap_nat (show M < 18446744073709551616 by omega)
  rcases hop with rfl | rfl
  · have hW := within_more x y M (by omega) hM64 (by omega) (by omega) (by omega) (by omega) w
    rw [hMc, clampM_eq, ← hMc] at hW
    have hr := clampS_range hn (x + y)
    rw [satR, if_pos rfl, ← hx, ← hy]
    obtain ⟨z, hz⟩ : ∃ z, z = clampS n (x + y) := ⟨_, rfl⟩
    rw [← hz] at hW hr ⊢
    have hv := wrap_toN hn z
    obtain ⟨v, hve⟩ : ∃ v : Nat, v = (z % 18446744073709551616).toNat := ⟨_, rfl⟩
    have hvw : IntKind.u64.wrap z = (v : Int) := by rw [IntKind.wrap_u64]; omega
    have hC := Cut_any n hn v (by omega) w
    rw [← hve] at hv
    rw [hv] at hC
    obtain ⟨s, hse⟩ : ∃ s : Nat, s = toN n z := ⟨_, rfl⟩
    rw [← hse] at hC ⊢
    have HC := hid hC
    have HW := hid hW
    clear h1 h2 h3 h4 hn ha hb rA rB hx hy hM hM2 hMc hO hW hr hz hv hve hC hse
    show Calls Tryz.prog 232 #[.int .i64 n, .int .i64 16, .int .u64 a, .int .u64 b, .int .i64 x, .int .i64 y] w _
    go_enter Tryz.func232, Tryz.ntmps232
    go_wp2_with (first
      | (go_at_call 81; ((with_reducible refine (HO.out _).mono ?_); rintro e w' ⟨rfl, rfl⟩))
      | (go_at_call 265; refine HW.out.mono ?_; rintro e w' ⟨rfl, rfl⟩)
      | (go_at_call 81; ((with_reducible refine HC.out.mono ?_); rintro e w' ⟨rfl, rfl⟩)))
    go_ret
    exact ⟨rfl, rfl⟩
  · have hW := within_less x y M (by omega) hM64 (by omega) (by omega) (by omega) (by omega) w
    rw [hMc, clampM_eq, ← hMc] at hW
    have hr := clampS_range hn (x - y)
    rw [satR, if_neg (by decide), if_pos rfl, ← hx, ← hy]
    obtain ⟨z, hz⟩ : ∃ z, z = clampS n (x - y) := ⟨_, rfl⟩
    rw [← hz] at hW hr ⊢
    have hv := wrap_toN hn z
    obtain ⟨v, hve⟩ : ∃ v : Nat, v = (z % 18446744073709551616).toNat := ⟨_, rfl⟩
    have hvw : IntKind.u64.wrap z = (v : Int) := by rw [IntKind.wrap_u64]; omega
    have hC := Cut_any n hn v (by omega) w
    rw [← hve] at hv
    rw [hv] at hC
    obtain ⟨s, hse⟩ : ∃ s : Nat, s = toN n z := ⟨_, rfl⟩
    rw [← hse] at hC ⊢
    have HC := hid hC
    have HW := hid hW
    clear h1 h2 h3 h4 hn ha hb rA rB hx hy hM hM2 hMc hO hW hr hz hv hve hC hse
    show Calls Tryz.prog 232 #[.int .i64 n, .int .i64 18, .int .u64 a, .int .u64 b, .int .i64 x, .int .i64 y] w _
    go_enter Tryz.func232, Tryz.ntmps232
    go_wp2_with (first
      | (go_at_call 81; ((with_reducible refine (HO.out _).mono ?_); rintro e w' ⟨rfl, rfl⟩))
      | (go_at_call 265; refine HW.out.mono ?_; rintro e w' ⟨rfl, rfl⟩)
      | (go_at_call 81; ((with_reducible refine HC.out.mono ?_); rintro e w' ⟨rfl, rfl⟩)))
    go_ret
    exact ⟨rfl, rfl⟩





set_option maxHeartbeats 800000 in
theorem held_17 (n : Nat) (hn : Okn n) (a b : Nat) (ha : a < 2 ^ n) (hb : b < 2 ^ n) (w : World) :
    Calls Tryz.prog 232 #[.int .i64 n, .int .i64 17, .int .u64 a, .int .u64 b, .int .i64 (sg n a), .int .i64 (sg n b)] w fun e w' => e = .returned (.int .u64 (satR n 17 a b : Nat)) ∧ w = w' := by
  obtain ⟨h1, h2, h3, h4⟩ := pow_lt64 hn
  have HO := hid (ones_cut n hn)
  obtain ⟨x, hx⟩ : ∃ x, x = sg n a := ⟨_, rfl⟩
  obtain ⟨y, hy⟩ : ∃ y, y = sg n b := ⟨_, rfl⟩
  obtain ⟨M, hM⟩ : ∃ M : Nat, M = (2 ^ n - 1) / 2 := ⟨_, rfl⟩
  have hM2 := (all_ones hn).2
  rw [← hM] at hM2
  obtain ⟨O, hO⟩ : ∃ O : Nat, O = 2 ^ n - 1 := ⟨_, rfl⟩
  rw [← hO] at HO hM
  have hOM : (O : Int) / 2 = (M : Int) := by rw [hM]; simp
  have hM64 : (M : Int) ≤ 9223372036854775807 := by omega
  have hwO := wrap_nat (show M < 18446744073709551616 by omega)
  rw [satR, if_neg (by decide), if_neg (by decide), if_pos rfl, ← hO, ← hx, ← hy]
  have hw : IntKind.u64.wrap ((O : Int) - (b : Int)) = ((O - b : Nat) : Int) := by rw [IntKind.wrap_u64]; omega
  obtain ⟨d, hd⟩ : ∃ d : Nat, d = O - b := ⟨_, rfl⟩
  rw [← hd] at hw
  by_cases hc : d < a
  · rw [if_pos (by omega)]
    have hd2 : decide (d < a) = true := decide_eq_true hc
    clear h1 h2 h3 h4 hn ha hb hx hy hM hM2 hO hd
    go_enter Tryz.func232, Tryz.ntmps232
    go_wp2_with (go_at_call 81; ((with_reducible refine (HO.out _).mono ?_); rintro e w' ⟨rfl, rfl⟩))
    go_ret
    exact ⟨rfl, rfl⟩
  · rw [if_neg (by omega)]
    have hd2 : decide (d < a) = false := decide_eq_false hc
    have hw2 : IntKind.u64.wrap ((a : Int) + (b : Int)) = ((a + b : Nat) : Int) := by rw [IntKind.wrap_u64]; omega
    clear h1 h2 h3 h4 hn ha hb hx hy hM hM2 hO hd
    go_enter Tryz.func232, Tryz.ntmps232
    go_wp2_with (go_at_call 81; ((with_reducible refine (HO.out _).mono ?_); rintro e w' ⟨rfl, rfl⟩))
    go_ret
    exact ⟨rfl, rfl⟩

set_option maxHeartbeats 800000 in
theorem held_19 (n : Nat) (hn : Okn n) (a b : Nat) (ha : a < 2 ^ n) (hb : b < 2 ^ n) (w : World) :
    Calls Tryz.prog 232 #[.int .i64 n, .int .i64 19, .int .u64 a, .int .u64 b, .int .i64 (sg n a), .int .i64 (sg n b)] w fun e w' => e = .returned (.int .u64 (satR n 19 a b : Nat)) ∧ w = w' := by
  obtain ⟨h1, h2, h3, h4⟩ := pow_lt64 hn
  have HO := hid (ones_cut n hn)
  obtain ⟨x, hx⟩ : ∃ x, x = sg n a := ⟨_, rfl⟩
  obtain ⟨y, hy⟩ : ∃ y, y = sg n b := ⟨_, rfl⟩
  obtain ⟨M, hM⟩ : ∃ M : Nat, M = (2 ^ n - 1) / 2 := ⟨_, rfl⟩
  have hM2 := (all_ones hn).2
  rw [← hM] at hM2
  obtain ⟨O, hO⟩ : ∃ O : Nat, O = 2 ^ n - 1 := ⟨_, rfl⟩
  rw [← hO] at HO hM
  have hOM : (O : Int) / 2 = (M : Int) := by rw [hM]; simp
  have hM64 : (M : Int) ≤ 9223372036854775807 := by omega
  have hwO := wrap_nat (show M < 18446744073709551616 by omega)
  rw [satR, if_neg (by decide), if_neg (by decide), if_neg (by decide), ← hx, ← hy]
  by_cases hc : a < b
  · have hd2 : decide (a < b) = true := decide_eq_true hc
    have e : a - b = 0 := by omega
    rw [e]
    clear h1 h2 h3 h4 hn ha hb hx hy hM hM2 hO e
    go_enter Tryz.func232, Tryz.ntmps232
    go_wp2_with (go_at_call 81; ((with_reducible refine (HO.out _).mono ?_); rintro e w' ⟨rfl, rfl⟩))
    go_ret
    exact ⟨rfl, rfl⟩
  · have hd2 : decide (a < b) = false := decide_eq_false hc
    have hw2 : IntKind.u64.wrap ((a : Int) - (b : Int)) = ((a - b : Nat) : Int) := by rw [IntKind.wrap_u64]; omega
    clear h1 h2 h3 h4 hn ha hb hx hy hM hM2 hO
    go_enter Tryz.func232, Tryz.ntmps232
    go_wp2_with (go_at_call 81; ((with_reducible refine (HO.out _).mono ?_); rintro e w' ⟨rfl, rfl⟩))
    go_ret
    exact ⟨rfl, rfl⟩

set_option maxHeartbeats 800000 in
theorem held_20 (n : Nat) (hn : Okn n) (a b : Nat) (ha : a < 2 ^ n) (hb : b < 2 ^ n) (w : World) :
    Calls Tryz.prog 232 #[.int .i64 n, .int .i64 20, .int .u64 a, .int .u64 b, .int .i64 (sg n a), .int .i64 (sg n b)] w fun e w' => e = .returned (.int .u64 (mmR n 20 a b : Nat)) ∧ w = w' := by
  obtain ⟨h1, h2, h3, h4⟩ := pow_lt64 hn
  have HO := hid (ones_cut n hn)
  obtain ⟨x, hx⟩ : ∃ x, x = sg n a := ⟨_, rfl⟩
  obtain ⟨y, hy⟩ : ∃ y, y = sg n b := ⟨_, rfl⟩
  obtain ⟨M, hM⟩ : ∃ M : Nat, M = (2 ^ n - 1) / 2 := ⟨_, rfl⟩
  have hM2 := (all_ones hn).2
  rw [← hM] at hM2
  obtain ⟨O, hO⟩ : ∃ O : Nat, O = 2 ^ n - 1 := ⟨_, rfl⟩
  rw [← hO] at HO hM
  have hOM : (O : Int) / 2 = (M : Int) := by rw [hM]; simp
  have hM64 : (M : Int) ≤ 9223372036854775807 := by omega
  have hwO := wrap_nat (show M < 18446744073709551616 by omega)
  rw [mmR, if_pos rfl, ← hx, ← hy]
  by_cases hc : x < y
  · rw [if_pos hc]
    have hd2 : decide (x < y) = true := decide_eq_true hc
    clear h1 h2 h3 h4 hn ha hb hx hy hM hM2 hO hc
    go_enter Tryz.func232, Tryz.ntmps232
    go_wp2_with (go_at_call 81; ((with_reducible refine (HO.out _).mono ?_); rintro e w' ⟨rfl, rfl⟩))
    go_ret
    exact ⟨rfl, rfl⟩
  · rw [if_neg hc]
    have hd2 : decide (x < y) = false := decide_eq_false hc
    clear h1 h2 h3 h4 hn ha hb hx hy hM hM2 hO hc
    go_enter Tryz.func232, Tryz.ntmps232
    go_wp2_with (go_at_call 81; ((with_reducible refine (HO.out _).mono ?_); rintro e w' ⟨rfl, rfl⟩))
    go_ret
    exact ⟨rfl, rfl⟩

set_option maxHeartbeats 800000 in
theorem held_22 (n : Nat) (hn : Okn n) (a b : Nat) (ha : a < 2 ^ n) (hb : b < 2 ^ n) (w : World) :
    Calls Tryz.prog 232 #[.int .i64 n, .int .i64 22, .int .u64 a, .int .u64 b, .int .i64 (sg n a), .int .i64 (sg n b)] w fun e w' => e = .returned (.int .u64 (mmR n 22 a b : Nat)) ∧ w = w' := by
  obtain ⟨h1, h2, h3, h4⟩ := pow_lt64 hn
  have HO := hid (ones_cut n hn)
  obtain ⟨x, hx⟩ : ∃ x, x = sg n a := ⟨_, rfl⟩
  obtain ⟨y, hy⟩ : ∃ y, y = sg n b := ⟨_, rfl⟩
  obtain ⟨M, hM⟩ : ∃ M : Nat, M = (2 ^ n - 1) / 2 := ⟨_, rfl⟩
  have hM2 := (all_ones hn).2
  rw [← hM] at hM2
  obtain ⟨O, hO⟩ : ∃ O : Nat, O = 2 ^ n - 1 := ⟨_, rfl⟩
  rw [← hO] at HO hM
  have hOM : (O : Int) / 2 = (M : Int) := by rw [hM]; simp
  have hM64 : (M : Int) ≤ 9223372036854775807 := by omega
  have hwO := wrap_nat (show M < 18446744073709551616 by omega)
  rw [mmR, if_neg (by decide), if_pos rfl, ← hx, ← hy]
  by_cases hc : x < y
  · rw [if_pos hc]
    have hd2 : decide (x < y) = true := decide_eq_true hc
    clear h1 h2 h3 h4 hn ha hb hx hy hM hM2 hO hc
    go_enter Tryz.func232, Tryz.ntmps232
    go_wp2_with (go_at_call 81; ((with_reducible refine (HO.out _).mono ?_); rintro e w' ⟨rfl, rfl⟩))
    go_ret
    exact ⟨rfl, rfl⟩
  · rw [if_neg hc]
    have hd2 : decide (x < y) = false := decide_eq_false hc
    clear h1 h2 h3 h4 hn ha hb hx hy hM hM2 hO hc
    go_enter Tryz.func232, Tryz.ntmps232
    go_wp2_with (go_at_call 81; ((with_reducible refine (HO.out _).mono ?_); rintro e w' ⟨rfl, rfl⟩))
    go_ret
    exact ⟨rfl, rfl⟩

set_option maxHeartbeats 800000 in
theorem held_21 (n : Nat) (hn : Okn n) (a b : Nat) (ha : a < 2 ^ n) (hb : b < 2 ^ n) (w : World) :
    Calls Tryz.prog 232 #[.int .i64 n, .int .i64 21, .int .u64 a, .int .u64 b, .int .i64 (sg n a), .int .i64 (sg n b)] w fun e w' => e = .returned (.int .u64 (mmR n 21 a b : Nat)) ∧ w = w' := by
  obtain ⟨h1, h2, h3, h4⟩ := pow_lt64 hn
  have HO := hid (ones_cut n hn)
  obtain ⟨x, hx⟩ : ∃ x, x = sg n a := ⟨_, rfl⟩
  obtain ⟨y, hy⟩ : ∃ y, y = sg n b := ⟨_, rfl⟩
  obtain ⟨M, hM⟩ : ∃ M : Nat, M = (2 ^ n - 1) / 2 := ⟨_, rfl⟩
  have hM2 := (all_ones hn).2
  rw [← hM] at hM2
  obtain ⟨O, hO⟩ : ∃ O : Nat, O = 2 ^ n - 1 := ⟨_, rfl⟩
  rw [← hO] at HO hM
  have hOM : (O : Int) / 2 = (M : Int) := by rw [hM]; simp
  have hM64 : (M : Int) ≤ 9223372036854775807 := by omega
  have hwO := wrap_nat (show M < 18446744073709551616 by omega)
  rw [mmR, if_neg (by decide), if_neg (by decide), if_pos rfl, ← hx, ← hy]
  by_cases hc : a < b
  · rw [if_pos hc]
    have hd2 : decide (a < b) = true := decide_eq_true hc
    clear h1 h2 h3 h4 hn ha hb hx hy hM hM2 hO hc
    go_enter Tryz.func232, Tryz.ntmps232
    go_wp2_with (go_at_call 81; ((with_reducible refine (HO.out _).mono ?_); rintro e w' ⟨rfl, rfl⟩))
    go_ret
    exact ⟨rfl, rfl⟩
  · rw [if_neg hc]
    have hd2 : decide (a < b) = false := decide_eq_false hc
    clear h1 h2 h3 h4 hn ha hb hx hy hM hM2 hO hc
    go_enter Tryz.func232, Tryz.ntmps232
    go_wp2_with (go_at_call 81; ((with_reducible refine (HO.out _).mono ?_); rintro e w' ⟨rfl, rfl⟩))
    go_ret
    exact ⟨rfl, rfl⟩

set_option maxHeartbeats 800000 in
theorem held_23 (n : Nat) (hn : Okn n) (a b : Nat) (ha : a < 2 ^ n) (hb : b < 2 ^ n) (w : World) :
    Calls Tryz.prog 232 #[.int .i64 n, .int .i64 23, .int .u64 a, .int .u64 b, .int .i64 (sg n a), .int .i64 (sg n b)] w fun e w' => e = .returned (.int .u64 (mmR n 23 a b : Nat)) ∧ w = w' := by
  obtain ⟨h1, h2, h3, h4⟩ := pow_lt64 hn
  have HO := hid (ones_cut n hn)
  obtain ⟨x, hx⟩ : ∃ x, x = sg n a := ⟨_, rfl⟩
  obtain ⟨y, hy⟩ : ∃ y, y = sg n b := ⟨_, rfl⟩
  obtain ⟨M, hM⟩ : ∃ M : Nat, M = (2 ^ n - 1) / 2 := ⟨_, rfl⟩
  have hM2 := (all_ones hn).2
  rw [← hM] at hM2
  obtain ⟨O, hO⟩ : ∃ O : Nat, O = 2 ^ n - 1 := ⟨_, rfl⟩
  rw [← hO] at HO hM
  have hOM : (O : Int) / 2 = (M : Int) := by rw [hM]; simp
  have hM64 : (M : Int) ≤ 9223372036854775807 := by omega
  have hwO := wrap_nat (show M < 18446744073709551616 by omega)
  rw [mmR, if_neg (by decide), if_neg (by decide), if_neg (by decide), ← hx, ← hy]
  by_cases hc : a < b
  · rw [if_pos hc]
    have hd2 : decide (a < b) = true := decide_eq_true hc
    clear h1 h2 h3 h4 hn ha hb hx hy hM hM2 hO hc
    go_enter Tryz.func232, Tryz.ntmps232
    go_wp2_with (go_at_call 81; ((with_reducible refine (HO.out _).mono ?_); rintro e w' ⟨rfl, rfl⟩))
    go_ret
    exact ⟨rfl, rfl⟩
  · rw [if_neg hc]
    have hd2 : decide (a < b) = false := decide_eq_false hc
    clear h1 h2 h3 h4 hn ha hb hx hy hM hM2 hO hc
    go_enter Tryz.func232, Tryz.ntmps232
    go_wp2_with (go_at_call 81; ((with_reducible refine (HO.out _).mono ?_); rintro e w' ⟨rfl, rfl⟩))
    go_ret
    exact ⟨rfl, rfl⟩

set_option maxHeartbeats 800000 in
theorem held_24 (n : Nat) (hn : Okn n) (a b : Nat) (ha : a < 2 ^ n) (hb : b < 2 ^ n) (w : World) :
    Calls Tryz.prog 232 #[.int .i64 n, .int .i64 24, .int .u64 a, .int .u64 b, .int .i64 (sg n a), .int .i64 (sg n b)] w fun e w' => e = .returned (.int .u64 (((a + b + 1) / 2) : Nat)) ∧ w = w' := by
  obtain ⟨h1, h2, h3, h4⟩ := pow_lt64 hn
  have HO := hid (ones_cut n hn)
  obtain ⟨x, hx⟩ : ∃ x, x = sg n a := ⟨_, rfl⟩
  obtain ⟨y, hy⟩ : ∃ y, y = sg n b := ⟨_, rfl⟩
  obtain ⟨M, hM⟩ : ∃ M : Nat, M = (2 ^ n - 1) / 2 := ⟨_, rfl⟩
  have hM2 := (all_ones hn).2
  rw [← hM] at hM2
  obtain ⟨O, hO⟩ : ∃ O : Nat, O = 2 ^ n - 1 := ⟨_, rfl⟩
  rw [← hO] at HO hM
  have hOM : (O : Int) / 2 = (M : Int) := by rw [hM]; simp
  have hM64 : (M : Int) ≤ 9223372036854775807 := by omega
  have hwO := wrap_nat (show M < 18446744073709551616 by omega)
  rw [← hx, ← hy]
  have ha64 : (a : Int) < 18446744073709551616 := by omega
  have hb64 : (b : Int) < 18446744073709551616 := by omega
  have hr := hid (show (a : Int) / 2 + (b : Int) / 2 + ((a : Int) % 2 + (b : Int) % 2 + 1) / 2 = (((a + b + 1) / 2 : Nat) : Int) by omega)
  have hr2 := hid (show (((a + b + 1) / 2 : Nat) : Int) < 18446744073709551616 by omega)
  clear h1 h2 h3 h4 hn ha hb hx hy hM hM2 hO
  go_enter Tryz.func232, Tryz.ntmps232
  go_wp2_with (go_at_call 81; ((with_reducible refine (HO.out _).mono ?_); rintro e w' ⟨rfl, rfl⟩))
  go_ret
  refine ⟨ret_int ?_, rfl⟩
  have h1 := hr.out
  have h2 := hr2.out
  first
    | exact h1
    | (simp only [IntKind.wrap_u64]; omega)

theorem frac_parts (p : Int) : ∃ T R : Int, p.tdiv 32768 = T ∧ p.tmod 32768 = R ∧ (R < 0 → p / 32768 = T - 1) ∧ (0 ≤ R → p / 32768 = T) := by
  refine ⟨_, _, rfl, rfl, ?_, ?_⟩
  · intro h
    have e1 := Int.mul_tdiv_add_tmod p 32768
    have e2 : -32768 < p.tmod 32768 := by
      have := Int.lt_tmod_of_pos p (show (0 : Int) < 32768 by decide)
      omega
    generalize p.tdiv 32768 = T at *
    generalize p.tmod 32768 = R at *
    omega
  · intro h
    have e1 := Int.mul_tdiv_add_tmod p 32768
    have e2 : p.tmod 32768 < 32768 := Int.tmod_lt_of_pos p (by decide)
    generalize p.tdiv 32768 = T at *
    generalize p.tmod 32768 = R at *
    omega

set_option maxHeartbeats 1600000 in
theorem held_25 (a b : Nat) (ha : a < 2 ^ 16) (hb : b < 2 ^ 16) (w : World) :
    Calls Tryz.prog 232 #[.int .i64 16, .int .i64 25, .int .u64 a, .int .u64 b, .int .i64 (sg 16 a), .int .i64 (sg 16 b)] w fun e w' => e = .returned (.int .u64 (toN 16 (clampS 16 ((sg 16 a * sg 16 b + 16384) / 32768)) : Nat)) ∧ w = w' := by
  have hn : Okn 16 := .inr (.inl rfl)
  obtain ⟨O, hO⟩ : ∃ O : Nat, O = 2 ^ 16 - 1 := ⟨_, rfl⟩
  obtain ⟨M, hM⟩ : ∃ M : Nat, M = 32767 := ⟨_, rfl⟩
  have HO : Hid (∀ W : World, Calls Tryz.prog 81 #[.int .i64 16, .int .u64 18446744073709551615] W fun e w' => e = .returned (.int .u64 (O : Int)) ∧ W = w') := fun W => by
    rw [hO]
    exact ones_cut 16 hn W
  have hOM : (O : Int) / 2 = (M : Int) := by rw [hO, hM]; rfl
  have hwO := wrap_nat (show M < 18446744073709551616 by omega)
  have hrA := sg_range hn ha
  have hrB := sg_range hn hb
  obtain ⟨x, hx⟩ : ∃ x, x = sg 16 a := ⟨_, rfl⟩
  obtain ⟨y, hy⟩ : ∃ y, y = sg 16 b := ⟨_, rfl⟩
  rw [← hx] at hrA
  rw [← hy] at hrB
  rw [← hx, ← hy]
  have hm := mul_range (A := x) (B := y) (by simpa using hrA.1) (by have := hrA.2; simp at this; omega) (by simpa using hrB.1) (by have := hrB.2; simp at this; omega)
  obtain ⟨P, hP⟩ : ∃ P, P = x * y := ⟨_, rfl⟩
  rw [← hP] at hm ⊢
  have hw1 : wrap64 (x * y) = P := by rw [← hP]; unfold wrap64; omega
  obtain ⟨p, hp⟩ : ∃ p, p = P + 16384 := ⟨_, rfl⟩
  have hw2 : wrap64 (P + 16384) = p := by rw [hp]; unfold wrap64; omega
  have hw3 : P + 16384 = p := hp.symm
  rw [← hp]
  obtain ⟨T, R, hT, hR, hd1, hd2⟩ := frac_parts p
  obtain ⟨F, hF⟩ : ∃ F, F = p / 32768 := ⟨_, rfl⟩
  rw [← hF] at hd1 hd2 ⊢
  have hFr : -32768 ≤ F ∧ F ≤ 32768 := by omega
  have hcl : clampS 16 F = if 32767 < F then 32767 else F := by
    unfold clampS
    simp only [Nat.reduceSub, Nat.reducePow]
    split
    · omega
    · split <;> split <;> omega
  rw [hcl]
  obtain ⟨z, hz⟩ : ∃ z, z = if 32767 < F then 32767 else F := ⟨_, rfl⟩
  rw [← hz]
  have hv := wrap_toN hn z
  obtain ⟨v, hve⟩ : ∃ v : Nat, v = (z % 18446744073709551616).toNat := ⟨_, rfl⟩
  have hvw : IntKind.u64.wrap z = (v : Int) := by rw [IntKind.wrap_u64]; omega
  have hC : Calls Tryz.prog 81 #[.int .i64 16, .int .u64 v] w _ := Cut_any 16 hn v (by omega) w
  rw [← hve] at hv
  rw [hv] at hC
  obtain ⟨s, hse⟩ : ∃ s : Nat, s = toN 16 z := ⟨_, rfl⟩
  rw [← hse] at hC ⊢
  have HC := hid hC
  have HZ : Hid ((32767 < F → z = 32767) ∧ (¬ 32767 < F → z = F)) := ⟨fun h => by rw [hz, if_pos h], fun h => by rw [hz, if_neg h]⟩
  have HD := hid (And.intro hd1 hd2)
  have HV := hid hve
  have HF := hid (And.intro hm (And.intro hp hF))
  clear ha hb hn hO hrA hrB hx hy hcl hv hve hC hse hz hd1 hd2
  obtain ⟨hd1, hd2⟩ := HD.out
  have hMv : (M : Int) = 32767 := by omega
  have hwp : wrap64 p = p := by unfold wrap64; omega
  have hwM : wrap64 (M : Int) = (M : Int) := by unfold wrap64; omega
  have hwF : wrap64 F = F := by unfold wrap64; omega
  clear hm hp hF hP
  by_cases hneg : R < 0
  · have e := hd1 hneg
    have hn1 : decide (R < 0) = true := decide_eq_true hneg
    have hTF : wrap64 (T - 1) = F := by unfold wrap64; omega
    have hwT : wrap64 T = T := by unfold wrap64; omega
    have hTF2 : T - 1 = F := by omega
    by_cases hov : 32767 < F
    · have e3 := HZ.out.1 hov
      have hn2 : decide ((M : Int) < F) = true := by rw [hMv]; exact decide_eq_true hov
      obtain rfl : M = v := by have := HV.out; omega
      clear hd1 hd2 hneg hov e3 hvw hMv hM e hFr HD HZ hTF2 HF HV
      go_enter Tryz.func232, Tryz.ntmps232
      go_wp2_with (first
        | (go_at_call 81; ((with_reducible refine (HO.out _).mono ?_); rintro e w' ⟨rfl, rfl⟩))
        | (go_at_call 81; ((with_reducible refine HC.out.mono ?_); rintro e w' ⟨rfl, rfl⟩)))
      go_ret
      exact ⟨rfl, rfl⟩
    · have e3 := HZ.out.2 hov
      have hn2 : decide ((M : Int) < F) = false := by rw [hMv]; exact decide_eq_false hov
      rw [e3] at hvw
      clear hd1 hd2 hneg hov e3 hMv hM e hFr HD HZ hTF2 HF HV
      go_enter Tryz.func232, Tryz.ntmps232
      go_wp2_with (first
        | (go_at_call 81; ((with_reducible refine (HO.out _).mono ?_); rintro e w' ⟨rfl, rfl⟩))
        | (go_at_call 81; ((with_reducible refine HC.out.mono ?_); rintro e w' ⟨rfl, rfl⟩)))
      go_ret
      exact ⟨rfl, rfl⟩
  · have e := hd2 (by omega)
    have hn1 : decide (R < 0) = false := decide_eq_false hneg
    obtain rfl : F = T := e
    by_cases hov : 32767 < F
    · have e3 := HZ.out.1 hov
      have hn2 : decide ((M : Int) < F) = true := by rw [hMv]; exact decide_eq_true hov
      obtain rfl : M = v := by have := HV.out; omega
      clear hd1 hd2 hneg hov e3 hvw hMv hM hFr HD HZ HF HV
      go_enter Tryz.func232, Tryz.ntmps232
      go_wp2_with (first
        | (go_at_call 81; ((with_reducible refine (HO.out _).mono ?_); rintro e w' ⟨rfl, rfl⟩))
        | (go_at_call 81; ((with_reducible refine HC.out.mono ?_); rintro e w' ⟨rfl, rfl⟩)))
      go_ret
      exact ⟨rfl, rfl⟩
    · have e3 := HZ.out.2 hov
      have hn2 : decide ((M : Int) < F) = false := by rw [hMv]; exact decide_eq_false hov
      rw [e3] at hvw
      clear hd1 hd2 hneg hov e3 hMv hM hFr HD HZ HF HV
      go_enter Tryz.func232, Tryz.ntmps232
      go_wp2_with (first
        | (go_at_call 81; ((with_reducible refine (HO.out _).mono ?_); rintro e w' ⟨rfl, rfl⟩))
        | (go_at_call 81; ((with_reducible refine HC.out.mono ?_); rintro e w' ⟨rfl, rfl⟩)))
      go_ret
      exact ⟨rfl, rfl⟩

end Go.Proofs.YtlhakbkdlgejpaaGreatDoor
