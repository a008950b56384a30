/-
  RefMove, LEach, LArg: merged, what the law does not reach left out (each text says what it holds where it lies in wip). No condition.
-/
import Derived.Test.YtlhakbkdlgejpaaGreatDoorK08
import Derived.Deep.DeepCutAuto
import Derived.Deep.RegionHeld3
set_option linter.unusedSimpArgs false
set_option linter.unusedVariables false
set_option maxRecDepth 100000
namespace Go.Proofs.YtlhakbkdlgejpaaGreatDoor
open Go.RowKit
theorem ownsRow_mono {w : World} {base base' : Nat} {e : TypeId} {size : Nat} {v : Value} {n : Nat} {xs : List Value} (h : w.ownsRow base e size v n xs) (hb : base' ≤ base) : w.ownsRow base' e size v n xs := by
  refine ⟨h.1, ?_⟩
  rcases h.2 with h | ⟨g, cap, cur, h1, h2, h3⟩
  · exact .inl h
  · exact .inr ⟨g, cap, cur, h1, by omega, h3⟩
/-- Behind i rounds: the number's bits as they were, i bits of the result. -/
def MvInv (w : World) (g g2 n a : Nat) (F : Nat → Nat) (i : Nat) (wr : World) : Prop :=
  g < g2 ∧ w.heap.size ≤ g2 ∧ (∀ j, j < n → wr.cell? ⟨g, j, none⟩ = some (.int .u64 (btN a j : Nat))) ∧
    wr.ownsRow w.heap.size 22 1 (.slice (some ⟨g2, 0, none⟩) n n) n (fc n (fun j => if j < i then F j else 0)) ∧ Below w.heap.size w wr
theorem mv_start {w w1 w2 : World} {g cap n a : Nat} {F : Nat → Nat} (hown1 : w1.ownsRow w.heap.size 22 1 (.slice (some ⟨g, 0, none⟩) n cap) n (fc n (btN a))) (hB1 : Below w.heap.size w w1)
    (hown2 : w2.ownsRow w1.heap.size 22 1 (.slice (some ⟨w1.heap.size, 0, none⟩) n n) n (madeCells (Value.int .u64 0).cells (n * 1)).toList) (hg2 : w1.grownBy w2 none) : MvInv w g w1.heap.size n a F 0 w2 := by
  have hlt := (hown1.lt g rfl).2
  have hsz := hB1.size
  refine ⟨hlt, hsz, fun j hj => ?_, ?_, ?_⟩
  · rw [World.cell?_of_block (hg2.block g hlt (by simp)), hown1.cellAt j (by omega), fc_get hj]
  · have e : (madeCells (Value.int .u64 0).cells (n * 1)).toList = fc n (fun j => if j < 0 then F j else 0) := by
      rw [Nat.mul_one, show (Value.int .u64 0).cells = #[Value.int .u64 0] from rfl, toList_madeCells_one]
      apply List.ext_getElem?
      intro j
      by_cases hj : j < n
      · rw [fc_get hj]; simp [hj]
      · simp [fc, hj]
    rw [e] at hown2
    exact ownsRow_mono hown2 hsz
  · exact hB1.grown hg2 hsz (by simp)
theorem mv_next {w wr : World} {g g2 n a i : Nat} {F : Nat → Nat} (h : MvInv w g g2 n a F i wr) : MvInv w g g2 n a F (i + 1) (wr.setCell ⟨g2, i, none⟩ (.int .u64 (F i : Nat))) := by
  obtain ⟨h1, h2, h3, h4, h5⟩ := h
  refine ⟨h1, h2, fun j hj => ?_, ?_, h5.setCell (p := ⟨g2, i, none⟩) h2 _⟩
  · rw [World.cell?_setCell_other wr ⟨g2, i, none⟩ ⟨g, j, none⟩ _ (fun e => by injection e with e1; omega)]
    exact h3 j hj
  · have := (h4.stored i (.int .u64 (F i : Nat))).1
    rw [fc_set] at this
    rw [fc_congr (g := fun j => if j = i then F i else if j < i then F j else 0) (fun j _ => by
      by_cases hji : j = i
      · subst hji; simp
      · by_cases hlt : j < i
        · simp [hji, hlt, show j < i + 1 by omega]
        · simp [hji, hlt, show ¬ j < i + 1 by omega])]
    exact this
theorem mv_skip {w wr : World} {g g2 n a i : Nat} {F : Nat → Nat} (h : MvInv w g g2 n a F i wr) (hF : F i = 0) : MvInv w g g2 n a F (i + 1) wr := by
  obtain ⟨h1, h2, h3, h4, h5⟩ := h
  refine ⟨h1, h2, h3, ?_, h5⟩
  rw [fc_congr (g := fun j => if j < i then F j else 0) (fun j _ => by
    by_cases hji : j = i
    · subst hji; simp [hF]
    · by_cases hlt : j < i
      · simp [hlt, show j < i + 1 by omega]
      · simp [hlt, show ¬ j < i + 1 by omega])]
  exact h4
theorem mv_cells {w wr : World} {g g2 n a i : Nat} {F : Nat → Nat} (h : MvInv w g g2 n a F i wr) (hi : i < n) : wr.cell? ⟨g2, i, none⟩ = some (.int .u64 0) ∧ wr.frozen? ⟨g2, i, none⟩ = false := by
  obtain ⟨h1, h2, h3, h4, h5⟩ := h
  refine ⟨?_, h4.frozenAt i⟩
  rw [h4.cellAt i (by omega), fc_get hi]
  simp
theorem mv_end {w wr : World} {g g2 n a i : Nat} {F : Nat → Nat} (h : MvInv w g g2 n a F i wr) (hi : n ≤ i) : wr.ownsRow w.heap.size 22 1 (.slice (some ⟨g2, 0, none⟩) n n) n (fc n F) ∧ Below w.heap.size w wr := by
  obtain ⟨h1, h2, h3, h4, h5⟩ := h
  refine ⟨?_, h5⟩
  rw [fc_congr (g := fun j => if j < i then F j else 0) (fun j hj => by simp [show j < i by omega])]
  exact h4
def MvPost (w : World) (s : Nat) (e : Ending) (w' : World) : Prop := e = .returned (.int .u64 (s : Nat)) ∧ Below w.heap.size w w'
theorem mvF_11 (n a k j : Nat) : mvF n 11 a k j = if k ≤ j then btN a (j - k) else 0 := by rw [mvF, if_pos rfl]
set_option maxHeartbeats 1600000 in
theorem moved_11 (n : Nat) (hn : Okn n) (a k : Nat) (ha : a < 2 ^ n) (hk : k < n) (w : World) :
    Calls Tryz.prog 231 #[.int .i64 n, .int .i64 11, .int .u64 a, .int .i64 k] w (MvPost w (shiftR n 11 a k)) := by
  obtain ⟨h1, h2, h3, h4⟩ := pow_lt64 hn
  have hn8 := hn.le
  obtain ⟨i0, hi, hz0, hz1, hz2⟩ := info_parts info22
  have HL := hid (list_any n hn8.2 a (by omega) w)
  rw [← move_bits hn (by decide) (by decide) ha hk]
  have HF : Hid (∀ j, mvF n 11 a k j ≤ 1) := fun j => mvF_le n 11 a k j
  have hn1 : 1 ≤ n := by omega
  have hn64 : n ≤ 64 := hn8.2
  have hn0 : 0 < (n : Int) := by omega
  clear h1 h2 h3 h4 hn ha hn8
  go_enter Tryz.func231, Tryz.ntmps231
  go_wp2_with (first
    | (go_at_call 228; refine HL.out.mono ?_; rintro e w1 ⟨v1, rfl, hown1, hB1⟩)
    | (at_make; refine wpList_make_full _ rfl _ _ 40 rfl w1.heap.size 22 i0 (.int .u64 0) 1 Tryz.underlying40 hi hz0 hz1 .i64 .i64 _ _ n rfl rfl rfl rfl (by rw [hz2]; omega) (by unfold maxLen; omega) (Nat.le_refl _) ?_; intro w2 hown2 hgrow2))
  obtain ⟨g, cap, rfl⟩ := owned_at hown1 hn1
  have HS := hid (mv_start (F := mvF n 11 a k) hown1 hB1 hown2 hgrow2)
  have hcap : n ≤ cap := by
    rcases hown1.2 with ⟨h, _⟩ | ⟨g', cap', cur, h, _, _, hnc, _⟩
    · simp at h
    · injection h with h1 h2 h3
      omega
  obtain ⟨g2, hg2⟩ : ∃ g2 : Nat, g2 = w1.heap.size := ⟨_, rfl⟩
  rw [← hg2] at HS ⊢
  clear hown1 hB1 hown2 hgrow2 hg2 hi hz0 hz1 hz2
  go_loopw [11] (fun vi wr => ∃ i : Nat, i ≤ n ∧ vi = .int .i64 i ∧ MvInv w g g2 n a (mvF n 11 a k) i wr) (fun vi _ => n - (intOf vi).toNat)
  case atStart => exact ⟨0, Nat.zero_le _, rfl, HS.out⟩
  case round =>
    obtain ⟨i, hi, rfl, hI⟩ := hrel
    by_cases hlt : i < n
    · have hF := mvF_11 n a k i
      by_cases hki : k ≤ i
      · rw [if_pos hki] at hF
        have hfr : (i : Int) - (k : Int) = ((i - k : Nat) : Int) := by omega
        obtain ⟨f, hf⟩ : ∃ f : Nat, f = i - k := ⟨_, rfl⟩
        rw [← hf] at hfr hF
        have hfn : f < n := by omega
        clear hf
        have hc := hI.2.2.1 f (by omega)
        obtain ⟨hc2, hf2⟩ := mv_cells hI hlt
        have hnx := mv_next hI
        rw [hF] at hnx
        obtain ⟨c, hce⟩ : ∃ c : Nat, c = btN a f := ⟨_, rfl⟩
        rw [← hce] at hc hnx
        have HX := hid hnx
        clear hnx hI hce hF
        go_wp2
        go_roundw
        case rel => exact ⟨i + 1, by omega, by go_num, HX.out⟩
        case measure => simp [intOf]; omega
      · rw [if_neg hki] at hF
        have HX := hid (mv_skip hI hF)
        have hneg : (i : Int) - (k : Int) < 0 := by omega
        have hnn : 0 ≤ (i : Int) - (k : Int) + (n : Int) := by omega
        clear hI hF
        go_wp2
        go_roundw
        case rel => exact ⟨i + 1, by omega, by go_num, HX.out⟩
        case measure => simp [intOf]; omega
    · have hE := mv_end hI (by omega)
      have HOf := hid (of_any n hn1 hn64 _ HF.out wr w.heap.size _ hE.1)
      have HB := hid hE.2
      clear hE hI
      go_wp2_with (go_at_call 229; refine HOf.out.mono ?_; rintro e w' ⟨rfl, rfl⟩)
      go_ret
      exact ⟨rfl, HB.out⟩
theorem mvF_12 (n a k j : Nat) : mvF n 12 a k j = btN a (if n ≤ j + k then n - 1 else j + k) := by rw [mvF, if_neg (by decide), if_pos rfl]
set_option maxHeartbeats 1600000 in
theorem moved_12 (n : Nat) (hn : Okn n) (a k : Nat) (ha : a < 2 ^ n) (hk : k < n) (w : World) :
    Calls Tryz.prog 231 #[.int .i64 n, .int .i64 12, .int .u64 a, .int .i64 k] w (MvPost w (shiftR n 12 a k)) := by
  obtain ⟨h1, h2, h3, h4⟩ := pow_lt64 hn
  have hn8 := hn.le
  obtain ⟨i0, hi, hz0, hz1, hz2⟩ := info_parts info22
  have HL := hid (list_any n hn8.2 a (by omega) w)
  rw [← move_bits hn (by decide) (by decide) ha hk]
  have HF : Hid (∀ j, mvF n 12 a k j ≤ 1) := fun j => mvF_le n 12 a k j
  have hn1 : 1 ≤ n := by omega
  have hn64 : n ≤ 64 := hn8.2
  have hn0 : 0 < (n : Int) := by omega
  clear h1 h2 h3 h4 hn ha hn8
  go_enter Tryz.func231, Tryz.ntmps231
  go_wp2_with (first
    | (go_at_call 228; refine HL.out.mono ?_; rintro e w1 ⟨v1, rfl, hown1, hB1⟩)
    | (at_make; refine wpList_make_full _ rfl _ _ 40 rfl w1.heap.size 22 i0 (.int .u64 0) 1 Tryz.underlying40 hi hz0 hz1 .i64 .i64 _ _ n rfl rfl rfl rfl (by rw [hz2]; omega) (by unfold maxLen; omega) (Nat.le_refl _) ?_; intro w2 hown2 hgrow2))
  obtain ⟨g, cap, rfl⟩ := owned_at hown1 hn1
  have HS := hid (mv_start (F := mvF n 12 a k) hown1 hB1 hown2 hgrow2)
  have hcap : n ≤ cap := by
    rcases hown1.2 with ⟨h, _⟩ | ⟨g', cap', cur, h, _, _, hnc, _⟩
    · simp at h
    · injection h with h1 h2 h3
      omega
  obtain ⟨g2, hg2⟩ : ∃ g2 : Nat, g2 = w1.heap.size := ⟨_, rfl⟩
  rw [← hg2] at HS ⊢
  clear hown1 hB1 hown2 hgrow2 hg2 hi hz0 hz1 hz2
  go_loopw [11] (fun vi wr => ∃ i : Nat, i ≤ n ∧ vi = .int .i64 i ∧ MvInv w g g2 n a (mvF n 12 a k) i wr) (fun vi _ => n - (intOf vi).toNat)
  case atStart => exact ⟨0, Nat.zero_le _, rfl, HS.out⟩
  case round =>
    obtain ⟨i, hi, rfl, hI⟩ := hrel
    by_cases hlt : i < n
    · have hF := mvF_12 n a k i
      by_cases hki : n ≤ i + k
      · rw [if_pos hki] at hF
        have hfr : (n : Int) - 1 = ((n - 1 : Nat) : Int) := by omega
        have hge : (n : Int) ≤ (i : Int) + (k : Int) := by omega
        obtain ⟨f, hf⟩ : ∃ f : Nat, f = n - 1 := ⟨_, rfl⟩
        rw [← hf] at hfr hF
        have hfn : f < n := by omega
        clear hf
        have hc := hI.2.2.1 f (by omega)
        obtain ⟨hc2, hf2⟩ := mv_cells hI hlt
        have hnx := mv_next hI
        rw [hF] at hnx
        obtain ⟨c, hce⟩ : ∃ c : Nat, c = btN a f := ⟨_, rfl⟩
        rw [← hce] at hc hnx
        have HX := hid hnx
        clear hnx hI hce hF
        go_wp2
        go_roundw
        case rel => exact ⟨i + 1, by omega, by go_num, HX.out⟩
        case measure => simp [intOf]; omega
      · rw [if_neg hki] at hF
        have hfr : (i : Int) + (k : Int) = ((i + k : Nat) : Int) := by omega
        obtain ⟨f, hf⟩ : ∃ f : Nat, f = i + k := ⟨_, rfl⟩
        rw [← hf] at hfr hF
        have hfn : f < n := by omega
        have hd : decide ((n : Int) ≤ (f : Int)) = false := by simp; omega
        clear hf
        have hc := hI.2.2.1 f (by omega)
        obtain ⟨hc2, hf2⟩ := mv_cells hI hlt
        have hnx := mv_next hI
        rw [hF] at hnx
        obtain ⟨c, hce⟩ : ∃ c : Nat, c = btN a f := ⟨_, rfl⟩
        rw [← hce] at hc hnx
        have HX := hid hnx
        clear hnx hI hce hF
        go_wp2
        go_roundw
        case rel => exact ⟨i + 1, by omega, by go_num, HX.out⟩
        case measure => simp [intOf]; omega
    · have hE := mv_end hI (by omega)
      have HOf := hid (of_any n hn1 hn64 _ HF.out wr w.heap.size _ hE.1)
      have HB := hid hE.2
      clear hE hI
      go_wp2_with (go_at_call 229; refine HOf.out.mono ?_; rintro e w' ⟨rfl, rfl⟩)
      go_ret
      exact ⟨rfl, HB.out⟩
theorem mvF_13 (n a k j : Nat) : mvF n 13 a k j = if j + k < n then btN a (j + k) else 0 := by rw [mvF, if_neg (by decide), if_neg (by decide), if_pos rfl]
set_option maxHeartbeats 1600000 in
theorem moved_13 (n : Nat) (hn : Okn n) (a k : Nat) (ha : a < 2 ^ n) (hk : k < n) (w : World) :
    Calls Tryz.prog 231 #[.int .i64 n, .int .i64 13, .int .u64 a, .int .i64 k] w (MvPost w (shiftR n 13 a k)) := by
  obtain ⟨h1, h2, h3, h4⟩ := pow_lt64 hn
  have hn8 := hn.le
  obtain ⟨i0, hi, hz0, hz1, hz2⟩ := info_parts info22
  have HL := hid (list_any n hn8.2 a (by omega) w)
  rw [← move_bits hn (by decide) (by decide) ha hk]
  have HF : Hid (∀ j, mvF n 13 a k j ≤ 1) := fun j => mvF_le n 13 a k j
  have hn1 : 1 ≤ n := by omega
  have hn64 : n ≤ 64 := hn8.2
  have hn0 : 0 < (n : Int) := by omega
  clear h1 h2 h3 h4 hn ha hn8
  go_enter Tryz.func231, Tryz.ntmps231
  go_wp2_with (first
    | (go_at_call 228; refine HL.out.mono ?_; rintro e w1 ⟨v1, rfl, hown1, hB1⟩)
    | (at_make; refine wpList_make_full _ rfl _ _ 40 rfl w1.heap.size 22 i0 (.int .u64 0) 1 Tryz.underlying40 hi hz0 hz1 .i64 .i64 _ _ n rfl rfl rfl rfl (by rw [hz2]; omega) (by unfold maxLen; omega) (Nat.le_refl _) ?_; intro w2 hown2 hgrow2))
  obtain ⟨g, cap, rfl⟩ := owned_at hown1 hn1
  have HS := hid (mv_start (F := mvF n 13 a k) hown1 hB1 hown2 hgrow2)
  have hcap : n ≤ cap := by
    rcases hown1.2 with ⟨h, _⟩ | ⟨g', cap', cur, h, _, _, hnc, _⟩
    · simp at h
    · injection h with h1 h2 h3
      omega
  obtain ⟨g2, hg2⟩ : ∃ g2 : Nat, g2 = w1.heap.size := ⟨_, rfl⟩
  rw [← hg2] at HS ⊢
  clear hown1 hB1 hown2 hgrow2 hg2 hi hz0 hz1 hz2
  go_loopw [11] (fun vi wr => ∃ i : Nat, i ≤ n ∧ vi = .int .i64 i ∧ MvInv w g g2 n a (mvF n 13 a k) i wr) (fun vi _ => n - (intOf vi).toNat)
  case atStart => exact ⟨0, Nat.zero_le _, rfl, HS.out⟩
  case round =>
    obtain ⟨i, hi, rfl, hI⟩ := hrel
    by_cases hlt : i < n
    · have hF := mvF_13 n a k i
      have hfr : (i : Int) + (k : Int) = ((i + k : Nat) : Int) := by omega
      by_cases hki : i + k < n
      · rw [if_pos hki] at hF
        obtain ⟨f, hf⟩ : ∃ f : Nat, f = i + k := ⟨_, rfl⟩
        rw [← hf] at hfr hF
        have hfn : f < n := by omega
        clear hf hki
        have hc := hI.2.2.1 f (by omega)
        obtain ⟨hc2, hf2⟩ := mv_cells hI hlt
        have hnx := mv_next hI
        rw [hF] at hnx
        obtain ⟨c, hce⟩ : ∃ c : Nat, c = btN a f := ⟨_, rfl⟩
        rw [← hce] at hc hnx
        have HX := hid hnx
        clear hnx hI hce hF
        go_wp2
        go_roundw
        case rel => exact ⟨i + 1, by omega, by go_num, HX.out⟩
        case measure => simp [intOf]; omega
      · rw [if_neg hki] at hF
        have HX := hid (mv_skip hI hF)
        obtain ⟨f, hf⟩ : ∃ f : Nat, f = i + k := ⟨_, rfl⟩
        rw [← hf] at hfr
        have hfn : n ≤ f := by omega
        have hf2 : f ≤ 128 := by omega
        clear hI hF hf hki
        go_wp2
        go_roundw
        case rel => exact ⟨i + 1, by omega, by go_num, HX.out⟩
        case measure => simp [intOf]; omega
    · have hE := mv_end hI (by omega)
      have HOf := hid (of_any n hn1 hn64 _ HF.out wr w.heap.size _ hE.1)
      have HB := hid hE.2
      clear hE hI
      go_wp2_with (go_at_call 229; refine HOf.out.mono ?_; rintro e w' ⟨rfl, rfl⟩)
      go_ret
      exact ⟨rfl, HB.out⟩
theorem mvF_14 (n a k j : Nat) : mvF n 14 a k j = btN a ((j + n - k) % n) := by rw [mvF, if_neg (by decide), if_neg (by decide), if_neg (by decide), if_pos rfl]
set_option maxHeartbeats 1600000 in
theorem moved_14 (n : Nat) (hn : Okn n) (a k : Nat) (ha : a < 2 ^ n) (hk : k < n) (w : World) :
    Calls Tryz.prog 231 #[.int .i64 n, .int .i64 14, .int .u64 a, .int .i64 k] w (MvPost w (shiftR n 14 a k)) := by
  obtain ⟨h1, h2, h3, h4⟩ := pow_lt64 hn
  have hn8 := hn.le
  obtain ⟨i0, hi, hz0, hz1, hz2⟩ := info_parts info22
  have HL := hid (list_any n hn8.2 a (by omega) w)
  rw [← move_bits hn (by decide) (by decide) ha hk]
  have HF : Hid (∀ j, mvF n 14 a k j ≤ 1) := fun j => mvF_le n 14 a k j
  have hn1 : 1 ≤ n := by omega
  have hn64 : n ≤ 64 := hn8.2
  have hn0 : 0 < (n : Int) := by omega
  clear h1 h2 h3 h4 hn ha hn8
  go_enter Tryz.func231, Tryz.ntmps231
  go_wp2_with (first
    | (go_at_call 228; refine HL.out.mono ?_; rintro e w1 ⟨v1, rfl, hown1, hB1⟩)
    | (at_make; refine wpList_make_full _ rfl _ _ 40 rfl w1.heap.size 22 i0 (.int .u64 0) 1 Tryz.underlying40 hi hz0 hz1 .i64 .i64 _ _ n rfl rfl rfl rfl (by rw [hz2]; omega) (by unfold maxLen; omega) (Nat.le_refl _) ?_; intro w2 hown2 hgrow2))
  obtain ⟨g, cap, rfl⟩ := owned_at hown1 hn1
  have HS := hid (mv_start (F := mvF n 14 a k) hown1 hB1 hown2 hgrow2)
  have hcap : n ≤ cap := by
    rcases hown1.2 with ⟨h, _⟩ | ⟨g', cap', cur, h, _, _, hnc, _⟩
    · simp at h
    · injection h with h1 h2 h3
      omega
  obtain ⟨g2, hg2⟩ : ∃ g2 : Nat, g2 = w1.heap.size := ⟨_, rfl⟩
  rw [← hg2] at HS ⊢
  clear hown1 hB1 hown2 hgrow2 hg2 hi hz0 hz1 hz2
  go_loopw [11] (fun vi wr => ∃ i : Nat, i ≤ n ∧ vi = .int .i64 i ∧ MvInv w g g2 n a (mvF n 14 a k) i wr) (fun vi _ => n - (intOf vi).toNat)
  case atStart => exact ⟨0, Nat.zero_le _, rfl, HS.out⟩
  case round =>
    obtain ⟨i, hi, rfl, hI⟩ := hrel
    by_cases hlt : i < n
    · have hF := mvF_14 n a k i
      have hfr : ((i : Int) - (k : Int) + (n : Int)) % (n : Int) = ((i + n - k) % n : Nat) := by
        have : (i : Int) - (k : Int) + (n : Int) = ((i + n - k : Nat) : Int) := by omega
        rw [this]; simp
      have hnn : 0 ≤ (i : Int) - (k : Int) + (n : Int) := by omega
      obtain ⟨f, hf⟩ : ∃ f : Nat, f = (i + n - k) % n := ⟨_, rfl⟩
      have hfn : f < n := by rw [hf]; exact Nat.mod_lt _ (by omega)
      rw [← hf] at hfr hF
      clear hf
      have hc := hI.2.2.1 f (by omega)
      obtain ⟨hc2, hf2⟩ := mv_cells hI hlt
      have hnx := mv_next hI
      rw [hF] at hnx
      obtain ⟨c, hce⟩ : ∃ c : Nat, c = btN a f := ⟨_, rfl⟩
      rw [← hce] at hc hnx
      have HX := hid hnx
      clear hnx hI hce hF
      go_wp2
      go_roundw
      case rel => exact ⟨i + 1, by omega, by go_num, HX.out⟩
      case measure => simp [intOf]; omega
    · have hE := mv_end hI (by omega)
      have HOf := hid (of_any n hn1 hn64 _ HF.out wr w.heap.size _ hE.1)
      have HB := hid hE.2
      clear hE hI
      go_wp2_with (go_at_call 229; refine HOf.out.mono ?_; rintro e w' ⟨rfl, rfl⟩)
      go_ret
      exact ⟨rfl, HB.out⟩
theorem mvF_15 (n a k j : Nat) : mvF n 15 a k j = btN a ((j + k + n) % n) := by rw [mvF, if_neg (by decide), if_neg (by decide), if_neg (by decide), if_neg (by decide)]
set_option maxHeartbeats 1600000 in
theorem moved_15 (n : Nat) (hn : Okn n) (a k : Nat) (ha : a < 2 ^ n) (hk : k < n) (w : World) :
    Calls Tryz.prog 231 #[.int .i64 n, .int .i64 15, .int .u64 a, .int .i64 k] w (MvPost w (shiftR n 15 a k)) := by
  obtain ⟨h1, h2, h3, h4⟩ := pow_lt64 hn
  have hn8 := hn.le
  obtain ⟨i0, hi, hz0, hz1, hz2⟩ := info_parts info22
  have HL := hid (list_any n hn8.2 a (by omega) w)
  rw [← move_bits hn (by decide) (by decide) ha hk]
  have HF : Hid (∀ j, mvF n 15 a k j ≤ 1) := fun j => mvF_le n 15 a k j
  have hn1 : 1 ≤ n := by omega
  have hn64 : n ≤ 64 := hn8.2
  have hn0 : 0 < (n : Int) := by omega
  clear h1 h2 h3 h4 hn ha hn8
  go_enter Tryz.func231, Tryz.ntmps231
  go_wp2_with (first
    | (go_at_call 228; refine HL.out.mono ?_; rintro e w1 ⟨v1, rfl, hown1, hB1⟩)
    | (at_make; refine wpList_make_full _ rfl _ _ 40 rfl w1.heap.size 22 i0 (.int .u64 0) 1 Tryz.underlying40 hi hz0 hz1 .i64 .i64 _ _ n rfl rfl rfl rfl (by rw [hz2]; omega) (by unfold maxLen; omega) (Nat.le_refl _) ?_; intro w2 hown2 hgrow2))
  obtain ⟨g, cap, rfl⟩ := owned_at hown1 hn1
  have HS := hid (mv_start (F := mvF n 15 a k) hown1 hB1 hown2 hgrow2)
  have hcap : n ≤ cap := by
    rcases hown1.2 with ⟨h, _⟩ | ⟨g', cap', cur, h, _, _, hnc, _⟩
    · simp at h
    · injection h with h1 h2 h3
      omega
  obtain ⟨g2, hg2⟩ : ∃ g2 : Nat, g2 = w1.heap.size := ⟨_, rfl⟩
  rw [← hg2] at HS ⊢
  clear hown1 hB1 hown2 hgrow2 hg2 hi hz0 hz1 hz2
  go_loopw [11] (fun vi wr => ∃ i : Nat, i ≤ n ∧ vi = .int .i64 i ∧ MvInv w g g2 n a (mvF n 15 a k) i wr) (fun vi _ => n - (intOf vi).toNat)
  case atStart => exact ⟨0, Nat.zero_le _, rfl, HS.out⟩
  case round =>
    obtain ⟨i, hi, rfl, hI⟩ := hrel
    by_cases hlt : i < n
    · have hF := mvF_15 n a k i
      have hfr : ((i : Int) + (k : Int) + (n : Int)) % (n : Int) = ((i + k + n) % n : Nat) := by
        have : (i : Int) + (k : Int) + (n : Int) = ((i + k + n : Nat) : Int) := by omega
        rw [this]; simp
      have hnn : 0 ≤ (i : Int) + (k : Int) + (n : Int) := by omega
      obtain ⟨f, hf⟩ : ∃ f : Nat, f = (i + k + n) % n := ⟨_, rfl⟩
      have hfn : f < n := by rw [hf]; exact Nat.mod_lt _ (by omega)
      rw [← hf] at hfr hF
      clear hf
      have hc := hI.2.2.1 f (by omega)
      obtain ⟨hc2, hf2⟩ := mv_cells hI hlt
      have hnx := mv_next hI
      rw [hF] at hnx
      obtain ⟨c, hce⟩ : ∃ c : Nat, c = btN a f := ⟨_, rfl⟩
      rw [← hce] at hc hnx
      have HX := hid hnx
      clear hnx hI hce hF
      go_wp2
      go_roundw
      case rel => exact ⟨i + 1, by omega, by go_num, HX.out⟩
      case measure => simp [intOf]; omega
    · have hE := mv_end hI (by omega)
      have HOf := hid (of_any n hn1 hn64 _ HF.out wr w.heap.size _ hE.1)
      have HB := hid hE.2
      clear hE hI
      go_wp2_with (go_at_call 229; refine HOf.out.mono ?_; rintro e w' ⟨rfl, rfl⟩)
      go_ret
      exact ⟨rfl, HB.out⟩
theorem moved_any (n : Nat) (hn : Okn n) (op : Nat) (h1 : 11 ≤ op) (h2 : op ≤ 15) (a k : Nat) (ha : a < 2 ^ n) (hk : k < n) (w : World) :
    Calls Tryz.prog 231 #[.int .i64 n, .int .i64 op, .int .u64 a, .int .i64 k] w (MvPost w (shiftR n op a k)) := by
  have hop : op = 11 ∨ op = 12 ∨ op = 13 ∨ op = 14 ∨ op = 15 := by omega
  rcases hop with rfl | rfl | rfl | rfl | rfl
  · exact moved_11 n hn a k ha hk w
  · exact moved_12 n hn a k ha hk w
  · exact moved_13 n hn a k ha hk w
  · exact moved_14 n hn a k ha hk w
  · exact moved_15 n hn a k ha hk w
end Go.Proofs.YtlhakbkdlgejpaaGreatDoor
namespace Go.Proofs.YtlhakbkdlgejpaaGreatDoor
open Go.RowKit
/-- n numbers in new memory, of which the first i are laid. -/
def EInv (w : World) (g2 n : Nat) (F : Nat → Nat) (i : Nat) (wr : World) : Prop :=
  wr.ownsRow w.heap.size 22 1 (.slice (some ⟨g2, 0, none⟩) n n) n (fc n (fun j => if j < i then F j else 0)) ∧ Below w.heap.size w wr ∧ w.heap.size ≤ g2 ∧ g2 < wr.heap.size
theorem EInv.start {w w2 : World} {n : Nat} {F : Nat → Nat} (hown2 : w2.ownsRow w.heap.size 22 1 (.slice (some ⟨w.heap.size, 0, none⟩) n n) n (madeCells (Value.int .u64 0).cells (n * 1)).toList) (hg2 : w.grownBy w2 none) : EInv w w.heap.size n F 0 w2 := by
  refine ⟨?_, (Below.refl _ w).grown hg2 (Nat.le_refl _) (by simp), Nat.le_refl _, (hown2.lt w.heap.size rfl).2⟩
  have e : (madeCells (Value.int .u64 0).cells (n * 1)).toList = fc n (fun j => if j < 0 then F j else 0) := by
    rw [Nat.mul_one, show (Value.int .u64 0).cells = #[Value.int .u64 0] from rfl, toList_madeCells_one]
    apply List.ext_getElem?
    intro j
    by_cases hj : j < n
    · rw [fc_get hj]; simp [hj]
    · simp [fc, hj]
  rw [e] at hown2
  exact hown2
theorem EInv.call {w W W' : World} {g2 n i : Nat} {F : Nat → Nat} (h : EInv w g2 n F i W) (hb : Below W.heap.size W W') : EInv w g2 n F i W' :=
  ⟨own_below h.1 hb (Nat.le_refl _), h.2.1.trans (hb.mono h.2.1.size), h.2.2.1, Nat.lt_of_lt_of_le h.2.2.2 hb.size⟩
theorem EInv.drew {w W : World} {g2 n i : Nat} {F : Nat → Nat} (h : EInv w g2 n F i W) : EInv w g2 n F i W.drew := ⟨h.1, h.2.1.drew, h.2.2.1, h.2.2.2⟩
theorem EInv.next {w W : World} {g2 n i : Nat} {F : Nat → Nat} (h : EInv w g2 n F i W) : EInv w g2 n F (i + 1) (W.setCell ⟨g2, i, none⟩ (.int .u64 (F i : Nat))) := by
  obtain ⟨h4, h5, h2, h6⟩ := h
  refine ⟨?_, h5.setCell (p := ⟨g2, i, none⟩) h2 _, h2, by simpa using h6⟩
  have := (h4.stored i (.int .u64 (F i : Nat))).1
  rw [fc_set] at this
  rw [fc_congr (g := fun j => if j = i then F i else if j < i then F j else 0) (fun j _ => by
    by_cases hji : j = i
    · subst hji; simp
    · by_cases hlt : j < i
      · simp [hji, hlt, show j < i + 1 by omega]
      · simp [hji, hlt, show ¬ j < i + 1 by omega])]
  exact this
theorem EInv.cells {w W : World} {g2 n i : Nat} {F : Nat → Nat} (h : EInv w g2 n F i W) (hi : i < n) : W.cell? ⟨g2, i, none⟩ = some (.int .u64 0) ∧ W.frozen? ⟨g2, i, none⟩ = false := by
  obtain ⟨h4, h5, h2, h6⟩ := h
  refine ⟨?_, h4.frozenAt i⟩
  rw [h4.cellAt i (by omega), fc_get hi]
  simp
theorem EInv.end {w W : World} {g2 n i : Nat} {F : Nat → Nat} (h : EInv w g2 n F i W) (hi : n ≤ i) : W.ownsRow w.heap.size 22 1 (.slice (some ⟨g2, 0, none⟩) n n) n (fc n F) ∧ Below w.heap.size w W := by
  refine ⟨?_, h.2.1⟩
  rw [fc_congr (g := fun j => if j < i then F j else 0) (fun j hj => by simp [show j < i by omega])]
  exact h.1
set_option maxHeartbeats 4000000 in
set_option maxRecDepth 100000 in
theorem each_says (g : Nat) (lb : Array Value) (f : Nat → Nat → Nat) (w : World) (hD : Does g lb f w) (eg : Enters Tryz.prog g) (n : Nat) (hn : n ≤ 16) (va vb : Value) (F G : Nat → Nat)
    (ha : RowAt w va n F) (hb : RowAt w vb n G) (hF : ∀ i, i < n → F i < 18446744073709551616) (hG : ∀ i, i < n → G i < 18446744073709551616) :
    Calls Tryz.prog 71 #[.func (.func g) #[] lb, va, vb] w (LPost w n (fun i => f (F i) (G i))) := by
  obtain ⟨i0, hi, hz0, hz1, hz2⟩ := info_parts info22
  obtain ⟨ga, oa, ca, rfl, hga, hca, hata⟩ := ha
  obtain ⟨gb, ob, cb, rfl, hgb, hcb, hatb⟩ := hb
  have eg2 : ∀ args w, (callFunc g args).run Tryz.prog w = .ok (.enter g args) w := eg
  obtain ⟨R, hR⟩ : ∃ R : Nat → Nat, R = fun i => f (F i) (G i) := ⟨_, rfl⟩
  have HA := hid hata
  have HB := hid hatb
  have HF := hid hF
  have HG := hid hG
  have HD : Hid (∀ i, i < n → ∀ W, Below w.heap.size w W → Calls Tryz.prog g (#[.int .u64 (F i : Nat), .int .u64 (G i : Nat)] ++ lb) W fun e w' => e = .returned (.int .u64 (R i : Nat)) ∧ Below W.heap.size W w') := by
    intro i hi W hW
    rw [hR]
    exact hD W (F i) (G i) hW (hF i hi) (hG i hi)
  rw [← hR]
  clear hata hatb hF hG hD hR
  go_enter Tryz.func71, Tryz.ntmps71
  go_wp2_with (at_make; refine wpList_make_full _ rfl _ _ 40 rfl w.heap.size 22 i0 (.int .u64 0) 1 Tryz.underlying40 hi hz0 hz1 .i64 .i64 _ _ n rfl rfl rfl rfl (by rw [hz2]; omega) (by unfold maxLen; omega) (Nat.le_refl _) ?_; intro w2 hown2 hgrow2)
  have HS := hid (EInv.start (F := R) hown2 hgrow2)
  clear hown2 hgrow2
  go_loopw [14] (fun vi wr => ∃ i : Nat, i ≤ n ∧ vi = .int .i64 i ∧ Hid (EInv w w.heap.size n R i wr)) (fun vi _ => n - (intOf vi).toNat)
  case atStart => exact ⟨0, Nat.zero_le _, rfl, HS⟩
  case round =>
    obtain ⟨i, hin, rfl, HI⟩ := hrel
    by_cases hlt : i < n
    · have HLT := hid hlt
      go_upto_region 5 with fail
      have HJW := HI.out.drew
      have hS := HJW.2.1
      refine wp_region_held_drew (S := Below w.heap.size w) (by kernel_rfl) hS (fun _ => ?_)
      generalize wr.drew = W at *
      refine wpAnyH_take (oi := ⟨_, _, _, _, _, _⟩) (i := 0) (v := .slice (some ⟨w.heap.size, 0, none⟩) n n) rfl (by kernel_rfl) (by kernel_rfl) (by kernel_rfl) (fun _ _ _ h => h) (Or.inl ⟨by rfl, ?_⟩) (by assumption) ?_
      · (intro W hSw; have x1 := (hSw.cell (p := ⟨ga, oa + i, none⟩) hga).trans (HA.out i hlt).1; have x2 := (hSw.cell (p := ⟨gb, ob + i, none⟩) hgb).trans (HB.out i hlt).1; go_simp; try (with_reducible rfl))
      try simp only [Act.put, List.setIfInBounds_toArray, List.set_cons_zero, List.set_cons_succ]
      refine wpAnyH_take (oi := ⟨_, _, _, _, _, _⟩) (i := 1) (v := .int .i64 i) rfl (by kernel_rfl) (by kernel_rfl) (by kernel_rfl) (fun _ _ _ h => h) (Or.inl ⟨by rfl, ?_⟩) (by assumption) ?_
      · (intro W hSw; have x1 := (hSw.cell (p := ⟨ga, oa + i, none⟩) hga).trans (HA.out i hlt).1; have x2 := (hSw.cell (p := ⟨gb, ob + i, none⟩) hgb).trans (HB.out i hlt).1; go_simp; try (with_reducible rfl))
      try simp only [Act.put, List.setIfInBounds_toArray, List.set_cons_zero, List.set_cons_succ]
      refine wpAnyH_take (oi := ⟨_, _, _, _, _, _⟩) (i := 2) (v := .func (.func g) #[] lb) rfl (by kernel_rfl) (by kernel_rfl) (by kernel_rfl) (fun _ _ _ h => h) (Or.inl ⟨by rfl, ?_⟩) (by assumption) ?_
      · (intro W hSw; have x1 := (hSw.cell (p := ⟨ga, oa + i, none⟩) hga).trans (HA.out i hlt).1; have x2 := (hSw.cell (p := ⟨gb, ob + i, none⟩) hgb).trans (HB.out i hlt).1; go_simp; try (with_reducible rfl))
      try simp only [Act.put, List.setIfInBounds_toArray, List.set_cons_zero, List.set_cons_succ]
      refine wpAnyH_take (oi := ⟨_, _, _, _, _, _⟩) (i := 3) (v := .slice (some ⟨ga, oa, none⟩) n ca) rfl (by kernel_rfl) (by kernel_rfl) (by kernel_rfl) (fun _ _ _ h => h) (Or.inl ⟨by rfl, ?_⟩) (by assumption) ?_
      · (intro W hSw; have x1 := (hSw.cell (p := ⟨ga, oa + i, none⟩) hga).trans (HA.out i hlt).1; have x2 := (hSw.cell (p := ⟨gb, ob + i, none⟩) hgb).trans (HB.out i hlt).1; go_simp; try (with_reducible rfl))
      try simp only [Act.put, List.setIfInBounds_toArray, List.set_cons_zero, List.set_cons_succ]
      refine wpAnyH_take (oi := ⟨_, _, _, _, _, _⟩) (i := 4) (v := .int .i64 i) rfl (by kernel_rfl) (by kernel_rfl) (by kernel_rfl) (fun _ _ _ h => h) (Or.inl ⟨by rfl, ?_⟩) (by assumption) ?_
      · (intro W hSw; have x1 := (hSw.cell (p := ⟨ga, oa + i, none⟩) hga).trans (HA.out i hlt).1; have x2 := (hSw.cell (p := ⟨gb, ob + i, none⟩) hgb).trans (HB.out i hlt).1; go_simp; try (with_reducible rfl))
      try simp only [Act.put, List.setIfInBounds_toArray, List.set_cons_zero, List.set_cons_succ]
      refine wpAnyH_take (oi := ⟨_, _, _, _, _, _⟩) (i := 5) (v := .pointer (some ⟨ga, oa + i, none⟩)) rfl (by kernel_rfl) (by kernel_rfl) (by kernel_rfl) (fun _ _ _ h => h) (Or.inl ⟨by rfl, ?_⟩) (by assumption) ?_
      · (intro W hSw; have x1 := (hSw.cell (p := ⟨ga, oa + i, none⟩) hga).trans (HA.out i hlt).1; have x2 := (hSw.cell (p := ⟨gb, ob + i, none⟩) hgb).trans (HB.out i hlt).1; go_simp; try (with_reducible rfl))
      try simp only [Act.put, List.setIfInBounds_toArray, List.set_cons_zero, List.set_cons_succ]
      refine wpAnyH_take (oi := ⟨_, _, _, _, _, _⟩) (i := 6) (v := .int .u64 (F i : Nat)) rfl (by kernel_rfl) (by kernel_rfl) (by kernel_rfl) (fun _ _ _ h => h) (Or.inl ⟨by rfl, ?_⟩) (by assumption) ?_
      · (intro W hSw; have x1 := (hSw.cell (p := ⟨ga, oa + i, none⟩) hga).trans (HA.out i hlt).1; have x2 := (hSw.cell (p := ⟨gb, ob + i, none⟩) hgb).trans (HB.out i hlt).1; go_simp; try (with_reducible rfl))
      try simp only [Act.put, List.setIfInBounds_toArray, List.set_cons_zero, List.set_cons_succ]
      refine wpAnyH_take (oi := ⟨_, _, _, _, _, _⟩) (i := 7) (v := .slice (some ⟨gb, ob, none⟩) n cb) rfl (by kernel_rfl) (by kernel_rfl) (by kernel_rfl) (fun _ _ _ h => h) (Or.inl ⟨by rfl, ?_⟩) (by assumption) ?_
      · (intro W hSw; have x1 := (hSw.cell (p := ⟨ga, oa + i, none⟩) hga).trans (HA.out i hlt).1; have x2 := (hSw.cell (p := ⟨gb, ob + i, none⟩) hgb).trans (HB.out i hlt).1; go_simp; try (with_reducible rfl))
      try simp only [Act.put, List.setIfInBounds_toArray, List.set_cons_zero, List.set_cons_succ]
      refine wpAnyH_take (oi := ⟨_, _, _, _, _, _⟩) (i := 8) (v := .int .i64 i) rfl (by kernel_rfl) (by kernel_rfl) (by kernel_rfl) (fun _ _ _ h => h) (Or.inl ⟨by rfl, ?_⟩) (by assumption) ?_
      · (intro W hSw; have x1 := (hSw.cell (p := ⟨ga, oa + i, none⟩) hga).trans (HA.out i hlt).1; have x2 := (hSw.cell (p := ⟨gb, ob + i, none⟩) hgb).trans (HB.out i hlt).1; go_simp; try (with_reducible rfl))
      try simp only [Act.put, List.setIfInBounds_toArray, List.set_cons_zero, List.set_cons_succ]
      refine wpAnyH_take (oi := ⟨_, _, _, _, _, _⟩) (i := 9) (v := .pointer (some ⟨gb, ob + i, none⟩)) rfl (by kernel_rfl) (by kernel_rfl) (by kernel_rfl) (fun _ _ _ h => h) (Or.inl ⟨by rfl, ?_⟩) (by assumption) ?_
      · (intro W hSw; have x1 := (hSw.cell (p := ⟨ga, oa + i, none⟩) hga).trans (HA.out i hlt).1; have x2 := (hSw.cell (p := ⟨gb, ob + i, none⟩) hgb).trans (HB.out i hlt).1; go_simp; try (with_reducible rfl))
      try simp only [Act.put, List.setIfInBounds_toArray, List.set_cons_zero, List.set_cons_succ]
      refine wpAnyH_take (oi := ⟨_, _, _, _, _, _⟩) (i := 10) (v := .int .u64 (G i : Nat)) rfl (by kernel_rfl) (by kernel_rfl) (by kernel_rfl) (fun _ _ _ h => h) (Or.inl ⟨by rfl, ?_⟩) (by assumption) ?_
      · (intro W hSw; have x1 := (hSw.cell (p := ⟨ga, oa + i, none⟩) hga).trans (HA.out i hlt).1; have x2 := (hSw.cell (p := ⟨gb, ob + i, none⟩) hgb).trans (HB.out i hlt).1; go_simp; try (with_reducible rfl))
      try simp only [Act.put, List.setIfInBounds_toArray, List.set_cons_zero, List.set_cons_succ]
      refine wpAnyH_ready (rs := [11]) (by kernel_rfl) (by simp) ?_
      refine AllReadyH.cons (o := ⟨_, _, _, _, _, _⟩) rfl (fun K hK => ?_) ?_
      · go_simp
        go_at_fn g
        (with_reducible refine (HD.out i hlt _ hS).mono ?_)
        rintro e W1 ⟨rfl, hb⟩
        replace hS := hS.trans (hb.mono hS.size)
        replace HJW := HJW.call hb
        clear hb
        refine hK.out _ _ hS (fun _ => ?_)
        clear hK K
        try simp only [Act.put, List.setIfInBounds_toArray, List.set_cons_zero, List.set_cons_succ]
        refine wpAnyH_take (oi := ⟨_, _, _, _, _, _⟩) (i := 12) (v := .pointer (some ⟨w.heap.size, i, none⟩)) rfl (by kernel_rfl) (by kernel_rfl) (by kernel_rfl) (fun _ _ _ h => h) (Or.inl ⟨by rfl, ?_⟩) (by assumption) ?_
        · (intro W hSw; have x1 := (hSw.cell (p := ⟨ga, oa + i, none⟩) hga).trans (HA.out i hlt).1; have x2 := (hSw.cell (p := ⟨gb, ob + i, none⟩) hgb).trans (HB.out i hlt).1; go_simp; try (with_reducible rfl))
        try simp only [Act.put, List.setIfInBounds_toArray, List.set_cons_zero, List.set_cons_succ]
        refine wpAnyH_ready (rs := [13]) (by kernel_rfl) (by simp) ?_
        refine AllReadyH.cons (o := ⟨_, _, _, _, _, _⟩) rfl (fun K hK => ?_) ?_
        · obtain ⟨z0, z1⟩ := HJW.cells hlt
          go_simp
          clear z0 z1
          replace HJW := HJW.next
          refine hK.out _ _ HJW.2.1 (fun _ => ?_)
          clear hK K
          try simp only [Act.put, List.setIfInBounds_toArray, List.set_cons_zero, List.set_cons_succ]
          refine wpAnyH_done (by kernel_rfl) ?_ _
          go_wp2_with fail
          go_roundw
          case rel => exact ⟨i + 1, HLT.out, by go_num, HJW⟩
          case measure => (simp [intOf]; have := HLT.out; omega)
        exact AllReadyH.nil
      exact AllReadyH.nil
    · obtain rfl : i = n := by omega
      have HE := hid (HI.out.end (Nat.le_refl _))
      go_wp2
      go_ret
      exact ⟨_, rfl, HE.out.1, HE.out.2⟩
end Go.Proofs.YtlhakbkdlgejpaaGreatDoor
namespace Go.Proofs.YtlhakbkdlgejpaaGreatDoor
open Go.RowKit
abbrev Av := Int × Nat × Nat × Bool
/-- A slice of values. -/
def AR (w : World) (va : Value) (l : List Av) : Prop :=
  ∃ g cap, va = .slice (some ⟨g, 0, none⟩) l.length cap ∧ g < w.heap.size ∧ l.length ≤ cap ∧ ∀ (j : Nat) (a : Av), l[j]? = some a →
    w.cell? ⟨g, j * 4, none⟩ = some (.int .i64 a.1) ∧ w.cell? ⟨g, j * 4 + 1, none⟩ = some (.int .u64 (a.2.1 : Nat)) ∧ w.cell? ⟨g, j * 4 + 2, none⟩ = some (.int .u64 (a.2.2.1 : Nat)) ∧ w.cell? ⟨g, j * 4 + 3, none⟩ = some (.bool a.2.2.2)
theorem AR.call {w w' : World} {va : Value} {l : List Av} (h : AR w va l) (hb : Below w.heap.size w w') : AR w' va l := by
  obtain ⟨g, cap, e, hl, hc, ha⟩ := h
  refine ⟨g, cap, e, Nat.lt_of_lt_of_le hl hb.size, hc, fun j a hj => ?_⟩
  obtain ⟨h0, h1, h2, h3⟩ := ha j a hj
  exact ⟨by rw [hb.cell (p := ⟨g, j * 4, none⟩) hl, h0], by rw [hb.cell (p := ⟨g, j * 4 + 1, none⟩) hl, h1], by rw [hb.cell (p := ⟨g, j * 4 + 2, none⟩) hl, h2], by rw [hb.cell (p := ⟨g, j * 4 + 3, none⟩) hl, h3]⟩
theorem LPost.mono0 {w w1 w' : World} {n : Nat} {F : Nat → Nat} {e : Ending} (hb : Below w.heap.size w w1) (h : LPost w1 n F e w') : LPost w n F e w' := by
  obtain ⟨v, rfl, ho, hb2⟩ := h
  exact ⟨v, rfl, own_mono ho hb.size, hb.trans (hb2.mono hb.size)⟩
theorem fc_zero (n : Nat) : fc n (fun _ => 0) = (madeCells (Value.int .u64 0).cells (n * 1)).toList := by
  rw [Nat.mul_one, show (Value.int .u64 0).cells = #[Value.int .u64 0] from rfl, toList_madeCells_one]
  apply List.ext_getElem?
  intro j
  by_cases hj : j < n
  · rw [fc_get hj]; simp [hj]
  · simp [fc, hj]
set_option maxHeartbeats 2000000 in
set_option maxRecDepth 100000 in
theorem operand_none (vb : List UInt8) (ff : Bool) (n : Nat) (hn : Okn n) (tf : Bool) (tb : Int) (sg : Bool) (va : Value) (l : List Av) (i : Nat) (hi : l.length ≤ i) (w : World) (ha : AR w va l) :
    Calls Tryz.prog 64 #[insV vb ff n tf tb sg, va, .int .i64 i] w (LPost w (cnt n) (fun _ => 0)) := by
  obtain ⟨i0, hi0, hz0, hz1, hz2⟩ := info_parts info22
  obtain ⟨g, cap, rfl, hg, hcap, hat⟩ := ha
  have HC := fun W => hid (lcount_any n hn W)
  have hc16 : cnt n ≤ 16 := by rcases hn.cases with ⟨_, _, h⟩ | ⟨_, _, h⟩ | ⟨_, _, h⟩ | ⟨_, _, h⟩ <;> omega
  generalize cnt n = c at *
  obtain ⟨m, hm⟩ : ∃ m, m = l.length := ⟨_, rfl⟩
  rw [← hm] at hi hcap ⊢
  unfold insV
  generalize str vb = s
  have hge : (m : Int) ≤ (i : Int) := by omega
  clear hat hn hm
  go_enter Tryz.func64, Tryz.ntmps64
  go_wp2_with (first
    | (go_at_call 52; refine (HC _).out.mono ?_; rintro e w2 ⟨rfl, rfl⟩)
    | (at_make; refine wpList_make_full _ rfl _ _ 40 rfl w.heap.size 22 i0 (.int .u64 0) 1 Tryz.underlying40 hi0 hz0 hz1 .i64 .i64 _ _ c rfl rfl rfl rfl (by rw [hz2]; omega) (by unfold maxLen; omega) (by simp) ?_; intro w3 hown3 hgrow3))
  go_ret
  rw [size_al] at hown3
  exact ⟨.slice (some ⟨w.heap.size + 1, 0, none⟩) c c, rfl, by rw [fc_zero]; exact hown3, ((Below.refl w.heap.size w).alloc (Nat.le_refl _) _).grown hgrow3 (by simp) (by simp)⟩
set_option maxHeartbeats 2000000 in
set_option maxRecDepth 100000 in
theorem operand_v (vb : List UInt8) (ff : Bool) (n : Nat) (hn : Okn n) (tf : Bool) (tb : Int) (sg : Bool) (va : Value) (l : List Av) (i : Nat) (lo hi : Nat) (nl : Bool) (hi' : l[i]? = some (123, lo, hi, nl)) (hlo : lo < 18446744073709551616) (hhi : hi < 18446744073709551616) (w : World) (ha : AR w va l) :
    Calls Tryz.prog 64 #[insV vb ff n tf tb sg, va, .int .i64 i] w (LPost w (cnt n) (splitF n lo hi)) := by
  obtain ⟨g, cap, rfl, hg, hcap, hat⟩ := ha
  obtain ⟨h0, h1, h2, h3⟩ := hat i _ hi'
  have hlt : i < l.length := (List.getElem?_eq_some_iff.1 hi').1
  have HS := fun W => hid (Split_says n hn 123 lo hi nl hlo hhi W)
  unfold vv at HS
  obtain ⟨m, hm⟩ : ∃ m, m = l.length := ⟨_, rfl⟩
  rw [← hm] at hlt hcap ⊢
  unfold insV
  generalize str vb = s
  simp only [] at h0 h1 h2 h3
  clear hat hn hm hi'
  go_enter Tryz.func64, Tryz.ntmps64
  go_wp2_with (first
    | (go_at_call 28; refine (HS _).out.mono ?_; rintro e w2 ⟨v2, rfl, ho2, hb2⟩))
  go_ret
  exact LPost.mono0 ((Below.refl w.heap.size w).alloc (Nat.le_refl _) _) ⟨v2, rfl, ho2, hb2⟩
end Go.Proofs.YtlhakbkdlgejpaaGreatDoor
