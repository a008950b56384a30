/-
  The document's examples, as every statement of this layer calls them first: the program answers true, and leaves what was there. No condition.
-/
import Derived.Test.YtljfhedmpnikiaaWrites
import Derived.Test.YtljfhedmpnikiaaTakes
import Derived.Laws.BytesArg
namespace Go.Proofs.Ytljfhedmpnikiaa
open Go.RowKit

theorem strOfNums_bytes (l : List UInt8) : strOfNums (l.map fun b => (b.toNat : Int)) = ⟨l.toArray⟩ := by
  unfold strOfNums
  congr 2
  rw [List.map_map]
  conv => rhs; rw [← List.map_id l]
  apply List.map_congr_left
  intro b _
  simp

/-- 'string(b)'. -/
theorem conv_bytes {B : Nat} {w : World} {v : Value} {l : List UInt8} (h : BytesAt B w v l) : (convert 22 9 v).run Try.prog w = .ok (.string ⟨l.toArray⟩) w := by
  rcases h with ⟨rfl, rfl⟩ | ⟨g, off, cap, rfl, _, _, _, h5⟩
  · rw [run_convert_bytes_nil w 22 5 Try.underlying22 Try.underlying5 0 0 9 Try.underlying9]
    rfl
  · rw [run_convert_bytes_arg w 22 5 Try.underlying22 Try.underlying5 g off l.length cap (l.map fun b => (b.toNat : Int)) (by simp) (fun i hi => ?_) 9 Try.underlying9, strOfNums_bytes]
    rw [h5 i l[i] (List.getElem?_eq_getElem hi)]
    simp [List.getElem?_eq_getElem hi]

theorem conv_empty (x : Addr) (c : Nat) (w : World) : (convert 22 9 (.slice (some x) 0 c)).run Try.prog w = .ok (.string ⟨#[]⟩) w := by
  rw [run_convert_bytes_string w 22 9 5 (some x) 0 c Try.underlying22 Try.underlying5 Try.underlying9, run_bytesToString w x 0 c [] (by simp [loadCells, loadCellsFrom])]
  rfl

theorem conv_in {B : Nat} {w : World} {v : Value} {l : List UInt8} (h : BytesIn B w v l) : (convert 22 9 v).run Try.prog w = .ok (.string ⟨l.toArray⟩) w := by
  rcases h with h | ⟨x, c, rfl, rfl⟩
  · exact conv_bytes h
  · exact conv_empty x c w

theorem bytes_lit {w : World} (l : List UInt8) (cs : Array Value) (hcs : cs.toList = Lib.byteCells l) (n : Nat) (hn : n = l.length) (hl : l.length ≤ 140737488351232) :
    BytesAt (w.heap.size + 1) (w.alloc (.cells cs 5)) (.slice (some ⟨w.heap.size, 0, none⟩) n n) l := by
  subst hn
  refine .inr ⟨w.heap.size, 0, l.length, rfl, by omega, Nat.le_refl _, ⟨by omega, hl⟩, fun j u hj => ?_⟩
  rw [Nat.zero_add, cell_of_row _ _ _ cs 5 (0, 0) (heap_alloc_new _ _), ← Array.getElem?_toList, hcs]
  simp only [Lib.byteCells, List.getElem?_map, hj, Option.map_some]

theorem ulist_ex : ulist 624485 = [229, 142, 38] := by
  rw [ulist_big (by decide), ulist_big (by decide), ulist_small (by decide)]; rfl
theorem slist_ex : slist (-123456) = [192, 187, 120] := by
  rw [slist_big (by decide), slist_big (by decide), slist_small (by decide)]; rfl
theorem sSpec_ex : sSpec 8 [128, 127, 131, 16] 0 = (-128, [131, 16], 0) := by decide +kernel
theorem uSpec_ex : uSpec 8 [131, 16] 0 = (0, [], 11) := by decide +kernel
theorem vfrom_ex : vfrom ⟨#[195, 169]⟩ (ByteArray.size ⟨#[195, 169]⟩) 0 = true := by decide +kernel
theorem vfrom_ex2 : vfrom ⟨#[255]⟩ (ByteArray.size ⟨#[255]⟩) 0 = false := by decide +kernel

theorem slist_ex_call (w : World) : Calls Try.prog 11 #[.slice none 0 0, .int .i64 (-123456)] w fun e w' => ∃ v', e = .returned v' ∧ BytesAt w'.heap.size w' v' [192, 187, 120] ∧ Below w.heap.size w w' :=
  (S_any 0 _ [] (-123456) (by decide) (by decide) w (.inl ⟨rfl, rfl⟩) (Nat.zero_le _) (by simp)).mono fun _ _ ⟨v', h1, h2, h3⟩ => ⟨v', h1, by
    rw [slist_ex] at h2
    exact bytes_of_owned h2 (by decide), h3⟩

theorem ulist_ex_call (w : World) : Calls Try.prog 10 #[.slice (some ⟨w.heap.size, 0, none⟩) 1 1, .int .u64 624485] (w.alloc (.cells #[.int .u8 7] 5)) fun e w' => ∃ v', e = .returned v' ∧ BytesAt w'.heap.size w' v' [7, 229, 142, 38] ∧ Below w.heap.size w w' :=
  (U_any (w.heap.size + 1) _ [7] 624485 (by decide) _ (bytes_lit [7] _ rfl 1 rfl (by simp)) (by simp) (by simp)).mono fun _ _ ⟨v', h1, h2, h3⟩ => ⟨v', h1, by
    rw [ulist_ex] at h2
    exact bytes_of_owned h2 (by decide), ((Below.refl _ w).alloc (Nat.le_refl _) _).trans (h3.mono (by simp))⟩

theorem rS_ex (w : World) (g : Nat) (h : Rd w g [128, 127, 131, 16] 0) : Calls Try.prog 19 #[.pointer (some ⟨g, 0, none⟩), .int .i64 8] w fun e w' => e = .returned (.int .i64 (-128)) ∧ Rd w' g [131, 16] 0 ∧ w.grownBy w' (some g) :=
  (rS_any w g _ 0 8 h (by simp)).mono fun _ _ ⟨h1, h2, h3⟩ => by
    rw [sSpec_ex] at h1 h2
    exact ⟨h1, h2, h3⟩

theorem rU_ex (w : World) (g : Nat) (h : Rd w g [131, 16] 0) : Calls Try.prog 17 #[.pointer (some ⟨g, 0, none⟩), .int .i64 8] w fun e w' => e = .returned (.int .u64 0) ∧ Rd w' g [] 11 ∧ w.grownBy w' (some g) :=
  (rU_any w g _ 0 8 h (by simp)).mono fun _ _ ⟨h1, h2, h3⟩ => by
    rw [uSpec_ex] at h1 h2
    exact ⟨h1, h2, h3⟩

theorem Valid_ex (w : World) : Calls Try.prog 31 #[.string ⟨#[195, 169]⟩] w fun e w' => e = .returned (.bool true) ∧ Below w.heap.size w w' :=
  (Valid_any ⟨#[195, 169]⟩ w (by decide)).mono fun _ _ ⟨h1, h2⟩ => by
    rw [vfrom_ex] at h1
    exact ⟨h1, h2⟩

theorem Valid_ex2 (w : World) : Calls Try.prog 31 #[.string ⟨#[255]⟩] w fun e w' => e = .returned (.bool false) ∧ Below w.heap.size w w' :=
  (Valid_any ⟨#[255]⟩ w (by decide)).mono fun _ _ ⟨h1, h2⟩ => by
    rw [vfrom_ex2] at h1
    exact ⟨h1, h2⟩

/-- What is known when the examples are read. -/
theorem awake_parts {w w1 w2 w3 w4 w5 : World} {o : Obj} {v1 v2 : Value} {g : Nat} {l1 l2 : List UInt8} (hb1 : BytesAt w1.heap.size w1 v1 l1) (hbel1 : Below w.heap.size w w1) (hb2 : BytesAt w2.heap.size w2 v2 l2) (hbel2 : Below w1.heap.size w1 w2)
    (hg : (w2.alloc o).heap.size ≤ g) (hbel3 : Below (w2.alloc o).heap.size (w2.alloc o) w3) (h4 : w3.grownBy w4 (some g)) (h5 : w4.grownBy w5 (some g)) :
    (convert 22 9 v1).run Try.prog w5 = .ok (.string ⟨l1.toArray⟩) w5 ∧ (convert 22 9 v2).run Try.prog w5 = .ok (.string ⟨l2.toArray⟩) w5 ∧ Below w.heap.size w w5 := by
  have s1 := hbel1.size
  have s2 := hbel2.size
  have s3 := hbel3.size
  have s4 := h4.size
  simp at hg s3
  have B2 : Below w2.heap.size w2 w5 := below_grownBy (below_grownBy (((Below.refl _ w2).alloc (Nat.le_refl _) o).trans (hbel3.mono (by simp))) h4 (by omega) (by omega)) h5 (by omega) (by omega)
  have B1 : Below w1.heap.size w1 w5 := hbel2.trans (B2.mono s2)
  exact ⟨conv_bytes (hb1.below B1), conv_bytes (hb2.below B2), hbel1.trans (B1.mono s1)⟩

set_option maxHeartbeats 1600000 in
theorem awake_any (w : World) : Calls Try.prog 9 #[] w fun e w' => e = .returned (.bool true) ∧ Below w.heap.size w w' := by
  go_enter Try.func9, Try.ntmps9
  go_wp2_with (first
    | (go_at_call 10; refine (ulist_ex_call w).mono ?_; rintro e w1 ⟨v1, rfl, hb1, hbel1⟩)
    | (go_at_call 11; refine (slist_ex_call w1).mono ?_; rintro e w2 ⟨v2, rfl, hb2, hbel2⟩)
    | (go_at_call 16; refine (Read_any (w2.heap.size + 1) _ [128, 127, 131, 16] _ (bytes_lit [128, 127, 131, 16] _ rfl 4 rfl (by simp)) (by simp)).mono ?_; rintro e w3 ⟨g, rfl, hg, hR, hbel3⟩)
    | (go_at_call 19; refine (rS_ex w3 g hR).mono ?_; rintro e w4 ⟨rfl, hR4, hG4⟩)
    | (go_at_call 17; refine (rU_ex w4 g hR4).mono ?_; rintro e w5 ⟨rfl, hR5, hG5⟩; obtain ⟨hc1, hc2, hB5⟩ := awake_parts hb1 hbel1 hb2 hbel2 hg hbel3 hG4 hG5)
    | (go_at_call 30; refine (Err_any w5 g _ _ hR5).mono ?_; rintro e w6 ⟨rfl, rfl⟩)
    | (go_at_call 31; (with_reducible refine (Valid_ex w5).mono ?_); rintro e w6 ⟨rfl, hB6⟩)
    | (go_at_call 31; (with_reducible refine (Valid_ex2 w6).mono ?_); rintro e w7 ⟨rfl, hB7⟩))
  go_ret
  exact ⟨rfl, hB5.trans ((hB6.mono hB5.size).trans (hB7.mono (Nat.le_trans hB5.size hB6.size)))⟩

end Go.Proofs.Ytljfhedmpnikiaa
