/-
  The contract of the laws' own awake: it answers true. No condition.
-/
import Derived.Test.YtlifnddofgeaaaaRef3
set_option linter.unusedSimpArgs false
set_option linter.unusedVariables false
set_option maxRecDepth 100000
namespace Go.Proofs.Ytlifnddofgeaaaa
open Go.RowKit

theorem MemA.below {B gm N c : Nat} {mn mx : Int} {has : Bool} {p : Option Addr} {xs : List Value} {w w' : World} (h : MemA B gm mn mx has p N c xs w) (hb : Below w.heap.size w w') : MemA B gm mn mx has p N c xs w' := ⟨h.box.below hb h.box.lt, h.row.below hb⟩
theorem TabA.below {B gm N c : Nat} {rf mn mx : Int} {has : Bool} {p : Option Addr} {xs : List Value} {w w' : World} (h : TabA B gm rf mn mx has p N c xs w) (hb : Below w.heap.size w w') : TabA B gm rf mn mx has p N c xs w' := ⟨h.box.below hb h.box.lt, h.row.below hb⟩
theorem TabA.keep {B gm N c : Nat} {rf mn mx : Int} {has : Bool} {p : Option Addr} {xs : List Value} {w w' : World} {k : Option Nat} (h : TabA B gm rf mn mx has p N c xs w) (hk : KP k w w') (h1 : k ≠ some gm) (h2 : ∀ g, blk p = some g → k ≠ some g) : TabA B gm rf mn mx has p N c xs w' := ⟨h.box.keep hk h1, h.row.keep hk (by rintro g o rfl; exact h2 g rfl)⟩
theorem field_3 (w : World) (a b c : Value) (d : Bool) : (Instr.field 32 (.agg #[a, b, c, .bool d]) 3).run Try.prog w = .ok (.bool d) w := by
  simp [Instr.field, run_underlying Try.underlying32, asAgg, part, isAgg, run_underlying Try.underlying4]
/-- A row that is written out. -/
theorem lit_src (T s n : Nat) (w : World) (cs : Array Value) (fr : Nat × Nat) (hl : cs.size = n * s) (h1 : ∀ u ∈ cs.toList, u.oneCell' = true) : Src s (some ⟨w.heap.size, 0, none⟩) n cs.toList (w.alloc (.cells cs T fr)) := by
  refine ⟨by simpa using hl, h1, fun _ => ⟨w.heap.size, 0, rfl, by simp, fun j u hj => ?_⟩⟩
  rw [Nat.zero_add, cell_of_row _ _ _ _ T _ (heap_alloc_new _ _)]
  simpa using hj
theorem lit_row (B T s n : Nat) (w : World) (cs : Array Value) (hB : B ≤ w.heap.size) (hn : n ≤ maxLen) (hl : cs.size = n * s) (h1 : ∀ u ∈ cs.toList, u.oneCell' = true) : Row B T s (some ⟨w.heap.size, 0, none⟩) n n cs.toList (w.alloc (.cells cs T)) :=
  ⟨⟨by simpa using hl, .inr ⟨w.heap.size, n, cs, rfl, hB, heap_alloc_new _ _, Nat.le_refl _, hn, hl, by rw [List.take_of_length_le (by simp; omega)]⟩⟩, h1⟩
def zB : Value := .int .u8 0
theorem aw_aux (n : Nat) (x y : Value) : cut (splice (repC [zB] (n + 1 + 1 + 1)) 3 [x, y]) 2 3 = [zB, x, y] := by
  simp only [repC]
  generalize repC [zB] n = R
  simp [splice, cut]
theorem aw_read (x y : Value) : cut (splice (repC [zB] 65536) 3 [x, y]) 2 3 = [zB, x, y] := aw_aux 65533 x y
theorem okF_1 : okF 65536 65536 0 = true := by decide
theorem okF_2 : okF 65536 65537 0 = false := by decide
theorem okP_1 : okP 65536 2 3 0 2 = true := by decide
theorem roomB_1 : roomB 1 1 (lim65 9) 1 true = false := by decide
theorem roomB_2 : roomB 2 2 10000 0 false = true := by decide
def rowA : List Value := splice (repC [zB] 65536) 3 [.int .u8 97, .int .u8 98]
def rowT : List Value := [.int .i64 0, .int .u64 0, .int .u64 0, .bool false, .int .i64 0, .int .u64 0, .int .u64 0, .bool false]
set_option maxHeartbeats 4000000 in
theorem awake_says (w : World) : Calls Try.prog 8 #[] w fun e w' => e = .returned (.bool true) ∧ Below w.heap.size w w' := by
  obtain ⟨i0, hi0, hz0, hz1, hz2⟩ := info_parts info5
  go_enter Try.func8, Try.ntmps8
  go_upto_region 2 with (at_make; refine wpList_make_full _ rfl _ _ 27 rfl w.heap.size 5 i0 (.int .u8 0) 1 Try.underlying27 hi0 hz0 hz1 .i64 .i64 _ _ 65536 rfl rfl rfl rfl (by rw [hz2]; omega) (by unfold maxLen; omega) (Nat.le_refl _) ?_; intro w2 hown2 hgrow2)
  have hb2 := (Below.refl w.heap.size w).grown hgrow2 (Nat.le_refl _) (by simp)
  rw [madeB] at hown2
  have hr2 : Row w.heap.size 5 1 (some ⟨w.heap.size, 0, none⟩) 65536 65536 (repC [zB] 65536) w2 := ⟨hown2, repC_one (by simp [Value.oneCell', zB]) _⟩
  have HM3 : Hid (MemA w.heap.size w2.heap.size 0 1 true (some ⟨w.heap.size, 0, none⟩) 65536 65536 (repC [zB] 65536) (w2.alloc (.cells #[.int .i64 0, .int .i64 1, .bool true, .slice (some ⟨w.heap.size, 0, none⟩) 65536 65536] 29))) := ⟨CA.new _ _ _, hr2.below ((Below.refl _ _).alloc (Nat.le_refl _) _)⟩
  have HB3 := hid (hb2.alloc hb2.size (.cells #[.int .i64 0, .int .i64 1, .bool true, .slice (some ⟨w.heap.size, 0, none⟩) 65536 65536] 29))
  have HG := hid hb2.size
  generalize w2.alloc (.cells #[.int .i64 0, .int .i64 1, .bool true, .slice (some ⟨w.heap.size, 0, none⟩) 65536 65536] 29) = w3 at *
  generalize w2.heap.size = gm at *
  clear hr2 hb2 hown2 hgrow2 hi0 hz0 hz1 hz2
  have HWB : Hid (∀ g, blk (some ⟨w.heap.size, 0, none⟩) = some g → w.heap.size ≤ g) := by intro g h; have hh : w.heap.size = g := (by simpa [blk] using h); omega
  have P1 : ∀ W, w.heap.size ≤ W.heap.size → MemA w.heap.size gm 0 1 true (some ⟨w.heap.size, 0, none⟩) 65536 65536 (repC [zB] 65536) W → Hid (Calls Try.prog 11 #[.pointer (some ⟨gm, 0, none⟩), .int .u64 65536, .int .u8 1, .int .u64 0] W fun e w' => e = .returned (.int .i64 0) ∧ MemA w.heap.size gm 0 1 true (some ⟨w.heap.size, 0, none⟩) 65536 65536 (repC [zB] 65536) w' ∧ Below w.heap.size W w') := by
    intro W hB hm
    refine (fill_m w.heap.size gm 0 1 true _ 65536 65536 65536 0 1 _ W hm (by decide) (by decide)).mono fun e w' he => ?_
    rw [okF_1, fillP, if_pos rfl, repC, splice_nil] at he
    exact ⟨he.1, he.2.1, he.2.2.below hB HWB.out⟩
  have P2 : ∀ W, w.heap.size ≤ W.heap.size → MemA w.heap.size gm 0 1 true (some ⟨w.heap.size, 0, none⟩) 65536 65536 (repC [zB] 65536) W → Hid (Calls Try.prog 11 #[.pointer (some ⟨gm, 0, none⟩), .int .u64 65537, .int .u8 1, .int .u64 0] W fun e w' => e = .returned (.int .i64 44) ∧ MemA w.heap.size gm 0 1 true (some ⟨w.heap.size, 0, none⟩) 65536 65536 (repC [zB] 65536) w' ∧ Below w.heap.size W w') := by
    intro W hB hm
    refine (fill_m w.heap.size gm 0 1 true _ 65536 65536 65537 0 1 _ W hm (by decide) (by decide)).mono fun e w' he => ?_
    rw [okF_2, fillP, if_neg (by decide)] at he
    exact ⟨he.1, he.2.1, he.2.2.below hB HWB.out⟩
  have P3 : ∀ W : World, w.heap.size ≤ W.heap.size → MemA w.heap.size gm 0 1 true (some ⟨w.heap.size, 0, none⟩) 65536 65536 (repC [zB] 65536) W → Hid (Calls Try.prog 9 #[.pointer (some ⟨gm, 0, none⟩), .int .u64 3, .slice (some ⟨W.heap.size, 0, none⟩) 2 2] (W.alloc (.cells #[.int .u8 97, .int .u8 98] 5 (2, 3))) fun e w' => e = .returned (.int .i64 0) ∧ MemA w.heap.size gm 0 1 true (some ⟨w.heap.size, 0, none⟩) 65536 65536 rowA w' ∧ Below w.heap.size W w') := by
    intro W hB hm
    have hal := (Below.refl W.heap.size W).alloc (Nat.le_refl _) (.cells #[.int .u8 97, .int .u8 98] 5 (2, 3))
    refine (write_m w.heap.size gm 0 1 true _ _ 65536 65536 2 2 3 _ _ _ (hm.below hal) (lit_src 5 1 2 W #[.int .u8 97, .int .u8 98] (2, 3) rfl (by simp [Value.oneCell'])) (Nat.le_refl _) (by decide) (by decide)).mono fun e w' he => ?_
    rw [okP_1, putP, if_pos rfl] at he
    exact ⟨he.1, he.2.1, (hal.mono hB).trans (he.2.2.below (by simp; omega) HWB.out)⟩
  have P4 : ∀ W, MemA w.heap.size gm 0 1 true (some ⟨w.heap.size, 0, none⟩) 65536 65536 rowA W → Hid (Calls Try.prog 15 #[.pointer (some ⟨gm, 0, none⟩), .int .u64 2, .int .i64 3] W fun e w' => (∃ g, e = .returned (.tuple #[.slice (some ⟨g, 0, none⟩) 3 3, .int .i64 0]) ∧ Src 1 (some ⟨g, 0, none⟩) 3 (Lib.byteCells [0, 97, 98]) w') ∧ Below W.heap.size W w') := by
    intro W hm
    refine (read_m_yes w.heap.size gm 0 1 true _ 65536 65536 2 3 rowA W hm (by decide) (by decide)).mono fun e w' he => ?_
    obtain ⟨⟨g, h1, h2, h3⟩, h4⟩ := he
    rw [rowA, aw_read] at h3
    exact ⟨⟨g, h1, h3.src⟩, h4⟩
  have P5 : ∀ W, MemA w.heap.size gm 0 1 true (some ⟨w.heap.size, 0, none⟩) 65536 65536 rowA W → Hid (Calls Try.prog 17 #[.pointer (some ⟨gm, 0, none⟩), .int .u64 1, .int .i64 9] W fun e w' => e = .returned (.int .i64 (-1)) ∧ Below W.heap.size W w') := fun W hm => hid (grow_m_no w.heap.size gm 0 1 true _ 1 65536 1 9 rowA W hm (by decide) (by decide) (by decide) (by decide) (by decide) (by decide) roomB_1)
  have P6 : ∀ gr gt W, TabA w.heap.size gt 0 0 0 false (some ⟨gr, 0, none⟩) 2 2 rowT W → w.heap.size ≤ W.heap.size → Hid (Calls Try.prog 26 #[.pointer (some ⟨gt, 0, none⟩), .int .u64 2, .agg #[.int .i64 112, .int .u64 5, .int .u64 0, .bool false]] W fun e w' => ∃ g, e = .returned (.int .i64 2) ∧ TabA w.heap.size gt 0 0 0 false (some ⟨g, 0, none⟩) 4 4 (rowT ++ repC [.int .i64 112, .int .u64 5, .int .u64 0, .bool false] 2) w' ∧ KP (some gt) W w') := by
    intro gr gt W ht hB
    refine (grow_t_yes w.heap.size gt 0 0 0 false _ 2 2 2 112 5 0 false rowT W hB ht (by decide) (by decide) (by decide) (by decide) roomB_2).mono fun e w' he => ?_
    obtain ⟨g, h1, h2, h3, h4⟩ := he
    exact ⟨g, h1, h2, h3⟩
  have P7 : ∀ gt g W, TabA w.heap.size gt 0 0 0 false (some ⟨g, 0, none⟩) 4 4 (rowT ++ repC [.int .i64 112, .int .u64 5, .int .u64 0, .bool false] 2) W → Hid (Calls Try.prog 25 #[.pointer (some ⟨gt, 0, none⟩), .int .u64 3] W fun e w' => e = .returned (.tuple #[.agg #[.int .i64 112, .int .u64 5, .int .u64 0, .bool false], .int .i64 0]) ∧ Below W.heap.size W w') := fun gt g W ht => hid (get_t_yes w.heap.size gt 0 0 0 false _ 4 4 3 ⟨112, 5, 0, false⟩ _ W ht (by decide) (by rfl))
  have P8 : ∀ W, Hid (Calls Try.prog 29 #[.int .i64 112] W fun e w' => e = .returned (.agg #[.int .i64 112, .int .u64 0, .int .u64 0, .bool true]) ∧ Below W.heap.size W w') := fun W => hid (zero_p 112 W)
  have hcv := fun (w : World) (C : Array Value) (n c : Nat) => Lib.run_convert_bytes_const (P := Try.prog) w 27 5 C n c Try.underlying27 Try.underlying5
  go_upto_region 6 with (first
    | (go_at_call 11; (with_reducible refine (P1 w3 HB3.out.size HM3.out).out.mono ?_); rintro e w4 ⟨rfl, hm4, hb4⟩; have HM4 := hid hm4; have HB4 := hid (HB3.out.trans hb4); clear hm4 hb4)
    | (go_at_call 11; (with_reducible refine (P2 w4 HB4.out.size HM4.out).out.mono ?_); rintro e w5 ⟨rfl, hm5, hb5⟩; have HM5 := hid hm5; have HB5 := hid (HB4.out.trans hb5); clear hm5 hb5)
    | (go_at_call 9; (with_reducible refine (P3 w5 HB5.out.size HM5.out).out.mono ?_); rintro e w6 ⟨rfl, hm6, hb6⟩; have HM6 := hid hm6; have HB6 := hid (HB5.out.trans hb6); clear hm6 hb6)
    | (go_at_call 15; (with_reducible refine (P4 w6 HM6.out).out.mono ?_); rintro e w7 ⟨⟨g7, rfl, hs7⟩, hb7⟩; have HS7 := hid hs7; have HM7 := hid (HM6.out.below hb7); have HB7 := hid (HB6.out.trans (hb7.mono HB6.out.size)); clear hs7 hb7))
  go_upto_region 7 with fail
  have HT8 : Hid (TabA w.heap.size (w7.heap.size + 1) 0 0 0 false (some ⟨w7.heap.size, 0, none⟩) 2 2 rowT ((w7.alloc (.cells rowT.toArray 32)).alloc (.cells #[.int .i64 0, .int .i64 0, .int .i64 0, .bool false, .slice (some ⟨w7.heap.size, 0, none⟩) 2 2] 54))) := by
    have h1 := CA.new (w7.alloc (.cells rowT.toArray 32)) #[.int .i64 0, .int .i64 0, .int .i64 0, .bool false, .slice (some ⟨w7.heap.size, 0, none⟩) 2 2] 54
    rw [size_al] at h1
    exact ⟨h1, (lit_row w.heap.size 32 4 2 w7 rowT.toArray HB7.out.size (by decide) rfl (by simp [rowT, Value.oneCell'])).below ((Below.refl _ _).alloc (Nat.le_refl _) _)⟩
  have HL8 := hid (((Below.refl w7.heap.size w7).alloc (Nat.le_refl _) (.cells rowT.toArray 32)).alloc (by simp) (.cells #[.int .i64 0, .int .i64 0, .int .i64 0, .bool false, .slice (some ⟨w7.heap.size, 0, none⟩) 2 2] 54))
  have HM8 := hid (HM7.out.below HL8.out)
  have HS8 := hid (HS7.out.below HL8.out)
  have HB8 := hid (HB7.out.trans (HL8.out.mono HB7.out.size))
  have HGT : Hid (gm ≠ w7.heap.size + 1 ∧ g7 ≠ w7.heap.size + 1) := by
    have h1 := HM7.out.box.lt
    obtain ⟨g, o, e, h2, _⟩ := HS7.out.at_ (by simp [Lib.byteCells])
    cases e
    constructor <;> omega
  have HGW := hid HB7.out.size
  simp only [rowT] at HT8 HL8 HM8 HS8 HB8
  generalize (w7.alloc (.cells #[.int .i64 0, .int .u64 0, .int .u64 0, .bool false, .int .i64 0, .int .u64 0, .int .u64 0, .bool false] 32)).alloc (.cells #[.int .i64 0, .int .i64 0, .int .i64 0, .bool false, .slice (some ⟨w7.heap.size, 0, none⟩) 2 2] 54) = w8 at *
  clear HL8 HM7 HS7 HB7 HM6 HB6 HM5 HB5 HM4 HB4 HM3 HB3 P1 P2 P3 P4 HG
  generalize hgt : w7.heap.size + 1 = gt at *
  go_upto_region 9 with (first
    | (go_at_call 26; (with_reducible refine (P6 _ _ w8 HT8.out HB8.out.size).out.mono ?_); rintro e w9 ⟨g9, rfl, ht9, hk9⟩; have HT9 := hid ht9; have HM9 : Hid (MemA w.heap.size gm 0 1 true (some ⟨w.heap.size, 0, none⟩) 65536 65536 rowA w9) := ⟨HM8.out.box.keep hk9 (by have := HGT.out.1; simpa using this.symm), HM8.out.row.keep hk9 (by rintro _ _ ⟨⟩ e; cases e; have := HGW.out; omega)⟩; have HS9 := hid (HS8.out.keep hk9 (by rintro _ _ ⟨⟩ e; cases e; exact HGT.out.2 rfl)); have HB9 := hid (HB8.out.trans (hk9.below HB8.out.size (by rintro _ ⟨⟩; have := HGW.out; omega))); clear ht9 hk9)
    | (go_at_call 25; (with_reducible refine (P7 _ _ w9 HT9.out).out.mono ?_); rintro e w10 ⟨rfl, hb10⟩; have HM10 := hid (HM9.out.below hb10); have HS10 := hid (HS9.out.below hb10); have HB10 := hid (HB9.out.trans (hb10.mono HB9.out.size)); clear hb10))
  have HX11 := hid (CA.new w10 #[.int .i64 112, .int .u64 5, .int .u64 0, .bool false] 32)
  have HL11 := hid ((Below.refl w10.heap.size w10).alloc (Nat.le_refl _) (.cells #[.int .i64 112, .int .u64 5, .int .u64 0, .bool false] 32))
  have HM11 := hid (HM10.out.below HL11.out)
  have HS11 := hid (HS10.out.below HL11.out)
  have HB11 := hid (HB10.out.trans (HL11.out.mono HB10.out.size))
  generalize w10.alloc (.cells #[.int .i64 112, .int .u64 5, .int .u64 0, .bool false] 32) = w11 at *
  generalize w10.heap.size = gx at *
  clear HL11 HM10 HS10 HB10 HT9 HM9 HS9 HB9 HT8 HM8 HS8 HB8 hcv P6 P7 HWB
  have hf := field_3
  go_wp2_with (first
    | (go_at_call 17; (with_reducible refine (P5 w11 HM11.out).out.mono ?_); rintro e w12 ⟨rfl, hb12⟩; have hx12 := HX11.out.below hb12 HX11.out.lt; have x1 := hx12.at (k := 1) (v := .int .u64 5) rfl; have hcv : (convert 27 9 (.slice (some ⟨g7, 0, none⟩) 3 3)).run Try.prog w12 = .ok (.string ⟨#[0, 97, 98]⟩) w12 := conv_bytes (HS11.out.below hb12); have HB12 := hid (HB11.out.trans (hb12.mono HB11.out.size)); clear hb12 hx12)
    | (go_at_call 29; (with_reducible refine (P8 w12).out.mono ?_); rintro e w13 ⟨rfl, hb13⟩; have HB13 := hid (HB12.out.trans (hb13.mono HB12.out.size)); clear hb13))
  go_ret
  exact ⟨rfl, HB13.out⟩
end Go.Proofs.Ytlifnddofgeaaaa
