/-
  The contracts of the table's Set, Get, and of Zero on both sides. Condition: what lies behind the table.
-/
import Derived.Test.YtlifnddofgeaaaaTab
import Derived.Laws.ResultCell
import Derived.Laws.Rows
set_option linter.unusedSimpArgs false
set_option linter.unusedVariables false
set_option maxRecDepth 100000
namespace Go.Proofs.Ytlifnddofgeaaaa
open Go.RowKit

set_option maxHeartbeats 1000000 in
theorem set_t (B gm : Nat) (rf mn mx : Int) (has : Bool) (p : Option Addr) (N c at_ : Nat) (x : V4) (xs : List Value) (w : World) (hB : B ≤ w.heap.size) (hm : TabA B gm rf mn mx has p N c xs w) (ha : at_ < 18446744073709551616) :
    Calls Try.prog 19 #[.pointer (some ⟨gm, 0, none⟩), .int .u64 at_, x.v] w fun e w' => e = .returned (.int .i64 (errP (okF N at_ 1) 45)) ∧ TabA B gm rf mn mx has p N c (fillP (okF N at_ 1) 4 xs x.cs at_ 1) w' ∧ KP (blk p) w w' := by
  have PM : ∀ W, Below w.heap.size w W → Hid (Calls Try.prog 21 #[.pointer (some ⟨gm, 0, none⟩), .int .u64 at_, x.v, .int .u64 1] W fun e w' => e = .returned (.int .i64 (errP (okF N at_ 1) 45)) ∧ TabA B gm rf mn mx has p N c (fillP (okF N at_ 1) 4 xs x.cs at_ 1) w' ∧ KP (blk p) W w') := fun W hb => hid (fill_t B gm rf mn mx has p N c at_ 1 x xs W ⟨hm.box.below hb hm.box.lt, hm.row.below hb⟩ ha (by decide))
  obtain ⟨x0, x1, x2, x3⟩ := x
  simp only [V4.v] at PM ⊢
  have PMW := PM _ ((Below.refl w.heap.size w).alloc (Nat.le_refl _) (.cells #[.int .i64 x0, .int .u64 x1, .int .u64 x2, .bool x3] 32))
  generalize okF N at_ 1 = ok at PMW ⊢
  clear PM hm
  go_enter Try.func19, Try.ntmps19
  go_wp2_with (go_at_call 21; (with_reducible refine PMW.out.mono ?_); rintro e w1 ⟨rfl, hr1, hk1⟩; have HR1 := hid hr1; have HK1 := hid hk1; clear hr1 hk1)
  go_ret
  exact ⟨rfl, HR1.out, ((KP.refl (blk p) w).alloc _).trans HK1.out⟩
def zeroV (t : Int) : V4 := ⟨t, 0, 0, t == 112 || t == 111⟩
theorem size32s : (Try.prog.info? 32).map (·.size) = some 4 := by kernel_rfl
theorem results_cell_row2 {P : Program} {fn : Func} {p u : Tmp} {ty : TypeId} (h : fn.results = #[.cell p ty, .tmp u]) (tmps : Array Value) (w : World) (g : Nat) (t : TypeId) (cs : Array Value) (fr : Nat × Nat) (d : TypeDesc)
    (hp : tmps.getD p undef = .pointer (some ⟨g, 0, none⟩)) (hg : w.heap[g]? = some (.cells cs t fr))
    (hu : P.underlying ty = some d) (hd : (match d with | .struct _ | .array _ _ => true | _ => false) = true) (hi : (P.info? ty).map (·.size) = some cs.size) :
    (results fn tmps).run P w = .ok (.tuple #[.agg cs, tmps.getD u undef]) w := by
  have hp' : tmps[p]?.getD undef = .pointer (some ⟨g, 0, none⟩) := by simpa using hp
  rw [results_cell_tmp h]
  simp [hp', asAddr, run_loadVar_row w g t ty cs fr d hg hu hd hi, Result.andThen]
set_option maxHeartbeats 1000000 in
theorem zero_p (t : Int) (w : World) : Calls Try.prog 29 #[.int .i64 t] w fun e w' => e = .returned (zeroV t).v ∧ Below w.heap.size w w' := by
  simp only [zeroV, V4.v]
  by_cases h1 : t = 112
  · subst h1
    go_enter Try.func29, Try.ntmps29
    go_wp2
    try simp only [Exit.inBlock, Exit.then]
    refine bodyPost_ret (results_cell_row rfl _ _ w.heap.size 32 _ _ _ rfl (heap_alloc_new _ _) Try.underlying32 rfl size32s) rfl ?_
    exact ⟨rfl, ((Below.refl _ _).alloc (Nat.le_refl _) _)⟩
  · have e1 : (t == 112) = false := by simp [h1]
    go_enter Try.func29, Try.ntmps29
    go_wp2
    try simp only [Exit.inBlock, Exit.then]
    refine bodyPost_ret (results_cell_row rfl _ _ w.heap.size 32 _ _ _ rfl (heap_alloc_new _ _) Try.underlying32 rfl size32s) rfl ?_
    exact ⟨by rw [e1]; rfl, ((Below.refl _ _).alloc (Nat.le_refl _) _)⟩
set_option maxHeartbeats 1000000 in
theorem zero_r (t : Int) (w : World) : Calls Try.prog 30 #[.int .i64 t] w fun e w' => e = .returned (zeroV t).v ∧ Below w.heap.size w w' := by
  simp only [zeroV, V4.v]
  by_cases h1 : t = 112
  · subst h1
    go_enter Try.func30, Try.ntmps30
    go_wp2
    try simp only [Exit.inBlock, Exit.then]
    refine bodyPost_ret (results_cell_row rfl _ _ w.heap.size 32 _ _ _ rfl (heap_alloc_new _ _) Try.underlying32 rfl size32s) rfl ?_
    exact ⟨rfl, ((Below.refl _ _).alloc (Nat.le_refl _) _)⟩
  · have e1 : (t == 112) = false := by simp [h1]
    go_enter Try.func30, Try.ntmps30
    go_wp2
    try simp only [Exit.inBlock, Exit.then]
    refine bodyPost_ret (results_cell_row rfl _ _ w.heap.size 32 _ _ _ rfl (heap_alloc_new _ _) Try.underlying32 rfl size32s) rfl ?_
    exact ⟨by rw [e1]; rfl, ((Below.refl _ _).alloc (Nat.le_refl _) _)⟩
set_option maxHeartbeats 1000000 in
theorem get_t_no (B gm : Nat) (rf mn mx : Int) (has : Bool) (p : Option Addr) (N c at_ : Nat) (xs : List Value) (w : World) (hm : TabA B gm rf mn mx has p N c xs w) (ha : at_ < 18446744073709551616) (h : ¬ (at_ + 1 ≤ N)) :
    Calls Try.prog 25 #[.pointer (some ⟨gm, 0, none⟩), .int .u64 at_] w fun e w' => e = .returned (.tuple #[(⟨0, 0, 0, false⟩ : V4).v, .int .i64 45]) ∧ Below w.heap.size w w' := by
  have hN : N < 9223372036854775808 := by have := hm.row.cap; unfold maxLen at this; omega
  have P : ∀ W, Hid (Calls Try.prog 38 #[.slice p N c, .int .u64 at_, .int .u64 1] W _) := fun W => hid (part_v_no p N c at_ 1 hN ha (by decide) h W)
  have b3 : ∀ o, (w.alloc o).cell? ⟨gm, 4, none⟩ = some (.slice p N c) := fun o => (hm.box.alloc o).at rfl
  simp only [V4.v]
  clear hm h
  have c3 := b3 (.cells #[.int .i64 0, .int .u64 0, .int .u64 0, .bool false] 32)
  clear b3
  go_enter Try.func25, Try.ntmps25
  go_wp2_with (go_at_call 38; (with_reducible refine (P _).out.mono ?_); rintro e w1 ⟨rfl, rfl⟩)
  try simp only [Exit.inBlock, Exit.then]
  refine bodyPost_ret (results_cell_row2 rfl _ _ w.heap.size 32 _ _ _ rfl (heap_alloc_new _ _) Try.underlying32 rfl size32s) rfl ?_
  exact ⟨rfl, ((Below.refl _ _).alloc (Nat.le_refl _) _)⟩
set_option maxHeartbeats 1000000 in
theorem get_t_yes (B gm : Nat) (rf mn mx : Int) (has : Bool) (p : Option Addr) (N c at_ : Nat) (x : V4) (xs : List Value) (w : World) (hm : TabA B gm rf mn mx has p N c xs w) (h : at_ + 1 ≤ N) (hx : cut xs (at_ * 4) (1 * 4) = x.cs) :
    Calls Try.prog 25 #[.pointer (some ⟨gm, 0, none⟩), .int .u64 at_] w fun e w' => e = .returned (.tuple #[x.v, .int .i64 0]) ∧ Below w.heap.size w w' := by
  have hcc : c < 9223372036854775808 := by have := hm.row.cap.2; unfold maxLen at this; omega
  have P : ∀ W, Hid (Calls Try.prog 38 #[.slice p N c, .int .u64 at_, .int .u64 1] W fun e w' => (∃ q cc, e = .returned (.tuple #[.slice q 1 cc, .bool true]) ∧ 1 ≤ cc ∧ cc ≤ c ∧ (1 ≠ 0 → q = p.map fun x => x.add (at_ * 4))) ∧ W = w') := fun W => hid (part_v_yes p N c at_ 1 hm.row.cap.1 hcc h W)
  have b3 : ∀ o, (w.alloc o).cell? ⟨gm, 4, none⟩ = some (.slice p N c) := fun o => (hm.box.alloc o).at rfl
  have HSRC : ∀ q, (1 ≠ 0 → q = p.map fun x => x.add (at_ * 4)) → Hid (Src 4 q 1 x.cs (w.alloc (.cells #[.int .i64 0, .int .u64 0, .int .u64 0, .bool false] 32))) := fun q hq => by
    have := (hm.row.src.below ((Below.refl _ _).alloc (Nat.le_refl _) (.cells #[.int .i64 0, .int .u64 0, .int .u64 0, .bool false] 32))).part (at_ := at_) (n := 1) hq h
    rw [hx] at this
    exact this
  obtain ⟨x0, x1, x2, x3⟩ := x
  simp only [V4.v]
  clear hm h hx
  have c3 := b3 (.cells #[.int .i64 0, .int .u64 0, .int .u64 0, .bool false] 32)
  clear b3
  go_enter Try.func25, Try.ntmps25
  go_wp2_with (go_at_call 38; (with_reducible refine (P _).out.mono ?_); rintro e w1 ⟨⟨q1, c1, rfl, hq1, hcc1, hz1⟩, rfl⟩; obtain ⟨g, o, rfl, hg, ha⟩ := (HSRC q1 hz1).out.at_ (by simp [V4.cs]); have d0 := ha 0 _ rfl; have d1 := ha 1 _ rfl; have d2 := ha 2 _ rfl; have d3 := ha 3 _ rfl; clear ha HSRC hz1 P; rw [Nat.add_zero] at d0)
  try simp only [Exit.inBlock, Exit.then]
  refine bodyPost_ret (results_cell_row2 rfl _ _ w.heap.size 32 _ _ _ rfl (heap_alloc_new _ _) Try.underlying32 rfl size32s) rfl ?_
  exact ⟨rfl, ((Below.refl _ _).alloc (Nat.le_refl _) _)⟩
set_option maxHeartbeats 1000000 in
theorem nil_read (a : Nat) (n : Int) (w : World) : Calls Try.prog 15 #[.pointer none, .int .u64 a, .int .i64 n] w fun e w' => e = .returned (.tuple #[.slice none 0 0, .int .i64 1]) ∧ w = w' := by
  go_enter Try.func15, Try.ntmps15
  go_wp2
  first | go_ret | go_ret2
  exact ⟨rfl, rfl⟩
set_option maxHeartbeats 1000000 in
theorem nil_fill (a n : Nat) (x : Int) (w : World) : Calls Try.prog 11 #[.pointer none, .int .u64 a, .int .u8 x, .int .u64 n] w fun e w' => e = .returned (.int .i64 1) ∧ w = w' := by
  go_enter Try.func11, Try.ntmps11
  go_wp2
  first | go_ret | go_ret2
  exact ⟨rfl, rfl⟩
set_option maxHeartbeats 1000000 in
theorem nil_init (a b n : Nat) (v : Value) (w : World) : Calls Try.prog 14 #[.pointer none, .int .u64 a, .int .u64 b, .int .u64 n, v] w fun e w' => e = .returned (.int .i64 1) ∧ w = w' := by
  go_enter Try.func14, Try.ntmps14
  go_wp2
  first | go_ret | go_ret2
  exact ⟨rfl, rfl⟩
set_option maxHeartbeats 1000000 in
theorem nil_copy (a b n : Nat) (w : World) : Calls Try.prog 13 #[.pointer none, .int .u64 a, .int .u64 b, .int .u64 n] w fun e w' => e = .returned (.int .i64 1) ∧ w = w' := by
  go_enter Try.func13, Try.ntmps13
  go_wp2
  first | go_ret | go_ret2
  exact ⟨rfl, rfl⟩
set_option maxHeartbeats 1000000 in
theorem nil_grow (n : Nat) (m : Int) (w : World) : Calls Try.prog 17 #[.pointer none, .int .u64 n, .int .i64 m] w fun e w' => e = .returned (.int .i64 0) ∧ w = w' := by
  go_enter Try.func17, Try.ntmps17
  go_wp2
  first | go_ret | go_ret2
  exact ⟨rfl, rfl⟩
set_option maxHeartbeats 1000000 in
theorem nilt_fill (a n : Nat) (x0 : Int) (x1 x2 : Nat) (x3 : Bool) (w : World) : Calls Try.prog 21 #[.pointer none, .int .u64 a, .agg #[.int .i64 x0, .int .u64 x1, .int .u64 x2, .bool x3], .int .u64 n] w fun e w' => e = .returned (.int .i64 1) ∧ Below w.heap.size w w' := by
  go_enter Try.func21, Try.ntmps21
  go_wp2
  first | go_ret | go_ret2
  exact ⟨rfl, (Below.refl _ _).alloc (Nat.le_refl _) _⟩
set_option maxHeartbeats 1000000 in
theorem nilt_init (a b n : Nat) (v : Value) (w : World) : Calls Try.prog 24 #[.pointer none, .int .u64 a, .int .u64 b, .int .u64 n, v] w fun e w' => e = .returned (.int .i64 1) ∧ w = w' := by
  go_enter Try.func24, Try.ntmps24
  go_wp2
  first | go_ret | go_ret2
  exact ⟨rfl, rfl⟩
set_option maxHeartbeats 1000000 in
theorem nilt_copy (a b n : Nat) (v : Value) (w : World) : Calls Try.prog 23 #[.pointer none, .int .u64 a, .int .u64 b, .int .u64 n, v] w fun e w' => e = .returned (.int .i64 1) ∧ w = w' := by
  go_enter Try.func23, Try.ntmps23
  go_wp2
  first | go_ret | go_ret2
  exact ⟨rfl, rfl⟩
set_option maxHeartbeats 1000000 in
theorem nilt_grow (n : Nat) (x0 : Int) (x1 x2 : Nat) (x3 : Bool) (w : World) : Calls Try.prog 26 #[.pointer none, .int .u64 n, .agg #[.int .i64 x0, .int .u64 x1, .int .u64 x2, .bool x3]] w fun e w' => e = .returned (.int .i64 0) ∧ Below w.heap.size w w' := by
  go_enter Try.func26, Try.ntmps26
  go_wp2
  first | go_ret | go_ret2
  exact ⟨rfl, (Below.refl _ _).alloc (Nat.le_refl _) _⟩
set_option maxHeartbeats 1000000 in
theorem nil_write (a : Nat) (w : World) : Calls Try.prog 9 #[.pointer none, .int .u64 a, .slice none 0 0] w fun e w' => e = .returned (.int .i64 1) ∧ w = w' := by
  have P : Hid (Calls Try.prog 14 #[.pointer none, .int .u64 a, .int .u64 0, .int .u64 0, .slice none 0 0] w fun e w' => e = .returned (.int .i64 1) ∧ w = w') := hid (nil_init a 0 0 _ w)
  go_enter Try.func9, Try.ntmps9
  go_wp2_with (go_at_call 14; (with_reducible refine P.out.mono ?_); rintro e w1 ⟨rfl, rfl⟩)
  go_ret
  exact ⟨rfl, rfl⟩
set_option maxHeartbeats 1000000 in
theorem nilt_set (a : Nat) (x0 : Int) (x1 x2 : Nat) (x3 : Bool) (w : World) : Calls Try.prog 19 #[.pointer none, .int .u64 a, .agg #[.int .i64 x0, .int .u64 x1, .int .u64 x2, .bool x3]] w fun e w' => e = .returned (.int .i64 1) ∧ Below w.heap.size w w' := by
  have P : ∀ W : World, Hid (Calls Try.prog 21 #[.pointer none, .int .u64 a, .agg #[.int .i64 x0, .int .u64 x1, .int .u64 x2, .bool x3], .int .u64 1] W fun e w' => e = .returned (.int .i64 1) ∧ Below W.heap.size W w') := fun W => hid (nilt_fill a 1 x0 x1 x2 x3 W)
  go_enter Try.func19, Try.ntmps19
  go_wp2_with (go_at_call 21; (with_reducible refine (P _).out.mono ?_); rintro e w1 ⟨rfl, hb⟩; have HB := hid hb; clear hb)
  go_ret
  exact ⟨rfl, ((Below.refl _ _).alloc (Nat.le_refl _) _).trans (HB.out.mono (by simp))⟩
set_option maxHeartbeats 1000000 in
theorem nilt_get (a : Nat) (w : World) : Calls Try.prog 25 #[.pointer none, .int .u64 a] w fun e w' => e = .returned (.tuple #[(⟨0, 0, 0, false⟩ : V4).v, .int .i64 1]) ∧ Below w.heap.size w w' := by
  simp only [V4.v]
  go_enter Try.func25, Try.ntmps25
  go_wp2
  try simp only [Exit.inBlock, Exit.then]
  refine bodyPost_ret (results_cell_row2 rfl _ _ w.heap.size 32 _ _ _ rfl (heap_alloc_new _ _) Try.underlying32 rfl size32s) rfl ?_
  exact ⟨rfl, ((Below.refl _ _).alloc (Nat.le_refl _) _)⟩
set_option maxHeartbeats 1000000 in
theorem copy_t_nil (gm a b n : Nat) (w : World) : Calls Try.prog 23 #[.pointer (some ⟨gm, 0, none⟩), .int .u64 a, .int .u64 b, .int .u64 n, .pointer none] w fun e w' => e = .returned (.int .i64 1) ∧ w = w' := by
  go_enter Try.func23, Try.ntmps23
  go_wp2
  go_ret
  exact ⟨rfl, rfl⟩
set_option maxHeartbeats 1000000 in
theorem read_neg (gm a : Nat) (w : World) : Calls Try.prog 15 #[.pointer (some ⟨gm, 0, none⟩), .int .u64 a, .int .i64 (-1)] w fun e w' => e = .returned (.tuple #[.slice none 0 0, .int .i64 1]) ∧ w = w' := by
  go_enter Try.func15, Try.ntmps15
  go_wp2
  go_ret2
  exact ⟨rfl, rfl⟩
end Go.Proofs.Ytlifnddofgeaaaa
