/-
  The contracts of the table's methods, of Zero, and of methods of what is none. Condition: what lies behind the table.
-/
import Derived.Test.YtlifnddofgeaaaaGrow
set_option linter.unusedSimpArgs false
set_option linter.unusedVariables false
set_option maxRecDepth 100000
namespace Go.Proofs.Ytlifnddofgeaaaa
open Go.RowKit

/-- A value, as one, and as its cells. -/
structure V4 where
  t : Int
  lo : Nat
  hi : Nat
  nl : Bool
def V4.v (x : V4) : Value := .agg #[.int .i64 x.t, .int .u64 x.lo, .int .u64 x.hi, .bool x.nl]
def V4.cs (x : V4) : List Value := [.int .i64 x.t, .int .u64 x.lo, .int .u64 x.hi, .bool x.nl]
/-- A table: what its block holds, and its values. -/
structure TabA (B gm : Nat) (rf mn mx : Int) (has : Bool) (p : Option Addr) (N c : Nat) (xs : List Value) (w : World) : Prop where
  box : CA gm #[.int .i64 rf, .int .i64 mn, .int .i64 mx, .bool has, .slice p N c] 54 w
  row : Row B 32 4 p N c xs w
set_option maxHeartbeats 1000000 in
theorem init_t (B gm : Nat) (rf mn mx : Int) (has : Bool) (p sp : Option Addr) (N c M sc to_ from_ n : Nat) (xs ys : List Value) (w : World) (hm : TabA B gm rf mn mx has p N c xs w) (hs : Src 4 sp M ys w) (hM : M ≤ sc) (hsc : sc < 9223372036854775808) (hto : to_ < 18446744073709551616) (hfr : from_ < 18446744073709551616) (hn : n < 18446744073709551616) :
    Calls Try.prog 24 #[.pointer (some ⟨gm, 0, none⟩), .int .u64 to_, .int .u64 from_, .int .u64 n, .slice sp M sc] w fun e w' => e = .returned (.int .i64 (errP (okP N M to_ from_ n) 45)) ∧ TabA B gm rf mn mx has p N c (putP (okP N M to_ from_ n) 4 xs ys to_ from_ n) w' ∧ KP (blk p) w w' := by
  have P := hid (move_v B p sp N c M sc to_ from_ n xs ys w hm.row hs hM hsc hto hfr hn)
  have HM := hid hm
  have b3 : w.cell? ⟨gm, 4, none⟩ = some (.slice p N c) := hm.box.at rfl
  generalize okP N M to_ from_ n = ok at P ⊢
  clear hm hs hM hsc hto hfr hn
  cases ok <;> (
    go_enter Try.func24, Try.ntmps24
    go_wp2_with (go_at_call 37; (with_reducible refine P.out.mono ?_); rintro e w1 ⟨rfl, hr1, hk1⟩; have HR1 := hid hr1; have HK1 := hid hk1; clear hr1 hk1)
    go_ret
    exact ⟨rfl, ⟨HM.out.box.keep HK1.out (HM.out.row.typ HM.out.box (by decide)), HR1.out⟩, HK1.out⟩)
set_option maxHeartbeats 1000000 in
theorem copy_t (B gm : Nat) (rf mn mx : Int) (has : Bool) (p sp : Option Addr) (N c M sc to_ from_ n gx : Nat) (xs ys : List Value) (w : World) (hm : TabA B gm rf mn mx has p N c xs w) (hx : w.cell? ⟨gx, 4, none⟩ = some (.slice sp M sc)) (hs : Src 4 sp M ys w) (hM : M ≤ sc) (hsc : sc < 9223372036854775808) (hto : to_ < 18446744073709551616) (hfr : from_ < 18446744073709551616) (hn : n < 18446744073709551616) :
    Calls Try.prog 23 #[.pointer (some ⟨gm, 0, none⟩), .int .u64 to_, .int .u64 from_, .int .u64 n, .pointer (some ⟨gx, 0, none⟩)] w fun e w' => e = .returned (.int .i64 (errP (okP N M to_ from_ n) 45)) ∧ TabA B gm rf mn mx has p N c (putP (okP N M to_ from_ n) 4 xs ys to_ from_ n) w' ∧ KP (blk p) w w' := by
  have P := hid (init_t B gm rf mn mx has p sp N c M sc to_ from_ n xs ys w hm hs hM hsc hto hfr hn)
  generalize okP N M to_ from_ n = ok at P ⊢
  clear hm hs hM hsc hto hfr hn
  go_enter Try.func23, Try.ntmps23
  go_wp2_with (go_at_call 24; (with_reducible refine P.out.mono ?_); rintro e w1 ⟨rfl, hr1, hk1⟩; have HR1 := hid hr1; have HK1 := hid hk1; clear hr1 hk1)
  go_ret
  exact ⟨rfl, HR1.out, HK1.out⟩
set_option maxHeartbeats 1000000 in
theorem fill_t (B gm : Nat) (rf mn mx : Int) (has : Bool) (p : Option Addr) (N c at_ n : Nat) (x : V4) (xs : List Value) (w : World) (hm : TabA B gm rf mn mx has p N c xs w) (ha : at_ < 18446744073709551616) (hn : n < 18446744073709551616) :
    Calls Try.prog 21 #[.pointer (some ⟨gm, 0, none⟩), .int .u64 at_, x.v, .int .u64 n] w fun e w' => e = .returned (.int .i64 (errP (okF N at_ n) 45)) ∧ TabA B gm rf mn mx has p N c (fillP (okF N at_ n) 4 xs x.cs at_ n) w' ∧ KP (blk p) w w' := by
  obtain ⟨x0, x1, x2, x3⟩ := x
  simp only [V4.v, V4.cs]
  have hal := (Below.refl w.heap.size w).alloc (Nat.le_refl _) (.cells #[.int .i64 x0, .int .u64 x1, .int .u64 x2, .bool x3] 32)
  have PM := fun W (h : Row B 32 4 p N c xs W) => fill_v B p N c at_ n x0 x1 x2 x3 xs W h ha hn
  have HM := hid hm
  have hgl := hm.box.lt
  have b3 : (w.alloc (.cells #[.int .i64 x0, .int .u64 x1, .int .u64 x2, .bool x3] 32)).cell? ⟨gm, 4, none⟩ = some (.slice p N c) := (hm.box.alloc _).at rfl
  generalize okF N at_ n = ok at PM ⊢
  have HX0 := hid (CA.new w #[.int .i64 x0, .int .u64 x1, .int .u64 x2, .bool x3] 32)
  have HRW0 := hid (hm.row.below hal)
  have HK0 := hid ((KP.refl (blk p) w).alloc (.cells #[.int .i64 x0, .int .u64 x1, .int .u64 x2, .bool x3] 32))
  have HCM := hid (hm.box.alloc (.cells #[.int .i64 x0, .int .u64 x1, .int .u64 x2, .bool x3] 32))
  have HTY := hid (hm.row.typ hm.box (by decide))
  have HBX : Hid (blk p ≠ some w.heap.size) := by
    intro e
    cases p with
    | none => cases e
    | some a =>
      have h2 := hm.row.own.lt a.block rfl
      have h3 : a.block = w.heap.size := by simpa [blk] using e
      omega
  clear hm ha hn hal b3
  go_enter Try.func21, Try.ntmps21
  go_upto_region 3 with fail
  have hS : KP (blk p) w (w.alloc (.cells #[.int .i64 x0, .int .u64 x1, .int .u64 x2, .bool x3] 32)).drew ∧ CA gm #[.int .i64 rf, .int .i64 mn, .int .i64 mx, .bool has, .slice p N c] 54 (w.alloc (.cells #[.int .i64 x0, .int .u64 x1, .int .u64 x2, .bool x3] 32)).drew ∧ CA w.heap.size #[.int .i64 x0, .int .u64 x1, .int .u64 x2, .bool x3] 32 (w.alloc (.cells #[.int .i64 x0, .int .u64 x1, .int .u64 x2, .bool x3] 32)).drew := ⟨HK0.out.drew, HCM.out, HX0.out⟩
  have HRW : Hid (Row B 32 4 p N c xs (w.alloc (.cells #[.int .i64 x0, .int .u64 x1, .int .u64 x2, .bool x3] 32)).drew) := HRW0.out.drew
  clear HX0 HRW0 HK0 HCM
  refine wp_region_held_drew (S := fun W => KP (blk p) w W ∧ CA gm #[.int .i64 rf, .int .i64 mn, .int .i64 mx, .bool has, .slice p N c] 54 W ∧ CA w.heap.size #[.int .i64 x0, .int .u64 x1, .int .u64 x2, .bool x3] 32 W) (by kernel_rfl) hS (fun _ => ?_)
  generalize (w.alloc (.cells #[.int .i64 x0, .int .u64 x1, .int .u64 x2, .bool x3] 32)).drew = W at *
  refine wpAnyH_take (oi := ⟨_, _, _, _, _, _⟩) (i := 0) (v := .pointer (some ⟨gm, 0, none⟩)) rfl (by kernel_rfl) (by kernel_rfl) (by kernel_rfl) (fun _ _ _ h => h) (Or.inl ⟨by rfl, ?_⟩) (by assumption) ?_
  · (intro W hSw; (have y4 := hSw.2.1.at (k := 4) rfl); (have x0 := hSw.2.2.at (k := 0) rfl); (have x1 := hSw.2.2.at (k := 1) rfl); (have x2 := hSw.2.2.at (k := 2) rfl); (have x3 := hSw.2.2.at (k := 3) rfl); clear hSw; go_simp; try (exact wrap_b8 _); try (with_reducible rfl))
  try simp only [Act.put, List.setIfInBounds_toArray, List.set_cons_zero, List.set_cons_succ]
  refine wpAnyH_take (oi := ⟨_, _, _, _, _, _⟩) (i := 1) (v := .pointer (some ⟨gm, 0, none⟩)) rfl (by kernel_rfl) (by kernel_rfl) (by kernel_rfl) (fun _ _ _ h => h) (Or.inl ⟨by rfl, ?_⟩) (by assumption) ?_
  · (intro W hSw; (have y4 := hSw.2.1.at (k := 4) rfl); (have x0 := hSw.2.2.at (k := 0) rfl); (have x1 := hSw.2.2.at (k := 1) rfl); (have x2 := hSw.2.2.at (k := 2) rfl); (have x3 := hSw.2.2.at (k := 3) rfl); clear hSw; go_simp; try (exact wrap_b8 _); try (with_reducible rfl))
  try simp only [Act.put, List.setIfInBounds_toArray, List.set_cons_zero, List.set_cons_succ]
  refine wpAnyH_take (oi := ⟨_, _, _, _, _, _⟩) (i := 2) (v := .pointer (some ⟨gm, 4, none⟩)) rfl (by kernel_rfl) (by kernel_rfl) (by kernel_rfl) (fun _ _ _ h => h) (Or.inl ⟨by rfl, ?_⟩) (by assumption) ?_
  · (intro W hSw; (have y4 := hSw.2.1.at (k := 4) rfl); (have x0 := hSw.2.2.at (k := 0) rfl); (have x1 := hSw.2.2.at (k := 1) rfl); (have x2 := hSw.2.2.at (k := 2) rfl); (have x3 := hSw.2.2.at (k := 3) rfl); clear hSw; go_simp; try (exact wrap_b8 _); try (with_reducible rfl))
  try simp only [Act.put, List.setIfInBounds_toArray, List.set_cons_zero, List.set_cons_succ]
  refine wpAnyH_take (oi := ⟨_, _, _, _, _, _⟩) (i := 3) (v := .slice p N c) rfl (by kernel_rfl) (by kernel_rfl) (by kernel_rfl) (fun _ _ _ h => h) (Or.inl ⟨by rfl, ?_⟩) (by assumption) ?_
  · (intro W hSw; (have y4 := hSw.2.1.at (k := 4) rfl); (have x0 := hSw.2.2.at (k := 0) rfl); (have x1 := hSw.2.2.at (k := 1) rfl); (have x2 := hSw.2.2.at (k := 2) rfl); (have x3 := hSw.2.2.at (k := 3) rfl); clear hSw; go_simp; try (exact wrap_b8 _); try (with_reducible rfl))
  try simp only [Act.put, List.setIfInBounds_toArray, List.set_cons_zero, List.set_cons_succ]
  refine wpAnyH_take (oi := ⟨_, _, _, _, _, _⟩) (i := 4) (v := .int .u64 at_) rfl (by kernel_rfl) (by kernel_rfl) (by kernel_rfl) (fun _ _ _ h => h) (Or.inl ⟨by rfl, ?_⟩) (by assumption) ?_
  · (intro W hSw; (have y4 := hSw.2.1.at (k := 4) rfl); (have x0 := hSw.2.2.at (k := 0) rfl); (have x1 := hSw.2.2.at (k := 1) rfl); (have x2 := hSw.2.2.at (k := 2) rfl); (have x3 := hSw.2.2.at (k := 3) rfl); clear hSw; go_simp; try (exact wrap_b8 _); try (with_reducible rfl))
  try simp only [Act.put, List.setIfInBounds_toArray, List.set_cons_zero, List.set_cons_succ]
  refine wpAnyH_take (oi := ⟨_, _, _, _, _, _⟩) (i := 5) (v := .agg #[.int .i64 x0, .int .u64 x1, .int .u64 x2, .bool x3]) rfl (by kernel_rfl) (by kernel_rfl) (by kernel_rfl) (fun _ _ _ h => h) (Or.inl ⟨by rfl, ?_⟩) (by assumption) ?_
  · (intro W hSw; (have y4 := hSw.2.1.at (k := 4) rfl); (have x0 := hSw.2.2.at (k := 0) rfl); (have x1 := hSw.2.2.at (k := 1) rfl); (have x2 := hSw.2.2.at (k := 2) rfl); (have x3 := hSw.2.2.at (k := 3) rfl); clear hSw; go_simp; try (exact wrap_b8 _); try (with_reducible rfl))
  try simp only [Act.put, List.setIfInBounds_toArray, List.set_cons_zero, List.set_cons_succ]
  refine wpAnyH_take (oi := ⟨_, _, _, _, _, _⟩) (i := 6) (v := .int .u64 n) rfl (by kernel_rfl) (by kernel_rfl) (by kernel_rfl) (fun _ _ _ h => h) (Or.inl ⟨by rfl, ?_⟩) (by assumption) ?_
  · (intro W hSw; (have y4 := hSw.2.1.at (k := 4) rfl); (have x0 := hSw.2.2.at (k := 0) rfl); (have x1 := hSw.2.2.at (k := 1) rfl); (have x2 := hSw.2.2.at (k := 2) rfl); (have x3 := hSw.2.2.at (k := 3) rfl); clear hSw; go_simp; try (exact wrap_b8 _); try (with_reducible rfl))
  try simp only [Act.put, List.setIfInBounds_toArray, List.set_cons_zero, List.set_cons_succ]
  refine wpAnyH_ready (rs := [7]) (by kernel_rfl) (by simp) ?_
  refine AllReadyH.cons (o := ⟨_, _, _, _, _, _⟩) rfl (fun K hK => ?_) ?_
  · go_simp
    go_at_call 36
    (with_reducible refine (PM W HRW.out).mono ?_)
    rintro e W1 ⟨rfl, hr1, hk1⟩
    replace hS := And.intro (hS.1.trans hk1) (And.intro (hS.2.1.keep hk1 HTY.out) (hS.2.2.keep hk1 HBX.out))
    have HR1 := hid hr1
    clear hr1 hk1
    refine hK.out _ _ hS (fun _ => ?_)
    clear hK K
    try simp only [Act.put, List.setIfInBounds_toArray, List.set_cons_zero, List.set_cons_succ]
    refine wpAnyH_take (oi := ⟨_, _, _, _, _, _⟩) (i := 8) (v := .bool (!ok)) rfl (by kernel_rfl) (by kernel_rfl) (by kernel_rfl) (fun _ _ _ h => h) (Or.inl ⟨by rfl, ?_⟩) (by assumption) ?_
    · (intro W hSw; (have y4 := hSw.2.1.at (k := 4) rfl); (have x0 := hSw.2.2.at (k := 0) rfl); (have x1 := hSw.2.2.at (k := 1) rfl); (have x2 := hSw.2.2.at (k := 2) rfl); (have x3 := hSw.2.2.at (k := 3) rfl); clear hSw; go_simp; try (exact wrap_b8 _); try (with_reducible rfl))
    try simp only [Act.put, List.setIfInBounds_toArray, List.set_cons_zero, List.set_cons_succ]
    refine wpAnyH_done (by kernel_rfl) ?_ _
    have HF := hid hS
    clear hS
    cases ok <;> (
      go_wp2
      go_ret
      exact ⟨rfl, ⟨HF.out.2.1, HR1.out⟩, HF.out.1⟩)
  exact AllReadyH.nil
end Go.Proofs.Ytlifnddofgeaaaa
