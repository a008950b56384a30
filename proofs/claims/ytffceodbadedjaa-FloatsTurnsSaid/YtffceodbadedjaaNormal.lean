/-
  The contract of the program's normal. Condition: the number is below 2^64, its power lies far from the ends of int64.
-/
import Derived.Test.YtffceodbadedjaaReg
import Derived.LoopTactic
set_option linter.unusedSimpArgs false
set_option linter.unusedVariables false
namespace Go.Proofs.Ytffceodbadedjaa
open Go.RowKit

/-- The lower bound of a number that is not 0 when shifts by k and less are still to come. -/
def nlow (k : Nat) : Nat := if k = 0 then 2 ^ 63 else 2 ^ (64 - 2 * k)

/-- The state of normal's loop. -/
def NS (w : World) (ng : Bool) (m : Nat) (e : Int) (k : Nat) (wr : World) : Prop :=
  ∃ j : Nat, (j + 2 * k ≤ 64 ∧ j ≤ 63) ∧ (m ≠ 0 → nlow k ≤ m * 2 ^ j) ∧ m * 2 ^ j < 18446744073709551616 ∧ Nb w.heap.size ng ((m * 2 ^ j : Nat) : Int) (e - j) wr ∧ Nb (w.heap.size + 1) false 0 0 wr ∧ Below w.heap.size w wr

/-- What normal gives. -/
def NR (w : World) (ng : Bool) (m : Nat) (e : Int) (r : Ending) (w' : World) : Prop :=
  ∃ j : Nat, j ≤ 63 ∧ (m ≠ 0 → 9223372036854775808 ≤ m * 2 ^ j) ∧ m * 2 ^ j < 18446744073709551616 ∧ r = .returned (.agg #[.bool ng, .int .u64 ((m * 2 ^ j : Nat) : Int), .int .i64 (e - j)]) ∧ Below w.heap.size w w'

theorem NS.start (w : World) (ng : Bool) (m : Nat) (e : Int) (hm : m < 18446744073709551616) :
    NS w ng m e 32 ((w.alloc (.cells #[.bool ng, .int .u64 m, .int .i64 e] 62)).alloc (.cells #[.bool false, .int .u64 0, .int .i64 0] 62)) := by
  refine ⟨0, by omega, fun h => ?_, by simpa using hm, ?_, ?_, balloc (ball w _) _⟩
  · simp [nlow]; omega
  · have := (Nb.new ng m e w).alloc (.cells #[.bool false, .int .u64 0, .int .i64 0] 62)
    simpa using this
  · have := Nb.new false 0 0 (w.alloc (.cells #[.bool ng, .int .u64 m, .int .i64 e] 62))
    simpa using this

/-- A round that shifts. -/
theorem NS.shift {w wr : World} {ng : Bool} {m j : Nat} {e : Int} {k : Nat} (hj : j + 2 * k ≤ 64 ∧ j ≤ 63) (hk : k = 32 ∨ k = 16 ∨ k = 8 ∨ k = 4 ∨ k = 2 ∨ k = 1)
    (hl : m ≠ 0 → nlow k ≤ m * 2 ^ j) (hz : m * 2 ^ j / 2 ^ (64 - k) = 0) (hX : Nb w.heap.size ng ((m * 2 ^ j : Nat) : Int) (e - j) wr) (hR : Nb (w.heap.size + 1) false 0 0 wr) (hB : Below w.heap.size w wr)
    (m' e' : Int) (hm' : m' = ((m * 2 ^ j * 2 ^ k : Nat) : Int)) (he' : e' = e - j - k) :
    NS w ng m e (k / 2) ((wr.setCell ⟨w.heap.size, 1, none⟩ (.int .u64 m')).setCell ⟨w.heap.size, 2, none⟩ (.int .i64 e')) := by
  have hlt : m * 2 ^ j < 2 ^ (64 - k) := by
    rcases Nat.lt_or_ge (m * 2 ^ j) (2 ^ (64 - k)) with h | h
    · exact h
    · have := Nat.div_pos h (Nat.two_pow_pos _); omega
  have e1 : m * 2 ^ (j + k) = m * 2 ^ j * 2 ^ k := by rw [Nat.pow_add, Nat.mul_assoc]
  refine ⟨j + k, by omega, fun h => ?_, ?_, ?_, ?_, bset (bset hB (Nat.le_refl _)) (Nat.le_refl _)⟩
  · have := hl h
    rw [e1]
    generalize m * 2 ^ j = x at *
    rcases hk with rfl | rfl | rfl | rfl | rfl | rfl <;> simp [nlow] at this ⊢ <;> omega
  · rw [e1]
    generalize m * 2 ^ j = x at *
    rcases hk with rfl | rfl | rfl | rfl | rfl | rfl <;> simp at hlt ⊢ <;> omega
  · rw [e1, ← hm', show e - ((j + k : Nat) : Int) = e' by omega]
    exact hX.setm.sete
  · exact (hR.set (by omega)).set (by omega)

/-- A round that does not. -/
theorem NS.stay {w wr : World} {ng : Bool} {m j : Nat} {e : Int} {k : Nat} (hj : j + 2 * k ≤ 64 ∧ j ≤ 63) (hk : k = 32 ∨ k = 16 ∨ k = 8 ∨ k = 4 ∨ k = 2 ∨ k = 1)
    (hl : m ≠ 0 → nlow k ≤ m * 2 ^ j) (hlt : m * 2 ^ j < 18446744073709551616) (hz : ¬ m * 2 ^ j / 2 ^ (64 - k) = 0) (hX : Nb w.heap.size ng ((m * 2 ^ j : Nat) : Int) (e - j) wr) (hR : Nb (w.heap.size + 1) false 0 0 wr) (hB : Below w.heap.size w wr) :
    NS w ng m e (k / 2) wr := by
  refine ⟨j, by omega, fun h => ?_, hlt, hX, hR, hB⟩
  have : 2 ^ (64 - k) ≤ m * 2 ^ j := by
    rcases Nat.lt_or_ge (m * 2 ^ j) (2 ^ (64 - k)) with h | h
    · exact absurd (Nat.div_eq_of_lt h) hz
    · exact h
  generalize m * 2 ^ j = x at *
  rcases hk with rfl | rfl | rfl | rfl | rfl | rfl <;> simp [nlow] at this ⊢ <;> omega

set_option maxRecDepth 20000 in
set_option maxHeartbeats 6400000 in
theorem normal_any (ng : Bool) (m : Nat) (hm : m < 18446744073709551616) (e : Int) (he0 : -4611686018427387904 ≤ e) (he1 : e ≤ 4611686018427387904) (w : World) :
    Calls Try.prog 69 #[.agg #[.bool ng, .int .u64 m, .int .i64 e]] w (NR w ng m e) := by
  have HST := hid (NS.start w ng m e hm)
  go_enter Try.func69, Try.ntmps69
  go_wp2
  go_loopw [3] (fun k wr => ∃ kk : Nat, (kk = 32 ∨ kk = 16 ∨ kk = 8 ∨ kk = 4 ∨ kk = 2 ∨ kk = 1 ∨ kk = 0) ∧ k = .int .i64 kk ∧ NS w ng m e kk wr) (fun k _ => (intOf k).toNat)
  case atStart => exact ⟨32, by decide, rfl, HST.out⟩
  case round =>
    obtain ⟨kk, hkk, rfl, hN⟩ := hrel
    rename_i wr _
    clear HST
    obtain ⟨j, hj, hl, hlt, hX, hR, hB⟩ := hN
    obtain ⟨x, hx⟩ : ∃ x : Nat, x = m * 2 ^ j := ⟨_, rfl⟩
    obtain ⟨d, hd⟩ : ∃ d : Int, d = e - (j : Int) := ⟨_, rfl⟩
    have hd0 : -9223372036854775808 ≤ d - 64 := by omega
    have hd1 : d ≤ 9223372036854775807 := by omega
    have HX := hid hX
    have HR := hid hR
    have HB := hid hB
    have HL := hid hl
    have HJ := hid hj
    have HLT := hid hlt
    have Hx := hid hx
    have Hd := hid hd
    rw [← hx, ← hd] at hX
    rw [← hx] at hlt
    obtain ⟨⟨x0, x1, x2⟩, x3, x4, x5⟩ := hX
    obtain ⟨⟨r0, r1, r2⟩, r3, r4, r5⟩ := hR
    clear hx hd hB hl hj hm he0 he1
    rcases hkk with rfl | rfl | rfl | rfl | rfl | rfl | rfl
    · by_cases hz : x / 4294967296 = 0
      · have ht : (((x : Int) / 4294967296) == 0) = true := by simp; omega
        obtain ⟨y, hy⟩ : ∃ y : Nat, y = x * 4294967296 := ⟨_, rfl⟩
        have hyw : IntKind.u64.wrap (y : Int) = (y : Int) := by rw [IntKind.wrap_u64]; omega
        have hyw2 : (x : Int) * 4294967296 = (y : Int) := by omega
        have hw : wrap64 (d - 32) = d - 32 := by unfold wrap64; omega
        have Hy := hid hy
        have HZ := hid hz
        clear hy hz hlt hd0 hd1
        go_wp2
        go_roundw
        case rel => exact ⟨16, by decide, rfl, NS.shift (k := 32) HJ.out (by decide) HL.out (by rw [← Hx.out]; exact HZ.out) HX.out HR.out HB.out _ _ (by rw [← Hx.out, Hy.out]) (by rw [Hd.out]; rfl)⟩
        case measure => simp [intOf]
      · have ht : (((x : Int) / 4294967296) == 0) = false := by simp; omega
        have HZ := hid hz
        clear hz hlt hd0 hd1
        go_wp2
        go_roundw
        case rel => exact ⟨16, by decide, rfl, NS.stay (k := 32) HJ.out (by decide) HL.out HLT.out (by rw [← Hx.out]; exact HZ.out) HX.out HR.out HB.out⟩
        case measure => simp [intOf]
    · by_cases hz : x / 281474976710656 = 0
      · have ht : (((x : Int) / 281474976710656) == 0) = true := by simp; omega
        obtain ⟨y, hy⟩ : ∃ y : Nat, y = x * 65536 := ⟨_, rfl⟩
        have hyw : IntKind.u64.wrap (y : Int) = (y : Int) := by rw [IntKind.wrap_u64]; omega
        have hyw2 : (x : Int) * 65536 = (y : Int) := by omega
        have hw : wrap64 (d - 16) = d - 16 := by unfold wrap64; omega
        have Hy := hid hy
        have HZ := hid hz
        clear hy hz hlt hd0 hd1
        go_wp2
        go_roundw
        case rel => exact ⟨8, by decide, rfl, NS.shift (k := 16) HJ.out (by decide) HL.out (by rw [← Hx.out]; exact HZ.out) HX.out HR.out HB.out _ _ (by rw [← Hx.out, Hy.out]) (by rw [Hd.out]; rfl)⟩
        case measure => simp [intOf]
      · have ht : (((x : Int) / 281474976710656) == 0) = false := by simp; omega
        have HZ := hid hz
        clear hz hlt hd0 hd1
        go_wp2
        go_roundw
        case rel => exact ⟨8, by decide, rfl, NS.stay (k := 16) HJ.out (by decide) HL.out HLT.out (by rw [← Hx.out]; exact HZ.out) HX.out HR.out HB.out⟩
        case measure => simp [intOf]
    · by_cases hz : x / 72057594037927936 = 0
      · have ht : (((x : Int) / 72057594037927936) == 0) = true := by simp; omega
        obtain ⟨y, hy⟩ : ∃ y : Nat, y = x * 256 := ⟨_, rfl⟩
        have hyw : IntKind.u64.wrap (y : Int) = (y : Int) := by rw [IntKind.wrap_u64]; omega
        have hyw2 : (x : Int) * 256 = (y : Int) := by omega
        have hw : wrap64 (d - 8) = d - 8 := by unfold wrap64; omega
        have Hy := hid hy
        have HZ := hid hz
        clear hy hz hlt hd0 hd1
        go_wp2
        go_roundw
        case rel => exact ⟨4, by decide, rfl, NS.shift (k := 8) HJ.out (by decide) HL.out (by rw [← Hx.out]; exact HZ.out) HX.out HR.out HB.out _ _ (by rw [← Hx.out, Hy.out]) (by rw [Hd.out]; rfl)⟩
        case measure => simp [intOf]
      · have ht : (((x : Int) / 72057594037927936) == 0) = false := by simp; omega
        have HZ := hid hz
        clear hz hlt hd0 hd1
        go_wp2
        go_roundw
        case rel => exact ⟨4, by decide, rfl, NS.stay (k := 8) HJ.out (by decide) HL.out HLT.out (by rw [← Hx.out]; exact HZ.out) HX.out HR.out HB.out⟩
        case measure => simp [intOf]
    · by_cases hz : x / 1152921504606846976 = 0
      · have ht : (((x : Int) / 1152921504606846976) == 0) = true := by simp; omega
        obtain ⟨y, hy⟩ : ∃ y : Nat, y = x * 16 := ⟨_, rfl⟩
        have hyw : IntKind.u64.wrap (y : Int) = (y : Int) := by rw [IntKind.wrap_u64]; omega
        have hyw2 : (x : Int) * 16 = (y : Int) := by omega
        have hw : wrap64 (d - 4) = d - 4 := by unfold wrap64; omega
        have Hy := hid hy
        have HZ := hid hz
        clear hy hz hlt hd0 hd1
        go_wp2
        go_roundw
        case rel => exact ⟨2, by decide, rfl, NS.shift (k := 4) HJ.out (by decide) HL.out (by rw [← Hx.out]; exact HZ.out) HX.out HR.out HB.out _ _ (by rw [← Hx.out, Hy.out]) (by rw [Hd.out]; rfl)⟩
        case measure => simp [intOf]
      · have ht : (((x : Int) / 1152921504606846976) == 0) = false := by simp; omega
        have HZ := hid hz
        clear hz hlt hd0 hd1
        go_wp2
        go_roundw
        case rel => exact ⟨2, by decide, rfl, NS.stay (k := 4) HJ.out (by decide) HL.out HLT.out (by rw [← Hx.out]; exact HZ.out) HX.out HR.out HB.out⟩
        case measure => simp [intOf]
    · by_cases hz : x / 4611686018427387904 = 0
      · have ht : (((x : Int) / 4611686018427387904) == 0) = true := by simp; omega
        obtain ⟨y, hy⟩ : ∃ y : Nat, y = x * 4 := ⟨_, rfl⟩
        have hyw : IntKind.u64.wrap (y : Int) = (y : Int) := by rw [IntKind.wrap_u64]; omega
        have hyw2 : (x : Int) * 4 = (y : Int) := by omega
        have hw : wrap64 (d - 2) = d - 2 := by unfold wrap64; omega
        have Hy := hid hy
        have HZ := hid hz
        clear hy hz hlt hd0 hd1
        go_wp2
        go_roundw
        case rel => exact ⟨1, by decide, rfl, NS.shift (k := 2) HJ.out (by decide) HL.out (by rw [← Hx.out]; exact HZ.out) HX.out HR.out HB.out _ _ (by rw [← Hx.out, Hy.out]) (by rw [Hd.out]; rfl)⟩
        case measure => simp [intOf]
      · have ht : (((x : Int) / 4611686018427387904) == 0) = false := by simp; omega
        have HZ := hid hz
        clear hz hlt hd0 hd1
        go_wp2
        go_roundw
        case rel => exact ⟨1, by decide, rfl, NS.stay (k := 2) HJ.out (by decide) HL.out HLT.out (by rw [← Hx.out]; exact HZ.out) HX.out HR.out HB.out⟩
        case measure => simp [intOf]
    · by_cases hz : x / 9223372036854775808 = 0
      · have ht : (((x : Int) / 9223372036854775808) == 0) = true := by simp; omega
        obtain ⟨y, hy⟩ : ∃ y : Nat, y = x * 2 := ⟨_, rfl⟩
        have hyw : IntKind.u64.wrap (y : Int) = (y : Int) := by rw [IntKind.wrap_u64]; omega
        have hyw2 : (x : Int) * 2 = (y : Int) := by omega
        have hw : wrap64 (d - 1) = d - 1 := by unfold wrap64; omega
        have Hy := hid hy
        have HZ := hid hz
        clear hy hz hlt hd0 hd1
        go_wp2
        go_roundw
        case rel => exact ⟨0, by decide, rfl, NS.shift (k := 1) HJ.out (by decide) HL.out (by rw [← Hx.out]; exact HZ.out) HX.out HR.out HB.out _ _ (by rw [← Hx.out, Hy.out]) (by rw [Hd.out]; rfl)⟩
        case measure => simp [intOf]
      · have ht : (((x : Int) / 9223372036854775808) == 0) = false := by simp; omega
        have HZ := hid hz
        clear hz hlt hd0 hd1
        go_wp2
        go_roundw
        case rel => exact ⟨0, by decide, rfl, NS.stay (k := 1) HJ.out (by decide) HL.out HLT.out (by rw [← Hx.out]; exact HZ.out) HX.out HR.out HB.out⟩
        case measure => simp [intOf]
    · clear hd0 hd1 hlt
      go_wp2
      obtain ⟨⟨f0, f1, f2⟩, -⟩ := HR.out.store (ng' := ng) (m' := x) (e' := d)
      have hBf := bset (c := w.heap.size + 1) (o := 2) (u := .int .i64 d) (bset (c := w.heap.size + 1) (o := 1) (u := .int .u64 x) (bset (c := w.heap.size + 1) (o := 0) (u := .bool ng) HB.out (by omega)) (by omega)) (by omega)
      generalize ((wr.setCell ⟨w.heap.size + 1, 0, none⟩ (.bool ng)).setCell ⟨w.heap.size + 1, 1, none⟩ (.int .u64 x)).setCell ⟨w.heap.size + 1, 2, none⟩ (.int .i64 d) = wf at *
      exact bodyPost_ret (v := .agg #[.bool ng, .int .u64 x, .int .i64 d]) (by simp [results, Try.results69, go_sem, f0, f1, f2]) rfl ⟨j, HJ.out.2, HL.out, HLT.out, by rw [← Hx.out, ← Hd.out], hBf⟩

end Go.Proofs.Ytffceodbadedjaa
