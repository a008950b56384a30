/-
  A value and limits as arguments: what reads as a datum of its type is its fields, and reads so anywhere.
-/
import Derived.Test.YtlifnddofgeaaaaBase
import Derived.ProofKit
import Derived.OpenShut
import Derived.JoinedOf
import Derived.ChangeSame
import Derived.ChangeArms
set_option linter.unusedSimpArgs false
set_option linter.unusedVariables false
namespace Go.Proofs.Ytlifnddofgeaaaa
open Go.ChangeShapes Go.WideShapes Go.ChangeAt Go.WideMaps Go.WideElems Go.RowKit

theorem c3 : Try.prog.cellsOf 3 = 1 := by kernel_rfl
theorem c30 : Try.prog.cellsOf 30 = 1 := by kernel_rfl
theorem c4 : Try.prog.cellsOf 4 = 1 := by kernel_rfl
theorem c32 : Try.prog.cellsOf 32 = 4 := by kernel_rfl
theorem fields32 : ∃ f0 f1 f2 f3 : Field, Try.prog.underlying 32 = some (.struct #[f0, f1, f2, f3]) ∧ f0.type = 3 ∧ f1.type = 30 ∧ f2.type = 30 ∧ f3.type = 4 ∧ f0.offset = 0 ∧ f1.offset = 1 ∧ f2.offset = 2 ∧ f3.offset = 3 := ⟨_, _, _, _, Try.underlying32, rfl, rfl, rfl, rfl, rfl, rfl, rfl, rfl⟩
set_option maxRecDepth 100000 in
theorem open_val {H : Type} {enc : TypeId × Value → H} {W : World} {base b0 : Nat} {sp : Nat → Bool} {held : Bool} {r : Reach} {v : Value} {d : DataW H} {ps : List MemPlace}
    (hv : Value.okWide Try.prog W r b0 32 v) (hd : DataW.Trod enc Try.prog W base sp held 32 v d ps) :
    ∃ (t : Int) (lo : Nat) (hi : Nat) (nl : Bool), v = .agg #[.int .i64 t, .int .u64 lo, .int .u64 hi, .bool nl] ∧ -9223372036854775808 ≤ t ∧ t < 9223372036854775808 ∧ lo < 18446744073709551616 ∧ hi < 18446744073709551616 ∧ ps = [] ∧ ∀ W' sp', DataW.Trod enc Try.prog W' base sp' held 32 v d [] := by
  obtain ⟨f0, f1, f2, f3, hu, t0, t1, t2, t3, o0, o1, o2, o3⟩ := fields32
  obtain ⟨cs, rfl, hs⟩ := okWide_struct hu hv
  rw [c32] at hs
  obtain ⟨l, rfl⟩ : ∃ l : List Value, cs = l.toArray := ⟨cs.toList, by simp⟩
  have hs' : l.length = 4 := by simpa using hs
  obtain ⟨x0, x1, x2, x3, rfl⟩ : ∃ x0 x1 x2 x3, l = [x0, x1, x2, x3] := by
    match l, hs' with
    | [x0, x1, x2, x3], _ => exact ⟨_, _, _, _, rfl⟩
  obtain ⟨fuel, hf⟩ := hd
  have hf' : DataW.trod enc Try.prog W base sp held fuel 32 [x0, x1, x2, x3] = some (d, ps) := hf
  obtain ⟨xs, n, _, hx, hl, hlen, hat⟩ := DataW.trod_struct hu hf'
  obtain ⟨y0, y1, y2, y3, rfl⟩ : ∃ y0 y1 y2 y3, xs = [y0, y1, y2, y3] := by
    match xs, hlen with
    | [y0, y1, y2, y3], _ => exact ⟨_, _, _, _, rfl⟩
  have h0 := hat 0 f0 rfl
  rw [t0, o0, c3] at h0
  have h1 := hat 1 f1 rfl
  rw [t1, o1, c30] at h1
  have h2 := hat 2 f2 rfl
  rw [t2, o2, c30] at h2
  have h3 := hat 3 f3 rfl
  rw [t3, o3, c4] at h3
  obtain ⟨z0, e0, g0, w0⟩ := DataW.trod_int Try.underlying3 h0
  obtain ⟨z1, e1, g1, w1⟩ := DataW.trod_int Try.underlying30 h1
  obtain ⟨z2, e2, g2, w2⟩ := DataW.trod_int Try.underlying30 h2
  obtain ⟨z3, e3, g3⟩ := DataW.trod_bool Try.underlying4 h3
  obtain rfl : x0 = .int .i64 z0 := by simpa using e0
  obtain rfl : x1 = .int .u64 z1 := by simpa using e1
  obtain rfl : x2 = .int .u64 z2 := by simpa using e2
  obtain rfl : x3 = .bool z3 := by simpa using e3
  obtain ⟨b0, bb0⟩ := bounds_i64 w0
  obtain ⟨b1, bb1⟩ := bounds_u64 w1
  obtain ⟨q1, rfl⟩ := Int.eq_ofNat_of_zero_le b1
  obtain ⟨b2, bb2⟩ := bounds_u64 w2
  obtain ⟨q2, rfl⟩ := Int.eq_ofNat_of_zero_le b2
  subst g0 g1 g2 g3
  obtain ⟨rfl, rfl⟩ := Prod.mk.inj hx
  refine ⟨z0, q1, q2, z3, rfl, by omega, by omega, by omega, by omega, rfl, fun W' sp' => ⟨2, ?_⟩⟩
  show DataW.trod enc Try.prog W' base sp' held 2 32 [.int .i64 z0, .int .u64 q1, .int .u64 q2, .bool z3] = _
  refine trod_struct_mk (n := 1) (xs := [(.lit (.int .i64 z0), []), (.lit (.int .u64 q1), []), (.lit (.int .u64 q2), []), (.lit (.bool z3), [])]) hu (by rw [c32]; rfl) ?_
  have k0 : DataW.trod enc Try.prog W' base sp' held 1 f0.type (([.int .i64 z0, .int .u64 q1, .int .u64 q2, .bool z3].drop f0.offset).take (Try.prog.cellsOf f0.type)) = some (.lit (.int .i64 z0), []) := by
    rw [t0, o0, c3]; exact trod_int_mk 0 Try.underlying3 w0
  have k1 : DataW.trod enc Try.prog W' base sp' held 1 f1.type (([.int .i64 z0, .int .u64 q1, .int .u64 q2, .bool z3].drop f1.offset).take (Try.prog.cellsOf f1.type)) = some (.lit (.int .u64 q1), []) := by
    rw [t1, o1, c30]; exact trod_int_mk 0 Try.underlying30 w1
  have k2 : DataW.trod enc Try.prog W' base sp' held 1 f2.type (([.int .i64 z0, .int .u64 q1, .int .u64 q2, .bool z3].drop f2.offset).take (Try.prog.cellsOf f2.type)) = some (.lit (.int .u64 q2), []) := by
    rw [t2, o2, c30]; exact trod_int_mk 0 Try.underlying30 w2
  have k3 : DataW.trod enc Try.prog W' base sp' held 1 f3.type (([.int .i64 z0, .int .u64 q1, .int .u64 q2, .bool z3].drop f3.offset).take (Try.prog.cellsOf f3.type)) = some (.lit (.bool z3), []) := by
    rw [t3, o3, c4]; simp [DataW.trod, Try.underlying4]
  simp [k0, k1, k2, k3]
theorem c23 : Try.prog.cellsOf 23 = 3 := by kernel_rfl
theorem fields23 : ∃ f0 f1 f2 : Field, Try.prog.underlying 23 = some (.struct #[f0, f1, f2]) ∧ f0.type = 3 ∧ f1.type = 3 ∧ f2.type = 4 ∧ f0.offset = 0 ∧ f1.offset = 1 ∧ f2.offset = 2 := ⟨_, _, _, Try.underlying23, rfl, rfl, rfl, rfl, rfl, rfl⟩
set_option maxRecDepth 100000 in
theorem open_lim {H : Type} {enc : TypeId × Value → H} {W : World} {base b0 : Nat} {sp : Nat → Bool} {held : Bool} {r : Reach} {v : Value} {d : DataW H} {ps : List MemPlace}
    (hv : Value.okWide Try.prog W r b0 23 v) (hd : DataW.Trod enc Try.prog W base sp held 23 v d ps) :
    ∃ (mn : Int) (mx : Int) (has : Bool), v = .agg #[.int .i64 mn, .int .i64 mx, .bool has] ∧ -9223372036854775808 ≤ mn ∧ mn < 9223372036854775808 ∧ -9223372036854775808 ≤ mx ∧ mx < 9223372036854775808 ∧ ps = [] ∧ ∀ W' sp', DataW.Trod enc Try.prog W' base sp' held 23 v d [] := by
  obtain ⟨f0, f1, f2, hu, t0, t1, t2, o0, o1, o2⟩ := fields23
  obtain ⟨cs, rfl, hs⟩ := okWide_struct hu hv
  rw [c23] at hs
  obtain ⟨l, rfl⟩ : ∃ l : List Value, cs = l.toArray := ⟨cs.toList, by simp⟩
  have hs' : l.length = 3 := by simpa using hs
  obtain ⟨x0, x1, x2, rfl⟩ : ∃ x0 x1 x2, l = [x0, x1, x2] := by
    match l, hs' with
    | [x0, x1, x2], _ => exact ⟨_, _, _, rfl⟩
  obtain ⟨fuel, hf⟩ := hd
  have hf' : DataW.trod enc Try.prog W base sp held fuel 23 [x0, x1, x2] = some (d, ps) := hf
  obtain ⟨xs, n, _, hx, hl, hlen, hat⟩ := DataW.trod_struct hu hf'
  obtain ⟨y0, y1, y2, rfl⟩ : ∃ y0 y1 y2, xs = [y0, y1, y2] := by
    match xs, hlen with
    | [y0, y1, y2], _ => exact ⟨_, _, _, rfl⟩
  have h0 := hat 0 f0 rfl
  rw [t0, o0, c3] at h0
  have h1 := hat 1 f1 rfl
  rw [t1, o1, c3] at h1
  have h2 := hat 2 f2 rfl
  rw [t2, o2, c4] at h2
  obtain ⟨z0, e0, g0, w0⟩ := DataW.trod_int Try.underlying3 h0
  obtain ⟨z1, e1, g1, w1⟩ := DataW.trod_int Try.underlying3 h1
  obtain ⟨z2, e2, g2⟩ := DataW.trod_bool Try.underlying4 h2
  obtain rfl : x0 = .int .i64 z0 := by simpa using e0
  obtain rfl : x1 = .int .i64 z1 := by simpa using e1
  obtain rfl : x2 = .bool z2 := by simpa using e2
  obtain ⟨b0, bb0⟩ := bounds_i64 w0
  obtain ⟨b1, bb1⟩ := bounds_i64 w1
  subst g0 g1 g2
  obtain ⟨rfl, rfl⟩ := Prod.mk.inj hx
  refine ⟨z0, z1, z2, rfl, by omega, by omega, by omega, by omega, rfl, fun W' sp' => ⟨2, ?_⟩⟩
  show DataW.trod enc Try.prog W' base sp' held 2 23 [.int .i64 z0, .int .i64 z1, .bool z2] = _
  refine trod_struct_mk (n := 1) (xs := [(.lit (.int .i64 z0), []), (.lit (.int .i64 z1), []), (.lit (.bool z2), [])]) hu (by rw [c23]; rfl) ?_
  have k0 : DataW.trod enc Try.prog W' base sp' held 1 f0.type (([.int .i64 z0, .int .i64 z1, .bool z2].drop f0.offset).take (Try.prog.cellsOf f0.type)) = some (.lit (.int .i64 z0), []) := by
    rw [t0, o0, c3]; exact trod_int_mk 0 Try.underlying3 w0
  have k1 : DataW.trod enc Try.prog W' base sp' held 1 f1.type (([.int .i64 z0, .int .i64 z1, .bool z2].drop f1.offset).take (Try.prog.cellsOf f1.type)) = some (.lit (.int .i64 z1), []) := by
    rw [t1, o1, c3]; exact trod_int_mk 0 Try.underlying3 w1
  have k2 : DataW.trod enc Try.prog W' base sp' held 1 f2.type (([.int .i64 z0, .int .i64 z1, .bool z2].drop f2.offset).take (Try.prog.cellsOf f2.type)) = some (.lit (.bool z2), []) := by
    rw [t2, o2, c4]; simp [DataW.trod, Try.underlying4]
  simp [k0, k1, k2]
end Go.Proofs.Ytlifnddofgeaaaa
