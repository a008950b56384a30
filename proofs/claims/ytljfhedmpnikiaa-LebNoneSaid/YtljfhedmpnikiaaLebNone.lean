/-
  A reader that is none reads nothing; what is taken is new memory. No condition: for every input.
-/
import Derived.Test.YtljfhedmpnikiaaNone
import Derived.WalkKit
import Derived.ProofKit
import Derived.OpenShut
import Derived.ShutString
import Derived.ChangeOld
import Derived.Below
namespace Go.Proofs.Ytljfhedmpnikiaa.lebNone
open Go.Proofs.Ytljfhedmpnikiaa
open Go.ChangeShapes Go.WideShapes Go.ChangeAt Go.RowKit
open Go.ChangeMaps (open_string shut_string)
set_option linter.unusedVariables false

theorem own : ownKnob Try.prog.godebug = none := by kernel_rfl
theorem laidOut : laidOutB Try.prog = true := by kernel_rfl

theorem tSpec_all (l : List UInt8) (n : Nat) (h : n = l.length) : tSpec n l 0 = (l, [], 0) := by
  subst h
  rw [tSpec, if_neg (by omega), Int.toNat_natCast, nx, if_neg (by omega), List.take_length, List.drop_length]

set_option maxHeartbeats 3200000 in
set_option maxRecDepth 100000 in
theorem walk (a0 : Option Addr) (len0 cap0 : Nat) (z0 : List Int) (a1 : Int) (w : World) (w0 : IsRow .u8 w a0 len0 cap0 z0) (w1 : (Lit.int .i64 a1).wf = true) :
    Calls Try.prog 8 #[.slice a0 len0 cap0, .int .i64 a1] w fun e w' => e = .returned (.bool true) ∧ Below w.heap.size w w' := by
  have hb1 : a1 ≤ 9223372036854775807 := by
    simp [Lit.wf, IntKind.min, IntKind.max, IntKind.signed, IntKind.bits] at w1; omega
  clear w1
  by_cases hlong : 1000 < len0
  · have hd : decide ((1000 : Int) < (len0 : Int)) = true := by simp; omega
    clear w0
    go_enter Try.func8, Try.ntmps8
    go_wp2_with (first
      | (go_at_call 9; refine (awake_any w).mono ?_; rintro e w1 ⟨rfl, hB1⟩)
      | (go_at_call 27; refine (Fail_nil w1 12).mono ?_; rintro en w2 ⟨rfl, rfl⟩)
      | (go_at_call 21; refine (Byte_nil w1).mono ?_; rintro en w2 ⟨rfl, rfl⟩)
      | (go_at_call 17; refine (rU_nil w1 a1).mono ?_; rintro en w2 ⟨rfl, rfl⟩)
      | (go_at_call 19; refine (rS_nil w1 a1).mono ?_; rintro en w2 ⟨rfl, rfl⟩)
      | (go_at_call 23; refine (Take_nil w1 a1 hb1).mono ?_; rintro en w2 ⟨v2, rfl, hown2, hB2⟩; obtain ⟨x2, c2, rfl⟩ := owned_slice hown2)
      | (go_at_call 25; refine (Name_nil w2).mono ?_; rintro en w3 ⟨rfl, hB3⟩)
      | (go_at_call 29; refine (Left_nil w3).mono ?_; rintro en w4 ⟨rfl, rfl⟩)
      | (go_at_call 30; refine (Err_nil w3).mono ?_; rintro en w4 ⟨rfl, rfl⟩))
    go_ret
    exact ⟨rfl, (hB1.trans (hB2.mono hB1.size)).trans (hB3.mono (Nat.le_trans hB1.size hB2.size))⟩
  · have hd : decide ((1000 : Int) < (len0 : Int)) = false := by simp; omega
    obtain ⟨l, hl, hin0⟩ := bytes_of_row w0 (by omega)
    have HIN := hid hin0
    clear w0 hin0
    subst hl
    obtain ⟨S, hSe⟩ : ∃ S : ByteArray, S = ⟨l.toArray⟩ := ⟨_, rfl⟩
    have hsz : S.size = l.length := by rw [hSe]; rfl
    have hconv : ∀ W, Below w.heap.size w W → (convert 22 9 (.slice a0 l.length cap0)).run Try.prog W = .ok (.string S) W := fun W hb => by
      rw [hSe]; exact conv_in (HIN.out.below hb)
    have HC := hid hconv
    clear hconv hSe
    go_enter Try.func8, Try.ntmps8
    go_wp2_with (first
      | (go_at_call 9; refine (awake_any w).mono ?_; rintro e w1 ⟨rfl, hB1⟩)
      | (go_at_call 27; refine (Fail_nil w1 12).mono ?_; rintro en w2 ⟨rfl, rfl⟩)
      | (go_at_call 21; refine (Byte_nil w1).mono ?_; rintro en w2 ⟨rfl, rfl⟩)
      | (go_at_call 17; refine (rU_nil w1 a1).mono ?_; rintro en w2 ⟨rfl, rfl⟩)
      | (go_at_call 19; refine (rS_nil w1 a1).mono ?_; rintro en w2 ⟨rfl, rfl⟩)
      | (go_at_call 23; (with_reducible refine (Take_nil w1 a1 hb1).mono ?_); rintro en w2 ⟨v2, rfl, hown2, hB2⟩; obtain ⟨x2, c2, rfl⟩ := owned_slice hown2)
      | (go_at_call 25; refine (Name_nil w2).mono ?_; rintro en w3 ⟨rfl, hB3⟩)
      | (go_at_call 29; refine (Left_nil w3).mono ?_; rintro en w4 ⟨rfl, rfl⟩)
      | (go_at_call 30; (with_reducible refine (Err_nil w3).mono ?_); rintro en w4 ⟨rfl, rfl⟩; have hBa : Below w.heap.size w w3 := (hB1.trans (hB2.mono hB1.size)).trans (hB3.mono (Nat.le_trans hB1.size hB2.size)); have hc1 := HC.out w3 hBa)
      | (go_at_call 16; (with_reducible refine (Read_in w.heap.size _ l w3 (HIN.out.below hBa) hBa.size).mono ?_); rintro en w4 ⟨g, rfl, hg, hRd, hB4⟩)
      | (go_at_call 23; (with_reducible refine (Take_any w4 g l 0 (l.length : Int) (by omega) hRd (by simp)).mono ?_); rintro en w5 ⟨v5, rfl, hown5, hRd5, hG5⟩; rw [tSpec_all l l.length rfl] at hown5 hRd5; obtain ⟨x5, c5, rfl⟩ := owned_slice hown5))
    have hgl := hRd.lt
    have hBb : Below w.heap.size w w5 := below_grownBy (hBa.trans (hB4.mono hBa.size)) hG5 (Nat.le_trans hBa.size hB4.size) (Nat.le_trans hBa.size hg)
    have hsz4 : w.heap.size ≤ w4.heap.size := Nat.le_trans hBa.size hB4.size
    have hls : l.length ≤ 1000 := by omega
    go_loopw [10] (fun vi wr => ∃ (k : Nat) (l' : List UInt8), k ≤ l.length ∧ vi = .int .i64 k ∧ l'.length = l.length ∧ wr.ownsRow w4.heap.size 5 1 (.slice x5 l.length c5) l.length (Lib.byteCells l') ∧ Below w4.heap.size w5 wr) (fun vi _ => l.length - (intOf vi).toNat)
    case atStart => exact ⟨0, l, Nat.zero_le _, rfl, rfl, hown5, Below.refl _ _⟩
    case round =>
      obtain ⟨k, l', hk, rfl, hl', hown, hnx⟩ := hrel
      have HL := hid hl'
      clear hl'
      by_cases hlt : k < l.length
      · obtain ⟨g5, rfl⟩ : ∃ g5, x5 = some ⟨g5, 0, none⟩ := by
          rcases hown.2 with ⟨_, h⟩ | ⟨g', cap, _, h, _⟩
          · omega
          · cases h; exact ⟨g', rfl⟩
        have hg5 := (hown.lt g5 rfl).1
        have hkl : k < l'.length := by rw [HL.out]; exact hlt
        have hc : wr.cell? ⟨g5, k, none⟩ = some (.int .u8 l'[k].toNat) := by
          rw [hown.cellAt k (by omega)]
          simp only [Lib.byteCells, List.getElem?_map, List.getElem?_eq_getElem hkl, Option.map_some]
        have hf := hown.frozenAt k
        obtain ⟨u, hu⟩ := xor_u8 l'[k]
        generalize hA : (l'[k].toNat : Int) = A at *
        have hst := hown.stored k (.int .u8 u.toNat)
        have hset : Lib.byteCells (l'.set k u) = (Lib.byteCells l').set k (.int .u8 u.toNat) := by simp only [Lib.byteCells, List.map_set]
        have HO := hid hst.1
        have HE := hid hset
        have HN := hid (hnx.setCell (p := ⟨g5, k, none⟩) hg5 (.int .u8 (u.toNat : Int)))
        clear hst hset hown hA
        go_wp2
        go_roundw
        case rel => exact ⟨k + 1, l'.set k u, by omega, by go_num, by rw [List.length_set]; exact HL.out, by rw [HE.out]; exact HO.out, HN.out⟩
        case measure => simp [intOf]; omega
      · have hBc : Below w.heap.size w wr := hBb.trans (hnx.mono hsz4)
        have hc2 := HC.out wr hBc
        have hR6 : Rd wr g [] 0 := hRd5.kept fun j hj => hnx.block j (by omega)
        clear hown hnx
        go_wp2_with (go_at_call 30; (with_reducible refine (Err_any wr g _ _ hR6).mono ?_); rintro en w7 ⟨rfl, rfl⟩)
        go_ret
        exact ⟨rfl, hBc⟩

/-! ### THE ROW's STEP: WRITTEN OUT: LEAVE IT -/
set_option maxRecDepth 100000 in
theorem lifted (os : Os) (started : os.Started) (H : Type) (enc : TypeId × Value → H) :
    ReturnsInHanded {} Try.checked os 8 .any (Rows.lebNoneSpec.pre6 enc Try.prog Try.f8 Rows.lebNoneRow.domain false) (Rows.lebNoneSpec.post enc Try.prog Try.f8 false true false false) := by
  refine returnsInHanded_of_change (C := Try.checked) own started (by kernel_rfl) Try.func8
    (ChangeSpec.witness6 (enc := enc) (C := Try.checked) false ⟨#[], #[.slice none 0 0, .int .i64 0], []⟩ 8 (by kernel_rfl) (by kernel_rfl) (by kernel_rfl) (by kernel_rfl)) ?_
  intro W base args ds gs before hval0 hW hcnd _
  have hval : ∀ (j : Nat) t v, Try.f8.params[j]? = some t → args[j]? = some v → Value.okWide Try.prog W .any base t v := hval0
  have hW' := hW
  obtain ⟨p, q, hA0, hV, rfl, hfz, hnd⟩ := hW
  have hA : DataW.TrodAll enc Try.prog W 0 (fun _ => true) true Try.f8.params.toList args.toList ds p := hA0
  rw [Try.params8] at hA hval
  obtain ⟨v0, vs0, d0, ds0, p0, q0, hargs, rfl, rfl, h0, r0⟩ := trodAll_cons hA
  obtain ⟨v1, vs1, d1, ds1, p1, q1, rfl, rfl, rfl, h1, r1⟩ := trodAll_cons r0
  obtain ⟨rfl, rfl, rfl⟩ := trodAll_nil r1
  obtain rfl : args = #[v0, v1] := by cases args; simp_all
  obtain ⟨rfl, rfl⟩ := trodVars_none hV
  obtain ⟨a0, len0, cap0, rfl⟩ := okWide_slice Try.underlying22 (hval 0 22 v0 rfl rfl)
  have k0 := h0
  have lt0 : ∀ x ∈ p0, x.block < W.heap.size := by obtain ⟨m, hm⟩ := k0; exact DataW.trod_lt m _ _ _ hm
  obtain ⟨z0, w0⟩ : ∃ zs, IsRow .u8 W a0 len0 cap0 zs := by
    obtain ⟨fuel, hf⟩ := h0
    rcases open_ints Try.underlying22 Try.underlying5 (by kernel_rfl) hf with ⟨hcs, _⟩ | ⟨x, l, c, zs, hcs, _, hl, hm, hz, _, hcell, hwz⟩
    · simp [Value.cells] at hcs
      obtain ⟨rfl, rfl, rfl⟩ := hcs
      exact ⟨[], .inl ⟨rfl, rfl, rfl, rfl⟩⟩
    · simp [Value.cells] at hcs
      obtain ⟨rfl, rfl, rfl⟩ := hcs
      exact ⟨zs, .inr ⟨_, rfl, hl, hm, by simpa using hz, hcell, hwz⟩⟩
  obtain ⟨a1, rfl, rfl, rfl, w1⟩ := open_int Try.underlying3 (hval 1 3 v1 rfl rfl) h1
  clear hA0 hval0
  refine (walk a0 len0 cap0 z0 a1 W w0 w1).mono fun e W' ⟨he, bel⟩ => ?_
  subst he
  exact ⟨_, rfl, _, _, _, [], _, [], hW', trodAll_mk1 (shut_bool Try.underlying4 _), (trodAll_cons_mk (Below.trod laidOut (by kernel_rfl) (of_decide_eq_true (by kernel_rfl)) k0 bel lt0) (trodAll_cons_mk (shut_int Try.underlying3 w1) trodAll_mk0)), rfl, bel.frame _, fun h => by cases h⟩

theorem over : Rows.lebNoneRow.holds Try.pinned (OpenSpec.ofChange Rows.lebNoneSpec) :=
  OpenClaim.holds_of_wide 8 Try.f8 rfl rfl rfl rfl rfl rfl rfl ⟨rfl, rfl, rfl, rfl, rfl⟩ rfl rfl rfl rfl rfl (by kernel_rfl) Try.func8 (by kernel_rfl)
    (of_decide_eq_true (by kernel_rfl)) (by unfold Func.isWrapper; first | (rw [if_pos (by decide +kernel)]; kernel_rfl) | (rw [if_neg (by decide +kernel)]; exact ⟨rfl, rfl⟩))
    (fun os started H enc _ => lifted os started H enc)

/-- ████ THE STATEMENT ████ -/
theorem proved : Rows.LebNoneSaid := over
#print axioms proved
end Go.Proofs.Ytljfhedmpnikiaa.lebNone
