/-
  A number in more bytes than it needs is read as it is, as long as its bits allow so many. No condition: for every input.
-/
import Derived.Test.YtljfhedmpnikiaaAwake
import Derived.Test.YtljfhedmpnikiaaRound
import Derived.WalkKit
import Derived.ProofKit
import Derived.OpenShut
import Derived.ShutString
namespace Go.Proofs.Ytljfhedmpnikiaa.lebLonger
open Go.Proofs.Ytljfhedmpnikiaa
open Go.ChangeShapes Go.WideShapes Go.ChangeAt Go.RowKit
open Go.ChangeMaps (open_string shut_string)
set_option linter.unusedVariables false      -- a walk need not use every 'w<i>' (that an integer argument fits its kind)

theorem own : ownKnob Try.prog.godebug = none := by kernel_rfl

set_option maxHeartbeats 1600000 in
set_option maxRecDepth 100000 in
theorem walk (a0 : Int) (a1 : Int) (w0 : (Lit.int .u32 a0).wf = true) (w1 : (Lit.int .i64 a1).wf = true) (w : World) :
    Calls Try.prog 7 #[.int .u32 a0, .int .i64 a1] w fun e w' => e = .returned (.bool true) ∧ Below w.heap.size w w' := by
  have hb0 : 0 ≤ a0 ∧ a0 < 4294967296 := by
    simp [Lit.wf, IntKind.min, IntKind.max, IntKind.signed, IntKind.bits] at w0; omega
  obtain ⟨x, rfl⟩ : ∃ x : Nat, a0 = (x : Int) := ⟨a0.toNat, by omega⟩
  have hx : x < 4294967296 := by omega
  obtain ⟨K, hK, hand0⟩ := and_i64_le a1 7 (by decide)
  have hand : Go.bits .and .i64 a1 7 = (K : Int) := hand0
  have hlx : (ulist x).length ≤ 5 := ulist_length 4 x (Nat.lt_of_lt_of_le hx (by decide))
  have hlp := ulist_pos x
  clear w0 w1 hb0 hand0
  go_enter Try.func7, Try.ntmps7
  go_wp2_with (first
    | (go_at_call 9; refine (awake_any w).mono ?_; rintro e w1 ⟨rfl, hB1⟩)
    | (go_at_call 10; refine (U_any 0 _ [] x (by omega) w1 (.inl ⟨rfl, rfl⟩) (Nat.zero_le _) (by simp)).mono ?_; rintro e w2 ⟨v2, rfl, hown2, hB2⟩))
  have hbw2 : Below w.heap.size w w2 := hB1.trans (hB2.mono hB1.size)
  go_loopw [6, 8] (fun vb vi wr => ∃ k : Nat, k ≤ K ∧ vi = .int .i64 k ∧ wr.ownsRow w.heap.size 5 1 vb (ulong x k).length (Lib.byteCells (ulong x k)) ∧ Below w.heap.size w wr)
    (fun _ vi _ => K - (intOf vi).toNat)
  case atStart => exact ⟨0, Nat.zero_le _, rfl, by rw [ulong_zero]; exact ownsRow_mono hown2 hB1.size, hbw2⟩
  case round =>
    obtain ⟨k, hk, rfl, hown, hnx⟩ := hrel
    have hlen := ulong_length x k
    have hwr := hnx.size
    by_cases hlt : k < K
    · obtain ⟨m, hm⟩ : ∃ m, (ulong x k).length = m + 1 := ⟨(ulong x k).length - 1, by omega⟩
      have hm12 : m < 12 := by omega
      obtain ⟨d, hd1, hd2, hd3⟩ := ulong_more x k m hm
      rw [hm] at hown
      obtain ⟨g, cap, rfl⟩ : ∃ g cap, u6 = .slice (some ⟨g, 0, none⟩) (m + 1) cap := by
        rcases hown.2 with ⟨_, h⟩ | ⟨g, cap, _, h, _⟩
        · omega
        · exact ⟨g, cap, h⟩
      have hg := (hown.lt g rfl).1
      have hc : wr.cell? ⟨g, m, none⟩ = some (.int .u8 d) := by
        rw [hown.cellAt m (by omega)]
        simp only [Lib.byteCells, List.getElem?_map, hd2, Option.map_some, toUInt8_toNat (show d < 256 by omega)]
      have hf := hown.frozenAt m
      have hor : Go.bits .or .u8 (d : Int) 128 = (d : Int) + 128 := by rw [Ytljfhedmpnikiaa.u8_or128 _ (by omega) (by omega)]; omega
      have hst := (hown.stored m (.int .u8 ((d : Int) + 128))).1
      have hnx2 := hnx.setCell (p := ⟨g, m, none⟩) hg (.int .u8 ((d : Int) + 128))
      have H1 := hid hst
      have H2 := hid hd3
      have H3 := hid hd2
      have H4 := hid hm
      have H5 := hid hlen
      clear hst hd3 hd2 hm hlen hown
      go_wp2_with (at_builtin; refine append_byte_at rfl _ _ rfl w w.heap.size _ _ _ _ H1.out hnx2 (by simp; omega) (by omega) wr.heap.size (by simp) rfl rfl ?_; intro v' w3 hown' hnx3 hsz3)
      go_roundw
      case rel =>
        refine ⟨k + 1, by omega, by go_num, ?_, hnx3⟩
        have e : (ulong x (k + 1)).length = m + 1 + 1 := by rw [ulong_length, ← H4.out, H5.out]; omega
        have e2 : Lib.byteCells (ulong x (k + 1)) = (Lib.byteCells (ulong x k)).set m (.int .u8 ((d : Int) + 128)) ++ [.int .u8 0] := by
          rw [← H2.out, Lib.byteCells_append]
          congr 1
          simp only [Lib.byteCells, List.map_set, byte_big hd1, Int.natCast_add]
          rfl
        rw [e, e2]
        exact hown'
      case measure => simp [intOf]; omega
    · obtain rfl : k = K := by omega
      have hlen12 : (ulong x k).length ≤ 12 := by omega
      have hby := bytes_of_owned hown (by omega)
      obtain ⟨a6, c6, rfl⟩ := owned_slice hown
      have HR := hid (Read_any wr.heap.size _ (ulong x k) wr hby (Nat.le_refl _))
      have HN := hid hnx
      clear hown hby hnx
      by_cases h5 : 5 < (ulong x k).length
      · have hu : uSpec 32 (ulong x k) 0 = (0, [], 11) := by
          have := uSpec_long (nb := 32) (by decide) (by decide) [] x k (by omega)
          rw [List.append_nil] at this
          exact this
        have HU : ∀ W g, Rd W g (ulong x k) 0 → Calls Try.prog 17 #[.pointer (some ⟨g, 0, none⟩), .int .i64 32] W fun en w' => en = .returned (.int .u64 0) ∧ Rd w' g [] 11 ∧ W.grownBy w' (some g) := fun W g h =>
          (rU_any W g _ 0 32 h (by simp)).mono fun _ _ ⟨h1, h2, h3⟩ => by
            rw [hu] at h1 h2
            exact ⟨h1, h2, h3⟩
        have HU2 := hid HU
        have H5 := hid hlen
        clear HU hu hlen
        go_wp2_with (first
          | (go_at_call 16; refine HR.out.mono ?_; rintro e w3 ⟨g, rfl, hg, hRd, hB3⟩)
          | (go_at_call 17; refine (HU2.out _ _ hRd).mono ?_; rintro e w4 ⟨rfl, hRd4, hG4⟩)
          | (go_at_call 30; refine (Err_any w4 g _ _ hRd4).mono ?_; rintro e w5 ⟨rfl, rfl⟩)
          | (go_at_call 29; refine (Left_any w4 g _ _ hRd4).mono ?_; rintro e w5 ⟨rfl, rfl⟩))
        go_ret
        exact ⟨rfl, below_grownBy (HN.out.trans (hB3.mono hwr)) hG4 (Nat.le_trans hwr hB3.size) (by omega)⟩
      · have hu : uSpec 32 (ulong x k) 0 = (x, [], 0) := by
          have := uSpec_ulong (nb := 32) (by decide) (by decide) [] x k hx (by omega)
          rw [List.append_nil] at this
          exact this
        have HU : ∀ W g, Rd W g (ulong x k) 0 → Calls Try.prog 17 #[.pointer (some ⟨g, 0, none⟩), .int .i64 32] W fun en w' => en = .returned (.int .u64 x) ∧ Rd w' g [] 0 ∧ W.grownBy w' (some g) := fun W g h =>
          (rU_any W g _ 0 32 h (by simp)).mono fun _ _ ⟨h1, h2, h3⟩ => by
            rw [hu] at h1 h2
            exact ⟨h1, h2, h3⟩
        have HU2 := hid HU
        have H5 := hid hlen
        clear HU hu hlen
        go_wp2_with (first
          | (go_at_call 16; refine HR.out.mono ?_; rintro e w3 ⟨g, rfl, hg, hRd, hB3⟩)
          | (go_at_call 17; refine (HU2.out _ _ hRd).mono ?_; rintro e w4 ⟨rfl, hRd4, hG4⟩)
          | (go_at_call 30; refine (Err_any w4 g _ _ hRd4).mono ?_; rintro e w5 ⟨rfl, rfl⟩)
          | (go_at_call 29; refine (Left_any w4 g _ _ hRd4).mono ?_; rintro e w5 ⟨rfl, rfl⟩))
        go_ret
        exact ⟨rfl, below_grownBy (HN.out.trans (hB3.mono hwr)) hG4 (Nat.le_trans hwr hB3.size) (by omega)⟩

/-! ### THE ROW's STEP: WRITTEN OUT: LEAVE IT -/
set_option maxRecDepth 100000 in
theorem lifted (os : Os) (started : os.Started) (H : Type) (enc : TypeId × Value → H) :
    ReturnsInHanded {} Try.checked os 7 .any (Rows.lebLongerSpec.pre6 enc Try.prog Try.f7 Rows.lebLongerRow.domain false) (Rows.lebLongerSpec.post enc Try.prog Try.f7 false true false false) := by
  refine returnsInHanded_of_change (C := Try.checked) own started (by kernel_rfl) Try.func7
    (ChangeSpec.witness6 (enc := enc) (C := Try.checked) false ⟨#[], #[.int .u32 0, .int .i64 0], []⟩ 8 (by kernel_rfl) (by kernel_rfl) (by kernel_rfl) (by kernel_rfl)) ?_
  intro W base args ds gs before hval0 hW hcnd _
  have hval : ∀ (j : Nat) t v, Try.f7.params[j]? = some t → args[j]? = some v → Value.okWide Try.prog W .any base t v := hval0
  have hW' := hW
  obtain ⟨p, q, hA0, hV, rfl, hfz, hnd⟩ := hW
  have hA : DataW.TrodAll enc Try.prog W 0 (fun _ => true) true Try.f7.params.toList args.toList ds p := hA0
  rw [Try.params7] at hA hval
  obtain ⟨v0, vs0, d0, ds0, p0, q0, hargs, rfl, rfl, h0, r0⟩ := trodAll_cons hA
  obtain ⟨v1, vs1, d1, ds1, p1, q1, rfl, rfl, rfl, h1, r1⟩ := trodAll_cons r0
  obtain ⟨rfl, rfl, rfl⟩ := trodAll_nil r1
  obtain rfl : args = #[v0, v1] := by cases args; simp_all
  obtain ⟨rfl, rfl⟩ := trodVars_none hV
  obtain ⟨a0, rfl, rfl, rfl, w0⟩ := open_int Try.underlying51 (hval 0 51 v0 rfl rfl) h0
  obtain ⟨a1, rfl, rfl, rfl, w1⟩ := open_int Try.underlying3 (hval 1 3 v1 rfl rfl) h1
  clear hA0 hval0
  simp only [List.append_nil] at hW'
  refine (walk a0 a1 w0 w1 W).mono fun e W' ⟨he, hg⟩ => ?_
  subst he
  exact ⟨_, rfl, _, _, _, [], [], [], hW', trodAll_mk1 (shut_bool Try.underlying4 _), (trodAll_cons_mk (shut_int Try.underlying51 w0) (trodAll_cons_mk (shut_int Try.underlying3 w1) trodAll_mk0)), rfl, hg.frame _, fun h => by cases h⟩

theorem over : Rows.lebLongerRow.holds Try.pinned (OpenSpec.ofChange Rows.lebLongerSpec) :=
  OpenClaim.holds_of_wide 7 Try.f7 rfl rfl rfl rfl rfl rfl rfl ⟨rfl, rfl, rfl, rfl, rfl⟩ rfl rfl rfl rfl rfl (by kernel_rfl) Try.func7 (by kernel_rfl)
    (of_decide_eq_true (by kernel_rfl)) (by unfold Func.isWrapper; first | (rw [if_pos (by decide +kernel)]; kernel_rfl) | (rw [if_neg (by decide +kernel)]; exact ⟨rfl, rfl⟩))
    (fun os started H enc _ => lifted os started H enc)

/-- ████ THE STATEMENT ████ -/
theorem proved : Rows.LebLongerSaid :=
  over
#print axioms proved
end Go.Proofs.Ytljfhedmpnikiaa.lebLonger
