/-
  The contracts of U, S and Name on a reader that is none; a slice of bytes that came in, as a list of bytes; a byte turned round. No condition but those of each lemma.
-/
import Derived.Test.YtljfhedmpnikiaaAwake
import Derived.OpenShut
namespace Go.Proofs.Ytljfhedmpnikiaa
open Go.RowKit

set_option maxHeartbeats 400000 in
theorem rU_nil (w : World) (b : Int) : Calls Try.prog 17 #[.pointer none, .int .i64 b] w fun en w' => en = .returned (.int .u64 0) ∧ w = w' := by
  go_enter Try.func17, Try.ntmps17
  go_wp2_with (first
    | (go_at_call 34; refine (groups_nil w b).mono ?_; rintro en w1 ⟨rfl, rfl⟩)
    | (go_at_call 30; refine (Err_nil w).mono ?_; rintro en w2 ⟨rfl, rfl⟩))
  go_ret
  exact ⟨rfl, rfl⟩

set_option maxHeartbeats 400000 in
theorem rS_nil (w : World) (b : Int) : Calls Try.prog 19 #[.pointer none, .int .i64 b] w fun en w' => en = .returned (.int .i64 0) ∧ w = w' := by
  go_enter Try.func19, Try.ntmps19
  go_wp2_with (first
    | (go_at_call 34; refine (groups_nil w b).mono ?_; rintro en w1 ⟨rfl, rfl⟩)
    | (go_at_call 30; refine (Err_nil w).mono ?_; rintro en w2 ⟨rfl, rfl⟩))
  go_ret
  exact ⟨rfl, rfl⟩

theorem Valid_empty (w : World) : Calls Try.prog 31 #[.string ⟨#[]⟩] w fun e w' => e = .returned (.bool true) ∧ Below w.heap.size w w' :=
  (Valid_any ⟨#[]⟩ w (by decide)).mono fun _ _ ⟨h1, h2⟩ => ⟨h1, h2⟩

set_option maxHeartbeats 400000 in
theorem Name_nil (w : World) : Calls Try.prog 25 #[.pointer none] w fun en w' => en = .returned (.string ⟨#[]⟩) ∧ Below w.heap.size w w' := by
  have hc := conv_bytes (B := 0) (w := w) (v := .slice none 0 0) (l := []) (.inl ⟨rfl, rfl⟩)
  go_enter Try.func25, Try.ntmps25
  go_wp2_with (first
    | (go_at_call 17; refine (rU_nil w 32).mono ?_; rintro en w1 ⟨rfl, rfl⟩)
    | (go_at_call 37; refine (next_nil0 w).mono ?_; rintro en w2 ⟨rfl, rfl⟩)
    | (go_at_call 31; (with_reducible refine (Valid_empty w).mono ?_); rintro en w3 ⟨rfl, hB⟩))
  go_ret
  exact ⟨rfl, hB⟩

/-- A slice of integers that came in (as the frame of the rows says it). -/
def IsRow (k : IntKind) (w : World) (a : Option Addr) (len cap : Nat) (zs : List Int) : Prop :=
  (a = none ∧ len = 0 ∧ cap = 0 ∧ zs = []) ∨
  ∃ x, a = some x ∧ len ≤ cap ∧ cap ≤ maxLen ∧ zs.length = cap ∧ (∀ i, i < zs.length → w.cell? (x.add i) = some (.int k (zs.getD i 0))) ∧ ∀ n ∈ zs, (Lit.int k n).wf = true

theorem u8_of_wf {n : Int} (h : (Lit.int .u8 n).wf = true) : ((UInt8.ofNat n.toNat).toNat : Int) = n := by
  have hb : 0 ≤ n ∧ n < 256 := by
    simp [Lit.wf, IntKind.min, IntKind.max, IntKind.signed, IntKind.bits] at h; omega
  rw [UInt8.toNat_ofNat']
  omega

theorem xor_u8 (a : UInt8) : ∃ u : UInt8, Go.bits .xor .u8 (a.toNat : Int) 255 = (u.toNat : Int) := by
  refine ⟨UInt8.ofNat (BitVec.ofInt 8 (a.toNat : Int) ^^^ BitVec.ofInt 8 255).toNat, ?_⟩
  show IntKind.u8.wrap (((BitVec.ofInt 8 (a.toNat : Int) ^^^ BitVec.ofInt 8 255).toNat : Nat) : Int) = _
  rw [IntKind.wrap_u8, UInt8.toNat_ofNat']
  omega

/-- A slice of bytes that came in reads as a list of bytes. -/
theorem bytes_of_row {w : World} {a : Option Addr} {len cap : Nat} {zs : List Int} (h : IsRow .u8 w a len cap zs) (hlen : len ≤ 140737488351232) : ∃ l : List UInt8, l.length = len ∧ BytesIn w.heap.size w (.slice a len cap) l := by
  rcases h with ⟨rfl, rfl, rfl, _⟩ | ⟨x, rfl, h1, h2, h3, h4, h5⟩
  · exact ⟨[], rfl, .inl (.inl ⟨rfl, rfl⟩)⟩
  · by_cases h0 : len = 0
    · subst h0
      exact ⟨[], rfl, .inr ⟨x, cap, rfl, rfl⟩⟩
    · obtain ⟨b, off, rfl, hc⟩ := ints_at h4 (by omega)
      have hlt : b < w.heap.size := World.block_lt_of_cell? w ⟨b, off, none⟩ (by simpa using hc 0 (by omega))
      refine ⟨(zs.take len).map fun n => UInt8.ofNat n.toNat, by simp; omega, .inl (.inr ⟨b, off, cap, by simp [h3, Nat.min_eq_left h1], hlt, by simp; omega, ⟨by unfold maxLen at h2; omega, by simp; omega⟩, fun j u hj => ?_⟩)⟩
      simp only [List.getElem?_map, Option.map_eq_some_iff] at hj
      obtain ⟨n, hn, rfl⟩ := hj
      rw [List.getElem?_take] at hn
      split at hn
      · rename_i hjl
        have hjz : j < zs.length := by omega
        have e := hc j hjz
        rw [List.getElem?_eq_getElem hjz] at hn
        cases hn
        rw [e, u8_of_wf (h5 _ (List.getElem_mem hjz))]
        simp [List.getElem?_eq_getElem hjz]
      · cases hn

end Go.Proofs.Ytljfhedmpnikiaa
