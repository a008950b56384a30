/-
  A slice of bytes as an argument: what reads as a datum of its type is a row of bytes. No condition.
-/
import Derived.Test.YtlifnddofgeaaaaRef
import Derived.Test.YtlifnddofgeaaaaVal
import Derived.Below
set_option linter.unusedSimpArgs false
set_option linter.unusedVariables false
namespace Go.Proofs.Ytlifnddofgeaaaa
open Go.ChangeShapes Go.WideShapes Go.ChangeAt Go.WideMaps Go.WideElems Go.RowKit

theorem laidOut : laidOutB Try.prog = true := by kernel_rfl
theorem u8_of_wf {n : Int} (h : (Lit.int .u8 n).wf = true) : ((UInt8.ofNat n.toNat).toNat : Int) = n := by
  have hb : 0 ≤ n ∧ n < 256 := by
    simp [Lit.wf, IntKind.min, IntKind.max, IntKind.signed, IntKind.bits] at h; omega
  rw [UInt8.toNat_ofNat']
  omega
theorem open_bytes {H : Type} {enc : TypeId × Value → H} {W : World} {base b0 : Nat} {held : Bool} {r : Reach} {v : Value} {d : DataW H} {ps : List MemPlace}
    (hv : Value.okWide Try.prog W r b0 27 v) (hd : DataW.Trod enc Try.prog W base (fun _ => true) held 27 v d ps) :
    ∃ (p : Option Addr) (n c : Nat) (l : List UInt8), v = .slice p n c ∧ Sl 1 p n c (Lib.byteCells l) W := by
  obtain ⟨a0, len0, cap0, rfl⟩ := okWide_slice Try.underlying27 hv
  obtain ⟨fuel, hf⟩ := hd
  rcases open_ints Try.underlying27 Try.underlying5 (by kernel_rfl) hf with ⟨hcs, _⟩ | ⟨x, l, c, zs, hcs, _, hl, hm, hz, _, hcell, hwz⟩
  · simp [Value.cells] at hcs
    obtain ⟨rfl, rfl, rfl⟩ := hcs
    exact ⟨none, 0, 0, [], rfl, ⟨rfl, fun _ h => (by cases h), fun h => absurd rfl h⟩, Nat.le_refl _, by decide, fun _ => rfl⟩
  · simp [Value.cells] at hcs
    obtain ⟨rfl, rfl, rfl⟩ := hcs
    have h3 : zs.length = cap0 := by simpa using hz
    refine ⟨some x, len0, cap0, (zs.take len0).map fun n => UInt8.ofNat n.toNat, rfl, ⟨by rw [Lib.byteCells_length]; simp [h3, Nat.min_eq_left hl], byteCells_one _, fun hne => ?_⟩, hl, by unfold maxLen at hm; omega, fun h => by cases h⟩
    have h0 : len0 ≠ 0 := by
      rintro rfl
      apply hne
      simp [Lib.byteCells]
    obtain ⟨b, off, rfl, hc⟩ := ints_at hcell (by omega)
    refine ⟨b, off, rfl, World.block_lt_of_cell? W ⟨b, off, none⟩ (by simpa using hc 0 (by omega)), fun j u hj => ?_⟩
    simp only [Lib.byteCells, List.getElem?_map, Option.map_eq_some_iff] at hj
    obtain ⟨b8, ⟨n, hn, rfl⟩, rfl⟩ := hj
    rw [List.getElem?_take] at hn
    split at hn
    · rename_i hjl
      have hjz : j < zs.length := by omega
      have e := hc j hjz
      rw [List.getElem?_eq_getElem hjz] at hn
      cases hn
      rw [e, u8_of_wf (hwz _ (List.getElem_mem hjz))]
      simp [List.getElem?_eq_getElem hjz]
    · cases hn
end Go.Proofs.Ytlifnddofgeaaaa
