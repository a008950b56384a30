/-
  EDeep: merged, what the law does not reach left out (each text says what it holds where it lies in wip). No condition.
-/
import Derived.Test.YtjgeedgphcjhoaaGreatD21
set_option linter.unusedSimpArgs false
set_option linter.unusedVariables false
set_option maxRecDepth 100000
namespace Go.Proofs.YtjgeedgphcjhoaaGreat
open Go.RowKit
set_option maxHeartbeats 4000000 in
theorem deep_out (depth kind : Int) (w : World) (h : depth < 0 ∨ 520 < depth) :
  Calls Tryz.prog 10 #[.int .i64 depth, .int .i64 kind] w fun e w' => e = .returned (.bool true) ∧ Below w.heap.size w w' := by
 have HA := fun W => hid (awakeE W)
 by_cases h0 : depth < 0
 ·have d0 : decide (depth < 0) = true := by simpa using h0
  clear h
  go_enter Tryz.func10, Tryz.ntmps10
  go_wp2_with (go_at_call 22; (with_reducible refine (HA _).out.mono ?_); rintro e w1 ⟨rfl, hb1⟩; have HB1 := hid hb1; clear hb1)
  go_ret
  exact ⟨rfl, HB1.out⟩
 ·have d0 : decide (depth < 0) = false := by simpa using h0
  have h5 : 520 < depth := by omega
  have d1 : decide (520 < depth) = true := by simpa using h5
  clear h
  go_enter Tryz.func10, Tryz.ntmps10
  go_wp2_with (go_at_call 22; (with_reducible refine (HA _).out.mono ?_); rintro e w1 ⟨rfl, hb1⟩; have HB1 := hid hb1; clear hb1)
  go_ret
  exact ⟨rfl, HB1.out⟩
set_option maxHeartbeats 16000000 in
theorem deep_in (kind : Int) (n : Nat) (hn : n ≤ 520) (w : World) :
  Calls Tryz.prog 10 #[.int .i64 n, .int .i64 kind] w fun e w' => e = .returned (.bool true) ∧ Below w.heap.size w w' := by
 have HA := fun W => hid (awakeE W)
 have d0 : decide ((n : Int) < 0) = false := by simp
 have hn' : (n : Int) ≤ 520 := by omega
 have d1 : decide ((520 : Int) < (n : Int)) = false := by simp; omega
 have HN := hid hn
 clear hn
 go_enter Tryz.func10, Tryz.ntmps10
 go_upto_region 7 with (go_at_call 22; (with_reducible refine (HA _).out.mono ?_); rintro e w1 ⟨rfl, hb1⟩; have HB1 := hid hb1; clear hb1)
 have HC0 := CA.new w1 #[.int .i64 1, .int .i64 0, .int .i64 0, .int .u64 0, .int .u64 0, .slice none 0 0, .slice none 0 0, .slice none 0 0, .bool false] 39
 have HS0 : Hid (w1.heap.size < (w1.alloc (.cells #[.int .i64 1, .int .i64 0, .int .i64 0, .int .u64 0, .int .u64 0, .slice none 0 0, .slice none 0 0, .slice none 0 0, .bool false] 39)).heap.size ∧ (∃ f, Tw 0 f ∧ SA (w1.alloc (.cells #[.int .i64 1, .int .i64 0, .int .i64 0, .int .u64 0, .int .u64 0, .slice none 0 0, .slice none 0 0, .slice none 0 0, .bool false] 39)).heap.size (w1.alloc (.cells #[.int .i64 1, .int .i64 0, .int .i64 0, .int .u64 0, .int .u64 0, .slice none 0 0, .slice none 0 0, .slice none 0 0, .bool false] 39)) (.slice (some ⟨w1.heap.size, 0, none⟩) 1 1) f) ∧ Below w.heap.size w (w1.alloc (.cells #[.int .i64 1, .int .i64 0, .int .i64 0, .int .u64 0, .int .u64 0, .slice none 0 0, .slice none 0 0, .slice none 0 0, .bool false] 39))) :=
  ⟨HC0.lt, ⟨insFo 1 .nil, rfl, SA_ins ⟨HC0.at rfl, HC0.at rfl, HC0.at rfl, HC0.at rfl, HC0.at rfl, HC0.at rfl, HC0.at rfl, HC0.at rfl, HC0.at rfl⟩ HC0.lt (SA.nil _ _ _ _)⟩, HB1.out.alloc HB1.out.size _⟩
 clear HC0
 generalize w1.alloc (.cells #[.int .i64 1, .int .i64 0, .int .i64 0, .int .u64 0, .int .u64 0, .slice none 0 0, .slice none 0 0, .slice none 0 0, .bool false] 39) = W0 at *
 generalize w1.heap.size = g0 at *
 go_wp2
 go_loopw [6, 7] (fun vx vi wr => ∃ (i g : Nat), i ≤ n ∧ vi = .int .i64 i ∧ vx = .slice (some ⟨g, 0, none⟩) 1 1 ∧ Hid (g < wr.heap.size ∧ (∃ f, Tw i f ∧ SA wr.heap.size wr (.slice (some ⟨g, 0, none⟩) 1 1) f) ∧ Below w.heap.size w wr)) (fun _ vi _ => n - (intOf vi).toNat)
 case atStart => exact ⟨0, g0, Nat.zero_le _, rfl, rfl, HS0⟩
 case round =>
  obtain ⟨i, g, hi, rfl, rfl, HI⟩ := hrel
  by_cases hlt : i < n
  ·obtain ⟨K, hK1, hK⟩ := and_i64_le (wrap64 (kind + i)) 1 (by decide)
   have hK2 : bits .and .i64 (wrap64 (kind + i)) 1 = (K : Int) := hK
   have hK3 : (K : Int) ≤ 1 := by omega
   have HK := hid (show K = 0 ∨ K = 1 by omega)
   clear hK hK1
   go_wp2
   have HC := CA.new wr #[.int .i64 (2 + (K : Int)), .int .i64 0, .int .i64 0, .int .u64 0, .int .u64 0, .slice none 0 0, .slice (some ⟨g, 0, none⟩) 1 1, .slice none 0 0, .bool false] 39
   have hbl := (Below.refl wr.heap.size wr).alloc (Nat.le_refl _) (.cells #[.int .i64 (2 + (K : Int)), .int .i64 0, .int .i64 0, .int .u64 0, .int .u64 0, .slice none 0 0, .slice (some ⟨g, 0, none⟩) 1 1, .slice none 0 0, .bool false] 39)
   have HS := hid (show wr.heap.size < (wr.alloc (.cells #[.int .i64 (2 + (K : Int)), .int .i64 0, .int .i64 0, .int .u64 0, .int .u64 0, .slice none 0 0, .slice (some ⟨g, 0, none⟩) 1 1, .slice none 0 0, .bool false] 39)).heap.size ∧ (∃ f, Tw (i + 1) f ∧ SA (wr.alloc (.cells #[.int .i64 (2 + (K : Int)), .int .i64 0, .int .i64 0, .int .u64 0, .int .u64 0, .slice none 0 0, .slice (some ⟨g, 0, none⟩) 1 1, .slice none 0 0, .bool false] 39)).heap.size (wr.alloc (.cells #[.int .i64 (2 + (K : Int)), .int .i64 0, .int .i64 0, .int .u64 0, .int .u64 0, .slice none 0 0, .slice (some ⟨g, 0, none⟩) 1 1, .slice none 0 0, .bool false] 39)) (.slice (some ⟨wr.heap.size, 0, none⟩) 1 1) f) ∧ Below w.heap.size w (wr.alloc (.cells #[.int .i64 (2 + (K : Int)), .int .i64 0, .int .i64 0, .int .u64 0, .int .u64 0, .slice none 0 0, .slice (some ⟨g, 0, none⟩) 1 1, .slice none 0 0, .bool false] 39)) from by
    obtain ⟨f, hf, hs⟩ := HI.out.2.1
    exact ⟨HC.lt, ⟨insFo (2 + (K : Int)) f, ⟨2 + (K : Int), f, by have := HK.out; omega, hf, rfl⟩, SA_ins ⟨HC.at rfl, HC.at rfl, HC.at rfl, HC.at rfl, HC.at rfl, HC.at rfl, HC.at rfl, HC.at rfl, HC.at rfl⟩ HC.lt (SA.mono (SA.below hs hbl) hbl.size)⟩, HI.out.2.2.alloc HI.out.2.2.size _⟩)
   clear HC hbl
   exact ⟨⟨i + 1, wr.heap.size, hlt, by simp, rfl, HS⟩, by simp [intOf]; omega⟩
  ·obtain rfl : i = n := by omega
   obtain ⟨f, hf, hs⟩ := HI.out.2.1
   have HBX := hid HI.out.2.2
   obtain ⟨t1, t2, t3, t4, t5, t6, _⟩ := tw_all i f hf
   have hm := tw_may i f hf
   have HN2 := HN.out
   clear HI HS0
   by_cases h5 : (i : Int) < 500
   ·have hc : codeB f = true := by rw [hm]; simpa using h5
    have HC := hid (encCode_yes f (by omega) t3 (by omega) _ wr hs hc)
    have d5 : decide ((500 : Int) ≤ (i : Int)) = false := by simp; omega
    have hl : (f.enc ++ [11]).length = 3 * i + 2 := by rw [List.length_append, t5]; rfl
    have h2 : (f.enc ++ [11])[2 * i]? = some 1 := by rw [List.getElem?_append_left (by omega)]; exact t6
    have h3 : (f.enc ++ [11])[3 * i + 1]? = some 11 := by rw [List.getElem?_append_right (by omega), t5]; simp
    obtain ⟨E, hE⟩ : ∃ E, E = f.enc ++ [11] := ⟨_, rfl⟩
    rw [← hE] at HC hl h2 h3
    have HL := hid hl
    have HH2 := hid h2
    have HH3 := hid h3
    clear hs hf t1 t2 t3 t4 t5 t6 hm hc hE hl h2 h3 HN2
    go_upto_region 12 with (go_at_call 25; (with_reducible refine HC.out.mono ?_); rintro e w2 ⟨p, m, c, rfl, ho, hb⟩; have HO := hid ho; have HB2 := hid (HBX.out.trans (hb.mono HBX.out.size)); clear ho hb)
    obtain ⟨gb, cc, hv⟩ := own_at HO.out (by rw [HL.out]; omega)
    obtain ⟨rfl, rfl, rfl⟩ : p = some ⟨gb, 0, none⟩ ∧ m = E.length ∧ c = cc := by injection hv with a b c; exact ⟨a, b, c⟩
    have z2 := HO.out.cellAt (2 * i) (by rw [HL.out]; omega)
    have z3 := HO.out.cellAt (3 * i + 1) (by rw [HL.out]; omega)
    simp only [Lib.byteCells, List.getElem?_map, HH2.out, HH3.out, Option.map_some] at z2 z3
    rw [HL.out]
    clear hv HO HC
    have e1 : ((3 * (i : Int) + 2) == (2 + 3 * (i : Int))) = true := by simp; omega
    have x2 : w2.cell? ⟨gb, 2 * i, none⟩ = some (.int .u8 1) := z2
    have x3 : w2.cell? ⟨gb, 1 + 3 * i, none⟩ = some (.int .u8 11) := by rw [Nat.add_comm 1 (3 * i)]; exact z3
    have x4 : w2.cell? ⟨gb, 3 * i + 1, none⟩ = some (.int .u8 11) := z3
    clear z2 z3
    go_wp2
    go_ret
    exact ⟨rfl, HB2.out⟩
   ·have hc : codeB f = false := by rw [hm]; simpa using h5
    have HC := hid (encCode_no f (by omega) _ wr hs hc)
    have d5 : decide ((500 : Int) ≤ (i : Int)) = true := by simp; omega
    clear hs hf t1 t2 t3 t4 t5 t6 hm hc HN2
    go_wp2_with (go_at_call 25; (with_reducible refine HC.out.mono ?_); rintro e w2 ⟨rfl, hb⟩; have HB2 := hid (HBX.out.trans (hb.mono HBX.out.size)); clear hb)
    go_ret
    exact ⟨rfl, HB2.out⟩
theorem law_Deep (depth kind : Int) (w : World) : Calls Tryz.prog 10 #[.int .i64 depth, .int .i64 kind] w fun e w' => e = .returned (.bool true) ∧ Below w.heap.size w w' := by
 by_cases h : depth < 0 ∨ 520 < depth
 ·exact deep_out depth kind w h
 ·obtain ⟨n, rfl⟩ : ∃ n : Nat, depth = n := ⟨depth.toNat, by omega⟩
  exact deep_in kind n (by omega) w
end Go.Proofs.YtjgeedgphcjhoaaGreat
