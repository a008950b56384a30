/-
  A script as an argument: what reads as a datum of its type is a row of what is done. No condition.
-/
import Derived.Test.YtlifnddofgeaaaaVal2
import Derived.Test.YtlifnddofgeaaaaRef3
set_option linter.unusedSimpArgs false
set_option linter.unusedVariables false
set_option maxRecDepth 100000
namespace Go.Proofs.Ytlifnddofgeaaaa
open Go.ChangeShapes Go.WideShapes Go.ChangeAt Go.WideMaps Go.WideElems Go.RowKit

theorem pick {α : Type} (d : α) {n : Nat} {P : Nat → α → Prop} (h : ∀ i, i < n → ∃ a, P i a) : ∃ f : Nat → α, ∀ i, i < n → P i (f i) :=
  ⟨fun i => if h' : i < n then Classical.choose (h i h') else d, fun i hi => by simp only [hi, dif_pos]; exact Classical.choose_spec (h i hi)⟩
theorem c5 : Try.prog.cellsOf 5 = 1 := by kernel_rfl
theorem c27 : Try.prog.cellsOf 27 = 1 := by kernel_rfl
theorem c34 : Try.prog.cellsOf 34 = 10 := by kernel_rfl
theorem add_zero' (b : Addr) : b.add 0 = b := by unfold Addr.add; exact if_pos rfl
theorem spot_none {w : World} {a : Addr} {v : Value} (h : w.cell? (a.add 0) = some v) : a.spot = none := by
  have e : a.add 0 = a := by unfold Addr.add; simp
  rw [e] at h
  unfold World.cell? at h
  split at h
  · split at h
    · cases h
    · rename_i hs
      simpa using hs
  · cases h

theorem cell_plain {w : World} {a : Addr} {k : Nat} {v : Value} (h0 : a.spot = none) (h : w.cell? (a.add k) = some v) : w.cell? ⟨a.block, a.off + k, none⟩ = some v := by
  have e : a.add k = ⟨a.block, a.off + k, none⟩ := by
    unfold Addr.add
    split
    · rename_i hk
      subst hk
      cases a
      simp_all
    · rfl
  rw [← e]
  exact h
section
variable {H : Type} {enc : TypeId × Value → H} {W : World} {held : Bool}
theorem open_rows {fuel N : Nat} {T E : TypeId} {v : Value} {x : DataW H × List MemPlace} (hu : Try.prog.underlying T = some (.slice E)) (hN : Try.prog.cellsOf E = N) (hN0 : 0 < N)
    (h : DataW.trod enc Try.prog W 0 (fun _ => true) held fuel T [v] = some x) :
    ∃ p n c b o, v = .slice p n c ∧ n ≤ maxLen ∧ (n ≠ 0 → p = some ⟨b, o, none⟩ ∧ b < W.heap.size) ∧ ∀ i, i < n → ∃ cs m y, m < fuel ∧ DataW.trod enc Try.prog W 0 (fun _ => true) held m E cs = some y ∧ cs.length = N ∧ ∀ k z, cs[k]? = some z → W.cell? ⟨b, o + i * N + k, none⟩ = some z := by
  rcases DataW.trod_slice hu h with ⟨hc, rfl⟩ | ⟨a, len, cap, elems, rest, n, rfl, hc, rfl, hb, hl, hm, he, hat, _, _⟩
  · obtain rfl : v = .slice none 0 0 := by simpa using hc
    exact ⟨none, 0, 0, 0, 0, rfl, Nat.zero_le _, fun h => absurd rfl h, fun i hi => absurd hi (by omega)⟩
  · obtain rfl : v = .slice (some a) len cap := by simpa using hc
    have hlen : len ≤ maxLen := Nat.le_trans hl hm
    have hnode : ∀ i, i < len → ∃ cs y, DataW.trod enc Try.prog W 0 (fun _ => true) held n E cs = some y ∧ cs.length = N ∧ ∀ k, k < N → W.cell? ((a.add (i * N)).add k) = cs[k]? := by
      intro i hi
      have h1 := hat i hi
      rw [hN] at h1
      obtain ⟨y, hy⟩ : ∃ y, elems[i]? = some y := ⟨_, List.getElem?_eq_getElem (by omega)⟩
      rw [hy] at h1
      obtain ⟨cs, hcs, htr⟩ := Option.bind_eq_some_iff.1 h1
      obtain ⟨_, hlen, hcell⟩ := World.cells?_some hcs
      exact ⟨cs, y, htr, hlen, hcell⟩
    rcases Nat.eq_zero_or_pos len with h0 | hpos
    · subst h0
      exact ⟨some a, 0, cap, 0, 0, rfl, Nat.zero_le _, fun h => absurd rfl h, fun i hi => absurd hi (by omega)⟩
    · obtain ⟨cs0, y0, _, hl0, hc0⟩ := hnode 0 hpos
      have hc00 := hc0 0 hN0
      rw [Nat.zero_mul, add_zero', List.getElem?_eq_getElem (show 0 < cs0.length by rw [hl0]; exact hN0)] at hc00
      have hsp : a.spot = none := spot_none hc00
      have hlt : a.block < W.heap.size := by
        have h2 : (⟨a.block, a.off + 0, none⟩ : Addr).block < W.heap.size := World.block_lt_of_cell? _ _ (cell_plain hsp hc00)
        exact h2
      refine ⟨some a, len, cap, a.block, a.off, rfl, hlen, fun _ => ⟨by cases a; simp_all, hlt⟩, fun i hi => ?_⟩
      obtain ⟨cs, y, h1, h3, h4⟩ := hnode i hi
      refine ⟨cs, n, y, Nat.lt_succ_self _, h1, h3, fun k z hz => ?_⟩
      have hk : k < N := by have := (List.getElem?_eq_some_iff.1 hz).1; omega
      have h5 := (h4 k hk).trans hz
      have hs2 : (a.add (i * N)).spot = none := by
        unfold Addr.add
        split
        · exact hsp
        · rfl
      have h6 := cell_plain hs2 h5
      have e1 : (a.add (i * N)).block = a.block := by unfold Addr.add; split <;> rfl
      have e2 : (a.add (i * N)).off = a.off + i * N := by
        unfold Addr.add
        split
        · omega
        · rfl
      rw [e1, e2] at h6
      exact h6

/-- What is done, as one. -/
structure EAct where
  k : Int
  a : Nat
  b : Nat
  n : Nat
  c : Nat
  p : Option Addr
  m : Nat
  d : Nat
  l : List UInt8
  x : V4
def EAct.cs (e : EAct) : List Value := [.int .i64 e.k, .int .u64 e.a, .int .u64 e.b, .int .u64 e.n, .int .u8 e.c, .slice e.p e.m e.d, .int .i64 e.x.t, .int .u64 e.x.lo, .int .u64 e.x.hi, .bool e.x.nl]
structure EAct.ok (e : EAct) (W : World) : Prop where
  k : -9223372036854775808 ≤ e.k ∧ e.k < 9223372036854775808
  a : e.a < 18446744073709551616
  b : e.b < 18446744073709551616
  n : e.n < 18446744073709551616
  c : e.c < 256
  s : Sl 1 e.p e.m e.d (Lib.byteCells e.l) W
theorem fields34 : ∃ f0 f1 f2 f3 f4 f5 f6 : Field, Try.prog.underlying 34 = some (.struct #[f0, f1, f2, f3, f4, f5, f6]) ∧ (f0.type = 3 ∧ f1.type = 30 ∧ f2.type = 30 ∧ f3.type = 30 ∧ f4.type = 5 ∧ f5.type = 27 ∧ f6.type = 32) ∧ (f0.offset = 0 ∧ f1.offset = 1 ∧ f2.offset = 2 ∧ f3.offset = 3 ∧ f4.offset = 4 ∧ f5.offset = 5 ∧ f6.offset = 6) :=
  ⟨_, _, _, _, _, _, _, Try.underlying34, ⟨rfl, rfl, rfl, rfl, rfl, rfl, rfl⟩, ⟨rfl, rfl, rfl, rfl, rfl, rfl, rfl⟩⟩
theorem open_32 {n : Nat} {cs : List Value} {y : DataW H × List MemPlace} (h : DataW.trod enc Try.prog W 0 (fun _ => true) held n 32 cs = some y) : ∃ x : V4, cs = x.cs := by
  obtain ⟨f0, f1, f2, f3, hu, t0, t1, t2, t3, o0, o1, o2, o3⟩ := fields32
  obtain ⟨xs, m, rfl, hx, hl, hlen, hat⟩ := DataW.trod_struct hu h
  rw [c32] at hl
  obtain ⟨k0, k1, k2, k3, rfl⟩ : ∃ k0 k1 k2 k3, cs = [k0, k1, k2, k3] := by
    match cs, hl with
    | [_, _, _, _], _ => exact ⟨_, _, _, _, rfl⟩
  obtain ⟨y0, y1, y2, y3, rfl⟩ : ∃ y0 y1 y2 y3, xs = [y0, y1, y2, y3] := by
    match xs, hlen with
    | [_, _, _, _], _ => exact ⟨_, _, _, _, rfl⟩
  have h0 := hat 0 f0 rfl
  have h1 := hat 1 f1 rfl
  have h2 := hat 2 f2 rfl
  have h3 := hat 3 f3 rfl
  rw [t0, o0, c3] at h0
  rw [t1, o1, c30] at h1
  rw [t2, o2, c30] at h2
  rw [t3, o3, c4] at h3
  obtain ⟨z0, e0, g0, w0⟩ := DataW.trod_int Try.underlying3 h0
  obtain ⟨z1, e1, g1, w1⟩ := DataW.trod_int Try.underlying30 h1
  obtain ⟨z2, e2, g2, w2⟩ := DataW.trod_int Try.underlying30 h2
  obtain ⟨z3, e3, g3⟩ := DataW.trod_bool Try.underlying4 h3
  obtain rfl : k0 = .int .i64 z0 := by simpa using e0
  obtain rfl : k1 = .int .u64 z1 := by simpa using e1
  obtain rfl : k2 = .int .u64 z2 := by simpa using e2
  obtain rfl : k3 = .bool z3 := by simpa using e3
  obtain ⟨q1, rfl⟩ := Int.eq_ofNat_of_zero_le (bounds_u64 w1).1
  obtain ⟨q2, rfl⟩ := Int.eq_ofNat_of_zero_le (bounds_u64 w2).1
  exact ⟨⟨z0, q1, q2, z3⟩, rfl⟩
theorem open_Y {fuel : Nat} {v : Value} {y : DataW H × List MemPlace} (hf : DataW.trod enc Try.prog W 0 (fun _ => true) held fuel 27 [v] = some y) :
    ∃ (p : Option Addr) (n c : Nat) (l : List UInt8), v = .slice p n c ∧ Sl 1 p n c (Lib.byteCells l) W := by
  rcases open_ints Try.underlying27 Try.underlying5 (by kernel_rfl) hf with ⟨hcs, _⟩ | ⟨x, len0, cap0, zs, hcs, _, hl, hm, hz, _, hcell, hwz⟩
  · obtain rfl : v = .slice none 0 0 := by simpa using hcs
    exact ⟨none, 0, 0, [], rfl, ⟨rfl, fun _ h => (by cases h), fun h => absurd rfl h⟩, Nat.le_refl _, by decide, fun _ => rfl⟩
  · obtain rfl : v = .slice (some x) len0 cap0 := by simpa using hcs
    have h3 : zs.length = cap0 := by simpa using hz
    refine ⟨some x, len0, cap0, (zs.take len0).map fun n => UInt8.ofNat n.toNat, rfl, ⟨by rw [Lib.byteCells_length]; simp [h3, Nat.min_eq_left hl], byteCells_one _, fun hne => ?_⟩, hl, by unfold maxLen at hm; omega, fun h => by cases h⟩
    have h0 : len0 ≠ 0 := by
      rintro rfl
      apply hne
      simp [Lib.byteCells]
    obtain ⟨b, off, rfl, hc⟩ := ints_at hcell (by omega)
    refine ⟨b, off, rfl, World.block_lt_of_cell? W ⟨b, off, none⟩ (by simpa using hc 0 (by omega)), fun j u hj => ?_⟩
    simp only [Lib.byteCells, List.getElem?_map, Option.map_eq_some_iff] at hj
    obtain ⟨b8, ⟨n, hn, rfl⟩, rfl⟩ := hj
    rw [List.getElem?_take] at hn
    split at hn
    · rename_i hjl
      have hjz : j < zs.length := by omega
      have e := hc j hjz
      rw [List.getElem?_eq_getElem hjz] at hn
      cases hn
      rw [e, u8_of_wf (hwz _ (List.getElem_mem hjz))]
      simp [List.getElem?_eq_getElem hjz]
    · cases hn
theorem open_34 {n : Nat} {cs : List Value} {y : DataW H × List MemPlace} (h : DataW.trod enc Try.prog W 0 (fun _ => true) held n 34 cs = some y) : ∃ e : EAct, cs = e.cs ∧ e.ok W := by
  obtain ⟨f0, f1, f2, f3, f4, f5, f6, hu, ⟨t0, t1, t2, t3, t4, t5, t6⟩, ⟨o0, o1, o2, o3, o4, o5, o6⟩⟩ := fields34
  obtain ⟨xs, m, rfl, hx, hl, hlen, hat⟩ := DataW.trod_struct hu h
  rw [c34] at hl
  obtain ⟨k0, k1, k2, k3, k4, k5, k6, k7, k8, k9, rfl⟩ : ∃ k0 k1 k2 k3 k4 k5 k6 k7 k8 k9, cs = [k0, k1, k2, k3, k4, k5, k6, k7, k8, k9] := by
    match cs, hl with
    | [_, _, _, _, _, _, _, _, _, _], _ => exact ⟨_, _, _, _, _, _, _, _, _, _, rfl⟩
  obtain ⟨y0, y1, y2, y3, y4, y5, y6, rfl⟩ : ∃ y0 y1 y2 y3 y4 y5 y6, xs = [y0, y1, y2, y3, y4, y5, y6] := by
    match xs, hlen with
    | [_, _, _, _, _, _, _], _ => exact ⟨_, _, _, _, _, _, _, rfl⟩
  have h0 := hat 0 f0 rfl
  have h1 := hat 1 f1 rfl
  have h2 := hat 2 f2 rfl
  have h3 := hat 3 f3 rfl
  have h4 := hat 4 f4 rfl
  have h5 := hat 5 f5 rfl
  have h6 := hat 6 f6 rfl
  rw [t0, o0, c3] at h0
  rw [t1, o1, c30] at h1
  rw [t2, o2, c30] at h2
  rw [t3, o3, c30] at h3
  rw [t4, o4, c5] at h4
  rw [t5, o5, c27] at h5
  rw [t6, o6, c32] at h6
  obtain ⟨z0, e0, g0, w0⟩ := DataW.trod_int Try.underlying3 h0
  obtain ⟨z1, e1, g1, w1⟩ := DataW.trod_int Try.underlying30 h1
  obtain ⟨z2, e2, g2, w2⟩ := DataW.trod_int Try.underlying30 h2
  obtain ⟨z3, e3, g3, w3⟩ := DataW.trod_int Try.underlying30 h3
  obtain ⟨z4, e4, g4, w4⟩ := DataW.trod_int Try.underlying5 h4
  obtain ⟨p, ln, cp, l, e5, hs⟩ := open_Y (v := k5) h5
  obtain ⟨x, e6⟩ := open_32 (cs := [k6, k7, k8, k9]) h6
  obtain rfl : k0 = .int .i64 z0 := by simpa using e0
  obtain rfl : k1 = .int .u64 z1 := by simpa using e1
  obtain rfl : k2 = .int .u64 z2 := by simpa using e2
  obtain rfl : k3 = .int .u64 z3 := by simpa using e3
  obtain rfl : k4 = .int .u8 z4 := by simpa using e4
  subst e5
  obtain ⟨q1, rfl⟩ := Int.eq_ofNat_of_zero_le (bounds_u64 w1).1
  obtain ⟨q2, rfl⟩ := Int.eq_ofNat_of_zero_le (bounds_u64 w2).1
  obtain ⟨q3, rfl⟩ := Int.eq_ofNat_of_zero_le (bounds_u64 w3).1
  have hb4 : 0 ≤ z4 ∧ z4 < 256 := by
    simp [Lit.wf, IntKind.min, IntKind.max, IntKind.signed, IntKind.bits] at w4; omega
  obtain ⟨q4, rfl⟩ := Int.eq_ofNat_of_zero_le hb4.1
  have b0 := bounds_i64 w0
  have b1 := bounds_u64 w1
  have b2 := bounds_u64 w2
  have b3 := bounds_u64 w3
  refine ⟨⟨z0, q1, q2, q3, q4, p, ln, cp, l, x⟩, ?_, ⟨⟨b0.1, by have := b0.2; show z0 < _; omega⟩, by have := b1.2; show q1 < _; omega, by have := b2.2; show q2 < _; omega, by have := b3.2; show q3 < _; omega, by show q4 < _; omega, hs⟩⟩
  simp only [EAct.cs]
  simp only [V4.cs] at e6
  simp only [List.cons.injEq] at e6
  obtain ⟨rfl, rfl, rfl, rfl, _⟩ := e6
  rfl
/-- A script in memory. -/
structure Scr (p : Option Addr) (n b o : Nat) (E : Nat → EAct) (W : World) : Prop where
  at_ : n ≠ 0 → p = some ⟨b, o, none⟩ ∧ b < W.heap.size
  cell : ∀ i, i < n → ∀ k z, (E i).cs[k]? = some z → W.cell? ⟨b, o + i * 10 + k, none⟩ = some z
  ok : ∀ i, i < n → (E i).ok W
theorem open_acts {base b0 : Nat} {r : Reach} {v : Value} {d : DataW H} {ps : List MemPlace} (hv : Value.okWide Try.prog W r b0 24 v) (hd : DataW.Trod enc Try.prog W 0 (fun _ => true) held 24 v d ps) :
    ∃ (p : Option Addr) (n c b o : Nat) (E : Nat → EAct), v = .slice p n c ∧ n ≤ maxLen ∧ Scr p n b o E W := by
  obtain ⟨fuel, hf⟩ := hd
  obtain ⟨a0, len0, cap0, rfl⟩ := okWide_slice Try.underlying24 hv
  obtain ⟨p, len, c, b, o, hpe, hn, hp, hi⟩ := open_rows (v := .slice a0 len0 cap0) (fuel := fuel) Try.underlying24 c34 (by decide) hf
  have hq : ∀ i, i < len → ∃ x : EAct, (∀ k z, x.cs[k]? = some z → W.cell? ⟨b, o + i * 10 + k, none⟩ = some z) ∧ x.ok W := by
    intro i hl
    obtain ⟨cs, m, y, _, htr, hc, hz⟩ := hi i hl
    obtain ⟨e, rfl, hok⟩ := open_34 htr
    exact ⟨e, hz, hok⟩
  obtain ⟨f, hf2⟩ := pick ⟨0, 0, 0, 0, 0, none, 0, 0, [], ⟨0, 0, 0, false⟩⟩ hq
  exact ⟨p, len, c, b, o, f, hpe, hn, hp, fun i hi => (hf2 i hi).1, fun i hi => (hf2 i hi).2⟩
end
end Go.Proofs.Ytlifnddofgeaaaa
