/-
  What reads as instructions is instructions in memory: what the law's frame wants of it. Condition: no list is longer than a machine holds.
-/
import Derived.Test.YtjgeedgphcjhoaaGreatO32
import Derived.ProofKit
import Derived.OpenShut
import Derived.ChangeArms
import Derived.SizedLaws
set_option linter.unusedSimpArgs false
set_option linter.unusedVariables false
set_option maxRecDepth 100000
namespace Go.Proofs.YtjgeedgphcjhoaaGreat
open Go.ChangeShapes Go.WideShapes Go.ChangeAt Go.RowKit
open Go.ChangeShapes Go.WideShapes Go.ChangeAt Go.RowKit

theorem c35 : Tryz.prog.cellsOf 35 = 1 := by kernel_rfl
theorem c36 : Tryz.prog.cellsOf 36 = 1 := by kernel_rfl
theorem c37 : Tryz.prog.cellsOf 37 = 1 := by kernel_rfl
theorem c39 : Tryz.prog.cellsOf 39 = 9 := by kernel_rfl
theorem by3 : Tryz.prog.bytesOf 3 = 8 := by kernel_rfl
theorem by39 : 8 ≤ Tryz.prog.bytesOf 39 := by
  have : decide (8 ≤ Tryz.prog.bytesOf 39) = true := by kernel_rfl
  exact of_decide_eq_true this

/-- No list in it is longer than a machine holds. -/
def WB {H : Type} (t : TypeId) (d : DataW H) : Prop := ∀ n ∈ d.weights Tryz.prog t, n ≤ reachBytes
theorem wb_all {H : Type} {e : TypeId} : ∀ {l : List (DataW H)}, (∀ n ∈ DataW.weightsAll Tryz.prog e l, n ≤ reachBytes) → ∀ d ∈ l, WB e d
  | [], _, d, hd => by simp at hd
  | x :: l, h, d, hd => by
    simp only [DataW.weightsAll, List.mem_append] at h
    rcases List.mem_cons.1 hd with rfl | hd
    · exact fun n hn => h n (.inl hn)
    · exact wb_all (fun n hn => h n (.inr hn)) d hd
theorem wb_slice {H : Type} {t e : TypeId} {elems spare : List (DataW H)} (hu : Tryz.prog.underlying t = some (.slice e)) (h : WB t (.slice elems spare)) : (elems.length + spare.length) * Tryz.prog.bytesOf e ≤ reachBytes ∧ ∀ d ∈ elems, WB e d := by
  unfold WB at h
  simp only [DataW.weights, hu, List.mem_cons, List.mem_append] at h
  exact ⟨h _ (.inl rfl), wb_all fun n hn => h n (.inr (.inl hn))⟩
theorem wb_part {H : Type} {t : TypeId} {fs : Array Field} {parts : List (DataW H)} (hu : Tryz.prog.underlying t = some (.struct fs)) (h : WB t (.agg parts)) (j : Nat) (f : Field) (d : DataW H) (hf : fs[j]? = some f) (hd : parts[j]? = some d) : WB f.type d := by
  intro n hn
  unfold WB at h
  simp only [DataW.weights, hu] at h
  exact h n (DataW.weights_mem_each (by simp [hf]) hd n hn)

theorem add_zero' (b : Addr) : b.add 0 = b := by unfold Addr.add; exact if_pos rfl
theorem cell_plain {w : World} {a : Addr} {k : Nat} {v : Value} (h0 : a.spot = none) (h : w.cell? (a.add k) = some v) : w.cell? ⟨a.block, a.off + k, none⟩ = some v := by
  have e : a.add k = ⟨a.block, a.off + k, none⟩ := by
    unfold Addr.add
    split
    · rename_i hk
      subst hk
      cases a
      simp_all
    · rfl
  rw [← e]
  exact h
theorem spot_none {w : World} {a : Addr} {v : Value} (h : w.cell? (a.add 0) = some v) : a.spot = none := by
  have e : a.add 0 = a := by unfold Addr.add; simp
  rw [e] at h
  unfold World.cell? at h
  split at h
  · split at h
    · cases h
    · rename_i hs
      simpa using hs
  · cases h

section
variable {H : Type} {enc : TypeId × Value → H} {W : World} {sp : Nat → Bool} {held : Bool}

theorem fields39 : ∃ f0 f1 f2 f3 f4 f5 f6 f7 f8 : Field, Tryz.prog.underlying 39 = some (.struct #[f0, f1, f2, f3, f4, f5, f6, f7, f8]) ∧ (f0.type = 3 ∧ f1.type = 3 ∧ f2.type = 3 ∧ f3.type = 35 ∧ f4.type = 35 ∧ f5.type = 36 ∧ f6.type = 37 ∧ f7.type = 37 ∧ f8.type = 4) ∧
    (f0.offset = 0 ∧ f1.offset = 1 ∧ f2.offset = 2 ∧ f3.offset = 3 ∧ f4.offset = 4 ∧ f5.offset = 5 ∧ f6.offset = 6 ∧ f7.offset = 7 ∧ f8.offset = 8) :=
  ⟨_, _, _, _, _, _, _, _, _, Tryz.underlying39, ⟨rfl, rfl, rfl, rfl, rfl, rfl, rfl, rfl, rfl⟩, ⟨rfl, rfl, rfl, rfl, rfl, rfl, rfl, rfl, rfl⟩⟩

end

open Go.ChangeShapes Go.WideShapes Go.ChangeAt Go.RowKit

section
variable {H : Type} {enc : TypeId × Value → H} {W : World} {sp : Nat → Bool} {held : Bool}

theorem open_listN {fuel : Nat} {v : Value} {x : DataW H × List MemPlace} (h : DataW.trod enc Tryz.prog W 0 sp held fuel 36 [v] = some x) (hw : WB 36 x.1) : ∃ l p c, v = .slice p l.length c ∧ LI W.heap.size W v l ∧ ∀ x ∈ l, i64B x := by
  rcases DataW.trod_slice Tryz.underlying36 h with ⟨hc, rfl⟩ | ⟨a, len, cap, elems, rest, n, rfl, hc, rfl, hb, hl, hm, he, hat, _, _⟩
  · obtain rfl : v = .slice none 0 0 := by simpa using hc
    exact ⟨[], none, 0, rfl, LI.nil _ _ _ _, fun x hx => absurd hx (by simp)⟩
  · obtain rfl : v = .slice (some a) len cap := by simpa using hc
    obtain ⟨hs, hel⟩ := wb_slice Tryz.underlying36 hw
    rw [by3] at hs
    simp only [List.length_map] at hs
    have hall : ∀ i, i < len → ∃ z : Int, W.cell? (a.add i) = some (.int .i64 z) ∧ i64B z := by
      intro i hi
      have h1 := hat i hi
      rw [c3, Nat.mul_one] at h1
      obtain ⟨y, hy⟩ : ∃ y, elems[i]? = some y := ⟨_, List.getElem?_eq_getElem (by omega)⟩
      rw [hy] at h1
      obtain ⟨cs, hcs, htr⟩ := Option.bind_eq_some_iff.1 h1
      obtain ⟨_, hlen, hcell⟩ := World.cells?_some hcs
      obtain ⟨z, rfl, _, wz⟩ := DataW.trod_int Tryz.underlying3 htr
      have := hcell 0 (by decide)
      have bz := bounds_i64 wz
      refine ⟨z, ?_, ⟨bz.1, by omega⟩⟩
      rw [add_zero'] at this
      simpa using this
    obtain ⟨f, hf⟩ : ∃ f : Nat → Int, ∀ i, i < len → W.cell? (a.add i) = some (.int .i64 (f i)) ∧ i64B (f i) := ⟨fun i => if h : i < len then Classical.choose (hall i h) else 0, fun i hi => by simp only [hi, dif_pos]; exact Classical.choose_spec (hall i hi)⟩
    refine ⟨(List.range len).map f, some a, cap, by simp, ⟨some a, cap, by simp, by simp [reachBytes] at hs ⊢; omega, fun hne => ?_⟩, fun x hx => by
      obtain ⟨i, hi, rfl⟩ := List.mem_map.1 hx
      exact (hf i (List.mem_range.1 hi)).2⟩
    have hpos : 0 < len := by
      rcases Nat.eq_zero_or_pos len with h0 | h0
      · subst h0; simp at hne
      · exact h0
    have hsp := spot_none (hf 0 hpos).1
    refine ⟨a.block, a.off, by cases a; simp_all, ?_, fun j x hj => ?_⟩
    · have hlt := World.block_lt_of_cell? _ _ (cell_plain hsp (hf 0 hpos).1)
      exact hlt
    · have hjl : j < len := by
        have := (List.getElem?_eq_some_iff.1 hj).1
        simpa using this
      simp [List.getElem?_map, List.getElem?_range hjl] at hj
      rw [← hj]
      exact cell_plain hsp (hf j hjl).1

/-- One instruction, of nine cells. -/
theorem open_nodeN {n : Nat} {cs : List Value} {y : DataW H × List MemPlace} (h : DataW.trod enc Tryz.prog W 0 sp held n 39 cs = some y) (hw : WB 39 y.1)
    (hrec : ∀ m, m < n → ∀ v z, DataW.trod enc Tryz.prog W 0 sp held m 37 [v] = some z → WB 37 z.1 → ∃ f, SA W.heap.size W v f ∧ f.len < 9223372036854775807 ∧ (Lens f ∧ RN f)) :
    ∃ (op a b : Int) (nn hh : Nat) (l : List Int) (ot : Bool) (body els : Fo) (vl vb ve : Value), cs = [.int .i64 op, .int .i64 a, .int .i64 b, .int .u64 (nn : Nat), .int .u64 (hh : Nat), vl, vb, ve, .bool ot] ∧ nn < 18446744073709551616 ∧ hh < 18446744073709551616 ∧
      LI W.heap.size W vl l ∧ SA W.heap.size W vb body ∧ SA W.heap.size W ve els ∧ body.len < 9223372036854775807 ∧ els.len < 9223372036854775807 ∧ (Lens body ∧ RN body) ∧ (Lens els ∧ RN els) ∧ i64B a ∧ i64B b ∧ ∀ x ∈ l, i64B x := by
  obtain ⟨f0, f1, f2, f3, f4, f5, f6, f7, f8, hu, ⟨t0, t1, t2, t3, t4, t5, t6, t7, t8⟩, ⟨o0, o1, o2, o3, o4, o5, o6, o7, o8⟩⟩ := fields39
  obtain ⟨xs, m, rfl, hx, hl, hlen, hat⟩ := DataW.trod_struct hu h
  rw [c39] at hl
  obtain ⟨k0, k1, k2, k3, k4, k5, k6, k7, k8, rfl⟩ : ∃ k0 k1 k2 k3 k4 k5 k6 k7 k8, cs = [k0, k1, k2, k3, k4, k5, k6, k7, k8] := by
    match cs, hl with
    | [_, _, _, _, _, _, _, _, _], _ => exact ⟨_, _, _, _, _, _, _, _, _, rfl⟩
  obtain ⟨y0, y1, y2, y3, y4, y5, y6, y7, y8, rfl⟩ : ∃ y0 y1 y2 y3 y4 y5 y6 y7 y8, xs = [y0, y1, y2, y3, y4, y5, y6, y7, y8] := by
    match xs, hlen with
    | [_, _, _, _, _, _, _, _, _], _ => exact ⟨_, _, _, _, _, _, _, _, _, rfl⟩
  have h0 := hat 0 f0 rfl
  have h1 := hat 1 f1 rfl
  have h2 := hat 2 f2 rfl
  have h3 := hat 3 f3 rfl
  have h4 := hat 4 f4 rfl
  have h5 := hat 5 f5 rfl
  have h6 := hat 6 f6 rfl
  have h7 := hat 7 f7 rfl
  have h8 := hat 8 f8 rfl
  rw [t0, o0, c3] at h0
  rw [t1, o1, c3] at h1
  rw [t2, o2, c3] at h2
  rw [t3, o3, c35] at h3
  rw [t4, o4, c35] at h4
  rw [t5, o5, c36] at h5
  rw [t6, o6, c37] at h6
  rw [t7, o7, c37] at h7
  rw [t8, o8, c4] at h8
  obtain ⟨z0, e0, _, _⟩ := DataW.trod_int Tryz.underlying3 h0
  obtain ⟨z1, e1, _, w1⟩ := DataW.trod_int Tryz.underlying3 h1
  obtain ⟨z2, e2, _, w2⟩ := DataW.trod_int Tryz.underlying3 h2
  obtain ⟨z3, e3, _, w3⟩ := DataW.trod_int Tryz.underlying35 h3
  obtain ⟨z4, e4, _, w4⟩ := DataW.trod_int Tryz.underlying35 h4
  obtain ⟨z8, e8, _⟩ := DataW.trod_bool Tryz.underlying4 h8
  obtain rfl : k0 = .int .i64 z0 := by simpa using e0
  obtain rfl : k1 = .int .i64 z1 := by simpa using e1
  obtain rfl : k2 = .int .i64 z2 := by simpa using e2
  obtain rfl : k3 = .int .u64 z3 := by simpa using e3
  obtain rfl : k4 = .int .u64 z4 := by simpa using e4
  obtain rfl : k8 = .bool z8 := by simpa using e8
  obtain ⟨b1, b2⟩ := bounds_u64 w3
  obtain ⟨b3, b4⟩ := bounds_u64 w4
  obtain ⟨n3, rfl⟩ := Int.eq_ofNat_of_zero_le b1
  obtain ⟨n4, rfl⟩ := Int.eq_ofNat_of_zero_le b3
  rw [hx] at hw
  have q5 := wb_part hu hw 5 f5 y5.1 rfl rfl
  have q6 := wb_part hu hw 6 f6 y6.1 rfl rfl
  have q7 := wb_part hu hw 7 f7 y7.1 rfl rfl
  rw [t5] at q5
  rw [t6] at q6
  rw [t7] at q7
  obtain ⟨l, p5, c5, e5, hl5, r5⟩ := open_listN (v := k5) h5 q5
  obtain ⟨fb, sb, lb, nb⟩ := hrec m (Nat.lt_succ_self _) k6 y6 h6 q6
  obtain ⟨fe, se, le, ne⟩ := hrec m (Nat.lt_succ_self _) k7 y7 h7 q7
  exact ⟨z0, z1, z2, n3, n4, l, z8, fb, fe, k5, k6, k7, rfl, by omega, by omega, hl5, sb, se, lb, le, nb, ne, ⟨(bounds_i64 w1).1, by have := (bounds_i64 w1).2; omega⟩, ⟨(bounds_i64 w2).1, by have := (bounds_i64 w2).2; omega⟩, r5⟩

theorem open_codeN : ∀ (fuel : Nat) (v : Value) (x : DataW H × List MemPlace), DataW.trod enc Tryz.prog W 0 sp held fuel 37 [v] = some x → WB 37 x.1 → ∃ f, SA W.heap.size W v f ∧ f.len < 9223372036854775807 ∧ (Lens f ∧ RN f) := by
  intro fuel
  induction fuel using Nat.strongRecOn with
  | ind fuel ih =>
    intro v x h hw
    rcases DataW.trod_slice Tryz.underlying37 h with ⟨hc, rfl⟩ | ⟨a, len, cap, elems, rest, n, rfl, hc, rfl, hb, hl, hm, he, hat, _, _⟩
    · obtain rfl : v = .slice none 0 0 := by simpa using hc
      exact ⟨.nil, SA.nil _ _ _ _, by decide, trivial, trivial⟩
    · obtain rfl : v = .slice (some a) len cap := by simpa using hc
      obtain ⟨hs, hel⟩ := wb_slice Tryz.underlying37 hw
      simp only [List.length_map] at hs
      have hlen : len < 9223372036854775807 := by
        have h8 := by39
        have : (elems.length + rest.length) * 8 ≤ reachBytes := Nat.le_trans (Nat.mul_le_mul_left _ h8) hs
        simp [reachBytes] at this
        omega
      have hnode : ∀ i, i < len → ∃ cs, (∀ k, k < 9 → W.cell? ((a.add (i * 9)).add k) = cs[k]?) ∧ ∃ (op a b : Int) (nn hh : Nat) (l : List Int) (ot : Bool) (body els : Fo) (vl vb ve : Value), cs = [.int .i64 op, .int .i64 a, .int .i64 b, .int .u64 (nn : Nat), .int .u64 (hh : Nat), vl, vb, ve, .bool ot] ∧ nn < 18446744073709551616 ∧ hh < 18446744073709551616 ∧
          LI W.heap.size W vl l ∧ SA W.heap.size W vb body ∧ SA W.heap.size W ve els ∧ body.len < 9223372036854775807 ∧ els.len < 9223372036854775807 ∧ (Lens body ∧ RN body) ∧ (Lens els ∧ RN els) ∧ i64B a ∧ i64B b ∧ ∀ x ∈ l, i64B x := by
        intro i hi
        have h1 := hat i hi
        rw [c39] at h1
        obtain ⟨y, hy⟩ : ∃ y, elems[i]? = some y := ⟨_, List.getElem?_eq_getElem (by omega)⟩
        rw [hy] at h1
        obtain ⟨cs, hcs, htr⟩ := Option.bind_eq_some_iff.1 h1
        obtain ⟨_, _, hcell⟩ := World.cells?_some hcs
        exact ⟨cs, hcell, open_nodeN htr (hel y.1 (List.mem_map.2 ⟨y, List.mem_of_getElem? hy, rfl⟩)) (fun m hm v z hv hz => ih m (by omega) v z hv hz)⟩
      rcases Nat.eq_zero_or_pos len with h0 | hpos
      · subst h0
        exact ⟨.nil, SA.nil _ _ _ _, by decide, trivial, trivial⟩
      · have hsp : a.spot = none := by
          obtain ⟨cs, hcell, op, _, _, _, _, _, _, _, _, _, _, _, rfl, _⟩ := hnode 0 hpos
          have := hcell 0 (by decide)
          rw [Nat.zero_mul] at this
          rw [add_zero'] at this
          exact spot_none (by simpa using this)
        have key : ∀ m, m ≤ len → ∃ f : Fo, f.len = m ∧ FA W.heap.size W f a.block (a.off + (len - m) * 9) ∧ (Lens f ∧ RN f) := by
          intro m
          induction m with
          | zero => exact fun _ => ⟨.nil, rfl, trivial, trivial, trivial⟩
          | succ m ihm =>
            intro hm1
            obtain ⟨fr, hfl, hfa, hln⟩ := ihm (by omega)
            obtain ⟨cs, hcell, op, x1, x2, nn, hh, l, ot, body, els, vl, vb, ve, rfl, n1, n2, hL, hB, hE, lb, le, nb, ne, r1, r2, rl⟩ := hnode (len - (m + 1)) (by omega)
            have hc : ∀ k v, k < 9 → [Value.int .i64 op, .int .i64 x1, .int .i64 x2, .int .u64 (nn : Nat), .int .u64 (hh : Nat), vl, vb, ve, .bool ot][k]? = some v → W.cell? ⟨a.block, a.off + (len - (m + 1)) * 9 + k, none⟩ = some v := by
              intro k v hk hv
              have h1 := (hcell k hk).trans hv
              have hs2 : (a.add ((len - (m + 1)) * 9)).spot = none := by
                unfold Addr.add
                split
                · exact hsp
                · rfl
              have h2 := cell_plain hs2 h1
              have e1 : (a.add ((len - (m + 1)) * 9)).block = a.block := by unfold Addr.add; split <;> rfl
              have e2 : (a.add ((len - (m + 1)) * 9)).off = a.off + (len - (m + 1)) * 9 := by
                unfold Addr.add
                split
                · omega
                · rfl
              rw [e1, e2] at h2
              exact h2
            have hg := World.block_lt_of_cell? _ _ (hc 0 _ (by decide) rfl)
            have ho : a.off + (len - (m + 1)) * 9 + 9 = a.off + (len - m) * 9 := by omega
            refine ⟨.cons op x1 x2 nn hh l ot body els fr, by simp only [Fo.len]; omega, ⟨hg, ⟨vl, vb, ve, hc 0 _ (by decide) rfl, hc 1 _ (by decide) rfl, hc 2 _ (by decide) rfl, hc 3 _ (by decide) rfl, hc 4 _ (by decide) rfl, hc 5 _ (by decide) rfl, hc 6 _ (by decide) rfl, hc 7 _ (by decide) rfl, hc 8 _ (by decide) rfl, hL, hB, hE⟩, by rw [ho]; exact hfa⟩, ⟨lb, le, nb.1, ne.1, hln.1⟩, ⟨r1, r2, rl, nb.2, ne.2, hln.2, n1, n2⟩⟩
        obtain ⟨f, hfl, hfa, hln⟩ := key len (Nat.le_refl _)
        rw [Nat.sub_self, Nat.zero_mul, Nat.add_zero] at hfa
        exact ⟨f, ⟨some a, cap, a.block, a.off, by rw [hfl], fun _ => by cases a; simp_all, hfa⟩, by omega, hln⟩
end

end Go.Proofs.YtjgeedgphcjhoaaGreat
