/-
  Rows of values as arguments, and what a table under a script keeps: its values, those of the document's, and those of the table that is copied from. No condition.
-/
import Derived.Test.YtlifnddofgeaaaaLMem0
set_option linter.unusedSimpArgs false
set_option linter.unusedVariables false
set_option maxRecDepth 100000
namespace Go.Proofs.Ytlifnddofgeaaaa
open Go.ChangeShapes Go.WideShapes Go.ChangeAt Go.WideMaps Go.WideElems Go.RowKit

theorem open_vals {H : Type} {enc : TypeId × Value → H} {W : World} {base b0 : Nat} {held : Bool} {r : Reach} {v : Value} {d : DataW H} {ps : List MemPlace}
    (hv : Value.okWide Try.prog W r b0 49 v) (hd : DataW.Trod enc Try.prog W 0 (fun _ => true) held 49 v d ps) :
    ∃ (p : Option Addr) (n c : Nat) (l : List V4), v = .slice p n c ∧ Sl 4 p n c (cellsV l) W := by
  obtain ⟨fuel, hf⟩ := hd
  obtain ⟨a0, len0, cap0, rfl⟩ := okWide_slice Try.underlying49 hv
  have hf9 : DataW.trod enc Try.prog W 0 (fun _ => true) held fuel 49 [.slice a0 len0 cap0] = some (d, ps) := hf
  generalize (d, ps) = y at hf9
  have hcap : len0 ≤ cap0 ∧ cap0 ≤ maxLen ∧ (a0 = none → cap0 = 0) := by
    rcases DataW.trod_slice Try.underlying49 hf9 with ⟨hc, rfl⟩ | ⟨a, len, cap, elems, rest, n, rfl, hc, rfl, hb, hl, hm, he, hat, _, _⟩
    · have h : Value.slice a0 len0 cap0 = .slice none 0 0 := by simpa using hc
      cases h
      exact ⟨Nat.le_refl _, Nat.zero_le _, fun _ => rfl⟩
    · have h : Value.slice a0 len0 cap0 = .slice (some a) len cap := by simpa using hc
      cases h
      exact ⟨hl, hm, fun h => by cases h⟩
  obtain ⟨p, n, c, b, o, hpe, hn, hp, hi⟩ := open_rows (v := .slice a0 len0 cap0) (fuel := fuel) Try.underlying49 c32 (by decide) hf
  cases hpe
  have hq : ∀ i, i < len0 → ∃ x : V4, ∀ k z, x.cs[k]? = some z → W.cell? ⟨b, o + i * 4 + k, none⟩ = some z := by
    intro i hl
    obtain ⟨cs, m, y, _, htr, hc, hz⟩ := hi i hl
    obtain ⟨x, rfl⟩ := open_32 htr
    exact ⟨x, hz⟩
  obtain ⟨f, hf2⟩ := pick ⟨0, 0, 0, false⟩ hq
  refine ⟨a0, len0, cap0, (List.range len0).map f, rfl, ⟨by rw [cellsV_len]; simp, cellsV_one _, fun hne => ?_⟩, hcap.1, by have := hcap.2.1; unfold maxLen at this; omega, hcap.2.2⟩
  have h0 : len0 ≠ 0 := by
    rintro rfl
    exact hne rfl
  obtain ⟨hp1, hp2⟩ := hp h0
  refine ⟨b, o, hp1, hp2, fun j u hj => ?_⟩
  have hjl : j < len0 * 4 := by
    have := (List.getElem?_eq_some_iff.1 hj).1
    rw [cellsV_len] at this
    simpa using this
  have hi4 : j / 4 < len0 := by omega
  have hx : ((List.range len0).map f)[j / 4]? = some (f (j / 4)) := by
    simp [List.getElem?_map, List.getElem?_range, hi4]
  have hk := cellsV_get _ (j / 4) (j % 4) _ hx (by omega)
  rw [show j / 4 * 4 + j % 4 = j by omega, hj] at hk
  have := hf2 (j / 4) hi4 (j % 4) u hk.symm
  rwa [show o + j / 4 * 4 + j % 4 = o + j by omega] at this

theorem rput_v2 (p sp : Option Addr) (N c M sc to_ from_ n : Nat) (xs ys : List Value) (w : World) (hm : Sl 4 p N c xs w) (hs : Sl 4 sp M sc ys w) (hN2 : N ≤ 100000000000) (hto : to_ < 18446744073709551616) (hfr : from_ < 18446744073709551616) (hn : n < 18446744073709551616) :
    Calls Try.prog 20 #[.slice p N c, .int .u64 to_, .int .u64 from_, .int .u64 n, .slice sp M sc] w fun e w' => ∃ p' c', e = .returned (.tuple #[.slice p' N c', .int .i64 (errP (okP N M to_ from_ n) 45)]) ∧ Sl 4 p' N c' (putP (okP N M to_ from_ n) 4 xs ys to_ from_ n) w' ∧ Below w.heap.size w w' ∧ (p' = p ∨ NB w none p') := by
  by_cases h : to_ + n ≤ N ∧ from_ + n ≤ M
  · rw [okP_yes h.1 h.2]
    refine (put_v_yes p sp N c M sc to_ from_ n xs ys w hm hs hN2 h.1 h.2).mono fun e w' he => ?_
    obtain ⟨p', c', e1, e2, e3, e4⟩ := he
    exact ⟨p', c', e1, e2.sl, e3, .inr (NB.new e4)⟩
  · rw [okP_no h]
    refine (put_v_no p sp N c M sc to_ from_ n (by have := hm.cap; have := hm.big; omega) (by have := hs.cap; have := hs.big; omega) hto hfr hn h w).mono fun e w' he => ?_
    obtain ⟨rfl, rfl⟩ := he
    exact ⟨p, c, rfl, hm, Below.refl _ _, .inl rfl⟩
theorem rgrow_v2 (p : Option Addr) (N c n : Nat) (mn mx : Int) (has : Bool) (x0 : Int) (x1 x2 : Nat) (x3 : Bool) (xs : List Value) (w : World) (hm : Sl 4 p N c xs w) (hN : N < 4611686018427387904) (hn : n < 18446744073709551616) (h3 : -9223372036854775808 ≤ mx) (h4 : mx < 9223372036854775808) (ok : Bool) (hr : roomB N n 10000 mx has = ok) :
    Calls Try.prog 27 #[.slice p N c, .agg #[.int .i64 mn, .int .i64 mx, .bool has], .int .u64 n, .agg #[.int .i64 x0, .int .u64 x1, .int .u64 x2, .bool x3]] w fun e w' => ∃ p' c', e = .returned (.tuple #[.slice p' (gN ok N (N + n)) c', .int .i64 (gE ok N)]) ∧ Sl 4 p' (gN ok N (N + n)) c' (gX ok xs (repC [.int .i64 x0, .int .u64 x1, .int .u64 x2, .bool x3] n)) w' ∧ Below w.heap.size w w' ∧ ((p' = p ∧ gN ok N (N + n) = N) ∨ NB w none p') := by
  cases ok with
  | true =>
    refine (rgrowt_yes p N c n mn mx has x0 x1 x2 x3 xs w hm hN hn h3 h4 hr).mono fun e w' he => ?_
    obtain ⟨p', c', e1, e2, e3, e4⟩ := he
    exact ⟨p', c', e1, e2.sl, e3, .inr (NB.new e4)⟩
  | false =>
    refine (rgrowt_no p N c n mn mx has x0 x1 x2 x3 w hN hn h3 h4 hr).mono fun e w' he => ?_
    obtain ⟨e1, e2⟩ := he
    exact ⟨p, c, e1, hm.below e2, e2, .inl ⟨rfl, rfl⟩⟩

/-- A table under a script, the document's row beside it, and the table that is copied from. -/
structure ST (w0 : World) (gm gx : Nat) (mn mx : Int) (has : Bool) (px : Option Addr) (M cx : Nat) (lo : List V4) (pm pw : Option Addr) (N cm K cw : Nat) (lt lw : List V4) (W : World) : Prop where
  tm : TabA w0.heap.size gm 112 mn mx has pm N cm (cellsV lt) W
  sw : Sl 4 pw K cw (cellsV lw) W
  tx : TabA w0.heap.size gx 0 0 0 false px M cx (cellsV lo) W
  bl : CA w0.heap.size #[.int .i64 mn, .int .i64 mx, .bool has] 23 W
  be : Below w0.heap.size w0 W
  d1 : K ≠ 0 → ∀ g, blk pm = some g → blk pw ≠ some g
  d2 : K ≠ 0 → blk pw ≠ some gm
  d3 : ∀ g, blk pm = some g → blk px ≠ some g
  d4 : gm ≠ gx
  d5 : w0.heap.size ≤ gm
theorem Sl.lt {s n c : Nat} {p : Option Addr} {xs : List Value} {w : World} (h : Sl s p n c xs w) (hn : n * s ≠ 0) (g : Nat) (hg : blk p = some g) : g < w.heap.size := by
  obtain ⟨g', o, rfl, h2, _⟩ := h.src.at_ (by intro e; have := h.src.len; rw [e] at this; exact hn this.symm)
  have : g' = g := by simpa [blk] using hg
  omega
theorem Sl.stay {s n c : Nat} {p : Option Addr} {xs : List Value} {w w' : World} {k : Option Nat} (h : Sl s p n c xs w) (hk : KP k w w') (hc : n ≠ 0 → ∀ g, blk p = some g → k ≠ some g) : Sl s p n c xs w' := by
  by_cases hn : n = 0
  · subst hn
    have hx : xs = [] := List.eq_nil_of_length_eq_zero (by have := h.src.len; simpa using this)
    exact ⟨⟨h.src.len, h.src.one, fun hne => absurd hx hne⟩, h.cap, h.big, h.nil⟩
  · exact h.keep hk (by rintro g o rfl; exact hc hn g rfl)
section
variable {w0 : World} {gm gx : Nat} {mn mx : Int} {has : Bool} {px : Option Addr} {M cx : Nat} {lo : List V4} {pm pw : Option Addr} {N cm K cw : Nat} {lt lw : List V4} {W W' : World}
theorem ST.below (h : ST w0 gm gx mn mx has px M cx lo pm pw N cm K cw lt lw W) (hb : Below W.heap.size W W') : ST w0 gm gx mn mx has px M cx lo pm pw N cm K cw lt lw W' :=
  ⟨h.tm.below hb, h.sw.below hb, h.tx.below hb, h.bl.below hb h.bl.lt, h.be.trans (hb.mono h.be.size), h.d1, h.d2, h.d3, h.d4, h.d5⟩
theorem ST.drew (h : ST w0 gm gx mn mx has px M cx lo pm pw N cm K cw lt lw W) : ST w0 gm gx mn mx has px M cx lo pm pw N cm K cw lt lw W.drew :=
  ⟨⟨h.tm.box, h.tm.row.drew⟩, h.sw.drew, ⟨h.tx.box, h.tx.row.drew⟩, h.bl, ⟨h.be.os, h.be.tape, h.be.output, h.be.size, h.be.block⟩, h.d1, h.d2, h.d3, h.d4, h.d5⟩
theorem ST.alloc (h : ST w0 gm gx mn mx has px M cx lo pm pw N cm K cw lt lw W) (o : Obj) : ST w0 gm gx mn mx has px M cx lo pm pw N cm K cw lt lw (W.alloc o) :=
  h.below ((Below.refl _ _).alloc (Nat.le_refl _) o)
theorem ST.prog {lt' : List V4} (h : ST w0 gm gx mn mx has px M cx lo pm pw N cm K cw lt lw W) (ht : TabA w0.heap.size gm 112 mn mx has pm N cm (cellsV lt') W') (hk : KP (blk pm) W W') : ST w0 gm gx mn mx has px M cx lo pm pw N cm K cw lt' lw W' := by
  exact ⟨ht, h.sw.stay hk (fun hn g hg e => h.d1 hn g e hg), h.tx.keep hk (h.tm.row.typ h.tx.box (by decide)) (fun g hg e => h.d3 g e hg), h.bl.keep hk (h.tm.row.typ h.bl (by decide)), h.be.trans (hk.below h.be.size h.tm.row.blk_ge), h.d1, h.d2, h.d3, h.d4, h.d5⟩
theorem ST.grown {pm' : Option Addr} {N' cm' : Nat} {lt' : List V4} (h : ST w0 gm gx mn mx has px M cx lo pm pw N cm K cw lt lw W) (ht : TabA w0.heap.size gm 112 mn mx has pm' N' cm' (cellsV lt') W') (hk : KP (some gm) W W') (hn : NB W pm pm') : ST w0 gm gx mn mx has px M cx lo pm' pw N' cm' K cw lt' lw W' := by
  exact ⟨ht, h.sw.stay hk (fun hn g hg e => h.d2 hn (by rw [hg, ← e])), h.tx.keep hk (fun e => h.d4 (Option.some.inj e)) (fun g hg e => h.tx.row.typ h.tm.box (by decide) (by rw [hg, ← e])), h.bl.keep hk (fun e => h.tm.box.ne h.bl (by decide) (Option.some.inj e)), h.be.trans (hk.below h.be.size (by rintro _ ⟨⟩; exact h.d5)), fun h0 g hg hw => hn g (h.sw.lt (by omega) g hw) (fun hp => h.d1 h0 g hp hw) hg, h.d2, fun g hg hx => hn g (h.tx.row.lt' g hx) (fun hp => h.d3 g hp hx) hg, h.d4, h.d5⟩
theorem ST.ref {pw' : Option Addr} {K' cw' : Nat} {lw' : List V4} (h : ST w0 gm gx mn mx has px M cx lo pm pw N cm K cw lt lw W) (hs : Sl 4 pw' K' cw' (cellsV lw') W') (hb : Below W.heap.size W W') (hn : (pw' = pw ∧ K' = K) ∨ NB W none pw') : ST w0 gm gx mn mx has px M cx lo pm pw' N cm K' cw' lt lw' W' := by
  refine ⟨h.tm.below hb, hs, h.tx.below hb, h.bl.below hb h.bl.lt, h.be.trans (hb.mono h.be.size), ?_, ?_, h.d3, h.d4, h.d5⟩
  · rcases hn with ⟨rfl, rfl⟩ | hn
    · exact h.d1
    · exact fun _ g hg => hn g (h.tm.row.lt' g hg) (by simp [blk])
  · rcases hn with ⟨rfl, rfl⟩ | hn
    · exact h.d2
    · exact fun _ => hn gm h.tm.box.lt (by simp [blk])
theorem ST.put (h : ST w0 gm gx mn mx has px M cx lo pm pw N cm K cw lt lw W) {sp : Option Addr} {S sc : Nat} {ls : List V4} (hs : Sl 4 sp S sc (cellsV ls) W) (to_ from_ n : Nat) (hK : K ≤ 10000) (hto : to_ < 18446744073709551616) (hfr : from_ < 18446744073709551616) (hn : n < 18446744073709551616) (ok : Bool) (hok : ok = okP K S to_ from_ n) (l2 : List V4) (hl : l2 = if ok = true then splice lw to_ (cut ls from_ n) else lw) (EE : Int) (hE : EE = errP ok 45) :
    Calls Try.prog 20 #[.slice pw K cw, .int .u64 to_, .int .u64 from_, .int .u64 n, .slice sp S sc] W fun e w' => ∃ p' c', e = .returned (.tuple #[.slice p' K c', .int .i64 EE]) ∧ ST w0 gm gx mn mx has px M cx lo pm p' N cm K c' lt l2 w' ∧ Below W.heap.size W w' := by
  refine (rput_v2 pw sp K cw S sc to_ from_ n (cellsV lw) (cellsV ls) W h.sw hs (by omega) hto hfr hn).mono fun e w' he => ?_
  obtain ⟨p', c', e1, e2, e3, e4⟩ := he
  rw [← hok, putP_vals, ← hl] at e2
  rw [← hok, ← hE] at e1
  exact ⟨p', c', e1, h.ref e2 e3 (e4.imp (fun h => ⟨h, rfl⟩) id), e3⟩
theorem ST.rgrow (h : ST w0 gm gx mn mx has px M cx lo pm pw N cm K cw lt lw W) (n : Nat) (x : V4) (hK : K ≤ 10000) (hn : n < 18446744073709551616) (h3 : -9223372036854775808 ≤ mx) (h4 : mx < 9223372036854775808) (ok : Bool) (hr : roomB K n 10000 mx has = ok) (K2 : Nat) (hK2 : K2 = gN ok K (K + n)) (l2 : List V4) (hl : l2 = gX ok lw (List.replicate n x)) (EE : Int) (hE : EE = gE ok K) :
    Calls Try.prog 27 #[.slice pw K cw, .agg #[.int .i64 mn, .int .i64 mx, .bool has], .int .u64 n, .agg #[.int .i64 x.t, .int .u64 x.lo, .int .u64 x.hi, .bool x.nl]] W fun e w' => ∃ p' c', e = .returned (.tuple #[.slice p' K2 c', .int .i64 EE]) ∧ ST w0 gm gx mn mx has px M cx lo pm p' N cm K2 c' lt l2 w' ∧ Below W.heap.size W w' := by
  refine (rgrow_v2 pw K cw n mn mx has x.t x.lo x.hi x.nl (cellsV lw) W h.sw (by omega) hn h3 h4 ok hr).mono fun e w' he => ?_
  obtain ⟨p', c', e1, e2, e3, e4⟩ := he
  rw [show ([.int .i64 x.t, .int .u64 x.lo, .int .u64 x.hi, .bool x.nl] : List Value) = x.cs from rfl, gX_vals, ← hl, ← hK2] at e2
  rw [← hK2, ← hE] at e1
  rw [← hK2] at e4
  exact ⟨p', c', e1, h.ref e2 e3 e4, e3⟩
theorem ST.pgrow (h : ST w0 gm gx mn mx has px M cx lo pm pw N cm K cw lt lw W) (n : Nat) (x : V4) (hK : N ≤ 10000) (hn : n < 18446744073709551616) (h3 : -9223372036854775808 ≤ mx) (h4 : mx < 9223372036854775808) (ok : Bool) (hr : roomB N n 10000 mx has = ok) (K2 : Nat) (hK2 : K2 = gN ok N (N + n)) (l2 : List V4) (hl : l2 = gX ok lt (List.replicate n x)) (EE : Int) (hE : EE = gE ok N) :
    Calls Try.prog 26 #[.pointer (some ⟨gm, 0, none⟩), .int .u64 n, .agg #[.int .i64 x.t, .int .u64 x.lo, .int .u64 x.hi, .bool x.nl]] W fun e w' => ∃ p' c', e = .returned (.int .i64 EE) ∧ ST w0 gm gx mn mx has px M cx lo p' pw K2 c' K cw l2 lw w' ∧ KP (some gm) W w' := by
  refine (grow_v w0.heap.size gm 112 mn mx has pm N cm n x.t x.lo x.hi x.nl (cellsV lt) W h.be.size h.tm (by omega) hn h3 h4 ok hr).mono fun e w' he => ?_
  obtain ⟨p', c', e1, e2, e3, e4⟩ := he
  rw [show ([.int .i64 x.t, .int .u64 x.lo, .int .u64 x.hi, .bool x.nl] : List Value) = x.cs from rfl, gX_vals, ← hl, ← hK2] at e2
  rw [← hE] at e1
  exact ⟨p', c', e1, h.grown e2 e3 e4, e3⟩
theorem ST.pinit (h : ST w0 gm gx mn mx has px M cx lo pm pw N cm K cw lt lw W) {sp : Option Addr} {S sc : Nat} {ls : List V4} (hs : Sl 4 sp S sc (cellsV ls) W) (to_ from_ n : Nat) (hto : to_ < 18446744073709551616) (hfr : from_ < 18446744073709551616) (hn : n < 18446744073709551616) (ok : Bool) (hok : ok = okP N S to_ from_ n) (l2 : List V4) (hl : l2 = if ok = true then splice lt to_ (cut ls from_ n) else lt) (EE : Int) (hE : EE = errP ok 45) :
    Calls Try.prog 24 #[.pointer (some ⟨gm, 0, none⟩), .int .u64 to_, .int .u64 from_, .int .u64 n, .slice sp S sc] W fun e w' => e = .returned (.int .i64 EE) ∧ ST w0 gm gx mn mx has px M cx lo pm pw N cm K cw l2 lw w' ∧ KP (blk pm) W w' := by
  refine (init_t w0.heap.size gm 112 mn mx has pm sp N cm S sc to_ from_ n (cellsV lt) (cellsV ls) W h.tm hs.src hs.cap hs.big hto hfr hn).mono fun e w' he => ?_
  obtain ⟨e1, e2, e3⟩ := he
  rw [← hok, putP_vals, ← hl] at e2
  rw [← hok, ← hE] at e1
  exact ⟨e1, h.prog e2 e3, e3⟩
theorem ST.pcopy (h : ST w0 gm gx mn mx has px M cx lo pm pw N cm K cw lt lw W) {gy : Nat} {sp : Option Addr} {S sc : Nat} {ls : List V4} (hx : W.cell? ⟨gy, 4, none⟩ = some (.slice sp S sc)) (hs : Sl 4 sp S sc (cellsV ls) W) (to_ from_ n : Nat) (hto : to_ < 18446744073709551616) (hfr : from_ < 18446744073709551616) (hn : n < 18446744073709551616) (ok : Bool) (hok : ok = okP N S to_ from_ n) (l2 : List V4) (hl : l2 = if ok = true then splice lt to_ (cut ls from_ n) else lt) (EE : Int) (hE : EE = errP ok 45) :
    Calls Try.prog 23 #[.pointer (some ⟨gm, 0, none⟩), .int .u64 to_, .int .u64 from_, .int .u64 n, .pointer (some ⟨gy, 0, none⟩)] W fun e w' => e = .returned (.int .i64 EE) ∧ ST w0 gm gx mn mx has px M cx lo pm pw N cm K cw l2 lw w' ∧ KP (blk pm) W w' := by
  refine (copy_t w0.heap.size gm 112 mn mx has pm sp N cm S sc to_ from_ n gy (cellsV lt) (cellsV ls) W h.tm hx hs.src hs.cap hs.big hto hfr hn).mono fun e w' he => ?_
  obtain ⟨e1, e2, e3⟩ := he
  rw [← hok, putP_vals, ← hl] at e2
  rw [← hok, ← hE] at e1
  exact ⟨e1, h.prog e2 e3, e3⟩
theorem ST.pfill (h : ST w0 gm gx mn mx has px M cx lo pm pw N cm K cw lt lw W) (at_ n : Nat) (x : V4) (ha : at_ < 18446744073709551616) (hn : n < 18446744073709551616) (ok : Bool) (hok : ok = okF N at_ n) (l2 : List V4) (hl : l2 = if ok = true then splice lt at_ (List.replicate n x) else lt) (EE : Int) (hE : EE = errP ok 45) :
    Calls Try.prog 21 #[.pointer (some ⟨gm, 0, none⟩), .int .u64 at_, .agg #[.int .i64 x.t, .int .u64 x.lo, .int .u64 x.hi, .bool x.nl], .int .u64 n] W fun e w' => e = .returned (.int .i64 EE) ∧ ST w0 gm gx mn mx has px M cx lo pm pw N cm K cw l2 lw w' ∧ KP (blk pm) W w' := by
  refine (fill_t w0.heap.size gm 112 mn mx has pm N cm at_ n x (cellsV lt) W h.tm ha hn).mono fun e w' he => ?_
  obtain ⟨e1, e2, e3⟩ := he
  rw [← hok, fillP_vals, ← hl] at e2
  rw [← hok, ← hE] at e1
  exact ⟨e1, h.prog e2 e3, e3⟩
theorem ST.pset (h : ST w0 gm gx mn mx has px M cx lo pm pw N cm K cw lt lw W) (at_ : Nat) (x : V4) (ha : at_ < 18446744073709551616) (ok : Bool) (hok : ok = okF N at_ 1) (l2 : List V4) (hl : l2 = if ok = true then splice lt at_ [x] else lt) (EE : Int) (hE : EE = errP ok 45) :
    Calls Try.prog 19 #[.pointer (some ⟨gm, 0, none⟩), .int .u64 at_, .agg #[.int .i64 x.t, .int .u64 x.lo, .int .u64 x.hi, .bool x.nl]] W fun e w' => e = .returned (.int .i64 EE) ∧ ST w0 gm gx mn mx has px M cx lo pm pw N cm K cw l2 lw w' ∧ KP (blk pm) W w' := by
  refine (set_t w0.heap.size gm 112 mn mx has pm N cm at_ x (cellsV lt) W h.be.size h.tm ha).mono fun e w' he => ?_
  obtain ⟨e1, e2, e3⟩ := he
  rw [← hok, fillP_vals, show List.replicate 1 x = [x] from rfl, ← hl] at e2
  rw [← hok, ← hE] at e1
  exact ⟨e1, h.prog e2 e3, e3⟩
end
end Go.Proofs.Ytlifnddofgeaaaa
