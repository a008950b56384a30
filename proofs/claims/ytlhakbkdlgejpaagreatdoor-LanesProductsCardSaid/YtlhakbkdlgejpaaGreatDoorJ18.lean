/-
  LExt: merged, what the law does not reach left out (each text says what it holds where it lies in wip). No condition.
-/
import Derived.Test.YtlhakbkdlgejpaaGreatDoorJ16
import Derived.Test.YtlhakbkdlgejpaaGreatDoorJ06
import Derived.Test.YtlhakbkdlgejpaaGreatDoorJ03
import Derived.Test.YtlhakbkdlgejpaaGreatDoorJ17
set_option linter.unusedSimpArgs false
set_option linter.unusedVariables false
set_option maxRecDepth 100000
namespace Go.Proofs.YtlhakbkdlgejpaaGreatDoor
open Go.RowKit
/-- The first i of a row's numbers turned. -/
def mixF (e F : Nat → Nat) (i j : Nat) : Nat := if j < i then e (F j) else F j
theorem mix_set (e F : Nat → Nat) (c i : Nat) : (fc c (mixF e F i)).set i (.int .u64 (e (F i) : Nat)) = fc c (mixF e F (i + 1)) := by
 rw [fc_set]
 refine fc_congr fun j _ => ?_
 unfold mixF
 by_cases h1 : j = i
 ·subst h1; rw [if_pos rfl, if_pos (by omega)]
 ·rw [if_neg h1]
  by_cases h2 : j < i
  ·rw [if_pos h2, if_pos (by omega)]
  ·rw [if_neg h2, if_neg (by omega)]
theorem mix_at (e F : Nat → Nat) (i : Nat) : mixF e F i i = F i := by unfold mixF; rw [if_neg (Nat.lt_irrefl _)]
theorem mix_zero (e F : Nat → Nat) : mixF e F 0 = F := by funext j; unfold mixF; rw [if_neg (Nat.not_lt_zero _)]
theorem mix_end (e F : Nat → Nat) (c : Nat) : fc c (mixF e F c) = fc c (fun i => e (F i)) := fc_congr fun j hj => by unfold mixF; rw [if_pos hj]
theorem own_far {w : World} {base : Nat} {e : TypeId} {s n cap g : Nat} {xs : List Value} (h : w.ownsRow base e s (.slice (some ⟨g, 0, none⟩) n cap) n xs) {c o : Nat} (hne : c ≠ g) (v : Value) : (w.setCell ⟨c, o, none⟩ v).ownsRow base e s (.slice (some ⟨g, 0, none⟩) n cap) n xs := by
 refine ⟨h.1, ?_⟩
 rcases h.2 with h2 | ⟨g', cap', cur, h1, h2, h3, h4⟩
 ·exact .inl h2
 ·have e : g' = g := by injection h1 with a b c; injection a with a; injection a with a _; exact a.symm
  subst e
  exact .inr ⟨g', cap', cur, h1, h2, by rw [World.setCell, Array.getElem?_modify, if_neg hne, h3], h4⟩
theorem row_low {w : World} {base g cap c : Nat} {F : Nat → Nat} (h : w.ownsRow base 22 1 (.slice (some ⟨g, 0, none⟩) c cap) c (fc c F)) (m : Nat) (hm : m ≤ c) (hc : 1 ≤ c) : RowAt w (.slice (some ⟨g, 0, none⟩) m cap) m F := by
 obtain ⟨g', o', cap', e1, hl, hcp, ha⟩ := RowAt.of_own h hc
 injection e1 with a b c'
 injection a with a
 injection a with a1 a2
 subst a1; subst a2; subst c'
 exact ⟨g, 0, cap, rfl, hl, by omega, fun j hj => ha j (by omega)⟩
theorem row_high {w : World} {base g cap c : Nat} {F : Nat → Nat} (h : w.ownsRow base 22 1 (.slice (some ⟨g, 0, none⟩) c cap) c (fc c F)) (m d : Nat) (hm : m + d = c) (hc : 1 ≤ c) : RowAt w (.slice (some ⟨g, m, none⟩) d (cap - m)) d (fun i => F (i + m)) := by
 obtain ⟨g', o', cap', e1, hl, hcp, ha⟩ := RowAt.of_own h hc
 injection e1 with a b c'
 injection a with a
 injection a with a1 a2
 subst a1; subst a2; subst c'
 exact ⟨g, m, cap - m, rfl, hl, by omega, fun j hj => by have := ha (m + j) (by omega); rw [Nat.zero_add] at this; show _ = some (Value.int .u64 (F (j + m) : Nat)) ∧ _; rw [Nat.add_comm j m]; exact this⟩
theorem row_any {w : World} {v : Value} {n : Nat} {F G : Nat → Nat} (h : RowAt w v n F) (e : F = G) : RowAt w v n G := e ▸ h
theorem ext_box (n : Nat) (s : Bool) (w : World) : Calls Tryz.prog 77 #[.int .i64 n, .bool s] w fun e w' => (e = .returned (.func (.func 120) #[] #[.pointer (some ⟨w.heap.size + 1, 0, none⟩), .pointer (some ⟨w.heap.size, 0, none⟩)]) ∧ CA (w.heap.size + 1) #[.bool s] 4 w' ∧ CA w.heap.size #[.int .i64 n] 3 w') ∧ Below w.heap.size w w' := by
 have hmf : ∀ (fn : Fn) (first cap : Array Value) (w : World), (Instr.makeFunc fn first cap).run Tryz.prog w = .ok (.func fn first cap) w := fun _ _ _ _ => rfl
 go_enter Tryz.func77, Tryz.ntmps77
 go_wp2
 go_ret
 refine ⟨⟨?_, ?_, (CA.new w #[.int .i64 n] 3).alloc _⟩, ((Below.refl _ w).alloc (Nat.le_refl _) _).alloc (by simp) _⟩
 ·simp
 ·have := CA.new (w.alloc (.cells #[.int .i64 n] 3)) #[.bool s] 4
  rw [size_al] at this
  exact this
/-- What is taken of two rows of lanes in 64 bits, by what is done. -/
def widR (k m : Nat) (X Y : Nat → Nat) (i : Nat) : Nat :=
 if k = 0 then X i else if k = 1 then X (i + m) else if k = 2 then X i * Y i % 18446744073709551616 else if k = 3 then X (i + m) * Y (i + m) % 18446744073709551616
 else if k = 4 then (X (2 * i) + X (2 * i + 1)) % 18446744073709551616 else (X (2 * i) * Y (2 * i) % 18446744073709551616 + X (2 * i + 1) * Y (2 * i + 1) % 18446744073709551616) % 18446744073709551616
def widN (k : Nat) : List UInt8 := if k = 0 then [101, 120, 116, 101, 110, 100, 95, 108, 111, 119] else if k = 1 then [101, 120, 116, 101, 110, 100, 95, 104, 105, 103, 104] else if k = 2 then [101, 120, 116, 109, 117, 108, 95, 108, 111, 119] else if k = 3 then [101, 120, 116, 109, 117, 108, 95, 104, 105, 103, 104] else if k = 4 then [101, 120, 116, 97, 100, 100, 95, 112, 97, 105, 114, 119, 105, 115, 101] else [100, 111, 116]
set_option maxHeartbeats 8000000 in
theorem extended_says (k : Nat) (vb : List UInt8) (hk : (k = 0 ∧ vb = [101, 120, 116, 101, 110, 100, 95, 108, 111, 119]) ∨ (k = 1 ∧ vb = [101, 120, 116, 101, 110, 100, 95, 104, 105, 103, 104]) ∨ (k = 2 ∧ vb = [101, 120, 116, 109, 117, 108, 95, 108, 111, 119]) ∨ (k = 3 ∧ vb = [101, 120, 116, 109, 117, 108, 95, 104, 105, 103, 104]) ∨ (k = 4 ∧ vb = [101, 120, 116, 97, 100, 100, 95, 112, 97, 105, 114, 119, 105, 115, 101]) ∨ (k = 5 ∧ vb = [100, 111, 116])) (ff : Bool) (n : Nat) (hn : Okn n) (tf : Bool) (tb : Int) (sg : Bool) (base g1 g2 cap1 cap2 c m : Nat) (hc1 : 1 ≤ m) (hc : c ≤ 16) (hm : c = 2 * m) (hg12 : g1 ≠ g2) (F G : Nat → Nat) (hF : ∀ i, F i < 18446744073709551616) (hG : ∀ i, G i < 18446744073709551616) (w : World) (hbase : base ≤ w.heap.size)
  (h1 : w.ownsRow base 22 1 (.slice (some ⟨g1, 0, none⟩) c cap1) c (fc c F)) (h2 : w.ownsRow base 22 1 (.slice (some ⟨g2, 0, none⟩) c cap2) c (fc c G)) :
  Calls Tryz.prog 69 #[insV vb ff n tf tb sg, .slice (some ⟨g1, 0, none⟩) c cap1, .slice (some ⟨g2, 0, none⟩) c cap2] w (fun e w' => ∃ v, e = .returned v ∧ RowAt w' v m (widR k m (fun i => extF n sg (F i)) (fun i => extF n sg (G i))) ∧ Below base w w') := by
 unfold insV
 obtain ⟨s, hs⟩ : ∃ s, s = str vb := ⟨_, rfl⟩
 rw [← hs]
 have HS := hid hs
 have HK := hid hk
 have HE := fun W => hid (ext_box n sg W)
 have HCL0 : ∀ b1 b2 W x, CA b1 #[.bool sg] 4 W → CA b2 #[.int .i64 n] 3 W → x < 18446744073709551616 → Hid (Calls Tryz.prog 120 #[.int .u64 (x : Nat), .pointer (some ⟨b1, 0, none⟩), .pointer (some ⟨b2, 0, none⟩)] W fun e w' => e = .returned (.int .u64 (extF n sg x : Nat)) ∧ Below W.heap.size W w') := fun b1 b2 W x k1 k2 hx => clo_ext n hn sg b1 b2 W (k1.at (k := 0) rfl) (k2.at (k := 0) rfl) W x (Below.refl _ _) hx
 have eg : ∀ args w, (callFunc 120 args).run Tryz.prog w = .ok (.enter 120 args) w := enters_of Tryz.func120 (by kernel_rfl) rfl
 obtain ⟨X, hX⟩ : ∃ X, X = fun i => extF n sg (F i) := ⟨_, rfl⟩
 obtain ⟨Y, hY⟩ : ∃ Y, Y = fun i => extF n sg (G i) := ⟨_, rfl⟩
 rw [← hX, ← hY]
 have HXX : Hid (∀ i, X i < 18446744073709551616) := hid (fun i => by rw [hX]; exact extF_lt n sg (F i) (hF i))
 have HYY : Hid (∀ i, Y i < 18446744073709551616) := hid (fun i => by rw [hY]; exact extF_lt n sg (G i) (hG i))
 have HMX : Hid (fc c (mixF (extF n sg) F c) = fc c X) := hid (by rw [hX]; exact mix_end _ _ _)
 have HMY : Hid (fc c (mixF (extF n sg) G c) = fc c Y) := hid (by rw [hY]; exact mix_end _ _ _)
 have HPR := fun va vb X Y W h h' hX hY => hid (products_says m (by omega) va vb X Y W h h' hX hY)
 have HPQ := fun va vb X Y W h h' hX hY => hid (products_says c (by omega) va vb X Y W h h' hX hY)
 have HPS := fun vl F W h => hid (pairSums_says m (by omega) vl F W c hm h)
 have HF := hid hF
 have HG := hid hG
 have HP1' := hid h1
 have HP2' := hid h2
 have HBS := hid hbase
 have HM1 := hid hc1
 have HC1 := hid (show 1 ≤ c by omega)
 have HMC := hid (And.intro (show m ≤ c by omega) (show m + m = c by omega))
 have HSUB := hid (show c - m = m by omega)
 have hcap1 : c ≤ cap1 := by obtain ⟨_, _, _, e1, _, hcp, _⟩ := RowAt.of_own h1 (by omega); injection e1 with _ _ e2; omega
 have hcap2 : c ≤ cap2 := by obtain ⟨_, _, _, e1, _, hcp, _⟩ := RowAt.of_own h2 (by omega); injection e1 with _ _ e2; omega
 have HCAP := hid (And.intro (show m ≤ cap1 by omega) (show m ≤ cap2 by omega))
 have HNC := hid (And.intro (show cap1 ≠ m by omega) (show cap2 ≠ m by omega))
 have i9 : (c : Int) / 2 = (m : Int) := by omega
 have hl1 := (h1.lt g1 rfl)
 have hl2 := (h2.lt g2 rfl)
 have HL1 := hid hl1
 have HL2 := hid hl2
 have HG12 := hid hg12
 have hmc : m ≤ c := by omega
 clear hs hF hG h1 h2 hn hk hbase hc1 hm hl1 hl2 hg12 hX hY
 go_enter Tryz.func69, Tryz.ntmps69
 go_upto_region 2 with (go_at_call 77; (with_reducible refine (HE _).out.mono ?_); rintro e w2 ⟨⟨rfl, hx1, hx2⟩, hb2⟩; have HP1 := hid (own_below (own_below HP1'.out ((Below.refl _ w).alloc (Nat.le_refl _) _) (Nat.le_refl _)) hb2 (Nat.le_refl _)); have HP2 := hid (own_below (own_below HP2'.out ((Below.refl _ w).alloc (Nat.le_refl _) _) (Nat.le_refl _)) hb2 (Nat.le_refl _)); have HB2 := hid (((Below.refl _ w).alloc (Nat.le_refl _) _).trans (hb2.mono (by simp))); have HX2 := hid ((CA.new w _ 50).call hb2); have HX3 := hid (And.intro hx1 hx2); clear hb2 hx1 hx2)
 rw [size_al] at HX3
 try rw [size_al]
 obtain ⟨b1, hb1⟩ : ∃ b1, b1 = w.heap.size + 1 + 1 := ⟨_, rfl⟩
 obtain ⟨b2, hb2⟩ : ∃ b2, b2 = w.heap.size + 1 := ⟨_, rfl⟩
 rw [← hb1, ← hb2] at HX3
 simp only [← hb1]
 simp only [← hb2]
 have HNE1 : Hid (g1 ≠ g2 ∧ base ≤ g1 ∧ g1 ≠ w.heap.size ∧ g1 ≠ b1 ∧ g1 ≠ b2) := ⟨HG12.out, HL1.out.1, by have := HL1.out.2; omega, by have := HL1.out.2; omega, by have := HL1.out.2; omega⟩
 have HNE2 : Hid (g2 ≠ g1 ∧ base ≤ g2 ∧ g2 ≠ w.heap.size ∧ g2 ≠ b1 ∧ g2 ≠ b2) := ⟨HG12.out.symm, HL2.out.1, by have := HL2.out.2; omega, by have := HL2.out.2; omega, by have := HL2.out.2; omega⟩
 have HCL := HCL0 b1 b2
 clear hb1 hb2 HCL0 HP1' HP2' HE HL1 HL2 HG12
 go_wp2_with fail
 go_loopw [18] (fun vi wr => ∃ i : Nat, i ≤ c ∧ vi = .int .i64 i ∧ Hid (wr.ownsRow base 22 1 (.slice (some ⟨g1, 0, none⟩) c cap1) c (fc c (mixF (extF n sg) F i))) ∧ Hid (wr.ownsRow base 22 1 (.slice (some ⟨g2, 0, none⟩) c cap2) c (fc c (mixF (extF n sg) G i))) ∧ Hid (Below base w wr ∧ CA w.heap.size #[.string s, .bool ff, .int .i64 n, .bool tf, .int .i64 tb, .bool sg] 50 wr ∧ CA b1 #[.bool sg] 4 wr ∧ CA b2 #[.int .i64 n] 3 wr)) (fun vi _ => c - (intOf vi).toNat)
 case atStart => exact ⟨0, Nat.zero_le _, rfl, by rw [mix_zero]; exact HP1.out, by rw [mix_zero]; exact HP2.out, ⟨HB2.out.mono HBS.out, HX2.out, HX3.out.1, HX3.out.2⟩⟩
 case round =>
  obtain ⟨i, hin, rfl, HR1, HR2, HBB⟩ := hrel
  clear HP1 HP2 HB2 HX2 HX3
  by_cases hlt : i < c
  ·go_upto_region 5 with fail
   have hS : Below base w wr.drew ∧ CA w.heap.size #[.string s, .bool ff, .int .i64 n, .bool tf, .int .i64 tb, .bool sg] 50 wr.drew ∧ CA b1 #[.bool sg] 4 wr.drew ∧ CA b2 #[.int .i64 n] 3 wr.drew := ⟨HBB.out.1.drew, HBB.out.2.1.drew, HBB.out.2.2.1.drew, HBB.out.2.2.2.drew⟩
   replace HR1 : Hid (wr.drew.ownsRow base 22 1 (.slice (some ⟨g1, 0, none⟩) c cap1) c (fc c (mixF (extF n sg) F i))) := HR1
   replace HR2 : Hid (wr.drew.ownsRow base 22 1 (.slice (some ⟨g2, 0, none⟩) c cap2) c (fc c (mixF (extF n sg) G i))) := HR2
   clear HBB HK HS HPR HPS HPQ HMX HMY HXX HYY HNC
   refine wp_region_held_drew (S := fun W => Below base w W ∧ CA w.heap.size #[.string s, .bool ff, .int .i64 n, .bool tf, .int .i64 tb, .bool sg] 50 W ∧ CA b1 #[.bool sg] 4 W ∧ CA b2 #[.int .i64 n] 3 W) (by kernel_rfl) hS (fun _ => ?_)
   generalize wr.drew = W at *
   refine wpAnyH_take (oi := ⟨_, _, _, _, _, _⟩) (i := 0) (v := .slice (some ⟨g1, 0, none⟩) c cap1) rfl (by kernel_rfl) (by kernel_rfl) (by kernel_rfl) (fun _ _ _ h => h) (Or.inl ⟨by rfl, ?_⟩) (by assumption) ?_
   ·(intro W hSw; skip; go_simp; try (with_reducible rfl))
   try simp only [Act.put, List.setIfInBounds_toArray, List.set_cons_zero, List.set_cons_succ]
   refine wpAnyH_take (oi := ⟨_, _, _, _, _, _⟩) (i := 1) (v := .int .i64 i) rfl (by kernel_rfl) (by kernel_rfl) (by kernel_rfl) (fun _ _ _ h => h) (Or.inl ⟨by rfl, ?_⟩) (by assumption) ?_
   ·(intro W hSw; skip; go_simp; try (with_reducible rfl))
   try simp only [Act.put, List.setIfInBounds_toArray, List.set_cons_zero, List.set_cons_succ]
   refine wpAnyH_take (oi := ⟨_, _, _, _, _, _⟩) (i := 2) (v := .slice (some ⟨g2, 0, none⟩) c cap2) rfl (by kernel_rfl) (by kernel_rfl) (by kernel_rfl) (fun _ _ _ h => h) (Or.inl ⟨by rfl, ?_⟩) (by assumption) ?_
   ·(intro W hSw; skip; go_simp; try (with_reducible rfl))
   try simp only [Act.put, List.setIfInBounds_toArray, List.set_cons_zero, List.set_cons_succ]
   refine wpAnyH_take (oi := ⟨_, _, _, _, _, _⟩) (i := 3) (v := .int .i64 i) rfl (by kernel_rfl) (by kernel_rfl) (by kernel_rfl) (fun _ _ _ h => h) (Or.inl ⟨by rfl, ?_⟩) (by assumption) ?_
   ·(intro W hSw; skip; go_simp; try (with_reducible rfl))
   try simp only [Act.put, List.setIfInBounds_toArray, List.set_cons_zero, List.set_cons_succ]
   refine wpAnyH_take (oi := ⟨_, _, _, _, _, _⟩) (i := 4) (v := .func (.func 120) #[] #[.pointer (some ⟨b1, 0, none⟩), .pointer (some ⟨b2, 0, none⟩)]) rfl (by kernel_rfl) (by kernel_rfl) (by kernel_rfl) (fun _ _ _ h => h) (Or.inl ⟨by rfl, ?_⟩) (by assumption) ?_
   ·(intro W hSw; skip; go_simp; try (with_reducible rfl))
   try simp only [Act.put, List.setIfInBounds_toArray, List.set_cons_zero, List.set_cons_succ]
   refine wpAnyH_take (oi := ⟨_, _, _, _, _, _⟩) (i := 5) (v := .slice (some ⟨g1, 0, none⟩) c cap1) rfl (by kernel_rfl) (by kernel_rfl) (by kernel_rfl) (fun _ _ _ h => h) (Or.inl ⟨by rfl, ?_⟩) (by assumption) ?_
   ·(intro W hSw; skip; go_simp; try (with_reducible rfl))
   try simp only [Act.put, List.setIfInBounds_toArray, List.set_cons_zero, List.set_cons_succ]
   refine wpAnyH_take (oi := ⟨_, _, _, _, _, _⟩) (i := 6) (v := .int .i64 i) rfl (by kernel_rfl) (by kernel_rfl) (by kernel_rfl) (fun _ _ _ h => h) (Or.inl ⟨by rfl, ?_⟩) (by assumption) ?_
   ·(intro W hSw; skip; go_simp; try (with_reducible rfl))
   try simp only [Act.put, List.setIfInBounds_toArray, List.set_cons_zero, List.set_cons_succ]
   refine wpAnyH_take (oi := ⟨_, _, _, _, _, _⟩) (i := 7) (v := .pointer (some ⟨g1, i, none⟩)) rfl (by kernel_rfl) (by kernel_rfl) (by kernel_rfl) (fun _ _ _ h => h) (Or.inl ⟨by rfl, ?_⟩) (by assumption) ?_
   ·(intro W hSw; skip; go_simp; try (with_reducible rfl))
   try simp only [Act.put, List.setIfInBounds_toArray, List.set_cons_zero, List.set_cons_succ]
   refine wpAnyH_take (oi := ⟨_, _, _, _, _, _⟩) (i := 10) (v := .func (.func 120) #[] #[.pointer (some ⟨b1, 0, none⟩), .pointer (some ⟨b2, 0, none⟩)]) rfl (by kernel_rfl) (by kernel_rfl) (by kernel_rfl) (fun _ _ _ h => h) (Or.inl ⟨by rfl, ?_⟩) (by assumption) ?_
   ·(intro W hSw; skip; go_simp; try (with_reducible rfl))
   try simp only [Act.put, List.setIfInBounds_toArray, List.set_cons_zero, List.set_cons_succ]
   refine wpAnyH_take (oi := ⟨_, _, _, _, _, _⟩) (i := 11) (v := .slice (some ⟨g2, 0, none⟩) c cap2) rfl (by kernel_rfl) (by kernel_rfl) (by kernel_rfl) (fun _ _ _ h => h) (Or.inl ⟨by rfl, ?_⟩) (by assumption) ?_
   ·(intro W hSw; skip; go_simp; try (with_reducible rfl))
   try simp only [Act.put, List.setIfInBounds_toArray, List.set_cons_zero, List.set_cons_succ]
   refine wpAnyH_take (oi := ⟨_, _, _, _, _, _⟩) (i := 12) (v := .int .i64 i) rfl (by kernel_rfl) (by kernel_rfl) (by kernel_rfl) (fun _ _ _ h => h) (Or.inl ⟨by rfl, ?_⟩) (by assumption) ?_
   ·(intro W hSw; skip; go_simp; try (with_reducible rfl))
   try simp only [Act.put, List.setIfInBounds_toArray, List.set_cons_zero, List.set_cons_succ]
   refine wpAnyH_take (oi := ⟨_, _, _, _, _, _⟩) (i := 13) (v := .pointer (some ⟨g2, i, none⟩)) rfl (by kernel_rfl) (by kernel_rfl) (by kernel_rfl) (fun _ _ _ h => h) (Or.inl ⟨by rfl, ?_⟩) (by assumption) ?_
   ·(intro W hSw; skip; go_simp; try (with_reducible rfl))
   try simp only [Act.put, List.setIfInBounds_toArray, List.set_cons_zero, List.set_cons_succ]
   refine wpAnyH_ready (rs := [8, 14]) (by kernel_rfl) (by simp) ?_
   refine AllReadyH.cons (o := ⟨_, _, _, _, _, _⟩) rfl (fun K hK => ?_) ?_
   ·have z0 := HR1.out.cellAt i (by omega)
    rw [fc_get hlt, mix_at] at z0
    go_simp
    clear z0
    refine hK.out _ _ hS (fun _ => ?_)
    clear hK K
    try simp only [Act.put, List.setIfInBounds_toArray, List.set_cons_zero, List.set_cons_succ]
    refine wpAnyH_ready (rs := [9, 14]) (by kernel_rfl) (by simp) ?_
    refine AllReadyH.cons (o := ⟨_, _, _, _, _, _⟩) rfl (fun K hK => ?_) ?_
    ·go_simp
     go_at_fn 120
     (with_reducible refine (HCL _ (F i) hS.2.2.1 hS.2.2.2 (HF.out i)).out.mono ?_)
     rintro e W1 ⟨rfl, hb⟩
     replace HR1 := hid (own_below HR1.out hb (Nat.le_refl _))
     replace HR2 := hid (own_below HR2.out hb (Nat.le_refl _))
     replace hS := And.intro (hS.1.trans (hb.mono (Nat.le_trans HBS.out hS.1.size))) (And.intro (hS.2.1.call hb) (And.intro (hS.2.2.1.call hb) (hS.2.2.2.call hb)))
     clear hb
     refine hK.out _ _ hS (fun _ => ?_)
     clear hK K
     try simp only [Act.put, List.setIfInBounds_toArray, List.set_cons_zero, List.set_cons_succ]
     refine wpAnyH_ready (rs := [14]) (by kernel_rfl) (by simp) ?_
     refine AllReadyH.cons (o := ⟨_, _, _, _, _, _⟩) rfl (fun K hK => ?_) ?_
     ·have z0 := HR2.out.cellAt i (by omega)
      rw [fc_get hlt, mix_at] at z0
      go_simp
      clear z0
      refine hK.out _ _ hS (fun _ => ?_)
      clear hK K
      try simp only [Act.put, List.setIfInBounds_toArray, List.set_cons_zero, List.set_cons_succ]
      refine wpAnyH_ready (rs := [15]) (by kernel_rfl) (by simp) ?_
      refine AllReadyH.cons (o := ⟨_, _, _, _, _, _⟩) rfl (fun K hK => ?_) ?_
      ·go_simp
       go_at_fn 120
       (with_reducible refine (HCL _ (G i) hS.2.2.1 hS.2.2.2 (HG.out i)).out.mono ?_)
       rintro e W2 ⟨rfl, hb⟩
       replace HR1 := hid (own_below HR1.out hb (Nat.le_refl _))
       replace HR2 := hid (own_below HR2.out hb (Nat.le_refl _))
       replace hS := And.intro (hS.1.trans (hb.mono (Nat.le_trans HBS.out hS.1.size))) (And.intro (hS.2.1.call hb) (And.intro (hS.2.2.1.call hb) (hS.2.2.2.call hb)))
       clear hb
       refine hK.out _ _ hS (fun _ => ?_)
       clear hK K
       try simp only [Act.put, List.setIfInBounds_toArray, List.set_cons_zero, List.set_cons_succ]
       refine wpAnyH_take (oi := ⟨_, _, _, _, _, _⟩) (i := 16) (v := .pointer (some ⟨g1, i, none⟩)) rfl (by kernel_rfl) (by kernel_rfl) (by kernel_rfl) (fun _ _ _ h => h) (Or.inl ⟨by rfl, ?_⟩) (by assumption) ?_
       ·(intro W hSw; skip; go_simp; try (with_reducible rfl))
       try simp only [Act.put, List.setIfInBounds_toArray, List.set_cons_zero, List.set_cons_succ]
       refine wpAnyH_ready (rs := [17]) (by kernel_rfl) (by simp) ?_
       refine AllReadyH.cons (o := ⟨_, _, _, _, _, _⟩) rfl (fun K hK => ?_) ?_
       ·have z0 := HR1.out.cellAt i (by omega)
        rw [fc_get hlt, mix_at] at z0
        have z1 := HR1.out.frozenAt i
        go_simp
        clear z0 z1
        have hos := (HR1.out.stored i (.int .u64 (extF n sg (F i) : Nat))).1
        rw [mix_set] at hos
        have hof := own_far HR2.out (o := i) HNE1.out.1 (.int .u64 (extF n sg (F i) : Nat))
        replace hS := And.intro (hS.1.setCell (p := ⟨g1, i, none⟩) HNE1.out.2.1 (.int .u64 (extF n sg (F i) : Nat))) (And.intro (hS.2.1.far (o := i) HNE1.out.2.2.1 (.int .u64 (extF n sg (F i) : Nat))) (And.intro (hS.2.2.1.far (o := i) HNE1.out.2.2.2.1 (.int .u64 (extF n sg (F i) : Nat))) (hS.2.2.2.far (o := i) HNE1.out.2.2.2.2 (.int .u64 (extF n sg (F i) : Nat)))))
        have HQ1 := hid hos
        have HQ2 := hid hof
        clear hos hof HR1 HR2
        have HR1 := HQ1
        have HR2 := HQ2
        clear HQ1 HQ2
        generalize W2.setCell ⟨g1, i, none⟩ (.int .u64 (extF n sg (F i) : Nat)) = W3 at *
        refine hK.out _ _ hS (fun _ => ?_)
        clear hK K
        try simp only [Act.put, List.setIfInBounds_toArray, List.set_cons_zero, List.set_cons_succ]
        refine wpAnyH_take (oi := ⟨_, _, _, _, _, _⟩) (i := 18) (v := .pointer (some ⟨g2, i, none⟩)) rfl (by kernel_rfl) (by kernel_rfl) (by kernel_rfl) (fun _ _ _ h => h) (Or.inl ⟨by rfl, ?_⟩) (by assumption) ?_
        ·(intro W hSw; skip; go_simp; try (with_reducible rfl))
        try simp only [Act.put, List.setIfInBounds_toArray, List.set_cons_zero, List.set_cons_succ]
        refine wpAnyH_ready (rs := [19]) (by kernel_rfl) (by simp) ?_
        refine AllReadyH.cons (o := ⟨_, _, _, _, _, _⟩) rfl (fun K hK => ?_) ?_
        ·have z0 := HR2.out.cellAt i (by omega)
         rw [fc_get hlt, mix_at] at z0
         have z1 := HR2.out.frozenAt i
         go_simp
         clear z0 z1
         have hos := (HR2.out.stored i (.int .u64 (extF n sg (G i) : Nat))).1
         rw [mix_set] at hos
         have hof := own_far HR1.out (o := i) HNE2.out.1 (.int .u64 (extF n sg (G i) : Nat))
         replace hS := And.intro (hS.1.setCell (p := ⟨g2, i, none⟩) HNE2.out.2.1 (.int .u64 (extF n sg (G i) : Nat))) (And.intro (hS.2.1.far (o := i) HNE2.out.2.2.1 (.int .u64 (extF n sg (G i) : Nat))) (And.intro (hS.2.2.1.far (o := i) HNE2.out.2.2.2.1 (.int .u64 (extF n sg (G i) : Nat))) (hS.2.2.2.far (o := i) HNE2.out.2.2.2.2 (.int .u64 (extF n sg (G i) : Nat)))))
         have HQ2 := hid hos
         have HQ1 := hid hof
         clear hos hof HR1 HR2
         have HR1 := HQ1
         have HR2 := HQ2
         clear HQ1 HQ2
         generalize W3.setCell ⟨g2, i, none⟩ (.int .u64 (extF n sg (G i) : Nat)) = W4 at *
         refine hK.out _ _ hS (fun _ => ?_)
         clear hK K
         try simp only [Act.put, List.setIfInBounds_toArray, List.set_cons_zero, List.set_cons_succ]
         refine wpAnyH_done (by kernel_rfl) ?_ _
         go_wp2_with fail
         go_roundw
         case rel => exact ⟨i + 1, hlt, rfl, HR1, HR2, hid hS⟩
         case measure => (simp [intOf]; omega)
        exact AllReadyH.nil
       exact AllReadyH.nil
      exact AllReadyH.nil
     exact AllReadyH.nil
    refine AllReadyH.cons (o := ⟨_, _, _, _, _, _⟩) rfl (fun K hK => ?_) ?_
    ·have z0 := HR2.out.cellAt i (by omega)
     rw [fc_get hlt, mix_at] at z0
     go_simp
     clear z0
     refine hK.out _ _ hS (fun _ => ?_)
     clear hK K
     try simp only [Act.put, List.setIfInBounds_toArray, List.set_cons_zero, List.set_cons_succ]
     refine wpAnyH_ready (rs := [9]) (by kernel_rfl) (by simp) ?_
     refine AllReadyH.cons (o := ⟨_, _, _, _, _, _⟩) rfl (fun K hK => ?_) ?_
     ·go_simp
      go_at_fn 120
      (with_reducible refine (HCL _ (F i) hS.2.2.1 hS.2.2.2 (HF.out i)).out.mono ?_)
      rintro e W1 ⟨rfl, hb⟩
      replace HR1 := hid (own_below HR1.out hb (Nat.le_refl _))
      replace HR2 := hid (own_below HR2.out hb (Nat.le_refl _))
      replace hS := And.intro (hS.1.trans (hb.mono (Nat.le_trans HBS.out hS.1.size))) (And.intro (hS.2.1.call hb) (And.intro (hS.2.2.1.call hb) (hS.2.2.2.call hb)))
      clear hb
      refine hK.out _ _ hS (fun _ => ?_)
      clear hK K
      try simp only [Act.put, List.setIfInBounds_toArray, List.set_cons_zero, List.set_cons_succ]
      refine wpAnyH_ready (rs := [15]) (by kernel_rfl) (by simp) ?_
      refine AllReadyH.cons (o := ⟨_, _, _, _, _, _⟩) rfl (fun K hK => ?_) ?_
      ·go_simp
       go_at_fn 120
       (with_reducible refine (HCL _ (G i) hS.2.2.1 hS.2.2.2 (HG.out i)).out.mono ?_)
       rintro e W2 ⟨rfl, hb⟩
       replace HR1 := hid (own_below HR1.out hb (Nat.le_refl _))
       replace HR2 := hid (own_below HR2.out hb (Nat.le_refl _))
       replace hS := And.intro (hS.1.trans (hb.mono (Nat.le_trans HBS.out hS.1.size))) (And.intro (hS.2.1.call hb) (And.intro (hS.2.2.1.call hb) (hS.2.2.2.call hb)))
       clear hb
       refine hK.out _ _ hS (fun _ => ?_)
       clear hK K
       try simp only [Act.put, List.setIfInBounds_toArray, List.set_cons_zero, List.set_cons_succ]
       refine wpAnyH_take (oi := ⟨_, _, _, _, _, _⟩) (i := 16) (v := .pointer (some ⟨g1, i, none⟩)) rfl (by kernel_rfl) (by kernel_rfl) (by kernel_rfl) (fun _ _ _ h => h) (Or.inl ⟨by rfl, ?_⟩) (by assumption) ?_
       ·(intro W hSw; skip; go_simp; try (with_reducible rfl))
       try simp only [Act.put, List.setIfInBounds_toArray, List.set_cons_zero, List.set_cons_succ]
       refine wpAnyH_ready (rs := [17]) (by kernel_rfl) (by simp) ?_
       refine AllReadyH.cons (o := ⟨_, _, _, _, _, _⟩) rfl (fun K hK => ?_) ?_
       ·have z0 := HR1.out.cellAt i (by omega)
        rw [fc_get hlt, mix_at] at z0
        have z1 := HR1.out.frozenAt i
        go_simp
        clear z0 z1
        have hos := (HR1.out.stored i (.int .u64 (extF n sg (F i) : Nat))).1
        rw [mix_set] at hos
        have hof := own_far HR2.out (o := i) HNE1.out.1 (.int .u64 (extF n sg (F i) : Nat))
        replace hS := And.intro (hS.1.setCell (p := ⟨g1, i, none⟩) HNE1.out.2.1 (.int .u64 (extF n sg (F i) : Nat))) (And.intro (hS.2.1.far (o := i) HNE1.out.2.2.1 (.int .u64 (extF n sg (F i) : Nat))) (And.intro (hS.2.2.1.far (o := i) HNE1.out.2.2.2.1 (.int .u64 (extF n sg (F i) : Nat))) (hS.2.2.2.far (o := i) HNE1.out.2.2.2.2 (.int .u64 (extF n sg (F i) : Nat)))))
        have HQ1 := hid hos
        have HQ2 := hid hof
        clear hos hof HR1 HR2
        have HR1 := HQ1
        have HR2 := HQ2
        clear HQ1 HQ2
        generalize W2.setCell ⟨g1, i, none⟩ (.int .u64 (extF n sg (F i) : Nat)) = W3 at *
        refine hK.out _ _ hS (fun _ => ?_)
        clear hK K
        try simp only [Act.put, List.setIfInBounds_toArray, List.set_cons_zero, List.set_cons_succ]
        refine wpAnyH_take (oi := ⟨_, _, _, _, _, _⟩) (i := 18) (v := .pointer (some ⟨g2, i, none⟩)) rfl (by kernel_rfl) (by kernel_rfl) (by kernel_rfl) (fun _ _ _ h => h) (Or.inl ⟨by rfl, ?_⟩) (by assumption) ?_
        ·(intro W hSw; skip; go_simp; try (with_reducible rfl))
        try simp only [Act.put, List.setIfInBounds_toArray, List.set_cons_zero, List.set_cons_succ]
        refine wpAnyH_ready (rs := [19]) (by kernel_rfl) (by simp) ?_
        refine AllReadyH.cons (o := ⟨_, _, _, _, _, _⟩) rfl (fun K hK => ?_) ?_
        ·have z0 := HR2.out.cellAt i (by omega)
         rw [fc_get hlt, mix_at] at z0
         have z1 := HR2.out.frozenAt i
         go_simp
         clear z0 z1
         have hos := (HR2.out.stored i (.int .u64 (extF n sg (G i) : Nat))).1
         rw [mix_set] at hos
         have hof := own_far HR1.out (o := i) HNE2.out.1 (.int .u64 (extF n sg (G i) : Nat))
         replace hS := And.intro (hS.1.setCell (p := ⟨g2, i, none⟩) HNE2.out.2.1 (.int .u64 (extF n sg (G i) : Nat))) (And.intro (hS.2.1.far (o := i) HNE2.out.2.2.1 (.int .u64 (extF n sg (G i) : Nat))) (And.intro (hS.2.2.1.far (o := i) HNE2.out.2.2.2.1 (.int .u64 (extF n sg (G i) : Nat))) (hS.2.2.2.far (o := i) HNE2.out.2.2.2.2 (.int .u64 (extF n sg (G i) : Nat)))))
         have HQ2 := hid hos
         have HQ1 := hid hof
         clear hos hof HR1 HR2
         have HR1 := HQ1
         have HR2 := HQ2
         clear HQ1 HQ2
         generalize W3.setCell ⟨g2, i, none⟩ (.int .u64 (extF n sg (G i) : Nat)) = W4 at *
         refine hK.out _ _ hS (fun _ => ?_)
         clear hK K
         try simp only [Act.put, List.setIfInBounds_toArray, List.set_cons_zero, List.set_cons_succ]
         refine wpAnyH_done (by kernel_rfl) ?_ _
         go_wp2_with fail
         go_roundw
         case rel => exact ⟨i + 1, hlt, rfl, HR1, HR2, hid hS⟩
         case measure => (simp [intOf]; omega)
        exact AllReadyH.nil
       exact AllReadyH.nil
      exact AllReadyH.nil
     exact AllReadyH.nil
    exact AllReadyH.nil
   refine AllReadyH.cons (o := ⟨_, _, _, _, _, _⟩) rfl (fun K hK => ?_) ?_
   ·have z0 := HR2.out.cellAt i (by omega)
    rw [fc_get hlt, mix_at] at z0
    go_simp
    clear z0
    refine hK.out _ _ hS (fun _ => ?_)
    clear hK K
    try simp only [Act.put, List.setIfInBounds_toArray, List.set_cons_zero, List.set_cons_succ]
    refine wpAnyH_ready (rs := [8]) (by kernel_rfl) (by simp) ?_
    refine AllReadyH.cons (o := ⟨_, _, _, _, _, _⟩) rfl (fun K hK => ?_) ?_
    ·have z0 := HR1.out.cellAt i (by omega)
     rw [fc_get hlt, mix_at] at z0
     go_simp
     clear z0
     refine hK.out _ _ hS (fun _ => ?_)
     clear hK K
     try simp only [Act.put, List.setIfInBounds_toArray, List.set_cons_zero, List.set_cons_succ]
     refine wpAnyH_ready (rs := [9]) (by kernel_rfl) (by simp) ?_
     refine AllReadyH.cons (o := ⟨_, _, _, _, _, _⟩) rfl (fun K hK => ?_) ?_
     ·go_simp
      go_at_fn 120
      (with_reducible refine (HCL _ (F i) hS.2.2.1 hS.2.2.2 (HF.out i)).out.mono ?_)
      rintro e W1 ⟨rfl, hb⟩
      replace HR1 := hid (own_below HR1.out hb (Nat.le_refl _))
      replace HR2 := hid (own_below HR2.out hb (Nat.le_refl _))
      replace hS := And.intro (hS.1.trans (hb.mono (Nat.le_trans HBS.out hS.1.size))) (And.intro (hS.2.1.call hb) (And.intro (hS.2.2.1.call hb) (hS.2.2.2.call hb)))
      clear hb
      refine hK.out _ _ hS (fun _ => ?_)
      clear hK K
      try simp only [Act.put, List.setIfInBounds_toArray, List.set_cons_zero, List.set_cons_succ]
      refine wpAnyH_ready (rs := [15]) (by kernel_rfl) (by simp) ?_
      refine AllReadyH.cons (o := ⟨_, _, _, _, _, _⟩) rfl (fun K hK => ?_) ?_
      ·go_simp
       go_at_fn 120
       (with_reducible refine (HCL _ (G i) hS.2.2.1 hS.2.2.2 (HG.out i)).out.mono ?_)
       rintro e W2 ⟨rfl, hb⟩
       replace HR1 := hid (own_below HR1.out hb (Nat.le_refl _))
       replace HR2 := hid (own_below HR2.out hb (Nat.le_refl _))
       replace hS := And.intro (hS.1.trans (hb.mono (Nat.le_trans HBS.out hS.1.size))) (And.intro (hS.2.1.call hb) (And.intro (hS.2.2.1.call hb) (hS.2.2.2.call hb)))
       clear hb
       refine hK.out _ _ hS (fun _ => ?_)
       clear hK K
       try simp only [Act.put, List.setIfInBounds_toArray, List.set_cons_zero, List.set_cons_succ]
       refine wpAnyH_take (oi := ⟨_, _, _, _, _, _⟩) (i := 16) (v := .pointer (some ⟨g1, i, none⟩)) rfl (by kernel_rfl) (by kernel_rfl) (by kernel_rfl) (fun _ _ _ h => h) (Or.inl ⟨by rfl, ?_⟩) (by assumption) ?_
       ·(intro W hSw; skip; go_simp; try (with_reducible rfl))
       try simp only [Act.put, List.setIfInBounds_toArray, List.set_cons_zero, List.set_cons_succ]
       refine wpAnyH_ready (rs := [17]) (by kernel_rfl) (by simp) ?_
       refine AllReadyH.cons (o := ⟨_, _, _, _, _, _⟩) rfl (fun K hK => ?_) ?_
       ·have z0 := HR1.out.cellAt i (by omega)
        rw [fc_get hlt, mix_at] at z0
        have z1 := HR1.out.frozenAt i
        go_simp
        clear z0 z1
        have hos := (HR1.out.stored i (.int .u64 (extF n sg (F i) : Nat))).1
        rw [mix_set] at hos
        have hof := own_far HR2.out (o := i) HNE1.out.1 (.int .u64 (extF n sg (F i) : Nat))
        replace hS := And.intro (hS.1.setCell (p := ⟨g1, i, none⟩) HNE1.out.2.1 (.int .u64 (extF n sg (F i) : Nat))) (And.intro (hS.2.1.far (o := i) HNE1.out.2.2.1 (.int .u64 (extF n sg (F i) : Nat))) (And.intro (hS.2.2.1.far (o := i) HNE1.out.2.2.2.1 (.int .u64 (extF n sg (F i) : Nat))) (hS.2.2.2.far (o := i) HNE1.out.2.2.2.2 (.int .u64 (extF n sg (F i) : Nat)))))
        have HQ1 := hid hos
        have HQ2 := hid hof
        clear hos hof HR1 HR2
        have HR1 := HQ1
        have HR2 := HQ2
        clear HQ1 HQ2
        generalize W2.setCell ⟨g1, i, none⟩ (.int .u64 (extF n sg (F i) : Nat)) = W3 at *
        refine hK.out _ _ hS (fun _ => ?_)
        clear hK K
        try simp only [Act.put, List.setIfInBounds_toArray, List.set_cons_zero, List.set_cons_succ]
        refine wpAnyH_take (oi := ⟨_, _, _, _, _, _⟩) (i := 18) (v := .pointer (some ⟨g2, i, none⟩)) rfl (by kernel_rfl) (by kernel_rfl) (by kernel_rfl) (fun _ _ _ h => h) (Or.inl ⟨by rfl, ?_⟩) (by assumption) ?_
        ·(intro W hSw; skip; go_simp; try (with_reducible rfl))
        try simp only [Act.put, List.setIfInBounds_toArray, List.set_cons_zero, List.set_cons_succ]
        refine wpAnyH_ready (rs := [19]) (by kernel_rfl) (by simp) ?_
        refine AllReadyH.cons (o := ⟨_, _, _, _, _, _⟩) rfl (fun K hK => ?_) ?_
        ·have z0 := HR2.out.cellAt i (by omega)
         rw [fc_get hlt, mix_at] at z0
         have z1 := HR2.out.frozenAt i
         go_simp
         clear z0 z1
         have hos := (HR2.out.stored i (.int .u64 (extF n sg (G i) : Nat))).1
         rw [mix_set] at hos
         have hof := own_far HR1.out (o := i) HNE2.out.1 (.int .u64 (extF n sg (G i) : Nat))
         replace hS := And.intro (hS.1.setCell (p := ⟨g2, i, none⟩) HNE2.out.2.1 (.int .u64 (extF n sg (G i) : Nat))) (And.intro (hS.2.1.far (o := i) HNE2.out.2.2.1 (.int .u64 (extF n sg (G i) : Nat))) (And.intro (hS.2.2.1.far (o := i) HNE2.out.2.2.2.1 (.int .u64 (extF n sg (G i) : Nat))) (hS.2.2.2.far (o := i) HNE2.out.2.2.2.2 (.int .u64 (extF n sg (G i) : Nat)))))
         have HQ2 := hid hos
         have HQ1 := hid hof
         clear hos hof HR1 HR2
         have HR1 := HQ1
         have HR2 := HQ2
         clear HQ1 HQ2
         generalize W3.setCell ⟨g2, i, none⟩ (.int .u64 (extF n sg (G i) : Nat)) = W4 at *
         refine hK.out _ _ hS (fun _ => ?_)
         clear hK K
         try simp only [Act.put, List.setIfInBounds_toArray, List.set_cons_zero, List.set_cons_succ]
         refine wpAnyH_done (by kernel_rfl) ?_ _
         go_wp2_with fail
         go_roundw
         case rel => exact ⟨i + 1, hlt, rfl, HR1, HR2, hid hS⟩
         case measure => (simp [intOf]; omega)
        exact AllReadyH.nil
       exact AllReadyH.nil
      exact AllReadyH.nil
     exact AllReadyH.nil
    exact AllReadyH.nil
   exact AllReadyH.nil
  ·obtain rfl : i = c := by omega
   have HP1 := HR1.out
   have HP2 := HR2.out
   rw [HMX.out] at HP1
   rw [HMY.out] at HP2
   have rl1 := row_low HP1 m HMC.out.1 HC1.out
   have rl2 := row_low HP2 m HMC.out.1 HC1.out
   have rh1 := row_high HP1 m m HMC.out.2 HC1.out
   have rh2 := row_high HP2 m m HMC.out.2 HC1.out
   have HA1 := hid (RowAt.of_own HP1 HC1.out)
   have HA2 := hid (RowAt.of_own HP2 HC1.out)
   have HB := hid HBB.out.1
   have y0 := HBB.out.2.1.at (k := 0) (v := .string s) rfl
   have hsub : i - m = m := HSUB.out
   have hcap := HCAP.out
   clear HMX HMY HP1 HP2 HR1 HR2 HBB HF HG HNE1 HNE2 HCL
   have hn1 : cap1 ≠ m := HNC.out.1
   have hn2 : cap2 ≠ m := HNC.out.2
   rcases HK.out with ⟨rfl, hv⟩ | ⟨rfl, hv⟩ | ⟨rfl, hv⟩ | ⟨rfl, hv⟩ | ⟨rfl, hv⟩ | ⟨rfl, hv⟩
   ·have q0 : (s.toList == [101, 120, 116, 101, 110, 100, 95, 108, 111, 119]) = true := by rw [HS.out, hv, str_list]; decide
    clear hv HK
    go_wp2_with fail
    go_ret
    exact ⟨_, rfl, row_any rl1 rfl, HB.out⟩
   ·have q0 : (s.toList == [101, 120, 116, 101, 110, 100, 95, 108, 111, 119]) = false := by rw [HS.out, hv, str_list]; decide
    have q1 : (s.toList == [101, 120, 116, 101, 110, 100, 95, 104, 105, 103, 104]) = true := by rw [HS.out, hv, str_list]; decide
    clear hv HK
    go_wp2_with fail
    go_ret
    exact ⟨_, rfl, row_any rh1 rfl, HB.out⟩
   ·have q0 : (s.toList == [101, 120, 116, 101, 110, 100, 95, 108, 111, 119]) = false := by rw [HS.out, hv, str_list]; decide
    have q1 : (s.toList == [101, 120, 116, 101, 110, 100, 95, 104, 105, 103, 104]) = false := by rw [HS.out, hv, str_list]; decide
    have q2 : (s.toList == [101, 120, 116, 109, 117, 108, 95, 108, 111, 119]) = true := by rw [HS.out, hv, str_list]; decide
    clear hv HK
    go_upto_region 14 with fail
    have hS : Below base w wr.drew ∧ RowAt wr.drew (.slice (some ⟨g1, 0, none⟩) m cap1) m X ∧ RowAt wr.drew (.slice (some ⟨g2, 0, none⟩) m cap2) m Y := ⟨HB.out.drew, rl1, rl2⟩
    clear rl1 rl2 rh1 rh2 HA1 HA2 HB
    refine wp_region_held_drew (S := fun W => Below base w W ∧ RowAt W (.slice (some ⟨g1, 0, none⟩) m cap1) m X ∧ RowAt W (.slice (some ⟨g2, 0, none⟩) m cap2) m Y) (by kernel_rfl) hS (fun _ => ?_)
    generalize wr.drew = W at *
    refine wpAnyH_take (oi := ⟨_, _, _, _, _, _⟩) (i := 0) (v := .slice (some ⟨g1, 0, none⟩) i cap1) rfl (by kernel_rfl) (by kernel_rfl) (by kernel_rfl) (fun _ _ _ h => h) (Or.inl ⟨by rfl, ?_⟩) (by assumption) ?_
    ·(intro W hSw; skip; go_simp; try (with_reducible rfl))
    try simp only [Act.put, List.setIfInBounds_toArray, List.set_cons_zero, List.set_cons_succ]
    refine wpAnyH_take (oi := ⟨_, _, _, _, _, _⟩) (i := 1) (v := .int .i64 m) rfl (by kernel_rfl) (by kernel_rfl) (by kernel_rfl) (fun _ _ _ h => h) (Or.inl ⟨by rfl, ?_⟩) (by assumption) ?_
    ·(intro W hSw; skip; go_simp; try (with_reducible rfl))
    try simp only [Act.put, List.setIfInBounds_toArray, List.set_cons_zero, List.set_cons_succ]
    refine wpAnyH_take (oi := ⟨_, _, _, _, _, _⟩) (i := 2) (v := .slice (some ⟨g1, 0, none⟩) m cap1) rfl (by kernel_rfl) (by kernel_rfl) (by kernel_rfl) (fun _ _ _ h => h) (Or.inl ⟨by rfl, ?_⟩) (by assumption) ?_
    ·(intro W hSw; skip; go_simp; try (with_reducible rfl))
    try simp only [Act.put, List.setIfInBounds_toArray, List.set_cons_zero, List.set_cons_succ]
    refine wpAnyH_take (oi := ⟨_, _, _, _, _, _⟩) (i := 3) (v := .slice (some ⟨g2, 0, none⟩) i cap2) rfl (by kernel_rfl) (by kernel_rfl) (by kernel_rfl) (fun _ _ _ h => h) (Or.inl ⟨by rfl, ?_⟩) (by assumption) ?_
    ·(intro W hSw; skip; go_simp; try (with_reducible rfl))
    try simp only [Act.put, List.setIfInBounds_toArray, List.set_cons_zero, List.set_cons_succ]
    refine wpAnyH_take (oi := ⟨_, _, _, _, _, _⟩) (i := 4) (v := .int .i64 m) rfl (by kernel_rfl) (by kernel_rfl) (by kernel_rfl) (fun _ _ _ h => h) (Or.inl ⟨by rfl, ?_⟩) (by assumption) ?_
    ·(intro W hSw; skip; go_simp; try (with_reducible rfl))
    try simp only [Act.put, List.setIfInBounds_toArray, List.set_cons_zero, List.set_cons_succ]
    refine wpAnyH_take (oi := ⟨_, _, _, _, _, _⟩) (i := 5) (v := .slice (some ⟨g2, 0, none⟩) m cap2) rfl (by kernel_rfl) (by kernel_rfl) (by kernel_rfl) (fun _ _ _ h => h) (Or.inl ⟨by rfl, ?_⟩) (by assumption) ?_
    ·(intro W hSw; skip; go_simp; try (with_reducible rfl))
    try simp only [Act.put, List.setIfInBounds_toArray, List.set_cons_zero, List.set_cons_succ]
    refine wpAnyH_ready (rs := [6]) (by kernel_rfl) (by simp) ?_
    refine AllReadyH.cons (o := ⟨_, _, _, _, _, _⟩) rfl (fun K hK => ?_) ?_
    ·go_simp
     go_at_call 102
     (with_reducible refine (HPR _ _ _ _ _ hS.2.1 hS.2.2 (fun i _ => HXX.out _) (fun i _ => HYY.out _)).out.mono ?_)
     rintro e W5 ⟨v5, rfl, ho5, hb5⟩
     have HO5 := hid ho5
     replace hS := And.intro (hS.1.trans (hb5.mono (Nat.le_trans HBS.out hS.1.size))) (And.intro (hS.2.1.call hb5) (hS.2.2.call hb5))
     clear ho5 hb5
     refine hK.out _ _ hS (fun _ => ?_)
     clear hK K
     try simp only [Act.put, List.setIfInBounds_toArray, List.set_cons_zero, List.set_cons_succ]
     refine wpAnyH_take (oi := ⟨_, _, _, _, _, _⟩) (i := 7) (v := v5) rfl (by kernel_rfl) (by kernel_rfl) (by kernel_rfl) (fun _ _ _ h => h) (Or.inl ⟨by rfl, ?_⟩) (by assumption) ?_
     ·(intro W hSw; skip; go_simp; try (with_reducible rfl))
     try simp only [Act.put, List.setIfInBounds_toArray, List.set_cons_zero, List.set_cons_succ]
     refine wpAnyH_done (by kernel_rfl) ?_ _
     go_wp2_with fail
     go_ret
     exact ⟨_, rfl, row_any (RowAt.of_own HO5.out HM1.out) rfl, hS.1⟩
    exact AllReadyH.nil
   ·have q0 : (s.toList == [101, 120, 116, 101, 110, 100, 95, 108, 111, 119]) = false := by rw [HS.out, hv, str_list]; decide
    have q1 : (s.toList == [101, 120, 116, 101, 110, 100, 95, 104, 105, 103, 104]) = false := by rw [HS.out, hv, str_list]; decide
    have q2 : (s.toList == [101, 120, 116, 109, 117, 108, 95, 108, 111, 119]) = false := by rw [HS.out, hv, str_list]; decide
    have q3 : (s.toList == [101, 120, 116, 109, 117, 108, 95, 104, 105, 103, 104]) = true := by rw [HS.out, hv, str_list]; decide
    clear hv HK
    go_upto_region 16 with fail
    have hS : Below base w wr.drew ∧ RowAt wr.drew (.slice (some ⟨g1, m, none⟩) m (cap1 - m)) m (fun i => X (i + m)) ∧ RowAt wr.drew (.slice (some ⟨g2, m, none⟩) m (cap2 - m)) m (fun i => Y (i + m)) := ⟨HB.out.drew, rh1, rh2⟩
    clear rl1 rl2 rh1 rh2 HA1 HA2 HB
    refine wp_region_held_drew (S := fun W => Below base w W ∧ RowAt W (.slice (some ⟨g1, m, none⟩) m (cap1 - m)) m (fun i => X (i + m)) ∧ RowAt W (.slice (some ⟨g2, m, none⟩) m (cap2 - m)) m (fun i => Y (i + m))) (by kernel_rfl) hS (fun _ => ?_)
    generalize wr.drew = W at *
    refine wpAnyH_take (oi := ⟨_, _, _, _, _, _⟩) (i := 0) (v := .slice (some ⟨g1, 0, none⟩) i cap1) rfl (by kernel_rfl) (by kernel_rfl) (by kernel_rfl) (fun _ _ _ h => h) (Or.inl ⟨by rfl, ?_⟩) (by assumption) ?_
    ·(intro W hSw; skip; go_simp; try (with_reducible rfl))
    try simp only [Act.put, List.setIfInBounds_toArray, List.set_cons_zero, List.set_cons_succ]
    refine wpAnyH_take (oi := ⟨_, _, _, _, _, _⟩) (i := 1) (v := .int .i64 m) rfl (by kernel_rfl) (by kernel_rfl) (by kernel_rfl) (fun _ _ _ h => h) (Or.inl ⟨by rfl, ?_⟩) (by assumption) ?_
    ·(intro W hSw; skip; go_simp; try (with_reducible rfl))
    try simp only [Act.put, List.setIfInBounds_toArray, List.set_cons_zero, List.set_cons_succ]
    refine wpAnyH_take (oi := ⟨_, _, _, _, _, _⟩) (i := 2) (v := .slice (some ⟨g1, m, none⟩) m (cap1 - m)) rfl (by kernel_rfl) (by kernel_rfl) (by kernel_rfl) (fun _ _ _ h => h) (Or.inl ⟨by rfl, ?_⟩) (by assumption) ?_
    ·(intro W hSw; skip; go_simp; try (with_reducible rfl))
    try simp only [Act.put, List.setIfInBounds_toArray, List.set_cons_zero, List.set_cons_succ]
    refine wpAnyH_take (oi := ⟨_, _, _, _, _, _⟩) (i := 3) (v := .slice (some ⟨g2, 0, none⟩) i cap2) rfl (by kernel_rfl) (by kernel_rfl) (by kernel_rfl) (fun _ _ _ h => h) (Or.inl ⟨by rfl, ?_⟩) (by assumption) ?_
    ·(intro W hSw; skip; go_simp; try (with_reducible rfl))
    try simp only [Act.put, List.setIfInBounds_toArray, List.set_cons_zero, List.set_cons_succ]
    refine wpAnyH_take (oi := ⟨_, _, _, _, _, _⟩) (i := 4) (v := .int .i64 m) rfl (by kernel_rfl) (by kernel_rfl) (by kernel_rfl) (fun _ _ _ h => h) (Or.inl ⟨by rfl, ?_⟩) (by assumption) ?_
    ·(intro W hSw; skip; go_simp; try (with_reducible rfl))
    try simp only [Act.put, List.setIfInBounds_toArray, List.set_cons_zero, List.set_cons_succ]
    refine wpAnyH_take (oi := ⟨_, _, _, _, _, _⟩) (i := 5) (v := .slice (some ⟨g2, m, none⟩) m (cap2 - m)) rfl (by kernel_rfl) (by kernel_rfl) (by kernel_rfl) (fun _ _ _ h => h) (Or.inl ⟨by rfl, ?_⟩) (by assumption) ?_
    ·(intro W hSw; skip; go_simp; try (with_reducible rfl))
    try simp only [Act.put, List.setIfInBounds_toArray, List.set_cons_zero, List.set_cons_succ]
    refine wpAnyH_ready (rs := [6]) (by kernel_rfl) (by simp) ?_
    refine AllReadyH.cons (o := ⟨_, _, _, _, _, _⟩) rfl (fun K hK => ?_) ?_
    ·go_simp
     go_at_call 102
     (with_reducible refine (HPR _ _ _ _ _ hS.2.1 hS.2.2 (fun i _ => HXX.out _) (fun i _ => HYY.out _)).out.mono ?_)
     rintro e W5 ⟨v5, rfl, ho5, hb5⟩
     have HO5 := hid ho5
     replace hS := And.intro (hS.1.trans (hb5.mono (Nat.le_trans HBS.out hS.1.size))) (And.intro (hS.2.1.call hb5) (hS.2.2.call hb5))
     clear ho5 hb5
     refine hK.out _ _ hS (fun _ => ?_)
     clear hK K
     try simp only [Act.put, List.setIfInBounds_toArray, List.set_cons_zero, List.set_cons_succ]
     refine wpAnyH_take (oi := ⟨_, _, _, _, _, _⟩) (i := 7) (v := v5) rfl (by kernel_rfl) (by kernel_rfl) (by kernel_rfl) (fun _ _ _ h => h) (Or.inl ⟨by rfl, ?_⟩) (by assumption) ?_
     ·(intro W hSw; skip; go_simp; try (with_reducible rfl))
     try simp only [Act.put, List.setIfInBounds_toArray, List.set_cons_zero, List.set_cons_succ]
     refine wpAnyH_done (by kernel_rfl) ?_ _
     go_wp2_with fail
     go_ret
     exact ⟨_, rfl, row_any (RowAt.of_own HO5.out HM1.out) rfl, hS.1⟩
    exact AllReadyH.nil
   ·have q0 : (s.toList == [101, 120, 116, 101, 110, 100, 95, 108, 111, 119]) = false := by rw [HS.out, hv, str_list]; decide
    have q1 : (s.toList == [101, 120, 116, 101, 110, 100, 95, 104, 105, 103, 104]) = false := by rw [HS.out, hv, str_list]; decide
    have q2 : (s.toList == [101, 120, 116, 109, 117, 108, 95, 108, 111, 119]) = false := by rw [HS.out, hv, str_list]; decide
    have q3 : (s.toList == [101, 120, 116, 109, 117, 108, 95, 104, 105, 103, 104]) = false := by rw [HS.out, hv, str_list]; decide
    have q5 : (s.toList == [100, 111, 116]) = false := by rw [HS.out, hv, str_list]; decide
    clear hv HK
    go_wp2_with (go_at_call 103; (with_reducible refine (HPS _ _ _ HA1.out).out.mono ?_); rintro e w5 ⟨v5, rfl, ho5, hb5⟩)
    go_ret
    exact ⟨_, rfl, row_any (RowAt.of_own ho5 HM1.out) rfl, HB.out.trans (hb5.mono (Nat.le_trans HBS.out HB.out.size))⟩
   ·have q0 : (s.toList == [101, 120, 116, 101, 110, 100, 95, 108, 111, 119]) = false := by rw [HS.out, hv, str_list]; decide
    have q1 : (s.toList == [101, 120, 116, 101, 110, 100, 95, 104, 105, 103, 104]) = false := by rw [HS.out, hv, str_list]; decide
    have q2 : (s.toList == [101, 120, 116, 109, 117, 108, 95, 108, 111, 119]) = false := by rw [HS.out, hv, str_list]; decide
    have q3 : (s.toList == [101, 120, 116, 109, 117, 108, 95, 104, 105, 103, 104]) = false := by rw [HS.out, hv, str_list]; decide
    have q5 : (s.toList == [100, 111, 116]) = true := by rw [HS.out, hv, str_list]; decide
    clear hv HK
    go_wp2_with (first
     | (go_at_call 102; (with_reducible refine (HPQ _ _ _ _ _ HA1.out HA2.out (fun i _ => HXX.out _) (fun i _ => HYY.out _)).out.mono ?_); rintro e w5 ⟨v5, rfl, ho5, hb5⟩; have HR5 := hid (RowAt.of_own ho5 HC1.out); have HB5 := hid (HB.out.trans (hb5.mono (Nat.le_trans HBS.out HB.out.size))); clear ho5 hb5)
     | (go_at_call 103; (with_reducible refine (HPS _ _ _ HR5.out).out.mono ?_); rintro e w6 ⟨v6, rfl, ho6, hb6⟩))
    go_ret
    exact ⟨_, rfl, row_any (RowAt.of_own ho6 HM1.out) rfl, HB5.out.trans (hb6.mono (Nat.le_trans HBS.out HB5.out.size))⟩
end Go.Proofs.YtlhakbkdlgejpaaGreatDoor
