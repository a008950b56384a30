/-
  LVec, RHas, LStr: merged, what the law does not reach left out (each text says what it holds where it lies in wip). No condition.
-/
import Derived.Test.YtlhakbkdlgejpaaGreatDoorK09
import Derived.Deep.DeepCutAuto
import Derived.Deep.RegionHeld3
import Derived.Test.YtlhakbkdlgejpaaGreatDoorK06
import Derived.Lib.Bytealg
import Derived.RegionTactic
import Derived.Lib.PathFns
set_option linter.unusedSimpArgs false
set_option linter.unusedVariables false
set_option maxRecDepth 100000
namespace Go.Proofs.YtlhakbkdlgejpaaGreatDoor
open Go.RowKit
/-- The verb has no way of its own. -/
def eachV (vb : List UInt8) : Bool := !(vb == [115, 112, 108, 97, 116]) && !(vb == [114, 101, 112, 108, 97, 99, 101, 95, 108, 97, 110, 101]) && !(vb == [115, 104, 117, 102, 102, 108, 101]) && !(vb == [115, 119, 105, 122, 122, 108, 101]) && !(vb == [98, 105, 116, 115, 101, 108, 101, 99, 116]) && !(vb == [110, 97, 114, 114, 111, 119]) && !(vb == [101, 120, 116, 101, 110, 100, 95, 108, 111, 119]) && !(vb == [101, 120, 116, 101, 110, 100, 95, 104, 105, 103, 104]) && !(vb == [101, 120, 116, 109, 117, 108, 95, 108, 111, 119]) && !(vb == [101, 120, 116, 109, 117, 108, 95, 104, 105, 103, 104]) && !(vb == [101, 120, 116, 97, 100, 100, 95, 112, 97, 105, 114, 119, 105, 115, 101]) && !(vb == [100, 111, 116]) && !(vb == [116, 114, 117, 110, 99, 95, 115, 97, 116]) && !(vb == [99, 111, 110, 118, 101, 114, 116]) && !(vb == [99, 111, 110, 118, 101, 114, 116, 95, 108, 111, 119]) && !(vb == [100, 101, 109, 111, 116, 101]) && !(vb == [112, 114, 111, 109, 111, 116, 101, 95, 108, 111, 119])
set_option maxHeartbeats 4000000 in
set_option maxRecDepth 100000 in
theorem vector_each (vb : List UInt8) (ff : Bool) (fb : Int) (tf : Bool) (tb : Int) (sg : Bool) (hv : eachV vb = true) (vi va : Value) (c : Nat) (hc1 : 1 ≤ c) (hc : c ≤ 16) (F G : Nat → Nat) (f : Nat → Nat → Nat) (w : World)
    (H0 : ∀ W, Below w.heap.size w W → Calls Tryz.prog 64 #[insV vb ff fb tf tb sg, va, .int .i64 0] W (LPost W c F))
    (H1 : ∀ W, Below w.heap.size w W → Calls Tryz.prog 64 #[insV vb ff fb tf tb sg, va, .int .i64 1] W (LPost W c G))
    (HO : ∀ W, Calls Tryz.prog 72 #[insV vb ff fb tf tb sg] W (FnPost W f)) (hF : ∀ i, i < c → F i < 18446744073709551616) (hG : ∀ i, i < c → G i < 18446744073709551616) :
    Calls Tryz.prog 34 #[insV vb ff fb tf tb sg, vi, va] w (LPost w c (fun i => f (F i) (G i))) := by
  unfold eachV at hv
  simp only [Bool.and_eq_true, Bool.not_eq_true'] at hv
  obtain ⟨⟨⟨⟨⟨⟨⟨⟨⟨⟨⟨⟨⟨⟨⟨⟨h0, h1⟩, h2⟩, h3⟩, h4⟩, h5⟩, h6⟩, h7⟩, h8⟩, h9⟩, h10⟩, h11⟩, h12⟩, h13⟩, h14⟩, h15⟩, h16⟩ := hv
  unfold insV at H0 H1 HO ⊢
  obtain ⟨s, hs⟩ : ∃ s, s = str vb := ⟨_, rfl⟩
  rw [← hs] at H0 H1 HO ⊢
  have q0 : (s.toList == [115, 112, 108, 97, 116]) = false := by rw [hs, str_list]; exact h0
  have q1 : (s.toList == [114, 101, 112, 108, 97, 99, 101, 95, 108, 97, 110, 101]) = false := by rw [hs, str_list]; exact h1
  have q2 : (s.toList == [115, 104, 117, 102, 102, 108, 101]) = false := by rw [hs, str_list]; exact h2
  have q3 : (s.toList == [115, 119, 105, 122, 122, 108, 101]) = false := by rw [hs, str_list]; exact h3
  have q4 : (s.toList == [98, 105, 116, 115, 101, 108, 101, 99, 116]) = false := by rw [hs, str_list]; exact h4
  have q5 : (s.toList == [110, 97, 114, 114, 111, 119]) = false := by rw [hs, str_list]; exact h5
  have q6 : (s.toList == [101, 120, 116, 101, 110, 100, 95, 108, 111, 119]) = false := by rw [hs, str_list]; exact h6
  have q7 : (s.toList == [101, 120, 116, 101, 110, 100, 95, 104, 105, 103, 104]) = false := by rw [hs, str_list]; exact h7
  have q8 : (s.toList == [101, 120, 116, 109, 117, 108, 95, 108, 111, 119]) = false := by rw [hs, str_list]; exact h8
  have q9 : (s.toList == [101, 120, 116, 109, 117, 108, 95, 104, 105, 103, 104]) = false := by rw [hs, str_list]; exact h9
  have q10 : (s.toList == [101, 120, 116, 97, 100, 100, 95, 112, 97, 105, 114, 119, 105, 115, 101]) = false := by rw [hs, str_list]; exact h10
  have q11 : (s.toList == [100, 111, 116]) = false := by rw [hs, str_list]; exact h11
  have q12 : (s.toList == [116, 114, 117, 110, 99, 95, 115, 97, 116]) = false := by rw [hs, str_list]; exact h12
  have q13 : (s.toList == [99, 111, 110, 118, 101, 114, 116]) = false := by rw [hs, str_list]; exact h13
  have q14 : (s.toList == [99, 111, 110, 118, 101, 114, 116, 95, 108, 111, 119]) = false := by rw [hs, str_list]; exact h14
  have q15 : (s.toList == [100, 101, 109, 111, 116, 101]) = false := by rw [hs, str_list]; exact h15
  have q16 : (s.toList == [112, 114, 111, 109, 111, 116, 101, 95, 108, 111, 119]) = false := by rw [hs, str_list]; exact h16
  clear hs h0 h1 h2 h3 h4 h5 h6 h7 h8 h9 h10 h11 h12 h13 h14 h15 h16
  have HH0 := fun W h => hid (H0 W h)
  have HH1 := fun W h => hid (H1 W h)
  have HHO := fun W => hid (HO W)
  have HF := hid hF
  have HG := hid hG
  have HE : Hid (∀ (g : Nat) (lb : Array Value) (W : World) (v1 v2 : Value), Does g lb f W → Enters Tryz.prog g → RowAt W v1 c F → RowAt W v2 c G → Calls Tryz.prog 71 #[.func (.func g) #[] lb, v1, v2] W (LPost W c (fun i => f (F i) (G i)))) :=
    fun g lb W v1 v2 hd eg h1 h2 => each_says g lb f W hd eg c hc v1 v2 F G h1 h2 hF hG
  generalize (fun i => f (F i) (G i)) = R at *
  clear H0 H1 HO hF hG
  go_enter Tryz.func34, Tryz.ntmps34
  go_upto_region 1 with fail
  have hS : Below w.heap.size w (w.alloc (.cells #[.string s, .bool ff, .int .i64 fb, .bool tf, .int .i64 tb, .bool sg] 50)).drew ∧ CA w.heap.size #[.string s, .bool ff, .int .i64 fb, .bool tf, .int .i64 tb, .bool sg] 50 (w.alloc (.cells #[.string s, .bool ff, .int .i64 fb, .bool tf, .int .i64 tb, .bool sg] 50)).drew := ⟨((Below.refl _ w).alloc (Nat.le_refl _) _).drew, (CA.new w _ 50).drew⟩
  refine wp_region_held_drew (S := fun W => Below w.heap.size w W ∧ CA w.heap.size #[.string s, .bool ff, .int .i64 fb, .bool tf, .int .i64 tb, .bool sg] 50 W) (by kernel_rfl) hS (fun _ => ?_)
  generalize (w.alloc (.cells #[.string s, .bool ff, .int .i64 fb, .bool tf, .int .i64 tb, .bool sg] 50)).drew = W at *
  refine wpAnyH_take (oi := ⟨_, _, _, _, _, _⟩) (i := 0) (v := .agg #[.string s, .bool ff, .int .i64 fb, .bool tf, .int .i64 tb, .bool sg]) rfl (by kernel_rfl) (by kernel_rfl) (by kernel_rfl) (fun _ _ _ h => h) (Or.inl ⟨by rfl, ?_⟩) (by assumption) ?_
  · (intro W hSw; have x0 := hSw.2.at (k := 0) (v := .string s) rfl; have x1 := hSw.2.at (k := 1) (v := .bool ff) rfl; have x2 := hSw.2.at (k := 2) (v := .int .i64 fb) rfl; have x3 := hSw.2.at (k := 3) (v := .bool tf) rfl; have x4 := hSw.2.at (k := 4) (v := .int .i64 tb) rfl; have x5 := hSw.2.at (k := 5) (v := .bool sg) rfl; go_simp; try (with_reducible rfl))
  try simp only [Act.put, List.setIfInBounds_toArray, List.set_cons_zero, List.set_cons_succ]
  refine wpAnyH_take (oi := ⟨_, _, _, _, _, _⟩) (i := 1) (v := va) rfl (by kernel_rfl) (by kernel_rfl) (by kernel_rfl) (fun _ _ _ h => h) (Or.inl ⟨by rfl, ?_⟩) (by assumption) ?_
  · (intro W hSw; have x0 := hSw.2.at (k := 0) (v := .string s) rfl; have x1 := hSw.2.at (k := 1) (v := .bool ff) rfl; have x2 := hSw.2.at (k := 2) (v := .int .i64 fb) rfl; have x3 := hSw.2.at (k := 3) (v := .bool tf) rfl; have x4 := hSw.2.at (k := 4) (v := .int .i64 tb) rfl; have x5 := hSw.2.at (k := 5) (v := .bool sg) rfl; go_simp; try (with_reducible rfl))
  try simp only [Act.put, List.setIfInBounds_toArray, List.set_cons_zero, List.set_cons_succ]
  refine wpAnyH_take (oi := ⟨_, _, _, _, _, _⟩) (i := 3) (v := .agg #[.string s, .bool ff, .int .i64 fb, .bool tf, .int .i64 tb, .bool sg]) rfl (by kernel_rfl) (by kernel_rfl) (by kernel_rfl) (fun _ _ _ h => h) (Or.inl ⟨by rfl, ?_⟩) (by assumption) ?_
  · (intro W hSw; have x0 := hSw.2.at (k := 0) (v := .string s) rfl; have x1 := hSw.2.at (k := 1) (v := .bool ff) rfl; have x2 := hSw.2.at (k := 2) (v := .int .i64 fb) rfl; have x3 := hSw.2.at (k := 3) (v := .bool tf) rfl; have x4 := hSw.2.at (k := 4) (v := .int .i64 tb) rfl; have x5 := hSw.2.at (k := 5) (v := .bool sg) rfl; go_simp; try (with_reducible rfl))
  try simp only [Act.put, List.setIfInBounds_toArray, List.set_cons_zero, List.set_cons_succ]
  refine wpAnyH_take (oi := ⟨_, _, _, _, _, _⟩) (i := 4) (v := va) rfl (by kernel_rfl) (by kernel_rfl) (by kernel_rfl) (fun _ _ _ h => h) (Or.inl ⟨by rfl, ?_⟩) (by assumption) ?_
  · (intro W hSw; have x0 := hSw.2.at (k := 0) (v := .string s) rfl; have x1 := hSw.2.at (k := 1) (v := .bool ff) rfl; have x2 := hSw.2.at (k := 2) (v := .int .i64 fb) rfl; have x3 := hSw.2.at (k := 3) (v := .bool tf) rfl; have x4 := hSw.2.at (k := 4) (v := .int .i64 tb) rfl; have x5 := hSw.2.at (k := 5) (v := .bool sg) rfl; go_simp; try (with_reducible rfl))
  try simp only [Act.put, List.setIfInBounds_toArray, List.set_cons_zero, List.set_cons_succ]
  refine wpAnyH_ready (rs := [2]) (by kernel_rfl) (by simp) ?_
  refine AllReadyH.cons (o := ⟨_, _, _, _, _, _⟩) rfl (fun K hK => ?_) ?_
  · go_simp
    go_at_call 64
    (with_reducible refine (HH0 _ hS.1).out.mono ?_)
    rintro e W1 ⟨v1, rfl, ho1, hb⟩
    replace hS := And.intro (hS.1.trans (hb.mono hS.1.size)) (hS.2.call hb)
    have HR1 := RowAt.of_own ho1 hc1
    clear hb ho1
    refine hK.out _ _ hS (fun _ => ?_)
    clear hK K
    try simp only [Act.put, List.setIfInBounds_toArray, List.set_cons_zero, List.set_cons_succ]
    refine wpAnyH_ready (rs := [5]) (by kernel_rfl) (by simp) ?_
    refine AllReadyH.cons (o := ⟨_, _, _, _, _, _⟩) rfl (fun K hK => ?_) ?_
    · go_simp
      go_at_call 64
      (with_reducible refine (HH1 _ hS.1).out.mono ?_)
      rintro e W2 ⟨v2, rfl, ho2, hb⟩
      replace hS := And.intro (hS.1.trans (hb.mono hS.1.size)) (hS.2.call hb)
      replace HR1 := HR1.call hb
      have HR2 := RowAt.of_own ho2 hc1
      clear hb ho2
      refine hK.out _ _ hS (fun _ => ?_)
      clear hK K
      try simp only [Act.put, List.setIfInBounds_toArray, List.set_cons_zero, List.set_cons_succ]
      refine wpAnyH_take (oi := ⟨_, _, _, _, _, _⟩) (i := 6) (v := v1) rfl (by kernel_rfl) (by kernel_rfl) (by kernel_rfl) (fun _ _ _ h => h) (Or.inl ⟨by rfl, ?_⟩) (by assumption) ?_
      · (intro W hSw; have x0 := hSw.2.at (k := 0) (v := .string s) rfl; have x1 := hSw.2.at (k := 1) (v := .bool ff) rfl; have x2 := hSw.2.at (k := 2) (v := .int .i64 fb) rfl; have x3 := hSw.2.at (k := 3) (v := .bool tf) rfl; have x4 := hSw.2.at (k := 4) (v := .int .i64 tb) rfl; have x5 := hSw.2.at (k := 5) (v := .bool sg) rfl; go_simp; try (with_reducible rfl))
      try simp only [Act.put, List.setIfInBounds_toArray, List.set_cons_zero, List.set_cons_succ]
      refine wpAnyH_take (oi := ⟨_, _, _, _, _, _⟩) (i := 7) (v := v2) rfl (by kernel_rfl) (by kernel_rfl) (by kernel_rfl) (fun _ _ _ h => h) (Or.inl ⟨by rfl, ?_⟩) (by assumption) ?_
      · (intro W hSw; have x0 := hSw.2.at (k := 0) (v := .string s) rfl; have x1 := hSw.2.at (k := 1) (v := .bool ff) rfl; have x2 := hSw.2.at (k := 2) (v := .int .i64 fb) rfl; have x3 := hSw.2.at (k := 3) (v := .bool tf) rfl; have x4 := hSw.2.at (k := 4) (v := .int .i64 tb) rfl; have x5 := hSw.2.at (k := 5) (v := .bool sg) rfl; go_simp; try (with_reducible rfl))
      try simp only [Act.put, List.setIfInBounds_toArray, List.set_cons_zero, List.set_cons_succ]
      refine wpAnyH_done (by kernel_rfl) ?_ _
      have y0 := hS.2.at (k := 0) (v := .string s) rfl
      have y1 := hS.2.at (k := 1) (v := .bool ff) rfl
      have y2 := hS.2.at (k := 2) (v := .int .i64 fb) rfl
      have y3 := hS.2.at (k := 3) (v := .bool tf) rfl
      have y4 := hS.2.at (k := 4) (v := .int .i64 tb) rfl
      have y5 := hS.2.at (k := 5) (v := .bool sg) rfl
      have HS2 := hid hS
      have HA := hid HR1
      have HB := hid HR2
      clear hS HR1 HR2
      go_wp2_with (first
        | (go_at_call 72; refine (HHO _).out.mono ?_; rintro e W3 ⟨g, lb, rfl, eg, hd, hb⟩; have HEE := hid (HE.out g lb W3 v1 v2 hd eg (HA.out.call hb) (HB.out.call hb)); have HB3 := hid (HS2.out.1.trans (hb.mono HS2.out.1.size)); clear hb hd eg)
        | (go_at_call 71; refine HEE.out.mono ?_; rintro e W4 ⟨v4, rfl, ho4, hb4⟩))
      go_ret
      exact LPost.mono0 HB3.out ⟨v4, rfl, ho4, hb4⟩
    exact AllReadyH.nil
  exact AllReadyH.nil
end Go.Proofs.YtlhakbkdlgejpaaGreatDoor
namespace Go.Proofs.YtlhakbkdlgejpaaGreatDoor
open Go.RowKit
theorem extract_str (l : List UInt8) (a n : Nat) : ((str l).extract a (a + n)).toList = (l.drop a).take n := by
  rw [ByteArray.toList_eq, ByteArray.data_extract]
  simp only [str]
  rw [List.extract_toArray]
  show (l.extract a (a + n)) = _
  rw [List.extract_eq_take_drop, Nat.add_sub_cancel_left]
end Go.Proofs.YtlhakbkdlgejpaaGreatDoor
namespace Go.Proofs.YtlhakbkdlgejpaaGreatDoor
open Go.RowKit
def hasSuf (l t : List UInt8) : Bool := decide (t.length ≤ l.length) && (l.drop (l.length - t.length) == t)
def trimSuf (l t : List UInt8) : List UInt8 := if hasSuf l t then l.take (l.length - t.length) else l
theorem ext_list (l : List UInt8) (a b : Nat) (h : a ≤ b) : ((str l).extract a b).toList = (l.drop a).take (b - a) := by
  obtain ⟨n, rfl⟩ : ∃ n, b = a + n := ⟨b - a, by omega⟩
  rw [Nat.add_sub_cancel_left]
  exact extract_str l a n
theorem list_str (s : ByteArray) : str s.toList = s := by
  rw [ByteArray.toList_eq]; rfl
theorem ext_str (l : List UInt8) (a b : Nat) (h : a ≤ b) : (str l).extract a b = str ((l.drop a).take (b - a)) := by
  rw [← ext_list l a b h, list_str]
theorem HasSuffix_says (l t : List UInt8) (hl : l.length ≤ 1000) (w : World) : Calls Tryz.prog 153 #[.string (str l), .string (str t)] w fun e w' => e = .returned (.bool (hasSuf l t)) ∧ w = w' := by
  obtain ⟨s, hs⟩ : ∃ s, s = str l := ⟨_, rfl⟩
  obtain ⟨u, hu⟩ : ∃ u, u = str t := ⟨_, rfl⟩
  have z1 : s.size = l.length := by rw [hs, str_size]
  have z2 : u.size = t.length := by rw [hu, str_size]
  have HS := hid hs
  have HU := hid hu
  rw [← hs, ← hu]
  by_cases h : t.length ≤ l.length
  · have hw : wrap64 ((l.length : Int) - (t.length : Int)) = ((l.length - t.length : Nat) : Int) := by unfold wrap64; omega
    have he := ext_list l (l.length - t.length) l.length (by omega)
    rw [← hs, show l.length - (l.length - t.length) = t.length by omega] at he
    have hv : hasSuf l t = ((l.drop (l.length - t.length)).take t.length == u.toList) := by
      unfold hasSuf
      rw [decide_eq_true h, Bool.true_and, hu, str_list, List.take_of_length_le (by rw [List.length_drop]; omega)]
    have HV := hid hv
    obtain ⟨m, hm⟩ : ∃ m, m = l.length - t.length := ⟨_, rfl⟩
    rw [← hm] at hw he
    have hle : t.length ≤ l.length := h
    have hml : m ≤ l.length := by omega
    have hm2 := hid hm
    clear hv hs hu hm
    go_enter Tryz.func153, Tryz.ntmps153
    go_wp2
    go_ret
    rw [HV.out]
    exact ⟨by rw [← hm2.out, ← he]; rfl, rfl⟩
  · have HV := hid (show hasSuf l t = false by unfold hasSuf; rw [decide_eq_false h]; rfl)
    clear hs hu
    go_enter Tryz.func153, Tryz.ntmps153
    go_wp2
    go_ret
    exact ⟨by rw [HV.out]; rfl, rfl⟩
theorem trim_at (l t : List UInt8) (h : hasSuf l t = true) : t.length ≤ l.length := by
  unfold hasSuf at h
  simp only [Bool.and_eq_true, decide_eq_true_eq] at h
  exact h.1
theorem cut_str (l : List UInt8) (m : Nat) : (str l).extract 0 m = str (l.take m) := by
  rw [ext_str l 0 m (Nat.zero_le _), List.drop_zero, Nat.sub_zero]
theorem liteTrim_says (l t : List UInt8) (hl : l.length ≤ 1000) (w : World) : Calls Tryz.prog 95 #[.string (str l), .string (str t)] w fun e w' => e = .returned (.string (str (trimSuf l t))) ∧ w = w' := by
  have HH := fun W => hid (HasSuffix_says l t hl W)
  obtain ⟨s, hs⟩ : ∃ s, s = str l := ⟨_, rfl⟩
  obtain ⟨u, hu⟩ : ∃ u, u = str t := ⟨_, rfl⟩
  have z1 : s.size = l.length := by rw [hs, str_size]
  have z2 : u.size = t.length := by rw [hu, str_size]
  rw [← hs, ← hu] at HH
  rw [← hs, ← hu]
  cases h : hasSuf l t with
  | true =>
    have hle := trim_at l t h
    have HV := hid (show str (trimSuf l t) = s.extract 0 (l.length - t.length) by unfold trimSuf; rw [h, hs, cut_str]; rfl)
    rw [h] at HH
    clear h hs hu
    go_enter Tryz.func95, Tryz.ntmps95
    go_wp2_with (go_at_call 153; refine (HH _).out.mono ?_; rintro e w' ⟨rfl, rfl⟩)
    go_ret
    exact ⟨by rw [HV.out]; rfl, rfl⟩
  | false =>
    have HV := hid (show str (trimSuf l t) = s by unfold trimSuf; rw [h, hs]; rfl)
    rw [h] at HH
    clear h hs hu
    go_enter Tryz.func95, Tryz.ntmps95
    go_wp2_with (go_at_call 153; refine (HH _).out.mono ?_; rintro e w' ⟨rfl, rfl⟩)
    go_ret
    exact ⟨by rw [HV.out]; rfl, rfl⟩
theorem TrimSuffix_says (l t : List UInt8) (hl : l.length ≤ 1000) (w : World) : Calls Tryz.prog 58 #[.string (str l), .string (str t)] w fun e w' => e = .returned (.string (str (trimSuf l t))) ∧ w = w' := by
  have HH := fun W => hid (liteTrim_says l t hl W)
  generalize str l = s at *
  generalize str t = u at *
  generalize str (trimSuf l t) = r at *
  go_enter Tryz.func58, Tryz.ntmps58
  go_wp2_with (go_at_call 95; refine (HH _).out.mono ?_; rintro e w' ⟨rfl, rfl⟩)
  go_ret
  exact ⟨rfl, rfl⟩
theorem liteCutS_says (l t : List UInt8) (hl : l.length ≤ 1000) (w : World) : Calls Tryz.prog 96 #[.string (str l), .string (str t)] w fun e w' => e = .returned (.tuple #[.string (str (trimSuf l t)), .bool (hasSuf l t)]) ∧ w = w' := by
  have HH := fun W => hid (HasSuffix_says l t hl W)
  obtain ⟨s, hs⟩ : ∃ s, s = str l := ⟨_, rfl⟩
  obtain ⟨u, hu⟩ : ∃ u, u = str t := ⟨_, rfl⟩
  have z1 : s.size = l.length := by rw [hs, str_size]
  have z2 : u.size = t.length := by rw [hu, str_size]
  rw [← hs, ← hu] at HH
  rw [← hs, ← hu]
  cases h : hasSuf l t with
  | true =>
    have hle := trim_at l t h
    have HV := hid (show str (trimSuf l t) = s.extract 0 (l.length - t.length) by unfold trimSuf; rw [h, hs, cut_str]; rfl)
    rw [h] at HH
    clear h hs hu
    go_enter Tryz.func96, Tryz.ntmps96
    go_wp2_with (go_at_call 153; refine (HH _).out.mono ?_; rintro e w' ⟨rfl, rfl⟩)
    go_ret2
    exact ⟨by rw [HV.out]; rfl, rfl⟩
  | false =>
    have HV := hid (show str (trimSuf l t) = s by unfold trimSuf; rw [h, hs]; rfl)
    rw [h] at HH
    clear h hs hu
    go_enter Tryz.func96, Tryz.ntmps96
    go_wp2_with (go_at_call 153; refine (HH _).out.mono ?_; rintro e w' ⟨rfl, rfl⟩)
    go_ret2
    exact ⟨by rw [HV.out]; rfl, rfl⟩
theorem CutSuffix_says (l t : List UInt8) (hl : l.length ≤ 1000) (w : World) : Calls Tryz.prog 59 #[.string (str l), .string (str t)] w fun e w' => e = .returned (.tuple #[.string (str (trimSuf l t)), .bool (hasSuf l t)]) ∧ w = w' := by
  have HH := fun W => hid (liteCutS_says l t hl W)
  generalize str l = s at *
  generalize str t = u at *
  generalize str (trimSuf l t) = r at *
  go_enter Tryz.func59, Tryz.ntmps59
  go_wp2_with (go_at_call 96; refine (HH _).out.mono ?_; rintro e w' ⟨rfl, rfl⟩)
  go_ret2
  exact ⟨rfl, rfl⟩
set_option maxHeartbeats 1000000 in
set_option maxRecDepth 100000 in
theorem IndexByte_says (l : List UInt8) (w : World) : Calls Tryz.prog 233 #[.string (str l), .int .u8 46] w fun e w' => e = .returned (.int .i64 (Lib.indexByte l 46)) ∧ w = w' := by
  have hx := Lib.run_indexByteString (P := Tryz.prog) (str l) 46 w
  rw [show (str l).data.toList = l from rfl, show ((46 : Int).toNat.toUInt8) = 46 from rfl] at hx
  generalize str l = s at *
  generalize Lib.indexByte l 46 = r at *
  go_enter Tryz.func233, Tryz.ntmps233
  go_wp2
  rw [run_callFunc_extern Tryz.func266 (by kernel_rfl) (by kernel_rfl) (by kernel_rfl) (e := Extern.BytealgIndexByte.indexByte) (by kernel_rfl), hx]
  simp only [Result.andThen]
  rw [Oper.upon_value]
  go_wp2
  go_ret
  exact ⟨rfl, rfl⟩
set_option maxHeartbeats 1000000 in
set_option maxRecDepth 100000 in
theorem Index_says (l : List UInt8) (w : World) : Calls Tryz.prog 152 #[.string (str l), .string ⟨#[46]⟩] w fun e w' => e = .returned (.int .i64 (Lib.indexByte l 46)) ∧ w = w' := by
  have HH := fun W => hid (IndexByte_says l W)
  obtain ⟨s, hs⟩ : ∃ s, s = str l := ⟨_, rfl⟩
  rw [← hs] at HH ⊢
  cases hq : ([46] == l) with
  | true =>
    have q : ([46] == s.toList) = true := by rw [hs, str_list]; exact hq
    have hv : Hid (Lib.indexByte l 46 = 0) := by
      have : [46] = l := by simpa using hq
      rw [← this]; rfl
    generalize Lib.indexByte l 46 = r at *
    clear hs hq
    go_enter Tryz.func152, Tryz.ntmps152
    go_wp2_with (go_at_call 233; refine (HH _).out.mono ?_; rintro e w' ⟨rfl, rfl⟩)
    go_ret
    first
      | exact ⟨by rw [hv.out]; rfl, rfl⟩
      | first | exact ⟨by rw [hv.out]; rfl, rfl⟩ | exact ⟨by rw [hv.out], rfl⟩
  | false =>
    have q : ([46] == s.toList) = false := by rw [hs, str_list]; exact hq
    generalize Lib.indexByte l 46 = r at *
    clear hs hq
    go_enter Tryz.func152, Tryz.ntmps152
    go_wp2_with (go_at_call 233; refine (HH _).out.mono ?_; rintro e w' ⟨rfl, rfl⟩)
    go_ret
    exact ⟨rfl, rfl⟩
/-- What stands ahead of the first point, and behind it. -/
def headL (l : List UInt8) : List UInt8 := if 0 ≤ Lib.indexByte l 46 then l.take (Lib.indexByte l 46).toNat else l
def tailL (l : List UInt8) : List UInt8 := if 0 ≤ Lib.indexByte l 46 then l.drop ((Lib.indexByte l 46).toNat + 1) else []
theorem indexByte_lt (l : List UInt8) (c : UInt8) : Lib.indexByte l c < l.length := by
  induction l with
  | nil => simp [Lib.indexByte]
  | cons b l ih =>
    unfold Lib.indexByte
    split
    · (simp <;> omega)
    · split
      · (simp <;> omega)
      · (simp <;> omega)
set_option maxHeartbeats 1000000 in
set_option maxRecDepth 100000 in
theorem liteCut_says (l : List UInt8) (hl : l.length ≤ 1000) (w : World) : Calls Tryz.prog 94 #[.string (str l), .string ⟨#[46]⟩] w fun e w' => e = .returned (.tuple #[.string (str (headL l)), .string (str (tailL l)), .bool (decide (0 ≤ Lib.indexByte l 46))]) ∧ Below w.heap.size w w' := by
  have HH := fun W => hid (Index_says l W)
  have hb1 := indexByte_lt l 46
  obtain ⟨s, hs⟩ : ∃ s, s = str l := ⟨_, rfl⟩
  have z1 : s.size = l.length := by rw [hs, str_size]
  rw [← hs] at HH ⊢
  by_cases h0 : 0 ≤ Lib.indexByte l 46
  · obtain ⟨m, hm⟩ : ∃ m : Nat, Lib.indexByte l 46 = (m : Int) := ⟨(Lib.indexByte l 46).toNat, by omega⟩
    have e1 : str (headL l) = s.extract 0 m := by unfold headL; rw [if_pos h0, hm, hs, cut_str]; rfl
    have e2 : str (tailL l) = s.extract (m + 1) l.length := by
      unfold tailL
      rw [if_pos h0, hm, hs, ext_str l _ _ (by omega), List.take_of_length_le (by rw [List.length_drop]; omega)]
      rfl
    have HE := hid (And.intro e1 e2)
    have HD := hid (show decide (0 ≤ Lib.indexByte l 46) = true from decide_eq_true h0)
    rw [hm] at HH
    have hmn : m + 1 ≤ l.length := by omega
    have hw : wrap64 ((m : Int) + 1) = ((m + 1 : Nat) : Int) := by unfold wrap64; omega
    clear hs e1 e2 hm h0 hb1
    go_enter Tryz.func94, Tryz.ntmps94
    go_wp2_with (first | (go_at_call 152; refine (HH _).out.mono ?_; rintro e w' ⟨rfl, rfl⟩))
    go_region
    go_wp2
    go_ret3
    exact ⟨by rw [HE.out.1, HE.out.2, HD.out]; rfl, (Below.refl _ _).drew⟩
  · have HE : Hid (str (headL l) = s ∧ tailL l = []) := by unfold headL tailL; rw [if_neg h0, if_neg h0, hs]; exact ⟨rfl, rfl⟩
    have HD := hid (show decide (0 ≤ Lib.indexByte l 46) = false from decide_eq_false h0)
    obtain ⟨r, hr⟩ : ∃ r, r = Lib.indexByte l 46 := ⟨_, rfl⟩
    rw [← hr] at HH h0
    have hr0 : r < 0 := by omega
    clear hs hr h0 hb1
    go_enter Tryz.func94, Tryz.ntmps94
    go_wp2_with (go_at_call 152; refine (HH _).out.mono ?_; rintro e w' ⟨rfl, rfl⟩)
    go_ret3
    exact ⟨by rw [HE.out.1, HE.out.2, HD.out]; rfl, Below.refl _ _⟩
theorem Cut_says (l : List UInt8) (hl : l.length ≤ 1000) (w : World) : Calls Tryz.prog 56 #[.string (str l), .string ⟨#[46]⟩] w fun e w' => e = .returned (.tuple #[.string (str (headL l)), .string (str (tailL l)), .bool (decide (0 ≤ Lib.indexByte l 46))]) ∧ Below w.heap.size w w' := by
  have HH := fun W => hid (liteCut_says l hl W)
  generalize str l = s at *
  generalize str (headL l) = r at *
  generalize str (tailL l) = r2 at *
  generalize decide (0 ≤ Lib.indexByte l 46) = r3 at *
  go_enter Tryz.func56, Tryz.ntmps56
  go_wp2_with (go_at_call 94; refine (HH _).out.mono ?_; rintro e w' ⟨rfl, hb⟩)
  go_ret3
  exact ⟨rfl, hb⟩
theorem u8_eq (x : UInt8) : ((x.toNat : Int) == 95) = (x == 95) := by
  rw [Bool.eq_iff_iff]
  simp only [beq_iff_eq]
  rw [show (95 : Int) = ((95 : UInt8).toNat : Int) from rfl, Int.natCast_inj, UInt8.toNat_inj]
theorem lastIdx_str (l : List UInt8) (k : Nat) (h : k < l.length) : Lib.Pa.lastIdx l 95 (k + 1) = if (l[k] == 95) = true then (k : Int) else Lib.Pa.lastIdx l 95 k := by
  rw [Lib.Pa.lastIdx, List.getElem?_eq_getElem h]
  simp
set_option maxHeartbeats 1000000 in
theorem liteLast_says (l : List UInt8) (hl : l.length ≤ 1000) (w : World) : Calls Tryz.prog 97 #[.string (str l), .int .u8 95] w fun e w' => e = .returned (.int .i64 (Lib.Pa.lastIndexByte l 95)) ∧ w = w' := by
  obtain ⟨s, hs⟩ : ∃ s, s = str l := ⟨_, rfl⟩
  have z1 : s.size = l.length := by rw [hs, str_size]
  have HG : Hid (∀ k (h : k < l.length) (h' : k < s.size), s[k]'h' = l[k]) := fun k h h' => by subst hs; exact str_get l k h h'
  have HL := hid (lastIdx_str l)
  rw [← hs]
  have HV : Hid (Lib.Pa.lastIndexByte l 95 = Lib.Pa.lastIdx l 95 l.length) := rfl
  generalize Lib.Pa.lastIndexByte l 95 = r at *
  obtain ⟨n, hn⟩ : ∃ n, n = l.length := ⟨_, rfl⟩
  rw [← hn] at z1 hl
  have HN := hid hn
  clear hs hn
  go_enter Tryz.func97, Tryz.ntmps97
  go_wp2
  go_loop [5] (fun vi => ∃ k : Nat, k ≤ n ∧ vi = .int .i64 ((k : Int) - 1) ∧ Hid (r = Lib.Pa.lastIdx l 95 k)) (fun vi => (intOf vi + 1).toNat)
  case atStart => exact ⟨n, Nat.le_refl _, rfl, by rw [HN.out]; exact HV⟩
  case round =>
    obtain ⟨k, hk, rfl, HR⟩ := hrel
    cases k with
    | zero =>
      have h0 : (((0 : Nat) : Int) - 1) = -1 := by decide
      rw [h0]
      go_wp2
      go_ret
      exact ⟨by rw [HR.out]; rfl, rfl⟩
    | succ k =>
      have h0 : (((k + 1 : Nat) : Int) - 1) = (k : Int) := by omega
      rw [h0]
      have hkl : k < l.length := by rw [← HN.out]; omega
      have hst := HL.out k hkl
      have hks : k < s.size := by omega
      have hb := HG.out k hkl hks
      have hxx : ((s[k].toNat : Int) == 95) = (l[k] == 95) := by rw [hb]; exact u8_eq _
      cases hc : (l[k] == 95) with
      | true =>
        have hq : ((s[k].toNat : Int) == 95) = true := by rw [hxx, hc]
        have HE := hid (HR.out.trans (hst.trans (if_pos hc)))
        clear hst hb hc hxx
        go_wp2
        go_ret
        exact ⟨by rw [HE.out]; rfl, rfl⟩
      | false =>
        have hq : ((s[k].toNat : Int) == 95) = false := by rw [hxx, hc]
        have HE := hid (HR.out.trans (hst.trans (if_neg (by rw [hc]; decide))))
        clear hst hb hc hxx
        go_wp2
        go_round
        case rel => exact ⟨k, by omega, rfl, HE⟩
        case measure => simp [intOf]
theorem LastIndexByte_says (l : List UInt8) (hl : l.length ≤ 1000) (w : World) : Calls Tryz.prog 60 #[.string (str l), .int .u8 95] w fun e w' => e = .returned (.int .i64 (Lib.Pa.lastIndexByte l 95)) ∧ w = w' := by
  have HH := fun W => hid (liteLast_says l hl W)
  generalize str l = s at *
  generalize Lib.Pa.lastIndexByte l 95 = r at *
  go_enter Tryz.func60, Tryz.ntmps60
  go_wp2_with (go_at_call 97; refine (HH _).out.mono ?_; rintro e w' ⟨rfl, rfl⟩)
  go_ret
  exact ⟨rfl, rfl⟩
end Go.Proofs.YtlhakbkdlgejpaaGreatDoor
