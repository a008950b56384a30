/-
  LStr, LParse, Types: merged, what the law does not reach left out (each text says what it holds where it lies in wip). No condition.
-/
import Derived.Test.YtlhakbkdlgejpaaGreatDoorH03
import Derived.Test.YtlhakbkdlgejpaaGreatDoorH06
import Derived.Lib.Bytealg
import Derived.RegionTactic
import Derived.Lib.PathFns
import Derived.Test.YtlhakbkdlgejpaaGreatDoorH04
import Derived.Deep.DeepCutAuto
import Derived.Deep.RegionHeld3
set_option linter.unusedSimpArgs false
set_option linter.unusedVariables false
set_option maxRecDepth 100000
namespace Go.Proofs.YtlhakbkdlgejpaaGreatDoor
open Go.RowKit
def hasSuf (l t : List UInt8) : Bool := decide (t.length ≤ l.length) && (l.drop (l.length - t.length) == t)
def trimSuf (l t : List UInt8) : List UInt8 := if hasSuf l t then l.take (l.length - t.length) else l
theorem ext_list (l : List UInt8) (a b : Nat) (h : a ≤ b) : ((str l).extract a b).toList = (l.drop a).take (b - a) := by
  obtain ⟨n, rfl⟩ : ∃ n, b = a + n := ⟨b - a, by omega⟩
  rw [Nat.add_sub_cancel_left]
  exact extract_str l a n
theorem list_str (s : ByteArray) : str s.toList = s := by
  rw [ByteArray.toList_eq]; rfl
theorem ext_str (l : List UInt8) (a b : Nat) (h : a ≤ b) : (str l).extract a b = str ((l.drop a).take (b - a)) := by
  rw [← ext_list l a b h, list_str]
theorem HasSuffix_says (l t : List UInt8) (hl : l.length ≤ 1000) (w : World) : Calls Tryz.prog 153 #[.string (str l), .string (str t)] w fun e w' => e = .returned (.bool (hasSuf l t)) ∧ w = w' := by
  obtain ⟨s, hs⟩ : ∃ s, s = str l := ⟨_, rfl⟩
  obtain ⟨u, hu⟩ : ∃ u, u = str t := ⟨_, rfl⟩
  have z1 : s.size = l.length := by rw [hs, str_size]
  have z2 : u.size = t.length := by rw [hu, str_size]
  have HS := hid hs
  have HU := hid hu
  rw [← hs, ← hu]
  by_cases h : t.length ≤ l.length
  · have hw : wrap64 ((l.length : Int) - (t.length : Int)) = ((l.length - t.length : Nat) : Int) := by unfold wrap64; omega
    have he := ext_list l (l.length - t.length) l.length (by omega)
    rw [← hs, show l.length - (l.length - t.length) = t.length by omega] at he
    have hv : hasSuf l t = ((l.drop (l.length - t.length)).take t.length == u.toList) := by
      unfold hasSuf
      rw [decide_eq_true h, Bool.true_and, hu, str_list, List.take_of_length_le (by rw [List.length_drop]; omega)]
    have HV := hid hv
    obtain ⟨m, hm⟩ : ∃ m, m = l.length - t.length := ⟨_, rfl⟩
    rw [← hm] at hw he
    have hle : t.length ≤ l.length := h
    have hml : m ≤ l.length := by omega
    have hm2 := hid hm
    clear hv hs hu hm
    go_enter Tryz.func153, Tryz.ntmps153
    go_wp2
    go_ret
    rw [HV.out]
    exact ⟨by rw [← hm2.out, ← he]; rfl, rfl⟩
  · have HV := hid (show hasSuf l t = false by unfold hasSuf; rw [decide_eq_false h]; rfl)
    clear hs hu
    go_enter Tryz.func153, Tryz.ntmps153
    go_wp2
    go_ret
    exact ⟨by rw [HV.out]; rfl, rfl⟩
theorem trim_at (l t : List UInt8) (h : hasSuf l t = true) : t.length ≤ l.length := by
  unfold hasSuf at h
  simp only [Bool.and_eq_true, decide_eq_true_eq] at h
  exact h.1
theorem cut_str (l : List UInt8) (m : Nat) : (str l).extract 0 m = str (l.take m) := by
  rw [ext_str l 0 m (Nat.zero_le _), List.drop_zero, Nat.sub_zero]
theorem liteTrim_says (l t : List UInt8) (hl : l.length ≤ 1000) (w : World) : Calls Tryz.prog 95 #[.string (str l), .string (str t)] w fun e w' => e = .returned (.string (str (trimSuf l t))) ∧ w = w' := by
  have HH := fun W => hid (HasSuffix_says l t hl W)
  obtain ⟨s, hs⟩ : ∃ s, s = str l := ⟨_, rfl⟩
  obtain ⟨u, hu⟩ : ∃ u, u = str t := ⟨_, rfl⟩
  have z1 : s.size = l.length := by rw [hs, str_size]
  have z2 : u.size = t.length := by rw [hu, str_size]
  rw [← hs, ← hu] at HH
  rw [← hs, ← hu]
  cases h : hasSuf l t with
  | true =>
    have hle := trim_at l t h
    have HV := hid (show str (trimSuf l t) = s.extract 0 (l.length - t.length) by unfold trimSuf; rw [h, hs, cut_str]; rfl)
    rw [h] at HH
    clear h hs hu
    go_enter Tryz.func95, Tryz.ntmps95
    go_wp2_with (go_at_call 153; refine (HH _).out.mono ?_; rintro e w' ⟨rfl, rfl⟩)
    go_ret
    exact ⟨by rw [HV.out]; rfl, rfl⟩
  | false =>
    have HV := hid (show str (trimSuf l t) = s by unfold trimSuf; rw [h, hs]; rfl)
    rw [h] at HH
    clear h hs hu
    go_enter Tryz.func95, Tryz.ntmps95
    go_wp2_with (go_at_call 153; refine (HH _).out.mono ?_; rintro e w' ⟨rfl, rfl⟩)
    go_ret
    exact ⟨by rw [HV.out]; rfl, rfl⟩
theorem TrimSuffix_says (l t : List UInt8) (hl : l.length ≤ 1000) (w : World) : Calls Tryz.prog 58 #[.string (str l), .string (str t)] w fun e w' => e = .returned (.string (str (trimSuf l t))) ∧ w = w' := by
  have HH := fun W => hid (liteTrim_says l t hl W)
  generalize str l = s at *
  generalize str t = u at *
  generalize str (trimSuf l t) = r at *
  go_enter Tryz.func58, Tryz.ntmps58
  go_wp2_with (go_at_call 95; refine (HH _).out.mono ?_; rintro e w' ⟨rfl, rfl⟩)
  go_ret
  exact ⟨rfl, rfl⟩
theorem liteCutS_says (l t : List UInt8) (hl : l.length ≤ 1000) (w : World) : Calls Tryz.prog 96 #[.string (str l), .string (str t)] w fun e w' => e = .returned (.tuple #[.string (str (trimSuf l t)), .bool (hasSuf l t)]) ∧ w = w' := by
  have HH := fun W => hid (HasSuffix_says l t hl W)
  obtain ⟨s, hs⟩ : ∃ s, s = str l := ⟨_, rfl⟩
  obtain ⟨u, hu⟩ : ∃ u, u = str t := ⟨_, rfl⟩
  have z1 : s.size = l.length := by rw [hs, str_size]
  have z2 : u.size = t.length := by rw [hu, str_size]
  rw [← hs, ← hu] at HH
  rw [← hs, ← hu]
  cases h : hasSuf l t with
  | true =>
    have hle := trim_at l t h
    have HV := hid (show str (trimSuf l t) = s.extract 0 (l.length - t.length) by unfold trimSuf; rw [h, hs, cut_str]; rfl)
    rw [h] at HH
    clear h hs hu
    go_enter Tryz.func96, Tryz.ntmps96
    go_wp2_with (go_at_call 153; refine (HH _).out.mono ?_; rintro e w' ⟨rfl, rfl⟩)
    go_ret2
    exact ⟨by rw [HV.out]; rfl, rfl⟩
  | false =>
    have HV := hid (show str (trimSuf l t) = s by unfold trimSuf; rw [h, hs]; rfl)
    rw [h] at HH
    clear h hs hu
    go_enter Tryz.func96, Tryz.ntmps96
    go_wp2_with (go_at_call 153; refine (HH _).out.mono ?_; rintro e w' ⟨rfl, rfl⟩)
    go_ret2
    exact ⟨by rw [HV.out]; rfl, rfl⟩
theorem CutSuffix_says (l t : List UInt8) (hl : l.length ≤ 1000) (w : World) : Calls Tryz.prog 59 #[.string (str l), .string (str t)] w fun e w' => e = .returned (.tuple #[.string (str (trimSuf l t)), .bool (hasSuf l t)]) ∧ w = w' := by
  have HH := fun W => hid (liteCutS_says l t hl W)
  generalize str l = s at *
  generalize str t = u at *
  generalize str (trimSuf l t) = r at *
  go_enter Tryz.func59, Tryz.ntmps59
  go_wp2_with (go_at_call 96; refine (HH _).out.mono ?_; rintro e w' ⟨rfl, rfl⟩)
  go_ret2
  exact ⟨rfl, rfl⟩
set_option maxHeartbeats 1000000 in
set_option maxRecDepth 100000 in
theorem IndexByte_says (l : List UInt8) (w : World) : Calls Tryz.prog 233 #[.string (str l), .int .u8 46] w fun e w' => e = .returned (.int .i64 (Lib.indexByte l 46)) ∧ w = w' := by
  have hx := Lib.run_indexByteString (P := Tryz.prog) (str l) 46 w
  rw [show (str l).data.toList = l from rfl, show ((46 : Int).toNat.toUInt8) = 46 from rfl] at hx
  generalize str l = s at *
  generalize Lib.indexByte l 46 = r at *
  go_enter Tryz.func233, Tryz.ntmps233
  go_wp2
  rw [run_callFunc_extern Tryz.func266 (by kernel_rfl) (by kernel_rfl) (by kernel_rfl) (e := Extern.BytealgIndexByte.indexByte) (by kernel_rfl), hx]
  simp only [Result.andThen]
  rw [Oper.upon_value]
  go_wp2
  go_ret
  exact ⟨rfl, rfl⟩
set_option maxHeartbeats 1000000 in
set_option maxRecDepth 100000 in
theorem Index_says (l : List UInt8) (w : World) : Calls Tryz.prog 152 #[.string (str l), .string ⟨#[46]⟩] w fun e w' => e = .returned (.int .i64 (Lib.indexByte l 46)) ∧ w = w' := by
  have HH := fun W => hid (IndexByte_says l W)
  obtain ⟨s, hs⟩ : ∃ s, s = str l := ⟨_, rfl⟩
  rw [← hs] at HH ⊢
  cases hq : ([46] == l) with
  | true =>
    have q : ([46] == s.toList) = true := by rw [hs, str_list]; exact hq
    have hv : Hid (Lib.indexByte l 46 = 0) := by
      have : [46] = l := by simpa using hq
      rw [← this]; rfl
    generalize Lib.indexByte l 46 = r at *
    clear hs hq
    go_enter Tryz.func152, Tryz.ntmps152
    go_wp2_with (go_at_call 233; refine (HH _).out.mono ?_; rintro e w' ⟨rfl, rfl⟩)
    go_ret
    first
      | exact ⟨by rw [hv.out]; rfl, rfl⟩
      | first | exact ⟨by rw [hv.out]; rfl, rfl⟩ | exact ⟨by rw [hv.out], rfl⟩
  | false =>
    have q : ([46] == s.toList) = false := by rw [hs, str_list]; exact hq
    generalize Lib.indexByte l 46 = r at *
    clear hs hq
    go_enter Tryz.func152, Tryz.ntmps152
    go_wp2_with (go_at_call 233; refine (HH _).out.mono ?_; rintro e w' ⟨rfl, rfl⟩)
    go_ret
    exact ⟨rfl, rfl⟩
/-- What stands ahead of the first point, and behind it. -/
def headL (l : List UInt8) : List UInt8 := if 0 ≤ Lib.indexByte l 46 then l.take (Lib.indexByte l 46).toNat else l
def tailL (l : List UInt8) : List UInt8 := if 0 ≤ Lib.indexByte l 46 then l.drop ((Lib.indexByte l 46).toNat + 1) else []
theorem indexByte_lt (l : List UInt8) (c : UInt8) : Lib.indexByte l c < l.length := by
  induction l with
  | nil => simp [Lib.indexByte]
  | cons b l ih =>
    unfold Lib.indexByte
    split
    · (simp <;> omega)
    · split
      · (simp <;> omega)
      · (simp <;> omega)
set_option maxHeartbeats 1000000 in
set_option maxRecDepth 100000 in
theorem liteCut_says (l : List UInt8) (hl : l.length ≤ 1000) (w : World) : Calls Tryz.prog 94 #[.string (str l), .string ⟨#[46]⟩] w fun e w' => e = .returned (.tuple #[.string (str (headL l)), .string (str (tailL l)), .bool (decide (0 ≤ Lib.indexByte l 46))]) ∧ Below w.heap.size w w' := by
  have HH := fun W => hid (Index_says l W)
  have hb1 := indexByte_lt l 46
  obtain ⟨s, hs⟩ : ∃ s, s = str l := ⟨_, rfl⟩
  have z1 : s.size = l.length := by rw [hs, str_size]
  rw [← hs] at HH ⊢
  by_cases h0 : 0 ≤ Lib.indexByte l 46
  · obtain ⟨m, hm⟩ : ∃ m : Nat, Lib.indexByte l 46 = (m : Int) := ⟨(Lib.indexByte l 46).toNat, by omega⟩
    have e1 : str (headL l) = s.extract 0 m := by unfold headL; rw [if_pos h0, hm, hs, cut_str]; rfl
    have e2 : str (tailL l) = s.extract (m + 1) l.length := by
      unfold tailL
      rw [if_pos h0, hm, hs, ext_str l _ _ (by omega), List.take_of_length_le (by rw [List.length_drop]; omega)]
      rfl
    have HE := hid (And.intro e1 e2)
    have HD := hid (show decide (0 ≤ Lib.indexByte l 46) = true from decide_eq_true h0)
    rw [hm] at HH
    have hmn : m + 1 ≤ l.length := by omega
    have hw : wrap64 ((m : Int) + 1) = ((m + 1 : Nat) : Int) := by unfold wrap64; omega
    clear hs e1 e2 hm h0 hb1
    go_enter Tryz.func94, Tryz.ntmps94
    go_wp2_with (first | (go_at_call 152; refine (HH _).out.mono ?_; rintro e w' ⟨rfl, rfl⟩))
    go_region
    go_wp2
    go_ret3
    exact ⟨by rw [HE.out.1, HE.out.2, HD.out]; rfl, (Below.refl _ _).drew⟩
  · have HE : Hid (str (headL l) = s ∧ tailL l = []) := by unfold headL tailL; rw [if_neg h0, if_neg h0, hs]; exact ⟨rfl, rfl⟩
    have HD := hid (show decide (0 ≤ Lib.indexByte l 46) = false from decide_eq_false h0)
    obtain ⟨r, hr⟩ : ∃ r, r = Lib.indexByte l 46 := ⟨_, rfl⟩
    rw [← hr] at HH h0
    have hr0 : r < 0 := by omega
    clear hs hr h0 hb1
    go_enter Tryz.func94, Tryz.ntmps94
    go_wp2_with (go_at_call 152; refine (HH _).out.mono ?_; rintro e w' ⟨rfl, rfl⟩)
    go_ret3
    exact ⟨by rw [HE.out.1, HE.out.2, HD.out]; rfl, Below.refl _ _⟩
theorem Cut_says (l : List UInt8) (hl : l.length ≤ 1000) (w : World) : Calls Tryz.prog 56 #[.string (str l), .string ⟨#[46]⟩] w fun e w' => e = .returned (.tuple #[.string (str (headL l)), .string (str (tailL l)), .bool (decide (0 ≤ Lib.indexByte l 46))]) ∧ Below w.heap.size w w' := by
  have HH := fun W => hid (liteCut_says l hl W)
  generalize str l = s at *
  generalize str (headL l) = r at *
  generalize str (tailL l) = r2 at *
  generalize decide (0 ≤ Lib.indexByte l 46) = r3 at *
  go_enter Tryz.func56, Tryz.ntmps56
  go_wp2_with (go_at_call 94; refine (HH _).out.mono ?_; rintro e w' ⟨rfl, hb⟩)
  go_ret3
  exact ⟨rfl, hb⟩
theorem u8_eq (x : UInt8) : ((x.toNat : Int) == 95) = (x == 95) := by
  rw [Bool.eq_iff_iff]
  simp only [beq_iff_eq]
  rw [show (95 : Int) = ((95 : UInt8).toNat : Int) from rfl, Int.natCast_inj, UInt8.toNat_inj]
theorem lastIdx_str (l : List UInt8) (k : Nat) (h : k < l.length) : Lib.Pa.lastIdx l 95 (k + 1) = if (l[k] == 95) = true then (k : Int) else Lib.Pa.lastIdx l 95 k := by
  rw [Lib.Pa.lastIdx, List.getElem?_eq_getElem h]
  simp
set_option maxHeartbeats 1000000 in
theorem liteLast_says (l : List UInt8) (hl : l.length ≤ 1000) (w : World) : Calls Tryz.prog 97 #[.string (str l), .int .u8 95] w fun e w' => e = .returned (.int .i64 (Lib.Pa.lastIndexByte l 95)) ∧ w = w' := by
  obtain ⟨s, hs⟩ : ∃ s, s = str l := ⟨_, rfl⟩
  have z1 : s.size = l.length := by rw [hs, str_size]
  have HG : Hid (∀ k (h : k < l.length) (h' : k < s.size), s[k]'h' = l[k]) := fun k h h' => by subst hs; exact str_get l k h h'
  have HL := hid (lastIdx_str l)
  rw [← hs]
  have HV : Hid (Lib.Pa.lastIndexByte l 95 = Lib.Pa.lastIdx l 95 l.length) := rfl
  generalize Lib.Pa.lastIndexByte l 95 = r at *
  obtain ⟨n, hn⟩ : ∃ n, n = l.length := ⟨_, rfl⟩
  rw [← hn] at z1 hl
  have HN := hid hn
  clear hs hn
  go_enter Tryz.func97, Tryz.ntmps97
  go_wp2
  go_loop [5] (fun vi => ∃ k : Nat, k ≤ n ∧ vi = .int .i64 ((k : Int) - 1) ∧ Hid (r = Lib.Pa.lastIdx l 95 k)) (fun vi => (intOf vi + 1).toNat)
  case atStart => exact ⟨n, Nat.le_refl _, rfl, by rw [HN.out]; exact HV⟩
  case round =>
    obtain ⟨k, hk, rfl, HR⟩ := hrel
    cases k with
    | zero =>
      have h0 : (((0 : Nat) : Int) - 1) = -1 := by decide
      rw [h0]
      go_wp2
      go_ret
      exact ⟨by rw [HR.out]; rfl, rfl⟩
    | succ k =>
      have h0 : (((k + 1 : Nat) : Int) - 1) = (k : Int) := by omega
      rw [h0]
      have hkl : k < l.length := by rw [← HN.out]; omega
      have hst := HL.out k hkl
      have hks : k < s.size := by omega
      have hb := HG.out k hkl hks
      have hxx : ((s[k].toNat : Int) == 95) = (l[k] == 95) := by rw [hb]; exact u8_eq _
      cases hc : (l[k] == 95) with
      | true =>
        have hq : ((s[k].toNat : Int) == 95) = true := by rw [hxx, hc]
        have HE := hid (HR.out.trans (hst.trans (if_pos hc)))
        clear hst hb hc hxx
        go_wp2
        go_ret
        exact ⟨by rw [HE.out]; rfl, rfl⟩
      | false =>
        have hq : ((s[k].toNat : Int) == 95) = false := by rw [hxx, hc]
        have HE := hid (HR.out.trans (hst.trans (if_neg (by rw [hc]; decide))))
        clear hst hb hc hxx
        go_wp2
        go_round
        case rel => exact ⟨k, by omega, rfl, HE⟩
        case measure => simp [intOf]
theorem LastIndexByte_says (l : List UInt8) (hl : l.length ≤ 1000) (w : World) : Calls Tryz.prog 60 #[.string (str l), .int .u8 95] w fun e w' => e = .returned (.int .i64 (Lib.Pa.lastIndexByte l 95)) ∧ w = w' := by
  have HH := fun W => hid (liteLast_says l hl W)
  generalize str l = s at *
  generalize Lib.Pa.lastIndexByte l 95 = r at *
  go_enter Tryz.func60, Tryz.ntmps60
  go_wp2_with (go_at_call 97; refine (HH _).out.mono ?_; rintro e w' ⟨rfl, rfl⟩)
  go_ret
  exact ⟨rfl, rfl⟩
end Go.Proofs.YtlhakbkdlgejpaaGreatDoor
namespace Go.Proofs.YtlhakbkdlgejpaaGreatDoor
open Go.RowKit
/-- The shape of a name. -/
def shL (v : List UInt8) : Bool × Int :=
  if (v == [105, 56, 120, 49, 54]) = true then (false, 8) else
  if (v == [105, 49, 54, 120, 56]) = true then (false, 16) else
  if (v == [105, 51, 50, 120, 52]) = true then (false, 32) else
  if (v == [105, 54, 52, 120, 50]) = true then (false, 64) else
  if (v == [118, 49, 50, 56]) = true then (false, 64) else
  if (v == [102, 51, 50, 120, 52]) = true then (true, 32) else
  if (v == [102, 54, 52, 120, 50]) = true then (true, 64) else (false, 0)
def shV (p : Bool × Int) : Value := .agg #[.bool p.1, .int .i64 p.2]
theorem below_new {W W' : World} {cs : Array Value} {T : TypeId} (hb : Below (W.alloc (.cells cs T)).heap.size (W.alloc (.cells cs T)) W') : CA W.heap.size cs T W' ∧ Below W.heap.size W W' :=
  ⟨(CA.new W cs T).call hb, ((Below.refl _ _).alloc (Nat.le_refl _) _).trans (hb.mono (by simp))⟩
set_option maxHeartbeats 2000000 in
set_option maxRecDepth 100000 in
theorem shapeOf_says (v : List UInt8) (w : World) : Calls Tryz.prog 57 #[.string (str v)] w fun e w' => e = .returned (shV (shL v)) ∧ Below w.heap.size w w' := by
  obtain ⟨s, hs⟩ : ∃ s, s = str v := ⟨_, rfl⟩
  rw [← hs]
  cases h0 : (v == [105, 56, 120, 49, 54]) with
  | true =>
    have q0 : (s.toList == [105, 56, 120, 49, 54]) = true := by rw [hs, str_list]; exact h0
    have hv : Hid (shL v = (false, 8)) := by simp [Hid, shL, h0]
    clear h0 hs
    go_enter Tryz.func57, Tryz.ntmps57
    go_wp2
    exact bodyPost_ret (v := .agg #[.bool false, .int .i64 8]) (by simp [results, Tryz.results57, go_sem]) rfl ⟨by rw [hv.out]; rfl, by first | exact (Below.refl _ _).alloc (Nat.le_refl _) _⟩
  | false =>
    cases h1 : (v == [105, 49, 54, 120, 56]) with
    | true =>
      have q0 : (s.toList == [105, 56, 120, 49, 54]) = false := by rw [hs, str_list]; exact h0
      have q1 : (s.toList == [105, 49, 54, 120, 56]) = true := by rw [hs, str_list]; exact h1
      have hv : Hid (shL v = (false, 16)) := by simp [Hid, shL, h0, h1]
      clear h0 h1 hs
      go_enter Tryz.func57, Tryz.ntmps57
      go_wp2
      exact bodyPost_ret (v := .agg #[.bool false, .int .i64 16]) (by simp [results, Tryz.results57, go_sem]) rfl ⟨by rw [hv.out]; rfl, by first | exact (Below.refl _ _).alloc (Nat.le_refl _) _⟩
    | false =>
      cases h2 : (v == [105, 51, 50, 120, 52]) with
      | true =>
        have q0 : (s.toList == [105, 56, 120, 49, 54]) = false := by rw [hs, str_list]; exact h0
        have q1 : (s.toList == [105, 49, 54, 120, 56]) = false := by rw [hs, str_list]; exact h1
        have q2 : (s.toList == [105, 51, 50, 120, 52]) = true := by rw [hs, str_list]; exact h2
        have hv : Hid (shL v = (false, 32)) := by simp [Hid, shL, h0, h1, h2]
        clear h0 h1 h2 hs
        go_enter Tryz.func57, Tryz.ntmps57
        go_wp2
        exact bodyPost_ret (v := .agg #[.bool false, .int .i64 32]) (by simp [results, Tryz.results57, go_sem]) rfl ⟨by rw [hv.out]; rfl, by first | exact (Below.refl _ _).alloc (Nat.le_refl _) _⟩
      | false =>
        cases h3 : (v == [105, 54, 52, 120, 50]) with
        | true =>
          have q0 : (s.toList == [105, 56, 120, 49, 54]) = false := by rw [hs, str_list]; exact h0
          have q1 : (s.toList == [105, 49, 54, 120, 56]) = false := by rw [hs, str_list]; exact h1
          have q2 : (s.toList == [105, 51, 50, 120, 52]) = false := by rw [hs, str_list]; exact h2
          have q3 : (s.toList == [105, 54, 52, 120, 50]) = true := by rw [hs, str_list]; exact h3
          have hv : Hid (shL v = (false, 64)) := by simp [Hid, shL, h0, h1, h2, h3]
          clear h0 h1 h2 h3 hs
          go_enter Tryz.func57, Tryz.ntmps57
          go_wp2
          exact bodyPost_ret (v := .agg #[.bool false, .int .i64 64]) (by simp [results, Tryz.results57, go_sem]) rfl ⟨by rw [hv.out]; rfl, by first | exact (Below.refl _ _).alloc (Nat.le_refl _) _⟩
        | false =>
          cases h4 : (v == [118, 49, 50, 56]) with
          | true =>
            have q0 : (s.toList == [105, 56, 120, 49, 54]) = false := by rw [hs, str_list]; exact h0
            have q1 : (s.toList == [105, 49, 54, 120, 56]) = false := by rw [hs, str_list]; exact h1
            have q2 : (s.toList == [105, 51, 50, 120, 52]) = false := by rw [hs, str_list]; exact h2
            have q3 : (s.toList == [105, 54, 52, 120, 50]) = false := by rw [hs, str_list]; exact h3
            have q4 : (s.toList == [118, 49, 50, 56]) = true := by rw [hs, str_list]; exact h4
            have hv : Hid (shL v = (false, 64)) := by simp [Hid, shL, h0, h1, h2, h3, h4]
            clear h0 h1 h2 h3 h4 hs
            go_enter Tryz.func57, Tryz.ntmps57
            go_wp2
            exact bodyPost_ret (v := .agg #[.bool false, .int .i64 64]) (by simp [results, Tryz.results57, go_sem]) rfl ⟨by rw [hv.out]; rfl, by first | exact (Below.refl _ _).alloc (Nat.le_refl _) _⟩
          | false =>
            cases h5 : (v == [102, 51, 50, 120, 52]) with
            | true =>
              have q0 : (s.toList == [105, 56, 120, 49, 54]) = false := by rw [hs, str_list]; exact h0
              have q1 : (s.toList == [105, 49, 54, 120, 56]) = false := by rw [hs, str_list]; exact h1
              have q2 : (s.toList == [105, 51, 50, 120, 52]) = false := by rw [hs, str_list]; exact h2
              have q3 : (s.toList == [105, 54, 52, 120, 50]) = false := by rw [hs, str_list]; exact h3
              have q4 : (s.toList == [118, 49, 50, 56]) = false := by rw [hs, str_list]; exact h4
              have q5 : (s.toList == [102, 51, 50, 120, 52]) = true := by rw [hs, str_list]; exact h5
              have hv : Hid (shL v = (true, 32)) := by simp [Hid, shL, h0, h1, h2, h3, h4, h5]
              clear h0 h1 h2 h3 h4 h5 hs
              go_enter Tryz.func57, Tryz.ntmps57
              go_wp2
              exact bodyPost_ret (v := .agg #[.bool true, .int .i64 32]) (by simp [results, Tryz.results57, go_sem]) rfl ⟨by rw [hv.out]; rfl, by first | exact (Below.refl _ _).alloc (Nat.le_refl _) _⟩
            | false =>
              cases h6 : (v == [102, 54, 52, 120, 50]) with
              | true =>
                have q0 : (s.toList == [105, 56, 120, 49, 54]) = false := by rw [hs, str_list]; exact h0
                have q1 : (s.toList == [105, 49, 54, 120, 56]) = false := by rw [hs, str_list]; exact h1
                have q2 : (s.toList == [105, 51, 50, 120, 52]) = false := by rw [hs, str_list]; exact h2
                have q3 : (s.toList == [105, 54, 52, 120, 50]) = false := by rw [hs, str_list]; exact h3
                have q4 : (s.toList == [118, 49, 50, 56]) = false := by rw [hs, str_list]; exact h4
                have q5 : (s.toList == [102, 51, 50, 120, 52]) = false := by rw [hs, str_list]; exact h5
                have q6 : (s.toList == [102, 54, 52, 120, 50]) = true := by rw [hs, str_list]; exact h6
                have hv : Hid (shL v = (true, 64)) := by simp [Hid, shL, h0, h1, h2, h3, h4, h5, h6]
                clear h0 h1 h2 h3 h4 h5 h6 hs
                go_enter Tryz.func57, Tryz.ntmps57
                go_wp2
                exact bodyPost_ret (v := .agg #[.bool true, .int .i64 64]) (by simp [results, Tryz.results57, go_sem]) rfl ⟨by rw [hv.out]; rfl, by first | exact (Below.refl _ _).alloc (Nat.le_refl _) _⟩
              | false =>
                have q0 : (s.toList == [105, 56, 120, 49, 54]) = false := by rw [hs, str_list]; exact h0
                have q1 : (s.toList == [105, 49, 54, 120, 56]) = false := by rw [hs, str_list]; exact h1
                have q2 : (s.toList == [105, 51, 50, 120, 52]) = false := by rw [hs, str_list]; exact h2
                have q3 : (s.toList == [105, 54, 52, 120, 50]) = false := by rw [hs, str_list]; exact h3
                have q4 : (s.toList == [118, 49, 50, 56]) = false := by rw [hs, str_list]; exact h4
                have q5 : (s.toList == [102, 51, 50, 120, 52]) = false := by rw [hs, str_list]; exact h5
                have q6 : (s.toList == [102, 54, 52, 120, 50]) = false := by rw [hs, str_list]; exact h6
                have hv : Hid (shL v = (false, 0)) := by simp [Hid, shL, h0, h1, h2, h3, h4, h5, h6]
                clear h0 h1 h2 h3 h4 h5 h6 hs
                go_enter Tryz.func57, Tryz.ntmps57
                go_wp2
                exact bodyPost_ret (v := .agg #[.bool false, .int .i64 0]) (by simp [results, Tryz.results57, go_sem]) rfl ⟨by rw [hv.out]; rfl, by first | exact (Below.refl _ _).alloc (Nat.le_refl _) _⟩
def v1L (s : List UInt8) : List UInt8 := trimSuf (tailL s) [95, 122, 101, 114, 111]
def sgL (s : List UInt8) : Bool := hasSuf (v1L s) [95, 115]
def v3L (s : List UInt8) : List UInt8 := trimSuf (trimSuf (v1L s) [95, 115]) [95, 117]
def laL6 (s : List UInt8) : Int := Lib.Pa.lastIndexByte (v3L s) 95
def xsL (s : List UInt8) : Bool × Int := shL ((v3L s).drop (laL6 s + 1).toNat)
def toL (s : List UInt8) : Bool × Int := shL (headL s)
def fromL (s : List UInt8) : Bool × Int := if ((xsL s).2 == 0) = true then toL s else xsL s
def verbL (s : List UInt8) : List UInt8 := if ((xsL s).2 == 0) = true then v3L s else (v3L s).take (laL6 s).toNat
def parV (s : List UInt8) : Value := insV (verbL s) (fromL s).1 (fromL s).2 (toL s).1 (toL s).2 (sgL s)
theorem trim_len (l t : List UInt8) : (trimSuf l t).length ≤ l.length := by
  unfold trimSuf
  split
  · rw [List.length_take]; omega
  · exact Nat.le_refl _
theorem tail_len (l : List UInt8) : (tailL l).length ≤ l.length := by unfold tailL; split <;> simp
set_option maxHeartbeats 4000000 in
set_option maxRecDepth 100000 in
theorem parsed_says (n : List UInt8) (hn : n.length ≤ 1000) (hok : ((xsL n).2 == 0) = false → 0 ≤ laL6 n) (w : World) : Calls Tryz.prog 31 #[.string (str n)] w fun e w' => e = .returned (parV n) ∧ Below w.heap.size w w' := by
  have HC := fun W => hid (Cut_says n hn W)
  have HS1 := fun W => hid (shapeOf_says (headL n) W)
  have ht := tail_len n
  have HT1 := fun W => hid (TrimSuffix_says (tailL n) [95, 122, 101, 114, 111] (by omega) W)
  have h1 : (v1L n).length ≤ 1000 := by unfold v1L; have := trim_len (tailL n) [95, 122, 101, 114, 111]; omega
  have HT2 := fun W => hid (CutSuffix_says (v1L n) [95, 115] h1 W)
  have h2 : (trimSuf (v1L n) [95, 115]).length ≤ 1000 := by have := trim_len (v1L n) [95, 115]; omega
  have HT3 := fun W => hid (TrimSuffix_says (trimSuf (v1L n) [95, 115]) [95, 117] h2 W)
  have h3 : (v3L n).length ≤ 1000 := by unfold v3L; have := trim_len (trimSuf (v1L n) [95, 115]) [95, 117]; omega
  have HL := fun W => hid (LastIndexByte_says (v3L n) h3 W)
  have hbd := Lib.Pa.lastIndexByte_bounds (v3L n) 95
  rw [show Lib.Pa.lastIndexByte (v3L n) 95 = laL6 n from rfl] at HL hbd
  obtain ⟨j, hj⟩ : ∃ j, j = (laL6 n + 1).toNat := ⟨_, rfl⟩
  have HS2 := fun W => hid (shapeOf_says ((v3L n).drop (laL6 n + 1).toNat) W)
  have hex : str ((v3L n).drop (laL6 n + 1).toNat) = (str (v3L n)).extract j (v3L n).length := by
    rw [ext_str _ _ _ (by omega), List.take_of_length_le (by rw [List.length_drop]; omega), hj]
  rw [hex] at HS2
  have hix : (laL6 n).toNat ≤ (v3L n).length := by omega
  have hex2 : (str (v3L n)).extract 0 (laL6 n).toNat = str ((v3L n).take (laL6 n).toNat) := cut_str _ _
  have HX2 := hid hex2
  have z1 : (str (v3L n)).size = (v3L n).length := str_size _
  have hw : wrap64 (laL6 n + 1) = (j : Int) := by unfold wrap64; omega
  have hjl : j ≤ (v3L n).length := by omega
  rw [show trimSuf (tailL n) [95, 122, 101, 114, 111] = v1L n from rfl] at HT1
  rw [show hasSuf (v1L n) [95, 115] = sgL n from rfl] at HT2
  rw [show trimSuf (trimSuf (v1L n) [95, 115]) [95, 117] = v3L n from rfl] at HT3
  rw [show shL (headL n) = toL n from rfl] at HS1
  rw [show shL ((v3L n).drop (laL6 n + 1).toNat) = xsL n from rfl] at HS2
  have HV : Hid (parV n = if ((xsL n).2 == 0) = true then .agg #[.string (str (v3L n)), .bool (toL n).1, .int .i64 (toL n).2, .bool (toL n).1, .int .i64 (toL n).2, .bool (sgL n)] else .agg #[.string ((str (v3L n)).extract 0 (laL6 n).toNat), .bool (xsL n).1, .int .i64 (xsL n).2, .bool (toL n).1, .int .i64 (toL n).2, .bool (sgL n)]) := by
    unfold parV insV fromL verbL
    split
    · rfl
    · rw [hex2]; rfl
  rw [show str [95, 122, 101, 114, 111] = ⟨#[95, 122, 101, 114, 111]⟩ from rfl] at HT1
  rw [show str [95, 115] = ⟨#[95, 115]⟩ from rfl] at HT2
  rw [show str [95, 117] = ⟨#[95, 117]⟩ from rfl] at HT3
  generalize parV n = pv at *
  generalize (v3L n).length = m at *
  generalize str (v3L n) = u3 at *
  generalize laL6 n = li at *
  generalize xsL n = xs at *
  generalize toL n = tw at *
  generalize sgL n = sg at *
  generalize str (trimSuf (v1L n) [95, 115]) = u2 at *
  generalize str (v1L n) = u1 at *
  generalize str (tailL n) = u0 at *
  generalize str (headL n) = hd at *
  generalize decide (0 ≤ Lib.indexByte n 46) = fd at *
  generalize str n = s at *
  obtain ⟨xf, xb⟩ := xs
  obtain ⟨tf, tb⟩ := tw
  unfold shV at HS1 HS2
  simp only [] at HS1 HS2 HV hok
  clear hj hex hex2 ht h1 h2 h3
  have HVX := HV
  go_enter Tryz.func31, Tryz.ntmps31
  go_upto_region 9 with (first
    | (go_at_call 56; refine (HC _).out.mono ?_; rintro e w1 ⟨rfl, hb1⟩; have HR1 := hid (below_new hb1); clear hb1)
    | (go_at_call 57; (with_reducible refine (HS1 _).out.mono ?_); rintro e w2 ⟨rfl, hb2⟩; have HR2 := hid (And.intro (HR1.out.1.call hb2) (HR1.out.2.trans (hb2.mono HR1.out.2.size))); clear hb2)
    | (go_at_call 58; (with_reducible refine (HT1 _).out.mono ?_); rintro e w3 ⟨rfl, rfl⟩)
    | (go_at_call 59; (with_reducible refine (HT2 _).out.mono ?_); rintro e w3 ⟨rfl, rfl⟩)
    | (go_at_call 58; (with_reducible refine (HT3 _).out.mono ?_); rintro e w3 ⟨rfl, rfl⟩)
    | (go_at_call 60; (with_reducible refine (HL _).out.mono ?_); rintro e w3 ⟨rfl, rfl⟩)
    | (go_at_call 57; (with_reducible refine (HS2 _).out.mono ?_); rintro e w4 ⟨rfl, hb4⟩; have HN := hid (below_new hb4); clear hb4))
  have hI : CA w2.heap.size _ 50 _ := HN.out.1.alloc (.cells #[.bool xf, .int .i64 xb] 48)
  have hR : CA w.heap.size _ 50 _ := (HR2.out.1.call HN.out.2).alloc (.cells #[.bool xf, .int .i64 xb] 48)
  have hB : Below w.heap.size w _ := (HR2.out.2.trans (HN.out.2.mono HR2.out.2.size)).alloc (HR2.out.2.trans (HN.out.2.mono HR2.out.2.size)).size (.cells #[.bool xf, .int .i64 xb] 48)
  have hX := CA.new w4 #[.bool xf, .int .i64 xb] 48
  have n1 : w.heap.size ≠ w2.heap.size := Nat.ne_of_lt HR2.out.1.lt
  have n2 : w2.heap.size ≠ w4.heap.size := Nat.ne_of_lt HN.out.1.lt
  have n3 : w.heap.size ≠ w4.heap.size := Nat.ne_of_lt (HR2.out.1.call HN.out.2).lt
  have n1' := n1.symm
  have n2' := n2.symm
  have n3' := n3.symm
  have l1 : w.heap.size ≤ w2.heap.size := HR2.out.2.size
  generalize w4.alloc (.cells #[.bool xf, .int .i64 xb] 48) = w5 at *
  generalize w4.heap.size = g8 at *
  generalize w2.heap.size = g6 at *
  have i0 := hI.at (k := 0) rfl
  have i1 := hI.at (k := 1) rfl
  have i2 := hI.at (k := 2) rfl
  have i3 := hI.at (k := 3) rfl
  have i4 := hI.at (k := 4) rfl
  have i5 := hI.at (k := 5) rfl
  have j0 := hI.free 0
  have j1 := hI.free 1
  have j2 := hI.free 2
  have r0 := hR.at (k := 0) rfl
  have r1 := hR.at (k := 1) rfl
  have r2 := hR.at (k := 2) rfl
  have r3 := hR.at (k := 3) rfl
  have r4 := hR.at (k := 4) rfl
  have r5 := hR.at (k := 5) rfl
  have f0 := hR.free 0
  have f1 := hR.free 1
  have f2 := hR.free 2
  have f3 := hR.free 3
  have f4 := hR.free 4
  have f5 := hR.free 5
  have x0 := hX.at (k := 0) rfl
  have x1 := hX.at (k := 1) rfl
  simp only [List.getElem_toArray, List.getElem_cons_zero, List.getElem_cons_succ] at i0 i1 i2 i3 i4 i5 r0 r1 r2 r3 r4 r5 x0 x1
  have HBB := hid hB
  have HXX := hid hX
  have HRR := hid hR
  have HII := hid hI
  clear hI hR hB hX HN HR2 HR1
  cases hxb : (xb == 0) with
  | true =>
    rw [hxb] at HV
    have HV2 := hid (HV.out.trans (if_pos rfl))
    clear HV HVX
    go_wp2
    have hB7 := (((((((HBB.out.setCell (p := ⟨g6, 0, none⟩) l1 (.string u3)).setCell (p := ⟨w.heap.size, 0, none⟩) (Nat.le_refl _) (.string u3)).setCell (p := ⟨w.heap.size, 1, none⟩) (Nat.le_refl _) (.bool tf)).setCell (p := ⟨w.heap.size, 2, none⟩) (Nat.le_refl _) (.int .i64 tb)).setCell (p := ⟨w.heap.size, 3, none⟩) (Nat.le_refl _) (.bool tf)).setCell (p := ⟨w.heap.size, 4, none⟩) (Nat.le_refl _) (.int .i64 tb)).setCell (p := ⟨w.heap.size, 5, none⟩) (Nat.le_refl _) (.bool sg))
    have hF := ((((((HRR.out.far (o := 0) n1' (.string u3)).set (k := 0) (.string u3)).set (k := 1) (.bool tf)).set (k := 2) (.int .i64 tb)).set (k := 3) (.bool tf)).set (k := 4) (.int .i64 tb)).set (k := 5) (.bool sg)
    generalize ((((((w5.setCell ⟨g6, 0, none⟩ (.string u3)).setCell ⟨w.heap.size, 0, none⟩ (.string u3)).setCell ⟨w.heap.size, 1, none⟩ (.bool tf)).setCell ⟨w.heap.size, 2, none⟩ (.int .i64 tb)).setCell ⟨w.heap.size, 3, none⟩ (.bool tf)).setCell ⟨w.heap.size, 4, none⟩ (.int .i64 tb)).setCell ⟨w.heap.size, 5, none⟩ (.bool sg) = wf at *
    have e0 := hF.at (k := 0) (v := .string u3) rfl
    have e1 := hF.at (k := 1) (v := .bool tf) rfl
    have e2 := hF.at (k := 2) (v := .int .i64 tb) rfl
    have e3 := hF.at (k := 3) (v := .bool tf) rfl
    have e4 := hF.at (k := 4) (v := .int .i64 tb) rfl
    have e5 := hF.at (k := 5) (v := .bool sg) rfl
    exact bodyPost_ret (v := .agg #[.string u3, .bool tf, .int .i64 tb, .bool tf, .int .i64 tb, .bool sg]) (by simp [results, Tryz.results31, go_sem, e0, e1, e2, e3, e4, e5]) rfl ⟨by rw [HV2.out], hB7⟩
  | false =>
    rw [hxb] at HV
    have HV2 := hid (HV.out.trans (if_neg (by decide)))
    have hli : 0 ≤ li := hok hxb
    have hne : (xb != 0) = true := by simp [bne, hxb]
    have hlm : ¬ ((m : Int) < li) := by omega
    clear HV HVX hok
    go_upto_region 10 with fail
    have hS : Below w.heap.size w w5.drew ∧ CA g8 #[.bool xf, .int .i64 xb] 48 w5.drew := ⟨HBB.out.drew, HXX.out.drew⟩
    have HJW : CA g6 _ 50 w5.drew ∧ CA w.heap.size _ 50 w5.drew := ⟨HII.out.drew, HRR.out.drew⟩
    clear i0 i1 i2 i3 i4 i5 j0 j1 j2 r0 r1 r2 r3 r4 r5 f0 f1 f2 f3 f4 f5 x0 x1 HBB HXX HRR HII
    refine wp_region_held_drew (S := fun W => Below w.heap.size w W ∧ CA g8 #[.bool xf, .int .i64 xb] 48 W) (by kernel_rfl) hS (fun _ => ?_)
    generalize w5.drew = W at *
    refine wpAnyH_take (oi := ⟨_, _, _, _, _, _⟩) (i := 0) (v := .agg #[.bool xf, .int .i64 xb]) rfl (by kernel_rfl) (by kernel_rfl) (by kernel_rfl) (fun _ _ _ h => h) (Or.inl ⟨by rfl, ?_⟩) (by assumption) ?_
    · (intro W hSw; have x0 := hSw.2.at (k := 0) rfl; have x1 := hSw.2.at (k := 1) rfl; simp only [List.getElem_toArray, List.getElem_cons_zero, List.getElem_cons_succ] at x0 x1; go_simp; try (with_reducible rfl))
    try simp only [Act.put, List.setIfInBounds_toArray, List.set_cons_zero, List.set_cons_succ]
    refine wpAnyH_take (oi := ⟨_, _, _, _, _, _⟩) (i := 1) (v := .string u3) rfl (by kernel_rfl) (by kernel_rfl) (by kernel_rfl) (fun _ _ _ h => h) (Or.inl ⟨by rfl, ?_⟩) (by assumption) ?_
    · (intro W hSw; have x0 := hSw.2.at (k := 0) rfl; have x1 := hSw.2.at (k := 1) rfl; simp only [List.getElem_toArray, List.getElem_cons_zero, List.getElem_cons_succ] at x0 x1; go_simp; try (with_reducible rfl))
    try simp only [Act.put, List.setIfInBounds_toArray, List.set_cons_zero, List.set_cons_succ]
    refine wpAnyH_take (oi := ⟨_, _, _, _, _, _⟩) (i := 2) (v := .int .i64 li) rfl (by kernel_rfl) (by kernel_rfl) (by kernel_rfl) (fun _ _ _ h => h) (Or.inl ⟨by rfl, ?_⟩) (by assumption) ?_
    · (intro W hSw; have x0 := hSw.2.at (k := 0) rfl; have x1 := hSw.2.at (k := 1) rfl; simp only [List.getElem_toArray, List.getElem_cons_zero, List.getElem_cons_succ] at x0 x1; go_simp; try (with_reducible rfl))
    try simp only [Act.put, List.setIfInBounds_toArray, List.set_cons_zero, List.set_cons_succ]
    refine wpAnyH_take (oi := ⟨_, _, _, _, _, _⟩) (i := 3) (v := .string (u3.extract 0 li.toNat)) rfl (by kernel_rfl) (by kernel_rfl) (by kernel_rfl) (fun _ _ _ h => h) (Or.inl ⟨by rfl, ?_⟩) (by assumption) ?_
    · (intro W hSw; have x0 := hSw.2.at (k := 0) rfl; have x1 := hSw.2.at (k := 1) rfl; simp only [List.getElem_toArray, List.getElem_cons_zero, List.getElem_cons_succ] at x0 x1; go_simp; try (with_reducible rfl))
    try simp only [Act.put, List.setIfInBounds_toArray, List.set_cons_zero, List.set_cons_succ]
    refine wpAnyH_take (oi := ⟨_, _, _, _, _, _⟩) (i := 4) (v := .pointer (some ⟨g6, 1, none⟩)) rfl (by kernel_rfl) (by kernel_rfl) (by kernel_rfl) (fun _ _ _ h => h) (Or.inl ⟨by rfl, ?_⟩) (by assumption) ?_
    · (intro W hSw; have x0 := hSw.2.at (k := 0) rfl; have x1 := hSw.2.at (k := 1) rfl; simp only [List.getElem_toArray, List.getElem_cons_zero, List.getElem_cons_succ] at x0 x1; go_simp; try (with_reducible rfl))
    try simp only [Act.put, List.setIfInBounds_toArray, List.set_cons_zero, List.set_cons_succ]
    refine wpAnyH_ready (rs := [5]) (by kernel_rfl) (by simp) ?_
    refine AllReadyH.cons (o := ⟨_, _, _, _, _, _⟩) rfl (fun K hK => ?_) ?_
    · have i1 := HJW.1.at (k := 1) rfl
      have i2 := HJW.1.at (k := 2) rfl
      have j1 := HJW.1.free 1
      have j2 := HJW.1.free 2
      simp only [List.getElem_toArray, List.getElem_cons_zero, List.getElem_cons_succ] at i1 i2
      go_simp
      clear i1 i2 j1 j2
      have hS2 : Below w.heap.size w _ ∧ CA g8 #[.bool xf, .int .i64 xb] 48 _ := ⟨(hS.1.setCell (p := ⟨g6, 1, none⟩) l1 (.bool xf)).setCell (p := ⟨g6, 2, none⟩) l1 (.int .i64 xb), (hS.2.far (o := 1) n2 (.bool xf)).far (o := 2) n2 (.int .i64 xb)⟩
      have HJ2 : CA g6 _ 50 _ ∧ CA w.heap.size _ 50 _ := ⟨(HJW.1.set (k := 1) (.bool xf)).set (k := 2) (.int .i64 xb), (HJW.2.far (o := 1) n1' (.bool xf)).far (o := 2) n1' (.int .i64 xb)⟩
      clear hS HJW
      have hS := hS2
      have HJW := HJ2
      clear hS2 HJ2
      generalize (W.setCell ⟨g6, 1, none⟩ (.bool xf)).setCell ⟨g6, 2, none⟩ (.int .i64 xb) = W1 at *
      refine hK.out _ _ hS (fun _ => ?_)
      clear hK K
      try simp only [Act.put, List.setIfInBounds_toArray, List.set_cons_zero, List.set_cons_succ]
      refine wpAnyH_take (oi := ⟨_, _, _, _, _, _⟩) (i := 6) (v := .string (u3.extract 0 li.toNat)) rfl (by kernel_rfl) (by kernel_rfl) (by kernel_rfl) (fun _ _ _ h => h) (Or.inl ⟨by rfl, ?_⟩) (by assumption) ?_
      · (intro W hSw; have x0 := hSw.2.at (k := 0) rfl; have x1 := hSw.2.at (k := 1) rfl; simp only [List.getElem_toArray, List.getElem_cons_zero, List.getElem_cons_succ] at x0 x1; go_simp; try (with_reducible rfl))
      try simp only [Act.put, List.setIfInBounds_toArray, List.set_cons_zero, List.set_cons_succ]
      refine wpAnyH_done (by kernel_rfl) ?_ _
      have hI := HJW.1
      have hR := HJW.2
      have i0 := hI.at (k := 0) rfl
      have i1 := hI.at (k := 1) rfl
      have i2 := hI.at (k := 2) rfl
      have i3 := hI.at (k := 3) rfl
      have i4 := hI.at (k := 4) rfl
      have i5 := hI.at (k := 5) rfl
      have j0 := hI.free 0
      have r0 := hR.at (k := 0) rfl
      have r1 := hR.at (k := 1) rfl
      have r2 := hR.at (k := 2) rfl
      have r3 := hR.at (k := 3) rfl
      have r4 := hR.at (k := 4) rfl
      have r5 := hR.at (k := 5) rfl
      have f0 := hR.free 0
      have f1 := hR.free 1
      have f2 := hR.free 2
      have f3 := hR.free 3
      have f4 := hR.free 4
      have f5 := hR.free 5
      simp only [List.getElem_toArray, List.getElem_cons_zero, List.getElem_cons_succ, Array.getElem_setIfInBounds, List.setIfInBounds_toArray, List.set_cons_zero, List.set_cons_succ] at i0 i1 i2 i3 i4 i5 r0 r1 r2 r3 r4 r5
      go_wp2_with fail
      have hB7 := (((((((hS.1.setCell (p := ⟨g6, 0, none⟩) l1 (.string (u3.extract 0 li.toNat))).setCell (p := ⟨w.heap.size, 0, none⟩) (Nat.le_refl _) (.string (u3.extract 0 li.toNat))).setCell (p := ⟨w.heap.size, 1, none⟩) (Nat.le_refl _) (.bool xf)).setCell (p := ⟨w.heap.size, 2, none⟩) (Nat.le_refl _) (.int .i64 xb)).setCell (p := ⟨w.heap.size, 3, none⟩) (Nat.le_refl _) (.bool tf)).setCell (p := ⟨w.heap.size, 4, none⟩) (Nat.le_refl _) (.int .i64 tb)).setCell (p := ⟨w.heap.size, 5, none⟩) (Nat.le_refl _) (.bool sg))
      have hF := ((((((HJW.2.far (o := 0) n1' (.string (u3.extract 0 li.toNat))).set (k := 0) (.string (u3.extract 0 li.toNat))).set (k := 1) (.bool xf)).set (k := 2) (.int .i64 xb)).set (k := 3) (.bool tf)).set (k := 4) (.int .i64 tb)).set (k := 5) (.bool sg)
      generalize ((((((W1.setCell ⟨g6, 0, none⟩ (.string (u3.extract 0 li.toNat))).setCell ⟨w.heap.size, 0, none⟩ (.string (u3.extract 0 li.toNat))).setCell ⟨w.heap.size, 1, none⟩ (.bool xf)).setCell ⟨w.heap.size, 2, none⟩ (.int .i64 xb)).setCell ⟨w.heap.size, 3, none⟩ (.bool tf)).setCell ⟨w.heap.size, 4, none⟩ (.int .i64 tb)).setCell ⟨w.heap.size, 5, none⟩ (.bool sg) = wf at *
      have e0 := hF.at (k := 0) (v := .string (u3.extract 0 li.toNat)) rfl
      have e1 := hF.at (k := 1) (v := .bool xf) rfl
      have e2 := hF.at (k := 2) (v := .int .i64 xb) rfl
      have e3 := hF.at (k := 3) (v := .bool tf) rfl
      have e4 := hF.at (k := 4) (v := .int .i64 tb) rfl
      have e5 := hF.at (k := 5) (v := .bool sg) rfl
      exact bodyPost_ret (v := .agg #[.string (u3.extract 0 li.toNat), .bool xf, .int .i64 xb, .bool tf, .int .i64 tb, .bool sg]) (by simp [results, Tryz.results31, go_sem, e0, e1, e2, e3, e4, e5]) rfl ⟨by rw [HV2.out], hB7⟩
    exact AllReadyH.nil
end Go.Proofs.YtlhakbkdlgejpaaGreatDoor
namespace Go.Proofs.YtlhakbkdlgejpaaGreatDoor
open Go.RowKit
/-- The types of a list. -/
def typesL (t : Nat) : List Int := ((glob5.drop (3 * t)).take 3).takeWhile fun z => z != 0
def typesOk (t : Nat) : Bool := decide ((typesL t).length ≤ 3) && ((List.range (typesL t).length).all fun k => (glob5.getD (t * 3 + k) 0 == (typesL t).getD k 0) && ((typesL t).getD k 0 != 0)) &&
  (decide ((typesL t).length = 3) || glob5.getD (t * 3 + (typesL t).length) 0 == 0)
theorem types_all : ((List.range 23).all typesOk) = true := by decide +kernel
theorem types_fact (t : Nat) (h : t < 23) : (typesL t).length ≤ 3 ∧ (∀ k, k < (typesL t).length → glob5.getD (t * 3 + k) 0 = (typesL t).getD k 0 ∧ (typesL t).getD k 0 ≠ 0) ∧ ((typesL t).length = 3 ∨ glob5.getD (t * 3 + (typesL t).length) 0 = 0) := by
  have := List.all_eq_true.1 types_all t (by simpa using h)
  unfold typesOk at this
  simp only [Bool.and_eq_true, Bool.or_eq_true, decide_eq_true_eq, List.all_eq_true, List.mem_range, beq_iff_eq, bne_iff_ne] at this
  exact ⟨this.1.1, this.1.2, this.2⟩
def TyPost (w : World) (l : List Int) (e : Ending) (w' : World) : Prop := ∃ v, e = .returned v ∧ w'.ownsRow w.heap.size 3 1 v l.length (ic l) ∧ Below w.heap.size w w'
def TyRel (w : World) (l : List Int) (k : Nat) (v : Value) (wr : World) : Prop := wr.ownsRow w.heap.size 3 1 v k (ic (l.take k)) ∧ Below w.heap.size w wr
set_option maxHeartbeats 2000000 in
theorem types_says (t : Nat) (ht : t < 23) (w : World) (hg : Glob w) : Calls Tryz.prog 63 #[.int .u8 t] w (TyPost w (typesL t)) := by
  obtain ⟨hl, hat, hend⟩ := types_fact t ht
  obtain ⟨l, hle⟩ : ∃ l, l = typesL t := ⟨_, rfl⟩
  rw [← hle] at hl hat hend ⊢
  clear hle
  have HG := hid hg
  have HA := hid hat
  have HE := hid hend
  clear hg hat hend
  go_enter Tryz.func63, Tryz.ntmps63
  go_wp2
  go_loopw [4, 3] (fun vi vo wr => ∃ k : Nat, k ≤ l.length ∧ vi = .int .i64 k ∧ TyRel w l k vo wr) (fun vi _ _ => 3 - (intOf vi).toNat)
  case atStart => exact ⟨0, by omega, rfl, World.ownsRow_nil w w.heap.size 3 1, Below.refl _ _⟩
  case round =>
    obtain ⟨k, hk, rfl, hrel⟩ := hrel
    have HR := hid hrel
    have HW := hid (HG.out.below hrel.2 HG.out.size)
    have hsz := hrel.2.size
    clear hrel
    by_cases hlt : k < l.length
    · have hk3 : k < 3 := by omega
      obtain ⟨z, hz⟩ : ∃ z, z = l.getD k 0 := ⟨_, rfl⟩
      have hc : wr.cell? ⟨1, t * 3 + k, none⟩ = some (.int .i64 z) := by rw [HW.out.c5 (t * 3 + k) (by omega), (HA.out k hlt).1, hz]
      have hz0 : (z != 0) = true := by have := (HA.out k hlt).2; rw [← hz] at this; simpa using this
      have HZ := hid hz
      clear hz
      have HS := hid (show ic (l.take k) ++ [.int .i64 z] = ic (l.take (k + 1)) by
        rw [List.take_add_one, List.getElem?_eq_getElem hlt]
        have : z = l[k] := by rw [HZ.out]; simp [List.getD_eq_getElem?_getD, hlt]
        simp only [ic, List.map_append, Option.toList, List.map_cons, List.map_nil, this])
      go_wp2_with (at_builtin; refine append_int rfl _ _ rfl w.heap.size _ _ _ z HR.out.1 hsz (by omega) rfl rfl ?_; intro v' w3 hown' hnx3 hsz3)
      go_roundw
      case rel => exact ⟨k + 1, by omega, by go_num, by rw [← HS.out]; exact hown', HR.out.2.trans hnx3⟩
      case measure => simp [intOf]; omega
    · obtain rfl : k = l.length := by omega
      have hfin : wr.ownsRow w.heap.size 3 1 u3 l.length (ic l) := by have := HR.out.1; rwa [List.take_of_length_le (Nat.le_refl _)] at this
      have HF := hid hfin
      clear hfin
      by_cases h3 : l.length < 3
      · have hc : wr.cell? ⟨1, t * 3 + l.length, none⟩ = some (.int .i64 0) := by
          rw [HW.out.c5 (t * 3 + l.length) (by omega)]
          rcases HE.out with h | h
          · omega
          · rw [h]
        go_wp2
        go_ret
        exact ⟨_, rfl, HF.out, HR.out.2⟩
      · go_wp2
        go_ret
        exact ⟨_, rfl, HF.out, HR.out.2⟩
end Go.Proofs.YtlhakbkdlgejpaaGreatDoor
