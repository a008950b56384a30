/-
  The contract of isInstr, and of the question that isCode asks. No condition but on how long the list of an instruction is.
-/
import Derived.Test.YteianbgampljeaaGreatIns1
import Derived.Test.YteianbgampljeaaGreatIns2
import Derived.Test.YteianbgampljeaaGreatIns3
import Derived.Test.YteianbgampljeaaGreatIns4
import Derived.Test.YteianbgampljeaaGreatIns5
import Derived.Test.YteianbgampljeaaGreatIns6
set_option linter.unusedSimpArgs false
set_option linter.unusedVariables false
set_option maxRecDepth 100000
namespace Go.Proofs.YteianbgampljeaaGreat
open Go.RowKit

/-- What may stand in an instruction's fields, by the kind of what stands behind it. -/
def okB (k op a b : Int) (n h : Nat) (l : List Int) (ot : Bool) (nb ne : Nat) : Bool :=
  if k = 1 then blB op a b n h ot l.length nb ne
  else if k = 2 ∨ k = 4 ∨ k = 7 ∨ k = 8 ∨ k = 9 ∨ k = 17 ∨ k = 18 ∨ k = 21 then idxB a && unB 0 b n h ot l.length nb ne
  else if k = 3 then (idxB a && l.all idxB) && unB 0 b n h ot 0 nb ne
  else if k = 5 ∨ k = 20 ∨ k = 22 ∨ k = 10 then (idxB a && idxB b) && unB 0 0 n h ot l.length nb ne
  else if k = 6 then l.all valB && unB a b n h ot 0 nb ne
  else if k = 26 then (idxB a && idxB b && ((l.length : Int) == 1) && byteB (l.headD 0)) && unB 0 0 n h ot 0 nb ne
  else if k = 12 ∨ k = 14 then decide ((n : Int) ≤ 4294967295) && unB a b 0 h ot l.length nb ne
  else if k = 13 ∨ k = 15 then unB a b 0 h ot l.length nb ne
  else if k = 23 then unB a b 0 0 ot l.length nb ne
  else if k = 16 then refB a && unB 0 b n h ot l.length nb ne
  else if k = 24 then (((l.length : Int) == 16) && l.all byteB) && unB a b n h ot 0 nb ne
  else if k = 25 then byteB a && unB 0 b n h ot l.length nb ne
  else unB a b n h ot l.length nb ne
noncomputable def insB (op a b : Int) (n h : Nat) (l : List Int) (ot : Bool) (nb ne : Nat) : Bool := knB (lineL op) && okB (lineL op).2.1 op a b n h l ot nb ne

set_option maxHeartbeats 4000000 in
theorem ins_unknown (op : Int) (a b : Int) (n h : Nat) (nl : Nat) (pl pb pe : Option Addr) (cl nb cb ne ce : Nat) (ot : Bool) (w : World)
    (hk : ∀ W, Calls Tryz.prog 134 #[.int .i64 op] W fun e w' => e = .returned (.bool false) ∧ Below W.heap.size W w') :
    Calls Tryz.prog 121 #[.agg #[.int .i64 op, .int .i64 a, .int .i64 b, .int .u64 (n : Nat), .int .u64 (h : Nat), .slice pl nl cl, .slice pb nb cb, .slice pe ne ce, .bool ot]] w fun e w' => e = .returned (.bool false) ∧ Below w.heap.size w w' := by
  have HK := fun W => hid (hk W)
  have HBX := hid ((Below.refl w.heap.size w).alloc (Nat.le_refl _) (.cells #[.int .i64 op, .int .i64 a, .int .i64 b, .int .u64 (n : Nat), .int .u64 (h : Nat), .slice pl nl cl, .slice pb nb cb, .slice pe ne ce, .bool ot] 39))
  clear hk
  go_enter Tryz.func121, Tryz.ntmps121
  go_wp2_with (go_at_call 134; (with_reducible refine (HK _).out.mono ?_); rintro e w1 ⟨rfl, hb1⟩; have HB1 := hid (HBX.out.trans (hb1.mono HBX.out.size)); clear hb1)
  go_ret
  exact ⟨rfl, HB1.out⟩

theorem isInstr_says (op a b : Int) (n h : Nat) (l : List Int) (nl : Nat) (hnl : nl = l.length) (pl pb pe : Option Addr) (cl nb cb ne ce : Nat) (ot : Bool) (B : Nat) (w : World) (hB : B ≤ w.heap.size) (hl : LI B w (.slice pl nl cl) l) (hn : nl < 9223372036854775807) :
    Calls Tryz.prog 121 #[.agg #[.int .i64 op, .int .i64 a, .int .i64 b, .int .u64 (n : Nat), .int .u64 (h : Nat), .slice pl nl cl, .slice pb nb cb, .slice pe ne ce, .bool ot]] w fun e w' => e = .returned (.bool (insB op a b n h l ot nb ne)) ∧ Below w.heap.size w w' := by
  have hK := Known_says op
  have hI := Imm_says op
  obtain ⟨h0, h1, _⟩ := line_ok op
  unfold insB
  generalize knB (lineL op) = kn at *
  generalize (lineL op).2.1 = k at *
  cases kn with
  | false => exact ins_unknown op a b n h nl pl pb pe cl nb cb ne ce ot w hK
  | true =>
    rw [Bool.true_and]
    rcases (show k = 0 ∨ k = 1 ∨ k = 2 ∨ k = 3 ∨ k = 4 ∨ k = 5 ∨ k = 6 ∨ k = 7 ∨ k = 8 ∨ k = 9 ∨ k = 10 ∨ k = 11 ∨ k = 12 ∨ k = 13 ∨ k = 14 ∨ k = 15 ∨ k = 16 ∨ k = 17 ∨ k = 18 ∨ k = 19 ∨ k = 20 ∨ k = 21 ∨ k = 22 ∨ k = 23 ∨ k = 24 ∨ k = 25 ∨ k = 26 by omega) with rfl | rfl | rfl | rfl | rfl | rfl | rfl | rfl | rfl | rfl | rfl | rfl | rfl | rfl | rfl | rfl | rfl | rfl | rfl | rfl | rfl | rfl | rfl | rfl | rfl | rfl | rfl
    · have := ins_0 op a b n h l nl hnl pl pb pe cl nb cb ne ce ot B w hB hl hn hK hI
      rw [hnl] at this ⊢
      exact this
    · have := ins_1 op a b n h nl pl pb pe cl nb cb ne ce ot w hK hI
      rw [hnl] at this ⊢
      exact this
    · have := ins_2 op a b n h l nl hnl pl pb pe cl nb cb ne ce ot B w hB hl hn hK hI
      rw [hnl] at this ⊢
      exact this
    · have := ins_3 op a b n h l nl hnl pl pb pe cl nb cb ne ce ot B w hB hl hn hK hI
      rw [hnl] at this ⊢
      exact this
    · have := ins_4 op a b n h l nl hnl pl pb pe cl nb cb ne ce ot B w hB hl hn hK hI
      rw [hnl] at this ⊢
      exact this
    · have := ins_5 op a b n h l nl hnl pl pb pe cl nb cb ne ce ot B w hB hl hn hK hI
      rw [hnl] at this ⊢
      exact this
    · have := ins_6 op a b n h l nl hnl pl pb pe cl nb cb ne ce ot B w hB hl hn hK hI
      rw [hnl] at this ⊢
      exact this
    · have := ins_7 op a b n h l nl hnl pl pb pe cl nb cb ne ce ot B w hB hl hn hK hI
      rw [hnl] at this ⊢
      exact this
    · have := ins_8 op a b n h l nl hnl pl pb pe cl nb cb ne ce ot B w hB hl hn hK hI
      rw [hnl] at this ⊢
      exact this
    · have := ins_9 op a b n h l nl hnl pl pb pe cl nb cb ne ce ot B w hB hl hn hK hI
      rw [hnl] at this ⊢
      exact this
    · have := ins_10 op a b n h l nl hnl pl pb pe cl nb cb ne ce ot B w hB hl hn hK hI
      rw [hnl] at this ⊢
      exact this
    · have := ins_11 op a b n h l nl hnl pl pb pe cl nb cb ne ce ot B w hB hl hn hK hI
      rw [hnl] at this ⊢
      exact this
    · have := ins_12 op a b n h l nl hnl pl pb pe cl nb cb ne ce ot B w hB hl hn hK hI
      rw [hnl] at this ⊢
      exact this
    · have := ins_13 op a b n h l nl hnl pl pb pe cl nb cb ne ce ot B w hB hl hn hK hI
      rw [hnl] at this ⊢
      exact this
    · have := ins_14 op a b n h l nl hnl pl pb pe cl nb cb ne ce ot B w hB hl hn hK hI
      rw [hnl] at this ⊢
      exact this
    · have := ins_15 op a b n h l nl hnl pl pb pe cl nb cb ne ce ot B w hB hl hn hK hI
      rw [hnl] at this ⊢
      exact this
    · have := ins_16 op a b n h l nl hnl pl pb pe cl nb cb ne ce ot B w hB hl hn hK hI
      rw [hnl] at this ⊢
      exact this
    · have := ins_17 op a b n h l nl hnl pl pb pe cl nb cb ne ce ot B w hB hl hn hK hI
      rw [hnl] at this ⊢
      exact this
    · have := ins_18 op a b n h l nl hnl pl pb pe cl nb cb ne ce ot B w hB hl hn hK hI
      rw [hnl] at this ⊢
      exact this
    · have := ins_19 op a b n h l nl hnl pl pb pe cl nb cb ne ce ot B w hB hl hn hK hI
      rw [hnl] at this ⊢
      exact this
    · have := ins_20 op a b n h l nl hnl pl pb pe cl nb cb ne ce ot B w hB hl hn hK hI
      rw [hnl] at this ⊢
      exact this
    · have := ins_21 op a b n h l nl hnl pl pb pe cl nb cb ne ce ot B w hB hl hn hK hI
      rw [hnl] at this ⊢
      exact this
    · have := ins_22 op a b n h l nl hnl pl pb pe cl nb cb ne ce ot B w hB hl hn hK hI
      rw [hnl] at this ⊢
      exact this
    · have := ins_23 op a b n h l nl hnl pl pb pe cl nb cb ne ce ot B w hB hl hn hK hI
      rw [hnl] at this ⊢
      exact this
    · have := ins_24 op a b n h l nl hnl pl pb pe cl nb cb ne ce ot B w hB hl hn hK hI
      rw [hnl] at this ⊢
      exact this
    · have := ins_25 op a b n h l nl hnl pl pb pe cl nb cb ne ce ot B w hB hl hn hK hI
      rw [hnl] at this ⊢
      exact this
    · have := ins_26 op a b n h l nl hnl pl pb pe cl nb cb ne ce ot B w hB hl hK hI
      rw [hnl] at this ⊢
      exact this
end Go.Proofs.YteianbgampljeaaGreat
