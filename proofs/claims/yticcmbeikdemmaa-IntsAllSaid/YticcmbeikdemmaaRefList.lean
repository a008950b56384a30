/-
  The contracts of the document's own list and of: a number's bits in memory, and the number of such bits. Condition: at most 64 bits.
-/
import Derived.Test.YticcmbeikdemmaaRefSmall
import Derived.Test.YticcmbeikdemmaaRows
import Derived.Lib.UnsafeStr
import Derived.Laws.AppendOwnNone
import Derived.OwnWalk
namespace Go.Proofs.Yticcmbeikdemmaa
open Go.RowKit

theorem info22 : (Try.prog.info? 22).map (fun i => (i.zero, i.size, i.bytes)) = some (some (.int .u64 0), 1, 8) := by kernel_rfl

/-- The cells of f 0, .., f (n - 1). -/
def fc (n : Nat) (f : Nat → Nat) : List Value := (List.range n).map fun j => Value.int .u64 (f j : Nat)

theorem fc_length (n : Nat) (f : Nat → Nat) : (fc n f).length = n := by simp [fc]
theorem fc_get {n : Nat} {f : Nat → Nat} {j : Nat} (hj : j < n) : (fc n f)[j]? = some (.int .u64 (f j : Nat)) := by
  simp [fc, hj]
theorem fc_snoc (n : Nat) (f : Nat → Nat) : fc n f ++ [.int .u64 (f n : Nat)] = fc (n + 1) f := by
  simp [fc, List.range_succ]
theorem fc_set (n : Nat) (f : Nat → Nat) (i v : Nat) : (fc n f).set i (.int .u64 (v : Nat)) = fc n (fun j => if j = i then v else f j) := by
  apply List.ext_getElem?
  intro j
  by_cases hj : j < n
  · rw [fc_get hj, List.getElem?_set]
    by_cases hij : i = j
    · subst hij
      simp [fc_length, hj]
    · rw [if_neg hij, fc_get hj]
      have : ¬ j = i := fun h => hij h.symm
      simp [this]
  · simp [fc, hj]
theorem fc_congr {n : Nat} {f g : Nat → Nat} (h : ∀ j, j < n → f j = g j) : fc n f = fc n g := by
  unfold fc
  apply List.map_congr_left
  intro j hj
  rw [h j (by simpa using hj)]
theorem fc_one (n : Nat) (f : Nat → Nat) : ∀ u ∈ fc n f, u.oneCell' = true := by
  intro u hu
  simp only [fc, List.mem_map] at hu
  obtain ⟨j, _, rfl⟩ := hu
  rfl

theorem append_u64 {w : World} {ops : Array Oper} {rest : List Oper} {o : Oper} {a : Act} {Q : Exit → Act → World → Prop} (hgd : o.guard = none) (s x : Operand)
    (ho : o.op = .call { callee := .builtin .append, args := #[s, x], argTypes := #[41, 41] }) (base : Nat) (v : Value) (n : Nat) (xs : List Value) (q : Int)
    (hown : w.ownsRow base 22 1 v n xs) (hbase : base ≤ w.heap.size) (hn : n + 1 ≤ 1000000) (hs : a.eval s = v) (hx : a.eval x = .slice (some ⟨w.heap.size, 0, none⟩) 1 1)
    (h : ∀ v' w', w'.ownsRow base 22 1 v' (n + 1) (xs ++ [.int .u64 q]) → Below base w w' → base ≤ w'.heap.size → wpList Try.prog ops Q rest (a.put o.dst v') w') :
    wpList Try.prog ops Q (o :: rest) a (w.alloc (.cells #[.int .u64 q] 22)) := by
  obtain ⟨i0, hi, hz0, hz1, hz2⟩ := info_parts info22
  have hb1 := (Below.refl base w).alloc hbase (.cells #[.int .u64 q] 22)
  refine wpList_append_own _ hgd s x 41 ho base 22 i0 (.int .u64 0) 1 8 Try.underlying41 hi hz0 hz1 hz2 rfl (by decide) v n xs hs (hown.alloc _) ⟨w.heap.size, 0, none⟩ 1 1 [.int .u64 q] hx rfl (cell_one_new _ _ _)
    (fun u hu => by simp at hu; subst hu; rfl) (by unfold maxLen; omega) (by omega) (by simp; omega) ?_
  intro v' w1 hown' hgrow _
  exact h v' w1 hown' (hb1.grown hgrow (by simp; omega) (fun k hk => (hown.lt k hk).1)) (by have := hgrow.size; simp at this; omega)

theorem owned_at {w : World} {base : Nat} {e : TypeId} {v : Value} {n : Nat} {xs : List Value} (h : w.ownsRow base e 1 v n xs) (hn : 1 ≤ n) : ∃ g cap, v = .slice (some ⟨g, 0, none⟩) n cap := by
  rcases h.2 with ⟨_, h⟩ | ⟨g, cap, _, h, _⟩
  · omega
  · exact ⟨g, cap, h⟩

/-- The j-th bit. -/
def btN (a j : Nat) : Nat := a / 2 ^ j % 2

/-- list: the lowest n bits in new memory. -/
def ListPost (w : World) (n a : Nat) (e : Ending) (w' : World) : Prop := ∃ v', e = .returned v' ∧ w'.ownsRow w.heap.size 22 1 v' n (fc n (btN a)) ∧ Below w.heap.size w w'

set_option maxHeartbeats 800000 in
theorem list_any (n : Nat) (hn : n ≤ 64) (a : Nat) (ha : a < 18446744073709551616) (w : World) :
    Calls Try.prog 35 #[.int .i64 n, .int .u64 a] w (ListPost w n a) := by
  have HA := hid ha
  clear ha
  go_enter Try.func35, Try.ntmps35
  go_wp2
  go_loopw [1, 5, 6] (fun va vl vi wr => ∃ k : Nat, k ≤ n ∧ vi = .int .i64 k ∧ va = .int .u64 ((a / 2 ^ k : Nat) : Int) ∧ wr.ownsRow w.heap.size 22 1 vl k (fc k (btN a)) ∧ Below w.heap.size w wr)
    (fun _ _ vi _ => n - (intOf vi).toNat)
  case atStart => exact ⟨0, Nat.zero_le _, rfl, by simp, by simpa [fc] using World.ownsRow_nil w w.heap.size 22 1, Below.refl _ _⟩
  case round =>
    obtain ⟨k, hk, rfl, rfl, hown, hnx⟩ := hrel
    have hwr := hnx.size
    by_cases hlt : k < n
    · have hd : a / 2 ^ k ≤ a := Nat.div_le_self _ _
      have ha := HA.out
      have hx : a / 2 ^ (k + 1) = a / 2 ^ k / 2 := by rw [Nat.pow_succ, Nat.div_div_eq_div_mul]
      have hb : btN a k = a / 2 ^ k % 2 := rfl
      have hsn := fc_snoc k (btN a)
      rw [hb] at hsn
      obtain ⟨x, hxe⟩ : ∃ x : Nat, x = a / 2 ^ k := ⟨_, rfl⟩
      rw [← hxe] at hd hx hsn ⊢
      have hdiv : (x : Int) / 2 = ((a / 2 ^ (k + 1) : Nat) : Int) := by rw [hx]; simp
      have hww := wrap_nat (show a / 2 ^ (k + 1) < 18446744073709551616 by omega)
      have hr : (x : Int) % 2 = ((x % 2 : Nat) : Int) := by simp
      obtain ⟨y, hy⟩ : ∃ y : Nat, y = a / 2 ^ (k + 1) := ⟨_, rfl⟩
      obtain ⟨r, hre⟩ : ∃ r : Nat, r = x % 2 := ⟨_, rfl⟩
      rw [← hy] at hdiv hww
      rw [← hre] at hr hsn
      have HY := hid hy
      have HS := hid hsn
      have HW := hid hown
      have HX := hid hnx
      clear ha hd hx hb hsn hxe hy hre hown hnx
      go_wp2_with (at_builtin; refine append_u64 rfl _ _ rfl w.heap.size _ _ _ (r : Int) HW.out hwr (by omega) rfl rfl ?_; intro v' w3 hown' hnx3 hsz3)
      go_roundw
      case rel => exact ⟨k + 1, by omega, by go_num, by rw [HY.out], by rw [← HS.out]; exact hown', HX.out.trans hnx3⟩
      case measure => simp [intOf]; omega
    · obtain rfl : k = n := by omega
      have HW := hid hown
      have HX := hid hnx
      clear hown hnx
      go_wp2
      go_ret
      exact ⟨_, rfl, HW.out, HX.out⟩

end Go.Proofs.Yticcmbeikdemmaa
