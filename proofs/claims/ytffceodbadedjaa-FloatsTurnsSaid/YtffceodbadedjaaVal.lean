/-
  What a value of 64 bits that the reference works with stands for. No condition but where a theorem says so.
-/
import Derived.Test.YtffceodbadedjaaWiden
set_option linter.unusedSimpArgs false
set_option linter.unusedVariables false
namespace Go.Proofs.Ytffceodbadedjaa
open Ieee

theorem single_bounds {a : Nat} (ha : a < 2 * 2147483648) (h : a % 2147483648 < 2139095040) :
    pm 23 (a % 2147483648) < 9007199254740992 ∧ -1000 ≤ pe 23 (-149) (a % 2147483648) ∧ pe 23 (-149) (a % 2147483648) ≤ 900 := by
  have h1 := pm_lt 23 (a % 2147483648)
  have h2 : pm 23 (a % 2147483648) < 16777216 := h1
  have h3 := pe_eq 23 (-149) (a % 2147483648)
  have h4 : a % 2147483648 / 2 ^ 23 ≤ 255 := by show a % 2147483648 / 8388608 ≤ 255; omega
  generalize a % 2147483648 / 2 ^ 23 = q at *
  omega

/-- A float of 32 bits, as one of 64. -/
def vS (a : Nat) : Nat := double.write (single.read a)

theorem vS_read {a : Nat} (ha : a < 2 * 2147483648) (h : a % 2147483648 ≤ 2139095040) :
    (a % 2147483648 < 2139095040 ∧ double.read (vS a) = wideD (decide (2147483648 ≤ a)) (pm 23 (a % 2147483648)) (pe 23 (-149) (a % 2147483648)) ∧ single.read a = .number (decide (2147483648 ≤ a)) (pm 23 (a % 2147483648)) (pe 23 (-149) (a % 2147483648)) ∨
     a % 2147483648 = 2139095040 ∧ double.read (vS a) = .infinity (decide (2147483648 ≤ a)) ∧ single.read a = .infinity (decide (2147483648 ≤ a))) ∧ vS a < 2 * 9223372036854775808 ∧ vS a % 9223372036854775808 ≤ 9218868437227405312 := by
  have F := fmt_single
  rcases Nat.lt_or_ge (a % 2147483648) 2139095040 with h1 | h1
  · have hb := single_bounds ha h1
    have hr := read_fin F.sb F.fr F.lp ha h1
    have hw := read_write_double (decide (2147483648 ≤ a)) _ _ hb.1 hb.2.1 hb.2.2
    unfold vS
    rw [hr]
    exact ⟨.inl ⟨h1, hw.1, rfl⟩, hw.2.1, by omega⟩
  · have h2 : a % 2147483648 = 2139095040 := by omega
    have hr := read_inf (f := single) F.sb ha F.bi h2
    unfold vS
    rw [hr]
    refine ⟨.inr ⟨h2, ?_, rfl⟩, ?_, ?_⟩
    · cases decide (2147483648 ≤ a) <;> decide +kernel
    · cases decide (2147483648 ≤ a) <;> decide +kernel
    · cases decide (2147483648 ≤ a) <;> decide +kernel

/-- They stand as they did. -/
theorem vS_order {a b : Nat} (ha : a < 2 * 2147483648) (hb : b < 2 * 2147483648) (na : a % 2147483648 ≤ 2139095040) (nb : b % 2147483648 ≤ 2139095040) :
    double.order (vS a) (vS b) = some (compare (rankOf 2147483648 a) (rankOf 2147483648 b)) := by
  rw [← order_word fmt_single ha hb na nb]
  unfold Format.order
  have inf_num : ∀ (s t : Bool) (m : Nat) (e : Int), (Datum.infinity s).order (wideD t m e) = (Datum.infinity s).order (.number t m e) ∧ (wideD t m e).order (Datum.infinity s) = (Datum.number t m e).order (.infinity s) := fun s t m e => by
    unfold wideD; split <;> exact ⟨rfl, rfl⟩
  rcases (vS_read ha na).1 with ⟨x1, x2, x3⟩ | ⟨x1, x2, x3⟩ <;> rcases (vS_read hb nb).1 with ⟨y1, y2, y3⟩ | ⟨y1, y2, y3⟩
  · rw [x2, y2, x3, y3]
    have h1 := single_bounds ha x1
    have h2 := single_bounds hb y1
    exact order_wide _ _ _ _ _ _ h1.2.1 h2.2.1
  · rw [x2, y2, x3, y3]; exact (inf_num _ _ _ _).2
  · rw [x2, y2, x3, y3]; exact (inf_num _ _ _ _).1
  · rw [x2, y2, x3, y3]

/-- What a value of 64 bits stands for: a word of 64 bits, or one of 32. -/
def ValOf (SB INF a v : Nat) : Prop :=
  (INF < a % SB ∧ 9218868437227405312 < v % 9223372036854775808) ∨ (a % SB ≤ INF ∧ v % 9223372036854775808 ≤ 9218868437227405312 ∧ (SB = 2147483648 ∧ INF = 2139095040 ∧ v = vS a ∨ SB = 9223372036854775808 ∧ INF = 9218868437227405312 ∧ v = a))

theorem order_val {SB INF a b v w : Nat} (ha : a < 2 * SB) (hb : b < 2 * SB) (hv : ValOf SB INF a v) (hw : ValOf SB INF b w) :
    double.order v w = if INF < a % SB ∨ INF < b % SB then none else some (compare (rankOf SB a) (rankOf SB b)) := by
  rcases hv with ⟨h1, h2⟩ | ⟨h1, h2, h3⟩
  · rw [if_pos (.inl h1)]
    exact order_nan fmt_double (.inl h2)
  · rcases hw with ⟨g1, g2⟩ | ⟨g1, g2, g3⟩
    · rw [if_pos (.inr g1)]
      exact order_nan fmt_double (.inr g2)
    · rw [if_neg (by omega)]
      rcases h3 with ⟨rfl, rfl, rfl⟩ | ⟨rfl, rfl, rfl⟩
      · rcases g3 with ⟨_, _, rfl⟩ | ⟨h, _, _⟩
        · exact vS_order ha hb h1 g1
        · omega
      · rcases g3 with ⟨h, _, _⟩ | ⟨_, _, rfl⟩
        · omega
        · exact order_word fmt_double ha hb h1 g1

end Go.Proofs.Ytffceodbadedjaa
