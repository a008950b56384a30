/-
  SEq2, SEql: merged, what the law does not reach left out (each text says what it holds where it lies in wip). No condition.
-/
import Derived.Test.YtjgeedgphcjhoaaGreatU18
import Derived.Test.YtjgeedgphcjhoaaGreatU03
import Derived.Test.YtjgeedgphcjhoaaGreatU01
set_option linter.unusedSimpArgs false
set_option linter.unusedVariables false
set_option maxRecDepth 100000
namespace Go.Proofs.YtjgeedgphcjhoaaGreat
open Go.RowKit
theorem loop_app (bs : ByteArray) : ∀ (n i : Nat) (r : List UInt8),bs.size - i = n → ByteArray.toList.loop bs i r = r.reverse ++ (bs.data.toList.drop i) := by
 intro n
 induction n with
 | zero =>
  intro i r h
  unfold ByteArray.toList.loop
  rw [if_neg (by omega)]
  rw [List.drop_eq_nil_of_le (by simp; have : bs.size = bs.data.size := rfl; omega)]
  simp
 | succ n ih =>
  intro i r h
  unfold ByteArray.toList.loop
  rw [if_pos (by omega),ih (i + 1) _ (by omega)]
  have hl : i < bs.data.toList.length := by simp; have : bs.size = bs.data.size := rfl; omega
  rw [List.drop_eq_getElem_cons hl]
  have hg : bs.get! i = bs.data.toList[i] := by
   show bs.data[i]! = _
   rw [getElem!_pos bs.data i (by simpa using hl)]
   simp
  rw [hg]
  simp
theorem bl_eq (a b : ByteArray) : (a = b) ↔ a.toList = b.toList := by
 constructor
 ·rintro rfl; rfl
 intro h
 unfold ByteArray.toList at h
 rw [loop_app a _ 0 [] rfl,loop_app b _ 0 [] rfl] at h
 cases a; cases b
 simp at h
 rw [h]
theorem bl_t {a b : ByteArray} (h : (a == b) = true) : a.toList = b.toList := (bl_eq a b).1 (eq_of_beq h)
theorem bl_f {a b : ByteArray} (h : (a == b) = false) : ¬ (a.toList = b.toList) := fun e => by rw [(bl_eq a b).2 e,beq_self_eq_true] at h; cases h
end Go.Proofs.YtjgeedgphcjhoaaGreat
namespace Go.Proofs.YtjgeedgphcjhoaaGreat
open Go.RowKit
set_option maxHeartbeats 4000000 in
theorem eql_imp (ay0 : ByteArray) (ay1 : ByteArray) (as2 : Int) (as3 : Int) (as4 : Int) (as5 : Int) (as6 : Int) (ae7 : Bool) (as8 : Int) (as9 : Int) (ae10 : Bool) (as11 : Int) (ae12 : Bool) (by0 : ByteArray) (by1 : ByteArray) (bs2 : Int) (bs3 : Int) (bs4 : Int) (bs5 : Int) (bs6 : Int) (be7 : Bool) (bs8 : Int) (bs9 : Int) (be10 : Bool) (bs11 : Int) (be12 : Bool) (W : World) : Sem.run Tryz.prog (binOp .eql 74 (.agg #[.string ay0,.string ay1,.int .i64 as2,.int .i64 as3,.int .i64 as4,.int .i64 as5,.int .i64 as6,.bool ae7,.int .i64 as8,.int .i64 as9,.bool ae10,.int .i64 as11,.bool ae12]) (.agg #[.string by0,.string by1,.int .i64 bs2,.int .i64 bs3,.int .i64 bs4,.int .i64 bs5,.int .i64 bs6,.bool be7,.int .i64 bs8,.int .i64 bs9,.bool be10,.int .i64 bs11,.bool be12])) W = .ok (.bool ((ay0 == by0) && (ay1 == by1) && (as2 == bs2) && (as3 == bs3) && (as4 == bs4) && (as5 == bs5) && (as6 == bs6) && (ae7 == be7) && (as8 == bs8) && (as9 == bs9) && (ae10 == be10) && (as11 == bs11) && (ae12 == be12))) W := by
 obtain ⟨e0,d0⟩ : ∃ e,(ay0 == by0) = e := ⟨_,rfl⟩
 obtain ⟨e1,d1⟩ : ∃ e,(ay1 == by1) = e := ⟨_,rfl⟩
 obtain ⟨e2,d2⟩ : ∃ e,(as2 == bs2) = e := ⟨_,rfl⟩
 obtain ⟨e3,d3⟩ : ∃ e,(as3 == bs3) = e := ⟨_,rfl⟩
 obtain ⟨e4,d4⟩ : ∃ e,(as4 == bs4) = e := ⟨_,rfl⟩
 obtain ⟨e5,d5⟩ : ∃ e,(as5 == bs5) = e := ⟨_,rfl⟩
 obtain ⟨e6,d6⟩ : ∃ e,(as6 == bs6) = e := ⟨_,rfl⟩
 obtain ⟨e7,d7⟩ : ∃ e,(ae7 == be7) = e := ⟨_,rfl⟩
 obtain ⟨e8,d8⟩ : ∃ e,(as8 == bs8) = e := ⟨_,rfl⟩
 obtain ⟨e9,d9⟩ : ∃ e,(as9 == bs9) = e := ⟨_,rfl⟩
 obtain ⟨e10,d10⟩ : ∃ e,(ae10 == be10) = e := ⟨_,rfl⟩
 obtain ⟨e11,d11⟩ : ∃ e,(as11 == bs11) = e := ⟨_,rfl⟩
 obtain ⟨e12,d12⟩ : ∃ e,(ae12 == be12) = e := ⟨_,rfl⟩
 rw [d0,d1,d2,d3,d4,d5,d6,d7,d8,d9,d10,d11,d12]
 cases e0 with
 | false =>
  have k0 := bl_f d0
  go_simp
 | true =>
  have k0 := bl_t d0
  cases e1 with
  | false =>
   have k1 := bl_f d1
   go_simp
  | true =>
   have k1 := bl_t d1
   cases e2 with
   | false =>
    go_simp
   | true =>
    cases e3 with
    | false =>
     go_simp
    | true =>
     cases e4 with
     | false =>
      go_simp
     | true =>
      cases e5 with
      | false =>
       go_simp
      | true =>
       cases e6 with
       | false =>
        go_simp
       | true =>
        cases e7 with
        | false =>
         go_simp
        | true =>
         cases e8 with
         | false =>
          go_simp
         | true =>
          cases e9 with
          | false =>
           go_simp
          | true =>
           cases e10 with
           | false =>
            go_simp
           | true =>
            cases e11 with
            | false =>
             go_simp
            | true =>
             cases e12 with
             | false =>
              go_simp
             | true =>
              go_simp
set_option maxHeartbeats 4000000 in
theorem eql_tab (as0 : Int) (as1 : Int) (as2 : Int) (ae3 : Bool) (bs0 : Int) (bs1 : Int) (bs2 : Int) (be3 : Bool) (W : World) : Sem.run Tryz.prog (binOp .eql 72 (.agg #[.int .i64 as0,.int .i64 as1,.int .i64 as2,.bool ae3]) (.agg #[.int .i64 bs0,.int .i64 bs1,.int .i64 bs2,.bool be3])) W = .ok (.bool ((as0 == bs0) && (as1 == bs1) && (as2 == bs2) && (ae3 == be3))) W := by
 obtain ⟨e0,d0⟩ : ∃ e,(as0 == bs0) = e := ⟨_,rfl⟩
 obtain ⟨e1,d1⟩ : ∃ e,(as1 == bs1) = e := ⟨_,rfl⟩
 obtain ⟨e2,d2⟩ : ∃ e,(as2 == bs2) = e := ⟨_,rfl⟩
 obtain ⟨e3,d3⟩ : ∃ e,(ae3 == be3) = e := ⟨_,rfl⟩
 rw [d0,d1,d2,d3]
 cases e0 with
 | false =>
  go_simp
 | true =>
  cases e1 with
  | false =>
   go_simp
  | true =>
   cases e2 with
   | false =>
    go_simp
   | true =>
    cases e3 with
    | false =>
     go_simp
    | true =>
     go_simp
set_option maxHeartbeats 4000000 in
theorem eql_lim (as0 : Int) (as1 : Int) (ae2 : Bool) (bs0 : Int) (bs1 : Int) (be2 : Bool) (W : World) : Sem.run Tryz.prog (binOp .eql 70 (.agg #[.int .i64 as0,.int .i64 as1,.bool ae2]) (.agg #[.int .i64 bs0,.int .i64 bs1,.bool be2])) W = .ok (.bool ((as0 == bs0) && (as1 == bs1) && (ae2 == be2))) W := by
 obtain ⟨e0,d0⟩ : ∃ e,(as0 == bs0) = e := ⟨_,rfl⟩
 obtain ⟨e1,d1⟩ : ∃ e,(as1 == bs1) = e := ⟨_,rfl⟩
 obtain ⟨e2,d2⟩ : ∃ e,(ae2 == be2) = e := ⟨_,rfl⟩
 rw [d0,d1,d2]
 cases e0 with
 | false =>
  go_simp
 | true =>
  cases e1 with
  | false =>
   go_simp
  | true =>
   cases e2 with
   | false =>
    go_simp
   | true =>
    go_simp
set_option maxHeartbeats 4000000 in
theorem eql_exp (ay0 : ByteArray) (as1 : Int) (as2 : Int) (by0 : ByteArray) (bs1 : Int) (bs2 : Int) (W : World) : Sem.run Tryz.prog (binOp .eql 76 (.agg #[.string ay0,.int .i64 as1,.int .i64 as2]) (.agg #[.string by0,.int .i64 bs1,.int .i64 bs2])) W = .ok (.bool ((ay0 == by0) && (as1 == bs1) && (as2 == bs2))) W := by
 obtain ⟨e0,d0⟩ : ∃ e,(ay0 == by0) = e := ⟨_,rfl⟩
 obtain ⟨e1,d1⟩ : ∃ e,(as1 == bs1) = e := ⟨_,rfl⟩
 obtain ⟨e2,d2⟩ : ∃ e,(as2 == bs2) = e := ⟨_,rfl⟩
 rw [d0,d1,d2]
 cases e0 with
 | false =>
  have k0 := bl_f d0
  go_simp
 | true =>
  have k0 := bl_t d0
  cases e1 with
  | false =>
   go_simp
  | true =>
   cases e2 with
   | false =>
    go_simp
   | true =>
    go_simp
set_option maxHeartbeats 4000000 in
theorem eql_glo (as0 : Int) (ae1 : Bool) (bs0 : Int) (be1 : Bool) (W : World) : Sem.run Tryz.prog (binOp .eql 44 (.agg #[.int .i64 as0,.bool ae1]) (.agg #[.int .i64 bs0,.bool be1])) W = .ok (.bool ((as0 == bs0) && (ae1 == be1))) W := by
 obtain ⟨e0,d0⟩ : ∃ e,(as0 == bs0) = e := ⟨_,rfl⟩
 obtain ⟨e1,d1⟩ : ∃ e,(ae1 == be1) = e := ⟨_,rfl⟩
 rw [d0,d1]
 cases e0 with
 | false =>
  go_simp
 | true =>
  cases e1 with
  | false =>
   go_simp
  | true =>
   go_simp
end Go.Proofs.YtjgeedgphcjhoaaGreat
