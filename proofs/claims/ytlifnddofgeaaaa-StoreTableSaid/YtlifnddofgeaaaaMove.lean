/-
  The contracts of store.move, over bytes and over values. Condition: what lies behind both slices.
-/
import Derived.Test.YtlifnddofgeaaaaCopy
set_option linter.unusedSimpArgs false
set_option linter.unusedVariables false
set_option maxRecDepth 100000
namespace Go.Proofs.Ytlifnddofgeaaaa
open Go.RowKit

theorem size5 : (Try.prog.info? 5).map (·.size) = some 1 := by kernel_rfl
theorem size32 : (Try.prog.info? 32).map (·.size) = some 4 := by kernel_rfl
set_option maxHeartbeats 1000000 in
theorem move_b_no (p sp : Option Addr) (N c M sc to_ from_ n : Nat) (hN : N ≤ c) (hc : c < 9223372036854775808) (hM : M ≤ sc) (hsc : sc < 9223372036854775808) (hto : to_ < 18446744073709551616) (hfr : from_ < 18446744073709551616) (hn : n < 18446744073709551616)
    (h : ¬ (to_ + n ≤ N ∧ from_ + n ≤ M)) (w : World) :
    Calls Try.prog 32 #[.slice p N c, .int .u64 to_, .slice sp M sc, .int .u64 from_, .int .u64 n] w fun e w' => e = .returned (.bool false) ∧ w = w' := by
  by_cases h1 : to_ + n ≤ N
  · have h2 : ¬ (from_ + n ≤ M) := fun h2 => h ⟨h1, h2⟩
    have P1 := fun W => hid (part_b_yes p N c to_ n hN hc h1 W)
    have P2 := fun W => hid (part_b_no sp M sc from_ n (by omega) hfr hn h2 W)
    clear h h1 h2
    go_enter Try.func32, Try.ntmps32
    go_wp2_with (first
      | (go_at_call 33; (with_reducible refine (P1 _).out.mono ?_); rintro e w1 ⟨⟨q1, c1, rfl, hq1, hcc1, hz1⟩, rfl⟩)
      | (go_at_call 33; (with_reducible refine (P2 _).out.mono ?_); rintro e w1 ⟨rfl, rfl⟩))
    go_ret
    exact ⟨rfl, rfl⟩
  · have P1 := fun W => hid (part_b_no p N c to_ n (by omega) hto hn h1 W)
    by_cases h2 : from_ + n ≤ M
    · have P2 := fun W => hid (part_b_yes sp M sc from_ n hM hsc h2 W)
      clear h h1 h2
      go_enter Try.func32, Try.ntmps32
      go_wp2_with (first
        | (go_at_call 33; (with_reducible refine (P1 _).out.mono ?_); rintro e w1 ⟨rfl, rfl⟩)
        | (go_at_call 33; (with_reducible refine (P2 _).out.mono ?_); rintro e w1 ⟨⟨q1, c1, rfl, hq1, hcc1, hz1⟩, rfl⟩))
      go_ret
      exact ⟨rfl, rfl⟩
    · have P2 := fun W => hid (part_b_no sp M sc from_ n (by omega) hfr hn h2 W)
      clear h h1 h2
      go_enter Try.func32, Try.ntmps32
      go_wp2_with (first
        | (go_at_call 33; (with_reducible refine (P1 _).out.mono ?_); rintro e w1 ⟨rfl, rfl⟩)
        | (go_at_call 33; (with_reducible refine (P2 _).out.mono ?_); rintro e w1 ⟨rfl, rfl⟩))
      go_ret
      exact ⟨rfl, rfl⟩
set_option maxHeartbeats 1000000 in
theorem move_b_yes (B : Nat) (p sp : Option Addr) (N c M sc to_ from_ n : Nat) (xs ys : List Value) (w : World) (hr : Row B 5 1 p N c xs w) (hs : Src 1 sp M ys w) (hM : M ≤ sc) (hsc : sc < 9223372036854775808)
    (h1 : to_ + n ≤ N) (h2 : from_ + n ≤ M) :
    Calls Try.prog 32 #[.slice p N c, .int .u64 to_, .slice sp M sc, .int .u64 from_, .int .u64 n] w fun e w' => e = .returned (.bool true) ∧ Row B 5 1 p N c (splice xs (to_) (cut ys (from_) (n))) w' ∧ KP (blk p) w w' := by
  have hcc : c < 9223372036854775808 := by have := hr.cap.2; unfold maxLen at this; omega
  have P1 := fun W => hid (part_b_yes p N c to_ n hr.cap.1 hcc h1 W)
  have P2 := fun W => hid (part_b_yes sp M sc from_ n hM hsc h2 W)
  by_cases h0 : n = 0
  · have HR := hid hr
    have H0 := hid h0
    clear hr hs hM hsc h1 h2 hcc h0
    go_enter Try.func32, Try.ntmps32
    go_wp2_with (first
      | (go_at_call 33; (with_reducible refine (P1 _).out.mono ?_); rintro e w1 ⟨⟨q1, c1, rfl, hq1, hcc1, hz1⟩, rfl⟩; clear hz1 hq1 hcc1)
      | (go_at_call 33; (with_reducible refine (P2 _).out.mono ?_); rintro e w1 ⟨⟨q1, c1, rfl, hq1, hcc1, hz1⟩, rfl⟩; clear hz1 hq1 hcc1)
      | (refine wpList_copy_nothingS rfl _ _ 27 27 rfl 5 Try.underlying27 1 size5 _ _ n _ _ H0.out rfl rfl ?_))
    go_ret
    exact ⟨rfl, by rw [H0.out, cut, List.take_zero, splice_nil]; exact HR.out, KP.refl _ _⟩
  · obtain ⟨g, cur, rfl, hB, hca, hcs⟩ := hr.pos (by omega)
    have hxl := hr.own.1
    have hyl := hs.len
    have hcl : (cut ys (from_) (n)).length = n := cut_len (by omega)
    obtain ⟨g2, o2, rfl, hg2, hat⟩ := hs.at_ (by intro e; rw [e] at hyl; simp at hyl; omega)
    have HAT : Hid (∀ j v, (cut ys (from_) (n))[j]? = some v → w.cell? ((⟨g2, o2 + from_, none⟩ : Addr).add j) = some v) := fun j v hj => by
      rw [addr_add, Nat.add_assoc]
      exact hat _ v (cut_at hj)
    have HF : Hid (to_ + (cut ys (from_) (n)).length ≤ cur.size) := by
      have := hr.cap.1
      show _ ≤ _
      rw [hcl, hcs]
      omega
    have HLE : Hid ((cut ys (from_) (n)).length = Nat.min n n * 1) := by
      show _ = _
      rw [hcl, show Nat.min n n = n from Nat.min_self n]; omega
    have HXL : Hid (to_ + (cut ys (from_) (n)).length ≤ xs.length) := by
      show _ ≤ _
      rw [hcl, hxl]
      omega
    have HON : Hid (∀ v ∈ cut ys (from_) (n), v.oneCell' = true) := fun v hv => hs.one v (cut_mem hv)
    obtain ⟨Y, hY⟩ : ∃ Y, Y = cut ys (from_) (n) := ⟨_, rfl⟩
    rw [← hY] at HAT HF HLE HXL HON ⊢
    have HR := hid hr
    have HCA := hid hca
    have HN0 := hid h0
    clear hr hs hM hsc h1 h2 hcc hca hcs hxl hyl hcl hat hg2 hB hY h0
    go_enter Try.func32, Try.ntmps32
    go_wp2_with (first
      | (go_at_call 33; (with_reducible refine (P1 _).out.mono ?_); rintro e w1 ⟨⟨q1, c1, rfl, hq1, hcc1, hz1⟩, rfl⟩; obtain rfl := hz1 HN0.out; clear hz1 hq1 hcc1)
      | (go_at_call 33; (with_reducible refine (P2 _).out.mono ?_); rintro e w1 ⟨⟨q1, c1, rfl, hq1, hcc1, hz1⟩, rfl⟩; obtain rfl := hz1 HN0.out; clear hz1 hq1 hcc1)
      | (refine wpList_copy_ownS rfl _ _ 27 27 rfl 5 Try.underlying27 1 size5 g (to_) n _ ⟨g2, o2 + from_, none⟩ n _ rfl rfl cur 5 HCA.out Y HLE.out HAT.out HF.out HON.out ?_))
    go_ret
    exact ⟨rfl, HR.out.splice HXL.out HON.out (fun cur2 hc2 => by
      have hc3 := HCA.out
      unfold CA at hc3
      rw [hc3] at hc2
      cases hc2
      exact setRow_heap _ _ _ _ _ _ HCA.out), (KP.refl _ _).setRow rfl _⟩
set_option maxHeartbeats 1000000 in
theorem move_v_no (p sp : Option Addr) (N c M sc to_ from_ n : Nat) (hN : N ≤ c) (hc : c < 9223372036854775808) (hM : M ≤ sc) (hsc : sc < 9223372036854775808) (hto : to_ < 18446744073709551616) (hfr : from_ < 18446744073709551616) (hn : n < 18446744073709551616)
    (h : ¬ (to_ + n ≤ N ∧ from_ + n ≤ M)) (w : World) :
    Calls Try.prog 37 #[.slice p N c, .int .u64 to_, .slice sp M sc, .int .u64 from_, .int .u64 n] w fun e w' => e = .returned (.bool false) ∧ w = w' := by
  by_cases h1 : to_ + n ≤ N
  · have h2 : ¬ (from_ + n ≤ M) := fun h2 => h ⟨h1, h2⟩
    have P1 := fun W => hid (part_v_yes p N c to_ n hN hc h1 W)
    have P2 := fun W => hid (part_v_no sp M sc from_ n (by omega) hfr hn h2 W)
    clear h h1 h2
    go_enter Try.func37, Try.ntmps37
    go_wp2_with (first
      | (go_at_call 38; (with_reducible refine (P1 _).out.mono ?_); rintro e w1 ⟨⟨q1, c1, rfl, hq1, hcc1, hz1⟩, rfl⟩)
      | (go_at_call 38; (with_reducible refine (P2 _).out.mono ?_); rintro e w1 ⟨rfl, rfl⟩))
    go_ret
    exact ⟨rfl, rfl⟩
  · have P1 := fun W => hid (part_v_no p N c to_ n (by omega) hto hn h1 W)
    by_cases h2 : from_ + n ≤ M
    · have P2 := fun W => hid (part_v_yes sp M sc from_ n hM hsc h2 W)
      clear h h1 h2
      go_enter Try.func37, Try.ntmps37
      go_wp2_with (first
        | (go_at_call 38; (with_reducible refine (P1 _).out.mono ?_); rintro e w1 ⟨rfl, rfl⟩)
        | (go_at_call 38; (with_reducible refine (P2 _).out.mono ?_); rintro e w1 ⟨⟨q1, c1, rfl, hq1, hcc1, hz1⟩, rfl⟩))
      go_ret
      exact ⟨rfl, rfl⟩
    · have P2 := fun W => hid (part_v_no sp M sc from_ n (by omega) hfr hn h2 W)
      clear h h1 h2
      go_enter Try.func37, Try.ntmps37
      go_wp2_with (first
        | (go_at_call 38; (with_reducible refine (P1 _).out.mono ?_); rintro e w1 ⟨rfl, rfl⟩)
        | (go_at_call 38; (with_reducible refine (P2 _).out.mono ?_); rintro e w1 ⟨rfl, rfl⟩))
      go_ret
      exact ⟨rfl, rfl⟩
set_option maxHeartbeats 1000000 in
theorem move_v_yes (B : Nat) (p sp : Option Addr) (N c M sc to_ from_ n : Nat) (xs ys : List Value) (w : World) (hr : Row B 32 4 p N c xs w) (hs : Src 4 sp M ys w) (hM : M ≤ sc) (hsc : sc < 9223372036854775808)
    (h1 : to_ + n ≤ N) (h2 : from_ + n ≤ M) :
    Calls Try.prog 37 #[.slice p N c, .int .u64 to_, .slice sp M sc, .int .u64 from_, .int .u64 n] w fun e w' => e = .returned (.bool true) ∧ Row B 32 4 p N c (splice xs (to_ * 4) (cut ys (from_ * 4) (n * 4))) w' ∧ KP (blk p) w w' := by
  have hcc : c < 9223372036854775808 := by have := hr.cap.2; unfold maxLen at this; omega
  have P1 := fun W => hid (part_v_yes p N c to_ n hr.cap.1 hcc h1 W)
  have P2 := fun W => hid (part_v_yes sp M sc from_ n hM hsc h2 W)
  by_cases h0 : n = 0
  · have HR := hid hr
    have H0 := hid h0
    clear hr hs hM hsc h1 h2 hcc h0
    go_enter Try.func37, Try.ntmps37
    go_wp2_with (first
      | (go_at_call 38; (with_reducible refine (P1 _).out.mono ?_); rintro e w1 ⟨⟨q1, c1, rfl, hq1, hcc1, hz1⟩, rfl⟩; clear hz1 hq1 hcc1)
      | (go_at_call 38; (with_reducible refine (P2 _).out.mono ?_); rintro e w1 ⟨⟨q1, c1, rfl, hq1, hcc1, hz1⟩, rfl⟩; clear hz1 hq1 hcc1)
      | (refine wpList_copy_nothingS rfl _ _ 49 49 rfl 32 Try.underlying49 4 size32 _ _ n _ _ H0.out rfl rfl ?_))
    go_ret
    exact ⟨rfl, by rw [H0.out, Nat.zero_mul, cut, List.take_zero, splice_nil]; exact HR.out, KP.refl _ _⟩
  · obtain ⟨g, cur, rfl, hB, hca, hcs⟩ := hr.pos (by omega)
    have hxl := hr.own.1
    have hyl := hs.len
    have hcl : (cut ys (from_ * 4) (n * 4)).length = n * 4 := cut_len (by omega)
    obtain ⟨g2, o2, rfl, hg2, hat⟩ := hs.at_ (by intro e; rw [e] at hyl; simp at hyl; omega)
    have HAT : Hid (∀ j v, (cut ys (from_ * 4) (n * 4))[j]? = some v → w.cell? ((⟨g2, o2 + from_ * 4, none⟩ : Addr).add j) = some v) := fun j v hj => by
      rw [addr_add, Nat.add_assoc]
      exact hat _ v (cut_at hj)
    have HF : Hid (to_ * 4 + (cut ys (from_ * 4) (n * 4)).length ≤ cur.size) := by
      have := hr.cap.1
      show _ ≤ _
      rw [hcl, hcs]
      omega
    have HLE : Hid ((cut ys (from_ * 4) (n * 4)).length = Nat.min n n * 4) := by
      show _ = _
      rw [hcl, show Nat.min n n = n from Nat.min_self n]
    have HXL : Hid (to_ * 4 + (cut ys (from_ * 4) (n * 4)).length ≤ xs.length) := by
      show _ ≤ _
      rw [hcl, hxl]
      omega
    have HON : Hid (∀ v ∈ cut ys (from_ * 4) (n * 4), v.oneCell' = true) := fun v hv => hs.one v (cut_mem hv)
    obtain ⟨Y, hY⟩ : ∃ Y, Y = cut ys (from_ * 4) (n * 4) := ⟨_, rfl⟩
    rw [← hY] at HAT HF HLE HXL HON ⊢
    have HR := hid hr
    have HCA := hid hca
    have HN0 := hid h0
    clear hr hs hM hsc h1 h2 hcc hca hcs hxl hyl hcl hat hg2 hB hY h0
    go_enter Try.func37, Try.ntmps37
    go_wp2_with (first
      | (go_at_call 38; (with_reducible refine (P1 _).out.mono ?_); rintro e w1 ⟨⟨q1, c1, rfl, hq1, hcc1, hz1⟩, rfl⟩; obtain rfl := hz1 HN0.out; clear hz1 hq1 hcc1)
      | (go_at_call 38; (with_reducible refine (P2 _).out.mono ?_); rintro e w1 ⟨⟨q1, c1, rfl, hq1, hcc1, hz1⟩, rfl⟩; obtain rfl := hz1 HN0.out; clear hz1 hq1 hcc1)
      | (refine wpList_copy_ownS rfl _ _ 49 49 rfl 32 Try.underlying49 4 size32 g (to_ * 4) n _ ⟨g2, o2 + from_ * 4, none⟩ n _ rfl rfl cur 32 HCA.out Y HLE.out HAT.out HF.out HON.out ?_))
    go_ret
    exact ⟨rfl, HR.out.splice HXL.out HON.out (fun cur2 hc2 => by
      have hc3 := HCA.out
      unfold CA at hc3
      rw [hc3] at hc2
      cases hc2
      exact setRow_heap _ _ _ _ _ _ HCA.out), (KP.refl _ _).setRow rfl _⟩
end Go.Proofs.Ytlifnddofgeaaaa
