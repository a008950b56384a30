/-
  MayG5, MayG, Code, WCode, GVar, Open: merged, what the law does not reach left out (each text says what it holds where it lies in wip). No condition.
-/
import Derived.Test.YtjgeedgphcjhoaaGreatC31
import Derived.Test.YtjgeedgphcjhoaaGreatC09
import Derived.Test.YtjgeedgphcjhoaaGreatC32
import Derived.Test.YtjgeedgphcjhoaaGreatC33
import Derived.Test.YtjgeedgphcjhoaaGreatC24
import Derived.Test.YtjgeedgphcjhoaaGreatC29
import Derived.Test.YtjgeedgphcjhoaaGreatC02
import Derived.Test.YtjgeedgphcjhoaaGreatRows
import Derived.ProofKit
import Derived.OpenShut
import Derived.ChangeArms
import Derived.SizedLaws
set_option linter.unusedSimpArgs false
set_option linter.unusedVariables false
set_option maxRecDepth 100000
namespace Go.Proofs.YtjgeedgphcjhoaaGreat
open Go.RowKit
set_option maxHeartbeats 16000000 in
theorem MayG_10 (tp imp fp tbp mp gp xp ep dp : Option Addr) (tn tc imn imc fn fc tbn tbc mn mc gn gc xn xc en ec dn dc : Nat) (tb imb fb tbb mb gb xb sb eb db qb cnt : Bool) (st : Int) (w : World)
  (ht : ∀ W,Below w.heap.size w W → Calls Tryz.prog 30 #[.slice tp tn tc,.func (.func 31) #[] #[]] W fun e w' => e = .returned (.bool true) ∧ Below W.heap.size W w')
  (him : ∀ W,Below w.heap.size w W → Calls Tryz.prog 32 #[.slice imp imn imc,.func (.func 33) #[] #[]] W fun e w' => e = .returned (.bool true) ∧ Below W.heap.size W w')
  (hf : ∀ W,Below w.heap.size w W → Calls Tryz.prog 34 #[.slice fp fn fc,.func (.func 35) #[] #[]] W fun e w' => e = .returned (.bool true) ∧ Below W.heap.size W w')
  (htb : ∀ W,Below w.heap.size w W → Calls Tryz.prog 36 #[.slice tbp tbn tbc,.func (.func 37) #[] #[]] W fun e w' => e = .returned (.bool true) ∧ Below W.heap.size W w')
  (hm : ∀ W,Below w.heap.size w W → Calls Tryz.prog 38 #[.slice mp mn mc,.func (.func 39) #[] #[]] W fun e w' => e = .returned (.bool true) ∧ Below W.heap.size W w')
  (hg : ∀ W,Below w.heap.size w W → Calls Tryz.prog 40 #[.slice gp gn gc,.func (.func 41) #[] #[]] W fun e w' => e = .returned (.bool true) ∧ Below W.heap.size W w')
  (hx : ∀ W,Below w.heap.size w W → Calls Tryz.prog 42 #[.slice xp xn xc,.func (.func 43) #[] #[]] W fun e w' => e = .returned (.bool true) ∧ Below W.heap.size W w')
  (hs : ∀ W,Calls Tryz.prog 44 #[.int .i64 st] W fun e w' => e = .returned (.bool true) ∧ W = w')
  (he : ∀ W,Below w.heap.size w W → Calls Tryz.prog 45 #[.slice ep en ec,.func (.func 46) #[] #[]] W fun e w' => e = .returned (.bool true) ∧ Below W.heap.size W w')
  (hd : ∀ W,Below w.heap.size w W → Calls Tryz.prog 47 #[.slice dp dn dc,.func (.func 48) #[] #[]] W fun e w' => e = .returned (.bool true) ∧ Below W.heap.size W w')
  (hq : ∀ W,Below w.heap.size w W → Calls Tryz.prog 34 #[.slice fp fn fc,.func (.func 49) #[] #[]] W fun e w' => e = .returned (.bool qb) ∧ Below W.heap.size W w') :
  Calls Tryz.prog 15 #[.agg #[.slice tp tn tc,.slice imp imn imc,.slice fp fn fc,.slice tbp tbn tbc,.slice mp mn mc,.slice gp gn gc,.slice xp xn xc,.int .i64 st,.slice ep en ec,.slice dp dn dc,.bool true]] w fun e w' => e = .returned (.bool true) ∧ Below w.heap.size w w' := by
 have Ht := fun W h => hid (ht W h)
 have Him := fun W h => hid (him W h)
 have Hf := fun W h => hid (hf W h)
 have Htb := fun W h => hid (htb W h)
 have Hm := fun W h => hid (hm W h)
 have Hg := fun W h => hid (hg W h)
 have Hx := fun W h => hid (hx W h)
 have HS := fun W => hid (hs W)
 have He := fun W h => hid (he W h)
 have Hd := fun W h => hid (hd W h)
 have HQ := fun W h => hid (hq W h)
 have HBX := hid ((Below.refl w.heap.size w).alloc (Nat.le_refl _) (.cells #[.slice tp tn tc,.slice imp imn imc,.slice fp fn fc,.slice tbp tbn tbc,.slice mp mn mc,.slice gp gn gc,.slice xp xn xc,.int .i64 st,.slice ep en ec,.slice dp dn dc,.bool true] 32))
 have HX := hid (CA.new w #[.slice tp tn tc,.slice imp imn imc,.slice fp fn fc,.slice tbp tbn tbc,.slice mp mn mc,.slice gp gn gc,.slice xp xn xc,.int .i64 st,.slice ep en ec,.slice dp dn dc,.bool true] 32)
 have x0 := HX.out.at (k := 0) (v := .slice tp tn tc) rfl
 have x1 := HX.out.at (k := 1) (v := .slice imp imn imc) rfl
 have x2 := HX.out.at (k := 2) (v := .slice fp fn fc) rfl
 have x3 := HX.out.at (k := 3) (v := .slice tbp tbn tbc) rfl
 have x4 := HX.out.at (k := 4) (v := .slice mp mn mc) rfl
 have x5 := HX.out.at (k := 5) (v := .slice gp gn gc) rfl
 have x6 := HX.out.at (k := 6) (v := .slice xp xn xc) rfl
 have x7 := HX.out.at (k := 7) (v := .int .i64 st) rfl
 have x8 := HX.out.at (k := 8) (v := .slice ep en ec) rfl
 have x9 := HX.out.at (k := 9) (v := .slice dp dn dc) rfl
 have x10 := HX.out.at (k := 10) (v := .bool true) rfl
 clear ht him hf htb hm hg hx hs he hd hq
 go_enter Tryz.func15,Tryz.ntmps15
 go_wp2_with (first
  | (go_at_call 30; (with_reducible refine (Ht _ HBX.out).out.mono ?_); rintro e w10 ⟨rfl,hb⟩; have HB0 := hid (HBX.out.trans (hb.mono HBX.out.size)); have HX0 := hid (HX.out.below hb HX.out.lt); clear x0 x1 x2 x3 x4 x5 x6 x7 x8 x9 x10; have x0 := HX0.out.at (k := 0) (v := .slice tp tn tc) rfl; have x1 := HX0.out.at (k := 1) (v := .slice imp imn imc) rfl; have x2 := HX0.out.at (k := 2) (v := .slice fp fn fc) rfl; have x3 := HX0.out.at (k := 3) (v := .slice tbp tbn tbc) rfl; have x4 := HX0.out.at (k := 4) (v := .slice mp mn mc) rfl; have x5 := HX0.out.at (k := 5) (v := .slice gp gn gc) rfl; have x6 := HX0.out.at (k := 6) (v := .slice xp xn xc) rfl; have x7 := HX0.out.at (k := 7) (v := .int .i64 st) rfl; have x8 := HX0.out.at (k := 8) (v := .slice ep en ec) rfl; have x9 := HX0.out.at (k := 9) (v := .slice dp dn dc) rfl; have x10 := HX0.out.at (k := 10) (v := .bool true) rfl; clear hb)
  | (go_at_call 32; (with_reducible refine (Him _ HB0.out).out.mono ?_); rintro e w11 ⟨rfl,hb⟩; have HB1 := hid (HB0.out.trans (hb.mono HB0.out.size)); have HX1 := hid (HX0.out.below hb HX0.out.lt); clear x0 x1 x2 x3 x4 x5 x6 x7 x8 x9 x10; have x0 := HX1.out.at (k := 0) (v := .slice tp tn tc) rfl; have x1 := HX1.out.at (k := 1) (v := .slice imp imn imc) rfl; have x2 := HX1.out.at (k := 2) (v := .slice fp fn fc) rfl; have x3 := HX1.out.at (k := 3) (v := .slice tbp tbn tbc) rfl; have x4 := HX1.out.at (k := 4) (v := .slice mp mn mc) rfl; have x5 := HX1.out.at (k := 5) (v := .slice gp gn gc) rfl; have x6 := HX1.out.at (k := 6) (v := .slice xp xn xc) rfl; have x7 := HX1.out.at (k := 7) (v := .int .i64 st) rfl; have x8 := HX1.out.at (k := 8) (v := .slice ep en ec) rfl; have x9 := HX1.out.at (k := 9) (v := .slice dp dn dc) rfl; have x10 := HX1.out.at (k := 10) (v := .bool true) rfl; clear hb)
  | (go_at_call 34; (with_reducible refine (Hf _ HB1.out).out.mono ?_); rintro e w12 ⟨rfl,hb⟩; have HB2 := hid (HB1.out.trans (hb.mono HB1.out.size)); have HX2 := hid (HX1.out.below hb HX1.out.lt); clear x0 x1 x2 x3 x4 x5 x6 x7 x8 x9 x10; have x0 := HX2.out.at (k := 0) (v := .slice tp tn tc) rfl; have x1 := HX2.out.at (k := 1) (v := .slice imp imn imc) rfl; have x2 := HX2.out.at (k := 2) (v := .slice fp fn fc) rfl; have x3 := HX2.out.at (k := 3) (v := .slice tbp tbn tbc) rfl; have x4 := HX2.out.at (k := 4) (v := .slice mp mn mc) rfl; have x5 := HX2.out.at (k := 5) (v := .slice gp gn gc) rfl; have x6 := HX2.out.at (k := 6) (v := .slice xp xn xc) rfl; have x7 := HX2.out.at (k := 7) (v := .int .i64 st) rfl; have x8 := HX2.out.at (k := 8) (v := .slice ep en ec) rfl; have x9 := HX2.out.at (k := 9) (v := .slice dp dn dc) rfl; have x10 := HX2.out.at (k := 10) (v := .bool true) rfl; clear hb)
  | (go_at_call 36; (with_reducible refine (Htb _ HB2.out).out.mono ?_); rintro e w13 ⟨rfl,hb⟩; have HB3 := hid (HB2.out.trans (hb.mono HB2.out.size)); have HX3 := hid (HX2.out.below hb HX2.out.lt); clear x0 x1 x2 x3 x4 x5 x6 x7 x8 x9 x10; have x0 := HX3.out.at (k := 0) (v := .slice tp tn tc) rfl; have x1 := HX3.out.at (k := 1) (v := .slice imp imn imc) rfl; have x2 := HX3.out.at (k := 2) (v := .slice fp fn fc) rfl; have x3 := HX3.out.at (k := 3) (v := .slice tbp tbn tbc) rfl; have x4 := HX3.out.at (k := 4) (v := .slice mp mn mc) rfl; have x5 := HX3.out.at (k := 5) (v := .slice gp gn gc) rfl; have x6 := HX3.out.at (k := 6) (v := .slice xp xn xc) rfl; have x7 := HX3.out.at (k := 7) (v := .int .i64 st) rfl; have x8 := HX3.out.at (k := 8) (v := .slice ep en ec) rfl; have x9 := HX3.out.at (k := 9) (v := .slice dp dn dc) rfl; have x10 := HX3.out.at (k := 10) (v := .bool true) rfl; clear hb)
  | (go_at_call 38; (with_reducible refine (Hm _ HB3.out).out.mono ?_); rintro e w14 ⟨rfl,hb⟩; have HB4 := hid (HB3.out.trans (hb.mono HB3.out.size)); have HX4 := hid (HX3.out.below hb HX3.out.lt); clear x0 x1 x2 x3 x4 x5 x6 x7 x8 x9 x10; have x0 := HX4.out.at (k := 0) (v := .slice tp tn tc) rfl; have x1 := HX4.out.at (k := 1) (v := .slice imp imn imc) rfl; have x2 := HX4.out.at (k := 2) (v := .slice fp fn fc) rfl; have x3 := HX4.out.at (k := 3) (v := .slice tbp tbn tbc) rfl; have x4 := HX4.out.at (k := 4) (v := .slice mp mn mc) rfl; have x5 := HX4.out.at (k := 5) (v := .slice gp gn gc) rfl; have x6 := HX4.out.at (k := 6) (v := .slice xp xn xc) rfl; have x7 := HX4.out.at (k := 7) (v := .int .i64 st) rfl; have x8 := HX4.out.at (k := 8) (v := .slice ep en ec) rfl; have x9 := HX4.out.at (k := 9) (v := .slice dp dn dc) rfl; have x10 := HX4.out.at (k := 10) (v := .bool true) rfl; clear hb)
  | (go_at_call 40; (with_reducible refine (Hg _ HB4.out).out.mono ?_); rintro e w15 ⟨rfl,hb⟩; have HB5 := hid (HB4.out.trans (hb.mono HB4.out.size)); have HX5 := hid (HX4.out.below hb HX4.out.lt); clear x0 x1 x2 x3 x4 x5 x6 x7 x8 x9 x10; have x0 := HX5.out.at (k := 0) (v := .slice tp tn tc) rfl; have x1 := HX5.out.at (k := 1) (v := .slice imp imn imc) rfl; have x2 := HX5.out.at (k := 2) (v := .slice fp fn fc) rfl; have x3 := HX5.out.at (k := 3) (v := .slice tbp tbn tbc) rfl; have x4 := HX5.out.at (k := 4) (v := .slice mp mn mc) rfl; have x5 := HX5.out.at (k := 5) (v := .slice gp gn gc) rfl; have x6 := HX5.out.at (k := 6) (v := .slice xp xn xc) rfl; have x7 := HX5.out.at (k := 7) (v := .int .i64 st) rfl; have x8 := HX5.out.at (k := 8) (v := .slice ep en ec) rfl; have x9 := HX5.out.at (k := 9) (v := .slice dp dn dc) rfl; have x10 := HX5.out.at (k := 10) (v := .bool true) rfl; clear hb)
  | (go_at_call 42; (with_reducible refine (Hx _ HB5.out).out.mono ?_); rintro e w16 ⟨rfl,hb⟩; have HB6 := hid (HB5.out.trans (hb.mono HB5.out.size)); have HX6 := hid (HX5.out.below hb HX5.out.lt); clear x0 x1 x2 x3 x4 x5 x6 x7 x8 x9 x10; have x0 := HX6.out.at (k := 0) (v := .slice tp tn tc) rfl; have x1 := HX6.out.at (k := 1) (v := .slice imp imn imc) rfl; have x2 := HX6.out.at (k := 2) (v := .slice fp fn fc) rfl; have x3 := HX6.out.at (k := 3) (v := .slice tbp tbn tbc) rfl; have x4 := HX6.out.at (k := 4) (v := .slice mp mn mc) rfl; have x5 := HX6.out.at (k := 5) (v := .slice gp gn gc) rfl; have x6 := HX6.out.at (k := 6) (v := .slice xp xn xc) rfl; have x7 := HX6.out.at (k := 7) (v := .int .i64 st) rfl; have x8 := HX6.out.at (k := 8) (v := .slice ep en ec) rfl; have x9 := HX6.out.at (k := 9) (v := .slice dp dn dc) rfl; have x10 := HX6.out.at (k := 10) (v := .bool true) rfl; clear hb)
  | (go_at_call 44; (with_reducible refine (HS _).out.mono ?_); rintro e w5 ⟨rfl,rfl⟩)
  | (go_at_call 45; (with_reducible refine (He _ HB6.out).out.mono ?_); rintro e w18 ⟨rfl,hb⟩; have HB8 := hid (HB6.out.trans (hb.mono HB6.out.size)); have HX8 := hid (HX6.out.below hb HX6.out.lt); clear x0 x1 x2 x3 x4 x5 x6 x7 x8 x9 x10; have x0 := HX8.out.at (k := 0) (v := .slice tp tn tc) rfl; have x1 := HX8.out.at (k := 1) (v := .slice imp imn imc) rfl; have x2 := HX8.out.at (k := 2) (v := .slice fp fn fc) rfl; have x3 := HX8.out.at (k := 3) (v := .slice tbp tbn tbc) rfl; have x4 := HX8.out.at (k := 4) (v := .slice mp mn mc) rfl; have x5 := HX8.out.at (k := 5) (v := .slice gp gn gc) rfl; have x6 := HX8.out.at (k := 6) (v := .slice xp xn xc) rfl; have x7 := HX8.out.at (k := 7) (v := .int .i64 st) rfl; have x8 := HX8.out.at (k := 8) (v := .slice ep en ec) rfl; have x9 := HX8.out.at (k := 9) (v := .slice dp dn dc) rfl; have x10 := HX8.out.at (k := 10) (v := .bool true) rfl; clear hb)
  | (go_at_call 47; (with_reducible refine (Hd _ HB8.out).out.mono ?_); rintro e w19 ⟨rfl,hb⟩; have HB9 := hid (HB8.out.trans (hb.mono HB8.out.size)); have HX9 := hid (HX8.out.below hb HX8.out.lt); clear x0 x1 x2 x3 x4 x5 x6 x7 x8 x9 x10; have x0 := HX9.out.at (k := 0) (v := .slice tp tn tc) rfl; have x1 := HX9.out.at (k := 1) (v := .slice imp imn imc) rfl; have x2 := HX9.out.at (k := 2) (v := .slice fp fn fc) rfl; have x3 := HX9.out.at (k := 3) (v := .slice tbp tbn tbc) rfl; have x4 := HX9.out.at (k := 4) (v := .slice mp mn mc) rfl; have x5 := HX9.out.at (k := 5) (v := .slice gp gn gc) rfl; have x6 := HX9.out.at (k := 6) (v := .slice xp xn xc) rfl; have x7 := HX9.out.at (k := 7) (v := .int .i64 st) rfl; have x8 := HX9.out.at (k := 8) (v := .slice ep en ec) rfl; have x9 := HX9.out.at (k := 9) (v := .slice dp dn dc) rfl; have x10 := HX9.out.at (k := 10) (v := .bool true) rfl; clear hb))
 go_ret
 exact ⟨rfl,HB9.out⟩
set_option maxHeartbeats 16000000 in
theorem MayG_11 (tp imp fp tbp mp gp xp ep dp : Option Addr) (tn tc imn imc fn fc tbn tbc mn mc gn gc xn xc en ec dn dc : Nat) (tb imb fb tbb mb gb xb sb eb db qb cnt : Bool) (st : Int) (w : World)
  (ht : ∀ W,Below w.heap.size w W → Calls Tryz.prog 30 #[.slice tp tn tc,.func (.func 31) #[] #[]] W fun e w' => e = .returned (.bool true) ∧ Below W.heap.size W w')
  (him : ∀ W,Below w.heap.size w W → Calls Tryz.prog 32 #[.slice imp imn imc,.func (.func 33) #[] #[]] W fun e w' => e = .returned (.bool true) ∧ Below W.heap.size W w')
  (hf : ∀ W,Below w.heap.size w W → Calls Tryz.prog 34 #[.slice fp fn fc,.func (.func 35) #[] #[]] W fun e w' => e = .returned (.bool true) ∧ Below W.heap.size W w')
  (htb : ∀ W,Below w.heap.size w W → Calls Tryz.prog 36 #[.slice tbp tbn tbc,.func (.func 37) #[] #[]] W fun e w' => e = .returned (.bool true) ∧ Below W.heap.size W w')
  (hm : ∀ W,Below w.heap.size w W → Calls Tryz.prog 38 #[.slice mp mn mc,.func (.func 39) #[] #[]] W fun e w' => e = .returned (.bool true) ∧ Below W.heap.size W w')
  (hg : ∀ W,Below w.heap.size w W → Calls Tryz.prog 40 #[.slice gp gn gc,.func (.func 41) #[] #[]] W fun e w' => e = .returned (.bool true) ∧ Below W.heap.size W w')
  (hx : ∀ W,Below w.heap.size w W → Calls Tryz.prog 42 #[.slice xp xn xc,.func (.func 43) #[] #[]] W fun e w' => e = .returned (.bool true) ∧ Below W.heap.size W w')
  (hs : ∀ W,Calls Tryz.prog 44 #[.int .i64 st] W fun e w' => e = .returned (.bool true) ∧ W = w')
  (he : ∀ W,Below w.heap.size w W → Calls Tryz.prog 45 #[.slice ep en ec,.func (.func 46) #[] #[]] W fun e w' => e = .returned (.bool true) ∧ Below W.heap.size W w')
  (hd : ∀ W,Below w.heap.size w W → Calls Tryz.prog 47 #[.slice dp dn dc,.func (.func 48) #[] #[]] W fun e w' => e = .returned (.bool true) ∧ Below W.heap.size W w')
  (hq : ∀ W,Below w.heap.size w W → Calls Tryz.prog 34 #[.slice fp fn fc,.func (.func 49) #[] #[]] W fun e w' => e = .returned (.bool qb) ∧ Below W.heap.size W w') :
  Calls Tryz.prog 15 #[.agg #[.slice tp tn tc,.slice imp imn imc,.slice fp fn fc,.slice tbp tbn tbc,.slice mp mn mc,.slice gp gn gc,.slice xp xn xc,.int .i64 st,.slice ep en ec,.slice dp dn dc,.bool false]] w fun e w' => e = .returned (.bool qb) ∧ Below w.heap.size w w' := by
 have Ht := fun W h => hid (ht W h)
 have Him := fun W h => hid (him W h)
 have Hf := fun W h => hid (hf W h)
 have Htb := fun W h => hid (htb W h)
 have Hm := fun W h => hid (hm W h)
 have Hg := fun W h => hid (hg W h)
 have Hx := fun W h => hid (hx W h)
 have HS := fun W => hid (hs W)
 have He := fun W h => hid (he W h)
 have Hd := fun W h => hid (hd W h)
 have HQ := fun W h => hid (hq W h)
 have HBX := hid ((Below.refl w.heap.size w).alloc (Nat.le_refl _) (.cells #[.slice tp tn tc,.slice imp imn imc,.slice fp fn fc,.slice tbp tbn tbc,.slice mp mn mc,.slice gp gn gc,.slice xp xn xc,.int .i64 st,.slice ep en ec,.slice dp dn dc,.bool false] 32))
 have HX := hid (CA.new w #[.slice tp tn tc,.slice imp imn imc,.slice fp fn fc,.slice tbp tbn tbc,.slice mp mn mc,.slice gp gn gc,.slice xp xn xc,.int .i64 st,.slice ep en ec,.slice dp dn dc,.bool false] 32)
 have x0 := HX.out.at (k := 0) (v := .slice tp tn tc) rfl
 have x1 := HX.out.at (k := 1) (v := .slice imp imn imc) rfl
 have x2 := HX.out.at (k := 2) (v := .slice fp fn fc) rfl
 have x3 := HX.out.at (k := 3) (v := .slice tbp tbn tbc) rfl
 have x4 := HX.out.at (k := 4) (v := .slice mp mn mc) rfl
 have x5 := HX.out.at (k := 5) (v := .slice gp gn gc) rfl
 have x6 := HX.out.at (k := 6) (v := .slice xp xn xc) rfl
 have x7 := HX.out.at (k := 7) (v := .int .i64 st) rfl
 have x8 := HX.out.at (k := 8) (v := .slice ep en ec) rfl
 have x9 := HX.out.at (k := 9) (v := .slice dp dn dc) rfl
 have x10 := HX.out.at (k := 10) (v := .bool false) rfl
 clear ht him hf htb hm hg hx hs he hd hq
 go_enter Tryz.func15,Tryz.ntmps15
 go_wp2_with (first
  | (go_at_call 30; (with_reducible refine (Ht _ HBX.out).out.mono ?_); rintro e w10 ⟨rfl,hb⟩; have HB0 := hid (HBX.out.trans (hb.mono HBX.out.size)); have HX0 := hid (HX.out.below hb HX.out.lt); clear x0 x1 x2 x3 x4 x5 x6 x7 x8 x9 x10; have x0 := HX0.out.at (k := 0) (v := .slice tp tn tc) rfl; have x1 := HX0.out.at (k := 1) (v := .slice imp imn imc) rfl; have x2 := HX0.out.at (k := 2) (v := .slice fp fn fc) rfl; have x3 := HX0.out.at (k := 3) (v := .slice tbp tbn tbc) rfl; have x4 := HX0.out.at (k := 4) (v := .slice mp mn mc) rfl; have x5 := HX0.out.at (k := 5) (v := .slice gp gn gc) rfl; have x6 := HX0.out.at (k := 6) (v := .slice xp xn xc) rfl; have x7 := HX0.out.at (k := 7) (v := .int .i64 st) rfl; have x8 := HX0.out.at (k := 8) (v := .slice ep en ec) rfl; have x9 := HX0.out.at (k := 9) (v := .slice dp dn dc) rfl; have x10 := HX0.out.at (k := 10) (v := .bool false) rfl; clear hb)
  | (go_at_call 32; (with_reducible refine (Him _ HB0.out).out.mono ?_); rintro e w11 ⟨rfl,hb⟩; have HB1 := hid (HB0.out.trans (hb.mono HB0.out.size)); have HX1 := hid (HX0.out.below hb HX0.out.lt); clear x0 x1 x2 x3 x4 x5 x6 x7 x8 x9 x10; have x0 := HX1.out.at (k := 0) (v := .slice tp tn tc) rfl; have x1 := HX1.out.at (k := 1) (v := .slice imp imn imc) rfl; have x2 := HX1.out.at (k := 2) (v := .slice fp fn fc) rfl; have x3 := HX1.out.at (k := 3) (v := .slice tbp tbn tbc) rfl; have x4 := HX1.out.at (k := 4) (v := .slice mp mn mc) rfl; have x5 := HX1.out.at (k := 5) (v := .slice gp gn gc) rfl; have x6 := HX1.out.at (k := 6) (v := .slice xp xn xc) rfl; have x7 := HX1.out.at (k := 7) (v := .int .i64 st) rfl; have x8 := HX1.out.at (k := 8) (v := .slice ep en ec) rfl; have x9 := HX1.out.at (k := 9) (v := .slice dp dn dc) rfl; have x10 := HX1.out.at (k := 10) (v := .bool false) rfl; clear hb)
  | (go_at_call 34; (with_reducible refine (Hf _ HB1.out).out.mono ?_); rintro e w12 ⟨rfl,hb⟩; have HB2 := hid (HB1.out.trans (hb.mono HB1.out.size)); have HX2 := hid (HX1.out.below hb HX1.out.lt); clear x0 x1 x2 x3 x4 x5 x6 x7 x8 x9 x10; have x0 := HX2.out.at (k := 0) (v := .slice tp tn tc) rfl; have x1 := HX2.out.at (k := 1) (v := .slice imp imn imc) rfl; have x2 := HX2.out.at (k := 2) (v := .slice fp fn fc) rfl; have x3 := HX2.out.at (k := 3) (v := .slice tbp tbn tbc) rfl; have x4 := HX2.out.at (k := 4) (v := .slice mp mn mc) rfl; have x5 := HX2.out.at (k := 5) (v := .slice gp gn gc) rfl; have x6 := HX2.out.at (k := 6) (v := .slice xp xn xc) rfl; have x7 := HX2.out.at (k := 7) (v := .int .i64 st) rfl; have x8 := HX2.out.at (k := 8) (v := .slice ep en ec) rfl; have x9 := HX2.out.at (k := 9) (v := .slice dp dn dc) rfl; have x10 := HX2.out.at (k := 10) (v := .bool false) rfl; clear hb)
  | (go_at_call 36; (with_reducible refine (Htb _ HB2.out).out.mono ?_); rintro e w13 ⟨rfl,hb⟩; have HB3 := hid (HB2.out.trans (hb.mono HB2.out.size)); have HX3 := hid (HX2.out.below hb HX2.out.lt); clear x0 x1 x2 x3 x4 x5 x6 x7 x8 x9 x10; have x0 := HX3.out.at (k := 0) (v := .slice tp tn tc) rfl; have x1 := HX3.out.at (k := 1) (v := .slice imp imn imc) rfl; have x2 := HX3.out.at (k := 2) (v := .slice fp fn fc) rfl; have x3 := HX3.out.at (k := 3) (v := .slice tbp tbn tbc) rfl; have x4 := HX3.out.at (k := 4) (v := .slice mp mn mc) rfl; have x5 := HX3.out.at (k := 5) (v := .slice gp gn gc) rfl; have x6 := HX3.out.at (k := 6) (v := .slice xp xn xc) rfl; have x7 := HX3.out.at (k := 7) (v := .int .i64 st) rfl; have x8 := HX3.out.at (k := 8) (v := .slice ep en ec) rfl; have x9 := HX3.out.at (k := 9) (v := .slice dp dn dc) rfl; have x10 := HX3.out.at (k := 10) (v := .bool false) rfl; clear hb)
  | (go_at_call 38; (with_reducible refine (Hm _ HB3.out).out.mono ?_); rintro e w14 ⟨rfl,hb⟩; have HB4 := hid (HB3.out.trans (hb.mono HB3.out.size)); have HX4 := hid (HX3.out.below hb HX3.out.lt); clear x0 x1 x2 x3 x4 x5 x6 x7 x8 x9 x10; have x0 := HX4.out.at (k := 0) (v := .slice tp tn tc) rfl; have x1 := HX4.out.at (k := 1) (v := .slice imp imn imc) rfl; have x2 := HX4.out.at (k := 2) (v := .slice fp fn fc) rfl; have x3 := HX4.out.at (k := 3) (v := .slice tbp tbn tbc) rfl; have x4 := HX4.out.at (k := 4) (v := .slice mp mn mc) rfl; have x5 := HX4.out.at (k := 5) (v := .slice gp gn gc) rfl; have x6 := HX4.out.at (k := 6) (v := .slice xp xn xc) rfl; have x7 := HX4.out.at (k := 7) (v := .int .i64 st) rfl; have x8 := HX4.out.at (k := 8) (v := .slice ep en ec) rfl; have x9 := HX4.out.at (k := 9) (v := .slice dp dn dc) rfl; have x10 := HX4.out.at (k := 10) (v := .bool false) rfl; clear hb)
  | (go_at_call 40; (with_reducible refine (Hg _ HB4.out).out.mono ?_); rintro e w15 ⟨rfl,hb⟩; have HB5 := hid (HB4.out.trans (hb.mono HB4.out.size)); have HX5 := hid (HX4.out.below hb HX4.out.lt); clear x0 x1 x2 x3 x4 x5 x6 x7 x8 x9 x10; have x0 := HX5.out.at (k := 0) (v := .slice tp tn tc) rfl; have x1 := HX5.out.at (k := 1) (v := .slice imp imn imc) rfl; have x2 := HX5.out.at (k := 2) (v := .slice fp fn fc) rfl; have x3 := HX5.out.at (k := 3) (v := .slice tbp tbn tbc) rfl; have x4 := HX5.out.at (k := 4) (v := .slice mp mn mc) rfl; have x5 := HX5.out.at (k := 5) (v := .slice gp gn gc) rfl; have x6 := HX5.out.at (k := 6) (v := .slice xp xn xc) rfl; have x7 := HX5.out.at (k := 7) (v := .int .i64 st) rfl; have x8 := HX5.out.at (k := 8) (v := .slice ep en ec) rfl; have x9 := HX5.out.at (k := 9) (v := .slice dp dn dc) rfl; have x10 := HX5.out.at (k := 10) (v := .bool false) rfl; clear hb)
  | (go_at_call 42; (with_reducible refine (Hx _ HB5.out).out.mono ?_); rintro e w16 ⟨rfl,hb⟩; have HB6 := hid (HB5.out.trans (hb.mono HB5.out.size)); have HX6 := hid (HX5.out.below hb HX5.out.lt); clear x0 x1 x2 x3 x4 x5 x6 x7 x8 x9 x10; have x0 := HX6.out.at (k := 0) (v := .slice tp tn tc) rfl; have x1 := HX6.out.at (k := 1) (v := .slice imp imn imc) rfl; have x2 := HX6.out.at (k := 2) (v := .slice fp fn fc) rfl; have x3 := HX6.out.at (k := 3) (v := .slice tbp tbn tbc) rfl; have x4 := HX6.out.at (k := 4) (v := .slice mp mn mc) rfl; have x5 := HX6.out.at (k := 5) (v := .slice gp gn gc) rfl; have x6 := HX6.out.at (k := 6) (v := .slice xp xn xc) rfl; have x7 := HX6.out.at (k := 7) (v := .int .i64 st) rfl; have x8 := HX6.out.at (k := 8) (v := .slice ep en ec) rfl; have x9 := HX6.out.at (k := 9) (v := .slice dp dn dc) rfl; have x10 := HX6.out.at (k := 10) (v := .bool false) rfl; clear hb)
  | (go_at_call 44; (with_reducible refine (HS _).out.mono ?_); rintro e w5 ⟨rfl,rfl⟩)
  | (go_at_call 45; (with_reducible refine (He _ HB6.out).out.mono ?_); rintro e w18 ⟨rfl,hb⟩; have HB8 := hid (HB6.out.trans (hb.mono HB6.out.size)); have HX8 := hid (HX6.out.below hb HX6.out.lt); clear x0 x1 x2 x3 x4 x5 x6 x7 x8 x9 x10; have x0 := HX8.out.at (k := 0) (v := .slice tp tn tc) rfl; have x1 := HX8.out.at (k := 1) (v := .slice imp imn imc) rfl; have x2 := HX8.out.at (k := 2) (v := .slice fp fn fc) rfl; have x3 := HX8.out.at (k := 3) (v := .slice tbp tbn tbc) rfl; have x4 := HX8.out.at (k := 4) (v := .slice mp mn mc) rfl; have x5 := HX8.out.at (k := 5) (v := .slice gp gn gc) rfl; have x6 := HX8.out.at (k := 6) (v := .slice xp xn xc) rfl; have x7 := HX8.out.at (k := 7) (v := .int .i64 st) rfl; have x8 := HX8.out.at (k := 8) (v := .slice ep en ec) rfl; have x9 := HX8.out.at (k := 9) (v := .slice dp dn dc) rfl; have x10 := HX8.out.at (k := 10) (v := .bool false) rfl; clear hb)
  | (go_at_call 47; (with_reducible refine (Hd _ HB8.out).out.mono ?_); rintro e w19 ⟨rfl,hb⟩; have HB9 := hid (HB8.out.trans (hb.mono HB8.out.size)); have HX9 := hid (HX8.out.below hb HX8.out.lt); clear x0 x1 x2 x3 x4 x5 x6 x7 x8 x9 x10; have x0 := HX9.out.at (k := 0) (v := .slice tp tn tc) rfl; have x1 := HX9.out.at (k := 1) (v := .slice imp imn imc) rfl; have x2 := HX9.out.at (k := 2) (v := .slice fp fn fc) rfl; have x3 := HX9.out.at (k := 3) (v := .slice tbp tbn tbc) rfl; have x4 := HX9.out.at (k := 4) (v := .slice mp mn mc) rfl; have x5 := HX9.out.at (k := 5) (v := .slice gp gn gc) rfl; have x6 := HX9.out.at (k := 6) (v := .slice xp xn xc) rfl; have x7 := HX9.out.at (k := 7) (v := .int .i64 st) rfl; have x8 := HX9.out.at (k := 8) (v := .slice ep en ec) rfl; have x9 := HX9.out.at (k := 9) (v := .slice dp dn dc) rfl; have x10 := HX9.out.at (k := 10) (v := .bool false) rfl; clear hb)
  | (go_at_call 34; (with_reducible refine (HQ _ HB9.out).out.mono ?_); rintro e w30 ⟨rfl,hb⟩; have HBQ := hid (HB9.out.trans (hb.mono HB9.out.size)); clear hb))
 go_ret
 exact ⟨rfl,HBQ.out⟩
end Go.Proofs.YtjgeedgphcjhoaaGreat
namespace Go.Proofs.YtjgeedgphcjhoaaGreat
open Go.RowKit
theorem MayG_says (tp imp fp tbp mp gp xp ep dp : Option Addr) (tn tc imn imc fn fc tbn tbc mn mc gn gc xn xc en ec dn dc : Nat) (tb imb fb tbb mb gb xb sb eb db qb cnt : Bool) (st : Int) (w : World)
  (ht : ∀ W,Below w.heap.size w W → Calls Tryz.prog 30 #[.slice tp tn tc,.func (.func 31) #[] #[]] W fun e w' => e = .returned (.bool tb) ∧ Below W.heap.size W w')
  (him : ∀ W,Below w.heap.size w W → Calls Tryz.prog 32 #[.slice imp imn imc,.func (.func 33) #[] #[]] W fun e w' => e = .returned (.bool imb) ∧ Below W.heap.size W w')
  (hf : ∀ W,Below w.heap.size w W → Calls Tryz.prog 34 #[.slice fp fn fc,.func (.func 35) #[] #[]] W fun e w' => e = .returned (.bool fb) ∧ Below W.heap.size W w')
  (htb : ∀ W,Below w.heap.size w W → Calls Tryz.prog 36 #[.slice tbp tbn tbc,.func (.func 37) #[] #[]] W fun e w' => e = .returned (.bool tbb) ∧ Below W.heap.size W w')
  (hm : ∀ W,Below w.heap.size w W → Calls Tryz.prog 38 #[.slice mp mn mc,.func (.func 39) #[] #[]] W fun e w' => e = .returned (.bool mb) ∧ Below W.heap.size W w')
  (hg : ∀ W,Below w.heap.size w W → Calls Tryz.prog 40 #[.slice gp gn gc,.func (.func 41) #[] #[]] W fun e w' => e = .returned (.bool gb) ∧ Below W.heap.size W w')
  (hx : ∀ W,Below w.heap.size w W → Calls Tryz.prog 42 #[.slice xp xn xc,.func (.func 43) #[] #[]] W fun e w' => e = .returned (.bool xb) ∧ Below W.heap.size W w')
  (hs : ∀ W,Calls Tryz.prog 44 #[.int .i64 st] W fun e w' => e = .returned (.bool sb) ∧ W = w')
  (he : ∀ W,Below w.heap.size w W → Calls Tryz.prog 45 #[.slice ep en ec,.func (.func 46) #[] #[]] W fun e w' => e = .returned (.bool eb) ∧ Below W.heap.size W w')
  (hd : ∀ W,Below w.heap.size w W → Calls Tryz.prog 47 #[.slice dp dn dc,.func (.func 48) #[] #[]] W fun e w' => e = .returned (.bool db) ∧ Below W.heap.size W w')
  (hq : ∀ W,Below w.heap.size w W → Calls Tryz.prog 34 #[.slice fp fn fc,.func (.func 49) #[] #[]] W fun e w' => e = .returned (.bool qb) ∧ Below W.heap.size W w') :
  Calls Tryz.prog 15 #[.agg #[.slice tp tn tc,.slice imp imn imc,.slice fp fn fc,.slice tbp tbn tbc,.slice mp mn mc,.slice gp gn gc,.slice xp xn xc,.int .i64 st,.slice ep en ec,.slice dp dn dc,.bool cnt]] w fun e w' => e = .returned (.bool (tb && imb && fb && tbb && mb && gb && xb && sb && eb && db && (cnt || qb))) ∧ Below w.heap.size w w' := by
 cases tb with
 | false =>
  have := MayG_0 tp imp fp tbp mp gp xp ep dp tn tc imn imc fn fc tbn tbc mn mc gn gc xn xc en ec dn dc true imb fb tbb mb gb xb sb eb db qb cnt st w ht him hf htb hm hg hx hs he hd hq
  simpa using this
 | true =>
  cases imb with
  | false =>
   have := MayG_1 tp imp fp tbp mp gp xp ep dp tn tc imn imc fn fc tbn tbc mn mc gn gc xn xc en ec dn dc true true fb tbb mb gb xb sb eb db qb cnt st w ht him hf htb hm hg hx hs he hd hq
   simpa using this
  | true =>
   cases fb with
   | false =>
    have := MayG_2 tp imp fp tbp mp gp xp ep dp tn tc imn imc fn fc tbn tbc mn mc gn gc xn xc en ec dn dc true true true tbb mb gb xb sb eb db qb cnt st w ht him hf htb hm hg hx hs he hd hq
    simpa using this
   | true =>
    cases tbb with
    | false =>
     have := MayG_3 tp imp fp tbp mp gp xp ep dp tn tc imn imc fn fc tbn tbc mn mc gn gc xn xc en ec dn dc true true true true mb gb xb sb eb db qb cnt st w ht him hf htb hm hg hx hs he hd hq
     simpa using this
    | true =>
     cases mb with
     | false =>
      have := MayG_4 tp imp fp tbp mp gp xp ep dp tn tc imn imc fn fc tbn tbc mn mc gn gc xn xc en ec dn dc true true true true true gb xb sb eb db qb cnt st w ht him hf htb hm hg hx hs he hd hq
      simpa using this
     | true =>
      cases gb with
      | false =>
       have := MayG_5 tp imp fp tbp mp gp xp ep dp tn tc imn imc fn fc tbn tbc mn mc gn gc xn xc en ec dn dc true true true true true true xb sb eb db qb cnt st w ht him hf htb hm hg hx hs he hd hq
       simpa using this
      | true =>
       cases xb with
       | false =>
        have := MayG_6 tp imp fp tbp mp gp xp ep dp tn tc imn imc fn fc tbn tbc mn mc gn gc xn xc en ec dn dc true true true true true true true sb eb db qb cnt st w ht him hf htb hm hg hx hs he hd hq
        simpa using this
       | true =>
        cases sb with
        | false =>
         have := MayG_7 tp imp fp tbp mp gp xp ep dp tn tc imn imc fn fc tbn tbc mn mc gn gc xn xc en ec dn dc true true true true true true true true eb db qb cnt st w ht him hf htb hm hg hx hs he hd hq
         simpa using this
        | true =>
         cases eb with
         | false =>
          have := MayG_8 tp imp fp tbp mp gp xp ep dp tn tc imn imc fn fc tbn tbc mn mc gn gc xn xc en ec dn dc true true true true true true true true true db qb cnt st w ht him hf htb hm hg hx hs he hd hq
          simpa using this
         | true =>
          cases db with
          | false =>
           have := MayG_9 tp imp fp tbp mp gp xp ep dp tn tc imn imc fn fc tbn tbc mn mc gn gc xn xc en ec dn dc true true true true true true true true true true qb cnt st w ht him hf htb hm hg hx hs he hd hq
           simpa using this
          | true =>
           cases cnt with
           | true =>
            have := MayG_10 tp imp fp tbp mp gp xp ep dp tn tc imn imc fn fc tbn tbc mn mc gn gc xn xc en ec dn dc true true true true true true true true true true qb true st w ht him hf htb hm hg hx hs he hd hq
            simpa using this
           | false =>
            have := MayG_11 tp imp fp tbp mp gp xp ep dp tn tc imn imc fn fc tbn tbc mn mc gn gc xn xc en ec dn dc true true true true true true true true true true qb false st w ht him hf htb hm hg hx hs he hd hq
            simpa using this
end Go.Proofs.YtjgeedgphcjhoaaGreat
namespace Go.Proofs.YtjgeedgphcjhoaaGreat
open Go.RowKit
theorem KP.set (w : World) (g k : Nat) (v : Value) : KP (some g) w (w.setCell ⟨g,k,none⟩ v) := ⟨rfl,rfl,rfl,by simp [World.setCell],fun i hi hc => Below.heap_setCell _ _ _ _ (fun e => hc (by rw [e]))⟩
noncomputable def codeSt (_ : Unit) (d op a b : Int) (n h : Nat) (l : List Int) (ot : Bool) (body els : Fo) : Bool × Unit := (decide (d ≤ 500) && insB op a b n h l ot body.len els.len,())
noncomputable def codeB (f : Fo) : Bool := (evF codeSt f 1 ()).1
set_option maxHeartbeats 2000000 in
theorem asks_code (B : Nat) : Asked 213 #[] (fun (_ : Unit) _ => True) codeSt B none := by
 intro s d op a b n h l ot body els vl vb ve w hd hB hc hl hbo hel hs
 obtain ⟨pl,cl,rfl,hq,_⟩ := id hl
 obtain ⟨pb,cb,_,_,rfl,_,_⟩ := hbo
 obtain ⟨pe,ce,_,_,rfl,_,_⟩ := hel
 show Calls Tryz.prog 213 #[.agg #[.int .i64 op,.int .i64 a,.int .i64 b,.int .u64 (n : Nat),.int .u64 (h : Nat),.slice pl l.length cl,.slice pb body.len cb,.slice pe els.len ce,.bool ot],.int .i64 d] w fun e w' => e = .returned (.bool (decide (d ≤ 500) && insB op a b n h l ot body.len els.len)) ∧ True ∧ KP none w w'
 have HI : ∀ W,Below w.heap.size w W → Hid (Calls Tryz.prog 214 #[.agg #[.int .i64 op,.int .i64 a,.int .i64 b,.int .u64 (n : Nat),.int .u64 (h : Nat),.slice pl l.length cl,.slice pb body.len cb,.slice pe els.len ce,.bool ot]] W fun e w' => e = .returned (.bool (insB op a b n h l ot body.len els.len)) ∧ Below W.heap.size W w') := fun W hW => isInstr_says op a b n h l l.length rfl pl pb pe cl body.len cb els.len ce ot B W (Nat.le_trans hB hW.size) (hl.below (hW.mono hB)) hq
 generalize insB op a b n h l ot body.len els.len = u at *
 generalize l.length = nl at *
 generalize body.len = nb at *
 generalize els.len = ne at *
 have HBX := hid ((Below.refl w.heap.size w).alloc (Nat.le_refl _) (.cells #[.int .i64 op,.int .i64 a,.int .i64 b,.int .u64 (n : Nat),.int .u64 (h : Nat),.slice pl nl cl,.slice pb nb cb,.slice pe ne ce,.bool ot] 39))
 obtain ⟨b5,d5⟩ : ∃ x,decide (d ≤ 500) = x := ⟨_,rfl⟩
 rw [d5]
 clear hl hq hd hs hB hc
 cases b5 with
 | false =>
  go_enter Tryz.func213,Tryz.ntmps213
  go_wp2
  go_ret
  exact ⟨rfl,trivial,KP.of HBX.out⟩
 | true =>
  go_enter Tryz.func213,Tryz.ntmps213
  go_wp2_with (go_at_call 214; (with_reducible refine (HI _ HBX.out).out.mono ?_); rintro e w1 ⟨rfl,hb1⟩; have HB1 := hid (HBX.out.trans (hb1.mono HBX.out.size)); clear hb1)
  go_ret
  exact ⟨by simp,trivial,KP.of HB1.out⟩
theorem isCode_says (f : Fo) (v : Value) (B : Nat) (w : World) (hn : f.cnt < 9223372036854775806) (hB : B ≤ w.heap.size) (hs : SA B w v f) : Calls Tryz.prog 148 #[v] w fun e w' => e = .returned (.bool (codeB f)) ∧ Below w.heap.size w w' := by
 have H := hid (every_says 213 #[] (fun _ _ => rfl) (fun (_ : Unit) _ => True) codeSt B none (fun k e => by cases e) (fun _ _ _ _ _ => trivial) (asks_code B) f () v w hn hB (fun k e => by cases e) hs trivial)
 unfold codeB
 generalize (evF codeSt f 1 ()).1 = r at *
 clear hs hn
 go_enter Tryz.func148,Tryz.ntmps148
 go_wp2_with (go_at_call 140; (with_reducible refine H.out.mono ?_); rintro e w1 ⟨rfl,_,hk1⟩)
 go_ret
 exact ⟨rfl,hk1.pure⟩
end Go.Proofs.YtjgeedgphcjhoaaGreat
namespace Go.Proofs.YtjgeedgphcjhoaaGreat
open Go.RowKit
set_option maxHeartbeats 1000000 in
theorem code_says (B g : Nat) (f : Fo) (hf : f.cnt < 9223372036854775806) (hok : okE f) (v : Value) (bs : List UInt8) (w : World) (hw : WR B g bs w) (hs : SA B w v f) (hn : bs.length + 20 + f.siz ≤ 140737488355000) :
  Calls Tryz.prog 136 #[.pointer (some ⟨g,0,none⟩),v] w fun e w' => e = .returned (.tuple #[]) ∧ WR B g (bs ++ (f.enc ++ [11])) w' ∧ FR B g w w' := by
 have HI := hid (instrs_says B g hw.1 (f.cnt + 1) f (by omega) hf hok v w hw.base hs bs w (Below.refl _ _) hw (by omega))
 have hsz := enc_siz f hok
 obtain ⟨p,c,g',o',rfl,_,_⟩ := hs
 have HN := hid (show (bs ++ f.enc).length + ([11] : List Int).length ≤ 140737488355000 by simp only [List.length_append,List.length_cons,List.length_nil]; omega)
 clear hn hsz hok hf hw
 generalize f.len = m at *
 go_enter Tryz.func136,Tryz.ntmps136
 go_wp2_with (first
  | (go_at_call 208; (with_reducible refine HI.out.mono ?_); rintro e w1 ⟨rfl,hw1,hf1⟩; have HW1 := hid hw1; have HF1 := hid hf1; clear hw1 hf1)
  | (go_at_call 169; (with_reducible refine (bytes_says B g _ [11] _ _ (HW1.out.alloc _) (LT.one 11 1 HW1.out.lt) HN.out).mono ?_); rintro e w2 ⟨rfl,hw2,hf2⟩; have HW2 := hid hw2; have HF2 := hid ((HF1.out.alloc _).trans hf2); clear hw2 hf2))
 (first | go_end0 | refine bodyPost_ret (results_none rfl _ _ _) rfl ?_)
 exact ⟨rfl,by rw [← List.append_assoc]; exact HW2.out,HF2.out⟩
end Go.Proofs.YtjgeedgphcjhoaaGreat
namespace Go.Proofs.YtjgeedgphcjhoaaGreat
open Go.RowKit
set_option maxHeartbeats 4000000 in
theorem all_var (k : Nat) (eg : ∀ args w,(callFunc k args).run Tryz.prog w = .ok (.enter k args) w) (P : Nat → Bool) (n g o c : Nat) (t0 : Nat → Int) (u1 : Nat → Bool) (p2 : Nat → Option Addr) (n2 c2 : Nat → Nat) (w : World) (hg : n ≠ 0 → g < w.heap.size) (hn : n < 9223372036854775807) (ad : Option Addr) (had : n ≠ 0 → ad = some ⟨g,o,none⟩)
  (hx : ∀ i,i < n → w.cell? ⟨g,o + i * 3,none⟩ = some (.int .i64 (t0 i)) ∧ w.cell? ⟨g,o + i * 3 + 1,none⟩ = some (.bool (u1 i)) ∧ w.cell? ⟨g,o + i * 3 + 2,none⟩ = some (.slice (p2 i) (n2 i) (c2 i))) (hP : ∀ i,i < n → ∀ W,Below w.heap.size w W → Calls Tryz.prog k #[.agg #[.int .i64 (t0 i),.bool (u1 i),.slice (p2 i) (n2 i) (c2 i)]] W fun e w' => e = .returned (.bool (P i)) ∧ Below W.heap.size W w') :
  Calls Tryz.prog 40 #[.slice ad n c,.func (.func k) #[] #[]] w fun e w' => e = .returned (.bool ((List.range n).all P)) ∧ Below w.heap.size w w' := by
 have HP := hid hP
 have HXX := hid hx
 have HG := hid hg
 have HAD := hid had
 have hn' : (n : Int) < 9223372036854775807 := by omega
 obtain ⟨r,hr⟩ : ∃ r,r = (List.range n).all P := ⟨_,rfl⟩
 rw [← hr]
 have HR := hid hr
 clear hP hx hr hn hg had
 go_enter Tryz.func40,Tryz.ntmps40
 go_wp2
 go_loopw [9] (fun vi wr => ∃ i : Nat,i ≤ n ∧ vi = .int .i64 i ∧ Hid (∀ j,j < i → P j = true) ∧ Hid (Below w.heap.size w wr)) (fun vi _ => n - (intOf vi).toNat)
 case atStart => exact ⟨0,Nat.zero_le _,rfl,fun j hj => absurd hj (Nat.not_lt_zero _),Below.refl _ _⟩
 case round =>
  obtain ⟨i,hi,rfl,HI,HB⟩ := hrel
  by_cases hlt : i < n
  ·obtain ⟨z0_0,z0_1,z0_2⟩ := HXX.out i hlt
   have hg := HG.out (by omega)
   obtain rfl := HAD.out (by omega)
   have hPi := fun W h => hid (HP.out i hlt W h)
   have x0 := (HB.out.cell (p := ⟨g,o + i * 3,none⟩) hg).trans z0_0
   have x1 := (HB.out.cell (p := ⟨g,o + i * 3 + 1,none⟩) hg).trans z0_1
   have x2 := (HB.out.cell (p := ⟨g,o + i * 3 + 2,none⟩) hg).trans z0_2
   clear z0_0 z0_1 z0_2 hg
   obtain ⟨b,hb⟩ : ∃ b,b = P i := ⟨_,rfl⟩
   rw [← hb] at hPi
   have HBP := hid hb
   clear hb
   generalize t0 i = s0 at *
   generalize u1 i = e1 at *
   generalize p2 i = q2 at *
   generalize n2 i = m2 at *
   generalize c2 i = d2 at *
   have HB1 := hid (HB.out.alloc HB.out.size (.cells #[.int .i64 s0,.bool e1,.slice q2 m2 d2] 46))
   cases b with
   | false =>
    have HE : Hid (r = false) := by
     rw [HR.out]
     exact List.all_eq_false.2 ⟨i,List.mem_range.2 hlt,by rw [← HBP.out]; decide⟩
    go_wp2_with (go_at_fn k; (with_reducible refine (hPi _ HB1.out).out.mono ?_); rintro e w2 ⟨rfl,hb2⟩; have HB2 := hid (HB1.out.trans (hb2.mono HB1.out.size)); clear hb2)
    go_ret
    exact ⟨by rw [HE.out]; rfl,HB2.out⟩
   | true =>
    go_wp2_with (go_at_fn k; (with_reducible refine (hPi _ HB1.out).out.mono ?_); rintro e w2 ⟨rfl,hb2⟩; have HB2 := hid (HB1.out.trans (hb2.mono HB1.out.size)); clear hb2)
    go_roundw
    case rel =>
     refine ⟨i + 1,hlt,by go_num,fun j hj => ?_,HB2.out⟩
     by_cases hji : j = i
     ·rw [hji]; exact HBP.out.symm
     ·exact HI.out j (by omega)
    case measure => simp [intOf]; omega
  ·obtain rfl : i = n := by omega
   have HE : Hid (r = true) := by
    rw [HR.out]
    exact List.all_eq_true.2 fun j hj => HI.out j (List.mem_range.1 hj)
   go_wp2
   go_ret
   exact ⟨by rw [HE.out]; rfl,HB.out⟩
set_option maxHeartbeats 1000000 in
theorem isGlobalType_says (t : Int) (m : Bool) (w : World) : Calls Tryz.prog 146 #[.agg #[.int .i64 t,.bool m]] w fun e w' => e = .returned (.bool (valB t)) ∧ Below w.heap.size w w' := by
 have H := fun W => hid (isVal_says t W)
 generalize valB t = r at *
 have HBX := hid ((Below.refl w.heap.size w).alloc (Nat.le_refl _) (.cells #[.int .i64 t,.bool m] 44))
 go_enter Tryz.func146,Tryz.ntmps146
 go_wp2_with (go_at_call 144; (with_reducible refine (H _).out.mono ?_); rintro e w1 ⟨rfl,rfl⟩)
 go_ret
 exact ⟨rfl,HBX.out⟩
set_option maxHeartbeats 1000000 in
theorem isGlobal_says (t : Int) (m : Bool) (f : Fo) (p : Option Addr) (n c B : Nat) (w : World) (hn : f.cnt < 9223372036854775806) (hB : B ≤ w.heap.size) (hs : SA B w (.slice p n c) f) :
  Calls Tryz.prog 41 #[.agg #[.int .i64 t,.bool m,.slice p n c]] w fun e w' => e = .returned (.bool (valB t && codeB f)) ∧ Below w.heap.size w w' := by
 have HT := fun W => hid (isGlobalType_says t m W)
 have HBX := hid ((Below.refl w.heap.size w).alloc (Nat.le_refl _) (.cells #[.int .i64 t,.bool m,.slice p n c] 46))
 have HX := hid (CA.new w #[.int .i64 t,.bool m,.slice p n c] 46)
 have HC := fun W (hW : Below w.heap.size w W) => hid (isCode_says f (.slice p n c) B W hn (Nat.le_trans hB hW.size) (SA.below hs (hW.mono hB)))
 generalize valB t = r at *
 generalize codeB f = q at *
 clear hn hB hs
 cases r with
 | false =>
  go_enter Tryz.func41,Tryz.ntmps41
  go_wp2_with (go_at_call 146; (with_reducible refine (HT _).out.mono ?_); rintro e w1 ⟨rfl,hb⟩; have HB1 := hid (HBX.out.trans (hb.mono HBX.out.size)); clear hb)
  go_ret
  exact ⟨rfl,HB1.out⟩
 | true =>
  go_enter Tryz.func41,Tryz.ntmps41
  go_wp2_with (first
   | (go_at_call 146; (with_reducible refine (HT _).out.mono ?_); rintro e w1 ⟨rfl,hb⟩; have HB1 := hid (HBX.out.trans (hb.mono HBX.out.size)); have HX1 := hid (HX.out.below hb HX.out.lt); have x2 := HX1.out.at (k := 2) (v := .slice p n c) rfl; clear hb)
   | (go_at_call 148; (with_reducible refine (HC _ HB1.out).out.mono ?_); rintro e w2 ⟨rfl,hb⟩; have HB2 := hid (HB1.out.trans (hb.mono HB1.out.size)); clear hb))
  go_ret
  exact ⟨by simp,HB2.out⟩
end Go.Proofs.YtjgeedgphcjhoaaGreat
namespace Go.Proofs.YtjgeedgphcjhoaaGreat
open Go.ChangeShapes Go.WideShapes Go.ChangeAt Go.RowKit
theorem c3 : Tryz.prog.cellsOf 3 = 1 := by kernel_rfl
theorem c4 : Tryz.prog.cellsOf 4 = 1 := by kernel_rfl
/-- All lists are shorter than there are integers. -/
def Lens : Fo → Prop
 | .nil => True
 | .cons _ _ _ _ _ _ _ body els rest => body.len < 9223372036854775807 ∧ els.len < 9223372036854775807 ∧ Lens body ∧ Lens els ∧ Lens rest
section
variable {H : Type} {enc : TypeId × Value → H} {W : World} {sp : Nat → Bool} {held : Bool}
end
end Go.Proofs.YtjgeedgphcjhoaaGreat
