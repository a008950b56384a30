/-
  MayG5, MayG, Block: merged, what the law does not reach left out (each text says what it holds where it lies in wip). No condition.
-/
import Derived.Test.YtjgeedgphcjhoaaGreatO03
import Derived.Test.YtjgeedgphcjhoaaGreatO02
import Derived.Test.YtjgeedgphcjhoaaGreatO04
import Derived.Test.YtjgeedgphcjhoaaGreatO05
set_option linter.unusedSimpArgs false
set_option linter.unusedVariables false
set_option maxRecDepth 100000
namespace Go.Proofs.YtjgeedgphcjhoaaGreat
open Go.RowKit
set_option maxHeartbeats 16000000 in
theorem MayG_10 (tp imp fp tbp mp gp xp ep dp : Option Addr) (tn tc imn imc fn fc tbn tbc mn mc gn gc xn xc en ec dn dc : Nat) (tb imb fb tbb mb gb xb sb eb db qb cnt : Bool) (st : Int) (w : World)
  (ht : ∀ W,Below w.heap.size w W → Calls Tryz.prog 30 #[.slice tp tn tc,.func (.func 31) #[] #[]] W fun e w' => e = .returned (.bool true) ∧ Below W.heap.size W w')
  (him : ∀ W,Below w.heap.size w W → Calls Tryz.prog 32 #[.slice imp imn imc,.func (.func 33) #[] #[]] W fun e w' => e = .returned (.bool true) ∧ Below W.heap.size W w')
  (hf : ∀ W,Below w.heap.size w W → Calls Tryz.prog 34 #[.slice fp fn fc,.func (.func 35) #[] #[]] W fun e w' => e = .returned (.bool true) ∧ Below W.heap.size W w')
  (htb : ∀ W,Below w.heap.size w W → Calls Tryz.prog 36 #[.slice tbp tbn tbc,.func (.func 37) #[] #[]] W fun e w' => e = .returned (.bool true) ∧ Below W.heap.size W w')
  (hm : ∀ W,Below w.heap.size w W → Calls Tryz.prog 38 #[.slice mp mn mc,.func (.func 39) #[] #[]] W fun e w' => e = .returned (.bool true) ∧ Below W.heap.size W w')
  (hg : ∀ W,Below w.heap.size w W → Calls Tryz.prog 40 #[.slice gp gn gc,.func (.func 41) #[] #[]] W fun e w' => e = .returned (.bool true) ∧ Below W.heap.size W w')
  (hx : ∀ W,Below w.heap.size w W → Calls Tryz.prog 42 #[.slice xp xn xc,.func (.func 43) #[] #[]] W fun e w' => e = .returned (.bool true) ∧ Below W.heap.size W w')
  (hs : ∀ W,Calls Tryz.prog 44 #[.int .i64 st] W fun e w' => e = .returned (.bool true) ∧ W = w')
  (he : ∀ W,Below w.heap.size w W → Calls Tryz.prog 45 #[.slice ep en ec,.func (.func 46) #[] #[]] W fun e w' => e = .returned (.bool true) ∧ Below W.heap.size W w')
  (hd : ∀ W,Below w.heap.size w W → Calls Tryz.prog 47 #[.slice dp dn dc,.func (.func 48) #[] #[]] W fun e w' => e = .returned (.bool true) ∧ Below W.heap.size W w')
  (hq : ∀ W,Below w.heap.size w W → Calls Tryz.prog 34 #[.slice fp fn fc,.func (.func 49) #[] #[]] W fun e w' => e = .returned (.bool qb) ∧ Below W.heap.size W w') :
  Calls Tryz.prog 15 #[.agg #[.slice tp tn tc,.slice imp imn imc,.slice fp fn fc,.slice tbp tbn tbc,.slice mp mn mc,.slice gp gn gc,.slice xp xn xc,.int .i64 st,.slice ep en ec,.slice dp dn dc,.bool true]] w fun e w' => e = .returned (.bool true) ∧ Below w.heap.size w w' := by
 have Ht := fun W h => hid (ht W h)
 have Him := fun W h => hid (him W h)
 have Hf := fun W h => hid (hf W h)
 have Htb := fun W h => hid (htb W h)
 have Hm := fun W h => hid (hm W h)
 have Hg := fun W h => hid (hg W h)
 have Hx := fun W h => hid (hx W h)
 have HS := fun W => hid (hs W)
 have He := fun W h => hid (he W h)
 have Hd := fun W h => hid (hd W h)
 have HQ := fun W h => hid (hq W h)
 have HBX := hid ((Below.refl w.heap.size w).alloc (Nat.le_refl _) (.cells #[.slice tp tn tc,.slice imp imn imc,.slice fp fn fc,.slice tbp tbn tbc,.slice mp mn mc,.slice gp gn gc,.slice xp xn xc,.int .i64 st,.slice ep en ec,.slice dp dn dc,.bool true] 32))
 have HX := hid (CA.new w #[.slice tp tn tc,.slice imp imn imc,.slice fp fn fc,.slice tbp tbn tbc,.slice mp mn mc,.slice gp gn gc,.slice xp xn xc,.int .i64 st,.slice ep en ec,.slice dp dn dc,.bool true] 32)
 have x0 := HX.out.at (k := 0) (v := .slice tp tn tc) rfl
 have x1 := HX.out.at (k := 1) (v := .slice imp imn imc) rfl
 have x2 := HX.out.at (k := 2) (v := .slice fp fn fc) rfl
 have x3 := HX.out.at (k := 3) (v := .slice tbp tbn tbc) rfl
 have x4 := HX.out.at (k := 4) (v := .slice mp mn mc) rfl
 have x5 := HX.out.at (k := 5) (v := .slice gp gn gc) rfl
 have x6 := HX.out.at (k := 6) (v := .slice xp xn xc) rfl
 have x7 := HX.out.at (k := 7) (v := .int .i64 st) rfl
 have x8 := HX.out.at (k := 8) (v := .slice ep en ec) rfl
 have x9 := HX.out.at (k := 9) (v := .slice dp dn dc) rfl
 have x10 := HX.out.at (k := 10) (v := .bool true) rfl
 clear ht him hf htb hm hg hx hs he hd hq
 go_enter Tryz.func15,Tryz.ntmps15
 go_wp2_with (first
  | (go_at_call 30; (with_reducible refine (Ht _ HBX.out).out.mono ?_); rintro e w10 ⟨rfl,hb⟩; have HB0 := hid (HBX.out.trans (hb.mono HBX.out.size)); have HX0 := hid (HX.out.below hb HX.out.lt); clear x0 x1 x2 x3 x4 x5 x6 x7 x8 x9 x10; have x0 := HX0.out.at (k := 0) (v := .slice tp tn tc) rfl; have x1 := HX0.out.at (k := 1) (v := .slice imp imn imc) rfl; have x2 := HX0.out.at (k := 2) (v := .slice fp fn fc) rfl; have x3 := HX0.out.at (k := 3) (v := .slice tbp tbn tbc) rfl; have x4 := HX0.out.at (k := 4) (v := .slice mp mn mc) rfl; have x5 := HX0.out.at (k := 5) (v := .slice gp gn gc) rfl; have x6 := HX0.out.at (k := 6) (v := .slice xp xn xc) rfl; have x7 := HX0.out.at (k := 7) (v := .int .i64 st) rfl; have x8 := HX0.out.at (k := 8) (v := .slice ep en ec) rfl; have x9 := HX0.out.at (k := 9) (v := .slice dp dn dc) rfl; have x10 := HX0.out.at (k := 10) (v := .bool true) rfl; clear hb)
  | (go_at_call 32; (with_reducible refine (Him _ HB0.out).out.mono ?_); rintro e w11 ⟨rfl,hb⟩; have HB1 := hid (HB0.out.trans (hb.mono HB0.out.size)); have HX1 := hid (HX0.out.below hb HX0.out.lt); clear x0 x1 x2 x3 x4 x5 x6 x7 x8 x9 x10; have x0 := HX1.out.at (k := 0) (v := .slice tp tn tc) rfl; have x1 := HX1.out.at (k := 1) (v := .slice imp imn imc) rfl; have x2 := HX1.out.at (k := 2) (v := .slice fp fn fc) rfl; have x3 := HX1.out.at (k := 3) (v := .slice tbp tbn tbc) rfl; have x4 := HX1.out.at (k := 4) (v := .slice mp mn mc) rfl; have x5 := HX1.out.at (k := 5) (v := .slice gp gn gc) rfl; have x6 := HX1.out.at (k := 6) (v := .slice xp xn xc) rfl; have x7 := HX1.out.at (k := 7) (v := .int .i64 st) rfl; have x8 := HX1.out.at (k := 8) (v := .slice ep en ec) rfl; have x9 := HX1.out.at (k := 9) (v := .slice dp dn dc) rfl; have x10 := HX1.out.at (k := 10) (v := .bool true) rfl; clear hb)
  | (go_at_call 34; (with_reducible refine (Hf _ HB1.out).out.mono ?_); rintro e w12 ⟨rfl,hb⟩; have HB2 := hid (HB1.out.trans (hb.mono HB1.out.size)); have HX2 := hid (HX1.out.below hb HX1.out.lt); clear x0 x1 x2 x3 x4 x5 x6 x7 x8 x9 x10; have x0 := HX2.out.at (k := 0) (v := .slice tp tn tc) rfl; have x1 := HX2.out.at (k := 1) (v := .slice imp imn imc) rfl; have x2 := HX2.out.at (k := 2) (v := .slice fp fn fc) rfl; have x3 := HX2.out.at (k := 3) (v := .slice tbp tbn tbc) rfl; have x4 := HX2.out.at (k := 4) (v := .slice mp mn mc) rfl; have x5 := HX2.out.at (k := 5) (v := .slice gp gn gc) rfl; have x6 := HX2.out.at (k := 6) (v := .slice xp xn xc) rfl; have x7 := HX2.out.at (k := 7) (v := .int .i64 st) rfl; have x8 := HX2.out.at (k := 8) (v := .slice ep en ec) rfl; have x9 := HX2.out.at (k := 9) (v := .slice dp dn dc) rfl; have x10 := HX2.out.at (k := 10) (v := .bool true) rfl; clear hb)
  | (go_at_call 36; (with_reducible refine (Htb _ HB2.out).out.mono ?_); rintro e w13 ⟨rfl,hb⟩; have HB3 := hid (HB2.out.trans (hb.mono HB2.out.size)); have HX3 := hid (HX2.out.below hb HX2.out.lt); clear x0 x1 x2 x3 x4 x5 x6 x7 x8 x9 x10; have x0 := HX3.out.at (k := 0) (v := .slice tp tn tc) rfl; have x1 := HX3.out.at (k := 1) (v := .slice imp imn imc) rfl; have x2 := HX3.out.at (k := 2) (v := .slice fp fn fc) rfl; have x3 := HX3.out.at (k := 3) (v := .slice tbp tbn tbc) rfl; have x4 := HX3.out.at (k := 4) (v := .slice mp mn mc) rfl; have x5 := HX3.out.at (k := 5) (v := .slice gp gn gc) rfl; have x6 := HX3.out.at (k := 6) (v := .slice xp xn xc) rfl; have x7 := HX3.out.at (k := 7) (v := .int .i64 st) rfl; have x8 := HX3.out.at (k := 8) (v := .slice ep en ec) rfl; have x9 := HX3.out.at (k := 9) (v := .slice dp dn dc) rfl; have x10 := HX3.out.at (k := 10) (v := .bool true) rfl; clear hb)
  | (go_at_call 38; (with_reducible refine (Hm _ HB3.out).out.mono ?_); rintro e w14 ⟨rfl,hb⟩; have HB4 := hid (HB3.out.trans (hb.mono HB3.out.size)); have HX4 := hid (HX3.out.below hb HX3.out.lt); clear x0 x1 x2 x3 x4 x5 x6 x7 x8 x9 x10; have x0 := HX4.out.at (k := 0) (v := .slice tp tn tc) rfl; have x1 := HX4.out.at (k := 1) (v := .slice imp imn imc) rfl; have x2 := HX4.out.at (k := 2) (v := .slice fp fn fc) rfl; have x3 := HX4.out.at (k := 3) (v := .slice tbp tbn tbc) rfl; have x4 := HX4.out.at (k := 4) (v := .slice mp mn mc) rfl; have x5 := HX4.out.at (k := 5) (v := .slice gp gn gc) rfl; have x6 := HX4.out.at (k := 6) (v := .slice xp xn xc) rfl; have x7 := HX4.out.at (k := 7) (v := .int .i64 st) rfl; have x8 := HX4.out.at (k := 8) (v := .slice ep en ec) rfl; have x9 := HX4.out.at (k := 9) (v := .slice dp dn dc) rfl; have x10 := HX4.out.at (k := 10) (v := .bool true) rfl; clear hb)
  | (go_at_call 40; (with_reducible refine (Hg _ HB4.out).out.mono ?_); rintro e w15 ⟨rfl,hb⟩; have HB5 := hid (HB4.out.trans (hb.mono HB4.out.size)); have HX5 := hid (HX4.out.below hb HX4.out.lt); clear x0 x1 x2 x3 x4 x5 x6 x7 x8 x9 x10; have x0 := HX5.out.at (k := 0) (v := .slice tp tn tc) rfl; have x1 := HX5.out.at (k := 1) (v := .slice imp imn imc) rfl; have x2 := HX5.out.at (k := 2) (v := .slice fp fn fc) rfl; have x3 := HX5.out.at (k := 3) (v := .slice tbp tbn tbc) rfl; have x4 := HX5.out.at (k := 4) (v := .slice mp mn mc) rfl; have x5 := HX5.out.at (k := 5) (v := .slice gp gn gc) rfl; have x6 := HX5.out.at (k := 6) (v := .slice xp xn xc) rfl; have x7 := HX5.out.at (k := 7) (v := .int .i64 st) rfl; have x8 := HX5.out.at (k := 8) (v := .slice ep en ec) rfl; have x9 := HX5.out.at (k := 9) (v := .slice dp dn dc) rfl; have x10 := HX5.out.at (k := 10) (v := .bool true) rfl; clear hb)
  | (go_at_call 42; (with_reducible refine (Hx _ HB5.out).out.mono ?_); rintro e w16 ⟨rfl,hb⟩; have HB6 := hid (HB5.out.trans (hb.mono HB5.out.size)); have HX6 := hid (HX5.out.below hb HX5.out.lt); clear x0 x1 x2 x3 x4 x5 x6 x7 x8 x9 x10; have x0 := HX6.out.at (k := 0) (v := .slice tp tn tc) rfl; have x1 := HX6.out.at (k := 1) (v := .slice imp imn imc) rfl; have x2 := HX6.out.at (k := 2) (v := .slice fp fn fc) rfl; have x3 := HX6.out.at (k := 3) (v := .slice tbp tbn tbc) rfl; have x4 := HX6.out.at (k := 4) (v := .slice mp mn mc) rfl; have x5 := HX6.out.at (k := 5) (v := .slice gp gn gc) rfl; have x6 := HX6.out.at (k := 6) (v := .slice xp xn xc) rfl; have x7 := HX6.out.at (k := 7) (v := .int .i64 st) rfl; have x8 := HX6.out.at (k := 8) (v := .slice ep en ec) rfl; have x9 := HX6.out.at (k := 9) (v := .slice dp dn dc) rfl; have x10 := HX6.out.at (k := 10) (v := .bool true) rfl; clear hb)
  | (go_at_call 44; (with_reducible refine (HS _).out.mono ?_); rintro e w5 ⟨rfl,rfl⟩)
  | (go_at_call 45; (with_reducible refine (He _ HB6.out).out.mono ?_); rintro e w18 ⟨rfl,hb⟩; have HB8 := hid (HB6.out.trans (hb.mono HB6.out.size)); have HX8 := hid (HX6.out.below hb HX6.out.lt); clear x0 x1 x2 x3 x4 x5 x6 x7 x8 x9 x10; have x0 := HX8.out.at (k := 0) (v := .slice tp tn tc) rfl; have x1 := HX8.out.at (k := 1) (v := .slice imp imn imc) rfl; have x2 := HX8.out.at (k := 2) (v := .slice fp fn fc) rfl; have x3 := HX8.out.at (k := 3) (v := .slice tbp tbn tbc) rfl; have x4 := HX8.out.at (k := 4) (v := .slice mp mn mc) rfl; have x5 := HX8.out.at (k := 5) (v := .slice gp gn gc) rfl; have x6 := HX8.out.at (k := 6) (v := .slice xp xn xc) rfl; have x7 := HX8.out.at (k := 7) (v := .int .i64 st) rfl; have x8 := HX8.out.at (k := 8) (v := .slice ep en ec) rfl; have x9 := HX8.out.at (k := 9) (v := .slice dp dn dc) rfl; have x10 := HX8.out.at (k := 10) (v := .bool true) rfl; clear hb)
  | (go_at_call 47; (with_reducible refine (Hd _ HB8.out).out.mono ?_); rintro e w19 ⟨rfl,hb⟩; have HB9 := hid (HB8.out.trans (hb.mono HB8.out.size)); have HX9 := hid (HX8.out.below hb HX8.out.lt); clear x0 x1 x2 x3 x4 x5 x6 x7 x8 x9 x10; have x0 := HX9.out.at (k := 0) (v := .slice tp tn tc) rfl; have x1 := HX9.out.at (k := 1) (v := .slice imp imn imc) rfl; have x2 := HX9.out.at (k := 2) (v := .slice fp fn fc) rfl; have x3 := HX9.out.at (k := 3) (v := .slice tbp tbn tbc) rfl; have x4 := HX9.out.at (k := 4) (v := .slice mp mn mc) rfl; have x5 := HX9.out.at (k := 5) (v := .slice gp gn gc) rfl; have x6 := HX9.out.at (k := 6) (v := .slice xp xn xc) rfl; have x7 := HX9.out.at (k := 7) (v := .int .i64 st) rfl; have x8 := HX9.out.at (k := 8) (v := .slice ep en ec) rfl; have x9 := HX9.out.at (k := 9) (v := .slice dp dn dc) rfl; have x10 := HX9.out.at (k := 10) (v := .bool true) rfl; clear hb))
 go_ret
 exact ⟨rfl,HB9.out⟩
set_option maxHeartbeats 16000000 in
theorem MayG_11 (tp imp fp tbp mp gp xp ep dp : Option Addr) (tn tc imn imc fn fc tbn tbc mn mc gn gc xn xc en ec dn dc : Nat) (tb imb fb tbb mb gb xb sb eb db qb cnt : Bool) (st : Int) (w : World)
  (ht : ∀ W,Below w.heap.size w W → Calls Tryz.prog 30 #[.slice tp tn tc,.func (.func 31) #[] #[]] W fun e w' => e = .returned (.bool true) ∧ Below W.heap.size W w')
  (him : ∀ W,Below w.heap.size w W → Calls Tryz.prog 32 #[.slice imp imn imc,.func (.func 33) #[] #[]] W fun e w' => e = .returned (.bool true) ∧ Below W.heap.size W w')
  (hf : ∀ W,Below w.heap.size w W → Calls Tryz.prog 34 #[.slice fp fn fc,.func (.func 35) #[] #[]] W fun e w' => e = .returned (.bool true) ∧ Below W.heap.size W w')
  (htb : ∀ W,Below w.heap.size w W → Calls Tryz.prog 36 #[.slice tbp tbn tbc,.func (.func 37) #[] #[]] W fun e w' => e = .returned (.bool true) ∧ Below W.heap.size W w')
  (hm : ∀ W,Below w.heap.size w W → Calls Tryz.prog 38 #[.slice mp mn mc,.func (.func 39) #[] #[]] W fun e w' => e = .returned (.bool true) ∧ Below W.heap.size W w')
  (hg : ∀ W,Below w.heap.size w W → Calls Tryz.prog 40 #[.slice gp gn gc,.func (.func 41) #[] #[]] W fun e w' => e = .returned (.bool true) ∧ Below W.heap.size W w')
  (hx : ∀ W,Below w.heap.size w W → Calls Tryz.prog 42 #[.slice xp xn xc,.func (.func 43) #[] #[]] W fun e w' => e = .returned (.bool true) ∧ Below W.heap.size W w')
  (hs : ∀ W,Calls Tryz.prog 44 #[.int .i64 st] W fun e w' => e = .returned (.bool true) ∧ W = w')
  (he : ∀ W,Below w.heap.size w W → Calls Tryz.prog 45 #[.slice ep en ec,.func (.func 46) #[] #[]] W fun e w' => e = .returned (.bool true) ∧ Below W.heap.size W w')
  (hd : ∀ W,Below w.heap.size w W → Calls Tryz.prog 47 #[.slice dp dn dc,.func (.func 48) #[] #[]] W fun e w' => e = .returned (.bool true) ∧ Below W.heap.size W w')
  (hq : ∀ W,Below w.heap.size w W → Calls Tryz.prog 34 #[.slice fp fn fc,.func (.func 49) #[] #[]] W fun e w' => e = .returned (.bool qb) ∧ Below W.heap.size W w') :
  Calls Tryz.prog 15 #[.agg #[.slice tp tn tc,.slice imp imn imc,.slice fp fn fc,.slice tbp tbn tbc,.slice mp mn mc,.slice gp gn gc,.slice xp xn xc,.int .i64 st,.slice ep en ec,.slice dp dn dc,.bool false]] w fun e w' => e = .returned (.bool qb) ∧ Below w.heap.size w w' := by
 have Ht := fun W h => hid (ht W h)
 have Him := fun W h => hid (him W h)
 have Hf := fun W h => hid (hf W h)
 have Htb := fun W h => hid (htb W h)
 have Hm := fun W h => hid (hm W h)
 have Hg := fun W h => hid (hg W h)
 have Hx := fun W h => hid (hx W h)
 have HS := fun W => hid (hs W)
 have He := fun W h => hid (he W h)
 have Hd := fun W h => hid (hd W h)
 have HQ := fun W h => hid (hq W h)
 have HBX := hid ((Below.refl w.heap.size w).alloc (Nat.le_refl _) (.cells #[.slice tp tn tc,.slice imp imn imc,.slice fp fn fc,.slice tbp tbn tbc,.slice mp mn mc,.slice gp gn gc,.slice xp xn xc,.int .i64 st,.slice ep en ec,.slice dp dn dc,.bool false] 32))
 have HX := hid (CA.new w #[.slice tp tn tc,.slice imp imn imc,.slice fp fn fc,.slice tbp tbn tbc,.slice mp mn mc,.slice gp gn gc,.slice xp xn xc,.int .i64 st,.slice ep en ec,.slice dp dn dc,.bool false] 32)
 have x0 := HX.out.at (k := 0) (v := .slice tp tn tc) rfl
 have x1 := HX.out.at (k := 1) (v := .slice imp imn imc) rfl
 have x2 := HX.out.at (k := 2) (v := .slice fp fn fc) rfl
 have x3 := HX.out.at (k := 3) (v := .slice tbp tbn tbc) rfl
 have x4 := HX.out.at (k := 4) (v := .slice mp mn mc) rfl
 have x5 := HX.out.at (k := 5) (v := .slice gp gn gc) rfl
 have x6 := HX.out.at (k := 6) (v := .slice xp xn xc) rfl
 have x7 := HX.out.at (k := 7) (v := .int .i64 st) rfl
 have x8 := HX.out.at (k := 8) (v := .slice ep en ec) rfl
 have x9 := HX.out.at (k := 9) (v := .slice dp dn dc) rfl
 have x10 := HX.out.at (k := 10) (v := .bool false) rfl
 clear ht him hf htb hm hg hx hs he hd hq
 go_enter Tryz.func15,Tryz.ntmps15
 go_wp2_with (first
  | (go_at_call 30; (with_reducible refine (Ht _ HBX.out).out.mono ?_); rintro e w10 ⟨rfl,hb⟩; have HB0 := hid (HBX.out.trans (hb.mono HBX.out.size)); have HX0 := hid (HX.out.below hb HX.out.lt); clear x0 x1 x2 x3 x4 x5 x6 x7 x8 x9 x10; have x0 := HX0.out.at (k := 0) (v := .slice tp tn tc) rfl; have x1 := HX0.out.at (k := 1) (v := .slice imp imn imc) rfl; have x2 := HX0.out.at (k := 2) (v := .slice fp fn fc) rfl; have x3 := HX0.out.at (k := 3) (v := .slice tbp tbn tbc) rfl; have x4 := HX0.out.at (k := 4) (v := .slice mp mn mc) rfl; have x5 := HX0.out.at (k := 5) (v := .slice gp gn gc) rfl; have x6 := HX0.out.at (k := 6) (v := .slice xp xn xc) rfl; have x7 := HX0.out.at (k := 7) (v := .int .i64 st) rfl; have x8 := HX0.out.at (k := 8) (v := .slice ep en ec) rfl; have x9 := HX0.out.at (k := 9) (v := .slice dp dn dc) rfl; have x10 := HX0.out.at (k := 10) (v := .bool false) rfl; clear hb)
  | (go_at_call 32; (with_reducible refine (Him _ HB0.out).out.mono ?_); rintro e w11 ⟨rfl,hb⟩; have HB1 := hid (HB0.out.trans (hb.mono HB0.out.size)); have HX1 := hid (HX0.out.below hb HX0.out.lt); clear x0 x1 x2 x3 x4 x5 x6 x7 x8 x9 x10; have x0 := HX1.out.at (k := 0) (v := .slice tp tn tc) rfl; have x1 := HX1.out.at (k := 1) (v := .slice imp imn imc) rfl; have x2 := HX1.out.at (k := 2) (v := .slice fp fn fc) rfl; have x3 := HX1.out.at (k := 3) (v := .slice tbp tbn tbc) rfl; have x4 := HX1.out.at (k := 4) (v := .slice mp mn mc) rfl; have x5 := HX1.out.at (k := 5) (v := .slice gp gn gc) rfl; have x6 := HX1.out.at (k := 6) (v := .slice xp xn xc) rfl; have x7 := HX1.out.at (k := 7) (v := .int .i64 st) rfl; have x8 := HX1.out.at (k := 8) (v := .slice ep en ec) rfl; have x9 := HX1.out.at (k := 9) (v := .slice dp dn dc) rfl; have x10 := HX1.out.at (k := 10) (v := .bool false) rfl; clear hb)
  | (go_at_call 34; (with_reducible refine (Hf _ HB1.out).out.mono ?_); rintro e w12 ⟨rfl,hb⟩; have HB2 := hid (HB1.out.trans (hb.mono HB1.out.size)); have HX2 := hid (HX1.out.below hb HX1.out.lt); clear x0 x1 x2 x3 x4 x5 x6 x7 x8 x9 x10; have x0 := HX2.out.at (k := 0) (v := .slice tp tn tc) rfl; have x1 := HX2.out.at (k := 1) (v := .slice imp imn imc) rfl; have x2 := HX2.out.at (k := 2) (v := .slice fp fn fc) rfl; have x3 := HX2.out.at (k := 3) (v := .slice tbp tbn tbc) rfl; have x4 := HX2.out.at (k := 4) (v := .slice mp mn mc) rfl; have x5 := HX2.out.at (k := 5) (v := .slice gp gn gc) rfl; have x6 := HX2.out.at (k := 6) (v := .slice xp xn xc) rfl; have x7 := HX2.out.at (k := 7) (v := .int .i64 st) rfl; have x8 := HX2.out.at (k := 8) (v := .slice ep en ec) rfl; have x9 := HX2.out.at (k := 9) (v := .slice dp dn dc) rfl; have x10 := HX2.out.at (k := 10) (v := .bool false) rfl; clear hb)
  | (go_at_call 36; (with_reducible refine (Htb _ HB2.out).out.mono ?_); rintro e w13 ⟨rfl,hb⟩; have HB3 := hid (HB2.out.trans (hb.mono HB2.out.size)); have HX3 := hid (HX2.out.below hb HX2.out.lt); clear x0 x1 x2 x3 x4 x5 x6 x7 x8 x9 x10; have x0 := HX3.out.at (k := 0) (v := .slice tp tn tc) rfl; have x1 := HX3.out.at (k := 1) (v := .slice imp imn imc) rfl; have x2 := HX3.out.at (k := 2) (v := .slice fp fn fc) rfl; have x3 := HX3.out.at (k := 3) (v := .slice tbp tbn tbc) rfl; have x4 := HX3.out.at (k := 4) (v := .slice mp mn mc) rfl; have x5 := HX3.out.at (k := 5) (v := .slice gp gn gc) rfl; have x6 := HX3.out.at (k := 6) (v := .slice xp xn xc) rfl; have x7 := HX3.out.at (k := 7) (v := .int .i64 st) rfl; have x8 := HX3.out.at (k := 8) (v := .slice ep en ec) rfl; have x9 := HX3.out.at (k := 9) (v := .slice dp dn dc) rfl; have x10 := HX3.out.at (k := 10) (v := .bool false) rfl; clear hb)
  | (go_at_call 38; (with_reducible refine (Hm _ HB3.out).out.mono ?_); rintro e w14 ⟨rfl,hb⟩; have HB4 := hid (HB3.out.trans (hb.mono HB3.out.size)); have HX4 := hid (HX3.out.below hb HX3.out.lt); clear x0 x1 x2 x3 x4 x5 x6 x7 x8 x9 x10; have x0 := HX4.out.at (k := 0) (v := .slice tp tn tc) rfl; have x1 := HX4.out.at (k := 1) (v := .slice imp imn imc) rfl; have x2 := HX4.out.at (k := 2) (v := .slice fp fn fc) rfl; have x3 := HX4.out.at (k := 3) (v := .slice tbp tbn tbc) rfl; have x4 := HX4.out.at (k := 4) (v := .slice mp mn mc) rfl; have x5 := HX4.out.at (k := 5) (v := .slice gp gn gc) rfl; have x6 := HX4.out.at (k := 6) (v := .slice xp xn xc) rfl; have x7 := HX4.out.at (k := 7) (v := .int .i64 st) rfl; have x8 := HX4.out.at (k := 8) (v := .slice ep en ec) rfl; have x9 := HX4.out.at (k := 9) (v := .slice dp dn dc) rfl; have x10 := HX4.out.at (k := 10) (v := .bool false) rfl; clear hb)
  | (go_at_call 40; (with_reducible refine (Hg _ HB4.out).out.mono ?_); rintro e w15 ⟨rfl,hb⟩; have HB5 := hid (HB4.out.trans (hb.mono HB4.out.size)); have HX5 := hid (HX4.out.below hb HX4.out.lt); clear x0 x1 x2 x3 x4 x5 x6 x7 x8 x9 x10; have x0 := HX5.out.at (k := 0) (v := .slice tp tn tc) rfl; have x1 := HX5.out.at (k := 1) (v := .slice imp imn imc) rfl; have x2 := HX5.out.at (k := 2) (v := .slice fp fn fc) rfl; have x3 := HX5.out.at (k := 3) (v := .slice tbp tbn tbc) rfl; have x4 := HX5.out.at (k := 4) (v := .slice mp mn mc) rfl; have x5 := HX5.out.at (k := 5) (v := .slice gp gn gc) rfl; have x6 := HX5.out.at (k := 6) (v := .slice xp xn xc) rfl; have x7 := HX5.out.at (k := 7) (v := .int .i64 st) rfl; have x8 := HX5.out.at (k := 8) (v := .slice ep en ec) rfl; have x9 := HX5.out.at (k := 9) (v := .slice dp dn dc) rfl; have x10 := HX5.out.at (k := 10) (v := .bool false) rfl; clear hb)
  | (go_at_call 42; (with_reducible refine (Hx _ HB5.out).out.mono ?_); rintro e w16 ⟨rfl,hb⟩; have HB6 := hid (HB5.out.trans (hb.mono HB5.out.size)); have HX6 := hid (HX5.out.below hb HX5.out.lt); clear x0 x1 x2 x3 x4 x5 x6 x7 x8 x9 x10; have x0 := HX6.out.at (k := 0) (v := .slice tp tn tc) rfl; have x1 := HX6.out.at (k := 1) (v := .slice imp imn imc) rfl; have x2 := HX6.out.at (k := 2) (v := .slice fp fn fc) rfl; have x3 := HX6.out.at (k := 3) (v := .slice tbp tbn tbc) rfl; have x4 := HX6.out.at (k := 4) (v := .slice mp mn mc) rfl; have x5 := HX6.out.at (k := 5) (v := .slice gp gn gc) rfl; have x6 := HX6.out.at (k := 6) (v := .slice xp xn xc) rfl; have x7 := HX6.out.at (k := 7) (v := .int .i64 st) rfl; have x8 := HX6.out.at (k := 8) (v := .slice ep en ec) rfl; have x9 := HX6.out.at (k := 9) (v := .slice dp dn dc) rfl; have x10 := HX6.out.at (k := 10) (v := .bool false) rfl; clear hb)
  | (go_at_call 44; (with_reducible refine (HS _).out.mono ?_); rintro e w5 ⟨rfl,rfl⟩)
  | (go_at_call 45; (with_reducible refine (He _ HB6.out).out.mono ?_); rintro e w18 ⟨rfl,hb⟩; have HB8 := hid (HB6.out.trans (hb.mono HB6.out.size)); have HX8 := hid (HX6.out.below hb HX6.out.lt); clear x0 x1 x2 x3 x4 x5 x6 x7 x8 x9 x10; have x0 := HX8.out.at (k := 0) (v := .slice tp tn tc) rfl; have x1 := HX8.out.at (k := 1) (v := .slice imp imn imc) rfl; have x2 := HX8.out.at (k := 2) (v := .slice fp fn fc) rfl; have x3 := HX8.out.at (k := 3) (v := .slice tbp tbn tbc) rfl; have x4 := HX8.out.at (k := 4) (v := .slice mp mn mc) rfl; have x5 := HX8.out.at (k := 5) (v := .slice gp gn gc) rfl; have x6 := HX8.out.at (k := 6) (v := .slice xp xn xc) rfl; have x7 := HX8.out.at (k := 7) (v := .int .i64 st) rfl; have x8 := HX8.out.at (k := 8) (v := .slice ep en ec) rfl; have x9 := HX8.out.at (k := 9) (v := .slice dp dn dc) rfl; have x10 := HX8.out.at (k := 10) (v := .bool false) rfl; clear hb)
  | (go_at_call 47; (with_reducible refine (Hd _ HB8.out).out.mono ?_); rintro e w19 ⟨rfl,hb⟩; have HB9 := hid (HB8.out.trans (hb.mono HB8.out.size)); have HX9 := hid (HX8.out.below hb HX8.out.lt); clear x0 x1 x2 x3 x4 x5 x6 x7 x8 x9 x10; have x0 := HX9.out.at (k := 0) (v := .slice tp tn tc) rfl; have x1 := HX9.out.at (k := 1) (v := .slice imp imn imc) rfl; have x2 := HX9.out.at (k := 2) (v := .slice fp fn fc) rfl; have x3 := HX9.out.at (k := 3) (v := .slice tbp tbn tbc) rfl; have x4 := HX9.out.at (k := 4) (v := .slice mp mn mc) rfl; have x5 := HX9.out.at (k := 5) (v := .slice gp gn gc) rfl; have x6 := HX9.out.at (k := 6) (v := .slice xp xn xc) rfl; have x7 := HX9.out.at (k := 7) (v := .int .i64 st) rfl; have x8 := HX9.out.at (k := 8) (v := .slice ep en ec) rfl; have x9 := HX9.out.at (k := 9) (v := .slice dp dn dc) rfl; have x10 := HX9.out.at (k := 10) (v := .bool false) rfl; clear hb)
  | (go_at_call 34; (with_reducible refine (HQ _ HB9.out).out.mono ?_); rintro e w30 ⟨rfl,hb⟩; have HBQ := hid (HB9.out.trans (hb.mono HB9.out.size)); clear hb))
 go_ret
 exact ⟨rfl,HBQ.out⟩
end Go.Proofs.YtjgeedgphcjhoaaGreat
namespace Go.Proofs.YtjgeedgphcjhoaaGreat
open Go.RowKit
theorem MayG_says (tp imp fp tbp mp gp xp ep dp : Option Addr) (tn tc imn imc fn fc tbn tbc mn mc gn gc xn xc en ec dn dc : Nat) (tb imb fb tbb mb gb xb sb eb db qb cnt : Bool) (st : Int) (w : World)
  (ht : ∀ W,Below w.heap.size w W → Calls Tryz.prog 30 #[.slice tp tn tc,.func (.func 31) #[] #[]] W fun e w' => e = .returned (.bool tb) ∧ Below W.heap.size W w')
  (him : ∀ W,Below w.heap.size w W → Calls Tryz.prog 32 #[.slice imp imn imc,.func (.func 33) #[] #[]] W fun e w' => e = .returned (.bool imb) ∧ Below W.heap.size W w')
  (hf : ∀ W,Below w.heap.size w W → Calls Tryz.prog 34 #[.slice fp fn fc,.func (.func 35) #[] #[]] W fun e w' => e = .returned (.bool fb) ∧ Below W.heap.size W w')
  (htb : ∀ W,Below w.heap.size w W → Calls Tryz.prog 36 #[.slice tbp tbn tbc,.func (.func 37) #[] #[]] W fun e w' => e = .returned (.bool tbb) ∧ Below W.heap.size W w')
  (hm : ∀ W,Below w.heap.size w W → Calls Tryz.prog 38 #[.slice mp mn mc,.func (.func 39) #[] #[]] W fun e w' => e = .returned (.bool mb) ∧ Below W.heap.size W w')
  (hg : ∀ W,Below w.heap.size w W → Calls Tryz.prog 40 #[.slice gp gn gc,.func (.func 41) #[] #[]] W fun e w' => e = .returned (.bool gb) ∧ Below W.heap.size W w')
  (hx : ∀ W,Below w.heap.size w W → Calls Tryz.prog 42 #[.slice xp xn xc,.func (.func 43) #[] #[]] W fun e w' => e = .returned (.bool xb) ∧ Below W.heap.size W w')
  (hs : ∀ W,Calls Tryz.prog 44 #[.int .i64 st] W fun e w' => e = .returned (.bool sb) ∧ W = w')
  (he : ∀ W,Below w.heap.size w W → Calls Tryz.prog 45 #[.slice ep en ec,.func (.func 46) #[] #[]] W fun e w' => e = .returned (.bool eb) ∧ Below W.heap.size W w')
  (hd : ∀ W,Below w.heap.size w W → Calls Tryz.prog 47 #[.slice dp dn dc,.func (.func 48) #[] #[]] W fun e w' => e = .returned (.bool db) ∧ Below W.heap.size W w')
  (hq : ∀ W,Below w.heap.size w W → Calls Tryz.prog 34 #[.slice fp fn fc,.func (.func 49) #[] #[]] W fun e w' => e = .returned (.bool qb) ∧ Below W.heap.size W w') :
  Calls Tryz.prog 15 #[.agg #[.slice tp tn tc,.slice imp imn imc,.slice fp fn fc,.slice tbp tbn tbc,.slice mp mn mc,.slice gp gn gc,.slice xp xn xc,.int .i64 st,.slice ep en ec,.slice dp dn dc,.bool cnt]] w fun e w' => e = .returned (.bool (tb && imb && fb && tbb && mb && gb && xb && sb && eb && db && (cnt || qb))) ∧ Below w.heap.size w w' := by
 cases tb with
 | false =>
  have := MayG_0 tp imp fp tbp mp gp xp ep dp tn tc imn imc fn fc tbn tbc mn mc gn gc xn xc en ec dn dc true imb fb tbb mb gb xb sb eb db qb cnt st w ht him hf htb hm hg hx hs he hd hq
  simpa using this
 | true =>
  cases imb with
  | false =>
   have := MayG_1 tp imp fp tbp mp gp xp ep dp tn tc imn imc fn fc tbn tbc mn mc gn gc xn xc en ec dn dc true true fb tbb mb gb xb sb eb db qb cnt st w ht him hf htb hm hg hx hs he hd hq
   simpa using this
  | true =>
   cases fb with
   | false =>
    have := MayG_2 tp imp fp tbp mp gp xp ep dp tn tc imn imc fn fc tbn tbc mn mc gn gc xn xc en ec dn dc true true true tbb mb gb xb sb eb db qb cnt st w ht him hf htb hm hg hx hs he hd hq
    simpa using this
   | true =>
    cases tbb with
    | false =>
     have := MayG_3 tp imp fp tbp mp gp xp ep dp tn tc imn imc fn fc tbn tbc mn mc gn gc xn xc en ec dn dc true true true true mb gb xb sb eb db qb cnt st w ht him hf htb hm hg hx hs he hd hq
     simpa using this
    | true =>
     cases mb with
     | false =>
      have := MayG_4 tp imp fp tbp mp gp xp ep dp tn tc imn imc fn fc tbn tbc mn mc gn gc xn xc en ec dn dc true true true true true gb xb sb eb db qb cnt st w ht him hf htb hm hg hx hs he hd hq
      simpa using this
     | true =>
      cases gb with
      | false =>
       have := MayG_5 tp imp fp tbp mp gp xp ep dp tn tc imn imc fn fc tbn tbc mn mc gn gc xn xc en ec dn dc true true true true true true xb sb eb db qb cnt st w ht him hf htb hm hg hx hs he hd hq
       simpa using this
      | true =>
       cases xb with
       | false =>
        have := MayG_6 tp imp fp tbp mp gp xp ep dp tn tc imn imc fn fc tbn tbc mn mc gn gc xn xc en ec dn dc true true true true true true true sb eb db qb cnt st w ht him hf htb hm hg hx hs he hd hq
        simpa using this
       | true =>
        cases sb with
        | false =>
         have := MayG_7 tp imp fp tbp mp gp xp ep dp tn tc imn imc fn fc tbn tbc mn mc gn gc xn xc en ec dn dc true true true true true true true true eb db qb cnt st w ht him hf htb hm hg hx hs he hd hq
         simpa using this
        | true =>
         cases eb with
         | false =>
          have := MayG_8 tp imp fp tbp mp gp xp ep dp tn tc imn imc fn fc tbn tbc mn mc gn gc xn xc en ec dn dc true true true true true true true true true db qb cnt st w ht him hf htb hm hg hx hs he hd hq
          simpa using this
         | true =>
          cases db with
          | false =>
           have := MayG_9 tp imp fp tbp mp gp xp ep dp tn tc imn imc fn fc tbn tbc mn mc gn gc xn xc en ec dn dc true true true true true true true true true true qb cnt st w ht him hf htb hm hg hx hs he hd hq
           simpa using this
          | true =>
           cases cnt with
           | true =>
            have := MayG_10 tp imp fp tbp mp gp xp ep dp tn tc imn imc fn fc tbn tbc mn mc gn gc xn xc en ec dn dc true true true true true true true true true true qb true st w ht him hf htb hm hg hx hs he hd hq
            simpa using this
           | false =>
            have := MayG_11 tp imp fp tbp mp gp xp ep dp tn tc imn imc fn fc tbn tbc mn mc gn gc xn xc en ec dn dc true true true true true true true true true true qb false st w ht him hf htb hm hg hx hs he hd hq
            simpa using this
end Go.Proofs.YtjgeedgphcjhoaaGreat
namespace Go.Proofs.YtjgeedgphcjhoaaGreat
open Go.RowKit
/-- May a block be? -/
def blB (op a b : Int) (n h : Nat) (ot : Bool) (nl nb ne : Nat) : Bool := (if a = 0 then b == 0 else if a = 1 then valB b else if a = 2 then idxB b else false) && (if op = 4 ∧ ot = true then unB 0 0 n h false nl 0 0 else unB 0 0 n h ot nl 0 ne)
set_option maxHeartbeats 8000000 in
theorem isBlock_says (op a b : Int) (n h : Nat) (pl pb pe : Option Addr) (nl cl nb cb ne ce : Nat) (ot : Bool) (w : World) : Calls Tryz.prog 234 #[.agg #[.int .i64 op,.int .i64 a,.int .i64 b,.int .u64 (n : Nat),.int .u64 (h : Nat),.slice pl nl cl,.slice pb nb cb,.slice pe ne ce,.bool ot]] w fun e w' => e = .returned (.bool (blB op a b n h ot nl nb ne)) ∧ Below w.heap.size w w' := by
 have HV := fun W => hid (isVal_says b W)
 have HI := fun W => hid (isIndex_says b W)
 have HU1 := fun W => hid (isUnused_says op 0 0 n h pl none pe nl cl 0 0 ne ce ot W)
 have HU2 := fun W => hid (isUnused_says op 0 0 n h pl none none nl cl 0 0 0 0 false W)
 have HA := fun x => hid ((Below.refl w.heap.size w).alloc (Nat.le_refl _) x)
 unfold blB
 generalize unB 0 0 n h ot nl 0 ne = u1 at *
 generalize unB 0 0 n h false nl 0 0 = u2 at *
 generalize valB b = vb at *
 generalize idxB b = ib at *
 obtain ⟨zb,dz⟩ : ∃ x,(b == 0) = x := ⟨_,rfl⟩
 rw [dz]
 obtain ⟨t,dt⟩ : ∃ t,t = (if a = 0 then zb else if a = 1 then vb else if a = 2 then ib else false) := ⟨_,rfl⟩
 rw [← dt]
 have HK : ∃ k : Nat,(k = 0 ∧ (a == 0) = true ∧ t = zb) ∨ (k = 1 ∧ (a == 0) = false ∧ (a == 1) = true ∧ t = vb) ∨ (k = 2 ∧ (a == 0) = false ∧ (a == 1) = false ∧ (a == 2) = true ∧ t = ib) ∨ (k = 3 ∧ (a == 0) = false ∧ (a == 1) = false ∧ (a == 2) = false ∧ t = false) := by
  by_cases h0 : a = 0
  ·exact ⟨0,.inl ⟨rfl,by simp [h0],by rw [dt,if_pos h0]⟩⟩
  by_cases h1 : a = 1
  ·exact ⟨1,.inr (.inl ⟨rfl,by simp [h0],by simp [h1],by rw [dt,if_neg h0,if_pos h1]⟩)⟩
  by_cases h2 : a = 2
  ·exact ⟨2,.inr (.inr (.inl ⟨rfl,by simp [h0],by simp [h1],by simp [h2],by rw [dt,if_neg h0,if_neg h1,if_pos h2]⟩))⟩
  ·exact ⟨3,.inr (.inr (.inr ⟨rfl,by simp [h0],by simp [h1],by simp [h2],by rw [dt,if_neg h0,if_neg h1,if_neg h2]⟩))⟩
 obtain ⟨y,dy⟩ : ∃ y,y = (if op = 4 ∧ ot = true then u2 else u1) := ⟨_,rfl⟩
 rw [← dy]
 have HO : ((op == 4) = false ∧ y = u1) ∨ ((op == 4) = true ∧ ot = false ∧ y = u1) ∨ ((op == 4) = true ∧ ot = true ∧ y = u2) := by
  by_cases h0 : op = 4
  ·cases ot
   ·exact .inr (.inl ⟨by simp [h0],rfl,by rw [dy,if_neg (by simp)]⟩)
   ·exact .inr (.inr ⟨by simp [h0],rfl,by rw [dy,if_pos ⟨h0,rfl⟩]⟩)
  ·exact .inl ⟨by simp [h0],by rw [dy,if_neg (fun h => h0 h.1)]⟩
 clear dt dy
 obtain ⟨k,hk⟩ := HK
 rcases hk with ⟨rfl,e1,rfl⟩ | ⟨rfl,e1,e2,rfl⟩ | ⟨rfl,e1,e2,e3,rfl⟩ | ⟨rfl,e1,e2,e3,rfl⟩
 ·rcases HO with ⟨q1,rfl⟩ | ⟨q1,rfl,rfl⟩ | ⟨q1,rfl,rfl⟩
  ·cases t
   ·go_enter Tryz.func234,Tryz.ntmps234
    go_wp2_with (first
     | (go_at_call 144; (with_reducible refine (HV _).out.mono ?_); rintro e w1 ⟨rfl,rfl⟩)
     | (go_at_call 145; (with_reducible refine (HI _).out.mono ?_); rintro e w1 ⟨rfl,rfl⟩)
     | (go_at_call 236; (with_reducible refine (HU1 _).out.mono ?_); rintro e w2 ⟨rfl,hb2⟩; have HB2 := hid hb2; clear hb2))
    go_ret
    exact ⟨by simp,(HA _).out⟩
   ·go_enter Tryz.func234,Tryz.ntmps234
    go_wp2_with (first
     | (go_at_call 144; (with_reducible refine (HV _).out.mono ?_); rintro e w1 ⟨rfl,rfl⟩)
     | (go_at_call 145; (with_reducible refine (HI _).out.mono ?_); rintro e w1 ⟨rfl,rfl⟩)
     | (go_at_call 236; (with_reducible refine (HU1 _).out.mono ?_); rintro e w2 ⟨rfl,hb2⟩; have HB2 := hid hb2; clear hb2))
    go_ret
    exact ⟨by simp,((HA _).out).trans (HB2.out.mono ((HA _).out).size)⟩
  ·cases t
   ·go_enter Tryz.func234,Tryz.ntmps234
    go_wp2_with (first
     | (go_at_call 144; (with_reducible refine (HV _).out.mono ?_); rintro e w1 ⟨rfl,rfl⟩)
     | (go_at_call 145; (with_reducible refine (HI _).out.mono ?_); rintro e w1 ⟨rfl,rfl⟩)
     | (go_at_call 236; (with_reducible refine (HU1 _).out.mono ?_); rintro e w2 ⟨rfl,hb2⟩; have HB2 := hid hb2; clear hb2))
    go_ret
    exact ⟨by simp,(HA _).out⟩
   ·go_enter Tryz.func234,Tryz.ntmps234
    go_wp2_with (first
     | (go_at_call 144; (with_reducible refine (HV _).out.mono ?_); rintro e w1 ⟨rfl,rfl⟩)
     | (go_at_call 145; (with_reducible refine (HI _).out.mono ?_); rintro e w1 ⟨rfl,rfl⟩)
     | (go_at_call 236; (with_reducible refine (HU1 _).out.mono ?_); rintro e w2 ⟨rfl,hb2⟩; have HB2 := hid hb2; clear hb2))
    go_ret
    exact ⟨by simp,((HA _).out).trans (HB2.out.mono ((HA _).out).size)⟩
  ·cases t
   ·go_enter Tryz.func234,Tryz.ntmps234
    go_wp2_with (first
     | (go_at_call 144; (with_reducible refine (HV _).out.mono ?_); rintro e w1 ⟨rfl,rfl⟩)
     | (go_at_call 145; (with_reducible refine (HI _).out.mono ?_); rintro e w1 ⟨rfl,rfl⟩)
     | (go_at_call 236; (with_reducible refine (HU2 _).out.mono ?_); rintro e w2 ⟨rfl,hb2⟩; have HB2 := hid hb2; clear hb2))
    go_ret
    exact ⟨by simp,(HA _).out⟩
   ·go_enter Tryz.func234,Tryz.ntmps234
    go_wp2_with (first
     | (go_at_call 144; (with_reducible refine (HV _).out.mono ?_); rintro e w1 ⟨rfl,rfl⟩)
     | (go_at_call 145; (with_reducible refine (HI _).out.mono ?_); rintro e w1 ⟨rfl,rfl⟩)
     | (go_at_call 236; (with_reducible refine (HU2 _).out.mono ?_); rintro e w2 ⟨rfl,hb2⟩; have HB2 := hid hb2; clear hb2))
    go_ret
    exact ⟨by simp,((HA _).out).trans (HB2.out.mono ((HA _).out).size)⟩
 ·rcases HO with ⟨q1,rfl⟩ | ⟨q1,rfl,rfl⟩ | ⟨q1,rfl,rfl⟩
  ·cases t
   ·go_enter Tryz.func234,Tryz.ntmps234
    go_wp2_with (first
     | (go_at_call 144; (with_reducible refine (HV _).out.mono ?_); rintro e w1 ⟨rfl,rfl⟩)
     | (go_at_call 145; (with_reducible refine (HI _).out.mono ?_); rintro e w1 ⟨rfl,rfl⟩)
     | (go_at_call 236; (with_reducible refine (HU1 _).out.mono ?_); rintro e w2 ⟨rfl,hb2⟩; have HB2 := hid hb2; clear hb2))
    go_ret
    exact ⟨by simp,(HA _).out⟩
   ·go_enter Tryz.func234,Tryz.ntmps234
    go_wp2_with (first
     | (go_at_call 144; (with_reducible refine (HV _).out.mono ?_); rintro e w1 ⟨rfl,rfl⟩)
     | (go_at_call 145; (with_reducible refine (HI _).out.mono ?_); rintro e w1 ⟨rfl,rfl⟩)
     | (go_at_call 236; (with_reducible refine (HU1 _).out.mono ?_); rintro e w2 ⟨rfl,hb2⟩; have HB2 := hid hb2; clear hb2))
    go_ret
    exact ⟨by simp,((HA _).out).trans (HB2.out.mono ((HA _).out).size)⟩
  ·cases t
   ·go_enter Tryz.func234,Tryz.ntmps234
    go_wp2_with (first
     | (go_at_call 144; (with_reducible refine (HV _).out.mono ?_); rintro e w1 ⟨rfl,rfl⟩)
     | (go_at_call 145; (with_reducible refine (HI _).out.mono ?_); rintro e w1 ⟨rfl,rfl⟩)
     | (go_at_call 236; (with_reducible refine (HU1 _).out.mono ?_); rintro e w2 ⟨rfl,hb2⟩; have HB2 := hid hb2; clear hb2))
    go_ret
    exact ⟨by simp,(HA _).out⟩
   ·go_enter Tryz.func234,Tryz.ntmps234
    go_wp2_with (first
     | (go_at_call 144; (with_reducible refine (HV _).out.mono ?_); rintro e w1 ⟨rfl,rfl⟩)
     | (go_at_call 145; (with_reducible refine (HI _).out.mono ?_); rintro e w1 ⟨rfl,rfl⟩)
     | (go_at_call 236; (with_reducible refine (HU1 _).out.mono ?_); rintro e w2 ⟨rfl,hb2⟩; have HB2 := hid hb2; clear hb2))
    go_ret
    exact ⟨by simp,((HA _).out).trans (HB2.out.mono ((HA _).out).size)⟩
  ·cases t
   ·go_enter Tryz.func234,Tryz.ntmps234
    go_wp2_with (first
     | (go_at_call 144; (with_reducible refine (HV _).out.mono ?_); rintro e w1 ⟨rfl,rfl⟩)
     | (go_at_call 145; (with_reducible refine (HI _).out.mono ?_); rintro e w1 ⟨rfl,rfl⟩)
     | (go_at_call 236; (with_reducible refine (HU2 _).out.mono ?_); rintro e w2 ⟨rfl,hb2⟩; have HB2 := hid hb2; clear hb2))
    go_ret
    exact ⟨by simp,(HA _).out⟩
   ·go_enter Tryz.func234,Tryz.ntmps234
    go_wp2_with (first
     | (go_at_call 144; (with_reducible refine (HV _).out.mono ?_); rintro e w1 ⟨rfl,rfl⟩)
     | (go_at_call 145; (with_reducible refine (HI _).out.mono ?_); rintro e w1 ⟨rfl,rfl⟩)
     | (go_at_call 236; (with_reducible refine (HU2 _).out.mono ?_); rintro e w2 ⟨rfl,hb2⟩; have HB2 := hid hb2; clear hb2))
    go_ret
    exact ⟨by simp,((HA _).out).trans (HB2.out.mono ((HA _).out).size)⟩
 ·rcases HO with ⟨q1,rfl⟩ | ⟨q1,rfl,rfl⟩ | ⟨q1,rfl,rfl⟩
  ·cases t
   ·go_enter Tryz.func234,Tryz.ntmps234
    go_wp2_with (first
     | (go_at_call 144; (with_reducible refine (HV _).out.mono ?_); rintro e w1 ⟨rfl,rfl⟩)
     | (go_at_call 145; (with_reducible refine (HI _).out.mono ?_); rintro e w1 ⟨rfl,rfl⟩)
     | (go_at_call 236; (with_reducible refine (HU1 _).out.mono ?_); rintro e w2 ⟨rfl,hb2⟩; have HB2 := hid hb2; clear hb2))
    go_ret
    exact ⟨by simp,(HA _).out⟩
   ·go_enter Tryz.func234,Tryz.ntmps234
    go_wp2_with (first
     | (go_at_call 144; (with_reducible refine (HV _).out.mono ?_); rintro e w1 ⟨rfl,rfl⟩)
     | (go_at_call 145; (with_reducible refine (HI _).out.mono ?_); rintro e w1 ⟨rfl,rfl⟩)
     | (go_at_call 236; (with_reducible refine (HU1 _).out.mono ?_); rintro e w2 ⟨rfl,hb2⟩; have HB2 := hid hb2; clear hb2))
    go_ret
    exact ⟨by simp,((HA _).out).trans (HB2.out.mono ((HA _).out).size)⟩
  ·cases t
   ·go_enter Tryz.func234,Tryz.ntmps234
    go_wp2_with (first
     | (go_at_call 144; (with_reducible refine (HV _).out.mono ?_); rintro e w1 ⟨rfl,rfl⟩)
     | (go_at_call 145; (with_reducible refine (HI _).out.mono ?_); rintro e w1 ⟨rfl,rfl⟩)
     | (go_at_call 236; (with_reducible refine (HU1 _).out.mono ?_); rintro e w2 ⟨rfl,hb2⟩; have HB2 := hid hb2; clear hb2))
    go_ret
    exact ⟨by simp,(HA _).out⟩
   ·go_enter Tryz.func234,Tryz.ntmps234
    go_wp2_with (first
     | (go_at_call 144; (with_reducible refine (HV _).out.mono ?_); rintro e w1 ⟨rfl,rfl⟩)
     | (go_at_call 145; (with_reducible refine (HI _).out.mono ?_); rintro e w1 ⟨rfl,rfl⟩)
     | (go_at_call 236; (with_reducible refine (HU1 _).out.mono ?_); rintro e w2 ⟨rfl,hb2⟩; have HB2 := hid hb2; clear hb2))
    go_ret
    exact ⟨by simp,((HA _).out).trans (HB2.out.mono ((HA _).out).size)⟩
  ·cases t
   ·go_enter Tryz.func234,Tryz.ntmps234
    go_wp2_with (first
     | (go_at_call 144; (with_reducible refine (HV _).out.mono ?_); rintro e w1 ⟨rfl,rfl⟩)
     | (go_at_call 145; (with_reducible refine (HI _).out.mono ?_); rintro e w1 ⟨rfl,rfl⟩)
     | (go_at_call 236; (with_reducible refine (HU2 _).out.mono ?_); rintro e w2 ⟨rfl,hb2⟩; have HB2 := hid hb2; clear hb2))
    go_ret
    exact ⟨by simp,(HA _).out⟩
   ·go_enter Tryz.func234,Tryz.ntmps234
    go_wp2_with (first
     | (go_at_call 144; (with_reducible refine (HV _).out.mono ?_); rintro e w1 ⟨rfl,rfl⟩)
     | (go_at_call 145; (with_reducible refine (HI _).out.mono ?_); rintro e w1 ⟨rfl,rfl⟩)
     | (go_at_call 236; (with_reducible refine (HU2 _).out.mono ?_); rintro e w2 ⟨rfl,hb2⟩; have HB2 := hid hb2; clear hb2))
    go_ret
    exact ⟨by simp,((HA _).out).trans (HB2.out.mono ((HA _).out).size)⟩
 ·rcases HO with ⟨q1,rfl⟩ | ⟨q1,rfl,rfl⟩ | ⟨q1,rfl,rfl⟩
  ·go_enter Tryz.func234,Tryz.ntmps234
   go_wp2_with (first
    | (go_at_call 144; (with_reducible refine (HV _).out.mono ?_); rintro e w1 ⟨rfl,rfl⟩)
    | (go_at_call 145; (with_reducible refine (HI _).out.mono ?_); rintro e w1 ⟨rfl,rfl⟩)
    | (go_at_call 236; (with_reducible refine (HU1 _).out.mono ?_); rintro e w2 ⟨rfl,hb2⟩; have HB2 := hid hb2; clear hb2))
   go_ret
   exact ⟨by simp,(HA _).out⟩
  ·go_enter Tryz.func234,Tryz.ntmps234
   go_wp2_with (first
    | (go_at_call 144; (with_reducible refine (HV _).out.mono ?_); rintro e w1 ⟨rfl,rfl⟩)
    | (go_at_call 145; (with_reducible refine (HI _).out.mono ?_); rintro e w1 ⟨rfl,rfl⟩)
    | (go_at_call 236; (with_reducible refine (HU1 _).out.mono ?_); rintro e w2 ⟨rfl,hb2⟩; have HB2 := hid hb2; clear hb2))
   go_ret
   exact ⟨by simp,(HA _).out⟩
  ·go_enter Tryz.func234,Tryz.ntmps234
   go_wp2_with (first
    | (go_at_call 144; (with_reducible refine (HV _).out.mono ?_); rintro e w1 ⟨rfl,rfl⟩)
    | (go_at_call 145; (with_reducible refine (HI _).out.mono ?_); rintro e w1 ⟨rfl,rfl⟩)
    | (go_at_call 236; (with_reducible refine (HU2 _).out.mono ?_); rintro e w2 ⟨rfl,hb2⟩; have HB2 := hid hb2; clear hb2))
   go_ret
   exact ⟨by simp,(HA _).out⟩
end Go.Proofs.YtjgeedgphcjhoaaGreat
