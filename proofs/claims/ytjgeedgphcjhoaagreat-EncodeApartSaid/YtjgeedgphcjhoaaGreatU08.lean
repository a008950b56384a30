/-
  MayG2, MayG3, MayG4: merged, what the law does not reach left out (each text says what it holds where it lies in wip). No condition.
-/
import Derived.Test.YtjgeedgphcjhoaaGreatU07
import Derived.Test.YtjgeedgphcjhoaaGreatU03
import Derived.Test.YtjgeedgphcjhoaaGreatU01
set_option linter.unusedSimpArgs false
set_option linter.unusedVariables false
set_option maxRecDepth 100000
namespace Go.Proofs.YtjgeedgphcjhoaaGreat
open Go.RowKit
set_option maxHeartbeats 16000000 in
theorem MayG_3 (tp imp fp tbp mp gp xp ep dp : Option Addr) (tn tc imn imc fn fc tbn tbc mn mc gn gc xn xc en ec dn dc : Nat) (tb imb fb tbb mb gb xb sb eb db qb cnt : Bool) (st : Int) (w : World)
  (ht : ∀ W,Below w.heap.size w W → Calls Tryz.prog 30 #[.slice tp tn tc,.func (.func 31) #[] #[]] W fun e w' => e = .returned (.bool true) ∧ Below W.heap.size W w')
  (him : ∀ W,Below w.heap.size w W → Calls Tryz.prog 32 #[.slice imp imn imc,.func (.func 33) #[] #[]] W fun e w' => e = .returned (.bool true) ∧ Below W.heap.size W w')
  (hf : ∀ W,Below w.heap.size w W → Calls Tryz.prog 34 #[.slice fp fn fc,.func (.func 35) #[] #[]] W fun e w' => e = .returned (.bool true) ∧ Below W.heap.size W w')
  (htb : ∀ W,Below w.heap.size w W → Calls Tryz.prog 36 #[.slice tbp tbn tbc,.func (.func 37) #[] #[]] W fun e w' => e = .returned (.bool false) ∧ Below W.heap.size W w')
  (hm : ∀ W,Below w.heap.size w W → Calls Tryz.prog 38 #[.slice mp mn mc,.func (.func 39) #[] #[]] W fun e w' => e = .returned (.bool mb) ∧ Below W.heap.size W w')
  (hg : ∀ W,Below w.heap.size w W → Calls Tryz.prog 40 #[.slice gp gn gc,.func (.func 41) #[] #[]] W fun e w' => e = .returned (.bool gb) ∧ Below W.heap.size W w')
  (hx : ∀ W,Below w.heap.size w W → Calls Tryz.prog 42 #[.slice xp xn xc,.func (.func 43) #[] #[]] W fun e w' => e = .returned (.bool xb) ∧ Below W.heap.size W w')
  (hs : ∀ W,Calls Tryz.prog 44 #[.int .i64 st] W fun e w' => e = .returned (.bool sb) ∧ W = w')
  (he : ∀ W,Below w.heap.size w W → Calls Tryz.prog 45 #[.slice ep en ec,.func (.func 46) #[] #[]] W fun e w' => e = .returned (.bool eb) ∧ Below W.heap.size W w')
  (hd : ∀ W,Below w.heap.size w W → Calls Tryz.prog 47 #[.slice dp dn dc,.func (.func 48) #[] #[]] W fun e w' => e = .returned (.bool db) ∧ Below W.heap.size W w')
  (hq : ∀ W,Below w.heap.size w W → Calls Tryz.prog 34 #[.slice fp fn fc,.func (.func 49) #[] #[]] W fun e w' => e = .returned (.bool qb) ∧ Below W.heap.size W w') :
  Calls Tryz.prog 15 #[.agg #[.slice tp tn tc,.slice imp imn imc,.slice fp fn fc,.slice tbp tbn tbc,.slice mp mn mc,.slice gp gn gc,.slice xp xn xc,.int .i64 st,.slice ep en ec,.slice dp dn dc,.bool cnt]] w fun e w' => e = .returned (.bool false) ∧ Below w.heap.size w w' := by
 have Ht := fun W h => hid (ht W h)
 have Him := fun W h => hid (him W h)
 have Hf := fun W h => hid (hf W h)
 have Htb := fun W h => hid (htb W h)
 have Hm := fun W h => hid (hm W h)
 have Hg := fun W h => hid (hg W h)
 have Hx := fun W h => hid (hx W h)
 have HS := fun W => hid (hs W)
 have He := fun W h => hid (he W h)
 have Hd := fun W h => hid (hd W h)
 have HQ := fun W h => hid (hq W h)
 have HBX := hid ((Below.refl w.heap.size w).alloc (Nat.le_refl _) (.cells #[.slice tp tn tc,.slice imp imn imc,.slice fp fn fc,.slice tbp tbn tbc,.slice mp mn mc,.slice gp gn gc,.slice xp xn xc,.int .i64 st,.slice ep en ec,.slice dp dn dc,.bool cnt] 32))
 have HX := hid (CA.new w #[.slice tp tn tc,.slice imp imn imc,.slice fp fn fc,.slice tbp tbn tbc,.slice mp mn mc,.slice gp gn gc,.slice xp xn xc,.int .i64 st,.slice ep en ec,.slice dp dn dc,.bool cnt] 32)
 obtain ⟨x0,x1,x2,x3,x4,x5,x6,x7,x8,x9,x10⟩ := ca11 HX.out
 clear ht him hf htb hm hg hx hs he hd hq
 go_enter Tryz.func15,Tryz.ntmps15
 go_wp2_with (first
  | (go_at_call 30; (with_reducible refine (Ht _ HBX.out).out.mono ?_); rintro e w10 ⟨rfl,hb⟩; have HB0 := hid (HBX.out.trans (hb.mono HBX.out.size)); have HX0 := hid (HX.out.below hb HX.out.lt); clear x0 x1 x2 x3 x4 x5 x6 x7 x8 x9 x10; obtain ⟨x0,x1,x2,x3,x4,x5,x6,x7,x8,x9,x10⟩ := ca11 HX0.out; clear hb)
  | (go_at_call 32; (with_reducible refine (Him _ HB0.out).out.mono ?_); rintro e w11 ⟨rfl,hb⟩; have HB1 := hid (HB0.out.trans (hb.mono HB0.out.size)); have HX1 := hid (HX0.out.below hb HX0.out.lt); clear x0 x1 x2 x3 x4 x5 x6 x7 x8 x9 x10; obtain ⟨x0,x1,x2,x3,x4,x5,x6,x7,x8,x9,x10⟩ := ca11 HX1.out; clear hb)
  | (go_at_call 34; (with_reducible refine (Hf _ HB1.out).out.mono ?_); rintro e w12 ⟨rfl,hb⟩; have HB2 := hid (HB1.out.trans (hb.mono HB1.out.size)); have HX2 := hid (HX1.out.below hb HX1.out.lt); clear x0 x1 x2 x3 x4 x5 x6 x7 x8 x9 x10; obtain ⟨x0,x1,x2,x3,x4,x5,x6,x7,x8,x9,x10⟩ := ca11 HX2.out; clear hb)
  | (go_at_call 36; (with_reducible refine (Htb _ HB2.out).out.mono ?_); rintro e w13 ⟨rfl,hb⟩; have HB3 := hid (HB2.out.trans (hb.mono HB2.out.size)); have HX3 := hid (HX2.out.below hb HX2.out.lt); clear x0 x1 x2 x3 x4 x5 x6 x7 x8 x9 x10; obtain ⟨x0,x1,x2,x3,x4,x5,x6,x7,x8,x9,x10⟩ := ca11 HX3.out; clear hb))
 go_ret
 exact ⟨rfl,HB3.out⟩
set_option maxHeartbeats 16000000 in
theorem MayG_4 (tp imp fp tbp mp gp xp ep dp : Option Addr) (tn tc imn imc fn fc tbn tbc mn mc gn gc xn xc en ec dn dc : Nat) (tb imb fb tbb mb gb xb sb eb db qb cnt : Bool) (st : Int) (w : World)
  (ht : ∀ W,Below w.heap.size w W → Calls Tryz.prog 30 #[.slice tp tn tc,.func (.func 31) #[] #[]] W fun e w' => e = .returned (.bool true) ∧ Below W.heap.size W w')
  (him : ∀ W,Below w.heap.size w W → Calls Tryz.prog 32 #[.slice imp imn imc,.func (.func 33) #[] #[]] W fun e w' => e = .returned (.bool true) ∧ Below W.heap.size W w')
  (hf : ∀ W,Below w.heap.size w W → Calls Tryz.prog 34 #[.slice fp fn fc,.func (.func 35) #[] #[]] W fun e w' => e = .returned (.bool true) ∧ Below W.heap.size W w')
  (htb : ∀ W,Below w.heap.size w W → Calls Tryz.prog 36 #[.slice tbp tbn tbc,.func (.func 37) #[] #[]] W fun e w' => e = .returned (.bool true) ∧ Below W.heap.size W w')
  (hm : ∀ W,Below w.heap.size w W → Calls Tryz.prog 38 #[.slice mp mn mc,.func (.func 39) #[] #[]] W fun e w' => e = .returned (.bool false) ∧ Below W.heap.size W w')
  (hg : ∀ W,Below w.heap.size w W → Calls Tryz.prog 40 #[.slice gp gn gc,.func (.func 41) #[] #[]] W fun e w' => e = .returned (.bool gb) ∧ Below W.heap.size W w')
  (hx : ∀ W,Below w.heap.size w W → Calls Tryz.prog 42 #[.slice xp xn xc,.func (.func 43) #[] #[]] W fun e w' => e = .returned (.bool xb) ∧ Below W.heap.size W w')
  (hs : ∀ W,Calls Tryz.prog 44 #[.int .i64 st] W fun e w' => e = .returned (.bool sb) ∧ W = w')
  (he : ∀ W,Below w.heap.size w W → Calls Tryz.prog 45 #[.slice ep en ec,.func (.func 46) #[] #[]] W fun e w' => e = .returned (.bool eb) ∧ Below W.heap.size W w')
  (hd : ∀ W,Below w.heap.size w W → Calls Tryz.prog 47 #[.slice dp dn dc,.func (.func 48) #[] #[]] W fun e w' => e = .returned (.bool db) ∧ Below W.heap.size W w')
  (hq : ∀ W,Below w.heap.size w W → Calls Tryz.prog 34 #[.slice fp fn fc,.func (.func 49) #[] #[]] W fun e w' => e = .returned (.bool qb) ∧ Below W.heap.size W w') :
  Calls Tryz.prog 15 #[.agg #[.slice tp tn tc,.slice imp imn imc,.slice fp fn fc,.slice tbp tbn tbc,.slice mp mn mc,.slice gp gn gc,.slice xp xn xc,.int .i64 st,.slice ep en ec,.slice dp dn dc,.bool cnt]] w fun e w' => e = .returned (.bool false) ∧ Below w.heap.size w w' := by
 have Ht := fun W h => hid (ht W h)
 have Him := fun W h => hid (him W h)
 have Hf := fun W h => hid (hf W h)
 have Htb := fun W h => hid (htb W h)
 have Hm := fun W h => hid (hm W h)
 have Hg := fun W h => hid (hg W h)
 have Hx := fun W h => hid (hx W h)
 have HS := fun W => hid (hs W)
 have He := fun W h => hid (he W h)
 have Hd := fun W h => hid (hd W h)
 have HQ := fun W h => hid (hq W h)
 have HBX := hid ((Below.refl w.heap.size w).alloc (Nat.le_refl _) (.cells #[.slice tp tn tc,.slice imp imn imc,.slice fp fn fc,.slice tbp tbn tbc,.slice mp mn mc,.slice gp gn gc,.slice xp xn xc,.int .i64 st,.slice ep en ec,.slice dp dn dc,.bool cnt] 32))
 have HX := hid (CA.new w #[.slice tp tn tc,.slice imp imn imc,.slice fp fn fc,.slice tbp tbn tbc,.slice mp mn mc,.slice gp gn gc,.slice xp xn xc,.int .i64 st,.slice ep en ec,.slice dp dn dc,.bool cnt] 32)
 obtain ⟨x0,x1,x2,x3,x4,x5,x6,x7,x8,x9,x10⟩ := ca11 HX.out
 clear ht him hf htb hm hg hx hs he hd hq
 go_enter Tryz.func15,Tryz.ntmps15
 go_wp2_with (first
  | (go_at_call 30; (with_reducible refine (Ht _ HBX.out).out.mono ?_); rintro e w10 ⟨rfl,hb⟩; have HB0 := hid (HBX.out.trans (hb.mono HBX.out.size)); have HX0 := hid (HX.out.below hb HX.out.lt); clear x0 x1 x2 x3 x4 x5 x6 x7 x8 x9 x10; obtain ⟨x0,x1,x2,x3,x4,x5,x6,x7,x8,x9,x10⟩ := ca11 HX0.out; clear hb)
  | (go_at_call 32; (with_reducible refine (Him _ HB0.out).out.mono ?_); rintro e w11 ⟨rfl,hb⟩; have HB1 := hid (HB0.out.trans (hb.mono HB0.out.size)); have HX1 := hid (HX0.out.below hb HX0.out.lt); clear x0 x1 x2 x3 x4 x5 x6 x7 x8 x9 x10; obtain ⟨x0,x1,x2,x3,x4,x5,x6,x7,x8,x9,x10⟩ := ca11 HX1.out; clear hb)
  | (go_at_call 34; (with_reducible refine (Hf _ HB1.out).out.mono ?_); rintro e w12 ⟨rfl,hb⟩; have HB2 := hid (HB1.out.trans (hb.mono HB1.out.size)); have HX2 := hid (HX1.out.below hb HX1.out.lt); clear x0 x1 x2 x3 x4 x5 x6 x7 x8 x9 x10; obtain ⟨x0,x1,x2,x3,x4,x5,x6,x7,x8,x9,x10⟩ := ca11 HX2.out; clear hb)
  | (go_at_call 36; (with_reducible refine (Htb _ HB2.out).out.mono ?_); rintro e w13 ⟨rfl,hb⟩; have HB3 := hid (HB2.out.trans (hb.mono HB2.out.size)); have HX3 := hid (HX2.out.below hb HX2.out.lt); clear x0 x1 x2 x3 x4 x5 x6 x7 x8 x9 x10; obtain ⟨x0,x1,x2,x3,x4,x5,x6,x7,x8,x9,x10⟩ := ca11 HX3.out; clear hb)
  | (go_at_call 38; (with_reducible refine (Hm _ HB3.out).out.mono ?_); rintro e w14 ⟨rfl,hb⟩; have HB4 := hid (HB3.out.trans (hb.mono HB3.out.size)); have HX4 := hid (HX3.out.below hb HX3.out.lt); clear x0 x1 x2 x3 x4 x5 x6 x7 x8 x9 x10; obtain ⟨x0,x1,x2,x3,x4,x5,x6,x7,x8,x9,x10⟩ := ca11 HX4.out; clear hb))
 go_ret
 exact ⟨rfl,HB4.out⟩
set_option maxHeartbeats 16000000 in
theorem MayG_5 (tp imp fp tbp mp gp xp ep dp : Option Addr) (tn tc imn imc fn fc tbn tbc mn mc gn gc xn xc en ec dn dc : Nat) (tb imb fb tbb mb gb xb sb eb db qb cnt : Bool) (st : Int) (w : World)
  (ht : ∀ W,Below w.heap.size w W → Calls Tryz.prog 30 #[.slice tp tn tc,.func (.func 31) #[] #[]] W fun e w' => e = .returned (.bool true) ∧ Below W.heap.size W w')
  (him : ∀ W,Below w.heap.size w W → Calls Tryz.prog 32 #[.slice imp imn imc,.func (.func 33) #[] #[]] W fun e w' => e = .returned (.bool true) ∧ Below W.heap.size W w')
  (hf : ∀ W,Below w.heap.size w W → Calls Tryz.prog 34 #[.slice fp fn fc,.func (.func 35) #[] #[]] W fun e w' => e = .returned (.bool true) ∧ Below W.heap.size W w')
  (htb : ∀ W,Below w.heap.size w W → Calls Tryz.prog 36 #[.slice tbp tbn tbc,.func (.func 37) #[] #[]] W fun e w' => e = .returned (.bool true) ∧ Below W.heap.size W w')
  (hm : ∀ W,Below w.heap.size w W → Calls Tryz.prog 38 #[.slice mp mn mc,.func (.func 39) #[] #[]] W fun e w' => e = .returned (.bool true) ∧ Below W.heap.size W w')
  (hg : ∀ W,Below w.heap.size w W → Calls Tryz.prog 40 #[.slice gp gn gc,.func (.func 41) #[] #[]] W fun e w' => e = .returned (.bool false) ∧ Below W.heap.size W w')
  (hx : ∀ W,Below w.heap.size w W → Calls Tryz.prog 42 #[.slice xp xn xc,.func (.func 43) #[] #[]] W fun e w' => e = .returned (.bool xb) ∧ Below W.heap.size W w')
  (hs : ∀ W,Calls Tryz.prog 44 #[.int .i64 st] W fun e w' => e = .returned (.bool sb) ∧ W = w')
  (he : ∀ W,Below w.heap.size w W → Calls Tryz.prog 45 #[.slice ep en ec,.func (.func 46) #[] #[]] W fun e w' => e = .returned (.bool eb) ∧ Below W.heap.size W w')
  (hd : ∀ W,Below w.heap.size w W → Calls Tryz.prog 47 #[.slice dp dn dc,.func (.func 48) #[] #[]] W fun e w' => e = .returned (.bool db) ∧ Below W.heap.size W w')
  (hq : ∀ W,Below w.heap.size w W → Calls Tryz.prog 34 #[.slice fp fn fc,.func (.func 49) #[] #[]] W fun e w' => e = .returned (.bool qb) ∧ Below W.heap.size W w') :
  Calls Tryz.prog 15 #[.agg #[.slice tp tn tc,.slice imp imn imc,.slice fp fn fc,.slice tbp tbn tbc,.slice mp mn mc,.slice gp gn gc,.slice xp xn xc,.int .i64 st,.slice ep en ec,.slice dp dn dc,.bool cnt]] w fun e w' => e = .returned (.bool false) ∧ Below w.heap.size w w' := by
 have Ht := fun W h => hid (ht W h)
 have Him := fun W h => hid (him W h)
 have Hf := fun W h => hid (hf W h)
 have Htb := fun W h => hid (htb W h)
 have Hm := fun W h => hid (hm W h)
 have Hg := fun W h => hid (hg W h)
 have Hx := fun W h => hid (hx W h)
 have HS := fun W => hid (hs W)
 have He := fun W h => hid (he W h)
 have Hd := fun W h => hid (hd W h)
 have HQ := fun W h => hid (hq W h)
 have HBX := hid ((Below.refl w.heap.size w).alloc (Nat.le_refl _) (.cells #[.slice tp tn tc,.slice imp imn imc,.slice fp fn fc,.slice tbp tbn tbc,.slice mp mn mc,.slice gp gn gc,.slice xp xn xc,.int .i64 st,.slice ep en ec,.slice dp dn dc,.bool cnt] 32))
 have HX := hid (CA.new w #[.slice tp tn tc,.slice imp imn imc,.slice fp fn fc,.slice tbp tbn tbc,.slice mp mn mc,.slice gp gn gc,.slice xp xn xc,.int .i64 st,.slice ep en ec,.slice dp dn dc,.bool cnt] 32)
 obtain ⟨x0,x1,x2,x3,x4,x5,x6,x7,x8,x9,x10⟩ := ca11 HX.out
 clear ht him hf htb hm hg hx hs he hd hq
 go_enter Tryz.func15,Tryz.ntmps15
 go_wp2_with (first
  | (go_at_call 30; (with_reducible refine (Ht _ HBX.out).out.mono ?_); rintro e w10 ⟨rfl,hb⟩; have HB0 := hid (HBX.out.trans (hb.mono HBX.out.size)); have HX0 := hid (HX.out.below hb HX.out.lt); clear x0 x1 x2 x3 x4 x5 x6 x7 x8 x9 x10; obtain ⟨x0,x1,x2,x3,x4,x5,x6,x7,x8,x9,x10⟩ := ca11 HX0.out; clear hb)
  | (go_at_call 32; (with_reducible refine (Him _ HB0.out).out.mono ?_); rintro e w11 ⟨rfl,hb⟩; have HB1 := hid (HB0.out.trans (hb.mono HB0.out.size)); have HX1 := hid (HX0.out.below hb HX0.out.lt); clear x0 x1 x2 x3 x4 x5 x6 x7 x8 x9 x10; obtain ⟨x0,x1,x2,x3,x4,x5,x6,x7,x8,x9,x10⟩ := ca11 HX1.out; clear hb)
  | (go_at_call 34; (with_reducible refine (Hf _ HB1.out).out.mono ?_); rintro e w12 ⟨rfl,hb⟩; have HB2 := hid (HB1.out.trans (hb.mono HB1.out.size)); have HX2 := hid (HX1.out.below hb HX1.out.lt); clear x0 x1 x2 x3 x4 x5 x6 x7 x8 x9 x10; obtain ⟨x0,x1,x2,x3,x4,x5,x6,x7,x8,x9,x10⟩ := ca11 HX2.out; clear hb)
  | (go_at_call 36; (with_reducible refine (Htb _ HB2.out).out.mono ?_); rintro e w13 ⟨rfl,hb⟩; have HB3 := hid (HB2.out.trans (hb.mono HB2.out.size)); have HX3 := hid (HX2.out.below hb HX2.out.lt); clear x0 x1 x2 x3 x4 x5 x6 x7 x8 x9 x10; obtain ⟨x0,x1,x2,x3,x4,x5,x6,x7,x8,x9,x10⟩ := ca11 HX3.out; clear hb)
  | (go_at_call 38; (with_reducible refine (Hm _ HB3.out).out.mono ?_); rintro e w14 ⟨rfl,hb⟩; have HB4 := hid (HB3.out.trans (hb.mono HB3.out.size)); have HX4 := hid (HX3.out.below hb HX3.out.lt); clear x0 x1 x2 x3 x4 x5 x6 x7 x8 x9 x10; obtain ⟨x0,x1,x2,x3,x4,x5,x6,x7,x8,x9,x10⟩ := ca11 HX4.out; clear hb)
  | (go_at_call 40; (with_reducible refine (Hg _ HB4.out).out.mono ?_); rintro e w15 ⟨rfl,hb⟩; have HB5 := hid (HB4.out.trans (hb.mono HB4.out.size)); have HX5 := hid (HX4.out.below hb HX4.out.lt); clear x0 x1 x2 x3 x4 x5 x6 x7 x8 x9 x10; obtain ⟨x0,x1,x2,x3,x4,x5,x6,x7,x8,x9,x10⟩ := ca11 HX5.out; clear hb))
 go_ret
 exact ⟨rfl,HB5.out⟩
end Go.Proofs.YtjgeedgphcjhoaaGreat
namespace Go.Proofs.YtjgeedgphcjhoaaGreat
open Go.RowKit
set_option maxHeartbeats 16000000 in
theorem MayG_6 (tp imp fp tbp mp gp xp ep dp : Option Addr) (tn tc imn imc fn fc tbn tbc mn mc gn gc xn xc en ec dn dc : Nat) (tb imb fb tbb mb gb xb sb eb db qb cnt : Bool) (st : Int) (w : World)
  (ht : ∀ W,Below w.heap.size w W → Calls Tryz.prog 30 #[.slice tp tn tc,.func (.func 31) #[] #[]] W fun e w' => e = .returned (.bool true) ∧ Below W.heap.size W w')
  (him : ∀ W,Below w.heap.size w W → Calls Tryz.prog 32 #[.slice imp imn imc,.func (.func 33) #[] #[]] W fun e w' => e = .returned (.bool true) ∧ Below W.heap.size W w')
  (hf : ∀ W,Below w.heap.size w W → Calls Tryz.prog 34 #[.slice fp fn fc,.func (.func 35) #[] #[]] W fun e w' => e = .returned (.bool true) ∧ Below W.heap.size W w')
  (htb : ∀ W,Below w.heap.size w W → Calls Tryz.prog 36 #[.slice tbp tbn tbc,.func (.func 37) #[] #[]] W fun e w' => e = .returned (.bool true) ∧ Below W.heap.size W w')
  (hm : ∀ W,Below w.heap.size w W → Calls Tryz.prog 38 #[.slice mp mn mc,.func (.func 39) #[] #[]] W fun e w' => e = .returned (.bool true) ∧ Below W.heap.size W w')
  (hg : ∀ W,Below w.heap.size w W → Calls Tryz.prog 40 #[.slice gp gn gc,.func (.func 41) #[] #[]] W fun e w' => e = .returned (.bool true) ∧ Below W.heap.size W w')
  (hx : ∀ W,Below w.heap.size w W → Calls Tryz.prog 42 #[.slice xp xn xc,.func (.func 43) #[] #[]] W fun e w' => e = .returned (.bool false) ∧ Below W.heap.size W w')
  (hs : ∀ W,Calls Tryz.prog 44 #[.int .i64 st] W fun e w' => e = .returned (.bool sb) ∧ W = w')
  (he : ∀ W,Below w.heap.size w W → Calls Tryz.prog 45 #[.slice ep en ec,.func (.func 46) #[] #[]] W fun e w' => e = .returned (.bool eb) ∧ Below W.heap.size W w')
  (hd : ∀ W,Below w.heap.size w W → Calls Tryz.prog 47 #[.slice dp dn dc,.func (.func 48) #[] #[]] W fun e w' => e = .returned (.bool db) ∧ Below W.heap.size W w')
  (hq : ∀ W,Below w.heap.size w W → Calls Tryz.prog 34 #[.slice fp fn fc,.func (.func 49) #[] #[]] W fun e w' => e = .returned (.bool qb) ∧ Below W.heap.size W w') :
  Calls Tryz.prog 15 #[.agg #[.slice tp tn tc,.slice imp imn imc,.slice fp fn fc,.slice tbp tbn tbc,.slice mp mn mc,.slice gp gn gc,.slice xp xn xc,.int .i64 st,.slice ep en ec,.slice dp dn dc,.bool cnt]] w fun e w' => e = .returned (.bool false) ∧ Below w.heap.size w w' := by
 have Ht := fun W h => hid (ht W h)
 have Him := fun W h => hid (him W h)
 have Hf := fun W h => hid (hf W h)
 have Htb := fun W h => hid (htb W h)
 have Hm := fun W h => hid (hm W h)
 have Hg := fun W h => hid (hg W h)
 have Hx := fun W h => hid (hx W h)
 have HS := fun W => hid (hs W)
 have He := fun W h => hid (he W h)
 have Hd := fun W h => hid (hd W h)
 have HQ := fun W h => hid (hq W h)
 have HBX := hid ((Below.refl w.heap.size w).alloc (Nat.le_refl _) (.cells #[.slice tp tn tc,.slice imp imn imc,.slice fp fn fc,.slice tbp tbn tbc,.slice mp mn mc,.slice gp gn gc,.slice xp xn xc,.int .i64 st,.slice ep en ec,.slice dp dn dc,.bool cnt] 32))
 have HX := hid (CA.new w #[.slice tp tn tc,.slice imp imn imc,.slice fp fn fc,.slice tbp tbn tbc,.slice mp mn mc,.slice gp gn gc,.slice xp xn xc,.int .i64 st,.slice ep en ec,.slice dp dn dc,.bool cnt] 32)
 obtain ⟨x0,x1,x2,x3,x4,x5,x6,x7,x8,x9,x10⟩ := ca11 HX.out
 clear ht him hf htb hm hg hx hs he hd hq
 go_enter Tryz.func15,Tryz.ntmps15
 go_wp2_with (first
  | (go_at_call 30; (with_reducible refine (Ht _ HBX.out).out.mono ?_); rintro e w10 ⟨rfl,hb⟩; have HB0 := hid (HBX.out.trans (hb.mono HBX.out.size)); have HX0 := hid (HX.out.below hb HX.out.lt); clear x0 x1 x2 x3 x4 x5 x6 x7 x8 x9 x10; obtain ⟨x0,x1,x2,x3,x4,x5,x6,x7,x8,x9,x10⟩ := ca11 HX0.out; clear hb)
  | (go_at_call 32; (with_reducible refine (Him _ HB0.out).out.mono ?_); rintro e w11 ⟨rfl,hb⟩; have HB1 := hid (HB0.out.trans (hb.mono HB0.out.size)); have HX1 := hid (HX0.out.below hb HX0.out.lt); clear x0 x1 x2 x3 x4 x5 x6 x7 x8 x9 x10; obtain ⟨x0,x1,x2,x3,x4,x5,x6,x7,x8,x9,x10⟩ := ca11 HX1.out; clear hb)
  | (go_at_call 34; (with_reducible refine (Hf _ HB1.out).out.mono ?_); rintro e w12 ⟨rfl,hb⟩; have HB2 := hid (HB1.out.trans (hb.mono HB1.out.size)); have HX2 := hid (HX1.out.below hb HX1.out.lt); clear x0 x1 x2 x3 x4 x5 x6 x7 x8 x9 x10; obtain ⟨x0,x1,x2,x3,x4,x5,x6,x7,x8,x9,x10⟩ := ca11 HX2.out; clear hb)
  | (go_at_call 36; (with_reducible refine (Htb _ HB2.out).out.mono ?_); rintro e w13 ⟨rfl,hb⟩; have HB3 := hid (HB2.out.trans (hb.mono HB2.out.size)); have HX3 := hid (HX2.out.below hb HX2.out.lt); clear x0 x1 x2 x3 x4 x5 x6 x7 x8 x9 x10; obtain ⟨x0,x1,x2,x3,x4,x5,x6,x7,x8,x9,x10⟩ := ca11 HX3.out; clear hb)
  | (go_at_call 38; (with_reducible refine (Hm _ HB3.out).out.mono ?_); rintro e w14 ⟨rfl,hb⟩; have HB4 := hid (HB3.out.trans (hb.mono HB3.out.size)); have HX4 := hid (HX3.out.below hb HX3.out.lt); clear x0 x1 x2 x3 x4 x5 x6 x7 x8 x9 x10; obtain ⟨x0,x1,x2,x3,x4,x5,x6,x7,x8,x9,x10⟩ := ca11 HX4.out; clear hb)
  | (go_at_call 40; (with_reducible refine (Hg _ HB4.out).out.mono ?_); rintro e w15 ⟨rfl,hb⟩; have HB5 := hid (HB4.out.trans (hb.mono HB4.out.size)); have HX5 := hid (HX4.out.below hb HX4.out.lt); clear x0 x1 x2 x3 x4 x5 x6 x7 x8 x9 x10; obtain ⟨x0,x1,x2,x3,x4,x5,x6,x7,x8,x9,x10⟩ := ca11 HX5.out; clear hb)
  | (go_at_call 42; (with_reducible refine (Hx _ HB5.out).out.mono ?_); rintro e w16 ⟨rfl,hb⟩; have HB6 := hid (HB5.out.trans (hb.mono HB5.out.size)); have HX6 := hid (HX5.out.below hb HX5.out.lt); clear x0 x1 x2 x3 x4 x5 x6 x7 x8 x9 x10; obtain ⟨x0,x1,x2,x3,x4,x5,x6,x7,x8,x9,x10⟩ := ca11 HX6.out; clear hb))
 go_ret
 exact ⟨rfl,HB6.out⟩
set_option maxHeartbeats 16000000 in
theorem MayG_7 (tp imp fp tbp mp gp xp ep dp : Option Addr) (tn tc imn imc fn fc tbn tbc mn mc gn gc xn xc en ec dn dc : Nat) (tb imb fb tbb mb gb xb sb eb db qb cnt : Bool) (st : Int) (w : World)
  (ht : ∀ W,Below w.heap.size w W → Calls Tryz.prog 30 #[.slice tp tn tc,.func (.func 31) #[] #[]] W fun e w' => e = .returned (.bool true) ∧ Below W.heap.size W w')
  (him : ∀ W,Below w.heap.size w W → Calls Tryz.prog 32 #[.slice imp imn imc,.func (.func 33) #[] #[]] W fun e w' => e = .returned (.bool true) ∧ Below W.heap.size W w')
  (hf : ∀ W,Below w.heap.size w W → Calls Tryz.prog 34 #[.slice fp fn fc,.func (.func 35) #[] #[]] W fun e w' => e = .returned (.bool true) ∧ Below W.heap.size W w')
  (htb : ∀ W,Below w.heap.size w W → Calls Tryz.prog 36 #[.slice tbp tbn tbc,.func (.func 37) #[] #[]] W fun e w' => e = .returned (.bool true) ∧ Below W.heap.size W w')
  (hm : ∀ W,Below w.heap.size w W → Calls Tryz.prog 38 #[.slice mp mn mc,.func (.func 39) #[] #[]] W fun e w' => e = .returned (.bool true) ∧ Below W.heap.size W w')
  (hg : ∀ W,Below w.heap.size w W → Calls Tryz.prog 40 #[.slice gp gn gc,.func (.func 41) #[] #[]] W fun e w' => e = .returned (.bool true) ∧ Below W.heap.size W w')
  (hx : ∀ W,Below w.heap.size w W → Calls Tryz.prog 42 #[.slice xp xn xc,.func (.func 43) #[] #[]] W fun e w' => e = .returned (.bool true) ∧ Below W.heap.size W w')
  (hs : ∀ W,Calls Tryz.prog 44 #[.int .i64 st] W fun e w' => e = .returned (.bool false) ∧ W = w')
  (he : ∀ W,Below w.heap.size w W → Calls Tryz.prog 45 #[.slice ep en ec,.func (.func 46) #[] #[]] W fun e w' => e = .returned (.bool eb) ∧ Below W.heap.size W w')
  (hd : ∀ W,Below w.heap.size w W → Calls Tryz.prog 47 #[.slice dp dn dc,.func (.func 48) #[] #[]] W fun e w' => e = .returned (.bool db) ∧ Below W.heap.size W w')
  (hq : ∀ W,Below w.heap.size w W → Calls Tryz.prog 34 #[.slice fp fn fc,.func (.func 49) #[] #[]] W fun e w' => e = .returned (.bool qb) ∧ Below W.heap.size W w') :
  Calls Tryz.prog 15 #[.agg #[.slice tp tn tc,.slice imp imn imc,.slice fp fn fc,.slice tbp tbn tbc,.slice mp mn mc,.slice gp gn gc,.slice xp xn xc,.int .i64 st,.slice ep en ec,.slice dp dn dc,.bool cnt]] w fun e w' => e = .returned (.bool false) ∧ Below w.heap.size w w' := by
 have Ht := fun W h => hid (ht W h)
 have Him := fun W h => hid (him W h)
 have Hf := fun W h => hid (hf W h)
 have Htb := fun W h => hid (htb W h)
 have Hm := fun W h => hid (hm W h)
 have Hg := fun W h => hid (hg W h)
 have Hx := fun W h => hid (hx W h)
 have HS := fun W => hid (hs W)
 have He := fun W h => hid (he W h)
 have Hd := fun W h => hid (hd W h)
 have HQ := fun W h => hid (hq W h)
 have HBX := hid ((Below.refl w.heap.size w).alloc (Nat.le_refl _) (.cells #[.slice tp tn tc,.slice imp imn imc,.slice fp fn fc,.slice tbp tbn tbc,.slice mp mn mc,.slice gp gn gc,.slice xp xn xc,.int .i64 st,.slice ep en ec,.slice dp dn dc,.bool cnt] 32))
 have HX := hid (CA.new w #[.slice tp tn tc,.slice imp imn imc,.slice fp fn fc,.slice tbp tbn tbc,.slice mp mn mc,.slice gp gn gc,.slice xp xn xc,.int .i64 st,.slice ep en ec,.slice dp dn dc,.bool cnt] 32)
 obtain ⟨x0,x1,x2,x3,x4,x5,x6,x7,x8,x9,x10⟩ := ca11 HX.out
 clear ht him hf htb hm hg hx hs he hd hq
 go_enter Tryz.func15,Tryz.ntmps15
 go_wp2_with (first
  | (go_at_call 30; (with_reducible refine (Ht _ HBX.out).out.mono ?_); rintro e w10 ⟨rfl,hb⟩; have HB0 := hid (HBX.out.trans (hb.mono HBX.out.size)); have HX0 := hid (HX.out.below hb HX.out.lt); clear x0 x1 x2 x3 x4 x5 x6 x7 x8 x9 x10; obtain ⟨x0,x1,x2,x3,x4,x5,x6,x7,x8,x9,x10⟩ := ca11 HX0.out; clear hb)
  | (go_at_call 32; (with_reducible refine (Him _ HB0.out).out.mono ?_); rintro e w11 ⟨rfl,hb⟩; have HB1 := hid (HB0.out.trans (hb.mono HB0.out.size)); have HX1 := hid (HX0.out.below hb HX0.out.lt); clear x0 x1 x2 x3 x4 x5 x6 x7 x8 x9 x10; obtain ⟨x0,x1,x2,x3,x4,x5,x6,x7,x8,x9,x10⟩ := ca11 HX1.out; clear hb)
  | (go_at_call 34; (with_reducible refine (Hf _ HB1.out).out.mono ?_); rintro e w12 ⟨rfl,hb⟩; have HB2 := hid (HB1.out.trans (hb.mono HB1.out.size)); have HX2 := hid (HX1.out.below hb HX1.out.lt); clear x0 x1 x2 x3 x4 x5 x6 x7 x8 x9 x10; obtain ⟨x0,x1,x2,x3,x4,x5,x6,x7,x8,x9,x10⟩ := ca11 HX2.out; clear hb)
  | (go_at_call 36; (with_reducible refine (Htb _ HB2.out).out.mono ?_); rintro e w13 ⟨rfl,hb⟩; have HB3 := hid (HB2.out.trans (hb.mono HB2.out.size)); have HX3 := hid (HX2.out.below hb HX2.out.lt); clear x0 x1 x2 x3 x4 x5 x6 x7 x8 x9 x10; obtain ⟨x0,x1,x2,x3,x4,x5,x6,x7,x8,x9,x10⟩ := ca11 HX3.out; clear hb)
  | (go_at_call 38; (with_reducible refine (Hm _ HB3.out).out.mono ?_); rintro e w14 ⟨rfl,hb⟩; have HB4 := hid (HB3.out.trans (hb.mono HB3.out.size)); have HX4 := hid (HX3.out.below hb HX3.out.lt); clear x0 x1 x2 x3 x4 x5 x6 x7 x8 x9 x10; obtain ⟨x0,x1,x2,x3,x4,x5,x6,x7,x8,x9,x10⟩ := ca11 HX4.out; clear hb)
  | (go_at_call 40; (with_reducible refine (Hg _ HB4.out).out.mono ?_); rintro e w15 ⟨rfl,hb⟩; have HB5 := hid (HB4.out.trans (hb.mono HB4.out.size)); have HX5 := hid (HX4.out.below hb HX4.out.lt); clear x0 x1 x2 x3 x4 x5 x6 x7 x8 x9 x10; obtain ⟨x0,x1,x2,x3,x4,x5,x6,x7,x8,x9,x10⟩ := ca11 HX5.out; clear hb)
  | (go_at_call 42; (with_reducible refine (Hx _ HB5.out).out.mono ?_); rintro e w16 ⟨rfl,hb⟩; have HB6 := hid (HB5.out.trans (hb.mono HB5.out.size)); have HX6 := hid (HX5.out.below hb HX5.out.lt); clear x0 x1 x2 x3 x4 x5 x6 x7 x8 x9 x10; obtain ⟨x0,x1,x2,x3,x4,x5,x6,x7,x8,x9,x10⟩ := ca11 HX6.out; clear hb)
  | (go_at_call 44; (with_reducible refine (HS _).out.mono ?_); rintro e w5 ⟨rfl,rfl⟩))
 go_ret
 exact ⟨rfl,HB6.out⟩
end Go.Proofs.YtjgeedgphcjhoaaGreat
namespace Go.Proofs.YtjgeedgphcjhoaaGreat
open Go.RowKit
set_option maxHeartbeats 16000000 in
theorem MayG_8 (tp imp fp tbp mp gp xp ep dp : Option Addr) (tn tc imn imc fn fc tbn tbc mn mc gn gc xn xc en ec dn dc : Nat) (tb imb fb tbb mb gb xb sb eb db qb cnt : Bool) (st : Int) (w : World)
  (ht : ∀ W,Below w.heap.size w W → Calls Tryz.prog 30 #[.slice tp tn tc,.func (.func 31) #[] #[]] W fun e w' => e = .returned (.bool true) ∧ Below W.heap.size W w')
  (him : ∀ W,Below w.heap.size w W → Calls Tryz.prog 32 #[.slice imp imn imc,.func (.func 33) #[] #[]] W fun e w' => e = .returned (.bool true) ∧ Below W.heap.size W w')
  (hf : ∀ W,Below w.heap.size w W → Calls Tryz.prog 34 #[.slice fp fn fc,.func (.func 35) #[] #[]] W fun e w' => e = .returned (.bool true) ∧ Below W.heap.size W w')
  (htb : ∀ W,Below w.heap.size w W → Calls Tryz.prog 36 #[.slice tbp tbn tbc,.func (.func 37) #[] #[]] W fun e w' => e = .returned (.bool true) ∧ Below W.heap.size W w')
  (hm : ∀ W,Below w.heap.size w W → Calls Tryz.prog 38 #[.slice mp mn mc,.func (.func 39) #[] #[]] W fun e w' => e = .returned (.bool true) ∧ Below W.heap.size W w')
  (hg : ∀ W,Below w.heap.size w W → Calls Tryz.prog 40 #[.slice gp gn gc,.func (.func 41) #[] #[]] W fun e w' => e = .returned (.bool true) ∧ Below W.heap.size W w')
  (hx : ∀ W,Below w.heap.size w W → Calls Tryz.prog 42 #[.slice xp xn xc,.func (.func 43) #[] #[]] W fun e w' => e = .returned (.bool true) ∧ Below W.heap.size W w')
  (hs : ∀ W,Calls Tryz.prog 44 #[.int .i64 st] W fun e w' => e = .returned (.bool true) ∧ W = w')
  (he : ∀ W,Below w.heap.size w W → Calls Tryz.prog 45 #[.slice ep en ec,.func (.func 46) #[] #[]] W fun e w' => e = .returned (.bool false) ∧ Below W.heap.size W w')
  (hd : ∀ W,Below w.heap.size w W → Calls Tryz.prog 47 #[.slice dp dn dc,.func (.func 48) #[] #[]] W fun e w' => e = .returned (.bool db) ∧ Below W.heap.size W w')
  (hq : ∀ W,Below w.heap.size w W → Calls Tryz.prog 34 #[.slice fp fn fc,.func (.func 49) #[] #[]] W fun e w' => e = .returned (.bool qb) ∧ Below W.heap.size W w') :
  Calls Tryz.prog 15 #[.agg #[.slice tp tn tc,.slice imp imn imc,.slice fp fn fc,.slice tbp tbn tbc,.slice mp mn mc,.slice gp gn gc,.slice xp xn xc,.int .i64 st,.slice ep en ec,.slice dp dn dc,.bool cnt]] w fun e w' => e = .returned (.bool false) ∧ Below w.heap.size w w' := by
 have Ht := fun W h => hid (ht W h)
 have Him := fun W h => hid (him W h)
 have Hf := fun W h => hid (hf W h)
 have Htb := fun W h => hid (htb W h)
 have Hm := fun W h => hid (hm W h)
 have Hg := fun W h => hid (hg W h)
 have Hx := fun W h => hid (hx W h)
 have HS := fun W => hid (hs W)
 have He := fun W h => hid (he W h)
 have Hd := fun W h => hid (hd W h)
 have HQ := fun W h => hid (hq W h)
 have HBX := hid ((Below.refl w.heap.size w).alloc (Nat.le_refl _) (.cells #[.slice tp tn tc,.slice imp imn imc,.slice fp fn fc,.slice tbp tbn tbc,.slice mp mn mc,.slice gp gn gc,.slice xp xn xc,.int .i64 st,.slice ep en ec,.slice dp dn dc,.bool cnt] 32))
 have HX := hid (CA.new w #[.slice tp tn tc,.slice imp imn imc,.slice fp fn fc,.slice tbp tbn tbc,.slice mp mn mc,.slice gp gn gc,.slice xp xn xc,.int .i64 st,.slice ep en ec,.slice dp dn dc,.bool cnt] 32)
 obtain ⟨x0,x1,x2,x3,x4,x5,x6,x7,x8,x9,x10⟩ := ca11 HX.out
 clear ht him hf htb hm hg hx hs he hd hq
 go_enter Tryz.func15,Tryz.ntmps15
 go_wp2_with (first
  | (go_at_call 30; (with_reducible refine (Ht _ HBX.out).out.mono ?_); rintro e w10 ⟨rfl,hb⟩; have HB0 := hid (HBX.out.trans (hb.mono HBX.out.size)); have HX0 := hid (HX.out.below hb HX.out.lt); clear x0 x1 x2 x3 x4 x5 x6 x7 x8 x9 x10; obtain ⟨x0,x1,x2,x3,x4,x5,x6,x7,x8,x9,x10⟩ := ca11 HX0.out; clear hb)
  | (go_at_call 32; (with_reducible refine (Him _ HB0.out).out.mono ?_); rintro e w11 ⟨rfl,hb⟩; have HB1 := hid (HB0.out.trans (hb.mono HB0.out.size)); have HX1 := hid (HX0.out.below hb HX0.out.lt); clear x0 x1 x2 x3 x4 x5 x6 x7 x8 x9 x10; obtain ⟨x0,x1,x2,x3,x4,x5,x6,x7,x8,x9,x10⟩ := ca11 HX1.out; clear hb)
  | (go_at_call 34; (with_reducible refine (Hf _ HB1.out).out.mono ?_); rintro e w12 ⟨rfl,hb⟩; have HB2 := hid (HB1.out.trans (hb.mono HB1.out.size)); have HX2 := hid (HX1.out.below hb HX1.out.lt); clear x0 x1 x2 x3 x4 x5 x6 x7 x8 x9 x10; obtain ⟨x0,x1,x2,x3,x4,x5,x6,x7,x8,x9,x10⟩ := ca11 HX2.out; clear hb)
  | (go_at_call 36; (with_reducible refine (Htb _ HB2.out).out.mono ?_); rintro e w13 ⟨rfl,hb⟩; have HB3 := hid (HB2.out.trans (hb.mono HB2.out.size)); have HX3 := hid (HX2.out.below hb HX2.out.lt); clear x0 x1 x2 x3 x4 x5 x6 x7 x8 x9 x10; obtain ⟨x0,x1,x2,x3,x4,x5,x6,x7,x8,x9,x10⟩ := ca11 HX3.out; clear hb)
  | (go_at_call 38; (with_reducible refine (Hm _ HB3.out).out.mono ?_); rintro e w14 ⟨rfl,hb⟩; have HB4 := hid (HB3.out.trans (hb.mono HB3.out.size)); have HX4 := hid (HX3.out.below hb HX3.out.lt); clear x0 x1 x2 x3 x4 x5 x6 x7 x8 x9 x10; obtain ⟨x0,x1,x2,x3,x4,x5,x6,x7,x8,x9,x10⟩ := ca11 HX4.out; clear hb)
  | (go_at_call 40; (with_reducible refine (Hg _ HB4.out).out.mono ?_); rintro e w15 ⟨rfl,hb⟩; have HB5 := hid (HB4.out.trans (hb.mono HB4.out.size)); have HX5 := hid (HX4.out.below hb HX4.out.lt); clear x0 x1 x2 x3 x4 x5 x6 x7 x8 x9 x10; obtain ⟨x0,x1,x2,x3,x4,x5,x6,x7,x8,x9,x10⟩ := ca11 HX5.out; clear hb)
  | (go_at_call 42; (with_reducible refine (Hx _ HB5.out).out.mono ?_); rintro e w16 ⟨rfl,hb⟩; have HB6 := hid (HB5.out.trans (hb.mono HB5.out.size)); have HX6 := hid (HX5.out.below hb HX5.out.lt); clear x0 x1 x2 x3 x4 x5 x6 x7 x8 x9 x10; obtain ⟨x0,x1,x2,x3,x4,x5,x6,x7,x8,x9,x10⟩ := ca11 HX6.out; clear hb)
  | (go_at_call 44; (with_reducible refine (HS _).out.mono ?_); rintro e w5 ⟨rfl,rfl⟩)
  | (go_at_call 45; (with_reducible refine (He _ HB6.out).out.mono ?_); rintro e w18 ⟨rfl,hb⟩; have HB8 := hid (HB6.out.trans (hb.mono HB6.out.size)); have HX8 := hid (HX6.out.below hb HX6.out.lt); clear x0 x1 x2 x3 x4 x5 x6 x7 x8 x9 x10; obtain ⟨x0,x1,x2,x3,x4,x5,x6,x7,x8,x9,x10⟩ := ca11 HX8.out; clear hb))
 go_ret
 exact ⟨rfl,HB8.out⟩
set_option maxHeartbeats 16000000 in
theorem MayG_9 (tp imp fp tbp mp gp xp ep dp : Option Addr) (tn tc imn imc fn fc tbn tbc mn mc gn gc xn xc en ec dn dc : Nat) (tb imb fb tbb mb gb xb sb eb db qb cnt : Bool) (st : Int) (w : World)
  (ht : ∀ W,Below w.heap.size w W → Calls Tryz.prog 30 #[.slice tp tn tc,.func (.func 31) #[] #[]] W fun e w' => e = .returned (.bool true) ∧ Below W.heap.size W w')
  (him : ∀ W,Below w.heap.size w W → Calls Tryz.prog 32 #[.slice imp imn imc,.func (.func 33) #[] #[]] W fun e w' => e = .returned (.bool true) ∧ Below W.heap.size W w')
  (hf : ∀ W,Below w.heap.size w W → Calls Tryz.prog 34 #[.slice fp fn fc,.func (.func 35) #[] #[]] W fun e w' => e = .returned (.bool true) ∧ Below W.heap.size W w')
  (htb : ∀ W,Below w.heap.size w W → Calls Tryz.prog 36 #[.slice tbp tbn tbc,.func (.func 37) #[] #[]] W fun e w' => e = .returned (.bool true) ∧ Below W.heap.size W w')
  (hm : ∀ W,Below w.heap.size w W → Calls Tryz.prog 38 #[.slice mp mn mc,.func (.func 39) #[] #[]] W fun e w' => e = .returned (.bool true) ∧ Below W.heap.size W w')
  (hg : ∀ W,Below w.heap.size w W → Calls Tryz.prog 40 #[.slice gp gn gc,.func (.func 41) #[] #[]] W fun e w' => e = .returned (.bool true) ∧ Below W.heap.size W w')
  (hx : ∀ W,Below w.heap.size w W → Calls Tryz.prog 42 #[.slice xp xn xc,.func (.func 43) #[] #[]] W fun e w' => e = .returned (.bool true) ∧ Below W.heap.size W w')
  (hs : ∀ W,Calls Tryz.prog 44 #[.int .i64 st] W fun e w' => e = .returned (.bool true) ∧ W = w')
  (he : ∀ W,Below w.heap.size w W → Calls Tryz.prog 45 #[.slice ep en ec,.func (.func 46) #[] #[]] W fun e w' => e = .returned (.bool true) ∧ Below W.heap.size W w')
  (hd : ∀ W,Below w.heap.size w W → Calls Tryz.prog 47 #[.slice dp dn dc,.func (.func 48) #[] #[]] W fun e w' => e = .returned (.bool false) ∧ Below W.heap.size W w')
  (hq : ∀ W,Below w.heap.size w W → Calls Tryz.prog 34 #[.slice fp fn fc,.func (.func 49) #[] #[]] W fun e w' => e = .returned (.bool qb) ∧ Below W.heap.size W w') :
  Calls Tryz.prog 15 #[.agg #[.slice tp tn tc,.slice imp imn imc,.slice fp fn fc,.slice tbp tbn tbc,.slice mp mn mc,.slice gp gn gc,.slice xp xn xc,.int .i64 st,.slice ep en ec,.slice dp dn dc,.bool cnt]] w fun e w' => e = .returned (.bool false) ∧ Below w.heap.size w w' := by
 have Ht := fun W h => hid (ht W h)
 have Him := fun W h => hid (him W h)
 have Hf := fun W h => hid (hf W h)
 have Htb := fun W h => hid (htb W h)
 have Hm := fun W h => hid (hm W h)
 have Hg := fun W h => hid (hg W h)
 have Hx := fun W h => hid (hx W h)
 have HS := fun W => hid (hs W)
 have He := fun W h => hid (he W h)
 have Hd := fun W h => hid (hd W h)
 have HQ := fun W h => hid (hq W h)
 have HBX := hid ((Below.refl w.heap.size w).alloc (Nat.le_refl _) (.cells #[.slice tp tn tc,.slice imp imn imc,.slice fp fn fc,.slice tbp tbn tbc,.slice mp mn mc,.slice gp gn gc,.slice xp xn xc,.int .i64 st,.slice ep en ec,.slice dp dn dc,.bool cnt] 32))
 have HX := hid (CA.new w #[.slice tp tn tc,.slice imp imn imc,.slice fp fn fc,.slice tbp tbn tbc,.slice mp mn mc,.slice gp gn gc,.slice xp xn xc,.int .i64 st,.slice ep en ec,.slice dp dn dc,.bool cnt] 32)
 obtain ⟨x0,x1,x2,x3,x4,x5,x6,x7,x8,x9,x10⟩ := ca11 HX.out
 clear ht him hf htb hm hg hx hs he hd hq
 go_enter Tryz.func15,Tryz.ntmps15
 go_wp2_with (first
  | (go_at_call 30; (with_reducible refine (Ht _ HBX.out).out.mono ?_); rintro e w10 ⟨rfl,hb⟩; have HB0 := hid (HBX.out.trans (hb.mono HBX.out.size)); have HX0 := hid (HX.out.below hb HX.out.lt); clear x0 x1 x2 x3 x4 x5 x6 x7 x8 x9 x10; obtain ⟨x0,x1,x2,x3,x4,x5,x6,x7,x8,x9,x10⟩ := ca11 HX0.out; clear hb)
  | (go_at_call 32; (with_reducible refine (Him _ HB0.out).out.mono ?_); rintro e w11 ⟨rfl,hb⟩; have HB1 := hid (HB0.out.trans (hb.mono HB0.out.size)); have HX1 := hid (HX0.out.below hb HX0.out.lt); clear x0 x1 x2 x3 x4 x5 x6 x7 x8 x9 x10; obtain ⟨x0,x1,x2,x3,x4,x5,x6,x7,x8,x9,x10⟩ := ca11 HX1.out; clear hb)
  | (go_at_call 34; (with_reducible refine (Hf _ HB1.out).out.mono ?_); rintro e w12 ⟨rfl,hb⟩; have HB2 := hid (HB1.out.trans (hb.mono HB1.out.size)); have HX2 := hid (HX1.out.below hb HX1.out.lt); clear x0 x1 x2 x3 x4 x5 x6 x7 x8 x9 x10; obtain ⟨x0,x1,x2,x3,x4,x5,x6,x7,x8,x9,x10⟩ := ca11 HX2.out; clear hb)
  | (go_at_call 36; (with_reducible refine (Htb _ HB2.out).out.mono ?_); rintro e w13 ⟨rfl,hb⟩; have HB3 := hid (HB2.out.trans (hb.mono HB2.out.size)); have HX3 := hid (HX2.out.below hb HX2.out.lt); clear x0 x1 x2 x3 x4 x5 x6 x7 x8 x9 x10; obtain ⟨x0,x1,x2,x3,x4,x5,x6,x7,x8,x9,x10⟩ := ca11 HX3.out; clear hb)
  | (go_at_call 38; (with_reducible refine (Hm _ HB3.out).out.mono ?_); rintro e w14 ⟨rfl,hb⟩; have HB4 := hid (HB3.out.trans (hb.mono HB3.out.size)); have HX4 := hid (HX3.out.below hb HX3.out.lt); clear x0 x1 x2 x3 x4 x5 x6 x7 x8 x9 x10; obtain ⟨x0,x1,x2,x3,x4,x5,x6,x7,x8,x9,x10⟩ := ca11 HX4.out; clear hb)
  | (go_at_call 40; (with_reducible refine (Hg _ HB4.out).out.mono ?_); rintro e w15 ⟨rfl,hb⟩; have HB5 := hid (HB4.out.trans (hb.mono HB4.out.size)); have HX5 := hid (HX4.out.below hb HX4.out.lt); clear x0 x1 x2 x3 x4 x5 x6 x7 x8 x9 x10; obtain ⟨x0,x1,x2,x3,x4,x5,x6,x7,x8,x9,x10⟩ := ca11 HX5.out; clear hb)
  | (go_at_call 42; (with_reducible refine (Hx _ HB5.out).out.mono ?_); rintro e w16 ⟨rfl,hb⟩; have HB6 := hid (HB5.out.trans (hb.mono HB5.out.size)); have HX6 := hid (HX5.out.below hb HX5.out.lt); clear x0 x1 x2 x3 x4 x5 x6 x7 x8 x9 x10; obtain ⟨x0,x1,x2,x3,x4,x5,x6,x7,x8,x9,x10⟩ := ca11 HX6.out; clear hb)
  | (go_at_call 44; (with_reducible refine (HS _).out.mono ?_); rintro e w5 ⟨rfl,rfl⟩)
  | (go_at_call 45; (with_reducible refine (He _ HB6.out).out.mono ?_); rintro e w18 ⟨rfl,hb⟩; have HB8 := hid (HB6.out.trans (hb.mono HB6.out.size)); have HX8 := hid (HX6.out.below hb HX6.out.lt); clear x0 x1 x2 x3 x4 x5 x6 x7 x8 x9 x10; obtain ⟨x0,x1,x2,x3,x4,x5,x6,x7,x8,x9,x10⟩ := ca11 HX8.out; clear hb)
  | (go_at_call 47; (with_reducible refine (Hd _ HB8.out).out.mono ?_); rintro e w19 ⟨rfl,hb⟩; have HB9 := hid (HB8.out.trans (hb.mono HB8.out.size)); have HX9 := hid (HX8.out.below hb HX8.out.lt); clear x0 x1 x2 x3 x4 x5 x6 x7 x8 x9 x10; obtain ⟨x0,x1,x2,x3,x4,x5,x6,x7,x8,x9,x10⟩ := ca11 HX9.out; clear hb))
 go_ret
 exact ⟨rfl,HB9.out⟩
end Go.Proofs.YtjgeedgphcjhoaaGreat
