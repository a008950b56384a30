/-
  EOneP: merged, what the law does not reach left out (each text says what it holds where it lies in wip). No condition.
-/
import Derived.Test.YtjgeedgphcjhoaaGreatO03
import Derived.Test.YtjgeedgphcjhoaaGreatO06
import Derived.Test.YtjgeedgphcjhoaaGreatO12
import Derived.Test.YtjgeedgphcjhoaaGreatO24
import Derived.Test.YtjgeedgphcjhoaaGreatO23
import Derived.Test.YtjgeedgphcjhoaaGreatO30
import Derived.Deep.RegionHeld3
set_option linter.unusedSimpArgs false
set_option linter.unusedVariables false
set_option maxRecDepth 100000
namespace Go.Proofs.YtjgeedgphcjhoaaGreat
open Go.RowKit
theorem nil_of {b : Bool} {W w' : World} {e : Ending} (h : e = .returned (.bool b) ∧ W = w') : e = .returned (.bool b) ∧ Below W.heap.size W w' := ⟨h.1,h.2 ▸ Below.refl _ _⟩
theorem PMay_f (f : Fo) (hn : f.cnt < 9223372036854775806) (p : Option Addr) (c gf : Nat) (cnt : Bool) (w : World) (hc : CA gf #[.int .i64 0,.slice none 0 0,.slice p f.len c] 42 w) (hs : SA w.heap.size w (.slice p f.len c) f) :
  Calls Tryz.prog 15 #[.agg #[.slice none 0 0,.slice none 0 0,.slice (some ⟨gf,0,none⟩) 1 1,.slice none 0 0,.slice none 0 0,.slice none 0 0,.slice none 0 0,.int .i64 0,.slice none 0 0,.slice none 0 0,.bool cnt]] w fun e w' => e = .returned (.bool (codeB f && (cnt || dataB f))) ∧ Below w.heap.size w w' := by
 have h1 : ∀ W,Below w.heap.size w W → Calls Tryz.prog 34 #[.slice (some ⟨gf,0,none⟩) 1 1,.func (.func 35) #[] #[]] W fun e w' => e = .returned (.bool (codeB f)) ∧ Below W.heap.size W w' := by
  intro W hW
  have hcW := hc.below hW hc.lt
  have := all_code 35 (fun _ _ => rfl) (fun _ => codeB f) 1 gf 0 1 (fun _ => 0) (fun _ => none) (fun _ => 0) (fun _ => 0) (fun _ => p) (fun _ => f.len) (fun _ => c) W hcW.lt (by decide)
   (fun i hi => by
    obtain rfl : i = 0 := by omega
    exact ⟨hcW.at rfl,hcW.at rfl,hcW.at rfl⟩)
   (fun i hi W' hW' => by
    have := isFunc_says 0 [] f none p 0 c w.heap.size W' hn (Nat.le_trans hW.size hW'.size) (LI.nil _ _ _ _) (SA.below hs (hW.trans (hW'.mono hW.size)))
    simpa [show idxB 0 = true from rfl] using this)
  simpa [List.range_succ] using this
 have h2 : ∀ W,Below w.heap.size w W → Calls Tryz.prog 34 #[.slice (some ⟨gf,0,none⟩) 1 1,.func (.func 49) #[] #[]] W fun e w' => e = .returned (.bool (dataB f)) ∧ Below W.heap.size W w' := by
  intro W hW
  have hcW := hc.below hW hc.lt
  have := all_code 49 (fun _ _ => rfl) (fun _ => dataB f) 1 gf 0 1 (fun _ => 0) (fun _ => none) (fun _ => 0) (fun _ => 0) (fun _ => p) (fun _ => f.len) (fun _ => c) W hcW.lt (by decide)
   (fun i hi => by
    obtain rfl : i = 0 := by omega
    exact ⟨hcW.at rfl,hcW.at rfl,hcW.at rfl⟩)
   (fun i hi W' hW' => isDataless_says 0 f none p 0 0 c w.heap.size W' hn (Nat.le_trans hW.size hW'.size) (SA.below hs (hW.trans (hW'.mono hW.size))))
  simpa [List.range_succ] using this
 have key := MayG_says none none (some ⟨gf,0,none⟩) none none none none none none 0 0 0 0 1 1 0 0 0 0 0 0 0 0 0 0 0 0 true true (codeB f) true true true true true true true (dataB f) cnt 0 w
  (fun W _ => (all_nil_22 31 none 0 W).mono fun e w' h => nil_of h)
  (fun W _ => (all_nil_24 33 none 0 W).mono fun e w' h => nil_of h)
  h1
  (fun W _ => (all_nil_28 37 none 0 W).mono fun e w' h => nil_of h)
  (fun W _ => (all_nil_30 39 none 0 W).mono fun e w' h => nil_of h)
  (fun W _ => (all_nil_32 41 none 0 W).mono fun e w' h => nil_of h)
  (fun W _ => (all_nil_34 43 none 0 W).mono fun e w' h => nil_of h)
  (fun W => isStart_says 0 W)
  (fun W _ => (all_nil_37 46 none 0 W).mono fun e w' h => nil_of h)
  (fun W _ => (all_nil_39 48 none 0 W).mono fun e w' h => nil_of h)
  h2
 simpa using key
theorem PMay_g (f : Fo) (hn : f.cnt < 9223372036854775806) (p : Option Addr) (n c gf : Nat) (cnt : Bool) (w : World) (hc : CA gf #[.int .i64 127,.bool false,.slice p n c] 46 w) (hs : SA w.heap.size w (.slice p n c) f) :
  Calls Tryz.prog 15 #[.agg #[.slice none 0 0,.slice none 0 0,.slice none 0 0,.slice none 0 0,.slice none 0 0,.slice (some ⟨gf,0,none⟩) 1 1,.slice none 0 0,.int .i64 0,.slice none 0 0,.slice none 0 0,.bool cnt]] w fun e w' => e = .returned (.bool (codeB f)) ∧ Below w.heap.size w w' := by
 have hgv : ∀ W,Below w.heap.size w W → Calls Tryz.prog 40 #[.slice (some ⟨gf,0,none⟩) 1 1,.func (.func 41) #[] #[]] W fun e w' => e = .returned (.bool (codeB f)) ∧ Below W.heap.size W w' := by
  intro W hW
  have hcW := hc.below hW hc.lt
  have := all_var 41 (fun _ _ => rfl) (fun _ => valB 127 && codeB f) 1 gf 0 1 (fun _ => 127) (fun _ => false) (fun _ => p) (fun _ => n) (fun _ => c) W (fun _ => hcW.lt) (by decide) (some ⟨gf,0,none⟩) (fun _ => rfl)
   (fun i hi => by
    obtain rfl : i = 0 := by omega
    exact ⟨hcW.at rfl,hcW.at rfl,hcW.at rfl⟩)
   (fun i hi W' hW' => isGlobal_says 127 false f p n c w.heap.size W' hn (Nat.le_trans hW.size hW'.size) (SA.below hs (hW.trans (hW'.mono hW.size))))
  simpa [show valB 127 = true from rfl,List.range_succ] using this
 have key := MayG_says none none none none none (some ⟨gf,0,none⟩) none none none 0 0 0 0 0 0 0 0 0 0 1 1 0 0 0 0 0 0 true true true true true (codeB f) true true true true true cnt 0 w
  (fun W _ => (all_nil_22 31 none 0 W).mono fun e w' h => nil_of h)
  (fun W _ => (all_nil_24 33 none 0 W).mono fun e w' h => nil_of h)
  (fun W _ => (all_nil_26 35 none 0 W).mono fun e w' h => nil_of h)
  (fun W _ => (all_nil_28 37 none 0 W).mono fun e w' h => nil_of h)
  (fun W _ => (all_nil_30 39 none 0 W).mono fun e w' h => nil_of h)
  hgv
  (fun W _ => (all_nil_34 43 none 0 W).mono fun e w' h => nil_of h)
  (fun W => isStart_says 0 W)
  (fun W _ => (all_nil_37 46 none 0 W).mono fun e w' h => nil_of h)
  (fun W _ => (all_nil_39 48 none 0 W).mono fun e w' h => nil_of h)
  (fun W _ => (all_nil_26 49 none 0 W).mono fun e w' h => nil_of h)
 simpa using key
end Go.Proofs.YtjgeedgphcjhoaaGreat
