/-
  EAw, Cop5, Cop6, Aw1, EAw2, ECodeL: merged, what the law does not reach left out (each text says what it holds where it lies in wip). No condition.
-/
import Derived.Test.YtjgeedgphcjhoaaGreatC35
import Derived.Test.YtjgeedgphcjhoaaGreatC34
import Derived.Laws.BytesArg
import Derived.Lib.SlBytesConst
import Derived.Test.YtjgeedgphcjhoaaGreatC09
import Derived.OwnWalk
import Derived.Laws.OwnMore
import Derived.Lib.SliceRun
import Derived.Test.YtjgeedgphcjhoaaGreatC31
set_option linter.unusedSimpArgs false
set_option linter.unusedVariables false
set_option maxRecDepth 100000
namespace Go.Proofs.YtjgeedgphcjhoaaGreat
open Go.RowKit
theorem strOfNums_bytes (l : List UInt8) : strOfNums (l.map fun b => (b.toNat : Int)) = ⟨l.toArray⟩ := by
 unfold strOfNums
 congr 2
 rw [List.map_map]
 conv => rhs; rw [← List.map_id l]
 apply List.map_congr_left
 intro b _
 simp
/-- 'string(b)'. -/
theorem conv_bytes {B : Nat} {w : World} {v : Value} {l : List UInt8} (h : BytesAt B w v l) : (convert 52 9 v).run Tryz.prog w = .ok (.string ⟨l.toArray⟩) w := by
 rcases h with ⟨rfl,rfl⟩ | ⟨g,off,cap,rfl,_,_,_,h5⟩
 ·rw [run_convert_bytes_nil w 52 5 Tryz.underlying52 Tryz.underlying5 0 0 9 Tryz.underlying9]
  rfl
 ·rw [run_convert_bytes_arg w 52 5 Tryz.underlying52 Tryz.underlying5 g off l.length cap (l.map fun b => (b.toNat : Int)) (by simp) (fun i hi => ?_) 9 Tryz.underlying9,strOfNums_bytes]
  rw [h5 i l[i] (List.getElem?_eq_getElem hi)]
  simp [List.getElem?_eq_getElem hi]
theorem bytes_lit {w : World} (l : List UInt8) (cs : Array Value) (fr : Nat × Nat) (hcs : cs.toList = Lib.byteCells l) (n : Nat) (hn : n = l.length) (hl : l.length ≤ 140737488351232) :
  BytesAt (w.heap.size + 1) (w.alloc (.cells cs 5 fr)) (.slice (some ⟨w.heap.size,0,none⟩) n n) l := by
 subst hn
 refine .inr ⟨w.heap.size,0,l.length,rfl,by omega,Nat.le_refl _,⟨by omega,hl⟩,fun j u hj => ?_⟩
 rw [Nat.zero_add,cell_of_row _ _ _ cs 5 fr (heap_alloc_new _ _),← Array.getElem?_toList,hcs]
 simp only [Lib.byteCells,List.getElem?_map,hj,Option.map_some]
theorem sec_nil_97 (a : Addr) (i : Int) (k : Nat) (b : Addr) (w : World) : Calls Tryz.prog 97 #[.pointer (some a),.int .i64 i,.slice none 0 0,.func (.func k) #[] #[.pointer (some b)]] w fun e w' => e = .returned (.tuple #[]) ∧ Below w.heap.size w w' := by
 go_enter Tryz.func97,Tryz.ntmps97
 go_wp2
 (first | go_end0 | refine bodyPost_ret (results_none rfl _ _ _) rfl ?_)
 exact ⟨rfl,(((Below.refl w.heap.size w).alloc (Nat.le_refl _) _).alloc (by simp only [size_al]; omega) _).alloc (by simp only [size_al]; omega) _⟩
theorem sec_nil_100 (a : Addr) (i : Int) (k : Nat) (b : Addr) (w : World) : Calls Tryz.prog 100 #[.pointer (some a),.int .i64 i,.slice none 0 0,.func (.func k) #[] #[.pointer (some b)]] w fun e w' => e = .returned (.tuple #[]) ∧ Below w.heap.size w w' := by
 go_enter Tryz.func100,Tryz.ntmps100
 go_wp2
 (first | go_end0 | refine bodyPost_ret (results_none rfl _ _ _) rfl ?_)
 exact ⟨rfl,(((Below.refl w.heap.size w).alloc (Nat.le_refl _) _).alloc (by simp only [size_al]; omega) _).alloc (by simp only [size_al]; omega) _⟩
theorem sec_nil_103 (a : Addr) (i : Int) (k : Nat) (b : Addr) (w : World) : Calls Tryz.prog 103 #[.pointer (some a),.int .i64 i,.slice none 0 0,.func (.func k) #[] #[.pointer (some b)]] w fun e w' => e = .returned (.tuple #[]) ∧ Below w.heap.size w w' := by
 go_enter Tryz.func103,Tryz.ntmps103
 go_wp2
 (first | go_end0 | refine bodyPost_ret (results_none rfl _ _ _) rfl ?_)
 exact ⟨rfl,(((Below.refl w.heap.size w).alloc (Nat.le_refl _) _).alloc (by simp only [size_al]; omega) _).alloc (by simp only [size_al]; omega) _⟩
theorem sec_nil_106 (a : Addr) (i : Int) (k : Nat) (b : Addr) (w : World) : Calls Tryz.prog 106 #[.pointer (some a),.int .i64 i,.slice none 0 0,.func (.func k) #[] #[.pointer (some b)]] w fun e w' => e = .returned (.tuple #[]) ∧ Below w.heap.size w w' := by
 go_enter Tryz.func106,Tryz.ntmps106
 go_wp2
 (first | go_end0 | refine bodyPost_ret (results_none rfl _ _ _) rfl ?_)
 exact ⟨rfl,(((Below.refl w.heap.size w).alloc (Nat.le_refl _) _).alloc (by simp only [size_al]; omega) _).alloc (by simp only [size_al]; omega) _⟩
theorem sec_nil_109 (a : Addr) (i : Int) (k : Nat) (b : Addr) (w : World) : Calls Tryz.prog 109 #[.pointer (some a),.int .i64 i,.slice none 0 0,.func (.func k) #[] #[.pointer (some b)]] w fun e w' => e = .returned (.tuple #[]) ∧ Below w.heap.size w w' := by
 go_enter Tryz.func109,Tryz.ntmps109
 go_wp2
 (first | go_end0 | refine bodyPost_ret (results_none rfl _ _ _) rfl ?_)
 exact ⟨rfl,(((Below.refl w.heap.size w).alloc (Nat.le_refl _) _).alloc (by simp only [size_al]; omega) _).alloc (by simp only [size_al]; omega) _⟩
theorem sec_nil_112 (a : Addr) (i : Int) (k : Nat) (b : Addr) (w : World) : Calls Tryz.prog 112 #[.pointer (some a),.int .i64 i,.slice none 0 0,.func (.func k) #[] #[.pointer (some b)]] w fun e w' => e = .returned (.tuple #[]) ∧ Below w.heap.size w w' := by
 go_enter Tryz.func112,Tryz.ntmps112
 go_wp2
 (first | go_end0 | refine bodyPost_ret (results_none rfl _ _ _) rfl ?_)
 exact ⟨rfl,(((Below.refl w.heap.size w).alloc (Nat.le_refl _) _).alloc (by simp only [size_al]; omega) _).alloc (by simp only [size_al]; omega) _⟩
theorem sec_nil_115 (a : Addr) (i : Int) (k : Nat) (b : Addr) (w : World) : Calls Tryz.prog 115 #[.pointer (some a),.int .i64 i,.slice none 0 0,.func (.func k) #[] #[.pointer (some b)]] w fun e w' => e = .returned (.tuple #[]) ∧ Below w.heap.size w w' := by
 go_enter Tryz.func115,Tryz.ntmps115
 go_wp2
 (first | go_end0 | refine bodyPost_ret (results_none rfl _ _ _) rfl ?_)
 exact ⟨rfl,(((Below.refl w.heap.size w).alloc (Nat.le_refl _) _).alloc (by simp only [size_al]; omega) _).alloc (by simp only [size_al]; omega) _⟩
theorem sec_nil_120 (a : Addr) (i : Int) (k : Nat) (b : Addr) (w : World) : Calls Tryz.prog 120 #[.pointer (some a),.int .i64 i,.slice none 0 0,.func (.func k) #[] #[.pointer (some b)]] w fun e w' => e = .returned (.tuple #[]) ∧ Below w.heap.size w w' := by
 go_enter Tryz.func120,Tryz.ntmps120
 go_wp2
 (first | go_end0 | refine bodyPost_ret (results_none rfl _ _ _) rfl ?_)
 exact ⟨rfl,(((Below.refl w.heap.size w).alloc (Nat.le_refl _) _).alloc (by simp only [size_al]; omega) _).alloc (by simp only [size_al]; omega) _⟩
theorem sec_nil_126 (a : Addr) (i : Int) (k : Nat) (b : Addr) (w : World) : Calls Tryz.prog 126 #[.pointer (some a),.int .i64 i,.slice none 0 0,.func (.func k) #[] #[.pointer (some b)]] w fun e w' => e = .returned (.tuple #[]) ∧ Below w.heap.size w w' := by
 go_enter Tryz.func126,Tryz.ntmps126
 go_wp2
 (first | go_end0 | refine bodyPost_ret (results_none rfl _ _ _) rfl ?_)
 exact ⟨rfl,(((Below.refl w.heap.size w).alloc (Nat.le_refl _) _).alloc (by simp only [size_al]; omega) _).alloc (by simp only [size_al]; omega) _⟩
theorem May_empty (w : World) : Calls Tryz.prog 15 #[.agg #[.slice none 0 0,.slice none 0 0,.slice none 0 0,.slice none 0 0,.slice none 0 0,.slice none 0 0,.slice none 0 0,.int .i64 0,.slice none 0 0,.slice none 0 0,.bool false]] w fun e w' => e = .returned (.bool true) ∧ Below w.heap.size w w' := by
 have key := MayG_says none none none none none none none none none 0 0 0 0 0 0 0 0 0 0 0 0 0 0 0 0 0 0 true true true true true true true true true true true false 0 w
  (fun W _ => (all_nil_22 31 none 0 W).mono fun e w' h => ⟨h.1,h.2 ▸ Below.refl _ _⟩)
  (fun W _ => (all_nil_24 33 none 0 W).mono fun e w' h => ⟨h.1,h.2 ▸ Below.refl _ _⟩)
  (fun W _ => (all_nil_26 35 none 0 W).mono fun e w' h => ⟨h.1,h.2 ▸ Below.refl _ _⟩)
  (fun W _ => (all_nil_28 37 none 0 W).mono fun e w' h => ⟨h.1,h.2 ▸ Below.refl _ _⟩)
  (fun W _ => (all_nil_30 39 none 0 W).mono fun e w' h => ⟨h.1,h.2 ▸ Below.refl _ _⟩)
  (fun W _ => (all_nil_32 41 none 0 W).mono fun e w' h => ⟨h.1,h.2 ▸ Below.refl _ _⟩)
  (fun W _ => (all_nil_34 43 none 0 W).mono fun e w' h => ⟨h.1,h.2 ▸ Below.refl _ _⟩)
  (fun W => isStart_says 0 W)
  (fun W _ => (all_nil_37 46 none 0 W).mono fun e w' h => ⟨h.1,h.2 ▸ Below.refl _ _⟩)
  (fun W _ => (all_nil_39 48 none 0 W).mono fun e w' h => ⟨h.1,h.2 ▸ Below.refl _ _⟩)
  (fun W _ => (all_nil_26 49 none 0 W).mono fun e w' h => ⟨h.1,h.2 ▸ Below.refl _ _⟩)
 simpa using key
/-- What the writing of an empty module keeps. -/
def EMp (gm gb : Nat) (w : World) : Prop := CA gm #[.slice none 0 0,.slice none 0 0,.slice none 0 0,.slice none 0 0,.slice none 0 0,.slice none 0 0,.slice none 0 0,.int .i64 0,.slice none 0 0,.slice none 0 0,.bool false] 32 w ∧ CA (gb + 1) #[.slice (some ⟨gb,0,none⟩) 8 8] 137 w ∧ CA (gb + 1 + 1) #[.pointer (some ⟨gb + 1,0,none⟩)] 135 w ∧ BytesAt (gb + 1) w (.slice (some ⟨gb,0,none⟩) 8 8) [0,97,115,109,1,0,0,0]
theorem EMp.call {gm gb : Nat} {w w' : World} (h : EMp gm gb w) (hb : Below w.heap.size w w') : EMp gm gb w' :=
 ⟨h.1.below hb h.1.lt,h.2.1.below hb h.2.1.lt,h.2.2.1.below hb h.2.2.1.lt,h.2.2.2.below (hb.mono (Nat.le_of_lt h.2.1.lt))⟩
set_option maxHeartbeats 16000000 in
theorem Module_empty (w : World) : Calls Tryz.prog 23 #[.agg #[.slice none 0 0,.slice none 0 0,.slice none 0 0,.slice none 0 0,.slice none 0 0,.slice none 0 0,.slice none 0 0,.int .i64 0,.slice none 0 0,.slice none 0 0,.bool false]] w fun e w' => ∃ b,e = .returned (.tuple #[.slice (some ⟨b,0,none⟩) 8 8,.int .i64 0]) ∧ BytesAt w'.heap.size w' (.slice (some ⟨b,0,none⟩) 8 8) [0,97,115,109,1,0,0,0] ∧ Below w.heap.size w w' := by
 have hmf : ∀ (fn : Fn) (first cap : Array Value) (w : World),(Instr.makeFunc fn first cap).run Tryz.prog w = .ok (.func fn first cap) w := fun _ _ _ _ => rfl
 have hcv := fun (w : World) (C : Array Value) (n c : Nat) => Lib.run_convert_bytes_const (P := Tryz.prog) w 52 5 C n c Tryz.underlying52 Tryz.underlying5
 have HM := fun W => hid (May_empty W)
 have HX0 := hid (CA.new w #[.slice none 0 0,.slice none 0 0,.slice none 0 0,.slice none 0 0,.slice none 0 0,.slice none 0 0,.slice none 0 0,.int .i64 0,.slice none 0 0,.slice none 0 0,.bool false] 32)
 have HBX := hid ((Below.refl w.heap.size w).alloc (Nat.le_refl _) (.cells #[.slice none 0 0,.slice none 0 0,.slice none 0 0,.slice none 0 0,.slice none 0 0,.slice none 0 0,.slice none 0 0,.int .i64 0,.slice none 0 0,.slice none 0 0,.bool false] 32))
 have m0 := HX0.out.at (k := 0) (v := .slice none 0 0) rfl
 have m1 := HX0.out.at (k := 1) (v := .slice none 0 0) rfl
 have m2 := HX0.out.at (k := 2) (v := .slice none 0 0) rfl
 have m3 := HX0.out.at (k := 3) (v := .slice none 0 0) rfl
 have m4 := HX0.out.at (k := 4) (v := .slice none 0 0) rfl
 have m5 := HX0.out.at (k := 5) (v := .slice none 0 0) rfl
 have m6 := HX0.out.at (k := 6) (v := .slice none 0 0) rfl
 have m7 := HX0.out.at (k := 7) (v := .int .i64 0) rfl
 have m8 := HX0.out.at (k := 8) (v := .slice none 0 0) rfl
 have m9 := HX0.out.at (k := 9) (v := .slice none 0 0) rfl
 have m10 := HX0.out.at (k := 10) (v := .bool false) rfl
 go_enter Tryz.func23,Tryz.ntmps23
 go_upto_region 4 with (go_at_call 15; (with_reducible refine (HM _).out.mono ?_); rintro e w0 ⟨rfl,hb⟩; have HX1 := hid (HX0.out.below hb HX0.out.lt); have HBY := hid (HBX.out.trans (hb.mono HBX.out.size)); clear hb)
 clear m0 m1 m2 m3 m4 m5 m6 m7 m8 m9 m10
 have hS : EMp w.heap.size w0.heap.size (((w0.alloc (.cells #[.int .u8 0,.int .u8 97,.int .u8 115,.int .u8 109,.int .u8 1,.int .u8 0,.int .u8 0,.int .u8 0] 5 (8,9))).alloc (.cells #[.slice (some ⟨w0.heap.size,0,none⟩) 8 8] 137)).alloc (.cells #[.pointer (some ⟨w0.heap.size + 1,0,none⟩)] 135)) := by
  refine ⟨((HX1.out.alloc _).alloc _).alloc _,?_,?_,?_⟩
  ·have := CA.new (w0.alloc (.cells #[.int .u8 0,.int .u8 97,.int .u8 115,.int .u8 109,.int .u8 1,.int .u8 0,.int .u8 0,.int .u8 0] 5 (8,9))) #[.slice (some ⟨w0.heap.size,0,none⟩) 8 8] 137
   rw [size_al] at this
   exact this.alloc _
  ·have := CA.new ((w0.alloc (.cells #[.int .u8 0,.int .u8 97,.int .u8 115,.int .u8 109,.int .u8 1,.int .u8 0,.int .u8 0,.int .u8 0] 5 (8,9))).alloc (.cells #[.slice (some ⟨w0.heap.size,0,none⟩) 8 8] 137)) #[.pointer (some ⟨w0.heap.size + 1,0,none⟩)] 135
   rw [size_al,size_al] at this
   exact this
  ·have := bytes_lit (w := w0) [0,97,115,109,1,0,0,0] #[.int .u8 0,.int .u8 97,.int .u8 115,.int .u8 109,.int .u8 1,.int .u8 0,.int .u8 0,.int .u8 0] (8,9) rfl 8 rfl (by decide)
   exact this.below ((((Below.refl _ _).alloc (by rw [size_al]; omega) _)).alloc (by simp only [size_al]; omega) _)
 have hB : Below w.heap.size w (((w0.alloc (.cells #[.int .u8 0,.int .u8 97,.int .u8 115,.int .u8 109,.int .u8 1,.int .u8 0,.int .u8 0,.int .u8 0] 5 (8,9))).alloc (.cells #[.slice (some ⟨w0.heap.size,0,none⟩) 8 8] 137)).alloc (.cells #[.pointer (some ⟨w0.heap.size + 1,0,none⟩)] 135)) :=
  ((HBY.out.alloc HBY.out.size _).alloc (by rw [size_al]; have := HBY.out.size; omega) _).alloc (by rw [size_al,size_al]; have := HBY.out.size; omega) _
 have HS0 := hid hS
 have HB0 := hid hB
 clear hS hB HX1 HBY
 generalize ((w0.alloc (.cells #[.int .u8 0,.int .u8 97,.int .u8 115,.int .u8 109,.int .u8 1,.int .u8 0,.int .u8 0,.int .u8 0] 5 (8,9))).alloc (.cells #[.slice (some ⟨w0.heap.size,0,none⟩) 8 8] 137)).alloc (.cells #[.pointer (some ⟨w0.heap.size + 1,0,none⟩)] 135) = W0 at *
 generalize w0.heap.size = gb at *
 have m0 := HS0.out.1.at (k := 0) (v := .slice none 0 0) rfl
 have m1 := HS0.out.1.at (k := 1) (v := .slice none 0 0) rfl
 have m2 := HS0.out.1.at (k := 2) (v := .slice none 0 0) rfl
 have m3 := HS0.out.1.at (k := 3) (v := .slice none 0 0) rfl
 have m4 := HS0.out.1.at (k := 4) (v := .slice none 0 0) rfl
 have m5 := HS0.out.1.at (k := 5) (v := .slice none 0 0) rfl
 have m6 := HS0.out.1.at (k := 6) (v := .slice none 0 0) rfl
 have m7 := HS0.out.1.at (k := 7) (v := .int .i64 0) rfl
 have m8 := HS0.out.1.at (k := 8) (v := .slice none 0 0) rfl
 have m9 := HS0.out.1.at (k := 9) (v := .slice none 0 0) rfl
 have m10 := HS0.out.1.at (k := 10) (v := .bool false) rfl
 have pv := HS0.out.2.2.1.at (k := 0) (v := .pointer (some ⟨gb + 1,0,none⟩)) rfl
 have wv := HS0.out.2.1.at (k := 0) (v := .slice (some ⟨gb,0,none⟩) 8 8) rfl
 go_wp2_with (first
  | (go_at_call 97; (with_reducible refine (sec_nil_97 _ _ 98 _ _).mono ?_); rintro e w1 ⟨rfl,hb⟩; have HS1 := hid (HS0.out.call hb); have HB1 := hid (HB0.out.trans (hb.mono HB0.out.size)); clear m0 m1 m2 m3 m4 m5 m6 m7 m8 m9 m10 pv wv; have m0 := HS1.out.1.at (k := 0) (v := .slice none 0 0) rfl; have m1 := HS1.out.1.at (k := 1) (v := .slice none 0 0) rfl; have m2 := HS1.out.1.at (k := 2) (v := .slice none 0 0) rfl; have m3 := HS1.out.1.at (k := 3) (v := .slice none 0 0) rfl; have m4 := HS1.out.1.at (k := 4) (v := .slice none 0 0) rfl; have m5 := HS1.out.1.at (k := 5) (v := .slice none 0 0) rfl; have m6 := HS1.out.1.at (k := 6) (v := .slice none 0 0) rfl; have m7 := HS1.out.1.at (k := 7) (v := .int .i64 0) rfl; have m8 := HS1.out.1.at (k := 8) (v := .slice none 0 0) rfl; have m9 := HS1.out.1.at (k := 9) (v := .slice none 0 0) rfl; have m10 := HS1.out.1.at (k := 10) (v := .bool false) rfl; have pv := HS1.out.2.2.1.at (k := 0) (v := .pointer (some ⟨gb + 1,0,none⟩)) rfl; have wv := HS1.out.2.1.at (k := 0) (v := .slice (some ⟨gb,0,none⟩) 8 8) rfl; clear hb)
  | (go_at_call 100; (with_reducible refine (sec_nil_100 _ _ 101 _ _).mono ?_); rintro e w2 ⟨rfl,hb⟩; have HS2 := hid (HS1.out.call hb); have HB2 := hid (HB1.out.trans (hb.mono HB1.out.size)); clear m0 m1 m2 m3 m4 m5 m6 m7 m8 m9 m10 pv wv; have m0 := HS2.out.1.at (k := 0) (v := .slice none 0 0) rfl; have m1 := HS2.out.1.at (k := 1) (v := .slice none 0 0) rfl; have m2 := HS2.out.1.at (k := 2) (v := .slice none 0 0) rfl; have m3 := HS2.out.1.at (k := 3) (v := .slice none 0 0) rfl; have m4 := HS2.out.1.at (k := 4) (v := .slice none 0 0) rfl; have m5 := HS2.out.1.at (k := 5) (v := .slice none 0 0) rfl; have m6 := HS2.out.1.at (k := 6) (v := .slice none 0 0) rfl; have m7 := HS2.out.1.at (k := 7) (v := .int .i64 0) rfl; have m8 := HS2.out.1.at (k := 8) (v := .slice none 0 0) rfl; have m9 := HS2.out.1.at (k := 9) (v := .slice none 0 0) rfl; have m10 := HS2.out.1.at (k := 10) (v := .bool false) rfl; have pv := HS2.out.2.2.1.at (k := 0) (v := .pointer (some ⟨gb + 1,0,none⟩)) rfl; have wv := HS2.out.2.1.at (k := 0) (v := .slice (some ⟨gb,0,none⟩) 8 8) rfl; clear hb)
  | (go_at_call 103; (with_reducible refine (sec_nil_103 _ _ 104 _ _).mono ?_); rintro e w3 ⟨rfl,hb⟩; have HS3 := hid (HS2.out.call hb); have HB3 := hid (HB2.out.trans (hb.mono HB2.out.size)); clear m0 m1 m2 m3 m4 m5 m6 m7 m8 m9 m10 pv wv; have m0 := HS3.out.1.at (k := 0) (v := .slice none 0 0) rfl; have m1 := HS3.out.1.at (k := 1) (v := .slice none 0 0) rfl; have m2 := HS3.out.1.at (k := 2) (v := .slice none 0 0) rfl; have m3 := HS3.out.1.at (k := 3) (v := .slice none 0 0) rfl; have m4 := HS3.out.1.at (k := 4) (v := .slice none 0 0) rfl; have m5 := HS3.out.1.at (k := 5) (v := .slice none 0 0) rfl; have m6 := HS3.out.1.at (k := 6) (v := .slice none 0 0) rfl; have m7 := HS3.out.1.at (k := 7) (v := .int .i64 0) rfl; have m8 := HS3.out.1.at (k := 8) (v := .slice none 0 0) rfl; have m9 := HS3.out.1.at (k := 9) (v := .slice none 0 0) rfl; have m10 := HS3.out.1.at (k := 10) (v := .bool false) rfl; have pv := HS3.out.2.2.1.at (k := 0) (v := .pointer (some ⟨gb + 1,0,none⟩)) rfl; have wv := HS3.out.2.1.at (k := 0) (v := .slice (some ⟨gb,0,none⟩) 8 8) rfl; clear hb)
  | (go_at_call 106; (with_reducible refine (sec_nil_106 _ _ 107 _ _).mono ?_); rintro e w4 ⟨rfl,hb⟩; have HS4 := hid (HS3.out.call hb); have HB4 := hid (HB3.out.trans (hb.mono HB3.out.size)); clear m0 m1 m2 m3 m4 m5 m6 m7 m8 m9 m10 pv wv; have m0 := HS4.out.1.at (k := 0) (v := .slice none 0 0) rfl; have m1 := HS4.out.1.at (k := 1) (v := .slice none 0 0) rfl; have m2 := HS4.out.1.at (k := 2) (v := .slice none 0 0) rfl; have m3 := HS4.out.1.at (k := 3) (v := .slice none 0 0) rfl; have m4 := HS4.out.1.at (k := 4) (v := .slice none 0 0) rfl; have m5 := HS4.out.1.at (k := 5) (v := .slice none 0 0) rfl; have m6 := HS4.out.1.at (k := 6) (v := .slice none 0 0) rfl; have m7 := HS4.out.1.at (k := 7) (v := .int .i64 0) rfl; have m8 := HS4.out.1.at (k := 8) (v := .slice none 0 0) rfl; have m9 := HS4.out.1.at (k := 9) (v := .slice none 0 0) rfl; have m10 := HS4.out.1.at (k := 10) (v := .bool false) rfl; have pv := HS4.out.2.2.1.at (k := 0) (v := .pointer (some ⟨gb + 1,0,none⟩)) rfl; have wv := HS4.out.2.1.at (k := 0) (v := .slice (some ⟨gb,0,none⟩) 8 8) rfl; clear hb)
  | (go_at_call 109; (with_reducible refine (sec_nil_109 _ _ 110 _ _).mono ?_); rintro e w5 ⟨rfl,hb⟩; have HS5 := hid (HS4.out.call hb); have HB5 := hid (HB4.out.trans (hb.mono HB4.out.size)); clear m0 m1 m2 m3 m4 m5 m6 m7 m8 m9 m10 pv wv; have m0 := HS5.out.1.at (k := 0) (v := .slice none 0 0) rfl; have m1 := HS5.out.1.at (k := 1) (v := .slice none 0 0) rfl; have m2 := HS5.out.1.at (k := 2) (v := .slice none 0 0) rfl; have m3 := HS5.out.1.at (k := 3) (v := .slice none 0 0) rfl; have m4 := HS5.out.1.at (k := 4) (v := .slice none 0 0) rfl; have m5 := HS5.out.1.at (k := 5) (v := .slice none 0 0) rfl; have m6 := HS5.out.1.at (k := 6) (v := .slice none 0 0) rfl; have m7 := HS5.out.1.at (k := 7) (v := .int .i64 0) rfl; have m8 := HS5.out.1.at (k := 8) (v := .slice none 0 0) rfl; have m9 := HS5.out.1.at (k := 9) (v := .slice none 0 0) rfl; have m10 := HS5.out.1.at (k := 10) (v := .bool false) rfl; have pv := HS5.out.2.2.1.at (k := 0) (v := .pointer (some ⟨gb + 1,0,none⟩)) rfl; have wv := HS5.out.2.1.at (k := 0) (v := .slice (some ⟨gb,0,none⟩) 8 8) rfl; clear hb)
  | (go_at_call 112; (with_reducible refine (sec_nil_112 _ _ 113 _ _).mono ?_); rintro e w6 ⟨rfl,hb⟩; have HS6 := hid (HS5.out.call hb); have HB6 := hid (HB5.out.trans (hb.mono HB5.out.size)); clear m0 m1 m2 m3 m4 m5 m6 m7 m8 m9 m10 pv wv; have m0 := HS6.out.1.at (k := 0) (v := .slice none 0 0) rfl; have m1 := HS6.out.1.at (k := 1) (v := .slice none 0 0) rfl; have m2 := HS6.out.1.at (k := 2) (v := .slice none 0 0) rfl; have m3 := HS6.out.1.at (k := 3) (v := .slice none 0 0) rfl; have m4 := HS6.out.1.at (k := 4) (v := .slice none 0 0) rfl; have m5 := HS6.out.1.at (k := 5) (v := .slice none 0 0) rfl; have m6 := HS6.out.1.at (k := 6) (v := .slice none 0 0) rfl; have m7 := HS6.out.1.at (k := 7) (v := .int .i64 0) rfl; have m8 := HS6.out.1.at (k := 8) (v := .slice none 0 0) rfl; have m9 := HS6.out.1.at (k := 9) (v := .slice none 0 0) rfl; have m10 := HS6.out.1.at (k := 10) (v := .bool false) rfl; have pv := HS6.out.2.2.1.at (k := 0) (v := .pointer (some ⟨gb + 1,0,none⟩)) rfl; have wv := HS6.out.2.1.at (k := 0) (v := .slice (some ⟨gb,0,none⟩) 8 8) rfl; clear hb)
  | (go_at_call 115; (with_reducible refine (sec_nil_115 _ _ 116 _ _).mono ?_); rintro e w7 ⟨rfl,hb⟩; have HS7 := hid (HS6.out.call hb); have HB7 := hid (HB6.out.trans (hb.mono HB6.out.size)); clear m0 m1 m2 m3 m4 m5 m6 m7 m8 m9 m10 pv wv; have m0 := HS7.out.1.at (k := 0) (v := .slice none 0 0) rfl; have m1 := HS7.out.1.at (k := 1) (v := .slice none 0 0) rfl; have m2 := HS7.out.1.at (k := 2) (v := .slice none 0 0) rfl; have m3 := HS7.out.1.at (k := 3) (v := .slice none 0 0) rfl; have m4 := HS7.out.1.at (k := 4) (v := .slice none 0 0) rfl; have m5 := HS7.out.1.at (k := 5) (v := .slice none 0 0) rfl; have m6 := HS7.out.1.at (k := 6) (v := .slice none 0 0) rfl; have m7 := HS7.out.1.at (k := 7) (v := .int .i64 0) rfl; have m8 := HS7.out.1.at (k := 8) (v := .slice none 0 0) rfl; have m9 := HS7.out.1.at (k := 9) (v := .slice none 0 0) rfl; have m10 := HS7.out.1.at (k := 10) (v := .bool false) rfl; have pv := HS7.out.2.2.1.at (k := 0) (v := .pointer (some ⟨gb + 1,0,none⟩)) rfl; have wv := HS7.out.2.1.at (k := 0) (v := .slice (some ⟨gb,0,none⟩) 8 8) rfl; clear hb)
  | (go_at_call 120; (with_reducible refine (sec_nil_120 _ _ 121 _ _).mono ?_); rintro e w8 ⟨rfl,hb⟩; have HS8 := hid (HS7.out.call hb); have HB8 := hid (HB7.out.trans (hb.mono HB7.out.size)); clear m0 m1 m2 m3 m4 m5 m6 m7 m8 m9 m10 pv wv; have m0 := HS8.out.1.at (k := 0) (v := .slice none 0 0) rfl; have m1 := HS8.out.1.at (k := 1) (v := .slice none 0 0) rfl; have m2 := HS8.out.1.at (k := 2) (v := .slice none 0 0) rfl; have m3 := HS8.out.1.at (k := 3) (v := .slice none 0 0) rfl; have m4 := HS8.out.1.at (k := 4) (v := .slice none 0 0) rfl; have m5 := HS8.out.1.at (k := 5) (v := .slice none 0 0) rfl; have m6 := HS8.out.1.at (k := 6) (v := .slice none 0 0) rfl; have m7 := HS8.out.1.at (k := 7) (v := .int .i64 0) rfl; have m8 := HS8.out.1.at (k := 8) (v := .slice none 0 0) rfl; have m9 := HS8.out.1.at (k := 9) (v := .slice none 0 0) rfl; have m10 := HS8.out.1.at (k := 10) (v := .bool false) rfl; have pv := HS8.out.2.2.1.at (k := 0) (v := .pointer (some ⟨gb + 1,0,none⟩)) rfl; have wv := HS8.out.2.1.at (k := 0) (v := .slice (some ⟨gb,0,none⟩) 8 8) rfl; clear hb)
  | (go_at_call 103; (with_reducible refine (sec_nil_103 _ _ 124 _ _).mono ?_); rintro e w9 ⟨rfl,hb⟩; have HS9 := hid (HS8.out.call hb); have HB9 := hid (HB8.out.trans (hb.mono HB8.out.size)); clear m0 m1 m2 m3 m4 m5 m6 m7 m8 m9 m10 pv wv; have m0 := HS9.out.1.at (k := 0) (v := .slice none 0 0) rfl; have m1 := HS9.out.1.at (k := 1) (v := .slice none 0 0) rfl; have m2 := HS9.out.1.at (k := 2) (v := .slice none 0 0) rfl; have m3 := HS9.out.1.at (k := 3) (v := .slice none 0 0) rfl; have m4 := HS9.out.1.at (k := 4) (v := .slice none 0 0) rfl; have m5 := HS9.out.1.at (k := 5) (v := .slice none 0 0) rfl; have m6 := HS9.out.1.at (k := 6) (v := .slice none 0 0) rfl; have m7 := HS9.out.1.at (k := 7) (v := .int .i64 0) rfl; have m8 := HS9.out.1.at (k := 8) (v := .slice none 0 0) rfl; have m9 := HS9.out.1.at (k := 9) (v := .slice none 0 0) rfl; have m10 := HS9.out.1.at (k := 10) (v := .bool false) rfl; have pv := HS9.out.2.2.1.at (k := 0) (v := .pointer (some ⟨gb + 1,0,none⟩)) rfl; have wv := HS9.out.2.1.at (k := 0) (v := .slice (some ⟨gb,0,none⟩) 8 8) rfl; clear hb)
  | (go_at_call 126; (with_reducible refine (sec_nil_126 _ _ 127 _ _).mono ?_); rintro e w10 ⟨rfl,hb⟩; have HS10 := hid (HS9.out.call hb); have HB10 := hid (HB9.out.trans (hb.mono HB9.out.size)); clear m0 m1 m2 m3 m4 m5 m6 m7 m8 m9 m10 pv wv; have m0 := HS10.out.1.at (k := 0) (v := .slice none 0 0) rfl; have m1 := HS10.out.1.at (k := 1) (v := .slice none 0 0) rfl; have m2 := HS10.out.1.at (k := 2) (v := .slice none 0 0) rfl; have m3 := HS10.out.1.at (k := 3) (v := .slice none 0 0) rfl; have m4 := HS10.out.1.at (k := 4) (v := .slice none 0 0) rfl; have m5 := HS10.out.1.at (k := 5) (v := .slice none 0 0) rfl; have m6 := HS10.out.1.at (k := 6) (v := .slice none 0 0) rfl; have m7 := HS10.out.1.at (k := 7) (v := .int .i64 0) rfl; have m8 := HS10.out.1.at (k := 8) (v := .slice none 0 0) rfl; have m9 := HS10.out.1.at (k := 9) (v := .slice none 0 0) rfl; have m10 := HS10.out.1.at (k := 10) (v := .bool false) rfl; have pv := HS10.out.2.2.1.at (k := 0) (v := .pointer (some ⟨gb + 1,0,none⟩)) rfl; have wv := HS10.out.2.1.at (k := 0) (v := .slice (some ⟨gb,0,none⟩) 8 8) rfl; clear hb))
 go_ret2
 exact ⟨gb,rfl,HS10.out.2.2.2.mono (Nat.le_of_lt HS10.out.2.1.lt),HB10.out⟩
end Go.Proofs.YtjgeedgphcjhoaaGreat
namespace Go.Proofs.YtjgeedgphcjhoaaGreat
open Go.RowKit
theorem cell_far {W : World} {c o g k : Nat} {v : Value} (h : c ≠ g) : (W.setCell ⟨c,o,none⟩ v).cell? ⟨g,k,none⟩ = W.cell? ⟨g,k,none⟩ := by
 unfold World.cell? World.setCell
 simp [Array.getElem?_modify,h]
end Go.Proofs.YtjgeedgphcjhoaaGreat
namespace Go.Proofs.YtjgeedgphcjhoaaGreat
open Go.RowKit
abbrev T3 := Option Addr × Nat × Nat
def n3 : T3 := (none,0,0)
/-- An instruction without a list but for what is in it. -/
def InsAt (W : World) (r : Nat) (op : Int) (vb : Value) : Prop :=
 W.cell? ⟨r,0,none⟩ = some (.int .i64 op) ∧ W.cell? ⟨r,1,none⟩ = some (.int .i64 0) ∧ W.cell? ⟨r,2,none⟩ = some (.int .i64 0) ∧ W.cell? ⟨r,3,none⟩ = some (.int .u64 0) ∧ W.cell? ⟨r,4,none⟩ = some (.int .u64 0) ∧
 W.cell? ⟨r,5,none⟩ = some (.slice none 0 0) ∧ W.cell? ⟨r,6,none⟩ = some vb ∧ W.cell? ⟨r,7,none⟩ = some (.slice none 0 0) ∧ W.cell? ⟨r,8,none⟩ = some (.bool false)
theorem InsAt.far {W : World} {r g j : Nat} {op : Int} {vb v : Value} (h : InsAt W r op vb) (hne : g ≠ r) : InsAt (W.setCell ⟨g,j,none⟩ v) r op vb := by
 unfold InsAt at h ⊢
 simp only [cell_far hne]
 exact h
theorem InsAt.below {W W' : World} {r B : Nat} {op : Int} {vb : Value} (h : InsAt W r op vb) (hb : Below B W W') (hr : r < B) : InsAt W' r op vb := by
 have hc : ∀ k,W'.cell? ⟨r,k,none⟩ = W.cell? ⟨r,k,none⟩ := fun k => hb.cell (p := ⟨r,k,none⟩) hr
 unfold InsAt at h ⊢
 simp only [hc]
 exact h
end Go.Proofs.YtjgeedgphcjhoaaGreat
namespace Go.Proofs.YtjgeedgphcjhoaaGreat
open Go.RowKit
def insFo (op : Int) (body : Fo) : Fo := .cons op 0 0 0 0 [] false body .nil .nil
theorem SA_ins {B r c : Nat} {w : World} {op : Int} {vb : Value} {body : Fo} (h : InsAt w r op vb) (hr : r < B) (hb : SA B w vb body) : SA B w (.slice (some ⟨r,0,none⟩) 1 c) (insFo op body) := by
 obtain ⟨h0,h1,h2,h3,h4,h5,h6,h7,h8⟩ := h
 refine ⟨some ⟨r,0,none⟩,c,r,0,rfl,fun _ => rfl,hr,⟨.slice none 0 0,vb,.slice none 0 0,h0,h1,h2,h3,h4,h5,h6,h7,h8,LI.nil _ _ _ _,?_,?_⟩,trivial⟩
 ·obtain ⟨p,c',g',o',e,e2,e3⟩ := hb
  exact ⟨p,c',g',o',e,e2,e3⟩
 ·exact ⟨none,0,0,0,rfl,fun h => absurd rfl h,trivial⟩
/-- The example, and its like: a type, a function, what is in it. -/
structure Ex (w : World) (gt gf gb : Nat) (l : List Int) (p : Option Addr) (n c : Nat) (f : Fo) : Prop where
 t : gt < w.heap.size
 fn : gf < w.heap.size
 n1 : n = l.length
 t0 : w.cell? ⟨gt,0,none⟩ = some (.slice p n c)
 t1 : w.cell? ⟨gt,1,none⟩ = some (.slice none 0 0)
 l0 : LI w.heap.size w (.slice p n c) l
 f0 : w.cell? ⟨gf,0,none⟩ = some (.int .i64 0)
 f1 : w.cell? ⟨gf,1,none⟩ = some (.slice none 0 0)
 f2 : w.cell? ⟨gf,2,none⟩ = some (.slice (some ⟨gb,0,none⟩) 1 1)
 s : SA w.heap.size w (.slice (some ⟨gb,0,none⟩) 1 1) f
theorem Ex.below {w W : World} {gt gf gb : Nat} {l : List Int} {p : Option Addr} {n c : Nat} {f : Fo} (h : Ex w gt gf gb l p n c f) (hb : Below w.heap.size w W) : Ex W gt gf gb l p n c f where
 t := Nat.lt_of_lt_of_le h.t hb.size
 fn := Nat.lt_of_lt_of_le h.fn hb.size
 n1 := h.n1
 t0 := (hb.cell (p := ⟨gt,0,none⟩) h.t).trans h.t0
 t1 := (hb.cell (p := ⟨gt,1,none⟩) h.t).trans h.t1
 l0 := (h.l0.below hb).mono hb.size
 f0 := (hb.cell (p := ⟨gf,0,none⟩) h.fn).trans h.f0
 f1 := (hb.cell (p := ⟨gf,1,none⟩) h.fn).trans h.f1
 f2 := (hb.cell (p := ⟨gf,2,none⟩) h.fn).trans h.f2
 s := SA.mono (SA.below h.s hb) hb.size
end Go.Proofs.YtjgeedgphcjhoaaGreat
namespace Go.Proofs.YtjgeedgphcjhoaaGreat
open Go.RowKit
def exFo : Fo := .cons 65 0 0 4294967295 0 [] false .nil .nil .nil
theorem ex_code : codeB exFo = true := by kernel_rfl
theorem ex_line : (lineL 65).2.1 = 12 := by kernel_rfl
theorem ex_enc : exFo.enc ++ [11] = [65,127,11] := by
 have h1 : opL 65 = [65] := by unfold opL; rw [if_neg (by decide),if_neg (by decide)]; rfl
 have h2 : sgnN 32 4294967295 = -1 := by decide
 have h3 : slist (-1) = [127] := by rw [slist_small (by decide)]; rfl
 simp only [exFo,Fo.enc,ex_line,behL,h1,h2,h3]
 rfl
theorem ex_ok : okE exFo := by
 refine ⟨⟨by decide,by decide,by decide,by decide,⟨by decide,by decide⟩,fun h => ?_⟩,trivial,trivial,trivial⟩
 exact .inl rfl
theorem no_code : codeB (insFo 6 .nil) = false := by kernel_rfl
theorem ex_call (W : World) : Calls Tryz.prog 25 #[.slice (some ⟨W.heap.size,0,none⟩) 1 1] (W.alloc (.cells #[.int .i64 65,.int .i64 0,.int .i64 0,.int .u64 4294967295,.int .u64 0,.slice none 0 0,.slice none 0 0,.slice none 0 0,.bool false] 39))
  fun e w' => ∃ p n c,e = .returned (.tuple #[.slice p n c,.int .i64 0]) ∧ BytesAt w'.heap.size w' (.slice p n c) [65,127,11] ∧ Below W.heap.size W w' := by
 have hc := CA.new W #[.int .i64 65,.int .i64 0,.int .i64 0,.int .u64 4294967295,.int .u64 0,.slice none 0 0,.slice none 0 0,.slice none 0 0,.bool false] 39
 have hs : SA (W.alloc (.cells #[.int .i64 65,.int .i64 0,.int .i64 0,.int .u64 4294967295,.int .u64 0,.slice none 0 0,.slice none 0 0,.slice none 0 0,.bool false] 39)).heap.size (W.alloc (.cells #[.int .i64 65,.int .i64 0,.int .i64 0,.int .u64 4294967295,.int .u64 0,.slice none 0 0,.slice none 0 0,.slice none 0 0,.bool false] 39)) (.slice (some ⟨W.heap.size,0,none⟩) 1 1) exFo :=
  ⟨some ⟨W.heap.size,0,none⟩,1,W.heap.size,0,rfl,fun _ => rfl,hc.lt,⟨.slice none 0 0,.slice none 0 0,.slice none 0 0,hc.at rfl,hc.at rfl,hc.at rfl,hc.at rfl,hc.at rfl,hc.at rfl,hc.at rfl,hc.at rfl,hc.at rfl,LI.nil _ _ _ _,⟨none,0,0,0,rfl,fun h => absurd rfl h,trivial⟩,⟨none,0,0,0,rfl,fun h => absurd rfl h,trivial⟩⟩,trivial⟩
 have hb := (Below.refl W.heap.size W).alloc (Nat.le_refl _) (.cells #[.int .i64 65,.int .i64 0,.int .i64 0,.int .u64 4294967295,.int .u64 0,.slice none 0 0,.slice none 0 0,.slice none 0 0,.bool false] 39)
 refine (encCode_yes exFo (by decide) ex_ok (by decide) _ _ hs ex_code).mono ?_
 rintro e w' ⟨p,n,c,rfl,ho,hb2⟩
 rw [ex_enc] at ho
 obtain ⟨g,cc,hv⟩ := own_at ho (by decide)
 refine ⟨p,n,c,rfl,bytes_of_owned ho (by decide),hb.trans (hb2.mono hb.size)⟩
theorem no_call (W : World) : Calls Tryz.prog 25 #[.slice (some ⟨W.heap.size,0,none⟩) 1 1] (W.alloc (.cells #[.int .i64 6,.int .i64 0,.int .i64 0,.int .u64 0,.int .u64 0,.slice none 0 0,.slice none 0 0,.slice none 0 0,.bool false] 39))
  fun e w' => e = .returned (.tuple #[.slice none 0 0,.int .i64 1]) ∧ Below W.heap.size W w' := by
 have hc := CA.new W #[.int .i64 6,.int .i64 0,.int .i64 0,.int .u64 0,.int .u64 0,.slice none 0 0,.slice none 0 0,.slice none 0 0,.bool false] 39
 have hb := (Below.refl W.heap.size W).alloc (Nat.le_refl _) (.cells #[.int .i64 6,.int .i64 0,.int .i64 0,.int .u64 0,.int .u64 0,.slice none 0 0,.slice none 0 0,.slice none 0 0,.bool false] 39)
 have hs := SA_ins (c := 1) ⟨hc.at rfl,hc.at rfl,hc.at rfl,hc.at rfl,hc.at rfl,hc.at rfl,hc.at rfl,hc.at rfl,hc.at rfl⟩ hc.lt (SA.nil _ _ none 0)
 refine (encCode_no (insFo 6 .nil) (by decide) _ _ hs no_code).mono ?_
 rintro e w' ⟨rfl,hb2⟩
 exact ⟨rfl,hb.trans (hb2.mono hb.size)⟩
set_option maxHeartbeats 4000000 in
theorem awakeE (w : World) : Calls Tryz.prog 22 #[] w fun e w' => e = .returned (.bool true) ∧ Below w.heap.size w w' := by
 have HM := fun W => hid (Module_empty W)
 have HE := fun W => hid (ex_call W)
 have HN := fun W => hid (no_call W)
 go_enter Tryz.func22,Tryz.ntmps22
 go_upto_region 4 with (first
  | (go_at_call 23; (with_reducible refine (HM _).out.mono ?_); rintro e w1 ⟨b,rfl,hy,hb⟩; have HY1 := hid hy; have HB1 := hid hb; clear hy hb)
  | (go_at_call 25; (with_reducible refine (HE _).out.mono ?_); rintro e w2 ⟨p,n,c,rfl,hy,hb⟩; have HY2 := hid hy; have HB2 := hid (HB1.out.trans (hb.mono HB1.out.size)); have HZ2 := hid (HY1.out.below hb); have HSZ := hid hb.size; clear hy hb)
  | (go_at_call 25; (with_reducible refine (HN _).out.mono ?_); rintro e w3 ⟨rfl,hb⟩; have HB3 := hid (HB2.out.trans (hb.mono HB2.out.size)); have HZ3 := hid (HZ2.out.below (hb.mono HSZ.out)); have HY3 := hid (HY2.out.below hb); clear hb))
 have c1 := conv_bytes HZ3.out
 have c2 := conv_bytes HY3.out
 go_wp2
 go_ret
 exact ⟨rfl,HB3.out⟩
end Go.Proofs.YtjgeedgphcjhoaaGreat
namespace Go.Proofs.YtjgeedgphcjhoaaGreat
open Go.RowKit
theorem wg_siz : ∀ (f : Fo) (d left : Int),0 ≤ wg f d left → f.siz ≤ 20400 * f.cnt
 | .nil,_,_,_ => Nat.zero_le _
 | .cons op a b n hh l ot body els rest,d,left,h => by
  have h0 : 0 ≤ left := by
   rcases Classical.em (0 ≤ left) with h0 | h0
   ·exact h0
   ·rw [wg_neg _ _ _ (by omega)] at h
    omega
  obtain ⟨A,hA⟩ : ∃ A,A = wgT body (d + 1) (left - 1) := ⟨_,rfl⟩
  obtain ⟨E,hE⟩ : ∃ E,E = wgT els (d + 1) A := ⟨_,rfl⟩
  rw [wg_cons op a b n hh l ot body els rest d left h0 A hA.symm E hE.symm] at h
  have hr := wg_siz rest d _ h
  have hge : 0 ≤ (if 1000 < l.length then -1 else if 0 ≤ A then E else A) := by
   rcases Classical.em (0 ≤ (if 1000 < l.length then -1 else if 0 ≤ A then E else A)) with h1 | h1
   ·exact h1
   ·rw [wg_neg _ _ _ (by omega)] at h
    omega
  have hl : ¬ 1000 < l.length := by intro hc; rw [if_pos hc] at hge; omega
  rw [if_neg hl] at hge
  have hA0 : 0 ≤ A := by
   rcases Classical.em (0 ≤ A) with h1 | h1
   ·exact h1
   ·rw [if_neg h1] at hge; omega
  rw [if_pos hA0] at hge
  have hb : 0 ≤ wg body (d + 1) (left - 1) := by
   unfold wgT at hA
   split at hA
   ·omega
   ·omega
  have he : 0 ≤ wg els (d + 1) A := by
   unfold wgT at hE
   split at hE
   ·omega
   ·omega
  have h1 := wg_siz body _ _ hb
  have h2 := wg_siz els _ _ he
  simp only [Fo.siz,Fo.cnt]
  omega
/-- What the program's Code, and the reference's Expr and Expr, answer. -/
theorem code_facts (f : Fo) (v : Value) (w : World) (hc : f.cnt ≤ 3000) (hsz : f.siz ≤ 20400 * f.cnt) (hr : RN f) (hs : SA w.heap.size w v f) (hB : codeB f = true) : okE f ∧ f.enc.length ≤ 61200000 := by
 have hok := okE_code f hB hr
 have := enc_siz f hok
 exact ⟨hok,by omega⟩
set_option maxHeartbeats 8000000 in
theorem law_Code (f : Fo) (a0 : Option Addr) (len cap : Nat) (w : World) (hL : Lens f) (hlen : f.len < 9223372036854775807) (hr : RN f) (hs : SA w.heap.size w (.slice a0 len cap) f) :
  Calls Tryz.prog 8 #[.slice a0 len cap] w fun e w' => e = .returned (.bool true) ∧ Below w.heap.size w w' := by
 have HA := fun W => hid (awakeE W)
 have HSL := fun (W : World) (h : Below w.heap.size w W) => hid (SA.mono (SA.below hs h) h.size)
 have HF := fun (W : World) (h : Below w.heap.size w W) => hid (Few_says f (.slice a0 len cap) W hL hlen (HSL W h).out)
 by_cases hfew : 0 ≤ wg f 0 3000
 ·have hcnt := few_cnt f hfew
  have hsz := wg_siz f 0 3000 hfew
  rw [decide_eq_true hfew] at HF
  have HX := fun (W : World) (h : Below w.heap.size w W) => hid (Expr_says f (.slice a0 len cap) W.heap.size W (by omega) hr.rng (Nat.le_refl _) (HSL W h).out)
  by_cases hcb : codeB f = true
  ·obtain ⟨hok,hel⟩ := code_facts f (.slice a0 len cap) w hcnt hsz hr hs hcb
   have HC := fun (W : World) (h : Below w.heap.size w W) => hid (encCode_yes f (by omega) hok (by omega) (.slice a0 len cap) W (HSL W h).out hcb)
   have HR := fun (W : World) (h : Below w.heap.size w W) => hid (ExprR_says W.heap.size f (by omega) hok (by omega) (.slice a0 len cap) W (Nat.le_refl _) (HSL W h).out)
   rw [hcb] at HX
   obtain ⟨E,hE⟩ : ∃ E,E = f.enc ++ [11] := ⟨_,rfl⟩
   rw [← hE] at HC HR
   have HE1 := hid (show 1 ≤ E.length by rw [hE]; simp)
   have HE2 := hid (show E.length ≤ 140737488351232 by rw [hE]; simp only [List.length_append,List.length_cons,List.length_nil]; omega)
   obtain ⟨s,hst⟩ : ∃ s : ByteArray,(⟨E.toArray⟩ : ByteArray) = s := ⟨_,rfl⟩
   have HST := hid hst
   clear hs hL hlen hr hfew hcnt hsz hcb hok hel hE hst HSL
   go_enter Tryz.func8,Tryz.ntmps8
   go_upto_region 11 with (first
    | (go_at_call 22; (with_reducible refine (HA _).out.mono ?_); rintro e w1 ⟨rfl,hb⟩; have HB1 := hid hb; clear hb)
    | (go_at_call 17; (with_reducible refine (HF _ HB1.out).out.mono ?_); rintro e w2 ⟨rfl,rfl⟩)
    | (go_at_call 25; (with_reducible refine (HC _ HB1.out).out.mono ?_); rintro e w3 ⟨p,n,c,rfl,ho,hb⟩; have HY3 := hid (bytes_of_owned ho HE2.out); have HB3 := hid (HB1.out.trans (hb.mono HB1.out.size)); clear ho hb)
    | (go_at_call 26; (with_reducible refine (HX _ HB3.out).out.mono ?_); rintro e w4 ⟨rfl,hb⟩; have HB4 := hid (HB3.out.trans (hb.mono HB3.out.size)); have HY4 := hid (HY3.out.below hb); have HZ4 := hid hb.size; clear hb))
   obtain ⟨B1,hB1⟩ : ∃ B1,B1 = w3.heap.size := ⟨_,rfl⟩
   rw [← hB1] at HY4 HZ4
   have hS : Below w.heap.size w w4.drew ∧ B1 ≤ w4.drew.heap.size ∧ BytesAt B1 w4.drew (.slice p n c) E := ⟨HB4.out.drew,HZ4.out,HY4.out⟩
   clear HB4 HZ4 HY4 HB3 HY3 hB1
   refine wp_region_held_drew (S := fun W => Below w.heap.size w W ∧ B1 ≤ W.heap.size ∧ BytesAt B1 W (.slice p n c) E) (by kernel_rfl) hS (fun _ => ?_)
   generalize w4.drew = W at *
   refine wpAnyH_take (oi := ⟨_,_,_,_,_,_⟩) (i := 0) (v := .int .i64 0) rfl (by kernel_rfl) (by kernel_rfl) (by kernel_rfl) (fun _ _ _ h => h) (Or.inl ⟨by rfl,?_⟩) (by assumption) ?_
   ·(intro W hSw; have c1 := conv_bytes hSw.2.2; rw [HST.out] at c1; go_simp; try (with_reducible rfl))
   try simp only [Act.put,List.setIfInBounds_toArray,List.set_cons_zero,List.set_cons_succ]
   refine wpAnyH_take (oi := ⟨_,_,_,_,_,_⟩) (i := 1) (v := .bool true) rfl (by kernel_rfl) (by kernel_rfl) (by kernel_rfl) (fun _ _ _ h => h) (Or.inl ⟨by rfl,?_⟩) (by assumption) ?_
   ·(intro W hSw; have c1 := conv_bytes hSw.2.2; rw [HST.out] at c1; go_simp; try (with_reducible rfl))
   try simp only [Act.put,List.setIfInBounds_toArray,List.set_cons_zero,List.set_cons_succ]
   refine wpAnyH_take (oi := ⟨_,_,_,_,_,_⟩) (i := 2) (v := .bool true) rfl (by kernel_rfl) (by kernel_rfl) (by kernel_rfl) (fun _ _ _ h => h) (Or.inl ⟨by rfl,?_⟩) (by assumption) ?_
   ·(intro W hSw; have c1 := conv_bytes hSw.2.2; rw [HST.out] at c1; go_simp; try (with_reducible rfl))
   try simp only [Act.put,List.setIfInBounds_toArray,List.set_cons_zero,List.set_cons_succ]
   refine wpAnyH_take (oi := ⟨_,_,_,_,_,_⟩) (i := 3) (v := .slice p n c) rfl (by kernel_rfl) (by kernel_rfl) (by kernel_rfl) (fun _ _ _ h => h) (Or.inl ⟨by rfl,?_⟩) (by assumption) ?_
   ·(intro W hSw; have c1 := conv_bytes hSw.2.2; rw [HST.out] at c1; go_simp; try (with_reducible rfl))
   try simp only [Act.put,List.setIfInBounds_toArray,List.set_cons_zero,List.set_cons_succ]
   refine wpAnyH_take (oi := ⟨_,_,_,_,_,_⟩) (i := 4) (v := .string s) rfl (by kernel_rfl) (by kernel_rfl) (by kernel_rfl) (fun _ _ _ h => h) (Or.inl ⟨by rfl,?_⟩) (by assumption) ?_
   ·(intro W hSw; have c1 := conv_bytes hSw.2.2; rw [HST.out] at c1; go_simp; try (with_reducible rfl))
   try simp only [Act.put,List.setIfInBounds_toArray,List.set_cons_zero,List.set_cons_succ]
   refine wpAnyH_take (oi := ⟨_,_,_,_,_,_⟩) (i := 5) (v := .slice a0 len cap) rfl (by kernel_rfl) (by kernel_rfl) (by kernel_rfl) (fun _ _ _ h => h) (Or.inl ⟨by rfl,?_⟩) (by assumption) ?_
   ·(intro W hSw; have c1 := conv_bytes hSw.2.2; rw [HST.out] at c1; go_simp; try (with_reducible rfl))
   try simp only [Act.put,List.setIfInBounds_toArray,List.set_cons_zero,List.set_cons_succ]
   refine wpAnyH_ready (rs := [6]) (by kernel_rfl) (by simp) ?_
   refine AllReadyH.cons (o := ⟨_,_,_,_,_,_⟩) rfl (fun K hK => ?_) ?_
   ·go_simp
    go_at_call 27
    (with_reducible refine (HR W hS.1).out.mono ?_)
    rintro e W1 ⟨v,rfl,ho,hb⟩
    obtain ⟨g9,c9,rfl⟩ := own_at ho HE1.out
    have HY := hid (bytes_of_owned ho HE2.out)
    replace hS := And.intro (hS.1.trans (hb.mono hS.1.size)) (And.intro (Nat.le_trans hS.2.1 hb.size) (hS.2.2.below (hb.mono hS.2.1)))
    clear ho hb
    refine hK.out _ _ hS (fun _ => ?_)
    clear hK K
    try simp only [Act.put,List.setIfInBounds_toArray,List.set_cons_zero,List.set_cons_succ]
    refine wpAnyH_ready (rs := [7]) (by kernel_rfl) (by simp) ?_
    refine AllReadyH.cons (o := ⟨_,_,_,_,_,_⟩) rfl (fun K hK => ?_) ?_
    ·have c2 := conv_bytes HY.out
     rw [HST.out] at c2
     go_simp
     clear c2
     refine hK.out _ _ hS (fun _ => ?_)
     clear hK K
     try simp only [Act.put,List.setIfInBounds_toArray,List.set_cons_zero,List.set_cons_succ]
     refine wpAnyH_take (oi := ⟨_,_,_,_,_,_⟩) (i := 8) (v := .bool true) rfl (by kernel_rfl) (by kernel_rfl) (by kernel_rfl) (fun _ _ _ h => h) (Or.inl ⟨by rfl,?_⟩) (by assumption) ?_
     ·(intro W hSw; have c1 := conv_bytes hSw.2.2; rw [HST.out] at c1; go_simp; try (with_reducible rfl))
     try simp only [Act.put,List.setIfInBounds_toArray,List.set_cons_zero,List.set_cons_succ]
     refine wpAnyH_take (oi := ⟨_,_,_,_,_,_⟩) (i := 9) (v := .bool true) rfl (by kernel_rfl) (by kernel_rfl) (by kernel_rfl) (fun _ _ _ h => h) (Or.inl ⟨by rfl,?_⟩) (by assumption) ?_
     ·(intro W hSw; have c1 := conv_bytes hSw.2.2; rw [HST.out] at c1; go_simp; try (with_reducible rfl))
     try simp only [Act.put,List.setIfInBounds_toArray,List.set_cons_zero,List.set_cons_succ]
     refine wpAnyH_take (oi := ⟨_,_,_,_,_,_⟩) (i := 10) (v := .bool true) rfl (by kernel_rfl) (by kernel_rfl) (by kernel_rfl) (fun _ _ _ h => h) (Or.inl ⟨by rfl,?_⟩) (by assumption) ?_
     ·(intro W hSw; have c1 := conv_bytes hSw.2.2; rw [HST.out] at c1; go_simp; try (with_reducible rfl))
     try simp only [Act.put,List.setIfInBounds_toArray,List.set_cons_zero,List.set_cons_succ]
     refine wpAnyH_done (by kernel_rfl) ?_ _
     have HF := hid hS.1
     clear hS
     go_wp2
     go_ret
     exact ⟨rfl,HF.out⟩
    exact AllReadyH.nil
   exact AllReadyH.nil
  ·have hcf : codeB f = false := by simpa using hcb
   have HC := fun (W : World) (h : Below w.heap.size w W) => hid (encCode_no f (by omega) (.slice a0 len cap) W (HSL W h).out hcf)
   rw [hcf] at HX
   clear hs hL hlen hr hfew hcnt hsz hcb hcf HSL
   go_enter Tryz.func8,Tryz.ntmps8
   go_wp2_with (first
    | (go_at_call 22; (with_reducible refine (HA _).out.mono ?_); rintro e w1 ⟨rfl,hb⟩; have HB1 := hid hb; clear hb)
    | (go_at_call 17; (with_reducible refine (HF _ HB1.out).out.mono ?_); rintro e w2 ⟨rfl,rfl⟩)
    | (go_at_call 25; (with_reducible refine (HC _ HB1.out).out.mono ?_); rintro e w3 ⟨rfl,hb⟩; have HB3 := hid (HB1.out.trans (hb.mono HB1.out.size)); clear hb)
    | (go_at_call 26; (with_reducible refine (HX _ HB3.out).out.mono ?_); rintro e w4 ⟨rfl,hb⟩; have HB4 := hid (HB3.out.trans (hb.mono HB3.out.size)); clear hb))
   go_ret
   exact ⟨rfl,HB4.out⟩
 ·rw [decide_eq_false hfew] at HF
  clear hs hL hlen hr hfew HSL
  go_enter Tryz.func8,Tryz.ntmps8
  go_wp2_with (first
   | (go_at_call 22; (with_reducible refine (HA _).out.mono ?_); rintro e w1 ⟨rfl,hb⟩; have HB1 := hid hb; clear hb)
   | (go_at_call 17; (with_reducible refine (HF _ HB1.out).out.mono ?_); rintro e w2 ⟨rfl,rfl⟩))
  go_ret
  exact ⟨rfl,HB1.out⟩
end Go.Proofs.YtjgeedgphcjhoaaGreat
