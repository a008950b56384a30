/-
  ECode, RSgn, EAw, Cop5, Cop6, Aw1, EAw2, ECodeL: merged, what the law does not reach left out (each text says what it holds where it lies in wip). No condition.
-/
import Derived.Test.YtjgeedgphcjhoaaGreatU20
import Derived.Test.YtjgeedgphcjhoaaGreatU09
import Derived.Test.YtjgeedgphcjhoaaGreatU06
import Derived.Test.YtjgeedgphcjhoaaGreatU12
import Derived.Test.YtjgeedgphcjhoaaGreatU14
import Derived.Laws.BitsLemmas
import Derived.Laws.Bits64
import Derived.Laws.Bits64b
import Derived.Laws.BytesArg
import Derived.Lib.SlBytesConst
import Derived.Test.YtjgeedgphcjhoaaGreatU03
import Derived.OwnWalk
import Derived.Laws.OwnMore
import Derived.Lib.SliceRun
import Derived.Test.YtjgeedgphcjhoaaGreatU01
import Derived.Lib.AppendStr
import Derived.Test.YtjgeedgphcjhoaaGreatU13
import Derived.Deep.RegionHeld3
import Derived.Deep.DeepCutAuto
import Derived.Test.YtjgeedgphcjhoaaGreatU17
import Derived.IntWalk
set_option linter.unusedSimpArgs false
set_option linter.unusedVariables false
set_option maxRecDepth 100000
namespace Go.Proofs.YtjgeedgphcjhoaaGreat
open Go.RowKit
theorem kn_range (op : Int) (h : knB (lineL op) = true) : 0 ≤ op ∧ op < 65024 := by
 rcases Classical.em (0 ≤ op ∧ op < 65024) with hr | hr
 ·exact hr
 have : lineL op = ln0 := by
  unfold lineL
  by_cases h0 : op < 0
  ·rw [if_pos h0]
  rw [if_neg h0,if_neg (by omega),if_neg (by omega),if_neg (by omega)]
 rw [this,show knB ln0 = false by kernel_rfl] at h
 cases h
theorem ok_block (op a b : Int) (n h : Nat) (l : List Int) (ot : Bool) (nb ne : Nat) (hi : insB op a b n h l ot nb ne = true) (hk : (lineL op).2.1 = 1) : a = 0 ∨ a = 1 ∨ a = 2 := by
 unfold insB at hi
 rw [hk] at hi
 simp only [okB,if_pos,Bool.and_eq_true] at hi
 obtain ⟨_,h2⟩ := hi
 unfold blB at h2
 by_cases h0 : a = 0
 ·exact .inl h0
 by_cases h1 : a = 1
 ·exact .inr (.inl h1)
 by_cases h2' : a = 2
 ·exact .inr (.inr h2')
 exfalso
 simp [h0,h1,h2'] at h2
theorem okE_of : ∀ f : Fo,onesB f = true → RN f → okE f
 | .nil,_,_ => trivial
 | .cons op a b n h l ot body els rest,h1,h2 => by
  simp only [onesB,Bool.and_eq_true] at h1
  obtain ⟨⟨⟨hi,hb⟩,he⟩,hr⟩ := h1
  obtain ⟨ra,rb,rl,rbo,rel,rre,rn,rh⟩ := h2
  have hk : knB (lineL op) = true := by
   have := hi
   unfold insB at this
   exact (Bool.and_eq_true _ _ ▸ this : _ ∧ _).1
  exact ⟨⟨(kn_range op hk).1,(kn_range op hk).2,rn,rh,rb,ok_block op a b n h l ot _ _ hi⟩,okE_of body hb rbo,okE_of els he rel,okE_of rest hr rre⟩
theorem okE_code (f : Fo) (h : codeB f = true) (hr : RN f) : okE f := by
 rw [code_eq,Bool.and_eq_true] at h
 exact okE_of f h.1 hr
set_option maxHeartbeats 4000000 in
theorem May_global (f : Fo) (hn : f.cnt < 9223372036854775806) (p : Option Addr) (n c gv : Nat) (w : World) (hc : CA gv #[.int .i64 127,.bool false,.slice p n c] 46 w) (hs : SA w.heap.size w (.slice p n c) f) :
  Calls Tryz.prog 15 #[.agg #[.slice none 0 0,.slice none 0 0,.slice none 0 0,.slice none 0 0,.slice none 0 0,.slice (some ⟨gv,0,none⟩) 1 1,.slice none 0 0,.int .i64 0,.slice none 0 0,.slice none 0 0,.bool false]] w fun e w' => e = .returned (.bool (codeB f)) ∧ Below w.heap.size w w' := by
 have hgv : ∀ W,Below w.heap.size w W → Calls Tryz.prog 40 #[.slice (some ⟨gv,0,none⟩) 1 1,.func (.func 41) #[] #[]] W fun e w' => e = .returned (.bool (codeB f)) ∧ Below W.heap.size W w' := by
  intro W hW
  have hcW := hc.below hW hc.lt
  have := all_var 41 (fun _ _ => rfl) (fun _ => valB 127 && codeB f) 1 gv 0 1 (fun _ => 127) (fun _ => false) (fun _ => p) (fun _ => n) (fun _ => c) W (fun _ => hcW.lt) (by decide) (some ⟨gv,0,none⟩) (fun _ => rfl)
   (fun i hi => by
    obtain rfl : i = 0 := by omega
    exact ⟨hcW.at rfl,hcW.at rfl,hcW.at rfl⟩)
   (fun i hi W' hW' => isGlobal_says 127 false f p n c w.heap.size W' hn (Nat.le_trans hW.size hW'.size) (SA.below hs (hW.trans (hW'.mono hW.size))))
  simpa [show valB 127 = true from rfl,List.range_succ] using this
 have key := MayG_says none none none none none (some ⟨gv,0,none⟩) none none none 0 0 0 0 0 0 0 0 0 0 1 1 0 0 0 0 0 0 true true true true true (codeB f) true true true true true false 0 w
  (fun W _ => (all_nil_22 31 none 0 W).mono fun e w' h => ⟨h.1,h.2 ▸ Below.refl _ _⟩)
  (fun W _ => (all_nil_24 33 none 0 W).mono fun e w' h => ⟨h.1,h.2 ▸ Below.refl _ _⟩)
  (fun W _ => (all_nil_26 35 none 0 W).mono fun e w' h => ⟨h.1,h.2 ▸ Below.refl _ _⟩)
  (fun W _ => (all_nil_28 37 none 0 W).mono fun e w' h => ⟨h.1,h.2 ▸ Below.refl _ _⟩)
  (fun W _ => (all_nil_30 39 none 0 W).mono fun e w' h => ⟨h.1,h.2 ▸ Below.refl _ _⟩)
  hgv
  (fun W _ => (all_nil_34 43 none 0 W).mono fun e w' h => ⟨h.1,h.2 ▸ Below.refl _ _⟩)
  (fun W => isStart_says 0 W)
  (fun W _ => (all_nil_37 46 none 0 W).mono fun e w' h => ⟨h.1,h.2 ▸ Below.refl _ _⟩)
  (fun W _ => (all_nil_39 48 none 0 W).mono fun e w' h => ⟨h.1,h.2 ▸ Below.refl _ _⟩)
  (fun W _ => (all_nil_26 49 none 0 W).mono fun e w' h => ⟨h.1,h.2 ▸ Below.refl _ _⟩)
 simpa using key
set_option maxHeartbeats 4000000 in
theorem encCode_no (f : Fo) (hn : f.cnt < 9223372036854775806) (v : Value) (w : World) (hs : SA w.heap.size w v f) (hc : codeB f = false) :
  Calls Tryz.prog 25 #[v] w fun e w' => e = .returned (.tuple #[.slice none 0 0,.int .i64 1]) ∧ Below w.heap.size w w' := by
 obtain ⟨p,c,g',o',rfl,_,_⟩ := id hs
 have hb1 := (Below.refl w.heap.size w).alloc (Nat.le_refl _) (.cells #[.int .i64 127,.bool false,.slice p f.len c] 46)
 have hc1 := (CA.new w #[.int .i64 127,.bool false,.slice p f.len c] 46)
 have hc2 := hc1.alloc (.cells #[.slice none 0 0,.slice none 0 0,.slice none 0 0,.slice none 0 0,.slice none 0 0,.slice (some ⟨w.heap.size,0,none⟩) 1 1,.slice none 0 0,.int .i64 0,.slice none 0 0,.slice none 0 0,.bool false] 32)
 have hb2 := hb1.alloc (by rw [size_al]; omega) (.cells #[.slice none 0 0,.slice none 0 0,.slice none 0 0,.slice none 0 0,.slice none 0 0,.slice (some ⟨w.heap.size,0,none⟩) 1 1,.slice none 0 0,.int .i64 0,.slice none 0 0,.slice none 0 0,.bool false] 32)
 have HM := hid (May_global f hn p f.len c w.heap.size _ hc2 (SA.mono (SA.below hs hb2) hb2.size))
 rw [hc] at HM
 have HB2 := hid hb2
 clear hb1 hc1 hc2 hb2 hs hn hc
 generalize f.len = m at *
 go_enter Tryz.func25,Tryz.ntmps25
 go_wp2_with (go_at_call 15; (with_reducible refine HM.out.mono ?_); rintro e w1 ⟨rfl,hb⟩; have HB3 := hid (HB2.out.trans (hb.mono HB2.out.size)); clear hb)
 go_ret2
 exact ⟨rfl,HB3.out⟩
set_option maxHeartbeats 4000000 in
theorem encCode_yes (f : Fo) (hn : f.cnt < 9223372036854775806) (hok : okE f) (hsz : 20 + f.siz ≤ 140737488355000) (v : Value) (w : World) (hs : SA w.heap.size w v f) (hc : codeB f = true) :
  Calls Tryz.prog 25 #[v] w fun e w' => ∃ p n c,e = .returned (.tuple #[.slice p n c,.int .i64 0]) ∧ w'.ownsRow w.heap.size 5 1 (.slice p n c) (f.enc ++ [11]).length (Lib.byteCells (f.enc ++ [11])) ∧ Below w.heap.size w w' := by
 obtain ⟨p,c,g',o',rfl,_,_⟩ := id hs
 have hb1 := (Below.refl w.heap.size w).alloc (Nat.le_refl _) (.cells #[.int .i64 127,.bool false,.slice p f.len c] 46)
 have hc1 := (CA.new w #[.int .i64 127,.bool false,.slice p f.len c] 46)
 have hc2 := hc1.alloc (.cells #[.slice none 0 0,.slice none 0 0,.slice none 0 0,.slice none 0 0,.slice none 0 0,.slice (some ⟨w.heap.size,0,none⟩) 1 1,.slice none 0 0,.int .i64 0,.slice none 0 0,.slice none 0 0,.bool false] 32)
 have hb2 := hb1.alloc (by rw [size_al]; omega) (.cells #[.slice none 0 0,.slice none 0 0,.slice none 0 0,.slice none 0 0,.slice none 0 0,.slice (some ⟨w.heap.size,0,none⟩) 1 1,.slice none 0 0,.int .i64 0,.slice none 0 0,.slice none 0 0,.bool false] 32)
 have HM := hid (May_global f hn p f.len c w.heap.size _ hc2 (SA.mono (SA.below hs hb2) hb2.size))
 rw [hc] at HM
 have HB2 := hid hb2
 have HC := fun W (hW : Below w.heap.size w W) => hid (code_says w.heap.size W.heap.size f hn hok (.slice p f.len c) [] (W.alloc (.cells #[.slice none 0 0] 137)) ⟨(by rw [size_al]; have := hW.size; omega),_,CA.new W #[.slice none 0 0] 137,World.ownsRow_nil _ _ _ _⟩ (SA.mono (SA.below hs (hW.alloc hW.size _)) (le_lo (Nat.le_refl _) hW.size)) (by simpa using hsz))
 obtain ⟨E,hE⟩ : ∃ E,E = f.enc ++ [11] := ⟨_,rfl⟩
 rw [← hE] at HC ⊢
 rw [List.nil_append] at HC
 clear hb1 hc1 hc2 hb2 hs hn hc hok hsz hE
 generalize f.len = m at *
 go_enter Tryz.func25,Tryz.ntmps25
 go_wp2_with (first
  | (go_at_call 15; (with_reducible refine HM.out.mono ?_); rintro e w1 ⟨rfl,hb⟩; have HB3 := hid (HB2.out.trans (hb.mono HB2.out.size)); clear hb)
  | (go_at_call 136; (with_reducible refine (HC _ HB3.out).out.mono ?_); rintro e w2 ⟨rfl,⟨hg,u,hcu,hou⟩,hf⟩; have HF := hid (((FR.refl w.heap.size w1.heap.size w1).alloc _).trans hf); obtain ⟨pu,nu,cu,rfl⟩ := own_slice hou; have y0 := hcu.at (k := 0) (v := .slice pu nu cu) rfl; have HOU := hid hou; clear hg hcu hou hf))
 go_ret2
 exact ⟨pu,nu,cu,rfl,HOU.out,HB3.out.trans (HF.out.below HB3.out.size HB3.out.size)⟩
end Go.Proofs.YtjgeedgphcjhoaaGreat
namespace Go.Proofs.YtjgeedgphcjhoaaGreat
open Go.RowKit
def Okn (n : Nat) : Prop := n = 8 ∨ n = 16 ∨ n = 32 ∨ n = 64
instance (n : Nat) : Decidable (Okn n) := by unfold Okn; exact inferInstance
theorem Okn.le {n : Nat} (h : Okn n) : 8 ≤ n ∧ n ≤ 64 := by unfold Okn at h; omega
end Go.Proofs.YtjgeedgphcjhoaaGreat
namespace Go.Proofs.YtjgeedgphcjhoaaGreat
open Go.RowKit
theorem strOfNums_bytes (l : List UInt8) : strOfNums (l.map fun b => (b.toNat : Int)) = ⟨l.toArray⟩ := by
 unfold strOfNums
 congr 2
 rw [List.map_map]
 conv => rhs; rw [← List.map_id l]
 apply List.map_congr_left
 intro b _
 simp
theorem conv_bytes {B : Nat} {w : World} {v : Value} {l : List UInt8} (h : BytesAt B w v l) : (convert 52 9 v).run Tryz.prog w = .ok (.string ⟨l.toArray⟩) w := by
 rcases h with ⟨rfl,rfl⟩ | ⟨g,off,cap,rfl,_,_,_,h5⟩
 ·rw [run_convert_bytes_nil w 52 5 Tryz.underlying52 Tryz.underlying5 0 0 9 Tryz.underlying9]
  rfl
 rw [run_convert_bytes_arg w 52 5 Tryz.underlying52 Tryz.underlying5 g off l.length cap (l.map fun b => (b.toNat : Int)) (by simp) (fun i hi => ?_) 9 Tryz.underlying9,strOfNums_bytes]
 rw [h5 i l[i] (List.getElem?_eq_getElem hi)]
 simp [List.getElem?_eq_getElem hi]
theorem bytes_lit {w : World} (l : List UInt8) (cs : Array Value) (fr : Nat × Nat) (hcs : cs.toList = Lib.byteCells l) (n : Nat) (hn : n = l.length) (hl : l.length ≤ 140737488351232) :
  BytesAt (w.heap.size + 1) (w.alloc (.cells cs 5 fr)) (.slice (some ⟨w.heap.size,0,none⟩) n n) l := by
 subst hn
 refine .inr ⟨w.heap.size,0,l.length,rfl,by omega,Nat.le_refl _,⟨by omega,hl⟩,fun j u hj => ?_⟩
 rw [Nat.zero_add,cell_of_row _ _ _ cs 5 fr (heap_alloc_new _ _),← Array.getElem?_toList,hcs]
 simp only [Lib.byteCells,List.getElem?_map,hj,Option.map_some]
theorem sec_nil_97 (a : Addr) (i : Int) (k : Nat) (b : Addr) (w : World) : Calls Tryz.prog 97 #[.pointer (some a),.int .i64 i,.slice none 0 0,.func (.func k) #[] #[.pointer (some b)]] w fun e w' => e = .returned (.tuple #[]) ∧ Below w.heap.size w w' := by
 go_enter Tryz.func97,Tryz.ntmps97
 go_wp2
 (first | go_end0 | refine bodyPost_ret (results_none rfl _ _ _) rfl ?_)
 exact ⟨rfl,(((Below.refl w.heap.size w).alloc (Nat.le_refl _) _).alloc (by simp only [size_al]; omega) _).alloc (by simp only [size_al]; omega) _⟩
theorem sec_nil_100 (a : Addr) (i : Int) (k : Nat) (b : Addr) (w : World) : Calls Tryz.prog 100 #[.pointer (some a),.int .i64 i,.slice none 0 0,.func (.func k) #[] #[.pointer (some b)]] w fun e w' => e = .returned (.tuple #[]) ∧ Below w.heap.size w w' := by
 go_enter Tryz.func100,Tryz.ntmps100
 go_wp2
 (first | go_end0 | refine bodyPost_ret (results_none rfl _ _ _) rfl ?_)
 exact ⟨rfl,(((Below.refl w.heap.size w).alloc (Nat.le_refl _) _).alloc (by simp only [size_al]; omega) _).alloc (by simp only [size_al]; omega) _⟩
theorem sec_nil_103 (a : Addr) (i : Int) (k : Nat) (b : Addr) (w : World) : Calls Tryz.prog 103 #[.pointer (some a),.int .i64 i,.slice none 0 0,.func (.func k) #[] #[.pointer (some b)]] w fun e w' => e = .returned (.tuple #[]) ∧ Below w.heap.size w w' := by
 go_enter Tryz.func103,Tryz.ntmps103
 go_wp2
 (first | go_end0 | refine bodyPost_ret (results_none rfl _ _ _) rfl ?_)
 exact ⟨rfl,(((Below.refl w.heap.size w).alloc (Nat.le_refl _) _).alloc (by simp only [size_al]; omega) _).alloc (by simp only [size_al]; omega) _⟩
theorem sec_nil_106 (a : Addr) (i : Int) (k : Nat) (b : Addr) (w : World) : Calls Tryz.prog 106 #[.pointer (some a),.int .i64 i,.slice none 0 0,.func (.func k) #[] #[.pointer (some b)]] w fun e w' => e = .returned (.tuple #[]) ∧ Below w.heap.size w w' := by
 go_enter Tryz.func106,Tryz.ntmps106
 go_wp2
 (first | go_end0 | refine bodyPost_ret (results_none rfl _ _ _) rfl ?_)
 exact ⟨rfl,(((Below.refl w.heap.size w).alloc (Nat.le_refl _) _).alloc (by simp only [size_al]; omega) _).alloc (by simp only [size_al]; omega) _⟩
theorem sec_nil_109 (a : Addr) (i : Int) (k : Nat) (b : Addr) (w : World) : Calls Tryz.prog 109 #[.pointer (some a),.int .i64 i,.slice none 0 0,.func (.func k) #[] #[.pointer (some b)]] w fun e w' => e = .returned (.tuple #[]) ∧ Below w.heap.size w w' := by
 go_enter Tryz.func109,Tryz.ntmps109
 go_wp2
 (first | go_end0 | refine bodyPost_ret (results_none rfl _ _ _) rfl ?_)
 exact ⟨rfl,(((Below.refl w.heap.size w).alloc (Nat.le_refl _) _).alloc (by simp only [size_al]; omega) _).alloc (by simp only [size_al]; omega) _⟩
theorem sec_nil_112 (a : Addr) (i : Int) (k : Nat) (b : Addr) (w : World) : Calls Tryz.prog 112 #[.pointer (some a),.int .i64 i,.slice none 0 0,.func (.func k) #[] #[.pointer (some b)]] w fun e w' => e = .returned (.tuple #[]) ∧ Below w.heap.size w w' := by
 go_enter Tryz.func112,Tryz.ntmps112
 go_wp2
 (first | go_end0 | refine bodyPost_ret (results_none rfl _ _ _) rfl ?_)
 exact ⟨rfl,(((Below.refl w.heap.size w).alloc (Nat.le_refl _) _).alloc (by simp only [size_al]; omega) _).alloc (by simp only [size_al]; omega) _⟩
theorem sec_nil_115 (a : Addr) (i : Int) (k : Nat) (b : Addr) (w : World) : Calls Tryz.prog 115 #[.pointer (some a),.int .i64 i,.slice none 0 0,.func (.func k) #[] #[.pointer (some b)]] w fun e w' => e = .returned (.tuple #[]) ∧ Below w.heap.size w w' := by
 go_enter Tryz.func115,Tryz.ntmps115
 go_wp2
 (first | go_end0 | refine bodyPost_ret (results_none rfl _ _ _) rfl ?_)
 exact ⟨rfl,(((Below.refl w.heap.size w).alloc (Nat.le_refl _) _).alloc (by simp only [size_al]; omega) _).alloc (by simp only [size_al]; omega) _⟩
theorem sec_nil_120 (a : Addr) (i : Int) (k : Nat) (b : Addr) (w : World) : Calls Tryz.prog 120 #[.pointer (some a),.int .i64 i,.slice none 0 0,.func (.func k) #[] #[.pointer (some b)]] w fun e w' => e = .returned (.tuple #[]) ∧ Below w.heap.size w w' := by
 go_enter Tryz.func120,Tryz.ntmps120
 go_wp2
 (first | go_end0 | refine bodyPost_ret (results_none rfl _ _ _) rfl ?_)
 exact ⟨rfl,(((Below.refl w.heap.size w).alloc (Nat.le_refl _) _).alloc (by simp only [size_al]; omega) _).alloc (by simp only [size_al]; omega) _⟩
theorem sec_nil_126 (a : Addr) (i : Int) (k : Nat) (b : Addr) (w : World) : Calls Tryz.prog 126 #[.pointer (some a),.int .i64 i,.slice none 0 0,.func (.func k) #[] #[.pointer (some b)]] w fun e w' => e = .returned (.tuple #[]) ∧ Below w.heap.size w w' := by
 go_enter Tryz.func126,Tryz.ntmps126
 go_wp2
 (first | go_end0 | refine bodyPost_ret (results_none rfl _ _ _) rfl ?_)
 exact ⟨rfl,(((Below.refl w.heap.size w).alloc (Nat.le_refl _) _).alloc (by simp only [size_al]; omega) _).alloc (by simp only [size_al]; omega) _⟩
theorem May_empty (w : World) : Calls Tryz.prog 15 #[.agg #[.slice none 0 0,.slice none 0 0,.slice none 0 0,.slice none 0 0,.slice none 0 0,.slice none 0 0,.slice none 0 0,.int .i64 0,.slice none 0 0,.slice none 0 0,.bool false]] w fun e w' => e = .returned (.bool true) ∧ Below w.heap.size w w' := by
 have key := MayG_says none none none none none none none none none 0 0 0 0 0 0 0 0 0 0 0 0 0 0 0 0 0 0 true true true true true true true true true true true false 0 w
  (fun W _ => (all_nil_22 31 none 0 W).mono fun e w' h => ⟨h.1,h.2 ▸ Below.refl _ _⟩)
  (fun W _ => (all_nil_24 33 none 0 W).mono fun e w' h => ⟨h.1,h.2 ▸ Below.refl _ _⟩)
  (fun W _ => (all_nil_26 35 none 0 W).mono fun e w' h => ⟨h.1,h.2 ▸ Below.refl _ _⟩)
  (fun W _ => (all_nil_28 37 none 0 W).mono fun e w' h => ⟨h.1,h.2 ▸ Below.refl _ _⟩)
  (fun W _ => (all_nil_30 39 none 0 W).mono fun e w' h => ⟨h.1,h.2 ▸ Below.refl _ _⟩)
  (fun W _ => (all_nil_32 41 none 0 W).mono fun e w' h => ⟨h.1,h.2 ▸ Below.refl _ _⟩)
  (fun W _ => (all_nil_34 43 none 0 W).mono fun e w' h => ⟨h.1,h.2 ▸ Below.refl _ _⟩)
  (fun W => isStart_says 0 W)
  (fun W _ => (all_nil_37 46 none 0 W).mono fun e w' h => ⟨h.1,h.2 ▸ Below.refl _ _⟩)
  (fun W _ => (all_nil_39 48 none 0 W).mono fun e w' h => ⟨h.1,h.2 ▸ Below.refl _ _⟩)
  (fun W _ => (all_nil_26 49 none 0 W).mono fun e w' h => ⟨h.1,h.2 ▸ Below.refl _ _⟩)
 simpa using key
def EMp (gm gb : Nat) (w : World) : Prop := CA gm #[.slice none 0 0,.slice none 0 0,.slice none 0 0,.slice none 0 0,.slice none 0 0,.slice none 0 0,.slice none 0 0,.int .i64 0,.slice none 0 0,.slice none 0 0,.bool false] 32 w ∧ CA (gb + 1) #[.slice (some ⟨gb,0,none⟩) 8 8] 137 w ∧ CA (gb + 1 + 1) #[.pointer (some ⟨gb + 1,0,none⟩)] 135 w ∧ BytesAt (gb + 1) w (.slice (some ⟨gb,0,none⟩) 8 8) [0,97,115,109,1,0,0,0]
theorem EMp.call {gm gb : Nat} {w w' : World} (h : EMp gm gb w) (hb : Below w.heap.size w w') : EMp gm gb w' :=
 ⟨h.1.below hb h.1.lt,h.2.1.below hb h.2.1.lt,h.2.2.1.below hb h.2.2.1.lt,h.2.2.2.below (hb.mono (Nat.le_of_lt h.2.1.lt))⟩
set_option maxHeartbeats 16000000 in
theorem Module_empty (w : World) : Calls Tryz.prog 23 #[.agg #[.slice none 0 0,.slice none 0 0,.slice none 0 0,.slice none 0 0,.slice none 0 0,.slice none 0 0,.slice none 0 0,.int .i64 0,.slice none 0 0,.slice none 0 0,.bool false]] w fun e w' => ∃ b,e = .returned (.tuple #[.slice (some ⟨b,0,none⟩) 8 8,.int .i64 0]) ∧ BytesAt w'.heap.size w' (.slice (some ⟨b,0,none⟩) 8 8) [0,97,115,109,1,0,0,0] ∧ Below w.heap.size w w' := by
 have hmf : ∀ (fn : Fn) (first cap : Array Value) (w : World),(Instr.makeFunc fn first cap).run Tryz.prog w = .ok (.func fn first cap) w := fun _ _ _ _ => rfl
 have hcv := fun (w : World) (C : Array Value) (n c : Nat) => Lib.run_convert_bytes_const (P := Tryz.prog) w 52 5 C n c Tryz.underlying52 Tryz.underlying5
 have HM := fun W => hid (May_empty W)
 have HX0 := hid (CA.new w #[.slice none 0 0,.slice none 0 0,.slice none 0 0,.slice none 0 0,.slice none 0 0,.slice none 0 0,.slice none 0 0,.int .i64 0,.slice none 0 0,.slice none 0 0,.bool false] 32)
 have HBX := hid ((Below.refl w.heap.size w).alloc (Nat.le_refl _) (.cells #[.slice none 0 0,.slice none 0 0,.slice none 0 0,.slice none 0 0,.slice none 0 0,.slice none 0 0,.slice none 0 0,.int .i64 0,.slice none 0 0,.slice none 0 0,.bool false] 32))
 obtain ⟨m0,m1,m2,m3,m4,m5,m6,m7,m8,m9,m10⟩ := ca11 HX0.out
 go_enter Tryz.func23,Tryz.ntmps23
 go_upto_region 4 with (go_at_call 15; (with_reducible refine (HM _).out.mono ?_); rintro e w0 ⟨rfl,hb⟩; have HX1 := hid (HX0.out.below hb HX0.out.lt); have HBY := hid (HBX.out.trans (hb.mono HBX.out.size)); clear hb)
 clear m0 m1 m2 m3 m4 m5 m6 m7 m8 m9 m10
 have hS : EMp w.heap.size w0.heap.size (((w0.alloc (.cells #[.int .u8 0,.int .u8 97,.int .u8 115,.int .u8 109,.int .u8 1,.int .u8 0,.int .u8 0,.int .u8 0] 5 (8,9))).alloc (.cells #[.slice (some ⟨w0.heap.size,0,none⟩) 8 8] 137)).alloc (.cells #[.pointer (some ⟨w0.heap.size + 1,0,none⟩)] 135)) := by
  refine ⟨((HX1.out.alloc _).alloc _).alloc _,?_,?_,?_⟩
  ·have := CA.new (w0.alloc (.cells #[.int .u8 0,.int .u8 97,.int .u8 115,.int .u8 109,.int .u8 1,.int .u8 0,.int .u8 0,.int .u8 0] 5 (8,9))) #[.slice (some ⟨w0.heap.size,0,none⟩) 8 8] 137
   rw [size_al] at this
   exact this.alloc _
  ·have := CA.new ((w0.alloc (.cells #[.int .u8 0,.int .u8 97,.int .u8 115,.int .u8 109,.int .u8 1,.int .u8 0,.int .u8 0,.int .u8 0] 5 (8,9))).alloc (.cells #[.slice (some ⟨w0.heap.size,0,none⟩) 8 8] 137)) #[.pointer (some ⟨w0.heap.size + 1,0,none⟩)] 135
   rw [size_al,size_al] at this
   exact this
  have := bytes_lit (w := w0) [0,97,115,109,1,0,0,0] #[.int .u8 0,.int .u8 97,.int .u8 115,.int .u8 109,.int .u8 1,.int .u8 0,.int .u8 0,.int .u8 0] (8,9) rfl 8 rfl (by decide)
  exact this.below ((((Below.refl _ _).alloc (by rw [size_al]; omega) _)).alloc (by simp only [size_al]; omega) _)
 have hB : Below w.heap.size w (((w0.alloc (.cells #[.int .u8 0,.int .u8 97,.int .u8 115,.int .u8 109,.int .u8 1,.int .u8 0,.int .u8 0,.int .u8 0] 5 (8,9))).alloc (.cells #[.slice (some ⟨w0.heap.size,0,none⟩) 8 8] 137)).alloc (.cells #[.pointer (some ⟨w0.heap.size + 1,0,none⟩)] 135)) :=
  ((HBY.out.alloc HBY.out.size _).alloc (by rw [size_al]; have := HBY.out.size; omega) _).alloc (by rw [size_al,size_al]; have := HBY.out.size; omega) _
 have HS0 := hid hS
 have HB0 := hid hB
 clear hS hB HX1 HBY
 generalize ((w0.alloc (.cells #[.int .u8 0,.int .u8 97,.int .u8 115,.int .u8 109,.int .u8 1,.int .u8 0,.int .u8 0,.int .u8 0] 5 (8,9))).alloc (.cells #[.slice (some ⟨w0.heap.size,0,none⟩) 8 8] 137)).alloc (.cells #[.pointer (some ⟨w0.heap.size + 1,0,none⟩)] 135) = W0 at *
 generalize w0.heap.size = gb at *
 obtain ⟨m0,m1,m2,m3,m4,m5,m6,m7,m8,m9,m10⟩ := ca11 HS0.out.1
 have pv := HS0.out.2.2.1.at (k := 0) (v := .pointer (some ⟨gb + 1,0,none⟩)) rfl
 have wv := HS0.out.2.1.at (k := 0) (v := .slice (some ⟨gb,0,none⟩) 8 8) rfl
 go_wp2_with (first
  | (go_at_call 97; (with_reducible refine (sec_nil_97 _ _ 98 _ _).mono ?_); rintro e w1 ⟨rfl,hb⟩; have HS1 := hid (HS0.out.call hb); have HB1 := hid (HB0.out.trans (hb.mono HB0.out.size)); clear m0 m1 m2 m3 m4 m5 m6 m7 m8 m9 m10 pv wv; obtain ⟨m0,m1,m2,m3,m4,m5,m6,m7,m8,m9,m10⟩ := ca11 HS1.out.1; have pv := HS1.out.2.2.1.at (k := 0) (v := .pointer (some ⟨gb + 1,0,none⟩)) rfl; have wv := HS1.out.2.1.at (k := 0) (v := .slice (some ⟨gb,0,none⟩) 8 8) rfl; clear hb)
  | (go_at_call 100; (with_reducible refine (sec_nil_100 _ _ 101 _ _).mono ?_); rintro e w2 ⟨rfl,hb⟩; have HS2 := hid (HS1.out.call hb); have HB2 := hid (HB1.out.trans (hb.mono HB1.out.size)); clear m0 m1 m2 m3 m4 m5 m6 m7 m8 m9 m10 pv wv; obtain ⟨m0,m1,m2,m3,m4,m5,m6,m7,m8,m9,m10⟩ := ca11 HS2.out.1; have pv := HS2.out.2.2.1.at (k := 0) (v := .pointer (some ⟨gb + 1,0,none⟩)) rfl; have wv := HS2.out.2.1.at (k := 0) (v := .slice (some ⟨gb,0,none⟩) 8 8) rfl; clear hb)
  | (go_at_call 103; (with_reducible refine (sec_nil_103 _ _ 104 _ _).mono ?_); rintro e w3 ⟨rfl,hb⟩; have HS3 := hid (HS2.out.call hb); have HB3 := hid (HB2.out.trans (hb.mono HB2.out.size)); clear m0 m1 m2 m3 m4 m5 m6 m7 m8 m9 m10 pv wv; obtain ⟨m0,m1,m2,m3,m4,m5,m6,m7,m8,m9,m10⟩ := ca11 HS3.out.1; have pv := HS3.out.2.2.1.at (k := 0) (v := .pointer (some ⟨gb + 1,0,none⟩)) rfl; have wv := HS3.out.2.1.at (k := 0) (v := .slice (some ⟨gb,0,none⟩) 8 8) rfl; clear hb)
  | (go_at_call 106; (with_reducible refine (sec_nil_106 _ _ 107 _ _).mono ?_); rintro e w4 ⟨rfl,hb⟩; have HS4 := hid (HS3.out.call hb); have HB4 := hid (HB3.out.trans (hb.mono HB3.out.size)); clear m0 m1 m2 m3 m4 m5 m6 m7 m8 m9 m10 pv wv; obtain ⟨m0,m1,m2,m3,m4,m5,m6,m7,m8,m9,m10⟩ := ca11 HS4.out.1; have pv := HS4.out.2.2.1.at (k := 0) (v := .pointer (some ⟨gb + 1,0,none⟩)) rfl; have wv := HS4.out.2.1.at (k := 0) (v := .slice (some ⟨gb,0,none⟩) 8 8) rfl; clear hb)
  | (go_at_call 109; (with_reducible refine (sec_nil_109 _ _ 110 _ _).mono ?_); rintro e w5 ⟨rfl,hb⟩; have HS5 := hid (HS4.out.call hb); have HB5 := hid (HB4.out.trans (hb.mono HB4.out.size)); clear m0 m1 m2 m3 m4 m5 m6 m7 m8 m9 m10 pv wv; obtain ⟨m0,m1,m2,m3,m4,m5,m6,m7,m8,m9,m10⟩ := ca11 HS5.out.1; have pv := HS5.out.2.2.1.at (k := 0) (v := .pointer (some ⟨gb + 1,0,none⟩)) rfl; have wv := HS5.out.2.1.at (k := 0) (v := .slice (some ⟨gb,0,none⟩) 8 8) rfl; clear hb)
  | (go_at_call 112; (with_reducible refine (sec_nil_112 _ _ 113 _ _).mono ?_); rintro e w6 ⟨rfl,hb⟩; have HS6 := hid (HS5.out.call hb); have HB6 := hid (HB5.out.trans (hb.mono HB5.out.size)); clear m0 m1 m2 m3 m4 m5 m6 m7 m8 m9 m10 pv wv; obtain ⟨m0,m1,m2,m3,m4,m5,m6,m7,m8,m9,m10⟩ := ca11 HS6.out.1; have pv := HS6.out.2.2.1.at (k := 0) (v := .pointer (some ⟨gb + 1,0,none⟩)) rfl; have wv := HS6.out.2.1.at (k := 0) (v := .slice (some ⟨gb,0,none⟩) 8 8) rfl; clear hb)
  | (go_at_call 115; (with_reducible refine (sec_nil_115 _ _ 116 _ _).mono ?_); rintro e w7 ⟨rfl,hb⟩; have HS7 := hid (HS6.out.call hb); have HB7 := hid (HB6.out.trans (hb.mono HB6.out.size)); clear m0 m1 m2 m3 m4 m5 m6 m7 m8 m9 m10 pv wv; obtain ⟨m0,m1,m2,m3,m4,m5,m6,m7,m8,m9,m10⟩ := ca11 HS7.out.1; have pv := HS7.out.2.2.1.at (k := 0) (v := .pointer (some ⟨gb + 1,0,none⟩)) rfl; have wv := HS7.out.2.1.at (k := 0) (v := .slice (some ⟨gb,0,none⟩) 8 8) rfl; clear hb)
  | (go_at_call 120; (with_reducible refine (sec_nil_120 _ _ 121 _ _).mono ?_); rintro e w8 ⟨rfl,hb⟩; have HS8 := hid (HS7.out.call hb); have HB8 := hid (HB7.out.trans (hb.mono HB7.out.size)); clear m0 m1 m2 m3 m4 m5 m6 m7 m8 m9 m10 pv wv; obtain ⟨m0,m1,m2,m3,m4,m5,m6,m7,m8,m9,m10⟩ := ca11 HS8.out.1; have pv := HS8.out.2.2.1.at (k := 0) (v := .pointer (some ⟨gb + 1,0,none⟩)) rfl; have wv := HS8.out.2.1.at (k := 0) (v := .slice (some ⟨gb,0,none⟩) 8 8) rfl; clear hb)
  | (go_at_call 103; (with_reducible refine (sec_nil_103 _ _ 124 _ _).mono ?_); rintro e w9 ⟨rfl,hb⟩; have HS9 := hid (HS8.out.call hb); have HB9 := hid (HB8.out.trans (hb.mono HB8.out.size)); clear m0 m1 m2 m3 m4 m5 m6 m7 m8 m9 m10 pv wv; obtain ⟨m0,m1,m2,m3,m4,m5,m6,m7,m8,m9,m10⟩ := ca11 HS9.out.1; have pv := HS9.out.2.2.1.at (k := 0) (v := .pointer (some ⟨gb + 1,0,none⟩)) rfl; have wv := HS9.out.2.1.at (k := 0) (v := .slice (some ⟨gb,0,none⟩) 8 8) rfl; clear hb)
  | (go_at_call 126; (with_reducible refine (sec_nil_126 _ _ 127 _ _).mono ?_); rintro e w10 ⟨rfl,hb⟩; have HS10 := hid (HS9.out.call hb); have HB10 := hid (HB9.out.trans (hb.mono HB9.out.size)); clear m0 m1 m2 m3 m4 m5 m6 m7 m8 m9 m10 pv wv; obtain ⟨m0,m1,m2,m3,m4,m5,m6,m7,m8,m9,m10⟩ := ca11 HS10.out.1; have pv := HS10.out.2.2.1.at (k := 0) (v := .pointer (some ⟨gb + 1,0,none⟩)) rfl; have wv := HS10.out.2.1.at (k := 0) (v := .slice (some ⟨gb,0,none⟩) 8 8) rfl; clear hb))
 go_ret2
 exact ⟨gb,rfl,HS10.out.2.2.2.mono (Nat.le_of_lt HS10.out.2.1.lt),HB10.out⟩
end Go.Proofs.YtjgeedgphcjhoaaGreat
namespace Go.Proofs.YtjgeedgphcjhoaaGreat
open Go.RowKit
theorem cell_far {W : World} {c o g k : Nat} {v : Value} (h : c ≠ g) : (W.setCell ⟨c,o,none⟩ v).cell? ⟨g,k,none⟩ = W.cell? ⟨g,k,none⟩ := by
 unfold World.cell? World.setCell
 simp [Array.getElem?_modify,h]
end Go.Proofs.YtjgeedgphcjhoaaGreat
namespace Go.Proofs.YtjgeedgphcjhoaaGreat
open Go.RowKit
abbrev T3 := Option Addr × Nat × Nat
def n3 : T3 := (none,0,0)
def InsAt (W : World) (r : Nat) (op : Int) (vb : Value) : Prop :=
 W.cell? ⟨r,0,none⟩ = some (.int .i64 op) ∧ W.cell? ⟨r,1,none⟩ = some (.int .i64 0) ∧ W.cell? ⟨r,2,none⟩ = some (.int .i64 0) ∧ W.cell? ⟨r,3,none⟩ = some (.int .u64 0) ∧ W.cell? ⟨r,4,none⟩ = some (.int .u64 0) ∧
 W.cell? ⟨r,5,none⟩ = some (.slice none 0 0) ∧ W.cell? ⟨r,6,none⟩ = some vb ∧ W.cell? ⟨r,7,none⟩ = some (.slice none 0 0) ∧ W.cell? ⟨r,8,none⟩ = some (.bool false)
theorem InsAt.far {W : World} {r g j : Nat} {op : Int} {vb v : Value} (h : InsAt W r op vb) (hne : g ≠ r) : InsAt (W.setCell ⟨g,j,none⟩ v) r op vb := by
 unfold InsAt at h ⊢
 simp only [cell_far hne]
 exact h
theorem InsAt.below {W W' : World} {r B : Nat} {op : Int} {vb : Value} (h : InsAt W r op vb) (hb : Below B W W') (hr : r < B) : InsAt W' r op vb := by
 have hc : ∀ k,W'.cell? ⟨r,k,none⟩ = W.cell? ⟨r,k,none⟩ := fun k => hb.cell (p := ⟨r,k,none⟩) hr
 unfold InsAt at h ⊢
 simp only [hc]
 exact h
end Go.Proofs.YtjgeedgphcjhoaaGreat
namespace Go.Proofs.YtjgeedgphcjhoaaGreat
open Go.RowKit
def insFo (op : Int) (body : Fo) : Fo := .cons op 0 0 0 0 [] false body .nil .nil
theorem SA_ins {B r c : Nat} {w : World} {op : Int} {vb : Value} {body : Fo} (h : InsAt w r op vb) (hr : r < B) (hb : SA B w vb body) : SA B w (.slice (some ⟨r,0,none⟩) 1 c) (insFo op body) := by
 obtain ⟨h0,h1,h2,h3,h4,h5,h6,h7,h8⟩ := h
 refine ⟨some ⟨r,0,none⟩,c,r,0,rfl,fun _ => rfl,hr,⟨.slice none 0 0,vb,.slice none 0 0,h0,h1,h2,h3,h4,h5,h6,h7,h8,LI.nil _ _ _ _,?_,?_⟩,trivial⟩
 ·obtain ⟨p,c',g',o',e,e2,e3⟩ := hb
  exact ⟨p,c',g',o',e,e2,e3⟩
 exact ⟨none,0,0,0,rfl,fun h => absurd rfl h,trivial⟩
structure Ex (w : World) (gt gf gb : Nat) (l : List Int) (p : Option Addr) (n c : Nat) (f : Fo) : Prop where
 t : gt < w.heap.size
 fn : gf < w.heap.size
 n1 : n = l.length
 t0 : w.cell? ⟨gt,0,none⟩ = some (.slice p n c)
 t1 : w.cell? ⟨gt,1,none⟩ = some (.slice none 0 0)
 l0 : LI w.heap.size w (.slice p n c) l
 f0 : w.cell? ⟨gf,0,none⟩ = some (.int .i64 0)
 f1 : w.cell? ⟨gf,1,none⟩ = some (.slice none 0 0)
 f2 : w.cell? ⟨gf,2,none⟩ = some (.slice (some ⟨gb,0,none⟩) 1 1)
 s : SA w.heap.size w (.slice (some ⟨gb,0,none⟩) 1 1) f
theorem Ex.below {w W : World} {gt gf gb : Nat} {l : List Int} {p : Option Addr} {n c : Nat} {f : Fo} (h : Ex w gt gf gb l p n c f) (hb : Below w.heap.size w W) : Ex W gt gf gb l p n c f where
 t := Nat.lt_of_lt_of_le h.t hb.size
 fn := Nat.lt_of_lt_of_le h.fn hb.size
 n1 := h.n1
 t0 := (hb.cell (p := ⟨gt,0,none⟩) h.t).trans h.t0
 t1 := (hb.cell (p := ⟨gt,1,none⟩) h.t).trans h.t1
 l0 := (h.l0.below hb).mono hb.size
 f0 := (hb.cell (p := ⟨gf,0,none⟩) h.fn).trans h.f0
 f1 := (hb.cell (p := ⟨gf,1,none⟩) h.fn).trans h.f1
 f2 := (hb.cell (p := ⟨gf,2,none⟩) h.fn).trans h.f2
 s := SA.mono (SA.below h.s hb) hb.size
end Go.Proofs.YtjgeedgphcjhoaaGreat
namespace Go.Proofs.YtjgeedgphcjhoaaGreat
open Go.RowKit
def exFo : Fo := .cons 65 0 0 4294967295 0 [] false .nil .nil .nil
theorem ex_code : codeB exFo = true := by kernel_rfl
theorem ex_line : (lineL 65).2.1 = 12 := by kernel_rfl
theorem ex_enc : exFo.enc ++ [11] = [65,127,11] := by
 have h1 : opL 65 = [65] := by unfold opL; rw [if_neg (by decide),if_neg (by decide)]; rfl
 have h2 : sgnN 32 4294967295 = -1 := by decide
 have h3 : slist (-1) = [127] := by rw [slist_small (by decide)]; rfl
 simp only [exFo,Fo.enc,ex_line,behL,h1,h2,h3]
 rfl
theorem ex_ok : okE exFo := by
 refine ⟨⟨by decide,by decide,by decide,by decide,⟨by decide,by decide⟩,fun h => ?_⟩,trivial,trivial,trivial⟩
 exact .inl rfl
theorem no_code : codeB (insFo 6 .nil) = false := by kernel_rfl
theorem ex_call (W : World) : Calls Tryz.prog 25 #[.slice (some ⟨W.heap.size,0,none⟩) 1 1] (W.alloc (.cells #[.int .i64 65,.int .i64 0,.int .i64 0,.int .u64 4294967295,.int .u64 0,.slice none 0 0,.slice none 0 0,.slice none 0 0,.bool false] 39))
  fun e w' => ∃ p n c,e = .returned (.tuple #[.slice p n c,.int .i64 0]) ∧ BytesAt w'.heap.size w' (.slice p n c) [65,127,11] ∧ Below W.heap.size W w' := by
 have hc := CA.new W #[.int .i64 65,.int .i64 0,.int .i64 0,.int .u64 4294967295,.int .u64 0,.slice none 0 0,.slice none 0 0,.slice none 0 0,.bool false] 39
 have hs : SA (W.alloc (.cells #[.int .i64 65,.int .i64 0,.int .i64 0,.int .u64 4294967295,.int .u64 0,.slice none 0 0,.slice none 0 0,.slice none 0 0,.bool false] 39)).heap.size (W.alloc (.cells #[.int .i64 65,.int .i64 0,.int .i64 0,.int .u64 4294967295,.int .u64 0,.slice none 0 0,.slice none 0 0,.slice none 0 0,.bool false] 39)) (.slice (some ⟨W.heap.size,0,none⟩) 1 1) exFo :=
  ⟨some ⟨W.heap.size,0,none⟩,1,W.heap.size,0,rfl,fun _ => rfl,hc.lt,⟨.slice none 0 0,.slice none 0 0,.slice none 0 0,hc.at rfl,hc.at rfl,hc.at rfl,hc.at rfl,hc.at rfl,hc.at rfl,hc.at rfl,hc.at rfl,hc.at rfl,LI.nil _ _ _ _,⟨none,0,0,0,rfl,fun h => absurd rfl h,trivial⟩,⟨none,0,0,0,rfl,fun h => absurd rfl h,trivial⟩⟩,trivial⟩
 have hb := (Below.refl W.heap.size W).alloc (Nat.le_refl _) (.cells #[.int .i64 65,.int .i64 0,.int .i64 0,.int .u64 4294967295,.int .u64 0,.slice none 0 0,.slice none 0 0,.slice none 0 0,.bool false] 39)
 refine (encCode_yes exFo (by decide) ex_ok (by decide) _ _ hs ex_code).mono ?_
 rintro e w' ⟨p,n,c,rfl,ho,hb2⟩
 rw [ex_enc] at ho
 obtain ⟨g,cc,hv⟩ := own_at ho (by decide)
 refine ⟨p,n,c,rfl,bytes_of_owned ho (by decide),hb.trans (hb2.mono hb.size)⟩
theorem no_call (W : World) : Calls Tryz.prog 25 #[.slice (some ⟨W.heap.size,0,none⟩) 1 1] (W.alloc (.cells #[.int .i64 6,.int .i64 0,.int .i64 0,.int .u64 0,.int .u64 0,.slice none 0 0,.slice none 0 0,.slice none 0 0,.bool false] 39))
  fun e w' => e = .returned (.tuple #[.slice none 0 0,.int .i64 1]) ∧ Below W.heap.size W w' := by
 have hc := CA.new W #[.int .i64 6,.int .i64 0,.int .i64 0,.int .u64 0,.int .u64 0,.slice none 0 0,.slice none 0 0,.slice none 0 0,.bool false] 39
 have hb := (Below.refl W.heap.size W).alloc (Nat.le_refl _) (.cells #[.int .i64 6,.int .i64 0,.int .i64 0,.int .u64 0,.int .u64 0,.slice none 0 0,.slice none 0 0,.slice none 0 0,.bool false] 39)
 have hs := SA_ins (c := 1) ⟨hc.at rfl,hc.at rfl,hc.at rfl,hc.at rfl,hc.at rfl,hc.at rfl,hc.at rfl,hc.at rfl,hc.at rfl⟩ hc.lt (SA.nil _ _ none 0)
 refine (encCode_no (insFo 6 .nil) (by decide) _ _ hs no_code).mono ?_
 rintro e w' ⟨rfl,hb2⟩
 exact ⟨rfl,hb.trans (hb2.mono hb.size)⟩
set_option maxHeartbeats 4000000 in
theorem awakeE (w : World) : Calls Tryz.prog 22 #[] w fun e w' => e = .returned (.bool true) ∧ Below w.heap.size w w' := by
 have HM := fun W => hid (Module_empty W)
 have HE := fun W => hid (ex_call W)
 have HN := fun W => hid (no_call W)
 go_enter Tryz.func22,Tryz.ntmps22
 go_upto_region 4 with (first
  | (go_at_call 23; (with_reducible refine (HM _).out.mono ?_); rintro e w1 ⟨b,rfl,hy,hb⟩; have HY1 := hid hy; have HB1 := hid hb; clear hy hb)
  | (go_at_call 25; (with_reducible refine (HE _).out.mono ?_); rintro e w2 ⟨p,n,c,rfl,hy,hb⟩; have HY2 := hid hy; have HB2 := hid (HB1.out.trans (hb.mono HB1.out.size)); have HZ2 := hid (HY1.out.below hb); have HSZ := hid hb.size; clear hy hb)
  | (go_at_call 25; (with_reducible refine (HN _).out.mono ?_); rintro e w3 ⟨rfl,hb⟩; have HB3 := hid (HB2.out.trans (hb.mono HB2.out.size)); have HZ3 := hid (HZ2.out.below (hb.mono HSZ.out)); have HY3 := hid (HY2.out.below hb); clear hb))
 have c1 := conv_bytes HZ3.out
 have c2 := conv_bytes HY3.out
 go_wp2
 go_ret
 exact ⟨rfl,HB3.out⟩
end Go.Proofs.YtjgeedgphcjhoaaGreat
namespace Go.Proofs.YtjgeedgphcjhoaaGreat
open Go.RowKit
theorem wg_siz : ∀ (f : Fo) (d left : Int),0 ≤ wg f d left → f.siz ≤ 20400 * f.cnt
 | .nil,_,_,_ => Nat.zero_le _
 | .cons op a b n hh l ot body els rest,d,left,h => by
  have h0 : 0 ≤ left := by
   rcases Classical.em (0 ≤ left) with h0 | h0
   ·exact h0
   rw [wg_neg _ _ _ (by omega)] at h
   omega
  obtain ⟨A,hA⟩ : ∃ A,A = wgT body (d + 1) (left - 1) := ⟨_,rfl⟩
  obtain ⟨E,hE⟩ : ∃ E,E = wgT els (d + 1) A := ⟨_,rfl⟩
  rw [wg_cons op a b n hh l ot body els rest d left h0 A hA.symm E hE.symm] at h
  have hr := wg_siz rest d _ h
  have hge : 0 ≤ (if 1000 < l.length then -1 else if 0 ≤ A then E else A) := by
   rcases Classical.em (0 ≤ (if 1000 < l.length then -1 else if 0 ≤ A then E else A)) with h1 | h1
   ·exact h1
   rw [wg_neg _ _ _ (by omega)] at h
   omega
  have hl : ¬ 1000 < l.length := by intro hc; rw [if_pos hc] at hge; omega
  rw [if_neg hl] at hge
  have hA0 : 0 ≤ A := by
   rcases Classical.em (0 ≤ A) with h1 | h1
   ·exact h1
   rw [if_neg h1] at hge; omega
  rw [if_pos hA0] at hge
  have hb : 0 ≤ wg body (d + 1) (left - 1) := by
   unfold wgT at hA
   split at hA
   ·omega
   omega
  have he : 0 ≤ wg els (d + 1) A := by
   unfold wgT at hE
   split at hE
   ·omega
   omega
  have h1 := wg_siz body _ _ hb
  have h2 := wg_siz els _ _ he
  simp only [Fo.siz,Fo.cnt]
  omega
end Go.Proofs.YtjgeedgphcjhoaaGreat
