/-
  ECode, EDeepM, EAw, EAw2: merged, what the law does not reach left out (each text says what it holds where it lies in wip). No condition.
-/
import Derived.Test.YtjgeedgphcjhoaaGreatD20
import Derived.Test.YtjgeedgphcjhoaaGreatD02
import Derived.Test.YtjgeedgphcjhoaaGreatD03
import Derived.Test.YtjgeedgphcjhoaaGreatD08
import Derived.Test.YtjgeedgphcjhoaaGreatD09
import Derived.Laws.BytesArg
import Derived.Lib.SlBytesConst
set_option linter.unusedSimpArgs false
set_option linter.unusedVariables false
set_option maxRecDepth 100000
namespace Go.Proofs.YtjgeedgphcjhoaaGreat
open Go.RowKit
set_option maxHeartbeats 4000000 in
/-- May of a module of one global. -/
theorem May_global (f : Fo) (hn : f.cnt < 9223372036854775806) (p : Option Addr) (n c gv : Nat) (w : World) (hc : CA gv #[.int .i64 127, .bool false, .slice p n c] 46 w) (hs : SA w.heap.size w (.slice p n c) f) :
  Calls Tryz.prog 15 #[.agg #[.slice none 0 0, .slice none 0 0, .slice none 0 0, .slice none 0 0, .slice none 0 0, .slice (some ⟨gv, 0, none⟩) 1 1, .slice none 0 0, .int .i64 0, .slice none 0 0, .slice none 0 0, .bool false]] w fun e w' => e = .returned (.bool (codeB f)) ∧ Below w.heap.size w w' := by
 have hgv : ∀ W, Below w.heap.size w W → Calls Tryz.prog 40 #[.slice (some ⟨gv, 0, none⟩) 1 1, .func (.func 41) #[] #[]] W fun e w' => e = .returned (.bool (codeB f)) ∧ Below W.heap.size W w' := by
  intro W hW
  have hcW := hc.below hW hc.lt
  have := all_var 41 (fun _ _ => rfl) (fun _ => valB 127 && codeB f) 1 gv 0 1 (fun _ => 127) (fun _ => false) (fun _ => p) (fun _ => n) (fun _ => c) W (fun _ => hcW.lt) (by decide) (some ⟨gv, 0, none⟩) (fun _ => rfl)
   (fun i hi => by
    obtain rfl : i = 0 := by omega
    exact ⟨hcW.at rfl, hcW.at rfl, hcW.at rfl⟩)
   (fun i hi W' hW' => isGlobal_says 127 false f p n c w.heap.size W' hn (Nat.le_trans hW.size hW'.size) (SA.below hs (hW.trans (hW'.mono hW.size))))
  simpa [show valB 127 = true from rfl, List.range_succ] using this
 have key := MayG_says none none none none none (some ⟨gv, 0, none⟩) none none none 0 0 0 0 0 0 0 0 0 0 1 1 0 0 0 0 0 0 true true true true true (codeB f) true true true true true false 0 w
  (fun W _ => (all_nil_22 31 none 0 W).mono fun e w' h => ⟨h.1, h.2 ▸ Below.refl _ _⟩)
  (fun W _ => (all_nil_24 33 none 0 W).mono fun e w' h => ⟨h.1, h.2 ▸ Below.refl _ _⟩)
  (fun W _ => (all_nil_26 35 none 0 W).mono fun e w' h => ⟨h.1, h.2 ▸ Below.refl _ _⟩)
  (fun W _ => (all_nil_28 37 none 0 W).mono fun e w' h => ⟨h.1, h.2 ▸ Below.refl _ _⟩)
  (fun W _ => (all_nil_30 39 none 0 W).mono fun e w' h => ⟨h.1, h.2 ▸ Below.refl _ _⟩)
  hgv
  (fun W _ => (all_nil_34 43 none 0 W).mono fun e w' h => ⟨h.1, h.2 ▸ Below.refl _ _⟩)
  (fun W => isStart_says 0 W)
  (fun W _ => (all_nil_37 46 none 0 W).mono fun e w' h => ⟨h.1, h.2 ▸ Below.refl _ _⟩)
  (fun W _ => (all_nil_39 48 none 0 W).mono fun e w' h => ⟨h.1, h.2 ▸ Below.refl _ _⟩)
  (fun W _ => (all_nil_26 49 none 0 W).mono fun e w' h => ⟨h.1, h.2 ▸ Below.refl _ _⟩)
 simpa using key
set_option maxHeartbeats 4000000 in
theorem encCode_no (f : Fo) (hn : f.cnt < 9223372036854775806) (v : Value) (w : World) (hs : SA w.heap.size w v f) (hc : codeB f = false) :
  Calls Tryz.prog 25 #[v] w fun e w' => e = .returned (.tuple #[.slice none 0 0, .int .i64 1]) ∧ Below w.heap.size w w' := by
 obtain ⟨p, c, g', o', rfl, _, _⟩ := id hs
 have hb1 := (Below.refl w.heap.size w).alloc (Nat.le_refl _) (.cells #[.int .i64 127, .bool false, .slice p f.len c] 46)
 have hc1 := (CA.new w #[.int .i64 127, .bool false, .slice p f.len c] 46)
 have hc2 := hc1.alloc (.cells #[.slice none 0 0, .slice none 0 0, .slice none 0 0, .slice none 0 0, .slice none 0 0, .slice (some ⟨w.heap.size, 0, none⟩) 1 1, .slice none 0 0, .int .i64 0, .slice none 0 0, .slice none 0 0, .bool false] 32)
 have hb2 := hb1.alloc (by rw [size_al]; omega) (.cells #[.slice none 0 0, .slice none 0 0, .slice none 0 0, .slice none 0 0, .slice none 0 0, .slice (some ⟨w.heap.size, 0, none⟩) 1 1, .slice none 0 0, .int .i64 0, .slice none 0 0, .slice none 0 0, .bool false] 32)
 have HM := hid (May_global f hn p f.len c w.heap.size _ hc2 (SA.mono (SA.below hs hb2) hb2.size))
 rw [hc] at HM
 have HB2 := hid hb2
 clear hb1 hc1 hc2 hb2 hs hn hc
 generalize f.len = m at *
 go_enter Tryz.func25, Tryz.ntmps25
 go_wp2_with (go_at_call 15; (with_reducible refine HM.out.mono ?_); rintro e w1 ⟨rfl, hb⟩; have HB3 := hid (HB2.out.trans (hb.mono HB2.out.size)); clear hb)
 go_ret2
 exact ⟨rfl, HB3.out⟩
set_option maxHeartbeats 4000000 in
theorem encCode_yes (f : Fo) (hn : f.cnt < 9223372036854775806) (hok : okE f) (hsz : 20 + f.siz ≤ 140737488355000) (v : Value) (w : World) (hs : SA w.heap.size w v f) (hc : codeB f = true) :
  Calls Tryz.prog 25 #[v] w fun e w' => ∃ p n c, e = .returned (.tuple #[.slice p n c, .int .i64 0]) ∧ w'.ownsRow w.heap.size 5 1 (.slice p n c) (f.enc ++ [11]).length (Lib.byteCells (f.enc ++ [11])) ∧ Below w.heap.size w w' := by
 obtain ⟨p, c, g', o', rfl, _, _⟩ := id hs
 have hb1 := (Below.refl w.heap.size w).alloc (Nat.le_refl _) (.cells #[.int .i64 127, .bool false, .slice p f.len c] 46)
 have hc1 := (CA.new w #[.int .i64 127, .bool false, .slice p f.len c] 46)
 have hc2 := hc1.alloc (.cells #[.slice none 0 0, .slice none 0 0, .slice none 0 0, .slice none 0 0, .slice none 0 0, .slice (some ⟨w.heap.size, 0, none⟩) 1 1, .slice none 0 0, .int .i64 0, .slice none 0 0, .slice none 0 0, .bool false] 32)
 have hb2 := hb1.alloc (by rw [size_al]; omega) (.cells #[.slice none 0 0, .slice none 0 0, .slice none 0 0, .slice none 0 0, .slice none 0 0, .slice (some ⟨w.heap.size, 0, none⟩) 1 1, .slice none 0 0, .int .i64 0, .slice none 0 0, .slice none 0 0, .bool false] 32)
 have HM := hid (May_global f hn p f.len c w.heap.size _ hc2 (SA.mono (SA.below hs hb2) hb2.size))
 rw [hc] at HM
 have HB2 := hid hb2
 have HC := fun W (hW : Below w.heap.size w W) => hid (code_says w.heap.size W.heap.size f hn hok (.slice p f.len c) [] (W.alloc (.cells #[.slice none 0 0] 137)) ⟨hW.size, _, CA.new W #[.slice none 0 0] 137, World.ownsRow_nil _ _ _ _⟩ (SA.below hs (hW.alloc hW.size _)) (by simpa using hsz))
 obtain ⟨E, hE⟩ : ∃ E, E = f.enc ++ [11] := ⟨_, rfl⟩
 rw [← hE] at HC ⊢
 rw [List.nil_append] at HC
 clear hb1 hc1 hc2 hb2 hs hn hc hok hsz hE
 generalize f.len = m at *
 go_enter Tryz.func25, Tryz.ntmps25
 go_wp2_with (first
  | (go_at_call 15; (with_reducible refine HM.out.mono ?_); rintro e w1 ⟨rfl, hb⟩; have HB3 := hid (HB2.out.trans (hb.mono HB2.out.size)); clear hb)
  | (go_at_call 136; (with_reducible refine (HC _ HB3.out).out.mono ?_); rintro e w2 ⟨rfl, ⟨hg, u, hcu, hou⟩, hf⟩; have HF := hid (((FR.refl w.heap.size w1.heap.size w1).alloc _).trans hf); obtain ⟨pu, nu, cu, rfl⟩ := own_slice hou; have y0 := hcu.at (k := 0) (v := .slice pu nu cu) rfl; have HOU := hid hou; clear hg hcu hou hf))
 go_ret2
 exact ⟨pu, nu, cu, rfl, HOU.out, HB3.out.trans (HF.out.below HB3.out.size HB3.out.size)⟩
end Go.Proofs.YtjgeedgphcjhoaaGreat
namespace Go.Proofs.YtjgeedgphcjhoaaGreat
open Go.RowKit
/-- k blocks or loops in one another, and a nop. -/
def Tw : Nat → Fo → Prop
 | 0, f => f = insFo 1 .nil
 | k + 1, f => ∃ op body, (op = 2 ∨ op = 3) ∧ Tw k body ∧ f = insFo op body
theorem kind_blk (op : Int) (h : op = 2 ∨ op = 3) : (lineL op).2.1 = 1 := by
 rcases h with rfl | rfl <;> kernel_rfl
theorem kind_nop : (lineL 1).2.1 = 0 := by kernel_rfl
theorem opL_small (op : Int) (h : op < 64512) : opL op = [byI op] := by unfold opL; rw [if_neg (by omega), if_neg (by omega)]
theorem tw_all : ∀ (k : Nat) (f : Fo), Tw k f → f.cnt = k + 1 ∧ f.len = 1 ∧ okE f ∧ f.siz = 400 * (k + 1) ∧ f.enc.length = 3 * k + 1 ∧ f.enc[2 * k]? = some 1 ∧ ∀ d, (evF codeSt f d ()).1 = decide (d + (k : Int) ≤ 500)
 | 0, f, h => by
  obtain rfl : f = insFo 1 .nil := h
  have he : (insFo 1 .nil).enc = [1] := by
   simp only [insFo, Fo.enc, kind_nop, opL_small 1 (by decide), behL]
   rfl
  refine ⟨rfl, rfl, ⟨⟨by decide, by decide, by decide, by decide, ⟨by decide, by decide⟩, fun h => .inl rfl⟩, trivial, trivial, trivial⟩, rfl, by rw [he]; rfl, by rw [he]; rfl, fun d => ?_⟩
  rw [ev_ins]
  simp only [codeSt, Fo.len, nop_ok, evF, Bool.and_true]
  congr 1
  simp
 | k + 1, f, h => by
  obtain ⟨op, body, ho, hb, rfl⟩ := h
  obtain ⟨i1, i2, i3, i4, i5, i6, i7⟩ := tw_all k body hb
  have ho2 : 0 ≤ op ∧ op < 64512 := by omega
  have he : (insFo op body).enc = byI op :: 64 :: (body.enc ++ [11]) := by
   simp only [insFo, Fo.enc, kind_blk op ho, opL_small op ho2.2, behL]
   simp [blL]
  refine ⟨by simp only [insFo, Fo.cnt]; omega, rfl, ⟨⟨ho2.1, by omega, by decide, by decide, ⟨by decide, by decide⟩, fun h => .inl rfl⟩, i3, trivial, trivial⟩, by simp only [insFo, Fo.siz, i4, List.length_nil]; omega, by rw [he]; simp only [List.length_cons, List.length_append, i5, List.length_nil]; omega, ?_, fun d => ?_⟩
  ·rw [he, show 2 * (k + 1) = 2 * k + 1 + 1 by omega, List.getElem?_cons_succ, List.getElem?_cons_succ, List.getElem?_append_left (by omega)]
   exact i6
  ·rw [ev_ins, i7 (d + 1)]
   have h := (ins_blk op ho).1
   simp only [codeSt, i2, Fo.len, h, Bool.and_true]
   by_cases h1 : d + ((k + 1 : Nat) : Int) ≤ 500
   ·rw [decide_eq_true (p := d ≤ 500) (by omega), decide_eq_true (p := d + 1 + (k : Int) ≤ 500) (by omega), decide_eq_true h1]
    rfl
   ·rw [decide_eq_false (p := d + 1 + (k : Int) ≤ 500) (by omega), decide_eq_false h1, Bool.and_false]
theorem tw_may (k : Nat) (f : Fo) (h : Tw k f) : codeB f = decide ((k : Int) < 500) := by
 unfold codeB
 rw [(tw_all k f h).2.2.2.2.2.2 1]
 exact decide_eq_decide.2 (by omega)
end Go.Proofs.YtjgeedgphcjhoaaGreat
namespace Go.Proofs.YtjgeedgphcjhoaaGreat
open Go.RowKit
theorem strOfNums_bytes (l : List UInt8) : strOfNums (l.map fun b => (b.toNat : Int)) = ⟨l.toArray⟩ := by
 unfold strOfNums
 congr 2
 rw [List.map_map]
 conv => rhs; rw [← List.map_id l]
 apply List.map_congr_left
 intro b _
 simp
/-- 'string(b)'. -/
theorem conv_bytes {B : Nat} {w : World} {v : Value} {l : List UInt8} (h : BytesAt B w v l) : (convert 52 9 v).run Tryz.prog w = .ok (.string ⟨l.toArray⟩) w := by
 rcases h with ⟨rfl, rfl⟩ | ⟨g, off, cap, rfl, _, _, _, h5⟩
 ·rw [run_convert_bytes_nil w 52 5 Tryz.underlying52 Tryz.underlying5 0 0 9 Tryz.underlying9]
  rfl
 ·rw [run_convert_bytes_arg w 52 5 Tryz.underlying52 Tryz.underlying5 g off l.length cap (l.map fun b => (b.toNat : Int)) (by simp) (fun i hi => ?_) 9 Tryz.underlying9, strOfNums_bytes]
  rw [h5 i l[i] (List.getElem?_eq_getElem hi)]
  simp [List.getElem?_eq_getElem hi]
theorem bytes_lit {w : World} (l : List UInt8) (cs : Array Value) (fr : Nat × Nat) (hcs : cs.toList = Lib.byteCells l) (n : Nat) (hn : n = l.length) (hl : l.length ≤ 140737488351232) :
  BytesAt (w.heap.size + 1) (w.alloc (.cells cs 5 fr)) (.slice (some ⟨w.heap.size, 0, none⟩) n n) l := by
 subst hn
 refine .inr ⟨w.heap.size, 0, l.length, rfl, by omega, Nat.le_refl _, ⟨by omega, hl⟩, fun j u hj => ?_⟩
 rw [Nat.zero_add, cell_of_row _ _ _ cs 5 fr (heap_alloc_new _ _), ← Array.getElem?_toList, hcs]
 simp only [Lib.byteCells, List.getElem?_map, hj, Option.map_some]
theorem sec_nil_97 (a : Addr) (i : Int) (k : Nat) (b : Addr) (w : World) : Calls Tryz.prog 97 #[.pointer (some a), .int .i64 i, .slice none 0 0, .func (.func k) #[] #[.pointer (some b)]] w fun e w' => e = .returned (.tuple #[]) ∧ Below w.heap.size w w' := by
 go_enter Tryz.func97, Tryz.ntmps97
 go_wp2
 (first | go_end0 | refine bodyPost_ret (results_none rfl _ _ _) rfl ?_)
 exact ⟨rfl, (((Below.refl w.heap.size w).alloc (Nat.le_refl _) _).alloc (by simp only [size_al]; omega) _).alloc (by simp only [size_al]; omega) _⟩
theorem sec_nil_100 (a : Addr) (i : Int) (k : Nat) (b : Addr) (w : World) : Calls Tryz.prog 100 #[.pointer (some a), .int .i64 i, .slice none 0 0, .func (.func k) #[] #[.pointer (some b)]] w fun e w' => e = .returned (.tuple #[]) ∧ Below w.heap.size w w' := by
 go_enter Tryz.func100, Tryz.ntmps100
 go_wp2
 (first | go_end0 | refine bodyPost_ret (results_none rfl _ _ _) rfl ?_)
 exact ⟨rfl, (((Below.refl w.heap.size w).alloc (Nat.le_refl _) _).alloc (by simp only [size_al]; omega) _).alloc (by simp only [size_al]; omega) _⟩
theorem sec_nil_103 (a : Addr) (i : Int) (k : Nat) (b : Addr) (w : World) : Calls Tryz.prog 103 #[.pointer (some a), .int .i64 i, .slice none 0 0, .func (.func k) #[] #[.pointer (some b)]] w fun e w' => e = .returned (.tuple #[]) ∧ Below w.heap.size w w' := by
 go_enter Tryz.func103, Tryz.ntmps103
 go_wp2
 (first | go_end0 | refine bodyPost_ret (results_none rfl _ _ _) rfl ?_)
 exact ⟨rfl, (((Below.refl w.heap.size w).alloc (Nat.le_refl _) _).alloc (by simp only [size_al]; omega) _).alloc (by simp only [size_al]; omega) _⟩
theorem sec_nil_106 (a : Addr) (i : Int) (k : Nat) (b : Addr) (w : World) : Calls Tryz.prog 106 #[.pointer (some a), .int .i64 i, .slice none 0 0, .func (.func k) #[] #[.pointer (some b)]] w fun e w' => e = .returned (.tuple #[]) ∧ Below w.heap.size w w' := by
 go_enter Tryz.func106, Tryz.ntmps106
 go_wp2
 (first | go_end0 | refine bodyPost_ret (results_none rfl _ _ _) rfl ?_)
 exact ⟨rfl, (((Below.refl w.heap.size w).alloc (Nat.le_refl _) _).alloc (by simp only [size_al]; omega) _).alloc (by simp only [size_al]; omega) _⟩
theorem sec_nil_109 (a : Addr) (i : Int) (k : Nat) (b : Addr) (w : World) : Calls Tryz.prog 109 #[.pointer (some a), .int .i64 i, .slice none 0 0, .func (.func k) #[] #[.pointer (some b)]] w fun e w' => e = .returned (.tuple #[]) ∧ Below w.heap.size w w' := by
 go_enter Tryz.func109, Tryz.ntmps109
 go_wp2
 (first | go_end0 | refine bodyPost_ret (results_none rfl _ _ _) rfl ?_)
 exact ⟨rfl, (((Below.refl w.heap.size w).alloc (Nat.le_refl _) _).alloc (by simp only [size_al]; omega) _).alloc (by simp only [size_al]; omega) _⟩
theorem sec_nil_112 (a : Addr) (i : Int) (k : Nat) (b : Addr) (w : World) : Calls Tryz.prog 112 #[.pointer (some a), .int .i64 i, .slice none 0 0, .func (.func k) #[] #[.pointer (some b)]] w fun e w' => e = .returned (.tuple #[]) ∧ Below w.heap.size w w' := by
 go_enter Tryz.func112, Tryz.ntmps112
 go_wp2
 (first | go_end0 | refine bodyPost_ret (results_none rfl _ _ _) rfl ?_)
 exact ⟨rfl, (((Below.refl w.heap.size w).alloc (Nat.le_refl _) _).alloc (by simp only [size_al]; omega) _).alloc (by simp only [size_al]; omega) _⟩
theorem sec_nil_115 (a : Addr) (i : Int) (k : Nat) (b : Addr) (w : World) : Calls Tryz.prog 115 #[.pointer (some a), .int .i64 i, .slice none 0 0, .func (.func k) #[] #[.pointer (some b)]] w fun e w' => e = .returned (.tuple #[]) ∧ Below w.heap.size w w' := by
 go_enter Tryz.func115, Tryz.ntmps115
 go_wp2
 (first | go_end0 | refine bodyPost_ret (results_none rfl _ _ _) rfl ?_)
 exact ⟨rfl, (((Below.refl w.heap.size w).alloc (Nat.le_refl _) _).alloc (by simp only [size_al]; omega) _).alloc (by simp only [size_al]; omega) _⟩
theorem sec_nil_120 (a : Addr) (i : Int) (k : Nat) (b : Addr) (w : World) : Calls Tryz.prog 120 #[.pointer (some a), .int .i64 i, .slice none 0 0, .func (.func k) #[] #[.pointer (some b)]] w fun e w' => e = .returned (.tuple #[]) ∧ Below w.heap.size w w' := by
 go_enter Tryz.func120, Tryz.ntmps120
 go_wp2
 (first | go_end0 | refine bodyPost_ret (results_none rfl _ _ _) rfl ?_)
 exact ⟨rfl, (((Below.refl w.heap.size w).alloc (Nat.le_refl _) _).alloc (by simp only [size_al]; omega) _).alloc (by simp only [size_al]; omega) _⟩
theorem sec_nil_126 (a : Addr) (i : Int) (k : Nat) (b : Addr) (w : World) : Calls Tryz.prog 126 #[.pointer (some a), .int .i64 i, .slice none 0 0, .func (.func k) #[] #[.pointer (some b)]] w fun e w' => e = .returned (.tuple #[]) ∧ Below w.heap.size w w' := by
 go_enter Tryz.func126, Tryz.ntmps126
 go_wp2
 (first | go_end0 | refine bodyPost_ret (results_none rfl _ _ _) rfl ?_)
 exact ⟨rfl, (((Below.refl w.heap.size w).alloc (Nat.le_refl _) _).alloc (by simp only [size_al]; omega) _).alloc (by simp only [size_al]; omega) _⟩
theorem May_empty (w : World) : Calls Tryz.prog 15 #[.agg #[.slice none 0 0, .slice none 0 0, .slice none 0 0, .slice none 0 0, .slice none 0 0, .slice none 0 0, .slice none 0 0, .int .i64 0, .slice none 0 0, .slice none 0 0, .bool false]] w fun e w' => e = .returned (.bool true) ∧ Below w.heap.size w w' := by
 have key := MayG_says none none none none none none none none none 0 0 0 0 0 0 0 0 0 0 0 0 0 0 0 0 0 0 true true true true true true true true true true true false 0 w
  (fun W _ => (all_nil_22 31 none 0 W).mono fun e w' h => ⟨h.1, h.2 ▸ Below.refl _ _⟩)
  (fun W _ => (all_nil_24 33 none 0 W).mono fun e w' h => ⟨h.1, h.2 ▸ Below.refl _ _⟩)
  (fun W _ => (all_nil_26 35 none 0 W).mono fun e w' h => ⟨h.1, h.2 ▸ Below.refl _ _⟩)
  (fun W _ => (all_nil_28 37 none 0 W).mono fun e w' h => ⟨h.1, h.2 ▸ Below.refl _ _⟩)
  (fun W _ => (all_nil_30 39 none 0 W).mono fun e w' h => ⟨h.1, h.2 ▸ Below.refl _ _⟩)
  (fun W _ => (all_nil_32 41 none 0 W).mono fun e w' h => ⟨h.1, h.2 ▸ Below.refl _ _⟩)
  (fun W _ => (all_nil_34 43 none 0 W).mono fun e w' h => ⟨h.1, h.2 ▸ Below.refl _ _⟩)
  (fun W => isStart_says 0 W)
  (fun W _ => (all_nil_37 46 none 0 W).mono fun e w' h => ⟨h.1, h.2 ▸ Below.refl _ _⟩)
  (fun W _ => (all_nil_39 48 none 0 W).mono fun e w' h => ⟨h.1, h.2 ▸ Below.refl _ _⟩)
  (fun W _ => (all_nil_26 49 none 0 W).mono fun e w' h => ⟨h.1, h.2 ▸ Below.refl _ _⟩)
 simpa using key
/-- What the writing of an empty module keeps. -/
def EMp (gm gb : Nat) (w : World) : Prop := CA gm #[.slice none 0 0, .slice none 0 0, .slice none 0 0, .slice none 0 0, .slice none 0 0, .slice none 0 0, .slice none 0 0, .int .i64 0, .slice none 0 0, .slice none 0 0, .bool false] 32 w ∧ CA (gb + 1) #[.slice (some ⟨gb, 0, none⟩) 8 8] 137 w ∧ CA (gb + 1 + 1) #[.pointer (some ⟨gb + 1, 0, none⟩)] 135 w ∧ BytesAt (gb + 1) w (.slice (some ⟨gb, 0, none⟩) 8 8) [0, 97, 115, 109, 1, 0, 0, 0]
theorem EMp.call {gm gb : Nat} {w w' : World} (h : EMp gm gb w) (hb : Below w.heap.size w w') : EMp gm gb w' :=
 ⟨h.1.below hb h.1.lt, h.2.1.below hb h.2.1.lt, h.2.2.1.below hb h.2.2.1.lt, h.2.2.2.below (hb.mono (Nat.le_of_lt h.2.1.lt))⟩
set_option maxHeartbeats 16000000 in
theorem Module_empty (w : World) : Calls Tryz.prog 23 #[.agg #[.slice none 0 0, .slice none 0 0, .slice none 0 0, .slice none 0 0, .slice none 0 0, .slice none 0 0, .slice none 0 0, .int .i64 0, .slice none 0 0, .slice none 0 0, .bool false]] w fun e w' => ∃ b, e = .returned (.tuple #[.slice (some ⟨b, 0, none⟩) 8 8, .int .i64 0]) ∧ BytesAt w'.heap.size w' (.slice (some ⟨b, 0, none⟩) 8 8) [0, 97, 115, 109, 1, 0, 0, 0] ∧ Below w.heap.size w w' := by
 have hmf : ∀ (fn : Fn) (first cap : Array Value) (w : World), (Instr.makeFunc fn first cap).run Tryz.prog w = .ok (.func fn first cap) w := fun _ _ _ _ => rfl
 have hcv := fun (w : World) (C : Array Value) (n c : Nat) => Lib.run_convert_bytes_const (P := Tryz.prog) w 52 5 C n c Tryz.underlying52 Tryz.underlying5
 have HM := fun W => hid (May_empty W)
 have HX0 := hid (CA.new w #[.slice none 0 0, .slice none 0 0, .slice none 0 0, .slice none 0 0, .slice none 0 0, .slice none 0 0, .slice none 0 0, .int .i64 0, .slice none 0 0, .slice none 0 0, .bool false] 32)
 have HBX := hid ((Below.refl w.heap.size w).alloc (Nat.le_refl _) (.cells #[.slice none 0 0, .slice none 0 0, .slice none 0 0, .slice none 0 0, .slice none 0 0, .slice none 0 0, .slice none 0 0, .int .i64 0, .slice none 0 0, .slice none 0 0, .bool false] 32))
 have m0 := HX0.out.at (k := 0) (v := .slice none 0 0) rfl
 have m1 := HX0.out.at (k := 1) (v := .slice none 0 0) rfl
 have m2 := HX0.out.at (k := 2) (v := .slice none 0 0) rfl
 have m3 := HX0.out.at (k := 3) (v := .slice none 0 0) rfl
 have m4 := HX0.out.at (k := 4) (v := .slice none 0 0) rfl
 have m5 := HX0.out.at (k := 5) (v := .slice none 0 0) rfl
 have m6 := HX0.out.at (k := 6) (v := .slice none 0 0) rfl
 have m7 := HX0.out.at (k := 7) (v := .int .i64 0) rfl
 have m8 := HX0.out.at (k := 8) (v := .slice none 0 0) rfl
 have m9 := HX0.out.at (k := 9) (v := .slice none 0 0) rfl
 have m10 := HX0.out.at (k := 10) (v := .bool false) rfl
 go_enter Tryz.func23, Tryz.ntmps23
 go_upto_region 4 with (go_at_call 15; (with_reducible refine (HM _).out.mono ?_); rintro e w0 ⟨rfl, hb⟩; have HX1 := hid (HX0.out.below hb HX0.out.lt); have HBY := hid (HBX.out.trans (hb.mono HBX.out.size)); clear hb)
 clear m0 m1 m2 m3 m4 m5 m6 m7 m8 m9 m10
 have hS : EMp w.heap.size w0.heap.size (((w0.alloc (.cells #[.int .u8 0, .int .u8 97, .int .u8 115, .int .u8 109, .int .u8 1, .int .u8 0, .int .u8 0, .int .u8 0] 5 (8, 9))).alloc (.cells #[.slice (some ⟨w0.heap.size, 0, none⟩) 8 8] 137)).alloc (.cells #[.pointer (some ⟨w0.heap.size + 1, 0, none⟩)] 135)) := by
  refine ⟨((HX1.out.alloc _).alloc _).alloc _, ?_, ?_, ?_⟩
  ·have := CA.new (w0.alloc (.cells #[.int .u8 0, .int .u8 97, .int .u8 115, .int .u8 109, .int .u8 1, .int .u8 0, .int .u8 0, .int .u8 0] 5 (8, 9))) #[.slice (some ⟨w0.heap.size, 0, none⟩) 8 8] 137
   rw [size_al] at this
   exact this.alloc _
  ·have := CA.new ((w0.alloc (.cells #[.int .u8 0, .int .u8 97, .int .u8 115, .int .u8 109, .int .u8 1, .int .u8 0, .int .u8 0, .int .u8 0] 5 (8, 9))).alloc (.cells #[.slice (some ⟨w0.heap.size, 0, none⟩) 8 8] 137)) #[.pointer (some ⟨w0.heap.size + 1, 0, none⟩)] 135
   rw [size_al, size_al] at this
   exact this
  ·have := bytes_lit (w := w0) [0, 97, 115, 109, 1, 0, 0, 0] #[.int .u8 0, .int .u8 97, .int .u8 115, .int .u8 109, .int .u8 1, .int .u8 0, .int .u8 0, .int .u8 0] (8, 9) rfl 8 rfl (by decide)
   exact this.below ((((Below.refl _ _).alloc (by rw [size_al]; omega) _)).alloc (by simp only [size_al]; omega) _)
 have hB : Below w.heap.size w (((w0.alloc (.cells #[.int .u8 0, .int .u8 97, .int .u8 115, .int .u8 109, .int .u8 1, .int .u8 0, .int .u8 0, .int .u8 0] 5 (8, 9))).alloc (.cells #[.slice (some ⟨w0.heap.size, 0, none⟩) 8 8] 137)).alloc (.cells #[.pointer (some ⟨w0.heap.size + 1, 0, none⟩)] 135)) :=
  ((HBY.out.alloc HBY.out.size _).alloc (by rw [size_al]; have := HBY.out.size; omega) _).alloc (by rw [size_al, size_al]; have := HBY.out.size; omega) _
 have HS0 := hid hS
 have HB0 := hid hB
 clear hS hB HX1 HBY
 generalize ((w0.alloc (.cells #[.int .u8 0, .int .u8 97, .int .u8 115, .int .u8 109, .int .u8 1, .int .u8 0, .int .u8 0, .int .u8 0] 5 (8, 9))).alloc (.cells #[.slice (some ⟨w0.heap.size, 0, none⟩) 8 8] 137)).alloc (.cells #[.pointer (some ⟨w0.heap.size + 1, 0, none⟩)] 135) = W0 at *
 generalize w0.heap.size = gb at *
 have m0 := HS0.out.1.at (k := 0) (v := .slice none 0 0) rfl
 have m1 := HS0.out.1.at (k := 1) (v := .slice none 0 0) rfl
 have m2 := HS0.out.1.at (k := 2) (v := .slice none 0 0) rfl
 have m3 := HS0.out.1.at (k := 3) (v := .slice none 0 0) rfl
 have m4 := HS0.out.1.at (k := 4) (v := .slice none 0 0) rfl
 have m5 := HS0.out.1.at (k := 5) (v := .slice none 0 0) rfl
 have m6 := HS0.out.1.at (k := 6) (v := .slice none 0 0) rfl
 have m7 := HS0.out.1.at (k := 7) (v := .int .i64 0) rfl
 have m8 := HS0.out.1.at (k := 8) (v := .slice none 0 0) rfl
 have m9 := HS0.out.1.at (k := 9) (v := .slice none 0 0) rfl
 have m10 := HS0.out.1.at (k := 10) (v := .bool false) rfl
 have pv := HS0.out.2.2.1.at (k := 0) (v := .pointer (some ⟨gb + 1, 0, none⟩)) rfl
 have wv := HS0.out.2.1.at (k := 0) (v := .slice (some ⟨gb, 0, none⟩) 8 8) rfl
 go_wp2_with (first
  | (go_at_call 97; (with_reducible refine (sec_nil_97 _ _ 98 _ _).mono ?_); rintro e w1 ⟨rfl, hb⟩; have HS1 := hid (HS0.out.call hb); have HB1 := hid (HB0.out.trans (hb.mono HB0.out.size)); clear m0 m1 m2 m3 m4 m5 m6 m7 m8 m9 m10 pv wv; have m0 := HS1.out.1.at (k := 0) (v := .slice none 0 0) rfl; have m1 := HS1.out.1.at (k := 1) (v := .slice none 0 0) rfl; have m2 := HS1.out.1.at (k := 2) (v := .slice none 0 0) rfl; have m3 := HS1.out.1.at (k := 3) (v := .slice none 0 0) rfl; have m4 := HS1.out.1.at (k := 4) (v := .slice none 0 0) rfl; have m5 := HS1.out.1.at (k := 5) (v := .slice none 0 0) rfl; have m6 := HS1.out.1.at (k := 6) (v := .slice none 0 0) rfl; have m7 := HS1.out.1.at (k := 7) (v := .int .i64 0) rfl; have m8 := HS1.out.1.at (k := 8) (v := .slice none 0 0) rfl; have m9 := HS1.out.1.at (k := 9) (v := .slice none 0 0) rfl; have m10 := HS1.out.1.at (k := 10) (v := .bool false) rfl; have pv := HS1.out.2.2.1.at (k := 0) (v := .pointer (some ⟨gb + 1, 0, none⟩)) rfl; have wv := HS1.out.2.1.at (k := 0) (v := .slice (some ⟨gb, 0, none⟩) 8 8) rfl; clear hb)
  | (go_at_call 100; (with_reducible refine (sec_nil_100 _ _ 101 _ _).mono ?_); rintro e w2 ⟨rfl, hb⟩; have HS2 := hid (HS1.out.call hb); have HB2 := hid (HB1.out.trans (hb.mono HB1.out.size)); clear m0 m1 m2 m3 m4 m5 m6 m7 m8 m9 m10 pv wv; have m0 := HS2.out.1.at (k := 0) (v := .slice none 0 0) rfl; have m1 := HS2.out.1.at (k := 1) (v := .slice none 0 0) rfl; have m2 := HS2.out.1.at (k := 2) (v := .slice none 0 0) rfl; have m3 := HS2.out.1.at (k := 3) (v := .slice none 0 0) rfl; have m4 := HS2.out.1.at (k := 4) (v := .slice none 0 0) rfl; have m5 := HS2.out.1.at (k := 5) (v := .slice none 0 0) rfl; have m6 := HS2.out.1.at (k := 6) (v := .slice none 0 0) rfl; have m7 := HS2.out.1.at (k := 7) (v := .int .i64 0) rfl; have m8 := HS2.out.1.at (k := 8) (v := .slice none 0 0) rfl; have m9 := HS2.out.1.at (k := 9) (v := .slice none 0 0) rfl; have m10 := HS2.out.1.at (k := 10) (v := .bool false) rfl; have pv := HS2.out.2.2.1.at (k := 0) (v := .pointer (some ⟨gb + 1, 0, none⟩)) rfl; have wv := HS2.out.2.1.at (k := 0) (v := .slice (some ⟨gb, 0, none⟩) 8 8) rfl; clear hb)
  | (go_at_call 103; (with_reducible refine (sec_nil_103 _ _ 104 _ _).mono ?_); rintro e w3 ⟨rfl, hb⟩; have HS3 := hid (HS2.out.call hb); have HB3 := hid (HB2.out.trans (hb.mono HB2.out.size)); clear m0 m1 m2 m3 m4 m5 m6 m7 m8 m9 m10 pv wv; have m0 := HS3.out.1.at (k := 0) (v := .slice none 0 0) rfl; have m1 := HS3.out.1.at (k := 1) (v := .slice none 0 0) rfl; have m2 := HS3.out.1.at (k := 2) (v := .slice none 0 0) rfl; have m3 := HS3.out.1.at (k := 3) (v := .slice none 0 0) rfl; have m4 := HS3.out.1.at (k := 4) (v := .slice none 0 0) rfl; have m5 := HS3.out.1.at (k := 5) (v := .slice none 0 0) rfl; have m6 := HS3.out.1.at (k := 6) (v := .slice none 0 0) rfl; have m7 := HS3.out.1.at (k := 7) (v := .int .i64 0) rfl; have m8 := HS3.out.1.at (k := 8) (v := .slice none 0 0) rfl; have m9 := HS3.out.1.at (k := 9) (v := .slice none 0 0) rfl; have m10 := HS3.out.1.at (k := 10) (v := .bool false) rfl; have pv := HS3.out.2.2.1.at (k := 0) (v := .pointer (some ⟨gb + 1, 0, none⟩)) rfl; have wv := HS3.out.2.1.at (k := 0) (v := .slice (some ⟨gb, 0, none⟩) 8 8) rfl; clear hb)
  | (go_at_call 106; (with_reducible refine (sec_nil_106 _ _ 107 _ _).mono ?_); rintro e w4 ⟨rfl, hb⟩; have HS4 := hid (HS3.out.call hb); have HB4 := hid (HB3.out.trans (hb.mono HB3.out.size)); clear m0 m1 m2 m3 m4 m5 m6 m7 m8 m9 m10 pv wv; have m0 := HS4.out.1.at (k := 0) (v := .slice none 0 0) rfl; have m1 := HS4.out.1.at (k := 1) (v := .slice none 0 0) rfl; have m2 := HS4.out.1.at (k := 2) (v := .slice none 0 0) rfl; have m3 := HS4.out.1.at (k := 3) (v := .slice none 0 0) rfl; have m4 := HS4.out.1.at (k := 4) (v := .slice none 0 0) rfl; have m5 := HS4.out.1.at (k := 5) (v := .slice none 0 0) rfl; have m6 := HS4.out.1.at (k := 6) (v := .slice none 0 0) rfl; have m7 := HS4.out.1.at (k := 7) (v := .int .i64 0) rfl; have m8 := HS4.out.1.at (k := 8) (v := .slice none 0 0) rfl; have m9 := HS4.out.1.at (k := 9) (v := .slice none 0 0) rfl; have m10 := HS4.out.1.at (k := 10) (v := .bool false) rfl; have pv := HS4.out.2.2.1.at (k := 0) (v := .pointer (some ⟨gb + 1, 0, none⟩)) rfl; have wv := HS4.out.2.1.at (k := 0) (v := .slice (some ⟨gb, 0, none⟩) 8 8) rfl; clear hb)
  | (go_at_call 109; (with_reducible refine (sec_nil_109 _ _ 110 _ _).mono ?_); rintro e w5 ⟨rfl, hb⟩; have HS5 := hid (HS4.out.call hb); have HB5 := hid (HB4.out.trans (hb.mono HB4.out.size)); clear m0 m1 m2 m3 m4 m5 m6 m7 m8 m9 m10 pv wv; have m0 := HS5.out.1.at (k := 0) (v := .slice none 0 0) rfl; have m1 := HS5.out.1.at (k := 1) (v := .slice none 0 0) rfl; have m2 := HS5.out.1.at (k := 2) (v := .slice none 0 0) rfl; have m3 := HS5.out.1.at (k := 3) (v := .slice none 0 0) rfl; have m4 := HS5.out.1.at (k := 4) (v := .slice none 0 0) rfl; have m5 := HS5.out.1.at (k := 5) (v := .slice none 0 0) rfl; have m6 := HS5.out.1.at (k := 6) (v := .slice none 0 0) rfl; have m7 := HS5.out.1.at (k := 7) (v := .int .i64 0) rfl; have m8 := HS5.out.1.at (k := 8) (v := .slice none 0 0) rfl; have m9 := HS5.out.1.at (k := 9) (v := .slice none 0 0) rfl; have m10 := HS5.out.1.at (k := 10) (v := .bool false) rfl; have pv := HS5.out.2.2.1.at (k := 0) (v := .pointer (some ⟨gb + 1, 0, none⟩)) rfl; have wv := HS5.out.2.1.at (k := 0) (v := .slice (some ⟨gb, 0, none⟩) 8 8) rfl; clear hb)
  | (go_at_call 112; (with_reducible refine (sec_nil_112 _ _ 113 _ _).mono ?_); rintro e w6 ⟨rfl, hb⟩; have HS6 := hid (HS5.out.call hb); have HB6 := hid (HB5.out.trans (hb.mono HB5.out.size)); clear m0 m1 m2 m3 m4 m5 m6 m7 m8 m9 m10 pv wv; have m0 := HS6.out.1.at (k := 0) (v := .slice none 0 0) rfl; have m1 := HS6.out.1.at (k := 1) (v := .slice none 0 0) rfl; have m2 := HS6.out.1.at (k := 2) (v := .slice none 0 0) rfl; have m3 := HS6.out.1.at (k := 3) (v := .slice none 0 0) rfl; have m4 := HS6.out.1.at (k := 4) (v := .slice none 0 0) rfl; have m5 := HS6.out.1.at (k := 5) (v := .slice none 0 0) rfl; have m6 := HS6.out.1.at (k := 6) (v := .slice none 0 0) rfl; have m7 := HS6.out.1.at (k := 7) (v := .int .i64 0) rfl; have m8 := HS6.out.1.at (k := 8) (v := .slice none 0 0) rfl; have m9 := HS6.out.1.at (k := 9) (v := .slice none 0 0) rfl; have m10 := HS6.out.1.at (k := 10) (v := .bool false) rfl; have pv := HS6.out.2.2.1.at (k := 0) (v := .pointer (some ⟨gb + 1, 0, none⟩)) rfl; have wv := HS6.out.2.1.at (k := 0) (v := .slice (some ⟨gb, 0, none⟩) 8 8) rfl; clear hb)
  | (go_at_call 115; (with_reducible refine (sec_nil_115 _ _ 116 _ _).mono ?_); rintro e w7 ⟨rfl, hb⟩; have HS7 := hid (HS6.out.call hb); have HB7 := hid (HB6.out.trans (hb.mono HB6.out.size)); clear m0 m1 m2 m3 m4 m5 m6 m7 m8 m9 m10 pv wv; have m0 := HS7.out.1.at (k := 0) (v := .slice none 0 0) rfl; have m1 := HS7.out.1.at (k := 1) (v := .slice none 0 0) rfl; have m2 := HS7.out.1.at (k := 2) (v := .slice none 0 0) rfl; have m3 := HS7.out.1.at (k := 3) (v := .slice none 0 0) rfl; have m4 := HS7.out.1.at (k := 4) (v := .slice none 0 0) rfl; have m5 := HS7.out.1.at (k := 5) (v := .slice none 0 0) rfl; have m6 := HS7.out.1.at (k := 6) (v := .slice none 0 0) rfl; have m7 := HS7.out.1.at (k := 7) (v := .int .i64 0) rfl; have m8 := HS7.out.1.at (k := 8) (v := .slice none 0 0) rfl; have m9 := HS7.out.1.at (k := 9) (v := .slice none 0 0) rfl; have m10 := HS7.out.1.at (k := 10) (v := .bool false) rfl; have pv := HS7.out.2.2.1.at (k := 0) (v := .pointer (some ⟨gb + 1, 0, none⟩)) rfl; have wv := HS7.out.2.1.at (k := 0) (v := .slice (some ⟨gb, 0, none⟩) 8 8) rfl; clear hb)
  | (go_at_call 120; (with_reducible refine (sec_nil_120 _ _ 121 _ _).mono ?_); rintro e w8 ⟨rfl, hb⟩; have HS8 := hid (HS7.out.call hb); have HB8 := hid (HB7.out.trans (hb.mono HB7.out.size)); clear m0 m1 m2 m3 m4 m5 m6 m7 m8 m9 m10 pv wv; have m0 := HS8.out.1.at (k := 0) (v := .slice none 0 0) rfl; have m1 := HS8.out.1.at (k := 1) (v := .slice none 0 0) rfl; have m2 := HS8.out.1.at (k := 2) (v := .slice none 0 0) rfl; have m3 := HS8.out.1.at (k := 3) (v := .slice none 0 0) rfl; have m4 := HS8.out.1.at (k := 4) (v := .slice none 0 0) rfl; have m5 := HS8.out.1.at (k := 5) (v := .slice none 0 0) rfl; have m6 := HS8.out.1.at (k := 6) (v := .slice none 0 0) rfl; have m7 := HS8.out.1.at (k := 7) (v := .int .i64 0) rfl; have m8 := HS8.out.1.at (k := 8) (v := .slice none 0 0) rfl; have m9 := HS8.out.1.at (k := 9) (v := .slice none 0 0) rfl; have m10 := HS8.out.1.at (k := 10) (v := .bool false) rfl; have pv := HS8.out.2.2.1.at (k := 0) (v := .pointer (some ⟨gb + 1, 0, none⟩)) rfl; have wv := HS8.out.2.1.at (k := 0) (v := .slice (some ⟨gb, 0, none⟩) 8 8) rfl; clear hb)
  | (go_at_call 103; (with_reducible refine (sec_nil_103 _ _ 124 _ _).mono ?_); rintro e w9 ⟨rfl, hb⟩; have HS9 := hid (HS8.out.call hb); have HB9 := hid (HB8.out.trans (hb.mono HB8.out.size)); clear m0 m1 m2 m3 m4 m5 m6 m7 m8 m9 m10 pv wv; have m0 := HS9.out.1.at (k := 0) (v := .slice none 0 0) rfl; have m1 := HS9.out.1.at (k := 1) (v := .slice none 0 0) rfl; have m2 := HS9.out.1.at (k := 2) (v := .slice none 0 0) rfl; have m3 := HS9.out.1.at (k := 3) (v := .slice none 0 0) rfl; have m4 := HS9.out.1.at (k := 4) (v := .slice none 0 0) rfl; have m5 := HS9.out.1.at (k := 5) (v := .slice none 0 0) rfl; have m6 := HS9.out.1.at (k := 6) (v := .slice none 0 0) rfl; have m7 := HS9.out.1.at (k := 7) (v := .int .i64 0) rfl; have m8 := HS9.out.1.at (k := 8) (v := .slice none 0 0) rfl; have m9 := HS9.out.1.at (k := 9) (v := .slice none 0 0) rfl; have m10 := HS9.out.1.at (k := 10) (v := .bool false) rfl; have pv := HS9.out.2.2.1.at (k := 0) (v := .pointer (some ⟨gb + 1, 0, none⟩)) rfl; have wv := HS9.out.2.1.at (k := 0) (v := .slice (some ⟨gb, 0, none⟩) 8 8) rfl; clear hb)
  | (go_at_call 126; (with_reducible refine (sec_nil_126 _ _ 127 _ _).mono ?_); rintro e w10 ⟨rfl, hb⟩; have HS10 := hid (HS9.out.call hb); have HB10 := hid (HB9.out.trans (hb.mono HB9.out.size)); clear m0 m1 m2 m3 m4 m5 m6 m7 m8 m9 m10 pv wv; have m0 := HS10.out.1.at (k := 0) (v := .slice none 0 0) rfl; have m1 := HS10.out.1.at (k := 1) (v := .slice none 0 0) rfl; have m2 := HS10.out.1.at (k := 2) (v := .slice none 0 0) rfl; have m3 := HS10.out.1.at (k := 3) (v := .slice none 0 0) rfl; have m4 := HS10.out.1.at (k := 4) (v := .slice none 0 0) rfl; have m5 := HS10.out.1.at (k := 5) (v := .slice none 0 0) rfl; have m6 := HS10.out.1.at (k := 6) (v := .slice none 0 0) rfl; have m7 := HS10.out.1.at (k := 7) (v := .int .i64 0) rfl; have m8 := HS10.out.1.at (k := 8) (v := .slice none 0 0) rfl; have m9 := HS10.out.1.at (k := 9) (v := .slice none 0 0) rfl; have m10 := HS10.out.1.at (k := 10) (v := .bool false) rfl; have pv := HS10.out.2.2.1.at (k := 0) (v := .pointer (some ⟨gb + 1, 0, none⟩)) rfl; have wv := HS10.out.2.1.at (k := 0) (v := .slice (some ⟨gb, 0, none⟩) 8 8) rfl; clear hb))
 go_ret2
 exact ⟨gb, rfl, HS10.out.2.2.2.mono (Nat.le_of_lt HS10.out.2.1.lt), HB10.out⟩
end Go.Proofs.YtjgeedgphcjhoaaGreat
namespace Go.Proofs.YtjgeedgphcjhoaaGreat
open Go.RowKit
def exFo : Fo := .cons 65 0 0 4294967295 0 [] false .nil .nil .nil
theorem ex_code : codeB exFo = true := by kernel_rfl
theorem ex_line : (lineL 65).2.1 = 12 := by kernel_rfl
theorem ex_enc : exFo.enc ++ [11] = [65, 127, 11] := by
 have h1 : opL 65 = [65] := by unfold opL; rw [if_neg (by decide), if_neg (by decide)]; rfl
 have h2 : sgnN 32 4294967295 = -1 := by decide
 have h3 : slist (-1) = [127] := by rw [slist_small (by decide)]; rfl
 simp only [exFo, Fo.enc, ex_line, behL, h1, h2, h3]
 rfl
theorem ex_ok : okE exFo := by
 refine ⟨⟨by decide, by decide, by decide, by decide, ⟨by decide, by decide⟩, fun h => ?_⟩, trivial, trivial, trivial⟩
 exact .inl rfl
theorem no_code : codeB (insFo 6 .nil) = false := by kernel_rfl
theorem ex_call (W : World) : Calls Tryz.prog 25 #[.slice (some ⟨W.heap.size, 0, none⟩) 1 1] (W.alloc (.cells #[.int .i64 65, .int .i64 0, .int .i64 0, .int .u64 4294967295, .int .u64 0, .slice none 0 0, .slice none 0 0, .slice none 0 0, .bool false] 39))
  fun e w' => ∃ p n c, e = .returned (.tuple #[.slice p n c, .int .i64 0]) ∧ BytesAt w'.heap.size w' (.slice p n c) [65, 127, 11] ∧ Below W.heap.size W w' := by
 have hc := CA.new W #[.int .i64 65, .int .i64 0, .int .i64 0, .int .u64 4294967295, .int .u64 0, .slice none 0 0, .slice none 0 0, .slice none 0 0, .bool false] 39
 have hs : SA (W.alloc (.cells #[.int .i64 65, .int .i64 0, .int .i64 0, .int .u64 4294967295, .int .u64 0, .slice none 0 0, .slice none 0 0, .slice none 0 0, .bool false] 39)).heap.size (W.alloc (.cells #[.int .i64 65, .int .i64 0, .int .i64 0, .int .u64 4294967295, .int .u64 0, .slice none 0 0, .slice none 0 0, .slice none 0 0, .bool false] 39)) (.slice (some ⟨W.heap.size, 0, none⟩) 1 1) exFo :=
  ⟨some ⟨W.heap.size, 0, none⟩, 1, W.heap.size, 0, rfl, fun _ => rfl, hc.lt, ⟨.slice none 0 0, .slice none 0 0, .slice none 0 0, hc.at rfl, hc.at rfl, hc.at rfl, hc.at rfl, hc.at rfl, hc.at rfl, hc.at rfl, hc.at rfl, hc.at rfl, LI.nil _ _ _ _, ⟨none, 0, 0, 0, rfl, fun h => absurd rfl h, trivial⟩, ⟨none, 0, 0, 0, rfl, fun h => absurd rfl h, trivial⟩⟩, trivial⟩
 have hb := (Below.refl W.heap.size W).alloc (Nat.le_refl _) (.cells #[.int .i64 65, .int .i64 0, .int .i64 0, .int .u64 4294967295, .int .u64 0, .slice none 0 0, .slice none 0 0, .slice none 0 0, .bool false] 39)
 refine (encCode_yes exFo (by decide) ex_ok (by decide) _ _ hs ex_code).mono ?_
 rintro e w' ⟨p, n, c, rfl, ho, hb2⟩
 rw [ex_enc] at ho
 obtain ⟨g, cc, hv⟩ := own_at ho (by decide)
 refine ⟨p, n, c, rfl, bytes_of_owned ho (by decide), hb.trans (hb2.mono hb.size)⟩
theorem no_call (W : World) : Calls Tryz.prog 25 #[.slice (some ⟨W.heap.size, 0, none⟩) 1 1] (W.alloc (.cells #[.int .i64 6, .int .i64 0, .int .i64 0, .int .u64 0, .int .u64 0, .slice none 0 0, .slice none 0 0, .slice none 0 0, .bool false] 39))
  fun e w' => e = .returned (.tuple #[.slice none 0 0, .int .i64 1]) ∧ Below W.heap.size W w' := by
 have hc := CA.new W #[.int .i64 6, .int .i64 0, .int .i64 0, .int .u64 0, .int .u64 0, .slice none 0 0, .slice none 0 0, .slice none 0 0, .bool false] 39
 have hb := (Below.refl W.heap.size W).alloc (Nat.le_refl _) (.cells #[.int .i64 6, .int .i64 0, .int .i64 0, .int .u64 0, .int .u64 0, .slice none 0 0, .slice none 0 0, .slice none 0 0, .bool false] 39)
 have hs := SA_ins (c := 1) ⟨hc.at rfl, hc.at rfl, hc.at rfl, hc.at rfl, hc.at rfl, hc.at rfl, hc.at rfl, hc.at rfl, hc.at rfl⟩ hc.lt (SA.nil _ _ none 0)
 refine (encCode_no (insFo 6 .nil) (by decide) _ _ hs no_code).mono ?_
 rintro e w' ⟨rfl, hb2⟩
 exact ⟨rfl, hb.trans (hb2.mono hb.size)⟩
set_option maxHeartbeats 4000000 in
theorem awakeE (w : World) : Calls Tryz.prog 22 #[] w fun e w' => e = .returned (.bool true) ∧ Below w.heap.size w w' := by
 have HM := fun W => hid (Module_empty W)
 have HE := fun W => hid (ex_call W)
 have HN := fun W => hid (no_call W)
 go_enter Tryz.func22, Tryz.ntmps22
 go_upto_region 4 with (first
  | (go_at_call 23; (with_reducible refine (HM _).out.mono ?_); rintro e w1 ⟨b, rfl, hy, hb⟩; have HY1 := hid hy; have HB1 := hid hb; clear hy hb)
  | (go_at_call 25; (with_reducible refine (HE _).out.mono ?_); rintro e w2 ⟨p, n, c, rfl, hy, hb⟩; have HY2 := hid hy; have HB2 := hid (HB1.out.trans (hb.mono HB1.out.size)); have HZ2 := hid (HY1.out.below hb); have HSZ := hid hb.size; clear hy hb)
  | (go_at_call 25; (with_reducible refine (HN _).out.mono ?_); rintro e w3 ⟨rfl, hb⟩; have HB3 := hid (HB2.out.trans (hb.mono HB2.out.size)); have HZ3 := hid (HZ2.out.below (hb.mono HSZ.out)); have HY3 := hid (HY2.out.below hb); clear hb))
 have c1 := conv_bytes HZ3.out
 have c2 := conv_bytes HY3.out
 go_wp2
 go_ret
 exact ⟨rfl, HB3.out⟩
end Go.Proofs.YtjgeedgphcjhoaaGreat
