/-
  WEl4, WList1: merged, what the law does not reach left out (each text says what it holds where it lies in wip). No condition.
-/
import Derived.Test.YtjgeedgphcjhoaaGreatU25
import Derived.Deep.CutBlock
import Derived.Test.YtjgeedgphcjhoaaGreatU20
import Derived.Test.YtjgeedgphcjhoaaGreatU01
set_option linter.unusedSimpArgs false
set_option linter.unusedVariables false
set_option maxRecDepth 100000
namespace Go.Proofs.YtjgeedgphcjhoaaGreat
open Go.RowKit
theorem flB_bytes : ∀ (l : List UInt8),flB l.length (fun i => [l[i]?.getD 0]) = l := by
 intro l
 have key : ∀ n,n ≤ l.length → flB n (fun i => [l[i]?.getD 0]) = l.take n := by
  intro n
  induction n with
  | zero => intro _; rfl
  | succ n ih =>
   intro hn
   rw [flB,ih (by omega),List.take_add_one,List.getElem?_eq_getElem (show n < l.length by omega)]
   rfl
 rw [key l.length (Nat.le_refl _),List.take_length]
theorem list_bytes (B g b L : Nat) (hL : L ≤ lo B g) (l : List UInt8) (hl : l.length ≤ 100000) (p : Option Addr) (c : Nat) (w : World) (hy : YO L w p c l) (hbg : b ≠ g) (hb : CA b #[.pointer (some ⟨g,0,none⟩)] 135 w) (bs : List UInt8) (hw : WR B g bs w) (hn : bs.length ≤ 3100000000000) :
  Calls Tryz.prog 200 #[.pointer (some ⟨g,0,none⟩),.slice p l.length c,.func (.func 201) #[] #[.pointer (some ⟨b,0,none⟩)]] w fun e w' => e = .returned (.tuple #[]) ∧ WR B g (bs ++ szL l) w' ∧ FR B g w w' := by
 have hfl := flB_bytes l
 have key : ∀ (blk off : Nat),(l.length ≠ 0 → p = some ⟨blk,off,none⟩ ∧ NW B g w blk) → (∀ i,i < l.length → w.cell? ⟨blk,off + i,none⟩ = some (.int .u8 ((l[i]?.getD 0).toNat : Nat))) → Calls Tryz.prog 200 #[.pointer (some ⟨g,0,none⟩),.slice p l.length c,.func (.func 201) #[] #[.pointer (some ⟨b,0,none⟩)]] w fun e w' => e = .returned (.tuple #[]) ∧ WR B g (bs ++ szL l) w' ∧ FR B g w w' := by
  intro blk off h1 h2
  have := wl_bytes B g 201 (fun _ _ => rfl) b (fun i => [l[i]?.getD 0]) l.length blk off c p (fun i => ((l[i]?.getD 0).toNat : Nat)) w (by omega) h1 h2 (fun i hi bs' W hF hW hbl => mc_byte B g b bs' (l[i]?.getD 0) W hbg (hb.fr hF (by decide) hbg) hW hbl) bs hw (by rw [hfl]; omega)
  rw [hfl] at this
  exact this
 by_cases h0 : l = []
 ·subst h0
  exact key 0 0 (fun h => absurd rfl h) (fun i hi => absurd hi (Nat.not_lt_zero i))
 obtain ⟨g1,o1,e1,hg1,hc1⟩ := hy.2 h0
 refine key g1 o1 (fun _ => ⟨e1,?_⟩) (fun i hi => ?_)
 ·have h2 := lo_g B g
  have h3 := lo_B B g
  have h4 := hw.1
  exact ⟨by omega,by omega,.inl (by omega)⟩
 have h5 := hc1 i l[i] (List.getElem?_eq_getElem hi)
 rw [List.getElem?_eq_getElem hi]
 exact h5
set_option maxHeartbeats 4000000 in
theorem data_P (B g L : Nat) (bs : List UInt8) (t : Int) (f : Fo) (po pb : Option Addr) (co cb : Nat) (l : List UInt8) (w : World) (hL : L ≤ lo B g) (hct : f.cnt < 9223372036854775806) (hok : okE f) (hsz : f.siz ≤ 61200000) (hs : SA L w (.slice po f.len co) f)
  (hl : l.length ≤ 100000) (hy : YO L w pb cb l) (hw : WR B g bs w) (hn : bs.length ≤ 3000000000000) :
  Calls Tryz.prog 128 #[.pointer (some ⟨g,0,none⟩),.agg #[.int .i64 1,.int .i64 t,.slice po f.len co,.slice pb l.length cb]] w fun e w' => e = .returned (.tuple #[]) ∧ WR B g (bs ++ ([1].map byI ++ szL l)) w' ∧ FR B g w w' := by
 have hB := hw.1
 have hLw : L ≤ w.heap.size := Nat.le_trans hL (Nat.le_trans (lo_B B g) hB)
 have hgl := hw.lt
 have hb1 := CA.new w #[.pointer (some ⟨g,0,none⟩)] 135
 have hb1' := hb1.alloc (.cells #[.int .i64 1,.int .i64 t,.slice po f.len co,.slice pb l.length cb] 64)
 have hb2 := CA.new (w.alloc (.cells #[.pointer (some ⟨g,0,none⟩)] 135)) #[.int .i64 1,.int .i64 t,.slice po f.len co,.slice pb l.length cb] 64
 rw [size_al] at hb2
 have HF0 := hid (((FR.refl B g w).alloc (.cells #[.pointer (some ⟨g,0,none⟩)] 135)).alloc (.cells #[.int .i64 1,.int .i64 t,.slice po f.len co,.slice pb l.length cb] 64))
 have HB0 := hid hb1'
 have HX0 := hid hb2
 have HW0 := hid ((hw.alloc (.cells #[.pointer (some ⟨g,0,none⟩)] 135)).alloc (.cells #[.int .i64 1,.int .i64 t,.slice po f.len co,.slice pb l.length cb] 64))
 have HNB := hid (show w.heap.size ≠ g by omega)
 have HNX := hid (show w.heap.size + 1 ≠ g by omega)
 have HCT := hid hct
 have HOK := hid hok
 have HSA := hid (fun (W : World) (h : FR B g w W) => SA.mono (SA.below hs ((h.belowL hB).mono hL)) hL)
 have HLS := hid (fun (bs : List UInt8) (W : World) (h : FR B g w W) (hb : CA w.heap.size #[.pointer (some ⟨g,0,none⟩)] 135 W) (hW : WR B g bs W) (hn : bs.length ≤ 3100000000000) => list_bytes B g w.heap.size L hL l hl pb cb W (hy.below ((h.belowL hB).mono hL)) (by omega) hb bs hW hn)
 have hef := enc_siz f hok
 have HN0 := hid (show (bs).length + ([1] : List Int).length ≤ 140737488355000 by
  have h1 := hn
  have h2 := hsz
  have h3 := hef
  (try simp only [List.length_append,List.length_cons,List.length_nil,List.length_map])
  omega)
 have HN1 := hid (show (bs ++ List.map byI [1]).length + 0 ≤ 3100000000000 by
  have h1 := hn
  have h2 := hsz
  have h3 := hef
  (try simp only [List.length_append,List.length_cons,List.length_nil,List.length_map])
  omega)
 have hmf : ∀ (fn : Fn) (first cap : Array Value) (w : World),(Instr.makeFunc fn first cap).run Tryz.prog w = .ok (.func fn first cap) w := fun _ _ _ _ => rfl
 clear hb1 hb1' hb2 hw hn hct hok hsz hs hl hy hL hB hLw hgl hef
 generalize f.len = nf at *
 generalize hnb : l.length = nb at *
 clear hnb
 go_enter Tryz.func128,Tryz.ntmps128
 go_upto_block 0 with fail
 generalize (w.alloc (.cells #[.pointer (some ⟨g,0,none⟩)] 135)).alloc (.cells #[.int .i64 1,.int .i64 t,.slice po nf co,.slice pb nb cb] 64) = w0 at *
 generalize w.heap.size + 1 = be at *
 generalize w.heap.size = bx at *
 have y0 := HB0.out.at (k := 0) (v := .pointer (some ⟨g,0,none⟩)) rfl
 have x0 := HX0.out.at (k := 0) (v := .int .i64 1) rfl
 have x1 := HX0.out.at (k := 1) (v := .int .i64 t) rfl
 have x2 := HX0.out.at (k := 2) (v := .slice po nf co) rfl
 have x3 := HX0.out.at (k := 3) (v := .slice pb nb cb) rfl
 go_wp2_with (first
  | (go_at_call 169; (with_reducible refine (bytes_says B g _ [1] _ _ (HW0.out.alloc _) (LT.one (1) 1 HW0.out.lt) HN0.out).mono ?_); rintro e w1 ⟨rfl,hw',hf⟩; have HW1 := hid hw'; have HF1 := hid ((HF0.out.alloc _).trans hf); have HB1 := hid ((HB0.out.alloc _).fr hf (by decide) HNB.out); have HX1 := hid ((HX0.out.alloc _).fr hf (by decide) HNX.out); clear y0 x0 x1 x2 x3; have y0 := HB1.out.at (k := 0) (v := .pointer (some ⟨g,0,none⟩)) rfl; have x0 := HX1.out.at (k := 0) (v := .int .i64 1) rfl; have x1 := HX1.out.at (k := 1) (v := .int .i64 t) rfl; have x2 := HX1.out.at (k := 2) (v := .slice po nf co) rfl; have x3 := HX1.out.at (k := 3) (v := .slice pb nb cb) rfl; clear hw' hf)
  | (go_at_call 200; (with_reducible refine (HLS.out _ _ HF1.out HB1.out HW1.out (by have := HN1.out; omega)).mono ?_); rintro e w2 ⟨rfl,hw',hf⟩; have HW2 := hid hw'; have HF2 := hid ((HF1.out).trans hf); have HB2 := hid ((HB1.out).fr hf (by decide) HNB.out); have HX2 := hid ((HX1.out).fr hf (by decide) HNX.out); clear y0 x0 x1 x2 x3; have y0 := HB2.out.at (k := 0) (v := .pointer (some ⟨g,0,none⟩)) rfl; have x0 := HX2.out.at (k := 0) (v := .int .i64 1) rfl; have x1 := HX2.out.at (k := 1) (v := .int .i64 t) rfl; have x2 := HX2.out.at (k := 2) (v := .slice po nf co) rfl; have x3 := HX2.out.at (k := 3) (v := .slice pb nb cb) rfl; clear hw' hf))
 (first | go_end0 | refine bodyPost_ret (results_none rfl _ _ _) rfl ?_)
 refine ⟨rfl,?_,HF2.out⟩
 have := HW2.out
 simpa using this
set_option maxHeartbeats 4000000 in
theorem data_Z (B g L : Nat) (bs : List UInt8) (m : Int) (f : Fo) (po pb : Option Addr) (co cb : Nat) (l : List UInt8) (w : World) (hm : m ≠ 1) (hL : L ≤ lo B g) (hct : f.cnt < 9223372036854775806) (hok : okE f) (hsz : f.siz ≤ 61200000) (hs : SA L w (.slice po f.len co) f)
  (hl : l.length ≤ 100000) (hy : YO L w pb cb l) (hw : WR B g bs w) (hn : bs.length ≤ 3000000000000) :
  Calls Tryz.prog 128 #[.pointer (some ⟨g,0,none⟩),.agg #[.int .i64 m,.int .i64 0,.slice po f.len co,.slice pb l.length cb]] w fun e w' => e = .returned (.tuple #[]) ∧ WR B g (bs ++ ([0].map byI ++ (f.enc ++ [11]) ++ szL l)) w' ∧ FR B g w w' := by
 have hB := hw.1
 have hLw : L ≤ w.heap.size := Nat.le_trans hL (Nat.le_trans (lo_B B g) hB)
 have hgl := hw.lt
 have hb1 := CA.new w #[.pointer (some ⟨g,0,none⟩)] 135
 have hb1' := hb1.alloc (.cells #[.int .i64 m,.int .i64 0,.slice po f.len co,.slice pb l.length cb] 64)
 have hb2 := CA.new (w.alloc (.cells #[.pointer (some ⟨g,0,none⟩)] 135)) #[.int .i64 m,.int .i64 0,.slice po f.len co,.slice pb l.length cb] 64
 rw [size_al] at hb2
 have HF0 := hid (((FR.refl B g w).alloc (.cells #[.pointer (some ⟨g,0,none⟩)] 135)).alloc (.cells #[.int .i64 m,.int .i64 0,.slice po f.len co,.slice pb l.length cb] 64))
 have HB0 := hid hb1'
 have HX0 := hid hb2
 have HW0 := hid ((hw.alloc (.cells #[.pointer (some ⟨g,0,none⟩)] 135)).alloc (.cells #[.int .i64 m,.int .i64 0,.slice po f.len co,.slice pb l.length cb] 64))
 have HNB := hid (show w.heap.size ≠ g by omega)
 have HNX := hid (show w.heap.size + 1 ≠ g by omega)
 have HCT := hid hct
 have HOK := hid hok
 have HSA := hid (fun (W : World) (h : FR B g w W) => SA.mono (SA.below hs ((h.belowL hB).mono hL)) hL)
 have HLS := hid (fun (bs : List UInt8) (W : World) (h : FR B g w W) (hb : CA w.heap.size #[.pointer (some ⟨g,0,none⟩)] 135 W) (hW : WR B g bs W) (hn : bs.length ≤ 3100000000000) => list_bytes B g w.heap.size L hL l hl pb cb W (hy.below ((h.belowL hB).mono hL)) (by omega) hb bs hW hn)
 have hef := enc_siz f hok
 have HN0 := hid (show (bs).length + ([0] : List Int).length ≤ 140737488355000 by
  have h1 := hn
  have h2 := hsz
  have h3 := hef
  (try simp only [List.length_append,List.length_cons,List.length_nil,List.length_map])
  omega)
 have HN1 := hid (show (bs ++ List.map byI [0]).length + 20 + f.siz ≤ 140737488355000 by
  have h1 := hn
  have h2 := hsz
  have h3 := hef
  (try simp only [List.length_append,List.length_cons,List.length_nil,List.length_map])
  omega)
 have HN2 := hid (show (bs ++ List.map byI [0] ++ (f.enc ++ [11])).length + 0 ≤ 3100000000000 by
  have h1 := hn
  have h2 := hsz
  have h3 := hef
  (try simp only [List.length_append,List.length_cons,List.length_nil,List.length_map])
  omega)
 have dm : ((m : Int) == 1) = false := by simpa using hm
 have hmf : ∀ (fn : Fn) (first cap : Array Value) (w : World),(Instr.makeFunc fn first cap).run Tryz.prog w = .ok (.func fn first cap) w := fun _ _ _ _ => rfl
 clear hb1 hb1' hb2 hw hn hct hok hsz hs hl hy hL hB hLw hgl hef hm
 generalize f.len = nf at *
 generalize hnb : l.length = nb at *
 clear hnb
 go_enter Tryz.func128,Tryz.ntmps128
 go_upto_block 0 with fail
 generalize (w.alloc (.cells #[.pointer (some ⟨g,0,none⟩)] 135)).alloc (.cells #[.int .i64 m,.int .i64 0,.slice po nf co,.slice pb nb cb] 64) = w0 at *
 generalize w.heap.size + 1 = be at *
 generalize w.heap.size = bx at *
 have y0 := HB0.out.at (k := 0) (v := .pointer (some ⟨g,0,none⟩)) rfl
 have x0 := HX0.out.at (k := 0) (v := .int .i64 m) rfl
 have x1 := HX0.out.at (k := 1) (v := .int .i64 0) rfl
 have x2 := HX0.out.at (k := 2) (v := .slice po nf co) rfl
 have x3 := HX0.out.at (k := 3) (v := .slice pb nb cb) rfl
 go_wp2_with (first
  | (go_at_call 169; (with_reducible refine (bytes_says B g _ [0] _ _ (HW0.out.alloc _) (LT.one (0) 1 HW0.out.lt) HN0.out).mono ?_); rintro e w1 ⟨rfl,hw',hf⟩; have HW1 := hid hw'; have HF1 := hid ((HF0.out.alloc _).trans hf); have HB1 := hid ((HB0.out.alloc _).fr hf (by decide) HNB.out); have HX1 := hid ((HX0.out.alloc _).fr hf (by decide) HNX.out); clear y0 x0 x1 x2 x3; have y0 := HB1.out.at (k := 0) (v := .pointer (some ⟨g,0,none⟩)) rfl; have x0 := HX1.out.at (k := 0) (v := .int .i64 m) rfl; have x1 := HX1.out.at (k := 1) (v := .int .i64 0) rfl; have x2 := HX1.out.at (k := 2) (v := .slice po nf co) rfl; have x3 := HX1.out.at (k := 3) (v := .slice pb nb cb) rfl; clear hw' hf)
  | (go_at_call 136; (with_reducible refine (code_says B g f HCT.out HOK.out _ _ _ HW1.out (HSA.out _ HF1.out) HN1.out).mono ?_); rintro e w2 ⟨rfl,hw',hf⟩; have HW2 := hid hw'; have HF2 := hid ((HF1.out).trans hf); have HB2 := hid ((HB1.out).fr hf (by decide) HNB.out); have HX2 := hid ((HX1.out).fr hf (by decide) HNX.out); clear y0 x0 x1 x2 x3; have y0 := HB2.out.at (k := 0) (v := .pointer (some ⟨g,0,none⟩)) rfl; have x0 := HX2.out.at (k := 0) (v := .int .i64 m) rfl; have x1 := HX2.out.at (k := 1) (v := .int .i64 0) rfl; have x2 := HX2.out.at (k := 2) (v := .slice po nf co) rfl; have x3 := HX2.out.at (k := 3) (v := .slice pb nb cb) rfl; clear hw' hf)
  | (go_at_call 200; (with_reducible refine (HLS.out _ _ HF2.out HB2.out HW2.out (by have := HN2.out; omega)).mono ?_); rintro e w3 ⟨rfl,hw',hf⟩; have HW3 := hid hw'; have HF3 := hid ((HF2.out).trans hf); have HB3 := hid ((HB2.out).fr hf (by decide) HNB.out); have HX3 := hid ((HX2.out).fr hf (by decide) HNX.out); clear y0 x0 x1 x2 x3; have y0 := HB3.out.at (k := 0) (v := .pointer (some ⟨g,0,none⟩)) rfl; have x0 := HX3.out.at (k := 0) (v := .int .i64 m) rfl; have x1 := HX3.out.at (k := 1) (v := .int .i64 0) rfl; have x2 := HX3.out.at (k := 2) (v := .slice po nf co) rfl; have x3 := HX3.out.at (k := 3) (v := .slice pb nb cb) rfl; clear hw' hf))
 (first | go_end0 | refine bodyPost_ret (results_none rfl _ _ _) rfl ?_)
 refine ⟨rfl,?_,HF3.out⟩
 have := HW3.out
 simpa using this
set_option maxHeartbeats 4000000 in
theorem data_T (B g L : Nat) (bs : List UInt8) (m : Int) (t : Int) (f : Fo) (po pb : Option Addr) (co cb : Nat) (l : List UInt8) (w : World) (hm : m ≠ 1) (ht : t ≠ 0) (hL : L ≤ lo B g) (hct : f.cnt < 9223372036854775806) (hok : okE f) (hsz : f.siz ≤ 61200000) (hs : SA L w (.slice po f.len co) f)
  (hl : l.length ≤ 100000) (hy : YO L w pb cb l) (hw : WR B g bs w) (hn : bs.length ≤ 3000000000000) :
  Calls Tryz.prog 128 #[.pointer (some ⟨g,0,none⟩),.agg #[.int .i64 m,.int .i64 t,.slice po f.len co,.slice pb l.length cb]] w fun e w' => e = .returned (.tuple #[]) ∧ WR B g (bs ++ ([2].map byI ++ uI (t) ++ (f.enc ++ [11]) ++ szL l)) w' ∧ FR B g w w' := by
 have hB := hw.1
 have hLw : L ≤ w.heap.size := Nat.le_trans hL (Nat.le_trans (lo_B B g) hB)
 have hgl := hw.lt
 have hb1 := CA.new w #[.pointer (some ⟨g,0,none⟩)] 135
 have hb1' := hb1.alloc (.cells #[.int .i64 m,.int .i64 t,.slice po f.len co,.slice pb l.length cb] 64)
 have hb2 := CA.new (w.alloc (.cells #[.pointer (some ⟨g,0,none⟩)] 135)) #[.int .i64 m,.int .i64 t,.slice po f.len co,.slice pb l.length cb] 64
 rw [size_al] at hb2
 have HF0 := hid (((FR.refl B g w).alloc (.cells #[.pointer (some ⟨g,0,none⟩)] 135)).alloc (.cells #[.int .i64 m,.int .i64 t,.slice po f.len co,.slice pb l.length cb] 64))
 have HB0 := hid hb1'
 have HX0 := hid hb2
 have HW0 := hid ((hw.alloc (.cells #[.pointer (some ⟨g,0,none⟩)] 135)).alloc (.cells #[.int .i64 m,.int .i64 t,.slice po f.len co,.slice pb l.length cb] 64))
 have HNB := hid (show w.heap.size ≠ g by omega)
 have HNX := hid (show w.heap.size + 1 ≠ g by omega)
 have HCT := hid hct
 have HOK := hid hok
 have HSA := hid (fun (W : World) (h : FR B g w W) => SA.mono (SA.below hs ((h.belowL hB).mono hL)) hL)
 have HLS := hid (fun (bs : List UInt8) (W : World) (h : FR B g w W) (hb : CA w.heap.size #[.pointer (some ⟨g,0,none⟩)] 135 W) (hW : WR B g bs W) (hn : bs.length ≤ 3100000000000) => list_bytes B g w.heap.size L hL l hl pb cb W (hy.below ((h.belowL hB).mono hL)) (by omega) hb bs hW hn)
 have hef := enc_siz f hok
 have HN0 := hid (show (bs).length + ([2] : List Int).length ≤ 140737488355000 by
  have h1 := hn
  have h2 := hsz
  have h3 := hef
  have h4 := uI_len t
  (try simp only [List.length_append,List.length_cons,List.length_nil,List.length_map])
  omega)
 have HN1 := hid (show (bs ++ List.map byI [2]).length + 10 ≤ 140737488355000 by
  have h1 := hn
  have h2 := hsz
  have h3 := hef
  have h4 := uI_len t
  (try simp only [List.length_append,List.length_cons,List.length_nil,List.length_map])
  omega)
 have HN2 := hid (show (bs ++ List.map byI [2] ++ uI (t)).length + 20 + f.siz ≤ 140737488355000 by
  have h1 := hn
  have h2 := hsz
  have h3 := hef
  have h4 := uI_len t
  (try simp only [List.length_append,List.length_cons,List.length_nil,List.length_map])
  omega)
 have HN3 := hid (show (bs ++ List.map byI [2] ++ uI (t) ++ (f.enc ++ [11])).length + 0 ≤ 3100000000000 by
  have h1 := hn
  have h2 := hsz
  have h3 := hef
  have h4 := uI_len t
  (try simp only [List.length_append,List.length_cons,List.length_nil,List.length_map])
  omega)
 have dm : ((m : Int) == 1) = false := by simpa using hm
 have dt : ((t : Int) == 0) = false := by simpa using ht
 have hmf : ∀ (fn : Fn) (first cap : Array Value) (w : World),(Instr.makeFunc fn first cap).run Tryz.prog w = .ok (.func fn first cap) w := fun _ _ _ _ => rfl
 clear hb1 hb1' hb2 hw hn hct hok hsz hs hl hy hL hB hLw hgl hef hm ht
 generalize f.len = nf at *
 generalize hnb : l.length = nb at *
 clear hnb
 go_enter Tryz.func128,Tryz.ntmps128
 go_upto_block 0 with fail
 generalize (w.alloc (.cells #[.pointer (some ⟨g,0,none⟩)] 135)).alloc (.cells #[.int .i64 m,.int .i64 t,.slice po nf co,.slice pb nb cb] 64) = w0 at *
 generalize w.heap.size + 1 = be at *
 generalize w.heap.size = bx at *
 have y0 := HB0.out.at (k := 0) (v := .pointer (some ⟨g,0,none⟩)) rfl
 have x0 := HX0.out.at (k := 0) (v := .int .i64 m) rfl
 have x1 := HX0.out.at (k := 1) (v := .int .i64 t) rfl
 have x2 := HX0.out.at (k := 2) (v := .slice po nf co) rfl
 have x3 := HX0.out.at (k := 3) (v := .slice pb nb cb) rfl
 go_wp2_with (first
  | (go_at_call 169; (with_reducible refine (bytes_says B g _ [2] _ _ (HW0.out.alloc _) (LT.one (2) 1 HW0.out.lt) HN0.out).mono ?_); rintro e w1 ⟨rfl,hw',hf⟩; have HW1 := hid hw'; have HF1 := hid ((HF0.out.alloc _).trans hf); have HB1 := hid ((HB0.out.alloc _).fr hf (by decide) HNB.out); have HX1 := hid ((HX0.out.alloc _).fr hf (by decide) HNX.out); clear y0 x0 x1 x2 x3; have y0 := HB1.out.at (k := 0) (v := .pointer (some ⟨g,0,none⟩)) rfl; have x0 := HX1.out.at (k := 0) (v := .int .i64 m) rfl; have x1 := HX1.out.at (k := 1) (v := .int .i64 t) rfl; have x2 := HX1.out.at (k := 2) (v := .slice po nf co) rfl; have x3 := HX1.out.at (k := 3) (v := .slice pb nb cb) rfl; clear hw' hf)
  | (go_at_call 105; (with_reducible refine (u_says B g _ (t) _ HW1.out.base HW1.out HN1.out).mono ?_); rintro e w2 ⟨rfl,hw',hf⟩; have HW2 := hid hw'; have HF2 := hid ((HF1.out).trans hf); have HB2 := hid ((HB1.out).fr hf (by decide) HNB.out); have HX2 := hid ((HX1.out).fr hf (by decide) HNX.out); clear y0 x0 x1 x2 x3; have y0 := HB2.out.at (k := 0) (v := .pointer (some ⟨g,0,none⟩)) rfl; have x0 := HX2.out.at (k := 0) (v := .int .i64 m) rfl; have x1 := HX2.out.at (k := 1) (v := .int .i64 t) rfl; have x2 := HX2.out.at (k := 2) (v := .slice po nf co) rfl; have x3 := HX2.out.at (k := 3) (v := .slice pb nb cb) rfl; clear hw' hf)
  | (go_at_call 136; (with_reducible refine (code_says B g f HCT.out HOK.out _ _ _ HW2.out (HSA.out _ HF2.out) HN2.out).mono ?_); rintro e w3 ⟨rfl,hw',hf⟩; have HW3 := hid hw'; have HF3 := hid ((HF2.out).trans hf); have HB3 := hid ((HB2.out).fr hf (by decide) HNB.out); have HX3 := hid ((HX2.out).fr hf (by decide) HNX.out); clear y0 x0 x1 x2 x3; have y0 := HB3.out.at (k := 0) (v := .pointer (some ⟨g,0,none⟩)) rfl; have x0 := HX3.out.at (k := 0) (v := .int .i64 m) rfl; have x1 := HX3.out.at (k := 1) (v := .int .i64 t) rfl; have x2 := HX3.out.at (k := 2) (v := .slice po nf co) rfl; have x3 := HX3.out.at (k := 3) (v := .slice pb nb cb) rfl; clear hw' hf)
  | (go_at_call 200; (with_reducible refine (HLS.out _ _ HF3.out HB3.out HW3.out (by have := HN3.out; omega)).mono ?_); rintro e w4 ⟨rfl,hw',hf⟩; have HW4 := hid hw'; have HF4 := hid ((HF3.out).trans hf); have HB4 := hid ((HB3.out).fr hf (by decide) HNB.out); have HX4 := hid ((HX3.out).fr hf (by decide) HNX.out); clear y0 x0 x1 x2 x3; have y0 := HB4.out.at (k := 0) (v := .pointer (some ⟨g,0,none⟩)) rfl; have x0 := HX4.out.at (k := 0) (v := .int .i64 m) rfl; have x1 := HX4.out.at (k := 1) (v := .int .i64 t) rfl; have x2 := HX4.out.at (k := 2) (v := .slice po nf co) rfl; have x3 := HX4.out.at (k := 3) (v := .slice pb nb cb) rfl; clear hw' hf))
 (first | go_end0 | refine bodyPost_ret (results_none rfl _ _ _) rfl ?_)
 refine ⟨rfl,?_,HF4.out⟩
 have := HW4.out
 simpa using this
set_option maxHeartbeats 2000000 in
theorem mc_Elm (B g b : Nat) (bs : List UInt8) (r m t : Int) (f : Fo) (po pg : Option Addr) (co cg ng : Nat) (X : List UInt8) (w : World) (hC : ∀ W,FR B g w W → WR B g bs W → Calls Tryz.prog 122 #[.pointer (some ⟨g,0,none⟩),.agg #[.int .i64 r,.int .i64 m,.int .i64 t,.slice po f.len co,.slice pg ng cg]] W fun e w' => e = .returned (.tuple #[]) ∧ WR B g (bs ++ X) w' ∧ FR B g W w') (hbg : b ≠ g) (hb : CA b #[.pointer (some ⟨g,0,none⟩)] 135 w) (hw : WR B g bs w) (hn : bs.length ≤ 3000000000000) :
  Calls Tryz.prog 121 #[.agg #[.int .i64 r,.int .i64 m,.int .i64 t,.slice po f.len co,.slice pg ng cg],.pointer (some ⟨b,0,none⟩)] w fun e w' => e = .returned (.tuple #[]) ∧ WR B g (bs ++ X) w' ∧ FR B g w w' := by
 have HX0 := hid (CA.new w #[.int .i64 r,.int .i64 m,.int .i64 t,.slice po f.len co,.slice pg ng cg] 62)
 have HB0 := hid (hb.alloc (.cells #[.int .i64 r,.int .i64 m,.int .i64 t,.slice po f.len co,.slice pg ng cg] 62))
 have HF0 := hid ((FR.refl B g w).alloc (.cells #[.int .i64 r,.int .i64 m,.int .i64 t,.slice po f.len co,.slice pg ng cg] 62))
 have hba := (Below.refl w.heap.size w).alloc (Nat.le_refl _) (.cells #[.int .i64 r,.int .i64 m,.int .i64 t,.slice po f.len co,.slice pg ng cg] 62)
 have HC := hid (hC (w.alloc (.cells #[.int .i64 r,.int .i64 m,.int .i64 t,.slice po f.len co,.slice pg ng cg] 62)) ((FR.refl B g w).alloc _) (hw.alloc (.cells #[.int .i64 r,.int .i64 m,.int .i64 t,.slice po f.len co,.slice pg ng cg] 62)))
 clear hb hw hn hba hC
 go_enter Tryz.func121,Tryz.ntmps121
 go_upto_region 1 with fail
 generalize w.alloc (.cells #[.int .i64 r,.int .i64 m,.int .i64 t,.slice po f.len co,.slice pg ng cg] 62) = w0 at *
 generalize w.heap.size = gx at *
 have y0 := HB0.out.at (k := 0) (v := .pointer (some ⟨g,0,none⟩)) rfl
 have x0 := HX0.out.at (k := 0) (v := .int .i64 r) rfl
 have x1 := HX0.out.at (k := 1) (v := .int .i64 m) rfl
 have x2 := HX0.out.at (k := 2) (v := .int .i64 t) rfl
 have x3 := HX0.out.at (k := 3) (v := .slice po f.len co) rfl
 have x4 := HX0.out.at (k := 4) (v := .slice pg ng cg) rfl
 go_wp2_with (go_at_call 122; (with_reducible refine HC.out.mono ?_); rintro e w1 ⟨rfl,hw',hf⟩; have HW1 := hid hw'; have HF1 := hid (HF0.out.trans hf); clear hw' hf)
 (first | go_end0 | refine bodyPost_ret (results_none rfl _ _ _) rfl ?_)
 exact ⟨rfl,HW1.out,HF1.out⟩
set_option maxHeartbeats 2000000 in
theorem mc_Dat (B g b : Nat) (bs : List UInt8) (m t : Int) (f : Fo) (po pb : Option Addr) (co cb nb : Nat) (X : List UInt8) (w : World) (hC : ∀ W,FR B g w W → WR B g bs W → Calls Tryz.prog 128 #[.pointer (some ⟨g,0,none⟩),.agg #[.int .i64 m,.int .i64 t,.slice po f.len co,.slice pb nb cb]] W fun e w' => e = .returned (.tuple #[]) ∧ WR B g (bs ++ X) w' ∧ FR B g W w') (hbg : b ≠ g) (hb : CA b #[.pointer (some ⟨g,0,none⟩)] 135 w) (hw : WR B g bs w) (hn : bs.length ≤ 3000000000000) :
  Calls Tryz.prog 127 #[.agg #[.int .i64 m,.int .i64 t,.slice po f.len co,.slice pb nb cb],.pointer (some ⟨b,0,none⟩)] w fun e w' => e = .returned (.tuple #[]) ∧ WR B g (bs ++ X) w' ∧ FR B g w w' := by
 have HX0 := hid (CA.new w #[.int .i64 m,.int .i64 t,.slice po f.len co,.slice pb nb cb] 64)
 have HB0 := hid (hb.alloc (.cells #[.int .i64 m,.int .i64 t,.slice po f.len co,.slice pb nb cb] 64))
 have HF0 := hid ((FR.refl B g w).alloc (.cells #[.int .i64 m,.int .i64 t,.slice po f.len co,.slice pb nb cb] 64))
 have hba := (Below.refl w.heap.size w).alloc (Nat.le_refl _) (.cells #[.int .i64 m,.int .i64 t,.slice po f.len co,.slice pb nb cb] 64)
 have HC := hid (hC (w.alloc (.cells #[.int .i64 m,.int .i64 t,.slice po f.len co,.slice pb nb cb] 64)) ((FR.refl B g w).alloc _) (hw.alloc (.cells #[.int .i64 m,.int .i64 t,.slice po f.len co,.slice pb nb cb] 64)))
 clear hb hw hn hba hC
 go_enter Tryz.func127,Tryz.ntmps127
 go_upto_region 1 with fail
 generalize w.alloc (.cells #[.int .i64 m,.int .i64 t,.slice po f.len co,.slice pb nb cb] 64) = w0 at *
 generalize w.heap.size = gx at *
 have y0 := HB0.out.at (k := 0) (v := .pointer (some ⟨g,0,none⟩)) rfl
 have x0 := HX0.out.at (k := 0) (v := .int .i64 m) rfl
 have x1 := HX0.out.at (k := 1) (v := .int .i64 t) rfl
 have x2 := HX0.out.at (k := 2) (v := .slice po f.len co) rfl
 have x3 := HX0.out.at (k := 3) (v := .slice pb nb cb) rfl
 go_wp2_with (go_at_call 128; (with_reducible refine HC.out.mono ?_); rintro e w1 ⟨rfl,hw',hf⟩; have HW1 := hid hw'; have HF1 := hid (HF0.out.trans hf); clear hw' hf)
 (first | go_end0 | refine bodyPost_ret (results_none rfl _ _ _) rfl ?_)
 exact ⟨rfl,HW1.out,HF1.out⟩
end Go.Proofs.YtjgeedgphcjhoaaGreat
namespace Go.Proofs.YtjgeedgphcjhoaaGreat
open Go.RowKit
set_option maxHeartbeats 4000000 in
theorem wl_Typ (B g k : Nat) (eg : ∀ args w,(callFunc k args).run Tryz.prog w = .ok (.enter k args) w) (b : Nat) (P : Nat → List UInt8) (n blk off c : Nat) (ad : Option Addr) (p0 : Nat → Option Addr) (n0 : Nat → Nat) (c0 : Nat → Nat) (p1 : Nat → Option Addr) (n1 : Nat → Nat) (c1 : Nat → Nat) (w : World) (hn62 : n < 9223372036854775807)
  (had : n ≠ 0 → ad = some ⟨blk,off,none⟩ ∧ NW B g w blk) (hx : ∀ i,i < n → w.cell? ⟨blk,off + i * 2,none⟩ = some (.slice (p0 i) (n0 i) (c0 i)) ∧ w.cell? ⟨blk,off + i * 2 + 1,none⟩ = some (.slice (p1 i) (n1 i) (c1 i)))
  (hP : ∀ i,i < n → ∀ bs W,FR B g w W → WR B g bs W → bs.length ≤ 3000000000000 → Calls Tryz.prog k #[.agg #[.slice (p0 i) (n0 i) (c0 i),.slice (p1 i) (n1 i) (c1 i)],.pointer (some ⟨b,0,none⟩)] W fun e w' => e = .returned (.tuple #[]) ∧ WR B g (bs ++ P i) w' ∧ FR B g W w')
  (bs : List UInt8) (hw : WR B g bs w) (hlen : bs.length + 10 + (flB n P).length ≤ 3000000000000) :
  Calls Tryz.prog 168 #[.pointer (some ⟨g,0,none⟩),.slice ad n c,.func (.func k) #[] #[.pointer (some ⟨b,0,none⟩)]] w fun e w' => e = .returned (.tuple #[]) ∧ WR B g (bs ++ (uI n ++ flB n P)) w' ∧ FR B g w w' := by
 have HAD := hid had
 have HX := hid hx
 have HP := hid hP
 have HW := hid hw
 have HLN := hid hlen
 have HUL := hid (uI_len n)
 have nn62 : (n : Int) < 9223372036854775807 := by omega
 have HN1 := hid (show bs.length + 10 ≤ 140737488355000 by omega)
 clear had hx hP hw hlen hn62
 go_enter Tryz.func168,Tryz.ntmps168
 go_upto_region 1 with (go_at_call 105; (with_reducible refine (u_says B g bs n _ HW.out.base HW.out HN1.out).mono ?_); rintro e w1 ⟨rfl,hw1,hf1⟩; have HW1 := hid hw1; have HF1 := hid hf1; clear hw1 hf1)
 go_wp2
 go_loopw [14] (fun vi wr => ∃ i : Nat,i ≤ n ∧ vi = .int .i64 i ∧ Hid (WR B g (bs ++ (uI n ++ flB i P)) wr) ∧ Hid (FR B g w wr)) (fun vi _ => n - (intOf vi).toNat)
 case atStart => exact ⟨0,Nat.zero_le _,rfl,by simpa [flB] using HW1,HF1⟩
 obtain ⟨i,hi,rfl,HR,HF⟩ := hrel
 by_cases hlt : i < n
 ·obtain ⟨z0,z1⟩ := HX.out i hlt
  obtain ⟨hpe,hnw⟩ := HAD.out (by omega)
  subst hpe
  have x0 := (World.cell?_of_block (a := ⟨blk,off + i * 2,none⟩) (HF.out.block blk hnw)).trans z0
  have x1 := (World.cell?_of_block (a := ⟨blk,off + i * 2 + 1,none⟩) (HF.out.block blk hnw)).trans z1
  have HLE := hid (show (bs ++ (uI n ++ flB i P)).length ≤ 3000000000000 by
   have h1 := HLN.out
   have h2 := flB_le P (Nat.le_of_lt hlt)
   have h3 := HUL.out
   simp only [List.length_append]
   omega)
  have HNX := hid (show bs ++ (uI n ++ flB (i + 1) P) = (bs ++ (uI n ++ flB i P)) ++ P i by rw [flB]; simp only [List.append_assoc])
  have HKX := fun (o : Obj) => hid (HP.out i hlt _ (wr.alloc o) (HF.out.alloc o) (HR.out.alloc o) HLE.out)
  generalize P i = Pi at *
  generalize p0 i = q0 at *
  generalize n0 i = m0 at *
  generalize c0 i = d0 at *
  generalize p1 i = q1 at *
  generalize n1 i = m1 at *
  generalize c1 i = d1 at *
  clear z0 z1 hnw hi
  go_wp2_with (go_at_fn k; (with_reducible refine (HKX _).out.mono ?_); rintro e w2 ⟨rfl,hw2,hf2⟩; have HW2 := hid hw2; have HF2 := hid ((HF.out.alloc _).trans hf2); clear hw2 hf2)
  go_roundw
  case rel =>
   refine ⟨i + 1,hlt,by go_num,?_,HF2⟩
   rw [HNX.out]
   exact HW2
  case measure => simp [intOf]; omega
 obtain rfl : i = n := by omega
 go_wp2
 (first | go_end0 | refine bodyPost_ret (results_none rfl _ _ _) rfl ?_)
 exact ⟨rfl,HR.out,HF.out⟩
set_option maxHeartbeats 4000000 in
theorem wl_Fun (B g k : Nat) (eg : ∀ args w,(callFunc k args).run Tryz.prog w = .ok (.enter k args) w) (b : Nat) (P : Nat → List UInt8) (n blk off c : Nat) (ad : Option Addr) (t0 : Nat → Int) (p1 : Nat → Option Addr) (n1 : Nat → Nat) (c1 : Nat → Nat) (p2 : Nat → Option Addr) (n2 : Nat → Nat) (c2 : Nat → Nat) (w : World) (hn62 : n < 9223372036854775807)
  (had : n ≠ 0 → ad = some ⟨blk,off,none⟩ ∧ NW B g w blk) (hx : ∀ i,i < n → w.cell? ⟨blk,off + i * 3,none⟩ = some (.int .i64 (t0 i)) ∧ w.cell? ⟨blk,off + i * 3 + 1,none⟩ = some (.slice (p1 i) (n1 i) (c1 i)) ∧ w.cell? ⟨blk,off + i * 3 + 2,none⟩ = some (.slice (p2 i) (n2 i) (c2 i)))
  (hP : ∀ i,i < n → ∀ bs W,FR B g w W → WR B g bs W → bs.length ≤ 3000000000000 → Calls Tryz.prog k #[.agg #[.int .i64 (t0 i),.slice (p1 i) (n1 i) (c1 i),.slice (p2 i) (n2 i) (c2 i)],.pointer (some ⟨b,0,none⟩)] W fun e w' => e = .returned (.tuple #[]) ∧ WR B g (bs ++ P i) w' ∧ FR B g W w')
  (bs : List UInt8) (hw : WR B g bs w) (hlen : bs.length + 10 + (flB n P).length ≤ 3000000000000) :
  Calls Tryz.prog 176 #[.pointer (some ⟨g,0,none⟩),.slice ad n c,.func (.func k) #[] #[.pointer (some ⟨b,0,none⟩)]] w fun e w' => e = .returned (.tuple #[]) ∧ WR B g (bs ++ (uI n ++ flB n P)) w' ∧ FR B g w w' := by
 have HAD := hid had
 have HX := hid hx
 have HP := hid hP
 have HW := hid hw
 have HLN := hid hlen
 have HUL := hid (uI_len n)
 have nn62 : (n : Int) < 9223372036854775807 := by omega
 have HN1 := hid (show bs.length + 10 ≤ 140737488355000 by omega)
 clear had hx hP hw hlen hn62
 go_enter Tryz.func176,Tryz.ntmps176
 go_upto_region 1 with (go_at_call 105; (with_reducible refine (u_says B g bs n _ HW.out.base HW.out HN1.out).mono ?_); rintro e w1 ⟨rfl,hw1,hf1⟩; have HW1 := hid hw1; have HF1 := hid hf1; clear hw1 hf1)
 go_wp2
 go_loopw [14] (fun vi wr => ∃ i : Nat,i ≤ n ∧ vi = .int .i64 i ∧ Hid (WR B g (bs ++ (uI n ++ flB i P)) wr) ∧ Hid (FR B g w wr)) (fun vi _ => n - (intOf vi).toNat)
 case atStart => exact ⟨0,Nat.zero_le _,rfl,by simpa [flB] using HW1,HF1⟩
 obtain ⟨i,hi,rfl,HR,HF⟩ := hrel
 by_cases hlt : i < n
 ·obtain ⟨z0,z1,z2⟩ := HX.out i hlt
  obtain ⟨hpe,hnw⟩ := HAD.out (by omega)
  subst hpe
  have x0 := (World.cell?_of_block (a := ⟨blk,off + i * 3,none⟩) (HF.out.block blk hnw)).trans z0
  have x1 := (World.cell?_of_block (a := ⟨blk,off + i * 3 + 1,none⟩) (HF.out.block blk hnw)).trans z1
  have x2 := (World.cell?_of_block (a := ⟨blk,off + i * 3 + 2,none⟩) (HF.out.block blk hnw)).trans z2
  have HLE := hid (show (bs ++ (uI n ++ flB i P)).length ≤ 3000000000000 by
   have h1 := HLN.out
   have h2 := flB_le P (Nat.le_of_lt hlt)
   have h3 := HUL.out
   simp only [List.length_append]
   omega)
  have HNX := hid (show bs ++ (uI n ++ flB (i + 1) P) = (bs ++ (uI n ++ flB i P)) ++ P i by rw [flB]; simp only [List.append_assoc])
  have HKX := fun (o : Obj) => hid (HP.out i hlt _ (wr.alloc o) (HF.out.alloc o) (HR.out.alloc o) HLE.out)
  generalize P i = Pi at *
  generalize t0 i = s0 at *
  generalize p1 i = q1 at *
  generalize n1 i = m1 at *
  generalize c1 i = d1 at *
  generalize p2 i = q2 at *
  generalize n2 i = m2 at *
  generalize c2 i = d2 at *
  clear z0 z1 z2 hnw hi
  go_wp2_with (go_at_fn k; (with_reducible refine (HKX _).out.mono ?_); rintro e w2 ⟨rfl,hw2,hf2⟩; have HW2 := hid hw2; have HF2 := hid ((HF.out.alloc _).trans hf2); clear hw2 hf2)
  go_roundw
  case rel =>
   refine ⟨i + 1,hlt,by go_num,?_,HF2⟩
   rw [HNX.out]
   exact HW2
  case measure => simp [intOf]; omega
 obtain rfl : i = n := by omega
 go_wp2
 (first | go_end0 | refine bodyPost_ret (results_none rfl _ _ _) rfl ?_)
 exact ⟨rfl,HR.out,HF.out⟩
set_option maxHeartbeats 4000000 in
theorem wl_Tab (B g k : Nat) (eg : ∀ args w,(callFunc k args).run Tryz.prog w = .ok (.enter k args) w) (b : Nat) (P : Nat → List UInt8) (n blk off c : Nat) (ad : Option Addr) (t0 : Nat → Int) (t1 : Nat → Int) (t2 : Nat → Int) (bq3 : Nat → Bool) (w : World) (hn62 : n < 9223372036854775807)
  (had : n ≠ 0 → ad = some ⟨blk,off,none⟩ ∧ NW B g w blk) (hx : ∀ i,i < n → w.cell? ⟨blk,off + i * 4,none⟩ = some (.int .i64 (t0 i)) ∧ w.cell? ⟨blk,off + i * 4 + 1,none⟩ = some (.int .i64 (t1 i)) ∧ w.cell? ⟨blk,off + i * 4 + 2,none⟩ = some (.int .i64 (t2 i)) ∧ w.cell? ⟨blk,off + i * 4 + 3,none⟩ = some (.bool (bq3 i)))
  (hP : ∀ i,i < n → ∀ bs W,FR B g w W → WR B g bs W → bs.length ≤ 3000000000000 → Calls Tryz.prog k #[.agg #[.int .i64 (t0 i),.int .i64 (t1 i),.int .i64 (t2 i),.bool (bq3 i)],.pointer (some ⟨b,0,none⟩)] W fun e w' => e = .returned (.tuple #[]) ∧ WR B g (bs ++ P i) w' ∧ FR B g W w')
  (bs : List UInt8) (hw : WR B g bs w) (hlen : bs.length + 10 + (flB n P).length ≤ 3000000000000) :
  Calls Tryz.prog 179 #[.pointer (some ⟨g,0,none⟩),.slice ad n c,.func (.func k) #[] #[.pointer (some ⟨b,0,none⟩)]] w fun e w' => e = .returned (.tuple #[]) ∧ WR B g (bs ++ (uI n ++ flB n P)) w' ∧ FR B g w w' := by
 have HAD := hid had
 have HX := hid hx
 have HP := hid hP
 have HW := hid hw
 have HLN := hid hlen
 have HUL := hid (uI_len n)
 have nn62 : (n : Int) < 9223372036854775807 := by omega
 have HN1 := hid (show bs.length + 10 ≤ 140737488355000 by omega)
 clear had hx hP hw hlen hn62
 go_enter Tryz.func179,Tryz.ntmps179
 go_upto_region 1 with (go_at_call 105; (with_reducible refine (u_says B g bs n _ HW.out.base HW.out HN1.out).mono ?_); rintro e w1 ⟨rfl,hw1,hf1⟩; have HW1 := hid hw1; have HF1 := hid hf1; clear hw1 hf1)
 go_wp2
 go_loopw [14] (fun vi wr => ∃ i : Nat,i ≤ n ∧ vi = .int .i64 i ∧ Hid (WR B g (bs ++ (uI n ++ flB i P)) wr) ∧ Hid (FR B g w wr)) (fun vi _ => n - (intOf vi).toNat)
 case atStart => exact ⟨0,Nat.zero_le _,rfl,by simpa [flB] using HW1,HF1⟩
 obtain ⟨i,hi,rfl,HR,HF⟩ := hrel
 by_cases hlt : i < n
 ·obtain ⟨z0,z1,z2,z3⟩ := HX.out i hlt
  obtain ⟨hpe,hnw⟩ := HAD.out (by omega)
  subst hpe
  have x0 := (World.cell?_of_block (a := ⟨blk,off + i * 4,none⟩) (HF.out.block blk hnw)).trans z0
  have x1 := (World.cell?_of_block (a := ⟨blk,off + i * 4 + 1,none⟩) (HF.out.block blk hnw)).trans z1
  have x2 := (World.cell?_of_block (a := ⟨blk,off + i * 4 + 2,none⟩) (HF.out.block blk hnw)).trans z2
  have x3 := (World.cell?_of_block (a := ⟨blk,off + i * 4 + 3,none⟩) (HF.out.block blk hnw)).trans z3
  have HLE := hid (show (bs ++ (uI n ++ flB i P)).length ≤ 3000000000000 by
   have h1 := HLN.out
   have h2 := flB_le P (Nat.le_of_lt hlt)
   have h3 := HUL.out
   simp only [List.length_append]
   omega)
  have HNX := hid (show bs ++ (uI n ++ flB (i + 1) P) = (bs ++ (uI n ++ flB i P)) ++ P i by rw [flB]; simp only [List.append_assoc])
  have HKX := fun (o : Obj) => hid (HP.out i hlt _ (wr.alloc o) (HF.out.alloc o) (HR.out.alloc o) HLE.out)
  generalize P i = Pi at *
  generalize t0 i = s0 at *
  generalize t1 i = s1 at *
  generalize t2 i = s2 at *
  generalize bq3 i = be3 at *
  clear z0 z1 z2 z3 hnw hi
  go_wp2_with (go_at_fn k; (with_reducible refine (HKX _).out.mono ?_); rintro e w2 ⟨rfl,hw2,hf2⟩; have HW2 := hid hw2; have HF2 := hid ((HF.out.alloc _).trans hf2); clear hw2 hf2)
  go_roundw
  case rel =>
   refine ⟨i + 1,hlt,by go_num,?_,HF2⟩
   rw [HNX.out]
   exact HW2
  case measure => simp [intOf]; omega
 obtain rfl : i = n := by omega
 go_wp2
 (first | go_end0 | refine bodyPost_ret (results_none rfl _ _ _) rfl ?_)
 exact ⟨rfl,HR.out,HF.out⟩
set_option maxHeartbeats 4000000 in
theorem wl_Lim (B g k : Nat) (eg : ∀ args w,(callFunc k args).run Tryz.prog w = .ok (.enter k args) w) (b : Nat) (P : Nat → List UInt8) (n blk off c : Nat) (ad : Option Addr) (t0 : Nat → Int) (t1 : Nat → Int) (bq2 : Nat → Bool) (w : World) (hn62 : n < 9223372036854775807)
  (had : n ≠ 0 → ad = some ⟨blk,off,none⟩ ∧ NW B g w blk) (hx : ∀ i,i < n → w.cell? ⟨blk,off + i * 3,none⟩ = some (.int .i64 (t0 i)) ∧ w.cell? ⟨blk,off + i * 3 + 1,none⟩ = some (.int .i64 (t1 i)) ∧ w.cell? ⟨blk,off + i * 3 + 2,none⟩ = some (.bool (bq2 i)))
  (hP : ∀ i,i < n → ∀ bs W,FR B g w W → WR B g bs W → bs.length ≤ 3000000000000 → Calls Tryz.prog k #[.agg #[.int .i64 (t0 i),.int .i64 (t1 i),.bool (bq2 i)],.pointer (some ⟨b,0,none⟩)] W fun e w' => e = .returned (.tuple #[]) ∧ WR B g (bs ++ P i) w' ∧ FR B g W w')
  (bs : List UInt8) (hw : WR B g bs w) (hlen : bs.length + 10 + (flB n P).length ≤ 3000000000000) :
  Calls Tryz.prog 181 #[.pointer (some ⟨g,0,none⟩),.slice ad n c,.func (.func k) #[] #[.pointer (some ⟨b,0,none⟩)]] w fun e w' => e = .returned (.tuple #[]) ∧ WR B g (bs ++ (uI n ++ flB n P)) w' ∧ FR B g w w' := by
 have HAD := hid had
 have HX := hid hx
 have HP := hid hP
 have HW := hid hw
 have HLN := hid hlen
 have HUL := hid (uI_len n)
 have nn62 : (n : Int) < 9223372036854775807 := by omega
 have HN1 := hid (show bs.length + 10 ≤ 140737488355000 by omega)
 clear had hx hP hw hlen hn62
 go_enter Tryz.func181,Tryz.ntmps181
 go_upto_region 1 with (go_at_call 105; (with_reducible refine (u_says B g bs n _ HW.out.base HW.out HN1.out).mono ?_); rintro e w1 ⟨rfl,hw1,hf1⟩; have HW1 := hid hw1; have HF1 := hid hf1; clear hw1 hf1)
 go_wp2
 go_loopw [14] (fun vi wr => ∃ i : Nat,i ≤ n ∧ vi = .int .i64 i ∧ Hid (WR B g (bs ++ (uI n ++ flB i P)) wr) ∧ Hid (FR B g w wr)) (fun vi _ => n - (intOf vi).toNat)
 case atStart => exact ⟨0,Nat.zero_le _,rfl,by simpa [flB] using HW1,HF1⟩
 obtain ⟨i,hi,rfl,HR,HF⟩ := hrel
 by_cases hlt : i < n
 ·obtain ⟨z0,z1,z2⟩ := HX.out i hlt
  obtain ⟨hpe,hnw⟩ := HAD.out (by omega)
  subst hpe
  have x0 := (World.cell?_of_block (a := ⟨blk,off + i * 3,none⟩) (HF.out.block blk hnw)).trans z0
  have x1 := (World.cell?_of_block (a := ⟨blk,off + i * 3 + 1,none⟩) (HF.out.block blk hnw)).trans z1
  have x2 := (World.cell?_of_block (a := ⟨blk,off + i * 3 + 2,none⟩) (HF.out.block blk hnw)).trans z2
  have HLE := hid (show (bs ++ (uI n ++ flB i P)).length ≤ 3000000000000 by
   have h1 := HLN.out
   have h2 := flB_le P (Nat.le_of_lt hlt)
   have h3 := HUL.out
   simp only [List.length_append]
   omega)
  have HNX := hid (show bs ++ (uI n ++ flB (i + 1) P) = (bs ++ (uI n ++ flB i P)) ++ P i by rw [flB]; simp only [List.append_assoc])
  have HKX := fun (o : Obj) => hid (HP.out i hlt _ (wr.alloc o) (HF.out.alloc o) (HR.out.alloc o) HLE.out)
  generalize P i = Pi at *
  generalize t0 i = s0 at *
  generalize t1 i = s1 at *
  generalize bq2 i = be2 at *
  clear z0 z1 z2 hnw hi
  go_wp2_with (go_at_fn k; (with_reducible refine (HKX _).out.mono ?_); rintro e w2 ⟨rfl,hw2,hf2⟩; have HW2 := hid hw2; have HF2 := hid ((HF.out.alloc _).trans hf2); clear hw2 hf2)
  go_roundw
  case rel =>
   refine ⟨i + 1,hlt,by go_num,?_,HF2⟩
   rw [HNX.out]
   exact HW2
  case measure => simp [intOf]; omega
 obtain rfl : i = n := by omega
 go_wp2
 (first | go_end0 | refine bodyPost_ret (results_none rfl _ _ _) rfl ?_)
 exact ⟨rfl,HR.out,HF.out⟩
set_option maxHeartbeats 4000000 in
theorem wl_Glo (B g k : Nat) (eg : ∀ args w,(callFunc k args).run Tryz.prog w = .ok (.enter k args) w) (b : Nat) (P : Nat → List UInt8) (n blk off c : Nat) (ad : Option Addr) (t0 : Nat → Int) (bq1 : Nat → Bool) (p2 : Nat → Option Addr) (n2 : Nat → Nat) (c2 : Nat → Nat) (w : World) (hn62 : n < 9223372036854775807)
  (had : n ≠ 0 → ad = some ⟨blk,off,none⟩ ∧ NW B g w blk) (hx : ∀ i,i < n → w.cell? ⟨blk,off + i * 3,none⟩ = some (.int .i64 (t0 i)) ∧ w.cell? ⟨blk,off + i * 3 + 1,none⟩ = some (.bool (bq1 i)) ∧ w.cell? ⟨blk,off + i * 3 + 2,none⟩ = some (.slice (p2 i) (n2 i) (c2 i)))
  (hP : ∀ i,i < n → ∀ bs W,FR B g w W → WR B g bs W → bs.length ≤ 3000000000000 → Calls Tryz.prog k #[.agg #[.int .i64 (t0 i),.bool (bq1 i),.slice (p2 i) (n2 i) (c2 i)],.pointer (some ⟨b,0,none⟩)] W fun e w' => e = .returned (.tuple #[]) ∧ WR B g (bs ++ P i) w' ∧ FR B g W w')
  (bs : List UInt8) (hw : WR B g bs w) (hlen : bs.length + 10 + (flB n P).length ≤ 3000000000000) :
  Calls Tryz.prog 184 #[.pointer (some ⟨g,0,none⟩),.slice ad n c,.func (.func k) #[] #[.pointer (some ⟨b,0,none⟩)]] w fun e w' => e = .returned (.tuple #[]) ∧ WR B g (bs ++ (uI n ++ flB n P)) w' ∧ FR B g w w' := by
 have HAD := hid had
 have HX := hid hx
 have HP := hid hP
 have HW := hid hw
 have HLN := hid hlen
 have HUL := hid (uI_len n)
 have nn62 : (n : Int) < 9223372036854775807 := by omega
 have HN1 := hid (show bs.length + 10 ≤ 140737488355000 by omega)
 clear had hx hP hw hlen hn62
 go_enter Tryz.func184,Tryz.ntmps184
 go_upto_region 1 with (go_at_call 105; (with_reducible refine (u_says B g bs n _ HW.out.base HW.out HN1.out).mono ?_); rintro e w1 ⟨rfl,hw1,hf1⟩; have HW1 := hid hw1; have HF1 := hid hf1; clear hw1 hf1)
 go_wp2
 go_loopw [14] (fun vi wr => ∃ i : Nat,i ≤ n ∧ vi = .int .i64 i ∧ Hid (WR B g (bs ++ (uI n ++ flB i P)) wr) ∧ Hid (FR B g w wr)) (fun vi _ => n - (intOf vi).toNat)
 case atStart => exact ⟨0,Nat.zero_le _,rfl,by simpa [flB] using HW1,HF1⟩
 obtain ⟨i,hi,rfl,HR,HF⟩ := hrel
 by_cases hlt : i < n
 ·obtain ⟨z0,z1,z2⟩ := HX.out i hlt
  obtain ⟨hpe,hnw⟩ := HAD.out (by omega)
  subst hpe
  have x0 := (World.cell?_of_block (a := ⟨blk,off + i * 3,none⟩) (HF.out.block blk hnw)).trans z0
  have x1 := (World.cell?_of_block (a := ⟨blk,off + i * 3 + 1,none⟩) (HF.out.block blk hnw)).trans z1
  have x2 := (World.cell?_of_block (a := ⟨blk,off + i * 3 + 2,none⟩) (HF.out.block blk hnw)).trans z2
  have HLE := hid (show (bs ++ (uI n ++ flB i P)).length ≤ 3000000000000 by
   have h1 := HLN.out
   have h2 := flB_le P (Nat.le_of_lt hlt)
   have h3 := HUL.out
   simp only [List.length_append]
   omega)
  have HNX := hid (show bs ++ (uI n ++ flB (i + 1) P) = (bs ++ (uI n ++ flB i P)) ++ P i by rw [flB]; simp only [List.append_assoc])
  have HKX := fun (o : Obj) => hid (HP.out i hlt _ (wr.alloc o) (HF.out.alloc o) (HR.out.alloc o) HLE.out)
  generalize P i = Pi at *
  generalize t0 i = s0 at *
  generalize bq1 i = be1 at *
  generalize p2 i = q2 at *
  generalize n2 i = m2 at *
  generalize c2 i = d2 at *
  clear z0 z1 z2 hnw hi
  go_wp2_with (go_at_fn k; (with_reducible refine (HKX _).out.mono ?_); rintro e w2 ⟨rfl,hw2,hf2⟩; have HW2 := hid hw2; have HF2 := hid ((HF.out.alloc _).trans hf2); clear hw2 hf2)
  go_roundw
  case rel =>
   refine ⟨i + 1,hlt,by go_num,?_,HF2⟩
   rw [HNX.out]
   exact HW2
  case measure => simp [intOf]; omega
 obtain rfl : i = n := by omega
 go_wp2
 (first | go_end0 | refine bodyPost_ret (results_none rfl _ _ _) rfl ?_)
 exact ⟨rfl,HR.out,HF.out⟩
end Go.Proofs.YtjgeedgphcjhoaaGreat
