/-
  WEl3: merged, what the law does not reach left out (each text says what it holds where it lies in wip). No condition.
-/
import Derived.Test.YtjgeedgphcjhoaaGreatU24
import Derived.Test.YtjgeedgphcjhoaaGreatU01
set_option linter.unusedSimpArgs false
set_option linter.unusedVariables false
set_option maxRecDepth 100000
namespace Go.Proofs.YtjgeedgphcjhoaaGreat
open Go.RowKit
theorem codL_len (f : Fo) (hok : okE f) (hsz : f.siz ≤ 61200000) : (codL f).length ≤ 61200001 := by
 have := enc_siz f hok
 unfold codL
 simp only [List.length_append,List.length_cons,List.length_nil]
 omega
structure Goods (ng : Nat) (gf : Nat → Fo) : Prop where
 n : ng ≤ 100
 ct : ∀ k,k < ng → (gf k).cnt < 9223372036854775806
 ok : ∀ k,k < ng → okE (gf k)
 sz : ∀ k,k < ng → (gf k).siz ≤ 61200000
theorem ini_len (b : Bool) (f : Fo) (hok : okE f) (hsz : f.siz ≤ 61200000) : (iniL b f).length ≤ 61200001 := by
 unfold iniL
 split
 ·have := uI_len (fstA f)
  omega
 exact codL_len f hok hsz
theorem inis_len {ng : Nat} {gf : Nat → Fo} (h : Goods ng gf) (b : Bool) : (flB ng (fun k => iniL b (gf k))).length ≤ 6120000100 := by
 have h1 := flB_bound (fun k => iniL b (gf k)) 61200001 ng (fun i hi => ini_len b (gf i) (h.ok i hi) (h.sz i hi))
 have h2 : ng * 61200001 ≤ 100 * 61200001 := Nat.mul_le_mul_right _ h.n
 omega
theorem list_false (B g b L : Nat) (hL : L ≤ lo B g) (ng : Nat) (gf : Nat → Fo) (hg : Goods ng gf) (pg : Option Addr) (cg bg og : Nat) (q : Nat → Option Addr) (d : Nat → Nat) (w : World) (hk : KO L w pg ng bg og gf q d) (hbg : b ≠ g) (hb : CA b #[.pointer (some ⟨g,0,none⟩)] 135 w) (bs : List UInt8) (hw : WR B g bs w) (hn : bs.length ≤ 3100000000000) :
  Calls Tryz.prog 191 #[.pointer (some ⟨g,0,none⟩),.slice pg ng cg,.func (.func 192) #[] #[.pointer (some ⟨b,0,none⟩)]] w fun e w' => e = .returned (.tuple #[]) ∧ WR B g (bs ++ (uI ng ++ flB ng (fun k => iniL false (gf k)))) w' ∧ FR B g w w' := by
 have h3 := inis_len hg false
 refine wl_codes B g 192 (fun _ _ => rfl) b (fun k => iniL false (gf k)) ng bg og cg pg q (fun k => (gf k).len) d w hk.1.1 (fun h => ⟨(hk.1.2.1 h).1,?_⟩) (fun i hi => by have := hk.1.2.2 i hi 0 _ rfl; simpa using this) (fun i hi bs' W hF hW hbl => ?_) bs hw (by omega)
 ·have h1 := (hk.1.2.1 h).2
  have h2 := lo_g B g
  have h3 := lo_B B g
  have h4 := hw.1
  exact ⟨by omega,by omega,.inl (by omega)⟩
 exact mc_code B g b bs' (gf i) (q i) (d i) W (hg.ct i hi) (hg.ok i hi) (hg.sz i hi) (SA.mono (SA.below (hk.2 i hi).1 ((hF.belowL hw.1).mono hL)) hL) (hb.fr hF (by decide) hbg) hW hbl
theorem list_true (B g b L : Nat) (hL : L ≤ lo B g) (ng : Nat) (gf : Nat → Fo) (hg : Goods ng gf) (hfs : ∀ k,k < ng → isFun (gf k) = true) (pg : Option Addr) (cg bg og : Nat) (q : Nat → Option Addr) (d : Nat → Nat) (w : World) (hk : KO L w pg ng bg og gf q d) (hbg : b ≠ g) (hb : CA b #[.pointer (some ⟨g,0,none⟩)] 135 w) (bs : List UInt8) (hw : WR B g bs w) (hn : bs.length ≤ 3100000000000) :
  Calls Tryz.prog 191 #[.pointer (some ⟨g,0,none⟩),.slice pg ng cg,.func (.func 193) #[] #[.pointer (some ⟨b,0,none⟩)]] w fun e w' => e = .returned (.tuple #[]) ∧ WR B g (bs ++ (uI ng ++ flB ng (fun k => iniL true (gf k)))) w' ∧ FR B g w w' := by
 have h3 := inis_len hg true
 refine wl_codes B g 193 (fun _ _ => rfl) b (fun k => iniL true (gf k)) ng bg og cg pg q (fun k => (gf k).len) d w hk.1.1 (fun h => ⟨(hk.1.2.1 h).1,?_⟩) (fun i hi => by have := hk.1.2.2 i hi 0 _ rfl; simpa using this) (fun i hi bs' W hF hW hbl => ?_) bs hw (by omega)
 ·have h1 := (hk.1.2.1 h).2
  have h2 := lo_g B g
  have h3 := lo_B B g
  have h4 := hw.1
  exact ⟨by omega,by omega,.inl (by omega)⟩
 exact mc_fst B g b bs' (gf i) (hfs i hi) (q i) (d i) W (SA.mono (SA.below (hk.2 i hi).1 ((hF.belowL hw.1).mono hL)) hL) hbg (hb.fr hF (by decide) hbg) hW hbl
set_option maxHeartbeats 4000000 in
theorem elem_fA (B g L : Nat) (bs : List UInt8)  (f : Fo) (po pg : Option Addr) (co cg ng bg og : Nat) (gf : Nat → Fo) (q : Nat → Option Addr) (d : Nat → Nat) (w : World) (hL : L ≤ lo B g) (hct : f.cnt < 9223372036854775806) (hok : okE f) (hsz : f.siz ≤ 61200000) (hs : SA L w (.slice po f.len co) f)
  (hg : Goods ng gf) (hk : KO L w pg ng bg og gf q d) (hfs : ((List.range ng).all (fun k => isFun (gf k)) && ((112 : Int) == 112)) = false) (hw : WR B g bs w) (hn : bs.length ≤ 3000000000000) :
  Calls Tryz.prog 122 #[.pointer (some ⟨g,0,none⟩),.agg #[.int .i64 112,.int .i64 0,.int .i64 0,.slice po f.len co,.slice pg ng cg]] w fun e w' => e = .returned (.tuple #[]) ∧ WR B g (bs ++ ([4].map byI ++ (f.enc ++ [11]) ++ (uI ng ++ flB ng (fun k => iniL false (gf k))))) w' ∧ FR B g w w' := by
 have hB := hw.1
 have hLw : L ≤ w.heap.size := Nat.le_trans hL (Nat.le_trans (lo_B B g) hB)
 have hgl := hw.lt
 have hb1 := CA.new w #[.pointer (some ⟨g,0,none⟩)] 135
 have hb1' := hb1.alloc (.cells #[.int .i64 112,.int .i64 0,.int .i64 0,.slice po f.len co,.slice pg ng cg] 62)
 have hb2 := CA.new (w.alloc (.cells #[.pointer (some ⟨g,0,none⟩)] 135)) #[.int .i64 112,.int .i64 0,.int .i64 0,.slice po f.len co,.slice pg ng cg] 62
 rw [size_al] at hb2
 have hbel : Below w.heap.size w ((w.alloc (.cells #[.pointer (some ⟨g,0,none⟩)] 135)).alloc (.cells #[.int .i64 112,.int .i64 0,.int .i64 0,.slice po f.len co,.slice pg ng cg] 62)) := ((Below.refl _ _).alloc (Nat.le_refl _) _).alloc (by rw [size_al]; omega) _
 have hF00 := ((FR.refl B g w).alloc (.cells #[.pointer (some ⟨g,0,none⟩)] 135)).alloc (.cells #[.int .i64 112,.int .i64 0,.int .i64 0,.slice po f.len co,.slice pg ng cg] 62)
 have HF00 := hid hF00
 have HB0 := hid hb1'
 have HX0 := hid hb2
 have HW00 := hid ((hw.alloc (.cells #[.pointer (some ⟨g,0,none⟩)] 135)).alloc (.cells #[.int .i64 112,.int .i64 0,.int .i64 0,.slice po f.len co,.slice pg ng cg] 62))
 have HNB := hid (show w.heap.size ≠ g by omega)
 have HNX := hid (show w.heap.size + 1 ≠ g by omega)
 have HCT := hid hct
 have HOK := hid hok
 have HSAw := hid (fun (W : World) (h : FR B g w W) => SA.mono (SA.below hs ((h.belowL hB).mono hL)) hL)
 have HIS := hid (fun (W : World) (h : FR B g w W) => isFuncs_says L 112 0 0 po pg f.len co ng cg bg og gf q d W (Nat.le_trans hLw h.size) (hk.below ((h.belowL hB).mono hL)))
 rw [hfs] at HIS
 have HKO := hid (fun (W : World) (h : FR B g w W) => hk.below ((h.belowL hB).mono hL))
 have hallf : True := trivial
 have HLSw := hid (fun (bs : List UInt8) (W : World) (h : FR B g w W) (hb : CA w.heap.size #[.pointer (some ⟨g,0,none⟩)] 135 W) (hW : WR B g bs W) (hn : bs.length ≤ 3100000000000) => list_false B g w.heap.size L hL ng gf hg pg cg bg og q d W (hk.below ((h.belowL hB).mono hL)) (by omega) hb bs hW hn)
 have hef := enc_siz f hok
 have HN0 := hid (show (bs).length + ([4] : List Int).length ≤ 140737488355000 by
  have h1 := hn
  have h2 := hsz
  have h3 := hef
  (try simp only [List.length_append,List.length_cons,List.length_nil,List.length_map])
  omega)
 have HN1 := hid (show (bs ++ List.map byI [4]).length + 20 + f.siz ≤ 140737488355000 by
  have h1 := hn
  have h2 := hsz
  have h3 := hef
  (try simp only [List.length_append,List.length_cons,List.length_nil,List.length_map])
  omega)
 have HN2 := hid (show (bs ++ List.map byI [4] ++ (f.enc ++ [11])).length + 0 ≤ 3100000000000 by
  have h1 := hn
  have h2 := hsz
  have h3 := hef
  (try simp only [List.length_append,List.length_cons,List.length_nil,List.length_map])
  omega)
 clear hb1 hb1' hb2 hbel hF00 hw hn hct hok hsz hs hg hk hfs hL hB hLw hgl hef hallf
 generalize f.len = nf at *
 go_enter Tryz.func122,Tryz.ntmps122
 go_upto_region 1 with fail
 generalize (w.alloc (.cells #[.pointer (some ⟨g,0,none⟩)] 135)).alloc (.cells #[.int .i64 112,.int .i64 0,.int .i64 0,.slice po nf co,.slice pg ng cg] 62) = w0 at *
 generalize w.heap.size + 1 = be at *
 generalize w.heap.size = bx at *
 have hS : Below w0.heap.size w0 w0.drew := (Below.refl _ _).drew
 refine wp_region_held_drew (S := fun W => Below w0.heap.size w0 W) (by kernel_rfl) hS (fun _ => ?_)
 generalize w0.drew = W at *
 refine zt 0 (.pointer (some ⟨be,0,none⟩)) rfl ?_ ?_
 ·(intro W hSw; have x0 := (HX0.out.below hSw HX0.out.lt).at (k := 0) (v := .int .i64 112) rfl; go_simp; try (with_reducible rfl))
 try simp only [Act.put,sl2,sl0,sl1]
 refine zt 1 (.int .i64 112) rfl ?_ ?_
 ·(intro W hSw; have x0 := (HX0.out.below hSw HX0.out.lt).at (k := 0) (v := .int .i64 112) rfl; go_simp; try (with_reducible rfl))
 try simp only [Act.put,sl2,sl0,sl1]
 refine zt 2 (.int .i64 4) rfl ?_ ?_
 ·(intro W hSw; have x0 := (HX0.out.below hSw HX0.out.lt).at (k := 0) (v := .int .i64 112) rfl; go_simp; try (with_reducible rfl))
 try simp only [Act.put,sl2,sl0,sl1]
 refine zt 3 (.int .i64 112) rfl ?_ ?_
 ·(intro W hSw; have x0 := (HX0.out.below hSw HX0.out.lt).at (k := 0) (v := .int .i64 112) rfl; go_simp; try (with_reducible rfl))
 try simp only [Act.put,sl2,sl0,sl1]
 refine wpAnyH_done (by kernel_rfl) ?_ _
 have HBW := hid hS
 clear hS
 have HB0 := hid (HB0.out.below HBW.out HB0.out.lt)
 have HX0 := hid (HX0.out.below HBW.out HX0.out.lt)
 have HF0 := hid (HF00.out.trans (FR.of HBW.out))
 have HW0 := hid (HW00.out.call HBW.out)
 clear HBW HF00 HW00
 generalize W = w1' at *
 have y0 := HB0.out.at (k := 0) (v := .pointer (some ⟨g,0,none⟩)) rfl
 have x0 := HX0.out.at (k := 0) (v := .int .i64 112) rfl
 have x1 := HX0.out.at (k := 1) (v := .int .i64 0) rfl
 have x2 := HX0.out.at (k := 2) (v := .int .i64 0) rfl
 have x3 := HX0.out.at (k := 3) (v := .slice po nf co) rfl
 have x4 := HX0.out.at (k := 4) (v := .slice pg ng cg) rfl
 have HII := hid (HIS.out w1' HF0.out)
 go_upto_region 4 with (go_at_call 190; (with_reducible refine HII.out.mono ?_); rintro e w2' ⟨rfl,hb⟩; have HBZ := hid hb; clear hb)
 clear y0 x0 x1 x2 x3 x4
 have HF0 := hid (HF0.out.trans (FR.of HBZ.out))
 have HW0 := hid (HW0.out.call HBZ.out)
 have HB0 := hid (HB0.out.below HBZ.out HB0.out.lt)
 have HX0 := hid (HX0.out.below HBZ.out HX0.out.lt)
 clear HBZ HII
 have hmf : ∀ (fn : Fn) (first cap : Array Value) (w : World),(Instr.makeFunc fn first cap).run Tryz.prog w = .ok (.func fn first cap) w := fun _ _ _ _ => rfl
 have HSA := hid (fun (W : World) (h : FR B g w W) => HSAw.out W h)
 have HLS := hid (fun (bs : List UInt8) (W : World) (h : FR B g w W) (hb : CA bx #[.pointer (some ⟨g,0,none⟩)] 135 W) (hW : WR B g bs W) (hn : bs.length ≤ 3100000000000) => HLSw.out bs W h hb hW hn)
 clear HSAw HLSw HIS HKO
 have y0 := HB0.out.at (k := 0) (v := .pointer (some ⟨g,0,none⟩)) rfl
 have x0 := HX0.out.at (k := 0) (v := .int .i64 112) rfl
 have x1 := HX0.out.at (k := 1) (v := .int .i64 0) rfl
 have x2 := HX0.out.at (k := 2) (v := .int .i64 0) rfl
 have x3 := HX0.out.at (k := 3) (v := .slice po nf co) rfl
 have x4 := HX0.out.at (k := 4) (v := .slice pg ng cg) rfl
 go_wp2_with (first
  | (go_at_call 169; (with_reducible refine (bytes_says B g _ [4] _ _ (HW0.out.alloc _) (LT.one (4) 1 HW0.out.lt) HN0.out).mono ?_); rintro e w1 ⟨rfl,hw',hf⟩; have HW1 := hid hw'; have HF1 := hid ((HF0.out.alloc _).trans hf); have HB1 := hid ((HB0.out.alloc _).fr hf (by decide) HNB.out); have HX1 := hid ((HX0.out.alloc _).fr hf (by decide) HNX.out); clear y0 x0 x1 x2 x3 x4; have y0 := HB1.out.at (k := 0) (v := .pointer (some ⟨g,0,none⟩)) rfl; have x0 := HX1.out.at (k := 0) (v := .int .i64 112) rfl; have x1 := HX1.out.at (k := 1) (v := .int .i64 0) rfl; have x2 := HX1.out.at (k := 2) (v := .int .i64 0) rfl; have x3 := HX1.out.at (k := 3) (v := .slice po nf co) rfl; have x4 := HX1.out.at (k := 4) (v := .slice pg ng cg) rfl; clear hw' hf)
  | (go_at_call 136; (with_reducible refine (code_says B g f HCT.out HOK.out _ _ _ HW1.out (HSA.out _ HF1.out) HN1.out).mono ?_); rintro e w2 ⟨rfl,hw',hf⟩; have HW2 := hid hw'; have HF2 := hid ((HF1.out).trans hf); have HB2 := hid ((HB1.out).fr hf (by decide) HNB.out); have HX2 := hid ((HX1.out).fr hf (by decide) HNX.out); clear y0 x0 x1 x2 x3 x4; have y0 := HB2.out.at (k := 0) (v := .pointer (some ⟨g,0,none⟩)) rfl; have x0 := HX2.out.at (k := 0) (v := .int .i64 112) rfl; have x1 := HX2.out.at (k := 1) (v := .int .i64 0) rfl; have x2 := HX2.out.at (k := 2) (v := .int .i64 0) rfl; have x3 := HX2.out.at (k := 3) (v := .slice po nf co) rfl; have x4 := HX2.out.at (k := 4) (v := .slice pg ng cg) rfl; clear hw' hf)
  | (go_at_call 191; (with_reducible refine (HLS.out _ _ HF2.out HB2.out HW2.out (by have := HN2.out; omega)).mono ?_); rintro e w3 ⟨rfl,hw',hf⟩; have HW3 := hid hw'; have HF3 := hid ((HF2.out).trans hf); have HB3 := hid ((HB2.out).fr hf (by decide) HNB.out); have HX3 := hid ((HX2.out).fr hf (by decide) HNX.out); clear y0 x0 x1 x2 x3 x4; have y0 := HB3.out.at (k := 0) (v := .pointer (some ⟨g,0,none⟩)) rfl; have x0 := HX3.out.at (k := 0) (v := .int .i64 112) rfl; have x1 := HX3.out.at (k := 1) (v := .int .i64 0) rfl; have x2 := HX3.out.at (k := 2) (v := .int .i64 0) rfl; have x3 := HX3.out.at (k := 3) (v := .slice po nf co) rfl; have x4 := HX3.out.at (k := 4) (v := .slice pg ng cg) rfl; clear hw' hf))
 (first | go_end0 | refine bodyPost_ret (results_none rfl _ _ _) rfl ?_)
 refine ⟨rfl,?_,HF3.out⟩
 have := HW3.out
 simpa using this
set_option maxHeartbeats 4000000 in
theorem elem_fB (B g L : Nat) (bs : List UInt8) (r : Int) (t : Int) (f : Fo) (po pg : Option Addr) (co cg ng bg og : Nat) (gf : Nat → Fo) (q : Nat → Option Addr) (d : Nat → Nat) (w : World) (ht : t ≠ 0 ∨ r ≠ 112) (hL : L ≤ lo B g) (hct : f.cnt < 9223372036854775806) (hok : okE f) (hsz : f.siz ≤ 61200000) (hs : SA L w (.slice po f.len co) f)
  (hg : Goods ng gf) (hk : KO L w pg ng bg og gf q d) (hfs : ((List.range ng).all (fun k => isFun (gf k)) && ((r : Int) == 112)) = false) (hw : WR B g bs w) (hn : bs.length ≤ 3000000000000) :
  Calls Tryz.prog 122 #[.pointer (some ⟨g,0,none⟩),.agg #[.int .i64 r,.int .i64 0,.int .i64 t,.slice po f.len co,.slice pg ng cg]] w fun e w' => e = .returned (.tuple #[]) ∧ WR B g (bs ++ ([6].map byI ++ uI (t) ++ (f.enc ++ [11]) ++ [r].map byI ++ (uI ng ++ flB ng (fun k => iniL false (gf k))))) w' ∧ FR B g w w' := by
 have hB := hw.1
 have hLw : L ≤ w.heap.size := Nat.le_trans hL (Nat.le_trans (lo_B B g) hB)
 have hgl := hw.lt
 have hb1 := CA.new w #[.pointer (some ⟨g,0,none⟩)] 135
 have hb1' := hb1.alloc (.cells #[.int .i64 r,.int .i64 0,.int .i64 t,.slice po f.len co,.slice pg ng cg] 62)
 have hb2 := CA.new (w.alloc (.cells #[.pointer (some ⟨g,0,none⟩)] 135)) #[.int .i64 r,.int .i64 0,.int .i64 t,.slice po f.len co,.slice pg ng cg] 62
 rw [size_al] at hb2
 have hbel : Below w.heap.size w ((w.alloc (.cells #[.pointer (some ⟨g,0,none⟩)] 135)).alloc (.cells #[.int .i64 r,.int .i64 0,.int .i64 t,.slice po f.len co,.slice pg ng cg] 62)) := ((Below.refl _ _).alloc (Nat.le_refl _) _).alloc (by rw [size_al]; omega) _
 have hF00 := ((FR.refl B g w).alloc (.cells #[.pointer (some ⟨g,0,none⟩)] 135)).alloc (.cells #[.int .i64 r,.int .i64 0,.int .i64 t,.slice po f.len co,.slice pg ng cg] 62)
 have HF00 := hid hF00
 have HB0 := hid hb1'
 have HX0 := hid hb2
 have HW00 := hid ((hw.alloc (.cells #[.pointer (some ⟨g,0,none⟩)] 135)).alloc (.cells #[.int .i64 r,.int .i64 0,.int .i64 t,.slice po f.len co,.slice pg ng cg] 62))
 have HNB := hid (show w.heap.size ≠ g by omega)
 have HNX := hid (show w.heap.size + 1 ≠ g by omega)
 have HCT := hid hct
 have HOK := hid hok
 have HSAw := hid (fun (W : World) (h : FR B g w W) => SA.mono (SA.below hs ((h.belowL hB).mono hL)) hL)
 have HIS := hid (fun (W : World) (h : FR B g w W) => isFuncs_says L r 0 t po pg f.len co ng cg bg og gf q d W (Nat.le_trans hLw h.size) (hk.below ((h.belowL hB).mono hL)))
 rw [hfs] at HIS
 have HKO := hid (fun (W : World) (h : FR B g w W) => hk.below ((h.belowL hB).mono hL))
 have hallf : True := trivial
 have HLSw := hid (fun (bs : List UInt8) (W : World) (h : FR B g w W) (hb : CA w.heap.size #[.pointer (some ⟨g,0,none⟩)] 135 W) (hW : WR B g bs W) (hn : bs.length ≤ 3100000000000) => list_false B g w.heap.size L hL ng gf hg pg cg bg og q d W (hk.below ((h.belowL hB).mono hL)) (by omega) hb bs hW hn)
 have hef := enc_siz f hok
 have HN0 := hid (show (bs).length + ([6] : List Int).length ≤ 140737488355000 by
  have h1 := hn
  have h2 := hsz
  have h3 := hef
  have h4 := uI_len (t)
  (try simp only [List.length_append,List.length_cons,List.length_nil,List.length_map])
  omega)
 have HN1 := hid (show (bs ++ List.map byI [6]).length + 10 ≤ 140737488355000 by
  have h1 := hn
  have h2 := hsz
  have h3 := hef
  have h4 := uI_len (t)
  (try simp only [List.length_append,List.length_cons,List.length_nil,List.length_map])
  omega)
 have HN2 := hid (show (bs ++ List.map byI [6] ++ uI (t)).length + 20 + f.siz ≤ 140737488355000 by
  have h1 := hn
  have h2 := hsz
  have h3 := hef
  have h4 := uI_len (t)
  (try simp only [List.length_append,List.length_cons,List.length_nil,List.length_map])
  omega)
 have HN3 := hid (show (bs ++ List.map byI [6] ++ uI (t) ++ (f.enc ++ [11])).length + ([r] : List Int).length ≤ 140737488355000 by
  have h1 := hn
  have h2 := hsz
  have h3 := hef
  have h4 := uI_len (t)
  (try simp only [List.length_append,List.length_cons,List.length_nil,List.length_map])
  omega)
 have HN4 := hid (show (bs ++ List.map byI [6] ++ uI (t) ++ (f.enc ++ [11]) ++ List.map byI [r]).length + 0 ≤ 3100000000000 by
  have h1 := hn
  have h2 := hsz
  have h3 := hef
  have h4 := uI_len (t)
  (try simp only [List.length_append,List.length_cons,List.length_nil,List.length_map])
  omega)
 have HTT := hid (show (t == 0) = false ∨ ((t == 0) = true ∧ (r == 112) = false) by
  by_cases h : t = 0
  ·exact .inr ⟨by simpa using h,by rcases ht with h2 | h2; exact absurd h h2; simpa using h2⟩
  exact .inl (by simpa using h))
 clear hb1 hb1' hb2 hbel hF00 hw hn hct hok hsz hs hg hk hfs hL hB hLw hgl hef hallf ht
 generalize f.len = nf at *
 rcases HTT.out with dt | ⟨dt,dr⟩
 all_goals
  go_enter Tryz.func122,Tryz.ntmps122
  go_upto_region 1 with fail
  generalize (w.alloc (.cells #[.pointer (some ⟨g,0,none⟩)] 135)).alloc (.cells #[.int .i64 r,.int .i64 0,.int .i64 t,.slice po nf co,.slice pg ng cg] 62) = w0 at *
  generalize w.heap.size + 1 = be at *
  generalize w.heap.size = bx at *
  have hS : Below w0.heap.size w0 w0.drew := (Below.refl _ _).drew
  refine wp_region_held_drew (S := fun W => Below w0.heap.size w0 W) (by kernel_rfl) hS (fun _ => ?_)
  generalize w0.drew = W at *
  refine zt 0 (.pointer (some ⟨be,0,none⟩)) rfl ?_ ?_
  ·(intro W hSw; have x0 := (HX0.out.below hSw HX0.out.lt).at (k := 0) (v := .int .i64 r) rfl; go_simp; try (with_reducible rfl))
  try simp only [Act.put,sl2,sl0,sl1]
  refine zt 1 (.int .i64 r) rfl ?_ ?_
  ·(intro W hSw; have x0 := (HX0.out.below hSw HX0.out.lt).at (k := 0) (v := .int .i64 r) rfl; go_simp; try (with_reducible rfl))
  try simp only [Act.put,sl2,sl0,sl1]
  refine zt 2 (.int .i64 4) rfl ?_ ?_
  ·(intro W hSw; have x0 := (HX0.out.below hSw HX0.out.lt).at (k := 0) (v := .int .i64 r) rfl; go_simp; try (with_reducible rfl))
  try simp only [Act.put,sl2,sl0,sl1]
  refine zt 3 (.int .i64 r) rfl ?_ ?_
  ·(intro W hSw; have x0 := (HX0.out.below hSw HX0.out.lt).at (k := 0) (v := .int .i64 r) rfl; go_simp; try (with_reducible rfl))
  try simp only [Act.put,sl2,sl0,sl1]
  refine wpAnyH_done (by kernel_rfl) ?_ _
  have HBW := hid hS
  clear hS
  have HB0 := hid (HB0.out.below HBW.out HB0.out.lt)
  have HX0 := hid (HX0.out.below HBW.out HX0.out.lt)
  have HF0 := hid (HF00.out.trans (FR.of HBW.out))
  have HW0 := hid (HW00.out.call HBW.out)
  clear HBW HF00 HW00
  generalize W = w1' at *
  have y0 := HB0.out.at (k := 0) (v := .pointer (some ⟨g,0,none⟩)) rfl
  have x0 := HX0.out.at (k := 0) (v := .int .i64 r) rfl
  have x1 := HX0.out.at (k := 1) (v := .int .i64 0) rfl
  have x2 := HX0.out.at (k := 2) (v := .int .i64 t) rfl
  have x3 := HX0.out.at (k := 3) (v := .slice po nf co) rfl
  have x4 := HX0.out.at (k := 4) (v := .slice pg ng cg) rfl
  have HII := hid (HIS.out w1' HF0.out)
  go_upto_region 4 with (go_at_call 190; (with_reducible refine HII.out.mono ?_); rintro e w2' ⟨rfl,hb⟩; have HBZ := hid hb; clear hb)
  clear y0 x0 x1 x2 x3 x4
  have HF0 := hid (HF0.out.trans (FR.of HBZ.out))
  have HW0 := hid (HW0.out.call HBZ.out)
  have HB0 := hid (HB0.out.below HBZ.out HB0.out.lt)
  have HX0 := hid (HX0.out.below HBZ.out HX0.out.lt)
  clear HBZ HII
  have hmf : ∀ (fn : Fn) (first cap : Array Value) (w : World),(Instr.makeFunc fn first cap).run Tryz.prog w = .ok (.func fn first cap) w := fun _ _ _ _ => rfl
  have HSA := hid (fun (W : World) (h : FR B g w W) => HSAw.out W h)
  have HLS := hid (fun (bs : List UInt8) (W : World) (h : FR B g w W) (hb : CA bx #[.pointer (some ⟨g,0,none⟩)] 135 W) (hW : WR B g bs W) (hn : bs.length ≤ 3100000000000) => HLSw.out bs W h hb hW hn)
  clear HSAw HLSw HIS HKO
  have y0 := HB0.out.at (k := 0) (v := .pointer (some ⟨g,0,none⟩)) rfl
  have x0 := HX0.out.at (k := 0) (v := .int .i64 r) rfl
  have x1 := HX0.out.at (k := 1) (v := .int .i64 0) rfl
  have x2 := HX0.out.at (k := 2) (v := .int .i64 t) rfl
  have x3 := HX0.out.at (k := 3) (v := .slice po nf co) rfl
  have x4 := HX0.out.at (k := 4) (v := .slice pg ng cg) rfl
  go_wp2_with (first
   | (go_at_call 169; (with_reducible refine (bytes_says B g _ [6] _ _ (HW0.out.alloc _) (LT.one (6) 1 HW0.out.lt) HN0.out).mono ?_); rintro e w1 ⟨rfl,hw',hf⟩; have HW1 := hid hw'; have HF1 := hid ((HF0.out.alloc _).trans hf); have HB1 := hid ((HB0.out.alloc _).fr hf (by decide) HNB.out); have HX1 := hid ((HX0.out.alloc _).fr hf (by decide) HNX.out); clear y0 x0 x1 x2 x3 x4; have y0 := HB1.out.at (k := 0) (v := .pointer (some ⟨g,0,none⟩)) rfl; have x0 := HX1.out.at (k := 0) (v := .int .i64 r) rfl; have x1 := HX1.out.at (k := 1) (v := .int .i64 0) rfl; have x2 := HX1.out.at (k := 2) (v := .int .i64 t) rfl; have x3 := HX1.out.at (k := 3) (v := .slice po nf co) rfl; have x4 := HX1.out.at (k := 4) (v := .slice pg ng cg) rfl; clear hw' hf)
   | (go_at_call 105; (with_reducible refine (u_says B g _ (t) _ HW1.out.base HW1.out HN1.out).mono ?_); rintro e w2 ⟨rfl,hw',hf⟩; have HW2 := hid hw'; have HF2 := hid ((HF1.out).trans hf); have HB2 := hid ((HB1.out).fr hf (by decide) HNB.out); have HX2 := hid ((HX1.out).fr hf (by decide) HNX.out); clear y0 x0 x1 x2 x3 x4; have y0 := HB2.out.at (k := 0) (v := .pointer (some ⟨g,0,none⟩)) rfl; have x0 := HX2.out.at (k := 0) (v := .int .i64 r) rfl; have x1 := HX2.out.at (k := 1) (v := .int .i64 0) rfl; have x2 := HX2.out.at (k := 2) (v := .int .i64 t) rfl; have x3 := HX2.out.at (k := 3) (v := .slice po nf co) rfl; have x4 := HX2.out.at (k := 4) (v := .slice pg ng cg) rfl; clear hw' hf)
   | (go_at_call 136; (with_reducible refine (code_says B g f HCT.out HOK.out _ _ _ HW2.out (HSA.out _ HF2.out) HN2.out).mono ?_); rintro e w3 ⟨rfl,hw',hf⟩; have HW3 := hid hw'; have HF3 := hid ((HF2.out).trans hf); have HB3 := hid ((HB2.out).fr hf (by decide) HNB.out); have HX3 := hid ((HX2.out).fr hf (by decide) HNX.out); clear y0 x0 x1 x2 x3 x4; have y0 := HB3.out.at (k := 0) (v := .pointer (some ⟨g,0,none⟩)) rfl; have x0 := HX3.out.at (k := 0) (v := .int .i64 r) rfl; have x1 := HX3.out.at (k := 1) (v := .int .i64 0) rfl; have x2 := HX3.out.at (k := 2) (v := .int .i64 t) rfl; have x3 := HX3.out.at (k := 3) (v := .slice po nf co) rfl; have x4 := HX3.out.at (k := 4) (v := .slice pg ng cg) rfl; clear hw' hf)
   | (go_at_call 169; (with_reducible refine (bytes_says B g _ [r] _ _ (HW3.out.alloc _) (LT.one (r) 1 HW3.out.lt) HN3.out).mono ?_); rintro e w4 ⟨rfl,hw',hf⟩; have HW4 := hid hw'; have HF4 := hid ((HF3.out.alloc _).trans hf); have HB4 := hid ((HB3.out.alloc _).fr hf (by decide) HNB.out); have HX4 := hid ((HX3.out.alloc _).fr hf (by decide) HNX.out); clear y0 x0 x1 x2 x3 x4; have y0 := HB4.out.at (k := 0) (v := .pointer (some ⟨g,0,none⟩)) rfl; have x0 := HX4.out.at (k := 0) (v := .int .i64 r) rfl; have x1 := HX4.out.at (k := 1) (v := .int .i64 0) rfl; have x2 := HX4.out.at (k := 2) (v := .int .i64 t) rfl; have x3 := HX4.out.at (k := 3) (v := .slice po nf co) rfl; have x4 := HX4.out.at (k := 4) (v := .slice pg ng cg) rfl; clear hw' hf)
   | (go_at_call 191; (with_reducible refine (HLS.out _ _ HF4.out HB4.out HW4.out (by have := HN4.out; omega)).mono ?_); rintro e w5 ⟨rfl,hw',hf⟩; have HW5 := hid hw'; have HF5 := hid ((HF4.out).trans hf); have HB5 := hid ((HB4.out).fr hf (by decide) HNB.out); have HX5 := hid ((HX4.out).fr hf (by decide) HNX.out); clear y0 x0 x1 x2 x3 x4; have y0 := HB5.out.at (k := 0) (v := .pointer (some ⟨g,0,none⟩)) rfl; have x0 := HX5.out.at (k := 0) (v := .int .i64 r) rfl; have x1 := HX5.out.at (k := 1) (v := .int .i64 0) rfl; have x2 := HX5.out.at (k := 2) (v := .int .i64 t) rfl; have x3 := HX5.out.at (k := 3) (v := .slice po nf co) rfl; have x4 := HX5.out.at (k := 4) (v := .slice pg ng cg) rfl; clear hw' hf))
  (first | go_end0 | refine bodyPost_ret (results_none rfl _ _ _) rfl ?_)
  refine ⟨rfl,?_,HF5.out⟩
  have := HW5.out
  simpa using this
set_option maxHeartbeats 4000000 in
theorem elem_fC (B g L : Nat) (bs : List UInt8) (r : Int) (t : Int) (f : Fo) (po pg : Option Addr) (co cg ng bg og : Nat) (gf : Nat → Fo) (q : Nat → Option Addr) (d : Nat → Nat) (w : World) (hL : L ≤ lo B g) (hct : f.cnt < 9223372036854775806) (hok : okE f) (hsz : f.siz ≤ 61200000) (hs : SA L w (.slice po f.len co) f)
  (hg : Goods ng gf) (hk : KO L w pg ng bg og gf q d) (hfs : ((List.range ng).all (fun k => isFun (gf k)) && ((r : Int) == 112)) = false) (hw : WR B g bs w) (hn : bs.length ≤ 3000000000000) :
  Calls Tryz.prog 122 #[.pointer (some ⟨g,0,none⟩),.agg #[.int .i64 r,.int .i64 1,.int .i64 t,.slice po f.len co,.slice pg ng cg]] w fun e w' => e = .returned (.tuple #[]) ∧ WR B g (bs ++ ([5,r].map byI ++ (uI ng ++ flB ng (fun k => iniL false (gf k))))) w' ∧ FR B g w w' := by
 have hB := hw.1
 have hLw : L ≤ w.heap.size := Nat.le_trans hL (Nat.le_trans (lo_B B g) hB)
 have hgl := hw.lt
 have hb1 := CA.new w #[.pointer (some ⟨g,0,none⟩)] 135
 have hb1' := hb1.alloc (.cells #[.int .i64 r,.int .i64 1,.int .i64 t,.slice po f.len co,.slice pg ng cg] 62)
 have hb2 := CA.new (w.alloc (.cells #[.pointer (some ⟨g,0,none⟩)] 135)) #[.int .i64 r,.int .i64 1,.int .i64 t,.slice po f.len co,.slice pg ng cg] 62
 rw [size_al] at hb2
 have hbel : Below w.heap.size w ((w.alloc (.cells #[.pointer (some ⟨g,0,none⟩)] 135)).alloc (.cells #[.int .i64 r,.int .i64 1,.int .i64 t,.slice po f.len co,.slice pg ng cg] 62)) := ((Below.refl _ _).alloc (Nat.le_refl _) _).alloc (by rw [size_al]; omega) _
 have hF00 := ((FR.refl B g w).alloc (.cells #[.pointer (some ⟨g,0,none⟩)] 135)).alloc (.cells #[.int .i64 r,.int .i64 1,.int .i64 t,.slice po f.len co,.slice pg ng cg] 62)
 have HF00 := hid hF00
 have HB0 := hid hb1'
 have HX0 := hid hb2
 have HW00 := hid ((hw.alloc (.cells #[.pointer (some ⟨g,0,none⟩)] 135)).alloc (.cells #[.int .i64 r,.int .i64 1,.int .i64 t,.slice po f.len co,.slice pg ng cg] 62))
 have HNB := hid (show w.heap.size ≠ g by omega)
 have HNX := hid (show w.heap.size + 1 ≠ g by omega)
 have HCT := hid hct
 have HOK := hid hok
 have HSAw := hid (fun (W : World) (h : FR B g w W) => SA.mono (SA.below hs ((h.belowL hB).mono hL)) hL)
 have HIS := hid (fun (W : World) (h : FR B g w W) => isFuncs_says L r 1 t po pg f.len co ng cg bg og gf q d W (Nat.le_trans hLw h.size) (hk.below ((h.belowL hB).mono hL)))
 rw [hfs] at HIS
 have HKO := hid (fun (W : World) (h : FR B g w W) => hk.below ((h.belowL hB).mono hL))
 have hallf : True := trivial
 have HLSw := hid (fun (bs : List UInt8) (W : World) (h : FR B g w W) (hb : CA w.heap.size #[.pointer (some ⟨g,0,none⟩)] 135 W) (hW : WR B g bs W) (hn : bs.length ≤ 3100000000000) => list_false B g w.heap.size L hL ng gf hg pg cg bg og q d W (hk.below ((h.belowL hB).mono hL)) (by omega) hb bs hW hn)
 have hef := enc_siz f hok
 have HN0 := hid (show (bs).length + ([5,r] : List Int).length ≤ 140737488355000 by
  have h1 := hn
  have h2 := hsz
  have h3 := hef
  (try simp only [List.length_append,List.length_cons,List.length_nil,List.length_map])
  omega)
 have HN1 := hid (show (bs ++ List.map byI [5,r]).length + 0 ≤ 3100000000000 by
  have h1 := hn
  have h2 := hsz
  have h3 := hef
  (try simp only [List.length_append,List.length_cons,List.length_nil,List.length_map])
  omega)
 clear hb1 hb1' hb2 hbel hF00 hw hn hct hok hsz hs hg hk hfs hL hB hLw hgl hef hallf
 generalize f.len = nf at *
 go_enter Tryz.func122,Tryz.ntmps122
 go_upto_region 1 with fail
 generalize (w.alloc (.cells #[.pointer (some ⟨g,0,none⟩)] 135)).alloc (.cells #[.int .i64 r,.int .i64 1,.int .i64 t,.slice po nf co,.slice pg ng cg] 62) = w0 at *
 generalize w.heap.size + 1 = be at *
 generalize w.heap.size = bx at *
 have hS : Below w0.heap.size w0 w0.drew := (Below.refl _ _).drew
 refine wp_region_held_drew (S := fun W => Below w0.heap.size w0 W) (by kernel_rfl) hS (fun _ => ?_)
 generalize w0.drew = W at *
 refine zt 0 (.pointer (some ⟨be,0,none⟩)) rfl ?_ ?_
 ·(intro W hSw; have x0 := (HX0.out.below hSw HX0.out.lt).at (k := 0) (v := .int .i64 r) rfl; go_simp; try (with_reducible rfl))
 try simp only [Act.put,sl2,sl0,sl1]
 refine zt 1 (.int .i64 r) rfl ?_ ?_
 ·(intro W hSw; have x0 := (HX0.out.below hSw HX0.out.lt).at (k := 0) (v := .int .i64 r) rfl; go_simp; try (with_reducible rfl))
 try simp only [Act.put,sl2,sl0,sl1]
 refine zt 2 (.int .i64 4) rfl ?_ ?_
 ·(intro W hSw; have x0 := (HX0.out.below hSw HX0.out.lt).at (k := 0) (v := .int .i64 r) rfl; go_simp; try (with_reducible rfl))
 try simp only [Act.put,sl2,sl0,sl1]
 refine zt 3 (.int .i64 r) rfl ?_ ?_
 ·(intro W hSw; have x0 := (HX0.out.below hSw HX0.out.lt).at (k := 0) (v := .int .i64 r) rfl; go_simp; try (with_reducible rfl))
 try simp only [Act.put,sl2,sl0,sl1]
 refine wpAnyH_done (by kernel_rfl) ?_ _
 have HBW := hid hS
 clear hS
 have HB0 := hid (HB0.out.below HBW.out HB0.out.lt)
 have HX0 := hid (HX0.out.below HBW.out HX0.out.lt)
 have HF0 := hid (HF00.out.trans (FR.of HBW.out))
 have HW0 := hid (HW00.out.call HBW.out)
 clear HBW HF00 HW00
 generalize W = w1' at *
 have y0 := HB0.out.at (k := 0) (v := .pointer (some ⟨g,0,none⟩)) rfl
 have x0 := HX0.out.at (k := 0) (v := .int .i64 r) rfl
 have x1 := HX0.out.at (k := 1) (v := .int .i64 1) rfl
 have x2 := HX0.out.at (k := 2) (v := .int .i64 t) rfl
 have x3 := HX0.out.at (k := 3) (v := .slice po nf co) rfl
 have x4 := HX0.out.at (k := 4) (v := .slice pg ng cg) rfl
 have HII := hid (HIS.out w1' HF0.out)
 go_upto_region 4 with (go_at_call 190; (with_reducible refine HII.out.mono ?_); rintro e w2' ⟨rfl,hb⟩; have HBZ := hid hb; clear hb)
 clear y0 x0 x1 x2 x3 x4
 have HF0 := hid (HF0.out.trans (FR.of HBZ.out))
 have HW0 := hid (HW0.out.call HBZ.out)
 have HB0 := hid (HB0.out.below HBZ.out HB0.out.lt)
 have HX0 := hid (HX0.out.below HBZ.out HX0.out.lt)
 clear HBZ HII
 have hmf : ∀ (fn : Fn) (first cap : Array Value) (w : World),(Instr.makeFunc fn first cap).run Tryz.prog w = .ok (.func fn first cap) w := fun _ _ _ _ => rfl
 have HSA := hid (fun (W : World) (h : FR B g w W) => HSAw.out W h)
 have HLS := hid (fun (bs : List UInt8) (W : World) (h : FR B g w W) (hb : CA bx #[.pointer (some ⟨g,0,none⟩)] 135 W) (hW : WR B g bs W) (hn : bs.length ≤ 3100000000000) => HLSw.out bs W h hb hW hn)
 clear HSAw HLSw HIS HKO
 have y0 := HB0.out.at (k := 0) (v := .pointer (some ⟨g,0,none⟩)) rfl
 have x0 := HX0.out.at (k := 0) (v := .int .i64 r) rfl
 have x1 := HX0.out.at (k := 1) (v := .int .i64 1) rfl
 have x2 := HX0.out.at (k := 2) (v := .int .i64 t) rfl
 have x3 := HX0.out.at (k := 3) (v := .slice po nf co) rfl
 have x4 := HX0.out.at (k := 4) (v := .slice pg ng cg) rfl
 go_wp2_with (first
  | (go_at_call 169; (with_reducible refine (bytes_says B g _ [5,r] _ _ (HW0.out.alloc _) (LT.two (5) (r) 2 HW0.out.lt) HN0.out).mono ?_); rintro e w1 ⟨rfl,hw',hf⟩; have HW1 := hid hw'; have HF1 := hid ((HF0.out.alloc _).trans hf); have HB1 := hid ((HB0.out.alloc _).fr hf (by decide) HNB.out); have HX1 := hid ((HX0.out.alloc _).fr hf (by decide) HNX.out); clear y0 x0 x1 x2 x3 x4; have y0 := HB1.out.at (k := 0) (v := .pointer (some ⟨g,0,none⟩)) rfl; have x0 := HX1.out.at (k := 0) (v := .int .i64 r) rfl; have x1 := HX1.out.at (k := 1) (v := .int .i64 1) rfl; have x2 := HX1.out.at (k := 2) (v := .int .i64 t) rfl; have x3 := HX1.out.at (k := 3) (v := .slice po nf co) rfl; have x4 := HX1.out.at (k := 4) (v := .slice pg ng cg) rfl; clear hw' hf)
  | (go_at_call 191; (with_reducible refine (HLS.out _ _ HF1.out HB1.out HW1.out (by have := HN1.out; omega)).mono ?_); rintro e w2 ⟨rfl,hw',hf⟩; have HW2 := hid hw'; have HF2 := hid ((HF1.out).trans hf); have HB2 := hid ((HB1.out).fr hf (by decide) HNB.out); have HX2 := hid ((HX1.out).fr hf (by decide) HNX.out); clear y0 x0 x1 x2 x3 x4; have y0 := HB2.out.at (k := 0) (v := .pointer (some ⟨g,0,none⟩)) rfl; have x0 := HX2.out.at (k := 0) (v := .int .i64 r) rfl; have x1 := HX2.out.at (k := 1) (v := .int .i64 1) rfl; have x2 := HX2.out.at (k := 2) (v := .int .i64 t) rfl; have x3 := HX2.out.at (k := 3) (v := .slice po nf co) rfl; have x4 := HX2.out.at (k := 4) (v := .slice pg ng cg) rfl; clear hw' hf))
 (first | go_end0 | refine bodyPost_ret (results_none rfl _ _ _) rfl ?_)
 refine ⟨rfl,?_,HF2.out⟩
 have := HW2.out
 simpa using this
set_option maxHeartbeats 4000000 in
theorem elem_fD (B g L : Nat) (bs : List UInt8) (r : Int) (t : Int) (f : Fo) (po pg : Option Addr) (co cg ng bg og : Nat) (gf : Nat → Fo) (q : Nat → Option Addr) (d : Nat → Nat) (w : World) (hL : L ≤ lo B g) (hct : f.cnt < 9223372036854775806) (hok : okE f) (hsz : f.siz ≤ 61200000) (hs : SA L w (.slice po f.len co) f)
  (hg : Goods ng gf) (hk : KO L w pg ng bg og gf q d) (hfs : ((List.range ng).all (fun k => isFun (gf k)) && ((r : Int) == 112)) = false) (hw : WR B g bs w) (hn : bs.length ≤ 3000000000000) :
  Calls Tryz.prog 122 #[.pointer (some ⟨g,0,none⟩),.agg #[.int .i64 r,.int .i64 2,.int .i64 t,.slice po f.len co,.slice pg ng cg]] w fun e w' => e = .returned (.tuple #[]) ∧ WR B g (bs ++ ([7,r].map byI ++ (uI ng ++ flB ng (fun k => iniL false (gf k))))) w' ∧ FR B g w w' := by
 have hB := hw.1
 have hLw : L ≤ w.heap.size := Nat.le_trans hL (Nat.le_trans (lo_B B g) hB)
 have hgl := hw.lt
 have hb1 := CA.new w #[.pointer (some ⟨g,0,none⟩)] 135
 have hb1' := hb1.alloc (.cells #[.int .i64 r,.int .i64 2,.int .i64 t,.slice po f.len co,.slice pg ng cg] 62)
 have hb2 := CA.new (w.alloc (.cells #[.pointer (some ⟨g,0,none⟩)] 135)) #[.int .i64 r,.int .i64 2,.int .i64 t,.slice po f.len co,.slice pg ng cg] 62
 rw [size_al] at hb2
 have hbel : Below w.heap.size w ((w.alloc (.cells #[.pointer (some ⟨g,0,none⟩)] 135)).alloc (.cells #[.int .i64 r,.int .i64 2,.int .i64 t,.slice po f.len co,.slice pg ng cg] 62)) := ((Below.refl _ _).alloc (Nat.le_refl _) _).alloc (by rw [size_al]; omega) _
 have hF00 := ((FR.refl B g w).alloc (.cells #[.pointer (some ⟨g,0,none⟩)] 135)).alloc (.cells #[.int .i64 r,.int .i64 2,.int .i64 t,.slice po f.len co,.slice pg ng cg] 62)
 have HF00 := hid hF00
 have HB0 := hid hb1'
 have HX0 := hid hb2
 have HW00 := hid ((hw.alloc (.cells #[.pointer (some ⟨g,0,none⟩)] 135)).alloc (.cells #[.int .i64 r,.int .i64 2,.int .i64 t,.slice po f.len co,.slice pg ng cg] 62))
 have HNB := hid (show w.heap.size ≠ g by omega)
 have HNX := hid (show w.heap.size + 1 ≠ g by omega)
 have HCT := hid hct
 have HOK := hid hok
 have HSAw := hid (fun (W : World) (h : FR B g w W) => SA.mono (SA.below hs ((h.belowL hB).mono hL)) hL)
 have HIS := hid (fun (W : World) (h : FR B g w W) => isFuncs_says L r 2 t po pg f.len co ng cg bg og gf q d W (Nat.le_trans hLw h.size) (hk.below ((h.belowL hB).mono hL)))
 rw [hfs] at HIS
 have HKO := hid (fun (W : World) (h : FR B g w W) => hk.below ((h.belowL hB).mono hL))
 have hallf : True := trivial
 have HLSw := hid (fun (bs : List UInt8) (W : World) (h : FR B g w W) (hb : CA w.heap.size #[.pointer (some ⟨g,0,none⟩)] 135 W) (hW : WR B g bs W) (hn : bs.length ≤ 3100000000000) => list_false B g w.heap.size L hL ng gf hg pg cg bg og q d W (hk.below ((h.belowL hB).mono hL)) (by omega) hb bs hW hn)
 have hef := enc_siz f hok
 have HN0 := hid (show (bs).length + ([7,r] : List Int).length ≤ 140737488355000 by
  have h1 := hn
  have h2 := hsz
  have h3 := hef
  (try simp only [List.length_append,List.length_cons,List.length_nil,List.length_map])
  omega)
 have HN1 := hid (show (bs ++ List.map byI [7,r]).length + 0 ≤ 3100000000000 by
  have h1 := hn
  have h2 := hsz
  have h3 := hef
  (try simp only [List.length_append,List.length_cons,List.length_nil,List.length_map])
  omega)
 clear hb1 hb1' hb2 hbel hF00 hw hn hct hok hsz hs hg hk hfs hL hB hLw hgl hef hallf
 generalize f.len = nf at *
 go_enter Tryz.func122,Tryz.ntmps122
 go_upto_region 1 with fail
 generalize (w.alloc (.cells #[.pointer (some ⟨g,0,none⟩)] 135)).alloc (.cells #[.int .i64 r,.int .i64 2,.int .i64 t,.slice po nf co,.slice pg ng cg] 62) = w0 at *
 generalize w.heap.size + 1 = be at *
 generalize w.heap.size = bx at *
 have hS : Below w0.heap.size w0 w0.drew := (Below.refl _ _).drew
 refine wp_region_held_drew (S := fun W => Below w0.heap.size w0 W) (by kernel_rfl) hS (fun _ => ?_)
 generalize w0.drew = W at *
 refine zt 0 (.pointer (some ⟨be,0,none⟩)) rfl ?_ ?_
 ·(intro W hSw; have x0 := (HX0.out.below hSw HX0.out.lt).at (k := 0) (v := .int .i64 r) rfl; go_simp; try (with_reducible rfl))
 try simp only [Act.put,sl2,sl0,sl1]
 refine zt 1 (.int .i64 r) rfl ?_ ?_
 ·(intro W hSw; have x0 := (HX0.out.below hSw HX0.out.lt).at (k := 0) (v := .int .i64 r) rfl; go_simp; try (with_reducible rfl))
 try simp only [Act.put,sl2,sl0,sl1]
 refine zt 2 (.int .i64 4) rfl ?_ ?_
 ·(intro W hSw; have x0 := (HX0.out.below hSw HX0.out.lt).at (k := 0) (v := .int .i64 r) rfl; go_simp; try (with_reducible rfl))
 try simp only [Act.put,sl2,sl0,sl1]
 refine zt 3 (.int .i64 r) rfl ?_ ?_
 ·(intro W hSw; have x0 := (HX0.out.below hSw HX0.out.lt).at (k := 0) (v := .int .i64 r) rfl; go_simp; try (with_reducible rfl))
 try simp only [Act.put,sl2,sl0,sl1]
 refine wpAnyH_done (by kernel_rfl) ?_ _
 have HBW := hid hS
 clear hS
 have HB0 := hid (HB0.out.below HBW.out HB0.out.lt)
 have HX0 := hid (HX0.out.below HBW.out HX0.out.lt)
 have HF0 := hid (HF00.out.trans (FR.of HBW.out))
 have HW0 := hid (HW00.out.call HBW.out)
 clear HBW HF00 HW00
 generalize W = w1' at *
 have y0 := HB0.out.at (k := 0) (v := .pointer (some ⟨g,0,none⟩)) rfl
 have x0 := HX0.out.at (k := 0) (v := .int .i64 r) rfl
 have x1 := HX0.out.at (k := 1) (v := .int .i64 2) rfl
 have x2 := HX0.out.at (k := 2) (v := .int .i64 t) rfl
 have x3 := HX0.out.at (k := 3) (v := .slice po nf co) rfl
 have x4 := HX0.out.at (k := 4) (v := .slice pg ng cg) rfl
 have HII := hid (HIS.out w1' HF0.out)
 go_upto_region 4 with (go_at_call 190; (with_reducible refine HII.out.mono ?_); rintro e w2' ⟨rfl,hb⟩; have HBZ := hid hb; clear hb)
 clear y0 x0 x1 x2 x3 x4
 have HF0 := hid (HF0.out.trans (FR.of HBZ.out))
 have HW0 := hid (HW0.out.call HBZ.out)
 have HB0 := hid (HB0.out.below HBZ.out HB0.out.lt)
 have HX0 := hid (HX0.out.below HBZ.out HX0.out.lt)
 clear HBZ HII
 have hmf : ∀ (fn : Fn) (first cap : Array Value) (w : World),(Instr.makeFunc fn first cap).run Tryz.prog w = .ok (.func fn first cap) w := fun _ _ _ _ => rfl
 have HSA := hid (fun (W : World) (h : FR B g w W) => HSAw.out W h)
 have HLS := hid (fun (bs : List UInt8) (W : World) (h : FR B g w W) (hb : CA bx #[.pointer (some ⟨g,0,none⟩)] 135 W) (hW : WR B g bs W) (hn : bs.length ≤ 3100000000000) => HLSw.out bs W h hb hW hn)
 clear HSAw HLSw HIS HKO
 have y0 := HB0.out.at (k := 0) (v := .pointer (some ⟨g,0,none⟩)) rfl
 have x0 := HX0.out.at (k := 0) (v := .int .i64 r) rfl
 have x1 := HX0.out.at (k := 1) (v := .int .i64 2) rfl
 have x2 := HX0.out.at (k := 2) (v := .int .i64 t) rfl
 have x3 := HX0.out.at (k := 3) (v := .slice po nf co) rfl
 have x4 := HX0.out.at (k := 4) (v := .slice pg ng cg) rfl
 go_wp2_with (first
  | (go_at_call 169; (with_reducible refine (bytes_says B g _ [7,r] _ _ (HW0.out.alloc _) (LT.two (7) (r) 2 HW0.out.lt) HN0.out).mono ?_); rintro e w1 ⟨rfl,hw',hf⟩; have HW1 := hid hw'; have HF1 := hid ((HF0.out.alloc _).trans hf); have HB1 := hid ((HB0.out.alloc _).fr hf (by decide) HNB.out); have HX1 := hid ((HX0.out.alloc _).fr hf (by decide) HNX.out); clear y0 x0 x1 x2 x3 x4; have y0 := HB1.out.at (k := 0) (v := .pointer (some ⟨g,0,none⟩)) rfl; have x0 := HX1.out.at (k := 0) (v := .int .i64 r) rfl; have x1 := HX1.out.at (k := 1) (v := .int .i64 2) rfl; have x2 := HX1.out.at (k := 2) (v := .int .i64 t) rfl; have x3 := HX1.out.at (k := 3) (v := .slice po nf co) rfl; have x4 := HX1.out.at (k := 4) (v := .slice pg ng cg) rfl; clear hw' hf)
  | (go_at_call 191; (with_reducible refine (HLS.out _ _ HF1.out HB1.out HW1.out (by have := HN1.out; omega)).mono ?_); rintro e w2 ⟨rfl,hw',hf⟩; have HW2 := hid hw'; have HF2 := hid ((HF1.out).trans hf); have HB2 := hid ((HB1.out).fr hf (by decide) HNB.out); have HX2 := hid ((HX1.out).fr hf (by decide) HNX.out); clear y0 x0 x1 x2 x3 x4; have y0 := HB2.out.at (k := 0) (v := .pointer (some ⟨g,0,none⟩)) rfl; have x0 := HX2.out.at (k := 0) (v := .int .i64 r) rfl; have x1 := HX2.out.at (k := 1) (v := .int .i64 2) rfl; have x2 := HX2.out.at (k := 2) (v := .int .i64 t) rfl; have x3 := HX2.out.at (k := 3) (v := .slice po nf co) rfl; have x4 := HX2.out.at (k := 4) (v := .slice pg ng cg) rfl; clear hw' hf))
 (first | go_end0 | refine bodyPost_ret (results_none rfl _ _ _) rfl ?_)
 refine ⟨rfl,?_,HF2.out⟩
 have := HW2.out
 simpa using this
set_option maxHeartbeats 4000000 in
theorem elem_tA (B g L : Nat) (bs : List UInt8)  (f : Fo) (po pg : Option Addr) (co cg ng bg og : Nat) (gf : Nat → Fo) (q : Nat → Option Addr) (d : Nat → Nat) (w : World) (hL : L ≤ lo B g) (hct : f.cnt < 9223372036854775806) (hok : okE f) (hsz : f.siz ≤ 61200000) (hs : SA L w (.slice po f.len co) f)
  (hg : Goods ng gf) (hk : KO L w pg ng bg og gf q d) (hfs : ((List.range ng).all (fun k => isFun (gf k)) && ((112 : Int) == 112)) = true) (hw : WR B g bs w) (hn : bs.length ≤ 3000000000000) :
  Calls Tryz.prog 122 #[.pointer (some ⟨g,0,none⟩),.agg #[.int .i64 112,.int .i64 0,.int .i64 0,.slice po f.len co,.slice pg ng cg]] w fun e w' => e = .returned (.tuple #[]) ∧ WR B g (bs ++ ([0].map byI ++ (f.enc ++ [11]) ++ (uI ng ++ flB ng (fun k => iniL true (gf k))))) w' ∧ FR B g w w' := by
 have hB := hw.1
 have hLw : L ≤ w.heap.size := Nat.le_trans hL (Nat.le_trans (lo_B B g) hB)
 have hgl := hw.lt
 have hb1 := CA.new w #[.pointer (some ⟨g,0,none⟩)] 135
 have hb1' := hb1.alloc (.cells #[.int .i64 112,.int .i64 0,.int .i64 0,.slice po f.len co,.slice pg ng cg] 62)
 have hb2 := CA.new (w.alloc (.cells #[.pointer (some ⟨g,0,none⟩)] 135)) #[.int .i64 112,.int .i64 0,.int .i64 0,.slice po f.len co,.slice pg ng cg] 62
 rw [size_al] at hb2
 have hbel : Below w.heap.size w ((w.alloc (.cells #[.pointer (some ⟨g,0,none⟩)] 135)).alloc (.cells #[.int .i64 112,.int .i64 0,.int .i64 0,.slice po f.len co,.slice pg ng cg] 62)) := ((Below.refl _ _).alloc (Nat.le_refl _) _).alloc (by rw [size_al]; omega) _
 have hF00 := ((FR.refl B g w).alloc (.cells #[.pointer (some ⟨g,0,none⟩)] 135)).alloc (.cells #[.int .i64 112,.int .i64 0,.int .i64 0,.slice po f.len co,.slice pg ng cg] 62)
 have HF00 := hid hF00
 have HB0 := hid hb1'
 have HX0 := hid hb2
 have HW00 := hid ((hw.alloc (.cells #[.pointer (some ⟨g,0,none⟩)] 135)).alloc (.cells #[.int .i64 112,.int .i64 0,.int .i64 0,.slice po f.len co,.slice pg ng cg] 62))
 have HNB := hid (show w.heap.size ≠ g by omega)
 have HNX := hid (show w.heap.size + 1 ≠ g by omega)
 have HCT := hid hct
 have HOK := hid hok
 have HSAw := hid (fun (W : World) (h : FR B g w W) => SA.mono (SA.below hs ((h.belowL hB).mono hL)) hL)
 have HIS := hid (fun (W : World) (h : FR B g w W) => isFuncs_says L 112 0 0 po pg f.len co ng cg bg og gf q d W (Nat.le_trans hLw h.size) (hk.below ((h.belowL hB).mono hL)))
 rw [hfs] at HIS
 have HKO := hid (fun (W : World) (h : FR B g w W) => hk.below ((h.belowL hB).mono hL))
 have hallf : ∀ k,k < ng → isFun (gf k) = true := fun k hk2 => List.all_eq_true.1 ((Bool.and_eq_true _ _ ▸ hfs : _ ∧ _).1) k (List.mem_range.2 hk2)
 have HLSw := hid (fun (bs : List UInt8) (W : World) (h : FR B g w W) (hb : CA w.heap.size #[.pointer (some ⟨g,0,none⟩)] 135 W) (hW : WR B g bs W) (hn : bs.length ≤ 3100000000000) => list_true B g w.heap.size L hL ng gf hg hallf pg cg bg og q d W (hk.below ((h.belowL hB).mono hL)) (by omega) hb bs hW hn)
 have hef := enc_siz f hok
 have HN0 := hid (show (bs).length + ([0] : List Int).length ≤ 140737488355000 by
  have h1 := hn
  have h2 := hsz
  have h3 := hef
  (try simp only [List.length_append,List.length_cons,List.length_nil,List.length_map])
  omega)
 have HN1 := hid (show (bs ++ List.map byI [0]).length + 20 + f.siz ≤ 140737488355000 by
  have h1 := hn
  have h2 := hsz
  have h3 := hef
  (try simp only [List.length_append,List.length_cons,List.length_nil,List.length_map])
  omega)
 have HN2 := hid (show (bs ++ List.map byI [0] ++ (f.enc ++ [11])).length + 0 ≤ 3100000000000 by
  have h1 := hn
  have h2 := hsz
  have h3 := hef
  (try simp only [List.length_append,List.length_cons,List.length_nil,List.length_map])
  omega)
 clear hb1 hb1' hb2 hbel hF00 hw hn hct hok hsz hs hg hk hfs hL hB hLw hgl hef hallf
 generalize f.len = nf at *
 go_enter Tryz.func122,Tryz.ntmps122
 go_upto_region 1 with fail
 generalize (w.alloc (.cells #[.pointer (some ⟨g,0,none⟩)] 135)).alloc (.cells #[.int .i64 112,.int .i64 0,.int .i64 0,.slice po nf co,.slice pg ng cg] 62) = w0 at *
 generalize w.heap.size + 1 = be at *
 generalize w.heap.size = bx at *
 have hS : Below w0.heap.size w0 w0.drew := (Below.refl _ _).drew
 refine wp_region_held_drew (S := fun W => Below w0.heap.size w0 W) (by kernel_rfl) hS (fun _ => ?_)
 generalize w0.drew = W at *
 refine zt 0 (.pointer (some ⟨be,0,none⟩)) rfl ?_ ?_
 ·(intro W hSw; have x0 := (HX0.out.below hSw HX0.out.lt).at (k := 0) (v := .int .i64 112) rfl; go_simp; try (with_reducible rfl))
 try simp only [Act.put,sl2,sl0,sl1]
 refine zt 1 (.int .i64 112) rfl ?_ ?_
 ·(intro W hSw; have x0 := (HX0.out.below hSw HX0.out.lt).at (k := 0) (v := .int .i64 112) rfl; go_simp; try (with_reducible rfl))
 try simp only [Act.put,sl2,sl0,sl1]
 refine zt 2 (.int .i64 4) rfl ?_ ?_
 ·(intro W hSw; have x0 := (HX0.out.below hSw HX0.out.lt).at (k := 0) (v := .int .i64 112) rfl; go_simp; try (with_reducible rfl))
 try simp only [Act.put,sl2,sl0,sl1]
 refine zt 3 (.int .i64 112) rfl ?_ ?_
 ·(intro W hSw; have x0 := (HX0.out.below hSw HX0.out.lt).at (k := 0) (v := .int .i64 112) rfl; go_simp; try (with_reducible rfl))
 try simp only [Act.put,sl2,sl0,sl1]
 refine wpAnyH_done (by kernel_rfl) ?_ _
 have HBW := hid hS
 clear hS
 have HB0 := hid (HB0.out.below HBW.out HB0.out.lt)
 have HX0 := hid (HX0.out.below HBW.out HX0.out.lt)
 have HF0 := hid (HF00.out.trans (FR.of HBW.out))
 have HW0 := hid (HW00.out.call HBW.out)
 clear HBW HF00 HW00
 generalize W = w1' at *
 have y0 := HB0.out.at (k := 0) (v := .pointer (some ⟨g,0,none⟩)) rfl
 have x0 := HX0.out.at (k := 0) (v := .int .i64 112) rfl
 have x1 := HX0.out.at (k := 1) (v := .int .i64 0) rfl
 have x2 := HX0.out.at (k := 2) (v := .int .i64 0) rfl
 have x3 := HX0.out.at (k := 3) (v := .slice po nf co) rfl
 have x4 := HX0.out.at (k := 4) (v := .slice pg ng cg) rfl
 have HII := hid (HIS.out w1' HF0.out)
 go_upto_region 4 with (go_at_call 190; (with_reducible refine HII.out.mono ?_); rintro e w2' ⟨rfl,hb⟩; have HBZ := hid hb; clear hb)
 clear y0 x0 x1 x2 x3 x4
 have HF0 := hid (HF0.out.trans (FR.of HBZ.out))
 have HW0 := hid (HW0.out.call HBZ.out)
 have HB0 := hid (HB0.out.below HBZ.out HB0.out.lt)
 have HX0 := hid (HX0.out.below HBZ.out HX0.out.lt)
 clear HBZ HII
 have hmf : ∀ (fn : Fn) (first cap : Array Value) (w : World),(Instr.makeFunc fn first cap).run Tryz.prog w = .ok (.func fn first cap) w := fun _ _ _ _ => rfl
 have HSA := hid (fun (W : World) (h : FR B g w W) => HSAw.out W h)
 have HLS := hid (fun (bs : List UInt8) (W : World) (h : FR B g w W) (hb : CA bx #[.pointer (some ⟨g,0,none⟩)] 135 W) (hW : WR B g bs W) (hn : bs.length ≤ 3100000000000) => HLSw.out bs W h hb hW hn)
 clear HSAw HLSw HIS HKO
 have y0 := HB0.out.at (k := 0) (v := .pointer (some ⟨g,0,none⟩)) rfl
 have x0 := HX0.out.at (k := 0) (v := .int .i64 112) rfl
 have x1 := HX0.out.at (k := 1) (v := .int .i64 0) rfl
 have x2 := HX0.out.at (k := 2) (v := .int .i64 0) rfl
 have x3 := HX0.out.at (k := 3) (v := .slice po nf co) rfl
 have x4 := HX0.out.at (k := 4) (v := .slice pg ng cg) rfl
 go_wp2_with (first
  | (go_at_call 169; (with_reducible refine (bytes_says B g _ [0] _ _ (HW0.out.alloc _) (LT.one (0) 1 HW0.out.lt) HN0.out).mono ?_); rintro e w1 ⟨rfl,hw',hf⟩; have HW1 := hid hw'; have HF1 := hid ((HF0.out.alloc _).trans hf); have HB1 := hid ((HB0.out.alloc _).fr hf (by decide) HNB.out); have HX1 := hid ((HX0.out.alloc _).fr hf (by decide) HNX.out); clear y0 x0 x1 x2 x3 x4; have y0 := HB1.out.at (k := 0) (v := .pointer (some ⟨g,0,none⟩)) rfl; have x0 := HX1.out.at (k := 0) (v := .int .i64 112) rfl; have x1 := HX1.out.at (k := 1) (v := .int .i64 0) rfl; have x2 := HX1.out.at (k := 2) (v := .int .i64 0) rfl; have x3 := HX1.out.at (k := 3) (v := .slice po nf co) rfl; have x4 := HX1.out.at (k := 4) (v := .slice pg ng cg) rfl; clear hw' hf)
  | (go_at_call 136; (with_reducible refine (code_says B g f HCT.out HOK.out _ _ _ HW1.out (HSA.out _ HF1.out) HN1.out).mono ?_); rintro e w2 ⟨rfl,hw',hf⟩; have HW2 := hid hw'; have HF2 := hid ((HF1.out).trans hf); have HB2 := hid ((HB1.out).fr hf (by decide) HNB.out); have HX2 := hid ((HX1.out).fr hf (by decide) HNX.out); clear y0 x0 x1 x2 x3 x4; have y0 := HB2.out.at (k := 0) (v := .pointer (some ⟨g,0,none⟩)) rfl; have x0 := HX2.out.at (k := 0) (v := .int .i64 112) rfl; have x1 := HX2.out.at (k := 1) (v := .int .i64 0) rfl; have x2 := HX2.out.at (k := 2) (v := .int .i64 0) rfl; have x3 := HX2.out.at (k := 3) (v := .slice po nf co) rfl; have x4 := HX2.out.at (k := 4) (v := .slice pg ng cg) rfl; clear hw' hf)
  | (go_at_call 191; (with_reducible refine (HLS.out _ _ HF2.out HB2.out HW2.out (by have := HN2.out; omega)).mono ?_); rintro e w3 ⟨rfl,hw',hf⟩; have HW3 := hid hw'; have HF3 := hid ((HF2.out).trans hf); have HB3 := hid ((HB2.out).fr hf (by decide) HNB.out); have HX3 := hid ((HX2.out).fr hf (by decide) HNX.out); clear y0 x0 x1 x2 x3 x4; have y0 := HB3.out.at (k := 0) (v := .pointer (some ⟨g,0,none⟩)) rfl; have x0 := HX3.out.at (k := 0) (v := .int .i64 112) rfl; have x1 := HX3.out.at (k := 1) (v := .int .i64 0) rfl; have x2 := HX3.out.at (k := 2) (v := .int .i64 0) rfl; have x3 := HX3.out.at (k := 3) (v := .slice po nf co) rfl; have x4 := HX3.out.at (k := 4) (v := .slice pg ng cg) rfl; clear hw' hf))
 (first | go_end0 | refine bodyPost_ret (results_none rfl _ _ _) rfl ?_)
 refine ⟨rfl,?_,HF3.out⟩
 have := HW3.out
 simpa using this
set_option maxHeartbeats 4000000 in
theorem elem_tB (B g L : Nat) (bs : List UInt8) (r : Int) (t : Int) (f : Fo) (po pg : Option Addr) (co cg ng bg og : Nat) (gf : Nat → Fo) (q : Nat → Option Addr) (d : Nat → Nat) (w : World) (ht : t ≠ 0 ∨ r ≠ 112) (hL : L ≤ lo B g) (hct : f.cnt < 9223372036854775806) (hok : okE f) (hsz : f.siz ≤ 61200000) (hs : SA L w (.slice po f.len co) f)
  (hg : Goods ng gf) (hk : KO L w pg ng bg og gf q d) (hfs : ((List.range ng).all (fun k => isFun (gf k)) && ((r : Int) == 112)) = true) (hw : WR B g bs w) (hn : bs.length ≤ 3000000000000) :
  Calls Tryz.prog 122 #[.pointer (some ⟨g,0,none⟩),.agg #[.int .i64 r,.int .i64 0,.int .i64 t,.slice po f.len co,.slice pg ng cg]] w fun e w' => e = .returned (.tuple #[]) ∧ WR B g (bs ++ ([2].map byI ++ uI (t) ++ (f.enc ++ [11]) ++ [0].map byI ++ (uI ng ++ flB ng (fun k => iniL true (gf k))))) w' ∧ FR B g w w' := by
 have hB := hw.1
 have hLw : L ≤ w.heap.size := Nat.le_trans hL (Nat.le_trans (lo_B B g) hB)
 have hgl := hw.lt
 have hb1 := CA.new w #[.pointer (some ⟨g,0,none⟩)] 135
 have hb1' := hb1.alloc (.cells #[.int .i64 r,.int .i64 0,.int .i64 t,.slice po f.len co,.slice pg ng cg] 62)
 have hb2 := CA.new (w.alloc (.cells #[.pointer (some ⟨g,0,none⟩)] 135)) #[.int .i64 r,.int .i64 0,.int .i64 t,.slice po f.len co,.slice pg ng cg] 62
 rw [size_al] at hb2
 have hbel : Below w.heap.size w ((w.alloc (.cells #[.pointer (some ⟨g,0,none⟩)] 135)).alloc (.cells #[.int .i64 r,.int .i64 0,.int .i64 t,.slice po f.len co,.slice pg ng cg] 62)) := ((Below.refl _ _).alloc (Nat.le_refl _) _).alloc (by rw [size_al]; omega) _
 have hF00 := ((FR.refl B g w).alloc (.cells #[.pointer (some ⟨g,0,none⟩)] 135)).alloc (.cells #[.int .i64 r,.int .i64 0,.int .i64 t,.slice po f.len co,.slice pg ng cg] 62)
 have HF00 := hid hF00
 have HB0 := hid hb1'
 have HX0 := hid hb2
 have HW00 := hid ((hw.alloc (.cells #[.pointer (some ⟨g,0,none⟩)] 135)).alloc (.cells #[.int .i64 r,.int .i64 0,.int .i64 t,.slice po f.len co,.slice pg ng cg] 62))
 have HNB := hid (show w.heap.size ≠ g by omega)
 have HNX := hid (show w.heap.size + 1 ≠ g by omega)
 have HCT := hid hct
 have HOK := hid hok
 have HSAw := hid (fun (W : World) (h : FR B g w W) => SA.mono (SA.below hs ((h.belowL hB).mono hL)) hL)
 have HIS := hid (fun (W : World) (h : FR B g w W) => isFuncs_says L r 0 t po pg f.len co ng cg bg og gf q d W (Nat.le_trans hLw h.size) (hk.below ((h.belowL hB).mono hL)))
 rw [hfs] at HIS
 have HKO := hid (fun (W : World) (h : FR B g w W) => hk.below ((h.belowL hB).mono hL))
 have hallf : ∀ k,k < ng → isFun (gf k) = true := fun k hk2 => List.all_eq_true.1 ((Bool.and_eq_true _ _ ▸ hfs : _ ∧ _).1) k (List.mem_range.2 hk2)
 have HLSw := hid (fun (bs : List UInt8) (W : World) (h : FR B g w W) (hb : CA w.heap.size #[.pointer (some ⟨g,0,none⟩)] 135 W) (hW : WR B g bs W) (hn : bs.length ≤ 3100000000000) => list_true B g w.heap.size L hL ng gf hg hallf pg cg bg og q d W (hk.below ((h.belowL hB).mono hL)) (by omega) hb bs hW hn)
 have hef := enc_siz f hok
 have HN0 := hid (show (bs).length + ([2] : List Int).length ≤ 140737488355000 by
  have h1 := hn
  have h2 := hsz
  have h3 := hef
  have h4 := uI_len (t)
  (try simp only [List.length_append,List.length_cons,List.length_nil,List.length_map])
  omega)
 have HN1 := hid (show (bs ++ List.map byI [2]).length + 10 ≤ 140737488355000 by
  have h1 := hn
  have h2 := hsz
  have h3 := hef
  have h4 := uI_len (t)
  (try simp only [List.length_append,List.length_cons,List.length_nil,List.length_map])
  omega)
 have HN2 := hid (show (bs ++ List.map byI [2] ++ uI (t)).length + 20 + f.siz ≤ 140737488355000 by
  have h1 := hn
  have h2 := hsz
  have h3 := hef
  have h4 := uI_len (t)
  (try simp only [List.length_append,List.length_cons,List.length_nil,List.length_map])
  omega)
 have HN3 := hid (show (bs ++ List.map byI [2] ++ uI (t) ++ (f.enc ++ [11])).length + ([0] : List Int).length ≤ 140737488355000 by
  have h1 := hn
  have h2 := hsz
  have h3 := hef
  have h4 := uI_len (t)
  (try simp only [List.length_append,List.length_cons,List.length_nil,List.length_map])
  omega)
 have HN4 := hid (show (bs ++ List.map byI [2] ++ uI (t) ++ (f.enc ++ [11]) ++ List.map byI [0]).length + 0 ≤ 3100000000000 by
  have h1 := hn
  have h2 := hsz
  have h3 := hef
  have h4 := uI_len (t)
  (try simp only [List.length_append,List.length_cons,List.length_nil,List.length_map])
  omega)
 have HTT := hid (show (t == 0) = false ∨ ((t == 0) = true ∧ (r == 112) = false) by
  by_cases h : t = 0
  ·exact .inr ⟨by simpa using h,by rcases ht with h2 | h2; exact absurd h h2; simpa using h2⟩
  exact .inl (by simpa using h))
 clear hb1 hb1' hb2 hbel hF00 hw hn hct hok hsz hs hg hk hfs hL hB hLw hgl hef hallf ht
 generalize f.len = nf at *
 rcases HTT.out with dt | ⟨dt,dr⟩
 all_goals
  go_enter Tryz.func122,Tryz.ntmps122
  go_upto_region 1 with fail
  generalize (w.alloc (.cells #[.pointer (some ⟨g,0,none⟩)] 135)).alloc (.cells #[.int .i64 r,.int .i64 0,.int .i64 t,.slice po nf co,.slice pg ng cg] 62) = w0 at *
  generalize w.heap.size + 1 = be at *
  generalize w.heap.size = bx at *
  have hS : Below w0.heap.size w0 w0.drew := (Below.refl _ _).drew
  refine wp_region_held_drew (S := fun W => Below w0.heap.size w0 W) (by kernel_rfl) hS (fun _ => ?_)
  generalize w0.drew = W at *
  refine zt 0 (.pointer (some ⟨be,0,none⟩)) rfl ?_ ?_
  ·(intro W hSw; have x0 := (HX0.out.below hSw HX0.out.lt).at (k := 0) (v := .int .i64 r) rfl; go_simp; try (with_reducible rfl))
  try simp only [Act.put,sl2,sl0,sl1]
  refine zt 1 (.int .i64 r) rfl ?_ ?_
  ·(intro W hSw; have x0 := (HX0.out.below hSw HX0.out.lt).at (k := 0) (v := .int .i64 r) rfl; go_simp; try (with_reducible rfl))
  try simp only [Act.put,sl2,sl0,sl1]
  refine zt 2 (.int .i64 4) rfl ?_ ?_
  ·(intro W hSw; have x0 := (HX0.out.below hSw HX0.out.lt).at (k := 0) (v := .int .i64 r) rfl; go_simp; try (with_reducible rfl))
  try simp only [Act.put,sl2,sl0,sl1]
  refine zt 3 (.int .i64 r) rfl ?_ ?_
  ·(intro W hSw; have x0 := (HX0.out.below hSw HX0.out.lt).at (k := 0) (v := .int .i64 r) rfl; go_simp; try (with_reducible rfl))
  try simp only [Act.put,sl2,sl0,sl1]
  refine wpAnyH_done (by kernel_rfl) ?_ _
  have HBW := hid hS
  clear hS
  have HB0 := hid (HB0.out.below HBW.out HB0.out.lt)
  have HX0 := hid (HX0.out.below HBW.out HX0.out.lt)
  have HF0 := hid (HF00.out.trans (FR.of HBW.out))
  have HW0 := hid (HW00.out.call HBW.out)
  clear HBW HF00 HW00
  generalize W = w1' at *
  have y0 := HB0.out.at (k := 0) (v := .pointer (some ⟨g,0,none⟩)) rfl
  have x0 := HX0.out.at (k := 0) (v := .int .i64 r) rfl
  have x1 := HX0.out.at (k := 1) (v := .int .i64 0) rfl
  have x2 := HX0.out.at (k := 2) (v := .int .i64 t) rfl
  have x3 := HX0.out.at (k := 3) (v := .slice po nf co) rfl
  have x4 := HX0.out.at (k := 4) (v := .slice pg ng cg) rfl
  have HII := hid (HIS.out w1' HF0.out)
  go_upto_region 4 with (go_at_call 190; (with_reducible refine HII.out.mono ?_); rintro e w2' ⟨rfl,hb⟩; have HBZ := hid hb; clear hb)
  clear y0 x0 x1 x2 x3 x4
  have HF0 := hid (HF0.out.trans (FR.of HBZ.out))
  have HW0 := hid (HW0.out.call HBZ.out)
  have HB0 := hid (HB0.out.below HBZ.out HB0.out.lt)
  have HX0 := hid (HX0.out.below HBZ.out HX0.out.lt)
  clear HBZ HII
  have hmf : ∀ (fn : Fn) (first cap : Array Value) (w : World),(Instr.makeFunc fn first cap).run Tryz.prog w = .ok (.func fn first cap) w := fun _ _ _ _ => rfl
  have HSA := hid (fun (W : World) (h : FR B g w W) => HSAw.out W h)
  have HLS := hid (fun (bs : List UInt8) (W : World) (h : FR B g w W) (hb : CA bx #[.pointer (some ⟨g,0,none⟩)] 135 W) (hW : WR B g bs W) (hn : bs.length ≤ 3100000000000) => HLSw.out bs W h hb hW hn)
  clear HSAw HLSw HIS HKO
  have y0 := HB0.out.at (k := 0) (v := .pointer (some ⟨g,0,none⟩)) rfl
  have x0 := HX0.out.at (k := 0) (v := .int .i64 r) rfl
  have x1 := HX0.out.at (k := 1) (v := .int .i64 0) rfl
  have x2 := HX0.out.at (k := 2) (v := .int .i64 t) rfl
  have x3 := HX0.out.at (k := 3) (v := .slice po nf co) rfl
  have x4 := HX0.out.at (k := 4) (v := .slice pg ng cg) rfl
  go_wp2_with (first
   | (go_at_call 169; (with_reducible refine (bytes_says B g _ [2] _ _ (HW0.out.alloc _) (LT.one (2) 1 HW0.out.lt) HN0.out).mono ?_); rintro e w1 ⟨rfl,hw',hf⟩; have HW1 := hid hw'; have HF1 := hid ((HF0.out.alloc _).trans hf); have HB1 := hid ((HB0.out.alloc _).fr hf (by decide) HNB.out); have HX1 := hid ((HX0.out.alloc _).fr hf (by decide) HNX.out); clear y0 x0 x1 x2 x3 x4; have y0 := HB1.out.at (k := 0) (v := .pointer (some ⟨g,0,none⟩)) rfl; have x0 := HX1.out.at (k := 0) (v := .int .i64 r) rfl; have x1 := HX1.out.at (k := 1) (v := .int .i64 0) rfl; have x2 := HX1.out.at (k := 2) (v := .int .i64 t) rfl; have x3 := HX1.out.at (k := 3) (v := .slice po nf co) rfl; have x4 := HX1.out.at (k := 4) (v := .slice pg ng cg) rfl; clear hw' hf)
   | (go_at_call 105; (with_reducible refine (u_says B g _ (t) _ HW1.out.base HW1.out HN1.out).mono ?_); rintro e w2 ⟨rfl,hw',hf⟩; have HW2 := hid hw'; have HF2 := hid ((HF1.out).trans hf); have HB2 := hid ((HB1.out).fr hf (by decide) HNB.out); have HX2 := hid ((HX1.out).fr hf (by decide) HNX.out); clear y0 x0 x1 x2 x3 x4; have y0 := HB2.out.at (k := 0) (v := .pointer (some ⟨g,0,none⟩)) rfl; have x0 := HX2.out.at (k := 0) (v := .int .i64 r) rfl; have x1 := HX2.out.at (k := 1) (v := .int .i64 0) rfl; have x2 := HX2.out.at (k := 2) (v := .int .i64 t) rfl; have x3 := HX2.out.at (k := 3) (v := .slice po nf co) rfl; have x4 := HX2.out.at (k := 4) (v := .slice pg ng cg) rfl; clear hw' hf)
   | (go_at_call 136; (with_reducible refine (code_says B g f HCT.out HOK.out _ _ _ HW2.out (HSA.out _ HF2.out) HN2.out).mono ?_); rintro e w3 ⟨rfl,hw',hf⟩; have HW3 := hid hw'; have HF3 := hid ((HF2.out).trans hf); have HB3 := hid ((HB2.out).fr hf (by decide) HNB.out); have HX3 := hid ((HX2.out).fr hf (by decide) HNX.out); clear y0 x0 x1 x2 x3 x4; have y0 := HB3.out.at (k := 0) (v := .pointer (some ⟨g,0,none⟩)) rfl; have x0 := HX3.out.at (k := 0) (v := .int .i64 r) rfl; have x1 := HX3.out.at (k := 1) (v := .int .i64 0) rfl; have x2 := HX3.out.at (k := 2) (v := .int .i64 t) rfl; have x3 := HX3.out.at (k := 3) (v := .slice po nf co) rfl; have x4 := HX3.out.at (k := 4) (v := .slice pg ng cg) rfl; clear hw' hf)
   | (go_at_call 169; (with_reducible refine (bytes_says B g _ [0] _ _ (HW3.out.alloc _) (LT.one (0) 1 HW3.out.lt) HN3.out).mono ?_); rintro e w4 ⟨rfl,hw',hf⟩; have HW4 := hid hw'; have HF4 := hid ((HF3.out.alloc _).trans hf); have HB4 := hid ((HB3.out.alloc _).fr hf (by decide) HNB.out); have HX4 := hid ((HX3.out.alloc _).fr hf (by decide) HNX.out); clear y0 x0 x1 x2 x3 x4; have y0 := HB4.out.at (k := 0) (v := .pointer (some ⟨g,0,none⟩)) rfl; have x0 := HX4.out.at (k := 0) (v := .int .i64 r) rfl; have x1 := HX4.out.at (k := 1) (v := .int .i64 0) rfl; have x2 := HX4.out.at (k := 2) (v := .int .i64 t) rfl; have x3 := HX4.out.at (k := 3) (v := .slice po nf co) rfl; have x4 := HX4.out.at (k := 4) (v := .slice pg ng cg) rfl; clear hw' hf)
   | (go_at_call 191; (with_reducible refine (HLS.out _ _ HF4.out HB4.out HW4.out (by have := HN4.out; omega)).mono ?_); rintro e w5 ⟨rfl,hw',hf⟩; have HW5 := hid hw'; have HF5 := hid ((HF4.out).trans hf); have HB5 := hid ((HB4.out).fr hf (by decide) HNB.out); have HX5 := hid ((HX4.out).fr hf (by decide) HNX.out); clear y0 x0 x1 x2 x3 x4; have y0 := HB5.out.at (k := 0) (v := .pointer (some ⟨g,0,none⟩)) rfl; have x0 := HX5.out.at (k := 0) (v := .int .i64 r) rfl; have x1 := HX5.out.at (k := 1) (v := .int .i64 0) rfl; have x2 := HX5.out.at (k := 2) (v := .int .i64 t) rfl; have x3 := HX5.out.at (k := 3) (v := .slice po nf co) rfl; have x4 := HX5.out.at (k := 4) (v := .slice pg ng cg) rfl; clear hw' hf))
  (first | go_end0 | refine bodyPost_ret (results_none rfl _ _ _) rfl ?_)
  refine ⟨rfl,?_,HF5.out⟩
  have := HW5.out
  simpa using this
set_option maxHeartbeats 4000000 in
theorem elem_tC (B g L : Nat) (bs : List UInt8) (r : Int) (t : Int) (f : Fo) (po pg : Option Addr) (co cg ng bg og : Nat) (gf : Nat → Fo) (q : Nat → Option Addr) (d : Nat → Nat) (w : World) (hL : L ≤ lo B g) (hct : f.cnt < 9223372036854775806) (hok : okE f) (hsz : f.siz ≤ 61200000) (hs : SA L w (.slice po f.len co) f)
  (hg : Goods ng gf) (hk : KO L w pg ng bg og gf q d) (hfs : ((List.range ng).all (fun k => isFun (gf k)) && ((r : Int) == 112)) = true) (hw : WR B g bs w) (hn : bs.length ≤ 3000000000000) :
  Calls Tryz.prog 122 #[.pointer (some ⟨g,0,none⟩),.agg #[.int .i64 r,.int .i64 1,.int .i64 t,.slice po f.len co,.slice pg ng cg]] w fun e w' => e = .returned (.tuple #[]) ∧ WR B g (bs ++ ([1,0].map byI ++ (uI ng ++ flB ng (fun k => iniL true (gf k))))) w' ∧ FR B g w w' := by
 have hB := hw.1
 have hLw : L ≤ w.heap.size := Nat.le_trans hL (Nat.le_trans (lo_B B g) hB)
 have hgl := hw.lt
 have hb1 := CA.new w #[.pointer (some ⟨g,0,none⟩)] 135
 have hb1' := hb1.alloc (.cells #[.int .i64 r,.int .i64 1,.int .i64 t,.slice po f.len co,.slice pg ng cg] 62)
 have hb2 := CA.new (w.alloc (.cells #[.pointer (some ⟨g,0,none⟩)] 135)) #[.int .i64 r,.int .i64 1,.int .i64 t,.slice po f.len co,.slice pg ng cg] 62
 rw [size_al] at hb2
 have hbel : Below w.heap.size w ((w.alloc (.cells #[.pointer (some ⟨g,0,none⟩)] 135)).alloc (.cells #[.int .i64 r,.int .i64 1,.int .i64 t,.slice po f.len co,.slice pg ng cg] 62)) := ((Below.refl _ _).alloc (Nat.le_refl _) _).alloc (by rw [size_al]; omega) _
 have hF00 := ((FR.refl B g w).alloc (.cells #[.pointer (some ⟨g,0,none⟩)] 135)).alloc (.cells #[.int .i64 r,.int .i64 1,.int .i64 t,.slice po f.len co,.slice pg ng cg] 62)
 have HF00 := hid hF00
 have HB0 := hid hb1'
 have HX0 := hid hb2
 have HW00 := hid ((hw.alloc (.cells #[.pointer (some ⟨g,0,none⟩)] 135)).alloc (.cells #[.int .i64 r,.int .i64 1,.int .i64 t,.slice po f.len co,.slice pg ng cg] 62))
 have HNB := hid (show w.heap.size ≠ g by omega)
 have HNX := hid (show w.heap.size + 1 ≠ g by omega)
 have HCT := hid hct
 have HOK := hid hok
 have HSAw := hid (fun (W : World) (h : FR B g w W) => SA.mono (SA.below hs ((h.belowL hB).mono hL)) hL)
 have HIS := hid (fun (W : World) (h : FR B g w W) => isFuncs_says L r 1 t po pg f.len co ng cg bg og gf q d W (Nat.le_trans hLw h.size) (hk.below ((h.belowL hB).mono hL)))
 rw [hfs] at HIS
 have HKO := hid (fun (W : World) (h : FR B g w W) => hk.below ((h.belowL hB).mono hL))
 have hallf : ∀ k,k < ng → isFun (gf k) = true := fun k hk2 => List.all_eq_true.1 ((Bool.and_eq_true _ _ ▸ hfs : _ ∧ _).1) k (List.mem_range.2 hk2)
 have HLSw := hid (fun (bs : List UInt8) (W : World) (h : FR B g w W) (hb : CA w.heap.size #[.pointer (some ⟨g,0,none⟩)] 135 W) (hW : WR B g bs W) (hn : bs.length ≤ 3100000000000) => list_true B g w.heap.size L hL ng gf hg hallf pg cg bg og q d W (hk.below ((h.belowL hB).mono hL)) (by omega) hb bs hW hn)
 have hef := enc_siz f hok
 have HN0 := hid (show (bs).length + ([1,0] : List Int).length ≤ 140737488355000 by
  have h1 := hn
  have h2 := hsz
  have h3 := hef
  (try simp only [List.length_append,List.length_cons,List.length_nil,List.length_map])
  omega)
 have HN1 := hid (show (bs ++ List.map byI [1,0]).length + 0 ≤ 3100000000000 by
  have h1 := hn
  have h2 := hsz
  have h3 := hef
  (try simp only [List.length_append,List.length_cons,List.length_nil,List.length_map])
  omega)
 clear hb1 hb1' hb2 hbel hF00 hw hn hct hok hsz hs hg hk hfs hL hB hLw hgl hef hallf
 generalize f.len = nf at *
 go_enter Tryz.func122,Tryz.ntmps122
 go_upto_region 1 with fail
 generalize (w.alloc (.cells #[.pointer (some ⟨g,0,none⟩)] 135)).alloc (.cells #[.int .i64 r,.int .i64 1,.int .i64 t,.slice po nf co,.slice pg ng cg] 62) = w0 at *
 generalize w.heap.size + 1 = be at *
 generalize w.heap.size = bx at *
 have hS : Below w0.heap.size w0 w0.drew := (Below.refl _ _).drew
 refine wp_region_held_drew (S := fun W => Below w0.heap.size w0 W) (by kernel_rfl) hS (fun _ => ?_)
 generalize w0.drew = W at *
 refine zt 0 (.pointer (some ⟨be,0,none⟩)) rfl ?_ ?_
 ·(intro W hSw; have x0 := (HX0.out.below hSw HX0.out.lt).at (k := 0) (v := .int .i64 r) rfl; go_simp; try (with_reducible rfl))
 try simp only [Act.put,sl2,sl0,sl1]
 refine zt 1 (.int .i64 r) rfl ?_ ?_
 ·(intro W hSw; have x0 := (HX0.out.below hSw HX0.out.lt).at (k := 0) (v := .int .i64 r) rfl; go_simp; try (with_reducible rfl))
 try simp only [Act.put,sl2,sl0,sl1]
 refine zt 2 (.int .i64 4) rfl ?_ ?_
 ·(intro W hSw; have x0 := (HX0.out.below hSw HX0.out.lt).at (k := 0) (v := .int .i64 r) rfl; go_simp; try (with_reducible rfl))
 try simp only [Act.put,sl2,sl0,sl1]
 refine zt 3 (.int .i64 r) rfl ?_ ?_
 ·(intro W hSw; have x0 := (HX0.out.below hSw HX0.out.lt).at (k := 0) (v := .int .i64 r) rfl; go_simp; try (with_reducible rfl))
 try simp only [Act.put,sl2,sl0,sl1]
 refine wpAnyH_done (by kernel_rfl) ?_ _
 have HBW := hid hS
 clear hS
 have HB0 := hid (HB0.out.below HBW.out HB0.out.lt)
 have HX0 := hid (HX0.out.below HBW.out HX0.out.lt)
 have HF0 := hid (HF00.out.trans (FR.of HBW.out))
 have HW0 := hid (HW00.out.call HBW.out)
 clear HBW HF00 HW00
 generalize W = w1' at *
 have y0 := HB0.out.at (k := 0) (v := .pointer (some ⟨g,0,none⟩)) rfl
 have x0 := HX0.out.at (k := 0) (v := .int .i64 r) rfl
 have x1 := HX0.out.at (k := 1) (v := .int .i64 1) rfl
 have x2 := HX0.out.at (k := 2) (v := .int .i64 t) rfl
 have x3 := HX0.out.at (k := 3) (v := .slice po nf co) rfl
 have x4 := HX0.out.at (k := 4) (v := .slice pg ng cg) rfl
 have HII := hid (HIS.out w1' HF0.out)
 go_upto_region 4 with (go_at_call 190; (with_reducible refine HII.out.mono ?_); rintro e w2' ⟨rfl,hb⟩; have HBZ := hid hb; clear hb)
 clear y0 x0 x1 x2 x3 x4
 have HF0 := hid (HF0.out.trans (FR.of HBZ.out))
 have HW0 := hid (HW0.out.call HBZ.out)
 have HB0 := hid (HB0.out.below HBZ.out HB0.out.lt)
 have HX0 := hid (HX0.out.below HBZ.out HX0.out.lt)
 clear HBZ HII
 have hmf : ∀ (fn : Fn) (first cap : Array Value) (w : World),(Instr.makeFunc fn first cap).run Tryz.prog w = .ok (.func fn first cap) w := fun _ _ _ _ => rfl
 have HSA := hid (fun (W : World) (h : FR B g w W) => HSAw.out W h)
 have HLS := hid (fun (bs : List UInt8) (W : World) (h : FR B g w W) (hb : CA bx #[.pointer (some ⟨g,0,none⟩)] 135 W) (hW : WR B g bs W) (hn : bs.length ≤ 3100000000000) => HLSw.out bs W h hb hW hn)
 clear HSAw HLSw HIS HKO
 have y0 := HB0.out.at (k := 0) (v := .pointer (some ⟨g,0,none⟩)) rfl
 have x0 := HX0.out.at (k := 0) (v := .int .i64 r) rfl
 have x1 := HX0.out.at (k := 1) (v := .int .i64 1) rfl
 have x2 := HX0.out.at (k := 2) (v := .int .i64 t) rfl
 have x3 := HX0.out.at (k := 3) (v := .slice po nf co) rfl
 have x4 := HX0.out.at (k := 4) (v := .slice pg ng cg) rfl
 go_wp2_with (first
  | (go_at_call 169; (with_reducible refine (bytes_says B g _ [1,0] _ _ (HW0.out.alloc _) (LT.two (1) (0) 2 HW0.out.lt) HN0.out).mono ?_); rintro e w1 ⟨rfl,hw',hf⟩; have HW1 := hid hw'; have HF1 := hid ((HF0.out.alloc _).trans hf); have HB1 := hid ((HB0.out.alloc _).fr hf (by decide) HNB.out); have HX1 := hid ((HX0.out.alloc _).fr hf (by decide) HNX.out); clear y0 x0 x1 x2 x3 x4; have y0 := HB1.out.at (k := 0) (v := .pointer (some ⟨g,0,none⟩)) rfl; have x0 := HX1.out.at (k := 0) (v := .int .i64 r) rfl; have x1 := HX1.out.at (k := 1) (v := .int .i64 1) rfl; have x2 := HX1.out.at (k := 2) (v := .int .i64 t) rfl; have x3 := HX1.out.at (k := 3) (v := .slice po nf co) rfl; have x4 := HX1.out.at (k := 4) (v := .slice pg ng cg) rfl; clear hw' hf)
  | (go_at_call 191; (with_reducible refine (HLS.out _ _ HF1.out HB1.out HW1.out (by have := HN1.out; omega)).mono ?_); rintro e w2 ⟨rfl,hw',hf⟩; have HW2 := hid hw'; have HF2 := hid ((HF1.out).trans hf); have HB2 := hid ((HB1.out).fr hf (by decide) HNB.out); have HX2 := hid ((HX1.out).fr hf (by decide) HNX.out); clear y0 x0 x1 x2 x3 x4; have y0 := HB2.out.at (k := 0) (v := .pointer (some ⟨g,0,none⟩)) rfl; have x0 := HX2.out.at (k := 0) (v := .int .i64 r) rfl; have x1 := HX2.out.at (k := 1) (v := .int .i64 1) rfl; have x2 := HX2.out.at (k := 2) (v := .int .i64 t) rfl; have x3 := HX2.out.at (k := 3) (v := .slice po nf co) rfl; have x4 := HX2.out.at (k := 4) (v := .slice pg ng cg) rfl; clear hw' hf))
 (first | go_end0 | refine bodyPost_ret (results_none rfl _ _ _) rfl ?_)
 refine ⟨rfl,?_,HF2.out⟩
 have := HW2.out
 simpa using this
set_option maxHeartbeats 4000000 in
theorem elem_tD (B g L : Nat) (bs : List UInt8) (r : Int) (t : Int) (f : Fo) (po pg : Option Addr) (co cg ng bg og : Nat) (gf : Nat → Fo) (q : Nat → Option Addr) (d : Nat → Nat) (w : World) (hL : L ≤ lo B g) (hct : f.cnt < 9223372036854775806) (hok : okE f) (hsz : f.siz ≤ 61200000) (hs : SA L w (.slice po f.len co) f)
  (hg : Goods ng gf) (hk : KO L w pg ng bg og gf q d) (hfs : ((List.range ng).all (fun k => isFun (gf k)) && ((r : Int) == 112)) = true) (hw : WR B g bs w) (hn : bs.length ≤ 3000000000000) :
  Calls Tryz.prog 122 #[.pointer (some ⟨g,0,none⟩),.agg #[.int .i64 r,.int .i64 2,.int .i64 t,.slice po f.len co,.slice pg ng cg]] w fun e w' => e = .returned (.tuple #[]) ∧ WR B g (bs ++ ([3,0].map byI ++ (uI ng ++ flB ng (fun k => iniL true (gf k))))) w' ∧ FR B g w w' := by
 have hB := hw.1
 have hLw : L ≤ w.heap.size := Nat.le_trans hL (Nat.le_trans (lo_B B g) hB)
 have hgl := hw.lt
 have hb1 := CA.new w #[.pointer (some ⟨g,0,none⟩)] 135
 have hb1' := hb1.alloc (.cells #[.int .i64 r,.int .i64 2,.int .i64 t,.slice po f.len co,.slice pg ng cg] 62)
 have hb2 := CA.new (w.alloc (.cells #[.pointer (some ⟨g,0,none⟩)] 135)) #[.int .i64 r,.int .i64 2,.int .i64 t,.slice po f.len co,.slice pg ng cg] 62
 rw [size_al] at hb2
 have hbel : Below w.heap.size w ((w.alloc (.cells #[.pointer (some ⟨g,0,none⟩)] 135)).alloc (.cells #[.int .i64 r,.int .i64 2,.int .i64 t,.slice po f.len co,.slice pg ng cg] 62)) := ((Below.refl _ _).alloc (Nat.le_refl _) _).alloc (by rw [size_al]; omega) _
 have hF00 := ((FR.refl B g w).alloc (.cells #[.pointer (some ⟨g,0,none⟩)] 135)).alloc (.cells #[.int .i64 r,.int .i64 2,.int .i64 t,.slice po f.len co,.slice pg ng cg] 62)
 have HF00 := hid hF00
 have HB0 := hid hb1'
 have HX0 := hid hb2
 have HW00 := hid ((hw.alloc (.cells #[.pointer (some ⟨g,0,none⟩)] 135)).alloc (.cells #[.int .i64 r,.int .i64 2,.int .i64 t,.slice po f.len co,.slice pg ng cg] 62))
 have HNB := hid (show w.heap.size ≠ g by omega)
 have HNX := hid (show w.heap.size + 1 ≠ g by omega)
 have HCT := hid hct
 have HOK := hid hok
 have HSAw := hid (fun (W : World) (h : FR B g w W) => SA.mono (SA.below hs ((h.belowL hB).mono hL)) hL)
 have HIS := hid (fun (W : World) (h : FR B g w W) => isFuncs_says L r 2 t po pg f.len co ng cg bg og gf q d W (Nat.le_trans hLw h.size) (hk.below ((h.belowL hB).mono hL)))
 rw [hfs] at HIS
 have HKO := hid (fun (W : World) (h : FR B g w W) => hk.below ((h.belowL hB).mono hL))
 have hallf : ∀ k,k < ng → isFun (gf k) = true := fun k hk2 => List.all_eq_true.1 ((Bool.and_eq_true _ _ ▸ hfs : _ ∧ _).1) k (List.mem_range.2 hk2)
 have HLSw := hid (fun (bs : List UInt8) (W : World) (h : FR B g w W) (hb : CA w.heap.size #[.pointer (some ⟨g,0,none⟩)] 135 W) (hW : WR B g bs W) (hn : bs.length ≤ 3100000000000) => list_true B g w.heap.size L hL ng gf hg hallf pg cg bg og q d W (hk.below ((h.belowL hB).mono hL)) (by omega) hb bs hW hn)
 have hef := enc_siz f hok
 have HN0 := hid (show (bs).length + ([3,0] : List Int).length ≤ 140737488355000 by
  have h1 := hn
  have h2 := hsz
  have h3 := hef
  (try simp only [List.length_append,List.length_cons,List.length_nil,List.length_map])
  omega)
 have HN1 := hid (show (bs ++ List.map byI [3,0]).length + 0 ≤ 3100000000000 by
  have h1 := hn
  have h2 := hsz
  have h3 := hef
  (try simp only [List.length_append,List.length_cons,List.length_nil,List.length_map])
  omega)
 clear hb1 hb1' hb2 hbel hF00 hw hn hct hok hsz hs hg hk hfs hL hB hLw hgl hef hallf
 generalize f.len = nf at *
 go_enter Tryz.func122,Tryz.ntmps122
 go_upto_region 1 with fail
 generalize (w.alloc (.cells #[.pointer (some ⟨g,0,none⟩)] 135)).alloc (.cells #[.int .i64 r,.int .i64 2,.int .i64 t,.slice po nf co,.slice pg ng cg] 62) = w0 at *
 generalize w.heap.size + 1 = be at *
 generalize w.heap.size = bx at *
 have hS : Below w0.heap.size w0 w0.drew := (Below.refl _ _).drew
 refine wp_region_held_drew (S := fun W => Below w0.heap.size w0 W) (by kernel_rfl) hS (fun _ => ?_)
 generalize w0.drew = W at *
 refine zt 0 (.pointer (some ⟨be,0,none⟩)) rfl ?_ ?_
 ·(intro W hSw; have x0 := (HX0.out.below hSw HX0.out.lt).at (k := 0) (v := .int .i64 r) rfl; go_simp; try (with_reducible rfl))
 try simp only [Act.put,sl2,sl0,sl1]
 refine zt 1 (.int .i64 r) rfl ?_ ?_
 ·(intro W hSw; have x0 := (HX0.out.below hSw HX0.out.lt).at (k := 0) (v := .int .i64 r) rfl; go_simp; try (with_reducible rfl))
 try simp only [Act.put,sl2,sl0,sl1]
 refine zt 2 (.int .i64 4) rfl ?_ ?_
 ·(intro W hSw; have x0 := (HX0.out.below hSw HX0.out.lt).at (k := 0) (v := .int .i64 r) rfl; go_simp; try (with_reducible rfl))
 try simp only [Act.put,sl2,sl0,sl1]
 refine zt 3 (.int .i64 r) rfl ?_ ?_
 ·(intro W hSw; have x0 := (HX0.out.below hSw HX0.out.lt).at (k := 0) (v := .int .i64 r) rfl; go_simp; try (with_reducible rfl))
 try simp only [Act.put,sl2,sl0,sl1]
 refine wpAnyH_done (by kernel_rfl) ?_ _
 have HBW := hid hS
 clear hS
 have HB0 := hid (HB0.out.below HBW.out HB0.out.lt)
 have HX0 := hid (HX0.out.below HBW.out HX0.out.lt)
 have HF0 := hid (HF00.out.trans (FR.of HBW.out))
 have HW0 := hid (HW00.out.call HBW.out)
 clear HBW HF00 HW00
 generalize W = w1' at *
 have y0 := HB0.out.at (k := 0) (v := .pointer (some ⟨g,0,none⟩)) rfl
 have x0 := HX0.out.at (k := 0) (v := .int .i64 r) rfl
 have x1 := HX0.out.at (k := 1) (v := .int .i64 2) rfl
 have x2 := HX0.out.at (k := 2) (v := .int .i64 t) rfl
 have x3 := HX0.out.at (k := 3) (v := .slice po nf co) rfl
 have x4 := HX0.out.at (k := 4) (v := .slice pg ng cg) rfl
 have HII := hid (HIS.out w1' HF0.out)
 go_upto_region 4 with (go_at_call 190; (with_reducible refine HII.out.mono ?_); rintro e w2' ⟨rfl,hb⟩; have HBZ := hid hb; clear hb)
 clear y0 x0 x1 x2 x3 x4
 have HF0 := hid (HF0.out.trans (FR.of HBZ.out))
 have HW0 := hid (HW0.out.call HBZ.out)
 have HB0 := hid (HB0.out.below HBZ.out HB0.out.lt)
 have HX0 := hid (HX0.out.below HBZ.out HX0.out.lt)
 clear HBZ HII
 have hmf : ∀ (fn : Fn) (first cap : Array Value) (w : World),(Instr.makeFunc fn first cap).run Tryz.prog w = .ok (.func fn first cap) w := fun _ _ _ _ => rfl
 have HSA := hid (fun (W : World) (h : FR B g w W) => HSAw.out W h)
 have HLS := hid (fun (bs : List UInt8) (W : World) (h : FR B g w W) (hb : CA bx #[.pointer (some ⟨g,0,none⟩)] 135 W) (hW : WR B g bs W) (hn : bs.length ≤ 3100000000000) => HLSw.out bs W h hb hW hn)
 clear HSAw HLSw HIS HKO
 have y0 := HB0.out.at (k := 0) (v := .pointer (some ⟨g,0,none⟩)) rfl
 have x0 := HX0.out.at (k := 0) (v := .int .i64 r) rfl
 have x1 := HX0.out.at (k := 1) (v := .int .i64 2) rfl
 have x2 := HX0.out.at (k := 2) (v := .int .i64 t) rfl
 have x3 := HX0.out.at (k := 3) (v := .slice po nf co) rfl
 have x4 := HX0.out.at (k := 4) (v := .slice pg ng cg) rfl
 go_wp2_with (first
  | (go_at_call 169; (with_reducible refine (bytes_says B g _ [3,0] _ _ (HW0.out.alloc _) (LT.two (3) (0) 2 HW0.out.lt) HN0.out).mono ?_); rintro e w1 ⟨rfl,hw',hf⟩; have HW1 := hid hw'; have HF1 := hid ((HF0.out.alloc _).trans hf); have HB1 := hid ((HB0.out.alloc _).fr hf (by decide) HNB.out); have HX1 := hid ((HX0.out.alloc _).fr hf (by decide) HNX.out); clear y0 x0 x1 x2 x3 x4; have y0 := HB1.out.at (k := 0) (v := .pointer (some ⟨g,0,none⟩)) rfl; have x0 := HX1.out.at (k := 0) (v := .int .i64 r) rfl; have x1 := HX1.out.at (k := 1) (v := .int .i64 2) rfl; have x2 := HX1.out.at (k := 2) (v := .int .i64 t) rfl; have x3 := HX1.out.at (k := 3) (v := .slice po nf co) rfl; have x4 := HX1.out.at (k := 4) (v := .slice pg ng cg) rfl; clear hw' hf)
  | (go_at_call 191; (with_reducible refine (HLS.out _ _ HF1.out HB1.out HW1.out (by have := HN1.out; omega)).mono ?_); rintro e w2 ⟨rfl,hw',hf⟩; have HW2 := hid hw'; have HF2 := hid ((HF1.out).trans hf); have HB2 := hid ((HB1.out).fr hf (by decide) HNB.out); have HX2 := hid ((HX1.out).fr hf (by decide) HNX.out); clear y0 x0 x1 x2 x3 x4; have y0 := HB2.out.at (k := 0) (v := .pointer (some ⟨g,0,none⟩)) rfl; have x0 := HX2.out.at (k := 0) (v := .int .i64 r) rfl; have x1 := HX2.out.at (k := 1) (v := .int .i64 2) rfl; have x2 := HX2.out.at (k := 2) (v := .int .i64 t) rfl; have x3 := HX2.out.at (k := 3) (v := .slice po nf co) rfl; have x4 := HX2.out.at (k := 4) (v := .slice pg ng cg) rfl; clear hw' hf))
 (first | go_end0 | refine bodyPost_ret (results_none rfl _ _ _) rfl ?_)
 refine ⟨rfl,?_,HF2.out⟩
 have := HW2.out
 simpa using this
end Go.Proofs.YtjgeedgphcjhoaaGreat
