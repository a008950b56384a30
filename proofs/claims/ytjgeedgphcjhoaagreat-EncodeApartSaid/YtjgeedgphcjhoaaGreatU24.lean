/-
  WEl1, WEl2, WList2: merged, what the law does not reach left out (each text says what it holds where it lies in wip). No condition.
-/
import Derived.Test.YtjgeedgphcjhoaaGreatU23
import Derived.Deep.DeepCutAuto
import Derived.Test.YtjgeedgphcjhoaaGreatU20
import Derived.Test.YtjgeedgphcjhoaaGreatU01
set_option linter.unusedSimpArgs false
set_option linter.unusedVariables false
set_option maxRecDepth 100000
namespace Go.Proofs.YtjgeedgphcjhoaaGreat
open Go.RowKit
theorem mfX_len (l : List Int) (f : Fo) (hl : l.length ≤ 60000) (hok : okE f) (hsz : f.siz ≤ 61200000) : (locL l ++ codL f).length ≤ 70000000 := by
 have h1 := runs_le l
 have h2 := rbL_len (runsL l)
 have h3 := uI_len (runsL l).length
 have h4 := enc_siz f hok
 unfold locL codL
 simp only [List.length_append,List.length_cons,List.length_nil]
 omega
set_option maxHeartbeats 4000000 in
theorem func_says (B g L : Nat) (bs : List UInt8) (ty : Int) (l : List Int) (f : Fo) (pl pf : Option Addr) (cl cf : Nat) (w : World) (hL : L ≤ lo B g) (hl : l.length ≤ 60000) (hLI : LI L w (.slice pl l.length cl) l)
  (hct : f.cnt < 9223372036854775806) (hok : okE f) (hsz : f.siz ≤ 61200000) (hs : SA L w (.slice pf f.len cf) f) (hw : WR B g bs w) (hn : bs.length ≤ 100000000000000) :
  Calls Tryz.prog 125 #[.pointer (some ⟨g,0,none⟩),.agg #[.int .i64 ty,.slice pl l.length cl,.slice pf f.len cf]] w fun e w' => e = .returned (.tuple #[]) ∧ WR B g (bs ++ szL (locL l ++ codL f)) w' ∧ FR B g w w' := by
 have hB := hw.1
 have hLw : L ≤ w.heap.size := Nat.le_trans hL (Nat.le_trans (lo_B B g) hB)
 have hgl := hw.lt
 have hb1 := CA.new w #[.pointer (some ⟨g,0,none⟩)] 135
 have hb1' := hb1.alloc (.cells #[.int .i64 ty,.slice pl l.length cl,.slice pf f.len cf] 42)
 have hb2 := CA.new (w.alloc (.cells #[.pointer (some ⟨g,0,none⟩)] 135)) #[.int .i64 ty,.slice pl l.length cl,.slice pf f.len cf] 42
 rw [size_al] at hb2
 have hbel : Below w.heap.size w ((w.alloc (.cells #[.pointer (some ⟨g,0,none⟩)] 135)).alloc (.cells #[.int .i64 ty,.slice pl l.length cl,.slice pf f.len cf] 42)) := ((Below.refl _ _).alloc (Nat.le_refl _) _).alloc (by rw [size_al]; omega) _
 have hF0 := ((FR.refl B g w).alloc (.cells #[.pointer (some ⟨g,0,none⟩)] 135)).alloc (.cells #[.int .i64 ty,.slice pl l.length cl,.slice pf f.len cf] 42)
 have HF0 := hid hF0
 have HB1 := hid hb1'
 have HC := hid (sized_wm B g 194 (fun _ _ => rfl) #[.pointer (some ⟨w.heap.size,0,none⟩),.pointer (some ⟨w.heap.size + 1,0,none⟩)] (locL l ++ codL f) ((w.alloc (.cells #[.pointer (some ⟨g,0,none⟩)] 135)).alloc (.cells #[.int .i64 ty,.slice pl l.length cl,.slice pf f.len cf] 42)) (Nat.le_trans (mfX_len l f hl hok hsz) (by decide))
  (fun B' W hBB hF hW => func_in B' g w.heap.size (w.heap.size + 1) L ty l f pl pf cl cf W (le_lo (Nat.le_trans hL (Nat.le_trans (lo_B B g) hBB)) (Nat.le_trans hL (lo_g B g))) hl (hLI.below (((hF0.trans hF).belowL hB).mono hL)) hct hok hsz (SA.below hs (((hF0.trans hF).belowL hB).mono hL)) (hb1'.fr hF (by decide) (by omega)) (hb2.fr hF (by decide) (by omega)) (by omega) (by omega) hW) bs ((hw.alloc _).alloc _) hn)
 have hmf : ∀ (fn : Fn) (first cap : Array Value) (w : World),(Instr.makeFunc fn first cap).run Tryz.prog w = .ok (.func fn first cap) w := fun _ _ _ _ => rfl
 clear hLI hs hw hct hok hsz hB hLw hL hl hb1 hb1' hb2 hbel hF0 hgl hn
 generalize f.len = m at *
 generalize l.length = n at *
 generalize szL (locL l ++ codL f) = X at *
 go_enter Tryz.func125,Tryz.ntmps125
 go_upto_region 1 with fail
 generalize (w.alloc (.cells #[.pointer (some ⟨g,0,none⟩)] 135)).alloc (.cells #[.int .i64 ty,.slice pl n cl,.slice pf m cf] 42) = w0 at *
 generalize w.heap.size = gx at *
 have y0 := HB1.out.at (k := 0) (v := .pointer (some ⟨g,0,none⟩)) rfl
 go_wp2_with (go_at_call 187; (with_reducible refine HC.out.mono ?_); rintro e w1 ⟨rfl,hw',hf⟩; have HW1 := hid hw'; have HF1 := hid (HF0.out.trans hf); clear hw' hf)
 (first | go_end0 | refine bodyPost_ret (results_none rfl _ _ _) rfl ?_)
 exact ⟨rfl,HW1.out,HF1.out⟩
set_option maxHeartbeats 2000000 in
theorem mc_Fun (B g b L : Nat) (bs : List UInt8) (ty : Int) (l : List Int) (f : Fo) (pl pf : Option Addr) (cl cf : Nat) (w : World) (hL : L ≤ lo B g) (hl : l.length ≤ 60000) (hLI : LI L w (.slice pl l.length cl) l)
  (hct : f.cnt < 9223372036854775806) (hok : okE f) (hsz : f.siz ≤ 61200000) (hs : SA L w (.slice pf f.len cf) f) (hb : CA b #[.pointer (some ⟨g,0,none⟩)] 135 w) (hw : WR B g bs w) (hn : bs.length ≤ 3000000000000) :
  Calls Tryz.prog 124 #[.agg #[.int .i64 ty,.slice pl l.length cl,.slice pf f.len cf],.pointer (some ⟨b,0,none⟩)] w fun e w' => e = .returned (.tuple #[]) ∧ WR B g (bs ++ szL (locL l ++ codL f)) w' ∧ FR B g w w' := by
 have HX0 := hid (CA.new w #[.int .i64 ty,.slice pl l.length cl,.slice pf f.len cf] 42)
 have HB0 := hid (hb.alloc (.cells #[.int .i64 ty,.slice pl l.length cl,.slice pf f.len cf] 42))
 have HF0 := hid ((FR.refl B g w).alloc (.cells #[.int .i64 ty,.slice pl l.length cl,.slice pf f.len cf] 42))
 have hba := ((Below.refl w.heap.size w).alloc (Nat.le_refl _) (.cells #[.int .i64 ty,.slice pl l.length cl,.slice pf f.len cf] 42)).mono (show L ≤ w.heap.size from Nat.le_trans hL (Nat.le_trans (lo_B B g) hw.1))
 have HC := hid (func_says B g L bs ty l f pl pf cl cf (w.alloc (.cells #[.int .i64 ty,.slice pl l.length cl,.slice pf f.len cf] 42)) hL hl (hLI.below hba) hct hok hsz (SA.below hs hba) (hw.alloc _) (by omega))
 clear hb hw hn hba hLI hs hct hok hsz hL hl
 generalize f.len = m at *
 generalize l.length = n at *
 generalize szL (locL l ++ codL f) = X at *
 go_enter Tryz.func124,Tryz.ntmps124
 go_upto_region 1 with fail
 generalize w.alloc (.cells #[.int .i64 ty,.slice pl n cl,.slice pf m cf] 42) = w0 at *
 generalize w.heap.size = gx at *
 have y0 := HB0.out.at (k := 0) (v := .pointer (some ⟨g,0,none⟩)) rfl
 have x0 := HX0.out.at (k := 0) (v := .int .i64 ty) rfl
 have x1 := HX0.out.at (k := 1) (v := .slice pl n cl) rfl
 have x2 := HX0.out.at (k := 2) (v := .slice pf m cf) rfl
 go_wp2_with (go_at_call 125; (with_reducible refine HC.out.mono ?_); rintro e w1 ⟨rfl,hw',hf⟩; have HW1 := hid hw'; have HF1 := hid (HF0.out.trans hf); clear hw' hf)
 (first | go_end0 | refine bodyPost_ret (results_none rfl _ _ _) rfl ?_)
 exact ⟨rfl,HW1.out,HF1.out⟩
theorem mc_code (B g b : Nat) (bs : List UInt8) (f : Fo) (pf : Option Addr) (cf : Nat) (w : World) (hct : f.cnt < 9223372036854775806) (hok : okE f) (hsz : f.siz ≤ 61200000) (hs : SA (lo B g) w (.slice pf f.len cf) f) (hb : CA b #[.pointer (some ⟨g,0,none⟩)] 135 w) (hw : WR B g bs w) (hn : bs.length ≤ 4000000000000) :
  Calls Tryz.prog 192 #[.slice pf f.len cf,.pointer (some ⟨b,0,none⟩)] w fun e w' => e = .returned (.tuple #[]) ∧ WR B g (bs ++ codL f) w' ∧ FR B g w w' := by
 have HC := hid (code_says B g f hct hok (.slice pf f.len cf) bs w hw hs (by omega))
 have y0 := hb.at (k := 0) (v := .pointer (some ⟨g,0,none⟩)) rfl
 clear hb hw hn hs hct hok hsz
 unfold codL
 generalize f.enc ++ [11] = X at *
 generalize f.len = m at *
 go_enter Tryz.func192,Tryz.ntmps192
 go_wp2_with (go_at_call 136; (with_reducible refine HC.out.mono ?_); rintro e w1 ⟨rfl,hw',hf⟩; have HW1 := hid hw'; have HF1 := hid hf; clear hw' hf)
 (first | go_end0 | refine bodyPost_ret (results_none rfl _ _ _) rfl ?_)
 exact ⟨rfl,HW1.out,HF1.out⟩
set_option maxHeartbeats 4000000 in
theorem mc_fst (B g b : Nat) (bs : List UInt8) (f : Fo) (hf : isFun f = true) (pf : Option Addr) (cf : Nat) (w : World) (hs : SA (lo B g) w (.slice pf f.len cf) f) (hbg : b ≠ g) (hb : CA b #[.pointer (some ⟨g,0,none⟩)] 135 w) (hw : WR B g bs w) (hn : bs.length ≤ 4000000000000) :
  Calls Tryz.prog 193 #[.slice pf f.len cf,.pointer (some ⟨b,0,none⟩)] w fun e w' => e = .returned (.tuple #[]) ∧ WR B g (bs ++ uI (fstA f)) w' ∧ FR B g w w' := by
 obtain ⟨op,a,b2,n,h,l,ot,body,els,rfl⟩ : ∃ op a b2 n h l ot body els,f = .cons op a b2 n h l ot body els .nil := by
  match f,hf with
  | .cons op a b2 n h l ot body els .nil,_ => exact ⟨_,_,_,_,_,_,_,_,_,rfl⟩
 obtain ⟨p',c',gf,of,e1,e2,e3⟩ := hs
 injection e1 with e1 _ _
 subst e1
 obtain rfl := e2 (by simp [Fo.len])
 obtain ⟨hgl,⟨vl,vb,ve,_,x1,_⟩,_⟩ := e3
 have HX1 := hid (fun (W : World) (h : FR B g w W) => ((h.belowL hw.1).cell (p := ⟨gf,of + 1,none⟩) hgl).trans x1)
 have HU := fun (W : World) (h : Hid (WR B g bs W)) => hid (u_says B g bs a W h.out.1 h.out (by omega))
 have HBW := hid hb
 have HNW := hid hbg
 have HW0 := hid hw
 have e0 : fstA (.cons op a b2 n h l ot body els .nil) = a := rfl
 rw [e0]
 have e0 : (Fo.cons op a b2 n h l ot body els .nil).len = 1 := rfl
 rw [e0]
 clear hb hbg hw hn hf e0 e2 x1 hgl
 go_enter Tryz.func193,Tryz.ntmps193
 go_upto_region 0 with fail
 have hS : FR B g w w.drew := (FR.refl B g w).drew
 have HWC : Hid (WR B g bs w.drew) := HW0
 clear HW0
 refine wp_region_held_drew (S := fun W => FR B g w W) (by kernel_rfl) hS (fun _ => ?_)
 generalize w.drew = W at *
 refine zt 0 (.pointer (some ⟨g,0,none⟩)) rfl ?_ ?_
 ·(intro W hSw; have y0 := (HBW.out.fr hSw (by decide) HNW.out).at (k := 0) (v := .pointer (some ⟨g,0,none⟩)) rfl; have x1 := HX1.out W hSw; go_simp; try (with_reducible rfl))
 try simp only [Act.put,sl2,sl0,sl1]
 refine zt 1 (.slice (some ⟨gf,of,none⟩) 1 cf) rfl ?_ ?_
 ·(intro W hSw; have y0 := (HBW.out.fr hSw (by decide) HNW.out).at (k := 0) (v := .pointer (some ⟨g,0,none⟩)) rfl; have x1 := HX1.out W hSw; go_simp; try (with_reducible rfl))
 try simp only [Act.put,sl2,sl0,sl1]
 refine zt 2 (.pointer (some ⟨gf,of,none⟩)) rfl ?_ ?_
 ·(intro W hSw; have y0 := (HBW.out.fr hSw (by decide) HNW.out).at (k := 0) (v := .pointer (some ⟨g,0,none⟩)) rfl; have x1 := HX1.out W hSw; go_simp; try (with_reducible rfl))
 try simp only [Act.put,sl2,sl0,sl1]
 refine zt 3 (.pointer (some ⟨gf,of + 1,none⟩)) rfl ?_ ?_
 ·(intro W hSw; have y0 := (HBW.out.fr hSw (by decide) HNW.out).at (k := 0) (v := .pointer (some ⟨g,0,none⟩)) rfl; have x1 := HX1.out W hSw; go_simp; try (with_reducible rfl))
 try simp only [Act.put,sl2,sl0,sl1]
 refine zt 4 (.int .i64 a) rfl ?_ ?_
 ·(intro W hSw; have y0 := (HBW.out.fr hSw (by decide) HNW.out).at (k := 0) (v := .pointer (some ⟨g,0,none⟩)) rfl; have x1 := HX1.out W hSw; go_simp; try (with_reducible rfl))
 try simp only [Act.put,sl2,sl0,sl1]
 refine zr 5 rfl (fun K hK => ?_)
 go_simp
 go_at_call 105
 (with_reducible refine (HU W HWC).out.mono ?_)
 rintro e W1 ⟨rfl,hw',hf⟩
 have HW5 := hid hw'
 replace hS := hS.trans hf
 clear hw' hf HWC
 refine hK.out _ _ hS (fun _ => ?_)
 clear hK K
 try simp only [Act.put,sl2,sl0,sl1]
 refine wpAnyH_done (by kernel_rfl) ?_ _
 have HF5 := hid hS
 clear hS
 go_wp2
 (first | go_end0 | refine bodyPost_ret (results_none rfl _ _ _) rfl ?_)
 exact ⟨rfl,HW5.out,HF5.out⟩
end Go.Proofs.YtjgeedgphcjhoaaGreat
namespace Go.Proofs.YtjgeedgphcjhoaaGreat
open Go.RowKit
set_option maxHeartbeats 4000000 in
theorem isFuncs_says (B : Nat) (r m t : Int) (po pi : Option Addr) (no co ni ci ib io : Nat) (gf : Nat → Fo) (q : Nat → Option Addr) (d : Nat → Nat) (w : World) (hB : B ≤ w.heap.size) (hk : KO B w pi ni ib io gf q d) :
  Calls Tryz.prog 190 #[.agg #[.int .i64 r,.int .i64 m,.int .i64 t,.slice po no co,.slice pi ni ci]] w fun e w' => e = .returned (.bool ((List.range ni).all (fun k => isFun (gf k)) && (r == 112))) ∧ Below w.heap.size w w' := by
 obtain ⟨⟨hn,hp,hx⟩,hc⟩ := hk
 have nn62 : (ni : Int) < 9223372036854775807 := by omega
 have HP := hid hp
 have HXX := hid hx
 have HCC := hid hc
 have HBB := hid hB
 have HX0 := hid (CA.new w #[.int .i64 r,.int .i64 m,.int .i64 t,.slice po no co,.slice pi ni ci] 62)
 have HB0 := hid ((Below.refl w.heap.size w).alloc (Nat.le_refl _) (.cells #[.int .i64 r,.int .i64 m,.int .i64 t,.slice po no co,.slice pi ni ci] 62))
 obtain ⟨R,hR⟩ : ∃ R,R = ((List.range ni).all (fun k => isFun (gf k)) && (r == 112)) := ⟨_,rfl⟩
 rw [← hR]
 have HR := hid hR
 have y4 := HX0.out.at (k := 4) (v := .slice pi ni ci) rfl
 clear hn hp hx hc hB hR
 go_enter Tryz.func190,Tryz.ntmps190
 go_wp2
 go_loopw [8] (fun vi wr => ∃ i : Nat,i ≤ ni ∧ vi = .int .i64 i ∧ Hid (∀ j,j < i → isFun (gf j) = true) ∧ Hid (Below w.heap.size w wr) ∧ Hid (CA w.heap.size #[.int .i64 r,.int .i64 m,.int .i64 t,.slice po no co,.slice pi ni ci] 62 wr)) (fun vi _ => ni - (intOf vi).toNat)
 case atStart => exact ⟨0,Nat.zero_le _,rfl,hid (fun j hj => absurd hj (Nat.not_lt_zero j)),HB0,HX0⟩
 clear y4
 obtain ⟨i,hi,rfl,HP1,HB,HX⟩ := hrel
 by_cases hlt : i < ni
 ·obtain ⟨hpe,hg⟩ := HP.out (by omega)
  subst hpe
  have z0 : w.cell? ⟨ib,io + i,none⟩ = some (.slice (q i) (gf i).len (d i)) := by have := HXX.out i hlt 0 _ rfl; simpa using this
  have x0 := (HB.out.cell (p := ⟨ib,io + i,none⟩) (Nat.lt_of_lt_of_le hg HBB.out)).trans z0
  have hci := (HCC.out i hlt).1
  have hbi := SA.below hci (HB.out.mono HBB.out)
  have HFS : ∀ b,isFun (gf i) = b → Hid (b = true → ∀ j,j < i + 1 → isFun (gf j) = true) := fun b hb => hid (fun h j hj => by rcases Nat.lt_succ_iff_lt_or_eq.1 hj with h2 | h2; exact HP1.out j h2; subst h2; rw [hb,h])
  have HNO : isFun (gf i) = false → Hid (R = false) := fun h => hid (by
   rw [HR.out,Bool.and_eq_false_iff]
   refine .inl ?_
   rw [← Bool.not_eq_true,List.all_eq_true]
   intro h2
   have := h2 i (List.mem_range.2 hlt)
   rw [h] at this
   cases this)
  generalize hfi : gf i = f at *
  generalize q i = qi at *
  generalize d i = di at *
  cases f with
  | nil =>
   have HE := HNO rfl
   clear z0 hci hbi HFS HNO hfi hg hi
   obtain ⟨ln,hln⟩ : ∃ n : Nat,n = Fo.nil.len := ⟨_,rfl⟩
   rw [← hln] at x0
   have hne : ((ln : Int) != 1) = true := by rw [hln]; rfl
   clear hln
   go_wp2
   go_ret
   exact ⟨by rw [HE.out]; first | done | rfl,HB.out⟩
  | cons op a b2 n2 h2 l2 ot body els rest =>
   cases rest with
   | cons op' a' b' n' h' l' ot' body' els' rest' =>
    have HE := HNO rfl
    have hl2 : (Fo.cons op a b2 n2 h2 l2 ot body els (.cons op' a' b' n' h' l' ot' body' els' rest')).len = rest'.len + 1 + 1 := rfl
    rw [hl2] at x0
    have hne : (((rest'.len + 1 + 1 : Nat) : Int) != 1) = true := by simp [bne]; omega
    clear z0 hci hbi HFS HNO hfi hg hi hl2
    generalize rest'.len + 1 + 1 = ln at *
    go_wp2
    go_ret
    exact ⟨by rw [HE.out]; first | done | rfl,HB.out⟩
   | nil =>
    obtain ⟨p',c',g',o',e1,e2,e3⟩ := hbi
    injection e1 with e1 e6 e5
    subst e1
    subst e5
    clear e6
    obtain rfl := e2 (by simp [Fo.len])
    obtain ⟨-,⟨-,-,-,u0,-⟩,-⟩ := e3
    replace x0 : wr.cell? ⟨ib,io + i,none⟩ = some (.slice (some ⟨g',o',none⟩) 1 _) := x0
    by_cases ho : op = 210
    ·subst ho
     have HP2 := HFS true rfl
     clear z0 hci HFS HNO hfi hg hi e2
     replace HP2 := hid (HP2.out rfl)
     go_wp2
     go_roundw
     case rel => exact ⟨i + 1,hlt,by go_num,HP2,HB,HX⟩
     case measure => simp [intOf]; omega
    have hne : (op != 210) = true := by simp [bne,ho]
    have hn1 : (op == 210) = false := by simpa using ho
    have hn2 : decide (op = 210) = false := by simpa using ho
    have HE := HNO (by simp [isFun,ho])
    clear ho z0 hci HFS HNO hfi hg hi e2
    go_wp2
    go_ret
    exact ⟨by rw [HE.out]; first | done | rfl,HB.out⟩
 obtain rfl : i = ni := by omega
 have y0 := HX.out.at (k := 0) (v := .int .i64 r) rfl
 have HE := hid (show R = (r == 112) by
  rw [HR.out,show (List.range i).all (fun k => isFun (gf k)) = true by
   rw [List.all_eq_true]
   exact fun j hj => HP1.out j (List.mem_range.1 hj),Bool.true_and])
 obtain ⟨rb,hrb⟩ : ∃ b,b = (r == 112) := ⟨_,rfl⟩
 rw [← hrb] at HE
 go_wp2
 go_ret
 exact ⟨by rw [HE.out,hrb]; first | done | rfl,HB.out⟩
theorem one_cell {g : Nat} {x : UInt8} {w : World} (h : CA g #[.int .u8 (x.toNat : Nat)] 5 w) : ∀ j u,(Lib.byteCells [x])[j]? = some u → w.cell? ((⟨g,0,none⟩ : Addr).add j) = some u := by
 intro j u hj
 match j,hj with
 | 0,hj =>
  obtain rfl := Option.some.inj hj
  exact h.at rfl
 | j + 1,hj => simp [Lib.byteCells] at hj
set_option maxHeartbeats 4000000 in
theorem mc_byte (B g b : Nat) (bs : List UInt8) (x : UInt8) (w : World) (hbg : b ≠ g) (hb : CA b #[.pointer (some ⟨g,0,none⟩)] 135 w) (hw : WR B g bs w) (hn : bs.length ≤ 4000000000000) :
  Calls Tryz.prog 201 #[.int .u8 (x.toNat : Nat),.pointer (some ⟨b,0,none⟩)] w fun e w' => e = .returned (.tuple #[]) ∧ WR B g (bs ++ [x]) w' ∧ FR B g w w' := by
 have HGA := hid hw.lt
 obtain ⟨hBg,u,hc,ho⟩ := hw
 obtain ⟨pu,nu,cu,rfl⟩ := own_slice ho
 have HN2 := hid (show bs.length + 1 ≤ 140737488355328 by omega)
 have HBW := hid hBg
 have HBX := hid hb
 have HNE := hid hbg
 have HC0 := hid hc
 have HO0 := hid ho
 clear hBg hc ho hn hb hbg
 go_enter Tryz.func201,Tryz.ntmps201
 go_upto_region 0 with fail
 have hS : FR B g w w.drew := (FR.refl B g w).drew
 have HC : Hid (CA g #[.slice pu nu cu] 137 w.drew) := HC0
 have HO : Hid (w.drew.ownsRow B 5 1 (.slice pu nu cu) bs.length (Lib.byteCells bs)) := HO0
 clear HC0 HO0
 refine wp_region_held_drew (S := fun W => FR B g w W) (by kernel_rfl) hS (fun _ => ?_)
 generalize w.drew = W at *
 refine zt 0 (.pointer (some ⟨g,0,none⟩)) rfl ?_ ?_
 ·(intro W hSw; have y0 := (HBX.out.fr hSw (by decide) HNE.out).at (k := 0) (v := .pointer (some ⟨g,0,none⟩)) rfl; go_simp; try (with_reducible rfl))
 try simp only [Act.put,sl2,sl0,sl1]
 refine zt 1 (.pointer (some ⟨g,0,none⟩)) rfl ?_ ?_
 ·(intro W hSw; have y0 := (HBX.out.fr hSw (by decide) HNE.out).at (k := 0) (v := .pointer (some ⟨g,0,none⟩)) rfl; go_simp; try (with_reducible rfl))
 try simp only [Act.put,sl2,sl0,sl1]
 refine zt 2 (.pointer (some ⟨g,0,none⟩)) rfl ?_ ?_
 ·(intro W hSw; have y0 := (HBX.out.fr hSw (by decide) HNE.out).at (k := 0) (v := .pointer (some ⟨g,0,none⟩)) rfl; go_simp; try (with_reducible rfl))
 try simp only [Act.put,sl2,sl0,sl1]
 refine zt 3 (.pointer (some ⟨g,0,none⟩)) rfl ?_ ?_
 ·(intro W hSw; have y0 := (HBX.out.fr hSw (by decide) HNE.out).at (k := 0) (v := .pointer (some ⟨g,0,none⟩)) rfl; go_simp; try (with_reducible rfl))
 try simp only [Act.put,sl2,sl0,sl1]
 refine zt 5 (.int .u8 (x.toNat : Nat)) rfl ?_ ?_
 ·(intro W hSw; have y0 := (HBX.out.fr hSw (by decide) HNE.out).at (k := 0) (v := .pointer (some ⟨g,0,none⟩)) rfl; go_simp; try (with_reducible rfl))
 try simp only [Act.put,sl2,sl0,sl1]
 refine zm [4,6] ?_
 refine zc rfl (fun K hK => ?_) ?_
 ·have z0 := HC.out.at (k := 0) (v := .slice pu nu cu) rfl
  go_simp
  clear z0
  refine hK.out _ _ hS (fun _ => ?_)
  clear hK K
  try simp only [Act.put,sl2,sl0,sl1]
  refine zr 6 rfl (fun K hK => ?_)
  go_simp
  have hcn := CA.new W #[.int .u8 (x.toNat : Nat)] 5
  replace HO := hid (HO.out.alloc (.cells #[.int .u8 (x.toNat : Nat)] 5))
  replace HC := hid (HC.out.alloc (.cells #[.int .u8 (x.toNat : Nat)] 5))
  replace hS := hS.alloc (.cells #[.int .u8 (x.toNat : Nat)] 5)
  have HN := hid hcn
  generalize hgn : W.heap.size = gn at *
  clear hgn hcn
  generalize W.alloc (.cells #[.int .u8 (x.toNat : Nat)] 5) = W1 at *
  refine hK.out _ _ hS (fun _ => ?_)
  clear hK K
  try simp only [Act.put,sl2,sl0,sl1]
  refine zr 7 rfl (fun K hK => ?_)
  refine step_append_own rfl (.tmp 7) (.tmp 9) rfl B (.slice pu nu cu) bs.length (Lib.byteCells bs) rfl HO.out ⟨gn,0,none⟩ 1 1 (Lib.byteCells [x]) rfl (by rw [Lib.byteCells_length]; rfl) (one_cell HN.out) (byteCells_one [x]) (by have := HN2.out; omega) (Nat.le_trans HBW.out hS.size) ?_
  intro v3 W2 ho3 hg3 hwh
  have HPV := hid (own_put hS HGA.out (HC.out.at (v := .slice pu nu cu) rfl) hwh)
  replace hS := hS.trans (FR.grown (g := g) HO.out hg3 (HC.out.at rfl) (Lib.ownBlock_ne HO.out HC.out (by decide)))
  replace HC := hid (WR.set_row HC.out HO.out hg3)
  clear hwh HO HN
  obtain ⟨p3,n3,c3,rfl⟩ := own_slice ho3
  have HO3 := hid ho3
  clear ho3 hg3
  refine hK.out _ _ hS (fun _ => ?_)
  clear hK K
  try simp only [Act.put,sl2,sl0,sl1]
  refine zt 8 (.pointer (some ⟨g,0,none⟩)) rfl ?_ ?_
  ·(intro W hSw; have y0 := (HBX.out.fr hSw (by decide) HNE.out).at (k := 0) (v := .pointer (some ⟨g,0,none⟩)) rfl; go_simp; try (with_reducible rfl))
  try simp only [Act.put,sl2,sl0,sl1]
  refine zt 9 (.pointer (some ⟨g,0,none⟩)) rfl ?_ ?_
  ·(intro W hSw; have y0 := (HBX.out.fr hSw (by decide) HNE.out).at (k := 0) (v := .pointer (some ⟨g,0,none⟩)) rfl; go_simp; try (with_reducible rfl))
  try simp only [Act.put,sl2,sl0,sl1]
  refine zr 10 rfl (fun K hK => ?_)
  have z0 := HC.out.at (k := 0) (v := .slice pu nu cu) rfl
  have z1 := HC.out.free 0
  go_simp
  clear z0 z1
  have HWR := hid (WR.put (bs := bs ++ [x]) (Nat.le_trans HBW.out hS.size) HC.out (by rw [List.length_append,Lib.byteCells_append]; exact HO3.out))
  replace hS := hS.put (HC.out.at (v := .slice pu nu cu) rfl) (.slice p3 n3 c3) HPV.out
  clear HC HO3
  generalize W2.setCell ⟨g,0,none⟩ (.slice p3 n3 c3) = W3 at *
  refine hK.out _ _ hS (fun _ => ?_)
  clear hK K
  try simp only [Act.put,sl2,sl0,sl1]
  refine wpAnyH_done (by kernel_rfl) ?_ _
  have HF := hid hS
  clear hS
  go_wp2
  (first | go_end0 | refine bodyPost_ret (results_none rfl _ _ _) rfl ?_)
  exact ⟨rfl,HWR.out,HF.out⟩
 refine zc rfl (fun K hK => ?_) ?_
 ·go_simp
  have hcn := CA.new W #[.int .u8 (x.toNat : Nat)] 5
  replace HO := hid (HO.out.alloc (.cells #[.int .u8 (x.toNat : Nat)] 5))
  replace HC := hid (HC.out.alloc (.cells #[.int .u8 (x.toNat : Nat)] 5))
  replace hS := hS.alloc (.cells #[.int .u8 (x.toNat : Nat)] 5)
  have HN := hid hcn
  generalize hgn : W.heap.size = gn at *
  clear hgn hcn
  generalize W.alloc (.cells #[.int .u8 (x.toNat : Nat)] 5) = W1 at *
  refine hK.out _ _ hS (fun _ => ?_)
  clear hK K
  try simp only [Act.put,sl2,sl0,sl1]
  refine zr 4 rfl (fun K hK => ?_)
  have z0 := HC.out.at (k := 0) (v := .slice pu nu cu) rfl
  go_simp
  clear z0
  refine hK.out _ _ hS (fun _ => ?_)
  clear hK K
  try simp only [Act.put,sl2,sl0,sl1]
  refine zr 7 rfl (fun K hK => ?_)
  refine step_append_own rfl (.tmp 7) (.tmp 9) rfl B (.slice pu nu cu) bs.length (Lib.byteCells bs) rfl HO.out ⟨gn,0,none⟩ 1 1 (Lib.byteCells [x]) rfl (by rw [Lib.byteCells_length]; rfl) (one_cell HN.out) (byteCells_one [x]) (by have := HN2.out; omega) (Nat.le_trans HBW.out hS.size) ?_
  intro v3 W2 ho3 hg3 hwh
  have HPV := hid (own_put hS HGA.out (HC.out.at (v := .slice pu nu cu) rfl) hwh)
  replace hS := hS.trans (FR.grown (g := g) HO.out hg3 (HC.out.at rfl) (Lib.ownBlock_ne HO.out HC.out (by decide)))
  replace HC := hid (WR.set_row HC.out HO.out hg3)
  clear hwh HO HN
  obtain ⟨p3,n3,c3,rfl⟩ := own_slice ho3
  have HO3 := hid ho3
  clear ho3 hg3
  refine hK.out _ _ hS (fun _ => ?_)
  clear hK K
  try simp only [Act.put,sl2,sl0,sl1]
  refine zt 8 (.pointer (some ⟨g,0,none⟩)) rfl ?_ ?_
  ·(intro W hSw; have y0 := (HBX.out.fr hSw (by decide) HNE.out).at (k := 0) (v := .pointer (some ⟨g,0,none⟩)) rfl; go_simp; try (with_reducible rfl))
  try simp only [Act.put,sl2,sl0,sl1]
  refine zt 9 (.pointer (some ⟨g,0,none⟩)) rfl ?_ ?_
  ·(intro W hSw; have y0 := (HBX.out.fr hSw (by decide) HNE.out).at (k := 0) (v := .pointer (some ⟨g,0,none⟩)) rfl; go_simp; try (with_reducible rfl))
  try simp only [Act.put,sl2,sl0,sl1]
  refine zr 10 rfl (fun K hK => ?_)
  have z0 := HC.out.at (k := 0) (v := .slice pu nu cu) rfl
  have z1 := HC.out.free 0
  go_simp
  clear z0 z1
  have HWR := hid (WR.put (bs := bs ++ [x]) (Nat.le_trans HBW.out hS.size) HC.out (by rw [List.length_append,Lib.byteCells_append]; exact HO3.out))
  replace hS := hS.put (HC.out.at (v := .slice pu nu cu) rfl) (.slice p3 n3 c3) HPV.out
  clear HC HO3
  generalize W2.setCell ⟨g,0,none⟩ (.slice p3 n3 c3) = W3 at *
  refine hK.out _ _ hS (fun _ => ?_)
  clear hK K
  try simp only [Act.put,sl2,sl0,sl1]
  refine wpAnyH_done (by kernel_rfl) ?_ _
  have HF := hid hS
  clear hS
  go_wp2
  (first | go_end0 | refine bodyPost_ret (results_none rfl _ _ _) rfl ?_)
  exact ⟨rfl,HWR.out,HF.out⟩
 exact zn
end Go.Proofs.YtjgeedgphcjhoaaGreat
namespace Go.Proofs.YtjgeedgphcjhoaaGreat
open Go.RowKit
set_option maxHeartbeats 4000000 in
theorem wl_Imp (B g k : Nat) (eg : ∀ args w,(callFunc k args).run Tryz.prog w = .ok (.enter k args) w) (b : Nat) (P : Nat → List UInt8) (n blk off c : Nat) (ad : Option Addr) (r0 : Nat → ByteArray) (r1 : Nat → ByteArray) (t2 : Nat → Int) (t3 : Nat → Int) (t4 : Nat → Int) (t5 : Nat → Int) (t6 : Nat → Int) (bq7 : Nat → Bool) (t8 : Nat → Int) (t9 : Nat → Int) (bq10 : Nat → Bool) (t11 : Nat → Int) (bq12 : Nat → Bool) (w : World) (hn62 : n < 9223372036854775807)
  (had : n ≠ 0 → ad = some ⟨blk,off,none⟩ ∧ NW B g w blk) (hx : ∀ i,i < n → w.cell? ⟨blk,off + i * 13,none⟩ = some (.string (r0 i)) ∧ w.cell? ⟨blk,off + i * 13 + 1,none⟩ = some (.string (r1 i)) ∧ w.cell? ⟨blk,off + i * 13 + 2,none⟩ = some (.int .i64 (t2 i)) ∧ w.cell? ⟨blk,off + i * 13 + 3,none⟩ = some (.int .i64 (t3 i)) ∧ w.cell? ⟨blk,off + i * 13 + 4,none⟩ = some (.int .i64 (t4 i)) ∧ w.cell? ⟨blk,off + i * 13 + 5,none⟩ = some (.int .i64 (t5 i)) ∧ w.cell? ⟨blk,off + i * 13 + 6,none⟩ = some (.int .i64 (t6 i)) ∧ w.cell? ⟨blk,off + i * 13 + 7,none⟩ = some (.bool (bq7 i)) ∧ w.cell? ⟨blk,off + i * 13 + 8,none⟩ = some (.int .i64 (t8 i)) ∧ w.cell? ⟨blk,off + i * 13 + 9,none⟩ = some (.int .i64 (t9 i)) ∧ w.cell? ⟨blk,off + i * 13 + 10,none⟩ = some (.bool (bq10 i)) ∧ w.cell? ⟨blk,off + i * 13 + 11,none⟩ = some (.int .i64 (t11 i)) ∧ w.cell? ⟨blk,off + i * 13 + 12,none⟩ = some (.bool (bq12 i)))
  (hP : ∀ i,i < n → ∀ bs W,FR B g w W → WR B g bs W → bs.length ≤ 3000000000000 → Calls Tryz.prog k #[.agg #[.string (r0 i),.string (r1 i),.int .i64 (t2 i),.int .i64 (t3 i),.int .i64 (t4 i),.int .i64 (t5 i),.int .i64 (t6 i),.bool (bq7 i),.int .i64 (t8 i),.int .i64 (t9 i),.bool (bq10 i),.int .i64 (t11 i),.bool (bq12 i)],.pointer (some ⟨b,0,none⟩)] W fun e w' => e = .returned (.tuple #[]) ∧ WR B g (bs ++ P i) w' ∧ FR B g W w')
  (bs : List UInt8) (hw : WR B g bs w) (hlen : bs.length + 10 + (flB n P).length ≤ 3000000000000) :
  Calls Tryz.prog 172 #[.pointer (some ⟨g,0,none⟩),.slice ad n c,.func (.func k) #[] #[.pointer (some ⟨b,0,none⟩)]] w fun e w' => e = .returned (.tuple #[]) ∧ WR B g (bs ++ (uI n ++ flB n P)) w' ∧ FR B g w w' := by
 have HAD := hid had
 have HX := hid hx
 have HP := hid hP
 have HW := hid hw
 have HLN := hid hlen
 have HUL := hid (uI_len n)
 have nn62 : (n : Int) < 9223372036854775807 := by omega
 have HN1 := hid (show bs.length + 10 ≤ 140737488355000 by omega)
 clear had hx hP hw hlen hn62
 go_enter Tryz.func172,Tryz.ntmps172
 go_upto_region 1 with (go_at_call 105; (with_reducible refine (u_says B g bs n _ HW.out.base HW.out HN1.out).mono ?_); rintro e w1 ⟨rfl,hw1,hf1⟩; have HW1 := hid hw1; have HF1 := hid hf1; clear hw1 hf1)
 go_wp2
 go_loopw [14] (fun vi wr => ∃ i : Nat,i ≤ n ∧ vi = .int .i64 i ∧ Hid (WR B g (bs ++ (uI n ++ flB i P)) wr) ∧ Hid (FR B g w wr)) (fun vi _ => n - (intOf vi).toNat)
 case atStart => exact ⟨0,Nat.zero_le _,rfl,by simpa [flB] using HW1,HF1⟩
 obtain ⟨i,hi,rfl,HR,HF⟩ := hrel
 by_cases hlt : i < n
 ·obtain ⟨z0,z1,z2,z3,z4,z5,z6,z7,z8,z9,z10,z11,z12⟩ := HX.out i hlt
  obtain ⟨hpe,hnw⟩ := HAD.out (by omega)
  subst hpe
  have x0 := (World.cell?_of_block (a := ⟨blk,off + i * 13,none⟩) (HF.out.block blk hnw)).trans z0
  have x1 := (World.cell?_of_block (a := ⟨blk,off + i * 13 + 1,none⟩) (HF.out.block blk hnw)).trans z1
  have x2 := (World.cell?_of_block (a := ⟨blk,off + i * 13 + 2,none⟩) (HF.out.block blk hnw)).trans z2
  have x3 := (World.cell?_of_block (a := ⟨blk,off + i * 13 + 3,none⟩) (HF.out.block blk hnw)).trans z3
  have x4 := (World.cell?_of_block (a := ⟨blk,off + i * 13 + 4,none⟩) (HF.out.block blk hnw)).trans z4
  have x5 := (World.cell?_of_block (a := ⟨blk,off + i * 13 + 5,none⟩) (HF.out.block blk hnw)).trans z5
  have x6 := (World.cell?_of_block (a := ⟨blk,off + i * 13 + 6,none⟩) (HF.out.block blk hnw)).trans z6
  have x7 := (World.cell?_of_block (a := ⟨blk,off + i * 13 + 7,none⟩) (HF.out.block blk hnw)).trans z7
  have x8 := (World.cell?_of_block (a := ⟨blk,off + i * 13 + 8,none⟩) (HF.out.block blk hnw)).trans z8
  have x9 := (World.cell?_of_block (a := ⟨blk,off + i * 13 + 9,none⟩) (HF.out.block blk hnw)).trans z9
  have x10 := (World.cell?_of_block (a := ⟨blk,off + i * 13 + 10,none⟩) (HF.out.block blk hnw)).trans z10
  have x11 := (World.cell?_of_block (a := ⟨blk,off + i * 13 + 11,none⟩) (HF.out.block blk hnw)).trans z11
  have x12 := (World.cell?_of_block (a := ⟨blk,off + i * 13 + 12,none⟩) (HF.out.block blk hnw)).trans z12
  have HLE := hid (show (bs ++ (uI n ++ flB i P)).length ≤ 3000000000000 by
   have h1 := HLN.out
   have h2 := flB_le P (Nat.le_of_lt hlt)
   have h3 := HUL.out
   simp only [List.length_append]
   omega)
  have HNX := hid (show bs ++ (uI n ++ flB (i + 1) P) = (bs ++ (uI n ++ flB i P)) ++ P i by rw [flB]; simp only [List.append_assoc])
  have HKX := fun (o : Obj) => hid (HP.out i hlt _ (wr.alloc o) (HF.out.alloc o) (HR.out.alloc o) HLE.out)
  generalize P i = Pi at *
  generalize r0 i = y0 at *
  generalize r1 i = y1 at *
  generalize t2 i = s2 at *
  generalize t3 i = s3 at *
  generalize t4 i = s4 at *
  generalize t5 i = s5 at *
  generalize t6 i = s6 at *
  generalize bq7 i = be7 at *
  generalize t8 i = s8 at *
  generalize t9 i = s9 at *
  generalize bq10 i = be10 at *
  generalize t11 i = s11 at *
  generalize bq12 i = be12 at *
  clear z0 z1 z2 z3 z4 z5 z6 z7 z8 z9 z10 z11 z12 hnw hi
  go_wp2_with (go_at_fn k; (with_reducible refine (HKX _).out.mono ?_); rintro e w2 ⟨rfl,hw2,hf2⟩; have HW2 := hid hw2; have HF2 := hid ((HF.out.alloc _).trans hf2); clear hw2 hf2)
  go_roundw
  case rel =>
   refine ⟨i + 1,hlt,by go_num,?_,HF2⟩
   rw [HNX.out]
   exact HW2
  case measure => simp [intOf]; omega
 obtain rfl : i = n := by omega
 go_wp2
 (first | go_end0 | refine bodyPost_ret (results_none rfl _ _ _) rfl ?_)
 exact ⟨rfl,HR.out,HF.out⟩
set_option maxHeartbeats 4000000 in
theorem wl_Exp (B g k : Nat) (eg : ∀ args w,(callFunc k args).run Tryz.prog w = .ok (.enter k args) w) (b : Nat) (P : Nat → List UInt8) (n blk off c : Nat) (ad : Option Addr) (r0 : Nat → ByteArray) (t1 : Nat → Int) (t2 : Nat → Int) (w : World) (hn62 : n < 9223372036854775807)
  (had : n ≠ 0 → ad = some ⟨blk,off,none⟩ ∧ NW B g w blk) (hx : ∀ i,i < n → w.cell? ⟨blk,off + i * 3,none⟩ = some (.string (r0 i)) ∧ w.cell? ⟨blk,off + i * 3 + 1,none⟩ = some (.int .i64 (t1 i)) ∧ w.cell? ⟨blk,off + i * 3 + 2,none⟩ = some (.int .i64 (t2 i)))
  (hP : ∀ i,i < n → ∀ bs W,FR B g w W → WR B g bs W → bs.length ≤ 3000000000000 → Calls Tryz.prog k #[.agg #[.string (r0 i),.int .i64 (t1 i),.int .i64 (t2 i)],.pointer (some ⟨b,0,none⟩)] W fun e w' => e = .returned (.tuple #[]) ∧ WR B g (bs ++ P i) w' ∧ FR B g W w')
  (bs : List UInt8) (hw : WR B g bs w) (hlen : bs.length + 10 + (flB n P).length ≤ 3000000000000) :
  Calls Tryz.prog 186 #[.pointer (some ⟨g,0,none⟩),.slice ad n c,.func (.func k) #[] #[.pointer (some ⟨b,0,none⟩)]] w fun e w' => e = .returned (.tuple #[]) ∧ WR B g (bs ++ (uI n ++ flB n P)) w' ∧ FR B g w w' := by
 have HAD := hid had
 have HX := hid hx
 have HP := hid hP
 have HW := hid hw
 have HLN := hid hlen
 have HUL := hid (uI_len n)
 have nn62 : (n : Int) < 9223372036854775807 := by omega
 have HN1 := hid (show bs.length + 10 ≤ 140737488355000 by omega)
 clear had hx hP hw hlen hn62
 go_enter Tryz.func186,Tryz.ntmps186
 go_upto_region 1 with (go_at_call 105; (with_reducible refine (u_says B g bs n _ HW.out.base HW.out HN1.out).mono ?_); rintro e w1 ⟨rfl,hw1,hf1⟩; have HW1 := hid hw1; have HF1 := hid hf1; clear hw1 hf1)
 go_wp2
 go_loopw [14] (fun vi wr => ∃ i : Nat,i ≤ n ∧ vi = .int .i64 i ∧ Hid (WR B g (bs ++ (uI n ++ flB i P)) wr) ∧ Hid (FR B g w wr)) (fun vi _ => n - (intOf vi).toNat)
 case atStart => exact ⟨0,Nat.zero_le _,rfl,by simpa [flB] using HW1,HF1⟩
 obtain ⟨i,hi,rfl,HR,HF⟩ := hrel
 by_cases hlt : i < n
 ·obtain ⟨z0,z1,z2⟩ := HX.out i hlt
  obtain ⟨hpe,hnw⟩ := HAD.out (by omega)
  subst hpe
  have x0 := (World.cell?_of_block (a := ⟨blk,off + i * 3,none⟩) (HF.out.block blk hnw)).trans z0
  have x1 := (World.cell?_of_block (a := ⟨blk,off + i * 3 + 1,none⟩) (HF.out.block blk hnw)).trans z1
  have x2 := (World.cell?_of_block (a := ⟨blk,off + i * 3 + 2,none⟩) (HF.out.block blk hnw)).trans z2
  have HLE := hid (show (bs ++ (uI n ++ flB i P)).length ≤ 3000000000000 by
   have h1 := HLN.out
   have h2 := flB_le P (Nat.le_of_lt hlt)
   have h3 := HUL.out
   simp only [List.length_append]
   omega)
  have HNX := hid (show bs ++ (uI n ++ flB (i + 1) P) = (bs ++ (uI n ++ flB i P)) ++ P i by rw [flB]; simp only [List.append_assoc])
  have HKX := fun (o : Obj) => hid (HP.out i hlt _ (wr.alloc o) (HF.out.alloc o) (HR.out.alloc o) HLE.out)
  generalize P i = Pi at *
  generalize r0 i = y0 at *
  generalize t1 i = s1 at *
  generalize t2 i = s2 at *
  clear z0 z1 z2 hnw hi
  go_wp2_with (go_at_fn k; (with_reducible refine (HKX _).out.mono ?_); rintro e w2 ⟨rfl,hw2,hf2⟩; have HW2 := hid hw2; have HF2 := hid ((HF.out.alloc _).trans hf2); clear hw2 hf2)
  go_roundw
  case rel =>
   refine ⟨i + 1,hlt,by go_num,?_,HF2⟩
   rw [HNX.out]
   exact HW2
  case measure => simp [intOf]; omega
 obtain rfl : i = n := by omega
 go_wp2
 (first | go_end0 | refine bodyPost_ret (results_none rfl _ _ _) rfl ?_)
 exact ⟨rfl,HR.out,HF.out⟩
set_option maxHeartbeats 4000000 in
theorem wl_Elm (B g k : Nat) (eg : ∀ args w,(callFunc k args).run Tryz.prog w = .ok (.enter k args) w) (b : Nat) (P : Nat → List UInt8) (n blk off c : Nat) (ad : Option Addr) (t0 : Nat → Int) (t1 : Nat → Int) (t2 : Nat → Int) (p3 : Nat → Option Addr) (n3 : Nat → Nat) (c3 : Nat → Nat) (p4 : Nat → Option Addr) (n4 : Nat → Nat) (c4 : Nat → Nat) (w : World) (hn62 : n < 9223372036854775807)
  (had : n ≠ 0 → ad = some ⟨blk,off,none⟩ ∧ NW B g w blk) (hx : ∀ i,i < n → w.cell? ⟨blk,off + i * 5,none⟩ = some (.int .i64 (t0 i)) ∧ w.cell? ⟨blk,off + i * 5 + 1,none⟩ = some (.int .i64 (t1 i)) ∧ w.cell? ⟨blk,off + i * 5 + 2,none⟩ = some (.int .i64 (t2 i)) ∧ w.cell? ⟨blk,off + i * 5 + 3,none⟩ = some (.slice (p3 i) (n3 i) (c3 i)) ∧ w.cell? ⟨blk,off + i * 5 + 4,none⟩ = some (.slice (p4 i) (n4 i) (c4 i)))
  (hP : ∀ i,i < n → ∀ bs W,FR B g w W → WR B g bs W → bs.length ≤ 3000000000000 → Calls Tryz.prog k #[.agg #[.int .i64 (t0 i),.int .i64 (t1 i),.int .i64 (t2 i),.slice (p3 i) (n3 i) (c3 i),.slice (p4 i) (n4 i) (c4 i)],.pointer (some ⟨b,0,none⟩)] W fun e w' => e = .returned (.tuple #[]) ∧ WR B g (bs ++ P i) w' ∧ FR B g W w')
  (bs : List UInt8) (hw : WR B g bs w) (hlen : bs.length + 10 + (flB n P).length ≤ 3000000000000) :
  Calls Tryz.prog 189 #[.pointer (some ⟨g,0,none⟩),.slice ad n c,.func (.func k) #[] #[.pointer (some ⟨b,0,none⟩)]] w fun e w' => e = .returned (.tuple #[]) ∧ WR B g (bs ++ (uI n ++ flB n P)) w' ∧ FR B g w w' := by
 have HAD := hid had
 have HX := hid hx
 have HP := hid hP
 have HW := hid hw
 have HLN := hid hlen
 have HUL := hid (uI_len n)
 have nn62 : (n : Int) < 9223372036854775807 := by omega
 have HN1 := hid (show bs.length + 10 ≤ 140737488355000 by omega)
 clear had hx hP hw hlen hn62
 go_enter Tryz.func189,Tryz.ntmps189
 go_upto_region 1 with (go_at_call 105; (with_reducible refine (u_says B g bs n _ HW.out.base HW.out HN1.out).mono ?_); rintro e w1 ⟨rfl,hw1,hf1⟩; have HW1 := hid hw1; have HF1 := hid hf1; clear hw1 hf1)
 go_wp2
 go_loopw [14] (fun vi wr => ∃ i : Nat,i ≤ n ∧ vi = .int .i64 i ∧ Hid (WR B g (bs ++ (uI n ++ flB i P)) wr) ∧ Hid (FR B g w wr)) (fun vi _ => n - (intOf vi).toNat)
 case atStart => exact ⟨0,Nat.zero_le _,rfl,by simpa [flB] using HW1,HF1⟩
 obtain ⟨i,hi,rfl,HR,HF⟩ := hrel
 by_cases hlt : i < n
 ·obtain ⟨z0,z1,z2,z3,z4⟩ := HX.out i hlt
  obtain ⟨hpe,hnw⟩ := HAD.out (by omega)
  subst hpe
  have x0 := (World.cell?_of_block (a := ⟨blk,off + i * 5,none⟩) (HF.out.block blk hnw)).trans z0
  have x1 := (World.cell?_of_block (a := ⟨blk,off + i * 5 + 1,none⟩) (HF.out.block blk hnw)).trans z1
  have x2 := (World.cell?_of_block (a := ⟨blk,off + i * 5 + 2,none⟩) (HF.out.block blk hnw)).trans z2
  have x3 := (World.cell?_of_block (a := ⟨blk,off + i * 5 + 3,none⟩) (HF.out.block blk hnw)).trans z3
  have x4 := (World.cell?_of_block (a := ⟨blk,off + i * 5 + 4,none⟩) (HF.out.block blk hnw)).trans z4
  have HLE := hid (show (bs ++ (uI n ++ flB i P)).length ≤ 3000000000000 by
   have h1 := HLN.out
   have h2 := flB_le P (Nat.le_of_lt hlt)
   have h3 := HUL.out
   simp only [List.length_append]
   omega)
  have HNX := hid (show bs ++ (uI n ++ flB (i + 1) P) = (bs ++ (uI n ++ flB i P)) ++ P i by rw [flB]; simp only [List.append_assoc])
  have HKX := fun (o : Obj) => hid (HP.out i hlt _ (wr.alloc o) (HF.out.alloc o) (HR.out.alloc o) HLE.out)
  generalize P i = Pi at *
  generalize t0 i = s0 at *
  generalize t1 i = s1 at *
  generalize t2 i = s2 at *
  generalize p3 i = q3 at *
  generalize n3 i = m3 at *
  generalize c3 i = d3 at *
  generalize p4 i = q4 at *
  generalize n4 i = m4 at *
  generalize c4 i = d4 at *
  clear z0 z1 z2 z3 z4 hnw hi
  go_wp2_with (go_at_fn k; (with_reducible refine (HKX _).out.mono ?_); rintro e w2 ⟨rfl,hw2,hf2⟩; have HW2 := hid hw2; have HF2 := hid ((HF.out.alloc _).trans hf2); clear hw2 hf2)
  go_roundw
  case rel =>
   refine ⟨i + 1,hlt,by go_num,?_,HF2⟩
   rw [HNX.out]
   exact HW2
  case measure => simp [intOf]; omega
 obtain rfl : i = n := by omega
 go_wp2
 (first | go_end0 | refine bodyPost_ret (results_none rfl _ _ _) rfl ?_)
 exact ⟨rfl,HR.out,HF.out⟩
set_option maxHeartbeats 4000000 in
theorem wl_Dat (B g k : Nat) (eg : ∀ args w,(callFunc k args).run Tryz.prog w = .ok (.enter k args) w) (b : Nat) (P : Nat → List UInt8) (n blk off c : Nat) (ad : Option Addr) (t0 : Nat → Int) (t1 : Nat → Int) (p2 : Nat → Option Addr) (n2 : Nat → Nat) (c2 : Nat → Nat) (p3 : Nat → Option Addr) (n3 : Nat → Nat) (c3 : Nat → Nat) (w : World) (hn62 : n < 9223372036854775807)
  (had : n ≠ 0 → ad = some ⟨blk,off,none⟩ ∧ NW B g w blk) (hx : ∀ i,i < n → w.cell? ⟨blk,off + i * 4,none⟩ = some (.int .i64 (t0 i)) ∧ w.cell? ⟨blk,off + i * 4 + 1,none⟩ = some (.int .i64 (t1 i)) ∧ w.cell? ⟨blk,off + i * 4 + 2,none⟩ = some (.slice (p2 i) (n2 i) (c2 i)) ∧ w.cell? ⟨blk,off + i * 4 + 3,none⟩ = some (.slice (p3 i) (n3 i) (c3 i)))
  (hP : ∀ i,i < n → ∀ bs W,FR B g w W → WR B g bs W → bs.length ≤ 3000000000000 → Calls Tryz.prog k #[.agg #[.int .i64 (t0 i),.int .i64 (t1 i),.slice (p2 i) (n2 i) (c2 i),.slice (p3 i) (n3 i) (c3 i)],.pointer (some ⟨b,0,none⟩)] W fun e w' => e = .returned (.tuple #[]) ∧ WR B g (bs ++ P i) w' ∧ FR B g W w')
  (bs : List UInt8) (hw : WR B g bs w) (hlen : bs.length + 10 + (flB n P).length ≤ 3000000000000) :
  Calls Tryz.prog 199 #[.pointer (some ⟨g,0,none⟩),.slice ad n c,.func (.func k) #[] #[.pointer (some ⟨b,0,none⟩)]] w fun e w' => e = .returned (.tuple #[]) ∧ WR B g (bs ++ (uI n ++ flB n P)) w' ∧ FR B g w w' := by
 have HAD := hid had
 have HX := hid hx
 have HP := hid hP
 have HW := hid hw
 have HLN := hid hlen
 have HUL := hid (uI_len n)
 have nn62 : (n : Int) < 9223372036854775807 := by omega
 have HN1 := hid (show bs.length + 10 ≤ 140737488355000 by omega)
 clear had hx hP hw hlen hn62
 go_enter Tryz.func199,Tryz.ntmps199
 go_upto_region 1 with (go_at_call 105; (with_reducible refine (u_says B g bs n _ HW.out.base HW.out HN1.out).mono ?_); rintro e w1 ⟨rfl,hw1,hf1⟩; have HW1 := hid hw1; have HF1 := hid hf1; clear hw1 hf1)
 go_wp2
 go_loopw [14] (fun vi wr => ∃ i : Nat,i ≤ n ∧ vi = .int .i64 i ∧ Hid (WR B g (bs ++ (uI n ++ flB i P)) wr) ∧ Hid (FR B g w wr)) (fun vi _ => n - (intOf vi).toNat)
 case atStart => exact ⟨0,Nat.zero_le _,rfl,by simpa [flB] using HW1,HF1⟩
 obtain ⟨i,hi,rfl,HR,HF⟩ := hrel
 by_cases hlt : i < n
 ·obtain ⟨z0,z1,z2,z3⟩ := HX.out i hlt
  obtain ⟨hpe,hnw⟩ := HAD.out (by omega)
  subst hpe
  have x0 := (World.cell?_of_block (a := ⟨blk,off + i * 4,none⟩) (HF.out.block blk hnw)).trans z0
  have x1 := (World.cell?_of_block (a := ⟨blk,off + i * 4 + 1,none⟩) (HF.out.block blk hnw)).trans z1
  have x2 := (World.cell?_of_block (a := ⟨blk,off + i * 4 + 2,none⟩) (HF.out.block blk hnw)).trans z2
  have x3 := (World.cell?_of_block (a := ⟨blk,off + i * 4 + 3,none⟩) (HF.out.block blk hnw)).trans z3
  have HLE := hid (show (bs ++ (uI n ++ flB i P)).length ≤ 3000000000000 by
   have h1 := HLN.out
   have h2 := flB_le P (Nat.le_of_lt hlt)
   have h3 := HUL.out
   simp only [List.length_append]
   omega)
  have HNX := hid (show bs ++ (uI n ++ flB (i + 1) P) = (bs ++ (uI n ++ flB i P)) ++ P i by rw [flB]; simp only [List.append_assoc])
  have HKX := fun (o : Obj) => hid (HP.out i hlt _ (wr.alloc o) (HF.out.alloc o) (HR.out.alloc o) HLE.out)
  generalize P i = Pi at *
  generalize t0 i = s0 at *
  generalize t1 i = s1 at *
  generalize p2 i = q2 at *
  generalize n2 i = m2 at *
  generalize c2 i = d2 at *
  generalize p3 i = q3 at *
  generalize n3 i = m3 at *
  generalize c3 i = d3 at *
  clear z0 z1 z2 z3 hnw hi
  go_wp2_with (go_at_fn k; (with_reducible refine (HKX _).out.mono ?_); rintro e w2 ⟨rfl,hw2,hf2⟩; have HW2 := hid hw2; have HF2 := hid ((HF.out.alloc _).trans hf2); clear hw2 hf2)
  go_roundw
  case rel =>
   refine ⟨i + 1,hlt,by go_num,?_,HF2⟩
   rw [HNX.out]
   exact HW2
  case measure => simp [intOf]; omega
 obtain rfl : i = n := by omega
 go_wp2
 (first | go_end0 | refine bodyPost_ret (results_none rfl _ _ _) rfl ?_)
 exact ⟨rfl,HR.out,HF.out⟩
end Go.Proofs.YtjgeedgphcjhoaaGreat
