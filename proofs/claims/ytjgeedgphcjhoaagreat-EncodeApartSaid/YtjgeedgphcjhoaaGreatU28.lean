/-
  WSecT: merged, what the law does not reach left out (each text says what it holds where it lies in wip). No condition.
-/
import Derived.Test.YtjgeedgphcjhoaaGreatU26
import Derived.Test.YtjgeedgphcjhoaaGreatU27
import Derived.Test.YtjgeedgphcjhoaaGreatU01
set_option linter.unusedSimpArgs false
set_option linter.unusedVariables false
set_option maxRecDepth 100000
namespace Go.Proofs.YtjgeedgphcjhoaaGreat
open Go.RowKit
theorem FR.lower {B B' g : Nat} {w w' : World} (h : FR B' g w w') (hB : B ≤ B') : FR B g w w' :=
 ⟨h.os,h.tape,h.output,h.size,fun k hk => h.block k ⟨hk.1,hk.2.1,by rcases hk.2.2 with h1 | h1; exact .inl (by omega); exact .inr h1⟩,h.own⟩
set_option maxHeartbeats 4000000 in
theorem lin_Typ (B g b1 b2 b3 bw k L : Nat) (eg : ∀ args w,(callFunc k args).run Tryz.prog w = .ok (.enter k args) w) (P : Nat → List UInt8) (p : Option Addr) (n c blk off : Nat) (E : Nat → ETyp) (w : World) (hL : L ≤ lo B g) (hr : RowM L w p n blk off 2 (fun i => (E i).cs))
  (h1 : CA b1 #[.pointer (some ⟨g,0,none⟩)] 135 w) (h2 : CA b2 #[.slice p n c] 22 w) (h3 : CA b3 #[.func (.func k) #[] #[.pointer (some ⟨bw,0,none⟩)]] 139 w)
  (hP : ∀ i,i < n → ∀ bs W,FR B g w W → WR B g bs W → bs.length ≤ 3000000000000 → Calls Tryz.prog k #[.agg #[.slice (E i).pa (E i).a.length (E i).ca,.slice (E i).pb (E i).b.length (E i).cb],.pointer (some ⟨bw,0,none⟩)] W fun e w' => e = .returned (.tuple #[]) ∧ WR B g (bs ++ P i) w' ∧ FR B g W w')
  (hw : WR B g [] w) (hX : (flB n P).length ≤ 1000000000000) :
  Calls Tryz.prog 167 #[.pointer (some ⟨b1,0,none⟩),.pointer (some ⟨b2,0,none⟩),.pointer (some ⟨b3,0,none⟩)] w fun e w' => e = .returned (.tuple #[]) ∧ WR B g (uI n ++ flB n P) w' ∧ FR B g w w' := by
 have HC := hid (wl_Typ B g k eg bw P n blk off c p (fun i => (E i).pa) (fun i => (E i).a.length) (fun i => (E i).ca) (fun i => (E i).pb) (fun i => (E i).b.length) (fun i => (E i).cb) w hr.1 (fun h => ⟨(hr.2.1 h).1,by
  have a1 := (hr.2.1 h).2
  have a2 := lo_g B g
  have a3 := lo_B B g
  have a4 := hw.1
  exact ⟨by omega,by omega,.inl (by omega)⟩⟩) (fun i hi => ⟨hr.2.2 i hi 0 _ rfl,hr.2.2 i hi 1 _ rfl⟩) hP [] hw (by simp only [List.length_nil]; omega))
 have y1 := h1.at (k := 0) (v := .pointer (some ⟨g,0,none⟩)) rfl
 have y2 := h2.at (k := 0) (v := .slice p n c) rfl
 have y3 := h3.at (k := 0) (v := .func (.func k) #[] #[.pointer (some ⟨bw,0,none⟩)]) rfl
 clear hr h1 h2 h3 hP hw hX hL
 rw [List.nil_append] at HC
 generalize uI n ++ flB n P = X at *
 go_enter Tryz.func167,Tryz.ntmps167
 go_wp2_with (go_at_call 168; (with_reducible refine HC.out.mono ?_); rintro e w1 ⟨rfl,hw',hf⟩; have HW1 := hid hw'; have HF1 := hid hf; clear hw' hf)
 (first | go_end0 | refine bodyPost_ret (results_none rfl _ _ _) rfl ?_)
 exact ⟨rfl,HW1.out,HF1.out⟩
set_option maxHeartbeats 4000000 in
theorem sec_Typ (B g bw k L : Nat) (eg : ∀ args w,(callFunc k args).run Tryz.prog w = .ok (.enter k args) w) (id : Int) (P : Nat → List UInt8) (p : Option Addr) (n c blk off : Nat) (E : Nat → ETyp) (w : World) (hL : L ≤ lo B g) (hr : RowM L w p n blk off 2 (fun i => (E i).cs))
  (hP : ∀ B' i,i < n → B ≤ B' → ∀ bs W,FR B g w W → WR B' g bs W → bs.length ≤ 3000000000000 → Calls Tryz.prog k #[.agg #[.slice (E i).pa (E i).a.length (E i).ca,.slice (E i).pb (E i).b.length (E i).cb],.pointer (some ⟨bw,0,none⟩)] W fun e w' => e = .returned (.tuple #[]) ∧ WR B' g (bs ++ P i) w' ∧ FR B' g W w')
  (hX : (flB n P).length ≤ 1000000000000) (bs : List UInt8) (hw : WR0 B g bs w) (hn : bs.length ≤ 90000000000000) :
  Calls Tryz.prog 97 #[.pointer (some ⟨g,0,none⟩),.int .i64 id,.slice p n c,.func (.func k) #[] #[.pointer (some ⟨bw,0,none⟩)]] w fun e w' => e = .returned (.tuple #[]) ∧ WR0 B g (bs ++ secL id n (flB n P)) w' ∧ FR B g w w' := by
 have hB := hw.base
 have hLw : L ≤ w.heap.size := Nat.le_trans hL (Nat.le_trans (lo_B B g) hB)
 have hgl := hw.lt
 have hmf : ∀ (fn : Fn) (first cap : Array Value) (w : World),(Instr.makeFunc fn first cap).run Tryz.prog w = .ok (.func fn first cap) w := fun _ _ _ _ => rfl
 have hF3 := (((FR.refl B g w).alloc (.cells #[.pointer (some ⟨g,0,none⟩)] 135)).alloc (.cells #[.slice p n c] 22)).alloc (.cells #[.func (.func k) #[] #[.pointer (some ⟨bw,0,none⟩)]] 139)
 have HF3 := hid hF3
 have HW3 := hid (((hw.alloc (.cells #[.pointer (some ⟨g,0,none⟩)] 135)).alloc (.cells #[.slice p n c] 22)).alloc (.cells #[.func (.func k) #[] #[.pointer (some ⟨bw,0,none⟩)]] 139))
 have c1 := ((CA.new w #[.pointer (some ⟨g,0,none⟩)] 135).alloc (.cells #[.slice p n c] 22)).alloc (.cells #[.func (.func k) #[] #[.pointer (some ⟨bw,0,none⟩)]] 139)
 have c2 := (CA.new (w.alloc (.cells #[.pointer (some ⟨g,0,none⟩)] 135)) #[.slice p n c] 22).alloc (.cells #[.func (.func k) #[] #[.pointer (some ⟨bw,0,none⟩)]] 139)
 have c3 := CA.new ((w.alloc (.cells #[.pointer (some ⟨g,0,none⟩)] 135)).alloc (.cells #[.slice p n c] 22)) #[.func (.func k) #[] #[.pointer (some ⟨bw,0,none⟩)]] 139
 simp only [size_al] at c2 c3
 have HC1 := hid c1
 have HC2 := hid c2
 have HUL := uI_len n
 have HC := hid (section0_wm B g 167 (fun _ _ => rfl) #[.pointer (some ⟨w.heap.size,0,none⟩),.pointer (some ⟨w.heap.size + 1,0,none⟩),.pointer (some ⟨w.heap.size + 1 + 1,0,none⟩)] id (uI n ++ flB n P) (((w.alloc (.cells #[.pointer (some ⟨g,0,none⟩)] 135)).alloc (.cells #[.slice p n c] 22)).alloc (.cells #[.func (.func k) #[] #[.pointer (some ⟨bw,0,none⟩)]] 139)) (by simp only [List.length_append]; omega)
  (fun B' W hBB hF hW => lin_Typ B' g w.heap.size (w.heap.size + 1) (w.heap.size + 1 + 1) bw k L eg P p n c blk off E W (le_lo (Nat.le_trans hL (Nat.le_trans (lo_B B g) hBB)) (Nat.le_trans hL (lo_g B g))) (hr.below (((hF3.trans hF).belowL hB).mono hL)) (c1.fr hF (by decide) (by omega)) (c2.fr hF (by decide) (by omega)) (c3.fr hF (by decide) (by omega))
   (fun i hi bs' W' hF' hW' hl' => hP B' i hi hBB bs' W' ((hF3.trans hF).trans (hF'.lower hBB)) hW' hl') hW hX) bs (((hw.alloc _).alloc _).alloc _) hn)
 have nn62 : (n : Int) < 9223372036854775807 := by have := hr.1; omega
 have HWW := hid hw
 clear hP hX hw hn hr hB hLw hgl hF3 c1 c2 c3 HUL hL
 by_cases h0 : n = 0
 ·subst h0
  clear HC
  have HE := hid (show bs ++ secL id 0 (flB 0 P) = bs by simp [secL])
  rw [HE.out]
  go_enter Tryz.func97,Tryz.ntmps97
  go_wp2
  (first | go_end0 | refine bodyPost_ret (results_none rfl _ _ _) rfl ?_)
  exact ⟨rfl,HW3.out,HF3.out⟩
 have HE := hid (show secL id n (flB n P) = byI id :: szL (uI n ++ flB n P) by rw [secL,if_neg h0])
 rw [HE.out]
 have dn : ((n : Int) == 0) = false := by simpa using h0
 clear h0 HE
 generalize byI id :: szL (uI n ++ flB n P) = X at *
 go_enter Tryz.func97,Tryz.ntmps97
 go_upto_region 1 with fail
 generalize (((w.alloc (.cells #[.pointer (some ⟨g,0,none⟩)] 135)).alloc (.cells #[.slice p n c] 22)).alloc (.cells #[.func (.func k) #[] #[.pointer (some ⟨bw,0,none⟩)]] 139)) = w0 at *
 generalize w.heap.size = gx at *
 have y2 := HC2.out.at (k := 0) (v := .slice p n c) rfl
 have y1 := HC1.out.at (k := 0) (v := .pointer (some ⟨g,0,none⟩)) rfl
 go_wp2_with (go_at_call 118; (with_reducible refine HC.out.mono ?_); rintro e w1 ⟨rfl,hw',hf⟩; have HW4 := hid hw'; have HF4 := hid (HF3.out.trans hf); clear hw' hf)
 (first | go_end0 | refine bodyPost_ret (results_none rfl _ _ _) rfl ?_)
 exact ⟨rfl,.inl HW4.out,HF4.out⟩
set_option maxHeartbeats 4000000 in
theorem lin_Imp (B g b1 b2 b3 bw k L : Nat) (eg : ∀ args w,(callFunc k args).run Tryz.prog w = .ok (.enter k args) w) (P : Nat → List UInt8) (p : Option Addr) (n c blk off : Nat) (E : Nat → EImp) (w : World) (hL : L ≤ lo B g) (hr : RowM L w p n blk off 13 (fun i => (E i).cs))
  (h1 : CA b1 #[.pointer (some ⟨g,0,none⟩)] 135 w) (h2 : CA b2 #[.slice p n c] 23 w) (h3 : CA b3 #[.func (.func k) #[] #[.pointer (some ⟨bw,0,none⟩)]] 141 w)
  (hP : ∀ i,i < n → ∀ bs W,FR B g w W → WR B g bs W → bs.length ≤ 3000000000000 → Calls Tryz.prog k #[.agg #[.string (E i).s0,.string (E i).s1,.int .i64 (E i).kd,.int .i64 (E i).ty,.int .i64 (E i).tr,.int .i64 (E i).tmn,.int .i64 (E i).tmx,.bool (E i).th,.int .i64 (E i).mmn,.int .i64 (E i).mmx,.bool (E i).mh,.int .i64 (E i).gt,.bool (E i).gm],.pointer (some ⟨bw,0,none⟩)] W fun e w' => e = .returned (.tuple #[]) ∧ WR B g (bs ++ P i) w' ∧ FR B g W w')
  (hw : WR B g [] w) (hX : (flB n P).length ≤ 1000000000000) :
  Calls Tryz.prog 171 #[.pointer (some ⟨b1,0,none⟩),.pointer (some ⟨b2,0,none⟩),.pointer (some ⟨b3,0,none⟩)] w fun e w' => e = .returned (.tuple #[]) ∧ WR B g (uI n ++ flB n P) w' ∧ FR B g w w' := by
 have HC := hid (wl_Imp B g k eg bw P n blk off c p (fun i => (E i).s0) (fun i => (E i).s1) (fun i => (E i).kd) (fun i => (E i).ty) (fun i => (E i).tr) (fun i => (E i).tmn) (fun i => (E i).tmx) (fun i => (E i).th) (fun i => (E i).mmn) (fun i => (E i).mmx) (fun i => (E i).mh) (fun i => (E i).gt) (fun i => (E i).gm) w hr.1 (fun h => ⟨(hr.2.1 h).1,by
  have a1 := (hr.2.1 h).2
  have a2 := lo_g B g
  have a3 := lo_B B g
  have a4 := hw.1
  exact ⟨by omega,by omega,.inl (by omega)⟩⟩) (fun i hi => ⟨hr.2.2 i hi 0 _ rfl,hr.2.2 i hi 1 _ rfl,hr.2.2 i hi 2 _ rfl,hr.2.2 i hi 3 _ rfl,hr.2.2 i hi 4 _ rfl,hr.2.2 i hi 5 _ rfl,hr.2.2 i hi 6 _ rfl,hr.2.2 i hi 7 _ rfl,hr.2.2 i hi 8 _ rfl,hr.2.2 i hi 9 _ rfl,hr.2.2 i hi 10 _ rfl,hr.2.2 i hi 11 _ rfl,hr.2.2 i hi 12 _ rfl⟩) hP [] hw (by simp only [List.length_nil]; omega))
 have y1 := h1.at (k := 0) (v := .pointer (some ⟨g,0,none⟩)) rfl
 have y2 := h2.at (k := 0) (v := .slice p n c) rfl
 have y3 := h3.at (k := 0) (v := .func (.func k) #[] #[.pointer (some ⟨bw,0,none⟩)]) rfl
 clear hr h1 h2 h3 hP hw hX hL
 rw [List.nil_append] at HC
 generalize uI n ++ flB n P = X at *
 go_enter Tryz.func171,Tryz.ntmps171
 go_wp2_with (go_at_call 172; (with_reducible refine HC.out.mono ?_); rintro e w1 ⟨rfl,hw',hf⟩; have HW1 := hid hw'; have HF1 := hid hf; clear hw' hf)
 (first | go_end0 | refine bodyPost_ret (results_none rfl _ _ _) rfl ?_)
 exact ⟨rfl,HW1.out,HF1.out⟩
set_option maxHeartbeats 4000000 in
theorem sec_Imp (B g bw k L : Nat) (eg : ∀ args w,(callFunc k args).run Tryz.prog w = .ok (.enter k args) w) (id : Int) (P : Nat → List UInt8) (p : Option Addr) (n c blk off : Nat) (E : Nat → EImp) (w : World) (hL : L ≤ lo B g) (hr : RowM L w p n blk off 13 (fun i => (E i).cs))
  (hP : ∀ B' i,i < n → B ≤ B' → ∀ bs W,FR B g w W → WR B' g bs W → bs.length ≤ 3000000000000 → Calls Tryz.prog k #[.agg #[.string (E i).s0,.string (E i).s1,.int .i64 (E i).kd,.int .i64 (E i).ty,.int .i64 (E i).tr,.int .i64 (E i).tmn,.int .i64 (E i).tmx,.bool (E i).th,.int .i64 (E i).mmn,.int .i64 (E i).mmx,.bool (E i).mh,.int .i64 (E i).gt,.bool (E i).gm],.pointer (some ⟨bw,0,none⟩)] W fun e w' => e = .returned (.tuple #[]) ∧ WR B' g (bs ++ P i) w' ∧ FR B' g W w')
  (hX : (flB n P).length ≤ 1000000000000) (bs : List UInt8) (hw : WR0 B g bs w) (hn : bs.length ≤ 90000000000000) :
  Calls Tryz.prog 100 #[.pointer (some ⟨g,0,none⟩),.int .i64 id,.slice p n c,.func (.func k) #[] #[.pointer (some ⟨bw,0,none⟩)]] w fun e w' => e = .returned (.tuple #[]) ∧ WR0 B g (bs ++ secL id n (flB n P)) w' ∧ FR B g w w' := by
 have hB := hw.base
 have hLw : L ≤ w.heap.size := Nat.le_trans hL (Nat.le_trans (lo_B B g) hB)
 have hgl := hw.lt
 have hmf : ∀ (fn : Fn) (first cap : Array Value) (w : World),(Instr.makeFunc fn first cap).run Tryz.prog w = .ok (.func fn first cap) w := fun _ _ _ _ => rfl
 have hF3 := (((FR.refl B g w).alloc (.cells #[.pointer (some ⟨g,0,none⟩)] 135)).alloc (.cells #[.slice p n c] 23)).alloc (.cells #[.func (.func k) #[] #[.pointer (some ⟨bw,0,none⟩)]] 141)
 have HF3 := hid hF3
 have HW3 := hid (((hw.alloc (.cells #[.pointer (some ⟨g,0,none⟩)] 135)).alloc (.cells #[.slice p n c] 23)).alloc (.cells #[.func (.func k) #[] #[.pointer (some ⟨bw,0,none⟩)]] 141))
 have c1 := ((CA.new w #[.pointer (some ⟨g,0,none⟩)] 135).alloc (.cells #[.slice p n c] 23)).alloc (.cells #[.func (.func k) #[] #[.pointer (some ⟨bw,0,none⟩)]] 141)
 have c2 := (CA.new (w.alloc (.cells #[.pointer (some ⟨g,0,none⟩)] 135)) #[.slice p n c] 23).alloc (.cells #[.func (.func k) #[] #[.pointer (some ⟨bw,0,none⟩)]] 141)
 have c3 := CA.new ((w.alloc (.cells #[.pointer (some ⟨g,0,none⟩)] 135)).alloc (.cells #[.slice p n c] 23)) #[.func (.func k) #[] #[.pointer (some ⟨bw,0,none⟩)]] 141
 simp only [size_al] at c2 c3
 have HC1 := hid c1
 have HC2 := hid c2
 have HUL := uI_len n
 have HC := hid (section0_wm B g 171 (fun _ _ => rfl) #[.pointer (some ⟨w.heap.size,0,none⟩),.pointer (some ⟨w.heap.size + 1,0,none⟩),.pointer (some ⟨w.heap.size + 1 + 1,0,none⟩)] id (uI n ++ flB n P) (((w.alloc (.cells #[.pointer (some ⟨g,0,none⟩)] 135)).alloc (.cells #[.slice p n c] 23)).alloc (.cells #[.func (.func k) #[] #[.pointer (some ⟨bw,0,none⟩)]] 141)) (by simp only [List.length_append]; omega)
  (fun B' W hBB hF hW => lin_Imp B' g w.heap.size (w.heap.size + 1) (w.heap.size + 1 + 1) bw k L eg P p n c blk off E W (le_lo (Nat.le_trans hL (Nat.le_trans (lo_B B g) hBB)) (Nat.le_trans hL (lo_g B g))) (hr.below (((hF3.trans hF).belowL hB).mono hL)) (c1.fr hF (by decide) (by omega)) (c2.fr hF (by decide) (by omega)) (c3.fr hF (by decide) (by omega))
   (fun i hi bs' W' hF' hW' hl' => hP B' i hi hBB bs' W' ((hF3.trans hF).trans (hF'.lower hBB)) hW' hl') hW hX) bs (((hw.alloc _).alloc _).alloc _) hn)
 have nn62 : (n : Int) < 9223372036854775807 := by have := hr.1; omega
 have HWW := hid hw
 clear hP hX hw hn hr hB hLw hgl hF3 c1 c2 c3 HUL hL
 by_cases h0 : n = 0
 ·subst h0
  clear HC
  have HE := hid (show bs ++ secL id 0 (flB 0 P) = bs by simp [secL])
  rw [HE.out]
  go_enter Tryz.func100,Tryz.ntmps100
  go_wp2
  (first | go_end0 | refine bodyPost_ret (results_none rfl _ _ _) rfl ?_)
  exact ⟨rfl,HW3.out,HF3.out⟩
 have HE := hid (show secL id n (flB n P) = byI id :: szL (uI n ++ flB n P) by rw [secL,if_neg h0])
 rw [HE.out]
 have dn : ((n : Int) == 0) = false := by simpa using h0
 clear h0 HE
 generalize byI id :: szL (uI n ++ flB n P) = X at *
 go_enter Tryz.func100,Tryz.ntmps100
 go_upto_region 1 with fail
 generalize (((w.alloc (.cells #[.pointer (some ⟨g,0,none⟩)] 135)).alloc (.cells #[.slice p n c] 23)).alloc (.cells #[.func (.func k) #[] #[.pointer (some ⟨bw,0,none⟩)]] 141)) = w0 at *
 generalize w.heap.size = gx at *
 have y2 := HC2.out.at (k := 0) (v := .slice p n c) rfl
 have y1 := HC1.out.at (k := 0) (v := .pointer (some ⟨g,0,none⟩)) rfl
 go_wp2_with (go_at_call 118; (with_reducible refine HC.out.mono ?_); rintro e w1 ⟨rfl,hw',hf⟩; have HW4 := hid hw'; have HF4 := hid (HF3.out.trans hf); clear hw' hf)
 (first | go_end0 | refine bodyPost_ret (results_none rfl _ _ _) rfl ?_)
 exact ⟨rfl,.inl HW4.out,HF4.out⟩
set_option maxHeartbeats 4000000 in
theorem lin_Fun (B g b1 b2 b3 bw k L : Nat) (eg : ∀ args w,(callFunc k args).run Tryz.prog w = .ok (.enter k args) w) (P : Nat → List UInt8) (p : Option Addr) (n c blk off : Nat) (E : Nat → EFun) (w : World) (hL : L ≤ lo B g) (hr : RowM L w p n blk off 3 (fun i => (E i).cs))
  (h1 : CA b1 #[.pointer (some ⟨g,0,none⟩)] 135 w) (h2 : CA b2 #[.slice p n c] 24 w) (h3 : CA b3 #[.func (.func k) #[] #[.pointer (some ⟨bw,0,none⟩)]] 144 w)
  (hP : ∀ i,i < n → ∀ bs W,FR B g w W → WR B g bs W → bs.length ≤ 3000000000000 → Calls Tryz.prog k #[.agg #[.int .i64 (E i).ty,.slice (E i).pl (E i).l.length (E i).cl,.slice (E i).pf (E i).f.len (E i).cf],.pointer (some ⟨bw,0,none⟩)] W fun e w' => e = .returned (.tuple #[]) ∧ WR B g (bs ++ P i) w' ∧ FR B g W w')
  (hw : WR B g [] w) (hX : (flB n P).length ≤ 1000000000000) :
  Calls Tryz.prog 175 #[.pointer (some ⟨b1,0,none⟩),.pointer (some ⟨b2,0,none⟩),.pointer (some ⟨b3,0,none⟩)] w fun e w' => e = .returned (.tuple #[]) ∧ WR B g (uI n ++ flB n P) w' ∧ FR B g w w' := by
 have HC := hid (wl_Fun B g k eg bw P n blk off c p (fun i => (E i).ty) (fun i => (E i).pl) (fun i => (E i).l.length) (fun i => (E i).cl) (fun i => (E i).pf) (fun i => (E i).f.len) (fun i => (E i).cf) w hr.1 (fun h => ⟨(hr.2.1 h).1,by
  have a1 := (hr.2.1 h).2
  have a2 := lo_g B g
  have a3 := lo_B B g
  have a4 := hw.1
  exact ⟨by omega,by omega,.inl (by omega)⟩⟩) (fun i hi => ⟨hr.2.2 i hi 0 _ rfl,hr.2.2 i hi 1 _ rfl,hr.2.2 i hi 2 _ rfl⟩) hP [] hw (by simp only [List.length_nil]; omega))
 have y1 := h1.at (k := 0) (v := .pointer (some ⟨g,0,none⟩)) rfl
 have y2 := h2.at (k := 0) (v := .slice p n c) rfl
 have y3 := h3.at (k := 0) (v := .func (.func k) #[] #[.pointer (some ⟨bw,0,none⟩)]) rfl
 clear hr h1 h2 h3 hP hw hX hL
 rw [List.nil_append] at HC
 generalize uI n ++ flB n P = X at *
 go_enter Tryz.func175,Tryz.ntmps175
 go_wp2_with (go_at_call 176; (with_reducible refine HC.out.mono ?_); rintro e w1 ⟨rfl,hw',hf⟩; have HW1 := hid hw'; have HF1 := hid hf; clear hw' hf)
 (first | go_end0 | refine bodyPost_ret (results_none rfl _ _ _) rfl ?_)
 exact ⟨rfl,HW1.out,HF1.out⟩
set_option maxHeartbeats 4000000 in
theorem sec_Fun (B g bw k L : Nat) (eg : ∀ args w,(callFunc k args).run Tryz.prog w = .ok (.enter k args) w) (id : Int) (P : Nat → List UInt8) (p : Option Addr) (n c blk off : Nat) (E : Nat → EFun) (w : World) (hL : L ≤ lo B g) (hr : RowM L w p n blk off 3 (fun i => (E i).cs))
  (hP : ∀ B' i,i < n → B ≤ B' → ∀ bs W,FR B g w W → WR B' g bs W → bs.length ≤ 3000000000000 → Calls Tryz.prog k #[.agg #[.int .i64 (E i).ty,.slice (E i).pl (E i).l.length (E i).cl,.slice (E i).pf (E i).f.len (E i).cf],.pointer (some ⟨bw,0,none⟩)] W fun e w' => e = .returned (.tuple #[]) ∧ WR B' g (bs ++ P i) w' ∧ FR B' g W w')
  (hX : (flB n P).length ≤ 1000000000000) (bs : List UInt8) (hw : WR0 B g bs w) (hn : bs.length ≤ 90000000000000) :
  Calls Tryz.prog 103 #[.pointer (some ⟨g,0,none⟩),.int .i64 id,.slice p n c,.func (.func k) #[] #[.pointer (some ⟨bw,0,none⟩)]] w fun e w' => e = .returned (.tuple #[]) ∧ WR0 B g (bs ++ secL id n (flB n P)) w' ∧ FR B g w w' := by
 have hB := hw.base
 have hLw : L ≤ w.heap.size := Nat.le_trans hL (Nat.le_trans (lo_B B g) hB)
 have hgl := hw.lt
 have hmf : ∀ (fn : Fn) (first cap : Array Value) (w : World),(Instr.makeFunc fn first cap).run Tryz.prog w = .ok (.func fn first cap) w := fun _ _ _ _ => rfl
 have hF3 := (((FR.refl B g w).alloc (.cells #[.pointer (some ⟨g,0,none⟩)] 135)).alloc (.cells #[.slice p n c] 24)).alloc (.cells #[.func (.func k) #[] #[.pointer (some ⟨bw,0,none⟩)]] 144)
 have HF3 := hid hF3
 have HW3 := hid (((hw.alloc (.cells #[.pointer (some ⟨g,0,none⟩)] 135)).alloc (.cells #[.slice p n c] 24)).alloc (.cells #[.func (.func k) #[] #[.pointer (some ⟨bw,0,none⟩)]] 144))
 have c1 := ((CA.new w #[.pointer (some ⟨g,0,none⟩)] 135).alloc (.cells #[.slice p n c] 24)).alloc (.cells #[.func (.func k) #[] #[.pointer (some ⟨bw,0,none⟩)]] 144)
 have c2 := (CA.new (w.alloc (.cells #[.pointer (some ⟨g,0,none⟩)] 135)) #[.slice p n c] 24).alloc (.cells #[.func (.func k) #[] #[.pointer (some ⟨bw,0,none⟩)]] 144)
 have c3 := CA.new ((w.alloc (.cells #[.pointer (some ⟨g,0,none⟩)] 135)).alloc (.cells #[.slice p n c] 24)) #[.func (.func k) #[] #[.pointer (some ⟨bw,0,none⟩)]] 144
 simp only [size_al] at c2 c3
 have HC1 := hid c1
 have HC2 := hid c2
 have HUL := uI_len n
 have HC := hid (section0_wm B g 175 (fun _ _ => rfl) #[.pointer (some ⟨w.heap.size,0,none⟩),.pointer (some ⟨w.heap.size + 1,0,none⟩),.pointer (some ⟨w.heap.size + 1 + 1,0,none⟩)] id (uI n ++ flB n P) (((w.alloc (.cells #[.pointer (some ⟨g,0,none⟩)] 135)).alloc (.cells #[.slice p n c] 24)).alloc (.cells #[.func (.func k) #[] #[.pointer (some ⟨bw,0,none⟩)]] 144)) (by simp only [List.length_append]; omega)
  (fun B' W hBB hF hW => lin_Fun B' g w.heap.size (w.heap.size + 1) (w.heap.size + 1 + 1) bw k L eg P p n c blk off E W (le_lo (Nat.le_trans hL (Nat.le_trans (lo_B B g) hBB)) (Nat.le_trans hL (lo_g B g))) (hr.below (((hF3.trans hF).belowL hB).mono hL)) (c1.fr hF (by decide) (by omega)) (c2.fr hF (by decide) (by omega)) (c3.fr hF (by decide) (by omega))
   (fun i hi bs' W' hF' hW' hl' => hP B' i hi hBB bs' W' ((hF3.trans hF).trans (hF'.lower hBB)) hW' hl') hW hX) bs (((hw.alloc _).alloc _).alloc _) hn)
 have nn62 : (n : Int) < 9223372036854775807 := by have := hr.1; omega
 have HWW := hid hw
 clear hP hX hw hn hr hB hLw hgl hF3 c1 c2 c3 HUL hL
 by_cases h0 : n = 0
 ·subst h0
  clear HC
  have HE := hid (show bs ++ secL id 0 (flB 0 P) = bs by simp [secL])
  rw [HE.out]
  go_enter Tryz.func103,Tryz.ntmps103
  go_wp2
  (first | go_end0 | refine bodyPost_ret (results_none rfl _ _ _) rfl ?_)
  exact ⟨rfl,HW3.out,HF3.out⟩
 have HE := hid (show secL id n (flB n P) = byI id :: szL (uI n ++ flB n P) by rw [secL,if_neg h0])
 rw [HE.out]
 have dn : ((n : Int) == 0) = false := by simpa using h0
 clear h0 HE
 generalize byI id :: szL (uI n ++ flB n P) = X at *
 go_enter Tryz.func103,Tryz.ntmps103
 go_upto_region 1 with fail
 generalize (((w.alloc (.cells #[.pointer (some ⟨g,0,none⟩)] 135)).alloc (.cells #[.slice p n c] 24)).alloc (.cells #[.func (.func k) #[] #[.pointer (some ⟨bw,0,none⟩)]] 144)) = w0 at *
 generalize w.heap.size = gx at *
 have y2 := HC2.out.at (k := 0) (v := .slice p n c) rfl
 have y1 := HC1.out.at (k := 0) (v := .pointer (some ⟨g,0,none⟩)) rfl
 go_wp2_with (go_at_call 118; (with_reducible refine HC.out.mono ?_); rintro e w1 ⟨rfl,hw',hf⟩; have HW4 := hid hw'; have HF4 := hid (HF3.out.trans hf); clear hw' hf)
 (first | go_end0 | refine bodyPost_ret (results_none rfl _ _ _) rfl ?_)
 exact ⟨rfl,.inl HW4.out,HF4.out⟩
set_option maxHeartbeats 4000000 in
theorem lin_Tab (B g b1 b2 b3 bw k L : Nat) (eg : ∀ args w,(callFunc k args).run Tryz.prog w = .ok (.enter k args) w) (P : Nat → List UInt8) (p : Option Addr) (n c blk off : Nat) (E : Nat → ETab) (w : World) (hL : L ≤ lo B g) (hr : RowM L w p n blk off 4 (fun i => (E i).cs))
  (h1 : CA b1 #[.pointer (some ⟨g,0,none⟩)] 135 w) (h2 : CA b2 #[.slice p n c] 25 w) (h3 : CA b3 #[.func (.func k) #[] #[.pointer (some ⟨bw,0,none⟩)]] 146 w)
  (hP : ∀ i,i < n → ∀ bs W,FR B g w W → WR B g bs W → bs.length ≤ 3000000000000 → Calls Tryz.prog k #[.agg #[.int .i64 (E i).r,.int .i64 (E i).mn,.int .i64 (E i).mx,.bool (E i).h],.pointer (some ⟨bw,0,none⟩)] W fun e w' => e = .returned (.tuple #[]) ∧ WR B g (bs ++ P i) w' ∧ FR B g W w')
  (hw : WR B g [] w) (hX : (flB n P).length ≤ 1000000000000) :
  Calls Tryz.prog 178 #[.pointer (some ⟨b1,0,none⟩),.pointer (some ⟨b2,0,none⟩),.pointer (some ⟨b3,0,none⟩)] w fun e w' => e = .returned (.tuple #[]) ∧ WR B g (uI n ++ flB n P) w' ∧ FR B g w w' := by
 have HC := hid (wl_Tab B g k eg bw P n blk off c p (fun i => (E i).r) (fun i => (E i).mn) (fun i => (E i).mx) (fun i => (E i).h) w hr.1 (fun h => ⟨(hr.2.1 h).1,by
  have a1 := (hr.2.1 h).2
  have a2 := lo_g B g
  have a3 := lo_B B g
  have a4 := hw.1
  exact ⟨by omega,by omega,.inl (by omega)⟩⟩) (fun i hi => ⟨hr.2.2 i hi 0 _ rfl,hr.2.2 i hi 1 _ rfl,hr.2.2 i hi 2 _ rfl,hr.2.2 i hi 3 _ rfl⟩) hP [] hw (by simp only [List.length_nil]; omega))
 have y1 := h1.at (k := 0) (v := .pointer (some ⟨g,0,none⟩)) rfl
 have y2 := h2.at (k := 0) (v := .slice p n c) rfl
 have y3 := h3.at (k := 0) (v := .func (.func k) #[] #[.pointer (some ⟨bw,0,none⟩)]) rfl
 clear hr h1 h2 h3 hP hw hX hL
 rw [List.nil_append] at HC
 generalize uI n ++ flB n P = X at *
 go_enter Tryz.func178,Tryz.ntmps178
 go_wp2_with (go_at_call 179; (with_reducible refine HC.out.mono ?_); rintro e w1 ⟨rfl,hw',hf⟩; have HW1 := hid hw'; have HF1 := hid hf; clear hw' hf)
 (first | go_end0 | refine bodyPost_ret (results_none rfl _ _ _) rfl ?_)
 exact ⟨rfl,HW1.out,HF1.out⟩
set_option maxHeartbeats 4000000 in
theorem sec_Tab (B g bw k L : Nat) (eg : ∀ args w,(callFunc k args).run Tryz.prog w = .ok (.enter k args) w) (id : Int) (P : Nat → List UInt8) (p : Option Addr) (n c blk off : Nat) (E : Nat → ETab) (w : World) (hL : L ≤ lo B g) (hr : RowM L w p n blk off 4 (fun i => (E i).cs))
  (hP : ∀ B' i,i < n → B ≤ B' → ∀ bs W,FR B g w W → WR B' g bs W → bs.length ≤ 3000000000000 → Calls Tryz.prog k #[.agg #[.int .i64 (E i).r,.int .i64 (E i).mn,.int .i64 (E i).mx,.bool (E i).h],.pointer (some ⟨bw,0,none⟩)] W fun e w' => e = .returned (.tuple #[]) ∧ WR B' g (bs ++ P i) w' ∧ FR B' g W w')
  (hX : (flB n P).length ≤ 1000000000000) (bs : List UInt8) (hw : WR0 B g bs w) (hn : bs.length ≤ 90000000000000) :
  Calls Tryz.prog 106 #[.pointer (some ⟨g,0,none⟩),.int .i64 id,.slice p n c,.func (.func k) #[] #[.pointer (some ⟨bw,0,none⟩)]] w fun e w' => e = .returned (.tuple #[]) ∧ WR0 B g (bs ++ secL id n (flB n P)) w' ∧ FR B g w w' := by
 have hB := hw.base
 have hLw : L ≤ w.heap.size := Nat.le_trans hL (Nat.le_trans (lo_B B g) hB)
 have hgl := hw.lt
 have hmf : ∀ (fn : Fn) (first cap : Array Value) (w : World),(Instr.makeFunc fn first cap).run Tryz.prog w = .ok (.func fn first cap) w := fun _ _ _ _ => rfl
 have hF3 := (((FR.refl B g w).alloc (.cells #[.pointer (some ⟨g,0,none⟩)] 135)).alloc (.cells #[.slice p n c] 25)).alloc (.cells #[.func (.func k) #[] #[.pointer (some ⟨bw,0,none⟩)]] 146)
 have HF3 := hid hF3
 have HW3 := hid (((hw.alloc (.cells #[.pointer (some ⟨g,0,none⟩)] 135)).alloc (.cells #[.slice p n c] 25)).alloc (.cells #[.func (.func k) #[] #[.pointer (some ⟨bw,0,none⟩)]] 146))
 have c1 := ((CA.new w #[.pointer (some ⟨g,0,none⟩)] 135).alloc (.cells #[.slice p n c] 25)).alloc (.cells #[.func (.func k) #[] #[.pointer (some ⟨bw,0,none⟩)]] 146)
 have c2 := (CA.new (w.alloc (.cells #[.pointer (some ⟨g,0,none⟩)] 135)) #[.slice p n c] 25).alloc (.cells #[.func (.func k) #[] #[.pointer (some ⟨bw,0,none⟩)]] 146)
 have c3 := CA.new ((w.alloc (.cells #[.pointer (some ⟨g,0,none⟩)] 135)).alloc (.cells #[.slice p n c] 25)) #[.func (.func k) #[] #[.pointer (some ⟨bw,0,none⟩)]] 146
 simp only [size_al] at c2 c3
 have HC1 := hid c1
 have HC2 := hid c2
 have HUL := uI_len n
 have HC := hid (section0_wm B g 178 (fun _ _ => rfl) #[.pointer (some ⟨w.heap.size,0,none⟩),.pointer (some ⟨w.heap.size + 1,0,none⟩),.pointer (some ⟨w.heap.size + 1 + 1,0,none⟩)] id (uI n ++ flB n P) (((w.alloc (.cells #[.pointer (some ⟨g,0,none⟩)] 135)).alloc (.cells #[.slice p n c] 25)).alloc (.cells #[.func (.func k) #[] #[.pointer (some ⟨bw,0,none⟩)]] 146)) (by simp only [List.length_append]; omega)
  (fun B' W hBB hF hW => lin_Tab B' g w.heap.size (w.heap.size + 1) (w.heap.size + 1 + 1) bw k L eg P p n c blk off E W (le_lo (Nat.le_trans hL (Nat.le_trans (lo_B B g) hBB)) (Nat.le_trans hL (lo_g B g))) (hr.below (((hF3.trans hF).belowL hB).mono hL)) (c1.fr hF (by decide) (by omega)) (c2.fr hF (by decide) (by omega)) (c3.fr hF (by decide) (by omega))
   (fun i hi bs' W' hF' hW' hl' => hP B' i hi hBB bs' W' ((hF3.trans hF).trans (hF'.lower hBB)) hW' hl') hW hX) bs (((hw.alloc _).alloc _).alloc _) hn)
 have nn62 : (n : Int) < 9223372036854775807 := by have := hr.1; omega
 have HWW := hid hw
 clear hP hX hw hn hr hB hLw hgl hF3 c1 c2 c3 HUL hL
 by_cases h0 : n = 0
 ·subst h0
  clear HC
  have HE := hid (show bs ++ secL id 0 (flB 0 P) = bs by simp [secL])
  rw [HE.out]
  go_enter Tryz.func106,Tryz.ntmps106
  go_wp2
  (first | go_end0 | refine bodyPost_ret (results_none rfl _ _ _) rfl ?_)
  exact ⟨rfl,HW3.out,HF3.out⟩
 have HE := hid (show secL id n (flB n P) = byI id :: szL (uI n ++ flB n P) by rw [secL,if_neg h0])
 rw [HE.out]
 have dn : ((n : Int) == 0) = false := by simpa using h0
 clear h0 HE
 generalize byI id :: szL (uI n ++ flB n P) = X at *
 go_enter Tryz.func106,Tryz.ntmps106
 go_upto_region 1 with fail
 generalize (((w.alloc (.cells #[.pointer (some ⟨g,0,none⟩)] 135)).alloc (.cells #[.slice p n c] 25)).alloc (.cells #[.func (.func k) #[] #[.pointer (some ⟨bw,0,none⟩)]] 146)) = w0 at *
 generalize w.heap.size = gx at *
 have y2 := HC2.out.at (k := 0) (v := .slice p n c) rfl
 have y1 := HC1.out.at (k := 0) (v := .pointer (some ⟨g,0,none⟩)) rfl
 go_wp2_with (go_at_call 118; (with_reducible refine HC.out.mono ?_); rintro e w1 ⟨rfl,hw',hf⟩; have HW4 := hid hw'; have HF4 := hid (HF3.out.trans hf); clear hw' hf)
 (first | go_end0 | refine bodyPost_ret (results_none rfl _ _ _) rfl ?_)
 exact ⟨rfl,.inl HW4.out,HF4.out⟩
set_option maxHeartbeats 4000000 in
theorem lin_Lim (B g b1 b2 b3 bw k L : Nat) (eg : ∀ args w,(callFunc k args).run Tryz.prog w = .ok (.enter k args) w) (P : Nat → List UInt8) (p : Option Addr) (n c blk off : Nat) (E : Nat → ELim) (w : World) (hL : L ≤ lo B g) (hr : RowM L w p n blk off 3 (fun i => (E i).cs))
  (h1 : CA b1 #[.pointer (some ⟨g,0,none⟩)] 135 w) (h2 : CA b2 #[.slice p n c] 26 w) (h3 : CA b3 #[.func (.func k) #[] #[.pointer (some ⟨bw,0,none⟩)]] 148 w)
  (hP : ∀ i,i < n → ∀ bs W,FR B g w W → WR B g bs W → bs.length ≤ 3000000000000 → Calls Tryz.prog k #[.agg #[.int .i64 (E i).mn,.int .i64 (E i).mx,.bool (E i).h],.pointer (some ⟨bw,0,none⟩)] W fun e w' => e = .returned (.tuple #[]) ∧ WR B g (bs ++ P i) w' ∧ FR B g W w')
  (hw : WR B g [] w) (hX : (flB n P).length ≤ 1000000000000) :
  Calls Tryz.prog 180 #[.pointer (some ⟨b1,0,none⟩),.pointer (some ⟨b2,0,none⟩),.pointer (some ⟨b3,0,none⟩)] w fun e w' => e = .returned (.tuple #[]) ∧ WR B g (uI n ++ flB n P) w' ∧ FR B g w w' := by
 have HC := hid (wl_Lim B g k eg bw P n blk off c p (fun i => (E i).mn) (fun i => (E i).mx) (fun i => (E i).h) w hr.1 (fun h => ⟨(hr.2.1 h).1,by
  have a1 := (hr.2.1 h).2
  have a2 := lo_g B g
  have a3 := lo_B B g
  have a4 := hw.1
  exact ⟨by omega,by omega,.inl (by omega)⟩⟩) (fun i hi => ⟨hr.2.2 i hi 0 _ rfl,hr.2.2 i hi 1 _ rfl,hr.2.2 i hi 2 _ rfl⟩) hP [] hw (by simp only [List.length_nil]; omega))
 have y1 := h1.at (k := 0) (v := .pointer (some ⟨g,0,none⟩)) rfl
 have y2 := h2.at (k := 0) (v := .slice p n c) rfl
 have y3 := h3.at (k := 0) (v := .func (.func k) #[] #[.pointer (some ⟨bw,0,none⟩)]) rfl
 clear hr h1 h2 h3 hP hw hX hL
 rw [List.nil_append] at HC
 generalize uI n ++ flB n P = X at *
 go_enter Tryz.func180,Tryz.ntmps180
 go_wp2_with (go_at_call 181; (with_reducible refine HC.out.mono ?_); rintro e w1 ⟨rfl,hw',hf⟩; have HW1 := hid hw'; have HF1 := hid hf; clear hw' hf)
 (first | go_end0 | refine bodyPost_ret (results_none rfl _ _ _) rfl ?_)
 exact ⟨rfl,HW1.out,HF1.out⟩
set_option maxHeartbeats 4000000 in
theorem sec_Lim (B g bw k L : Nat) (eg : ∀ args w,(callFunc k args).run Tryz.prog w = .ok (.enter k args) w) (id : Int) (P : Nat → List UInt8) (p : Option Addr) (n c blk off : Nat) (E : Nat → ELim) (w : World) (hL : L ≤ lo B g) (hr : RowM L w p n blk off 3 (fun i => (E i).cs))
  (hP : ∀ B' i,i < n → B ≤ B' → ∀ bs W,FR B g w W → WR B' g bs W → bs.length ≤ 3000000000000 → Calls Tryz.prog k #[.agg #[.int .i64 (E i).mn,.int .i64 (E i).mx,.bool (E i).h],.pointer (some ⟨bw,0,none⟩)] W fun e w' => e = .returned (.tuple #[]) ∧ WR B' g (bs ++ P i) w' ∧ FR B' g W w')
  (hX : (flB n P).length ≤ 1000000000000) (bs : List UInt8) (hw : WR0 B g bs w) (hn : bs.length ≤ 90000000000000) :
  Calls Tryz.prog 109 #[.pointer (some ⟨g,0,none⟩),.int .i64 id,.slice p n c,.func (.func k) #[] #[.pointer (some ⟨bw,0,none⟩)]] w fun e w' => e = .returned (.tuple #[]) ∧ WR0 B g (bs ++ secL id n (flB n P)) w' ∧ FR B g w w' := by
 have hB := hw.base
 have hLw : L ≤ w.heap.size := Nat.le_trans hL (Nat.le_trans (lo_B B g) hB)
 have hgl := hw.lt
 have hmf : ∀ (fn : Fn) (first cap : Array Value) (w : World),(Instr.makeFunc fn first cap).run Tryz.prog w = .ok (.func fn first cap) w := fun _ _ _ _ => rfl
 have hF3 := (((FR.refl B g w).alloc (.cells #[.pointer (some ⟨g,0,none⟩)] 135)).alloc (.cells #[.slice p n c] 26)).alloc (.cells #[.func (.func k) #[] #[.pointer (some ⟨bw,0,none⟩)]] 148)
 have HF3 := hid hF3
 have HW3 := hid (((hw.alloc (.cells #[.pointer (some ⟨g,0,none⟩)] 135)).alloc (.cells #[.slice p n c] 26)).alloc (.cells #[.func (.func k) #[] #[.pointer (some ⟨bw,0,none⟩)]] 148))
 have c1 := ((CA.new w #[.pointer (some ⟨g,0,none⟩)] 135).alloc (.cells #[.slice p n c] 26)).alloc (.cells #[.func (.func k) #[] #[.pointer (some ⟨bw,0,none⟩)]] 148)
 have c2 := (CA.new (w.alloc (.cells #[.pointer (some ⟨g,0,none⟩)] 135)) #[.slice p n c] 26).alloc (.cells #[.func (.func k) #[] #[.pointer (some ⟨bw,0,none⟩)]] 148)
 have c3 := CA.new ((w.alloc (.cells #[.pointer (some ⟨g,0,none⟩)] 135)).alloc (.cells #[.slice p n c] 26)) #[.func (.func k) #[] #[.pointer (some ⟨bw,0,none⟩)]] 148
 simp only [size_al] at c2 c3
 have HC1 := hid c1
 have HC2 := hid c2
 have HUL := uI_len n
 have HC := hid (section0_wm B g 180 (fun _ _ => rfl) #[.pointer (some ⟨w.heap.size,0,none⟩),.pointer (some ⟨w.heap.size + 1,0,none⟩),.pointer (some ⟨w.heap.size + 1 + 1,0,none⟩)] id (uI n ++ flB n P) (((w.alloc (.cells #[.pointer (some ⟨g,0,none⟩)] 135)).alloc (.cells #[.slice p n c] 26)).alloc (.cells #[.func (.func k) #[] #[.pointer (some ⟨bw,0,none⟩)]] 148)) (by simp only [List.length_append]; omega)
  (fun B' W hBB hF hW => lin_Lim B' g w.heap.size (w.heap.size + 1) (w.heap.size + 1 + 1) bw k L eg P p n c blk off E W (le_lo (Nat.le_trans hL (Nat.le_trans (lo_B B g) hBB)) (Nat.le_trans hL (lo_g B g))) (hr.below (((hF3.trans hF).belowL hB).mono hL)) (c1.fr hF (by decide) (by omega)) (c2.fr hF (by decide) (by omega)) (c3.fr hF (by decide) (by omega))
   (fun i hi bs' W' hF' hW' hl' => hP B' i hi hBB bs' W' ((hF3.trans hF).trans (hF'.lower hBB)) hW' hl') hW hX) bs (((hw.alloc _).alloc _).alloc _) hn)
 have nn62 : (n : Int) < 9223372036854775807 := by have := hr.1; omega
 have HWW := hid hw
 clear hP hX hw hn hr hB hLw hgl hF3 c1 c2 c3 HUL hL
 by_cases h0 : n = 0
 ·subst h0
  clear HC
  have HE := hid (show bs ++ secL id 0 (flB 0 P) = bs by simp [secL])
  rw [HE.out]
  go_enter Tryz.func109,Tryz.ntmps109
  go_wp2
  (first | go_end0 | refine bodyPost_ret (results_none rfl _ _ _) rfl ?_)
  exact ⟨rfl,HW3.out,HF3.out⟩
 have HE := hid (show secL id n (flB n P) = byI id :: szL (uI n ++ flB n P) by rw [secL,if_neg h0])
 rw [HE.out]
 have dn : ((n : Int) == 0) = false := by simpa using h0
 clear h0 HE
 generalize byI id :: szL (uI n ++ flB n P) = X at *
 go_enter Tryz.func109,Tryz.ntmps109
 go_upto_region 1 with fail
 generalize (((w.alloc (.cells #[.pointer (some ⟨g,0,none⟩)] 135)).alloc (.cells #[.slice p n c] 26)).alloc (.cells #[.func (.func k) #[] #[.pointer (some ⟨bw,0,none⟩)]] 148)) = w0 at *
 generalize w.heap.size = gx at *
 have y2 := HC2.out.at (k := 0) (v := .slice p n c) rfl
 have y1 := HC1.out.at (k := 0) (v := .pointer (some ⟨g,0,none⟩)) rfl
 go_wp2_with (go_at_call 118; (with_reducible refine HC.out.mono ?_); rintro e w1 ⟨rfl,hw',hf⟩; have HW4 := hid hw'; have HF4 := hid (HF3.out.trans hf); clear hw' hf)
 (first | go_end0 | refine bodyPost_ret (results_none rfl _ _ _) rfl ?_)
 exact ⟨rfl,.inl HW4.out,HF4.out⟩
set_option maxHeartbeats 4000000 in
theorem lin_Glo (B g b1 b2 b3 bw k L : Nat) (eg : ∀ args w,(callFunc k args).run Tryz.prog w = .ok (.enter k args) w) (P : Nat → List UInt8) (p : Option Addr) (n c blk off : Nat) (E : Nat → EGlo) (w : World) (hL : L ≤ lo B g) (hr : RowM L w p n blk off 3 (fun i => (E i).cs))
  (h1 : CA b1 #[.pointer (some ⟨g,0,none⟩)] 135 w) (h2 : CA b2 #[.slice p n c] 27 w) (h3 : CA b3 #[.func (.func k) #[] #[.pointer (some ⟨bw,0,none⟩)]] 150 w)
  (hP : ∀ i,i < n → ∀ bs W,FR B g w W → WR B g bs W → bs.length ≤ 3000000000000 → Calls Tryz.prog k #[.agg #[.int .i64 (E i).t,.bool (E i).m,.slice (E i).pf (E i).f.len (E i).cf],.pointer (some ⟨bw,0,none⟩)] W fun e w' => e = .returned (.tuple #[]) ∧ WR B g (bs ++ P i) w' ∧ FR B g W w')
  (hw : WR B g [] w) (hX : (flB n P).length ≤ 1000000000000) :
  Calls Tryz.prog 183 #[.pointer (some ⟨b1,0,none⟩),.pointer (some ⟨b2,0,none⟩),.pointer (some ⟨b3,0,none⟩)] w fun e w' => e = .returned (.tuple #[]) ∧ WR B g (uI n ++ flB n P) w' ∧ FR B g w w' := by
 have HC := hid (wl_Glo B g k eg bw P n blk off c p (fun i => (E i).t) (fun i => (E i).m) (fun i => (E i).pf) (fun i => (E i).f.len) (fun i => (E i).cf) w hr.1 (fun h => ⟨(hr.2.1 h).1,by
  have a1 := (hr.2.1 h).2
  have a2 := lo_g B g
  have a3 := lo_B B g
  have a4 := hw.1
  exact ⟨by omega,by omega,.inl (by omega)⟩⟩) (fun i hi => ⟨hr.2.2 i hi 0 _ rfl,hr.2.2 i hi 1 _ rfl,hr.2.2 i hi 2 _ rfl⟩) hP [] hw (by simp only [List.length_nil]; omega))
 have y1 := h1.at (k := 0) (v := .pointer (some ⟨g,0,none⟩)) rfl
 have y2 := h2.at (k := 0) (v := .slice p n c) rfl
 have y3 := h3.at (k := 0) (v := .func (.func k) #[] #[.pointer (some ⟨bw,0,none⟩)]) rfl
 clear hr h1 h2 h3 hP hw hX hL
 rw [List.nil_append] at HC
 generalize uI n ++ flB n P = X at *
 go_enter Tryz.func183,Tryz.ntmps183
 go_wp2_with (go_at_call 184; (with_reducible refine HC.out.mono ?_); rintro e w1 ⟨rfl,hw',hf⟩; have HW1 := hid hw'; have HF1 := hid hf; clear hw' hf)
 (first | go_end0 | refine bodyPost_ret (results_none rfl _ _ _) rfl ?_)
 exact ⟨rfl,HW1.out,HF1.out⟩
set_option maxHeartbeats 4000000 in
theorem sec_Glo (B g bw k L : Nat) (eg : ∀ args w,(callFunc k args).run Tryz.prog w = .ok (.enter k args) w) (id : Int) (P : Nat → List UInt8) (p : Option Addr) (n c blk off : Nat) (E : Nat → EGlo) (w : World) (hL : L ≤ lo B g) (hr : RowM L w p n blk off 3 (fun i => (E i).cs))
  (hP : ∀ B' i,i < n → B ≤ B' → ∀ bs W,FR B g w W → WR B' g bs W → bs.length ≤ 3000000000000 → Calls Tryz.prog k #[.agg #[.int .i64 (E i).t,.bool (E i).m,.slice (E i).pf (E i).f.len (E i).cf],.pointer (some ⟨bw,0,none⟩)] W fun e w' => e = .returned (.tuple #[]) ∧ WR B' g (bs ++ P i) w' ∧ FR B' g W w')
  (hX : (flB n P).length ≤ 1000000000000) (bs : List UInt8) (hw : WR0 B g bs w) (hn : bs.length ≤ 90000000000000) :
  Calls Tryz.prog 112 #[.pointer (some ⟨g,0,none⟩),.int .i64 id,.slice p n c,.func (.func k) #[] #[.pointer (some ⟨bw,0,none⟩)]] w fun e w' => e = .returned (.tuple #[]) ∧ WR0 B g (bs ++ secL id n (flB n P)) w' ∧ FR B g w w' := by
 have hB := hw.base
 have hLw : L ≤ w.heap.size := Nat.le_trans hL (Nat.le_trans (lo_B B g) hB)
 have hgl := hw.lt
 have hmf : ∀ (fn : Fn) (first cap : Array Value) (w : World),(Instr.makeFunc fn first cap).run Tryz.prog w = .ok (.func fn first cap) w := fun _ _ _ _ => rfl
 have hF3 := (((FR.refl B g w).alloc (.cells #[.pointer (some ⟨g,0,none⟩)] 135)).alloc (.cells #[.slice p n c] 27)).alloc (.cells #[.func (.func k) #[] #[.pointer (some ⟨bw,0,none⟩)]] 150)
 have HF3 := hid hF3
 have HW3 := hid (((hw.alloc (.cells #[.pointer (some ⟨g,0,none⟩)] 135)).alloc (.cells #[.slice p n c] 27)).alloc (.cells #[.func (.func k) #[] #[.pointer (some ⟨bw,0,none⟩)]] 150))
 have c1 := ((CA.new w #[.pointer (some ⟨g,0,none⟩)] 135).alloc (.cells #[.slice p n c] 27)).alloc (.cells #[.func (.func k) #[] #[.pointer (some ⟨bw,0,none⟩)]] 150)
 have c2 := (CA.new (w.alloc (.cells #[.pointer (some ⟨g,0,none⟩)] 135)) #[.slice p n c] 27).alloc (.cells #[.func (.func k) #[] #[.pointer (some ⟨bw,0,none⟩)]] 150)
 have c3 := CA.new ((w.alloc (.cells #[.pointer (some ⟨g,0,none⟩)] 135)).alloc (.cells #[.slice p n c] 27)) #[.func (.func k) #[] #[.pointer (some ⟨bw,0,none⟩)]] 150
 simp only [size_al] at c2 c3
 have HC1 := hid c1
 have HC2 := hid c2
 have HUL := uI_len n
 have HC := hid (section0_wm B g 183 (fun _ _ => rfl) #[.pointer (some ⟨w.heap.size,0,none⟩),.pointer (some ⟨w.heap.size + 1,0,none⟩),.pointer (some ⟨w.heap.size + 1 + 1,0,none⟩)] id (uI n ++ flB n P) (((w.alloc (.cells #[.pointer (some ⟨g,0,none⟩)] 135)).alloc (.cells #[.slice p n c] 27)).alloc (.cells #[.func (.func k) #[] #[.pointer (some ⟨bw,0,none⟩)]] 150)) (by simp only [List.length_append]; omega)
  (fun B' W hBB hF hW => lin_Glo B' g w.heap.size (w.heap.size + 1) (w.heap.size + 1 + 1) bw k L eg P p n c blk off E W (le_lo (Nat.le_trans hL (Nat.le_trans (lo_B B g) hBB)) (Nat.le_trans hL (lo_g B g))) (hr.below (((hF3.trans hF).belowL hB).mono hL)) (c1.fr hF (by decide) (by omega)) (c2.fr hF (by decide) (by omega)) (c3.fr hF (by decide) (by omega))
   (fun i hi bs' W' hF' hW' hl' => hP B' i hi hBB bs' W' ((hF3.trans hF).trans (hF'.lower hBB)) hW' hl') hW hX) bs (((hw.alloc _).alloc _).alloc _) hn)
 have nn62 : (n : Int) < 9223372036854775807 := by have := hr.1; omega
 have HWW := hid hw
 clear hP hX hw hn hr hB hLw hgl hF3 c1 c2 c3 HUL hL
 by_cases h0 : n = 0
 ·subst h0
  clear HC
  have HE := hid (show bs ++ secL id 0 (flB 0 P) = bs by simp [secL])
  rw [HE.out]
  go_enter Tryz.func112,Tryz.ntmps112
  go_wp2
  (first | go_end0 | refine bodyPost_ret (results_none rfl _ _ _) rfl ?_)
  exact ⟨rfl,HW3.out,HF3.out⟩
 have HE := hid (show secL id n (flB n P) = byI id :: szL (uI n ++ flB n P) by rw [secL,if_neg h0])
 rw [HE.out]
 have dn : ((n : Int) == 0) = false := by simpa using h0
 clear h0 HE
 generalize byI id :: szL (uI n ++ flB n P) = X at *
 go_enter Tryz.func112,Tryz.ntmps112
 go_upto_region 1 with fail
 generalize (((w.alloc (.cells #[.pointer (some ⟨g,0,none⟩)] 135)).alloc (.cells #[.slice p n c] 27)).alloc (.cells #[.func (.func k) #[] #[.pointer (some ⟨bw,0,none⟩)]] 150)) = w0 at *
 generalize w.heap.size = gx at *
 have y2 := HC2.out.at (k := 0) (v := .slice p n c) rfl
 have y1 := HC1.out.at (k := 0) (v := .pointer (some ⟨g,0,none⟩)) rfl
 go_wp2_with (go_at_call 118; (with_reducible refine HC.out.mono ?_); rintro e w1 ⟨rfl,hw',hf⟩; have HW4 := hid hw'; have HF4 := hid (HF3.out.trans hf); clear hw' hf)
 (first | go_end0 | refine bodyPost_ret (results_none rfl _ _ _) rfl ?_)
 exact ⟨rfl,.inl HW4.out,HF4.out⟩
set_option maxHeartbeats 4000000 in
theorem lin_Exp (B g b1 b2 b3 bw k L : Nat) (eg : ∀ args w,(callFunc k args).run Tryz.prog w = .ok (.enter k args) w) (P : Nat → List UInt8) (p : Option Addr) (n c blk off : Nat) (E : Nat → EExp) (w : World) (hL : L ≤ lo B g) (hr : RowM L w p n blk off 3 (fun i => (E i).cs))
  (h1 : CA b1 #[.pointer (some ⟨g,0,none⟩)] 135 w) (h2 : CA b2 #[.slice p n c] 28 w) (h3 : CA b3 #[.func (.func k) #[] #[.pointer (some ⟨bw,0,none⟩)]] 152 w)
  (hP : ∀ i,i < n → ∀ bs W,FR B g w W → WR B g bs W → bs.length ≤ 3000000000000 → Calls Tryz.prog k #[.agg #[.string (E i).s,.int .i64 (E i).k,.int .i64 (E i).ix],.pointer (some ⟨bw,0,none⟩)] W fun e w' => e = .returned (.tuple #[]) ∧ WR B g (bs ++ P i) w' ∧ FR B g W w')
  (hw : WR B g [] w) (hX : (flB n P).length ≤ 1000000000000) :
  Calls Tryz.prog 185 #[.pointer (some ⟨b1,0,none⟩),.pointer (some ⟨b2,0,none⟩),.pointer (some ⟨b3,0,none⟩)] w fun e w' => e = .returned (.tuple #[]) ∧ WR B g (uI n ++ flB n P) w' ∧ FR B g w w' := by
 have HC := hid (wl_Exp B g k eg bw P n blk off c p (fun i => (E i).s) (fun i => (E i).k) (fun i => (E i).ix) w hr.1 (fun h => ⟨(hr.2.1 h).1,by
  have a1 := (hr.2.1 h).2
  have a2 := lo_g B g
  have a3 := lo_B B g
  have a4 := hw.1
  exact ⟨by omega,by omega,.inl (by omega)⟩⟩) (fun i hi => ⟨hr.2.2 i hi 0 _ rfl,hr.2.2 i hi 1 _ rfl,hr.2.2 i hi 2 _ rfl⟩) hP [] hw (by simp only [List.length_nil]; omega))
 have y1 := h1.at (k := 0) (v := .pointer (some ⟨g,0,none⟩)) rfl
 have y2 := h2.at (k := 0) (v := .slice p n c) rfl
 have y3 := h3.at (k := 0) (v := .func (.func k) #[] #[.pointer (some ⟨bw,0,none⟩)]) rfl
 clear hr h1 h2 h3 hP hw hX hL
 rw [List.nil_append] at HC
 generalize uI n ++ flB n P = X at *
 go_enter Tryz.func185,Tryz.ntmps185
 go_wp2_with (go_at_call 186; (with_reducible refine HC.out.mono ?_); rintro e w1 ⟨rfl,hw',hf⟩; have HW1 := hid hw'; have HF1 := hid hf; clear hw' hf)
 (first | go_end0 | refine bodyPost_ret (results_none rfl _ _ _) rfl ?_)
 exact ⟨rfl,HW1.out,HF1.out⟩
set_option maxHeartbeats 4000000 in
theorem sec_Exp (B g bw k L : Nat) (eg : ∀ args w,(callFunc k args).run Tryz.prog w = .ok (.enter k args) w) (id : Int) (P : Nat → List UInt8) (p : Option Addr) (n c blk off : Nat) (E : Nat → EExp) (w : World) (hL : L ≤ lo B g) (hr : RowM L w p n blk off 3 (fun i => (E i).cs))
  (hP : ∀ B' i,i < n → B ≤ B' → ∀ bs W,FR B g w W → WR B' g bs W → bs.length ≤ 3000000000000 → Calls Tryz.prog k #[.agg #[.string (E i).s,.int .i64 (E i).k,.int .i64 (E i).ix],.pointer (some ⟨bw,0,none⟩)] W fun e w' => e = .returned (.tuple #[]) ∧ WR B' g (bs ++ P i) w' ∧ FR B' g W w')
  (hX : (flB n P).length ≤ 1000000000000) (bs : List UInt8) (hw : WR0 B g bs w) (hn : bs.length ≤ 90000000000000) :
  Calls Tryz.prog 115 #[.pointer (some ⟨g,0,none⟩),.int .i64 id,.slice p n c,.func (.func k) #[] #[.pointer (some ⟨bw,0,none⟩)]] w fun e w' => e = .returned (.tuple #[]) ∧ WR0 B g (bs ++ secL id n (flB n P)) w' ∧ FR B g w w' := by
 have hB := hw.base
 have hLw : L ≤ w.heap.size := Nat.le_trans hL (Nat.le_trans (lo_B B g) hB)
 have hgl := hw.lt
 have hmf : ∀ (fn : Fn) (first cap : Array Value) (w : World),(Instr.makeFunc fn first cap).run Tryz.prog w = .ok (.func fn first cap) w := fun _ _ _ _ => rfl
 have hF3 := (((FR.refl B g w).alloc (.cells #[.pointer (some ⟨g,0,none⟩)] 135)).alloc (.cells #[.slice p n c] 28)).alloc (.cells #[.func (.func k) #[] #[.pointer (some ⟨bw,0,none⟩)]] 152)
 have HF3 := hid hF3
 have HW3 := hid (((hw.alloc (.cells #[.pointer (some ⟨g,0,none⟩)] 135)).alloc (.cells #[.slice p n c] 28)).alloc (.cells #[.func (.func k) #[] #[.pointer (some ⟨bw,0,none⟩)]] 152))
 have c1 := ((CA.new w #[.pointer (some ⟨g,0,none⟩)] 135).alloc (.cells #[.slice p n c] 28)).alloc (.cells #[.func (.func k) #[] #[.pointer (some ⟨bw,0,none⟩)]] 152)
 have c2 := (CA.new (w.alloc (.cells #[.pointer (some ⟨g,0,none⟩)] 135)) #[.slice p n c] 28).alloc (.cells #[.func (.func k) #[] #[.pointer (some ⟨bw,0,none⟩)]] 152)
 have c3 := CA.new ((w.alloc (.cells #[.pointer (some ⟨g,0,none⟩)] 135)).alloc (.cells #[.slice p n c] 28)) #[.func (.func k) #[] #[.pointer (some ⟨bw,0,none⟩)]] 152
 simp only [size_al] at c2 c3
 have HC1 := hid c1
 have HC2 := hid c2
 have HUL := uI_len n
 have HC := hid (section0_wm B g 185 (fun _ _ => rfl) #[.pointer (some ⟨w.heap.size,0,none⟩),.pointer (some ⟨w.heap.size + 1,0,none⟩),.pointer (some ⟨w.heap.size + 1 + 1,0,none⟩)] id (uI n ++ flB n P) (((w.alloc (.cells #[.pointer (some ⟨g,0,none⟩)] 135)).alloc (.cells #[.slice p n c] 28)).alloc (.cells #[.func (.func k) #[] #[.pointer (some ⟨bw,0,none⟩)]] 152)) (by simp only [List.length_append]; omega)
  (fun B' W hBB hF hW => lin_Exp B' g w.heap.size (w.heap.size + 1) (w.heap.size + 1 + 1) bw k L eg P p n c blk off E W (le_lo (Nat.le_trans hL (Nat.le_trans (lo_B B g) hBB)) (Nat.le_trans hL (lo_g B g))) (hr.below (((hF3.trans hF).belowL hB).mono hL)) (c1.fr hF (by decide) (by omega)) (c2.fr hF (by decide) (by omega)) (c3.fr hF (by decide) (by omega))
   (fun i hi bs' W' hF' hW' hl' => hP B' i hi hBB bs' W' ((hF3.trans hF).trans (hF'.lower hBB)) hW' hl') hW hX) bs (((hw.alloc _).alloc _).alloc _) hn)
 have nn62 : (n : Int) < 9223372036854775807 := by have := hr.1; omega
 have HWW := hid hw
 clear hP hX hw hn hr hB hLw hgl hF3 c1 c2 c3 HUL hL
 by_cases h0 : n = 0
 ·subst h0
  clear HC
  have HE := hid (show bs ++ secL id 0 (flB 0 P) = bs by simp [secL])
  rw [HE.out]
  go_enter Tryz.func115,Tryz.ntmps115
  go_wp2
  (first | go_end0 | refine bodyPost_ret (results_none rfl _ _ _) rfl ?_)
  exact ⟨rfl,HW3.out,HF3.out⟩
 have HE := hid (show secL id n (flB n P) = byI id :: szL (uI n ++ flB n P) by rw [secL,if_neg h0])
 rw [HE.out]
 have dn : ((n : Int) == 0) = false := by simpa using h0
 clear h0 HE
 generalize byI id :: szL (uI n ++ flB n P) = X at *
 go_enter Tryz.func115,Tryz.ntmps115
 go_upto_region 1 with fail
 generalize (((w.alloc (.cells #[.pointer (some ⟨g,0,none⟩)] 135)).alloc (.cells #[.slice p n c] 28)).alloc (.cells #[.func (.func k) #[] #[.pointer (some ⟨bw,0,none⟩)]] 152)) = w0 at *
 generalize w.heap.size = gx at *
 have y2 := HC2.out.at (k := 0) (v := .slice p n c) rfl
 have y1 := HC1.out.at (k := 0) (v := .pointer (some ⟨g,0,none⟩)) rfl
 go_wp2_with (go_at_call 118; (with_reducible refine HC.out.mono ?_); rintro e w1 ⟨rfl,hw',hf⟩; have HW4 := hid hw'; have HF4 := hid (HF3.out.trans hf); clear hw' hf)
 (first | go_end0 | refine bodyPost_ret (results_none rfl _ _ _) rfl ?_)
 exact ⟨rfl,.inl HW4.out,HF4.out⟩
set_option maxHeartbeats 4000000 in
theorem lin_Elm (B g b1 b2 b3 bw k L : Nat) (eg : ∀ args w,(callFunc k args).run Tryz.prog w = .ok (.enter k args) w) (P : Nat → List UInt8) (p : Option Addr) (n c blk off : Nat) (E : Nat → EElm) (w : World) (hL : L ≤ lo B g) (hr : RowM L w p n blk off 5 (fun i => (E i).cs))
  (h1 : CA b1 #[.pointer (some ⟨g,0,none⟩)] 135 w) (h2 : CA b2 #[.slice p n c] 29 w) (h3 : CA b3 #[.func (.func k) #[] #[.pointer (some ⟨bw,0,none⟩)]] 155 w)
  (hP : ∀ i,i < n → ∀ bs W,FR B g w W → WR B g bs W → bs.length ≤ 3000000000000 → Calls Tryz.prog k #[.agg #[.int .i64 (E i).r,.int .i64 (E i).m,.int .i64 (E i).t,.slice (E i).pf (E i).f.len (E i).cf,.slice (E i).pg (E i).ng (E i).cg],.pointer (some ⟨bw,0,none⟩)] W fun e w' => e = .returned (.tuple #[]) ∧ WR B g (bs ++ P i) w' ∧ FR B g W w')
  (hw : WR B g [] w) (hX : (flB n P).length ≤ 1000000000000) :
  Calls Tryz.prog 188 #[.pointer (some ⟨b1,0,none⟩),.pointer (some ⟨b2,0,none⟩),.pointer (some ⟨b3,0,none⟩)] w fun e w' => e = .returned (.tuple #[]) ∧ WR B g (uI n ++ flB n P) w' ∧ FR B g w w' := by
 have HC := hid (wl_Elm B g k eg bw P n blk off c p (fun i => (E i).r) (fun i => (E i).m) (fun i => (E i).t) (fun i => (E i).pf) (fun i => (E i).f.len) (fun i => (E i).cf) (fun i => (E i).pg) (fun i => (E i).ng) (fun i => (E i).cg) w hr.1 (fun h => ⟨(hr.2.1 h).1,by
  have a1 := (hr.2.1 h).2
  have a2 := lo_g B g
  have a3 := lo_B B g
  have a4 := hw.1
  exact ⟨by omega,by omega,.inl (by omega)⟩⟩) (fun i hi => ⟨hr.2.2 i hi 0 _ rfl,hr.2.2 i hi 1 _ rfl,hr.2.2 i hi 2 _ rfl,hr.2.2 i hi 3 _ rfl,hr.2.2 i hi 4 _ rfl⟩) hP [] hw (by simp only [List.length_nil]; omega))
 have y1 := h1.at (k := 0) (v := .pointer (some ⟨g,0,none⟩)) rfl
 have y2 := h2.at (k := 0) (v := .slice p n c) rfl
 have y3 := h3.at (k := 0) (v := .func (.func k) #[] #[.pointer (some ⟨bw,0,none⟩)]) rfl
 clear hr h1 h2 h3 hP hw hX hL
 rw [List.nil_append] at HC
 generalize uI n ++ flB n P = X at *
 go_enter Tryz.func188,Tryz.ntmps188
 go_wp2_with (go_at_call 189; (with_reducible refine HC.out.mono ?_); rintro e w1 ⟨rfl,hw',hf⟩; have HW1 := hid hw'; have HF1 := hid hf; clear hw' hf)
 (first | go_end0 | refine bodyPost_ret (results_none rfl _ _ _) rfl ?_)
 exact ⟨rfl,HW1.out,HF1.out⟩
set_option maxHeartbeats 4000000 in
theorem sec_Elm (B g bw k L : Nat) (eg : ∀ args w,(callFunc k args).run Tryz.prog w = .ok (.enter k args) w) (id : Int) (P : Nat → List UInt8) (p : Option Addr) (n c blk off : Nat) (E : Nat → EElm) (w : World) (hL : L ≤ lo B g) (hr : RowM L w p n blk off 5 (fun i => (E i).cs))
  (hP : ∀ B' i,i < n → B ≤ B' → ∀ bs W,FR B g w W → WR B' g bs W → bs.length ≤ 3000000000000 → Calls Tryz.prog k #[.agg #[.int .i64 (E i).r,.int .i64 (E i).m,.int .i64 (E i).t,.slice (E i).pf (E i).f.len (E i).cf,.slice (E i).pg (E i).ng (E i).cg],.pointer (some ⟨bw,0,none⟩)] W fun e w' => e = .returned (.tuple #[]) ∧ WR B' g (bs ++ P i) w' ∧ FR B' g W w')
  (hX : (flB n P).length ≤ 1000000000000) (bs : List UInt8) (hw : WR0 B g bs w) (hn : bs.length ≤ 90000000000000) :
  Calls Tryz.prog 120 #[.pointer (some ⟨g,0,none⟩),.int .i64 id,.slice p n c,.func (.func k) #[] #[.pointer (some ⟨bw,0,none⟩)]] w fun e w' => e = .returned (.tuple #[]) ∧ WR0 B g (bs ++ secL id n (flB n P)) w' ∧ FR B g w w' := by
 have hB := hw.base
 have hLw : L ≤ w.heap.size := Nat.le_trans hL (Nat.le_trans (lo_B B g) hB)
 have hgl := hw.lt
 have hmf : ∀ (fn : Fn) (first cap : Array Value) (w : World),(Instr.makeFunc fn first cap).run Tryz.prog w = .ok (.func fn first cap) w := fun _ _ _ _ => rfl
 have hF3 := (((FR.refl B g w).alloc (.cells #[.pointer (some ⟨g,0,none⟩)] 135)).alloc (.cells #[.slice p n c] 29)).alloc (.cells #[.func (.func k) #[] #[.pointer (some ⟨bw,0,none⟩)]] 155)
 have HF3 := hid hF3
 have HW3 := hid (((hw.alloc (.cells #[.pointer (some ⟨g,0,none⟩)] 135)).alloc (.cells #[.slice p n c] 29)).alloc (.cells #[.func (.func k) #[] #[.pointer (some ⟨bw,0,none⟩)]] 155))
 have c1 := ((CA.new w #[.pointer (some ⟨g,0,none⟩)] 135).alloc (.cells #[.slice p n c] 29)).alloc (.cells #[.func (.func k) #[] #[.pointer (some ⟨bw,0,none⟩)]] 155)
 have c2 := (CA.new (w.alloc (.cells #[.pointer (some ⟨g,0,none⟩)] 135)) #[.slice p n c] 29).alloc (.cells #[.func (.func k) #[] #[.pointer (some ⟨bw,0,none⟩)]] 155)
 have c3 := CA.new ((w.alloc (.cells #[.pointer (some ⟨g,0,none⟩)] 135)).alloc (.cells #[.slice p n c] 29)) #[.func (.func k) #[] #[.pointer (some ⟨bw,0,none⟩)]] 155
 simp only [size_al] at c2 c3
 have HC1 := hid c1
 have HC2 := hid c2
 have HUL := uI_len n
 have HC := hid (section0_wm B g 188 (fun _ _ => rfl) #[.pointer (some ⟨w.heap.size,0,none⟩),.pointer (some ⟨w.heap.size + 1,0,none⟩),.pointer (some ⟨w.heap.size + 1 + 1,0,none⟩)] id (uI n ++ flB n P) (((w.alloc (.cells #[.pointer (some ⟨g,0,none⟩)] 135)).alloc (.cells #[.slice p n c] 29)).alloc (.cells #[.func (.func k) #[] #[.pointer (some ⟨bw,0,none⟩)]] 155)) (by simp only [List.length_append]; omega)
  (fun B' W hBB hF hW => lin_Elm B' g w.heap.size (w.heap.size + 1) (w.heap.size + 1 + 1) bw k L eg P p n c blk off E W (le_lo (Nat.le_trans hL (Nat.le_trans (lo_B B g) hBB)) (Nat.le_trans hL (lo_g B g))) (hr.below (((hF3.trans hF).belowL hB).mono hL)) (c1.fr hF (by decide) (by omega)) (c2.fr hF (by decide) (by omega)) (c3.fr hF (by decide) (by omega))
   (fun i hi bs' W' hF' hW' hl' => hP B' i hi hBB bs' W' ((hF3.trans hF).trans (hF'.lower hBB)) hW' hl') hW hX) bs (((hw.alloc _).alloc _).alloc _) hn)
 have nn62 : (n : Int) < 9223372036854775807 := by have := hr.1; omega
 have HWW := hid hw
 clear hP hX hw hn hr hB hLw hgl hF3 c1 c2 c3 HUL hL
 by_cases h0 : n = 0
 ·subst h0
  clear HC
  have HE := hid (show bs ++ secL id 0 (flB 0 P) = bs by simp [secL])
  rw [HE.out]
  go_enter Tryz.func120,Tryz.ntmps120
  go_wp2
  (first | go_end0 | refine bodyPost_ret (results_none rfl _ _ _) rfl ?_)
  exact ⟨rfl,HW3.out,HF3.out⟩
 have HE := hid (show secL id n (flB n P) = byI id :: szL (uI n ++ flB n P) by rw [secL,if_neg h0])
 rw [HE.out]
 have dn : ((n : Int) == 0) = false := by simpa using h0
 clear h0 HE
 generalize byI id :: szL (uI n ++ flB n P) = X at *
 go_enter Tryz.func120,Tryz.ntmps120
 go_upto_region 1 with fail
 generalize (((w.alloc (.cells #[.pointer (some ⟨g,0,none⟩)] 135)).alloc (.cells #[.slice p n c] 29)).alloc (.cells #[.func (.func k) #[] #[.pointer (some ⟨bw,0,none⟩)]] 155)) = w0 at *
 generalize w.heap.size = gx at *
 have y2 := HC2.out.at (k := 0) (v := .slice p n c) rfl
 have y1 := HC1.out.at (k := 0) (v := .pointer (some ⟨g,0,none⟩)) rfl
 go_wp2_with (go_at_call 118; (with_reducible refine HC.out.mono ?_); rintro e w1 ⟨rfl,hw',hf⟩; have HW4 := hid hw'; have HF4 := hid (HF3.out.trans hf); clear hw' hf)
 (first | go_end0 | refine bodyPost_ret (results_none rfl _ _ _) rfl ?_)
 exact ⟨rfl,.inl HW4.out,HF4.out⟩
set_option maxHeartbeats 4000000 in
theorem lin_Dat (B g b1 b2 b3 bw k L : Nat) (eg : ∀ args w,(callFunc k args).run Tryz.prog w = .ok (.enter k args) w) (P : Nat → List UInt8) (p : Option Addr) (n c blk off : Nat) (E : Nat → EDat) (w : World) (hL : L ≤ lo B g) (hr : RowM L w p n blk off 4 (fun i => (E i).cs))
  (h1 : CA b1 #[.pointer (some ⟨g,0,none⟩)] 135 w) (h2 : CA b2 #[.slice p n c] 30 w) (h3 : CA b3 #[.func (.func k) #[] #[.pointer (some ⟨bw,0,none⟩)]] 157 w)
  (hP : ∀ i,i < n → ∀ bs W,FR B g w W → WR B g bs W → bs.length ≤ 3000000000000 → Calls Tryz.prog k #[.agg #[.int .i64 (E i).m,.int .i64 (E i).t,.slice (E i).pf (E i).f.len (E i).cf,.slice (E i).pb (E i).b.length (E i).cb],.pointer (some ⟨bw,0,none⟩)] W fun e w' => e = .returned (.tuple #[]) ∧ WR B g (bs ++ P i) w' ∧ FR B g W w')
  (hw : WR B g [] w) (hX : (flB n P).length ≤ 1000000000000) :
  Calls Tryz.prog 198 #[.pointer (some ⟨b1,0,none⟩),.pointer (some ⟨b2,0,none⟩),.pointer (some ⟨b3,0,none⟩)] w fun e w' => e = .returned (.tuple #[]) ∧ WR B g (uI n ++ flB n P) w' ∧ FR B g w w' := by
 have HC := hid (wl_Dat B g k eg bw P n blk off c p (fun i => (E i).m) (fun i => (E i).t) (fun i => (E i).pf) (fun i => (E i).f.len) (fun i => (E i).cf) (fun i => (E i).pb) (fun i => (E i).b.length) (fun i => (E i).cb) w hr.1 (fun h => ⟨(hr.2.1 h).1,by
  have a1 := (hr.2.1 h).2
  have a2 := lo_g B g
  have a3 := lo_B B g
  have a4 := hw.1
  exact ⟨by omega,by omega,.inl (by omega)⟩⟩) (fun i hi => ⟨hr.2.2 i hi 0 _ rfl,hr.2.2 i hi 1 _ rfl,hr.2.2 i hi 2 _ rfl,hr.2.2 i hi 3 _ rfl⟩) hP [] hw (by simp only [List.length_nil]; omega))
 have y1 := h1.at (k := 0) (v := .pointer (some ⟨g,0,none⟩)) rfl
 have y2 := h2.at (k := 0) (v := .slice p n c) rfl
 have y3 := h3.at (k := 0) (v := .func (.func k) #[] #[.pointer (some ⟨bw,0,none⟩)]) rfl
 clear hr h1 h2 h3 hP hw hX hL
 rw [List.nil_append] at HC
 generalize uI n ++ flB n P = X at *
 go_enter Tryz.func198,Tryz.ntmps198
 go_wp2_with (go_at_call 199; (with_reducible refine HC.out.mono ?_); rintro e w1 ⟨rfl,hw',hf⟩; have HW1 := hid hw'; have HF1 := hid hf; clear hw' hf)
 (first | go_end0 | refine bodyPost_ret (results_none rfl _ _ _) rfl ?_)
 exact ⟨rfl,HW1.out,HF1.out⟩
set_option maxHeartbeats 4000000 in
theorem sec_Dat (B g bw k L : Nat) (eg : ∀ args w,(callFunc k args).run Tryz.prog w = .ok (.enter k args) w) (id : Int) (P : Nat → List UInt8) (p : Option Addr) (n c blk off : Nat) (E : Nat → EDat) (w : World) (hL : L ≤ lo B g) (hr : RowM L w p n blk off 4 (fun i => (E i).cs))
  (hP : ∀ B' i,i < n → B ≤ B' → ∀ bs W,FR B g w W → WR B' g bs W → bs.length ≤ 3000000000000 → Calls Tryz.prog k #[.agg #[.int .i64 (E i).m,.int .i64 (E i).t,.slice (E i).pf (E i).f.len (E i).cf,.slice (E i).pb (E i).b.length (E i).cb],.pointer (some ⟨bw,0,none⟩)] W fun e w' => e = .returned (.tuple #[]) ∧ WR B' g (bs ++ P i) w' ∧ FR B' g W w')
  (hX : (flB n P).length ≤ 1000000000000) (bs : List UInt8) (hw : WR0 B g bs w) (hn : bs.length ≤ 90000000000000) :
  Calls Tryz.prog 126 #[.pointer (some ⟨g,0,none⟩),.int .i64 id,.slice p n c,.func (.func k) #[] #[.pointer (some ⟨bw,0,none⟩)]] w fun e w' => e = .returned (.tuple #[]) ∧ WR0 B g (bs ++ secL id n (flB n P)) w' ∧ FR B g w w' := by
 have hB := hw.base
 have hLw : L ≤ w.heap.size := Nat.le_trans hL (Nat.le_trans (lo_B B g) hB)
 have hgl := hw.lt
 have hmf : ∀ (fn : Fn) (first cap : Array Value) (w : World),(Instr.makeFunc fn first cap).run Tryz.prog w = .ok (.func fn first cap) w := fun _ _ _ _ => rfl
 have hF3 := (((FR.refl B g w).alloc (.cells #[.pointer (some ⟨g,0,none⟩)] 135)).alloc (.cells #[.slice p n c] 30)).alloc (.cells #[.func (.func k) #[] #[.pointer (some ⟨bw,0,none⟩)]] 157)
 have HF3 := hid hF3
 have HW3 := hid (((hw.alloc (.cells #[.pointer (some ⟨g,0,none⟩)] 135)).alloc (.cells #[.slice p n c] 30)).alloc (.cells #[.func (.func k) #[] #[.pointer (some ⟨bw,0,none⟩)]] 157))
 have c1 := ((CA.new w #[.pointer (some ⟨g,0,none⟩)] 135).alloc (.cells #[.slice p n c] 30)).alloc (.cells #[.func (.func k) #[] #[.pointer (some ⟨bw,0,none⟩)]] 157)
 have c2 := (CA.new (w.alloc (.cells #[.pointer (some ⟨g,0,none⟩)] 135)) #[.slice p n c] 30).alloc (.cells #[.func (.func k) #[] #[.pointer (some ⟨bw,0,none⟩)]] 157)
 have c3 := CA.new ((w.alloc (.cells #[.pointer (some ⟨g,0,none⟩)] 135)).alloc (.cells #[.slice p n c] 30)) #[.func (.func k) #[] #[.pointer (some ⟨bw,0,none⟩)]] 157
 simp only [size_al] at c2 c3
 have HC1 := hid c1
 have HC2 := hid c2
 have HUL := uI_len n
 have HC := hid (section0_wm B g 198 (fun _ _ => rfl) #[.pointer (some ⟨w.heap.size,0,none⟩),.pointer (some ⟨w.heap.size + 1,0,none⟩),.pointer (some ⟨w.heap.size + 1 + 1,0,none⟩)] id (uI n ++ flB n P) (((w.alloc (.cells #[.pointer (some ⟨g,0,none⟩)] 135)).alloc (.cells #[.slice p n c] 30)).alloc (.cells #[.func (.func k) #[] #[.pointer (some ⟨bw,0,none⟩)]] 157)) (by simp only [List.length_append]; omega)
  (fun B' W hBB hF hW => lin_Dat B' g w.heap.size (w.heap.size + 1) (w.heap.size + 1 + 1) bw k L eg P p n c blk off E W (le_lo (Nat.le_trans hL (Nat.le_trans (lo_B B g) hBB)) (Nat.le_trans hL (lo_g B g))) (hr.below (((hF3.trans hF).belowL hB).mono hL)) (c1.fr hF (by decide) (by omega)) (c2.fr hF (by decide) (by omega)) (c3.fr hF (by decide) (by omega))
   (fun i hi bs' W' hF' hW' hl' => hP B' i hi hBB bs' W' ((hF3.trans hF).trans (hF'.lower hBB)) hW' hl') hW hX) bs (((hw.alloc _).alloc _).alloc _) hn)
 have nn62 : (n : Int) < 9223372036854775807 := by have := hr.1; omega
 have HWW := hid hw
 clear hP hX hw hn hr hB hLw hgl hF3 c1 c2 c3 HUL hL
 by_cases h0 : n = 0
 ·subst h0
  clear HC
  have HE := hid (show bs ++ secL id 0 (flB 0 P) = bs by simp [secL])
  rw [HE.out]
  go_enter Tryz.func126,Tryz.ntmps126
  go_wp2
  (first | go_end0 | refine bodyPost_ret (results_none rfl _ _ _) rfl ?_)
  exact ⟨rfl,HW3.out,HF3.out⟩
 have HE := hid (show secL id n (flB n P) = byI id :: szL (uI n ++ flB n P) by rw [secL,if_neg h0])
 rw [HE.out]
 have dn : ((n : Int) == 0) = false := by simpa using h0
 clear h0 HE
 generalize byI id :: szL (uI n ++ flB n P) = X at *
 go_enter Tryz.func126,Tryz.ntmps126
 go_upto_region 1 with fail
 generalize (((w.alloc (.cells #[.pointer (some ⟨g,0,none⟩)] 135)).alloc (.cells #[.slice p n c] 30)).alloc (.cells #[.func (.func k) #[] #[.pointer (some ⟨bw,0,none⟩)]] 157)) = w0 at *
 generalize w.heap.size = gx at *
 have y2 := HC2.out.at (k := 0) (v := .slice p n c) rfl
 have y1 := HC1.out.at (k := 0) (v := .pointer (some ⟨g,0,none⟩)) rfl
 go_wp2_with (go_at_call 118; (with_reducible refine HC.out.mono ?_); rintro e w1 ⟨rfl,hw',hf⟩; have HW4 := hid hw'; have HF4 := hid (HF3.out.trans hf); clear hw' hf)
 (first | go_end0 | refine bodyPost_ret (results_none rfl _ _ _) rfl ?_)
 exact ⟨rfl,.inl HW4.out,HF4.out⟩
end Go.Proofs.YtjgeedgphcjhoaaGreat
