/-
  LSwB, LClo, LOper, LEach, LArg: merged, what the laws do not reach left out (each text says what it holds where it lies in wip). No condition.
-/
import Derived.Test.YtlhakbkdlgejpaaGreatDoorZ01
import Derived.Test.YtlhakbkdlgejpaaGreatDoorX02
import Derived.Shelf.Abstract
import Derived.Test.YtlhakbkdlgejpaaGreatDoorX04
import Derived.Deep.DeepCutAuto
import Derived.Deep.RegionHeld3
import Derived.Test.YtlhakbkdlgejpaaGreatDoorX01
set_option linter.unusedSimpArgs false
set_option linter.unusedVariables false
set_option maxRecDepth 100000
namespace Go.Proofs.YtlhakbkdlgejpaaGreatDoor
open Go.RowKit
set_option maxHeartbeats 4000000 in
theorem binary_says (vb:List UInt8) (ff:Bool) (fb:Int) (tf:Bool) (tb:Int) (sg:Bool) (w:World):Calls Tryz.prog 116 #[insV vb ff fb tf tb sg] w fun e w' => e=.returned (.int .i64 (if tf then swL FB vb else swL (IB sg) vb))∧Below w.heap.size w w':=by
 unfold insV
 obtain ⟨s,hs⟩:∃ s,s=str vb:=⟨_,rfl⟩
 have HF:=fun W => hid (floatBinary_says vb W)
 have HE:=fun a b W => hid (either_says vb ff fb tf tb sg a b W)
 unfold insV at HE
 rw [← hs] at HF HE ⊢
 cases tf with
 | true =>
  have hv:Hid ((if true then swL FB vb else swL (IB sg) vb)=swL FB vb):=rfl
  generalize swL FB vb=r at *
  clear hs
  go_enter Tryz.func116,Tryz.ntmps116
  go_wp2_with (go_at_call 194;refine (HF _).out.mono ?_;rintro e w3 ⟨rfl,rfl⟩)
  go_ret
  exact ⟨ret_int hv.out.symm,(Below.refl _ _).alloc (Nat.le_refl _) _⟩
 | false =>
  cases h0:(vb == [97,110,100]) with
  | true =>
   have q0:(s.toList == [97,110,100])=true:=by rw [hs,str_list];exact h0
   have hv:Hid (swL (IB sg) vb=8):=by simp [Hid,IB,swL,h0]
   clear h0 hs
   go_enter Tryz.func116,Tryz.ntmps116
   go_wp2_with (go_at_call 193;refine (HE _ _ _).out.mono ?_;rintro e w3 ⟨rfl,hb3⟩)
   go_ret
   first | exact ⟨ret_int (hv.out.symm:_=swL (IB sg) vb),((Below.refl _ _).alloc (Nat.le_refl _) _)⟩ | exact ⟨ret_int (hv.out.symm:_=swL (IB sg) vb),((Below.refl _ _).alloc (Nat.le_refl _) _).trans (hb3.mono (by simp))⟩
  | false =>
   cases h1:(vb == [111,114]) with
   | true =>
    have q0:(s.toList == [97,110,100])=false:=by rw [hs,str_list];exact h0
    have q1:(s.toList == [111,114])=true:=by rw [hs,str_list];exact h1
    have hv:Hid (swL (IB sg) vb=9):=by simp [Hid,IB,swL,h0,h1]
    clear h0 h1 hs
    go_enter Tryz.func116,Tryz.ntmps116
    go_wp2_with (go_at_call 193;refine (HE _ _ _).out.mono ?_;rintro e w3 ⟨rfl,hb3⟩)
    go_ret
    first | exact ⟨ret_int (hv.out.symm:_=swL (IB sg) vb),((Below.refl _ _).alloc (Nat.le_refl _) _)⟩ | exact ⟨ret_int (hv.out.symm:_=swL (IB sg) vb),((Below.refl _ _).alloc (Nat.le_refl _) _).trans (hb3.mono (by simp))⟩
   | false =>
    cases h2:(vb == [120,111,114]) with
    | true =>
     have q0:(s.toList == [97,110,100])=false:=by rw [hs,str_list];exact h0
     have q1:(s.toList == [111,114])=false:=by rw [hs,str_list];exact h1
     have q2:(s.toList == [120,111,114])=true:=by rw [hs,str_list];exact h2
     have hv:Hid (swL (IB sg) vb=10):=by simp [Hid,IB,swL,h0,h1,h2]
     clear h0 h1 h2 hs
     go_enter Tryz.func116,Tryz.ntmps116
     go_wp2_with (go_at_call 193;refine (HE _ _ _).out.mono ?_;rintro e w3 ⟨rfl,hb3⟩)
     go_ret
     first | exact ⟨ret_int (hv.out.symm:_=swL (IB sg) vb),((Below.refl _ _).alloc (Nat.le_refl _) _)⟩ | exact ⟨ret_int (hv.out.symm:_=swL (IB sg) vb),((Below.refl _ _).alloc (Nat.le_refl _) _).trans (hb3.mono (by simp))⟩
    | false =>
     cases h3:(vb == [115,104,108]) with
     | true =>
      have q0:(s.toList == [97,110,100])=false:=by rw [hs,str_list];exact h0
      have q1:(s.toList == [111,114])=false:=by rw [hs,str_list];exact h1
      have q2:(s.toList == [120,111,114])=false:=by rw [hs,str_list];exact h2
      have q3:(s.toList == [115,104,108])=true:=by rw [hs,str_list];exact h3
      have hv:Hid (swL (IB sg) vb=11):=by simp [Hid,IB,swL,h0,h1,h2,h3]
      clear h0 h1 h2 h3 hs
      go_enter Tryz.func116,Tryz.ntmps116
      go_wp2_with (go_at_call 193;refine (HE _ _ _).out.mono ?_;rintro e w3 ⟨rfl,hb3⟩)
      go_ret
      first | exact ⟨ret_int (hv.out.symm:_=swL (IB sg) vb),((Below.refl _ _).alloc (Nat.le_refl _) _)⟩ | exact ⟨ret_int (hv.out.symm:_=swL (IB sg) vb),((Below.refl _ _).alloc (Nat.le_refl _) _).trans (hb3.mono (by simp))⟩
     | false =>
      cases h4:(vb == [115,104,114]) with
      | true =>
       have q0:(s.toList == [97,110,100])=false:=by rw [hs,str_list];exact h0
       have q1:(s.toList == [111,114])=false:=by rw [hs,str_list];exact h1
       have q2:(s.toList == [120,111,114])=false:=by rw [hs,str_list];exact h2
       have q3:(s.toList == [115,104,108])=false:=by rw [hs,str_list];exact h3
       have q4:(s.toList == [115,104,114])=true:=by rw [hs,str_list];exact h4
       have hv:Hid (swL (IB sg) vb=(ei sg 12 13)):=by simp [Hid,IB,swL,h0,h1,h2,h3,h4]
       clear h0 h1 h2 h3 h4 hs
       go_enter Tryz.func116,Tryz.ntmps116
       go_wp2_with (go_at_call 193;refine (HE _ _ _).out.mono ?_;rintro e w3 ⟨rfl,hb3⟩)
       go_ret
       first | exact ⟨ret_int (hv.out.symm:_=swL (IB sg) vb),((Below.refl _ _).alloc (Nat.le_refl _) _)⟩ | exact ⟨ret_int (hv.out.symm:_=swL (IB sg) vb),((Below.refl _ _).alloc (Nat.le_refl _) _).trans (hb3.mono (by simp))⟩
      | false =>
       cases h5:(vb == [97,100,100]) with
       | true =>
        have q0:(s.toList == [97,110,100])=false:=by rw [hs,str_list];exact h0
        have q1:(s.toList == [111,114])=false:=by rw [hs,str_list];exact h1
        have q2:(s.toList == [120,111,114])=false:=by rw [hs,str_list];exact h2
        have q3:(s.toList == [115,104,108])=false:=by rw [hs,str_list];exact h3
        have q4:(s.toList == [115,104,114])=false:=by rw [hs,str_list];exact h4
        have q5:(s.toList == [97,100,100])=true:=by rw [hs,str_list];exact h5
        have hv:Hid (swL (IB sg) vb=1):=by simp [Hid,IB,swL,h0,h1,h2,h3,h4,h5]
        clear h0 h1 h2 h3 h4 h5 hs
        go_enter Tryz.func116,Tryz.ntmps116
        go_wp2_with (go_at_call 193;refine (HE _ _ _).out.mono ?_;rintro e w3 ⟨rfl,hb3⟩)
        go_ret
        first | exact ⟨ret_int (hv.out.symm:_=swL (IB sg) vb),((Below.refl _ _).alloc (Nat.le_refl _) _)⟩ | exact ⟨ret_int (hv.out.symm:_=swL (IB sg) vb),((Below.refl _ _).alloc (Nat.le_refl _) _).trans (hb3.mono (by simp))⟩
       | false =>
        cases h6:(vb == [115,117,98]) with
        | true =>
         have q0:(s.toList == [97,110,100])=false:=by rw [hs,str_list];exact h0
         have q1:(s.toList == [111,114])=false:=by rw [hs,str_list];exact h1
         have q2:(s.toList == [120,111,114])=false:=by rw [hs,str_list];exact h2
         have q3:(s.toList == [115,104,108])=false:=by rw [hs,str_list];exact h3
         have q4:(s.toList == [115,104,114])=false:=by rw [hs,str_list];exact h4
         have q5:(s.toList == [97,100,100])=false:=by rw [hs,str_list];exact h5
         have q6:(s.toList == [115,117,98])=true:=by rw [hs,str_list];exact h6
         have hv:Hid (swL (IB sg) vb=2):=by simp [Hid,IB,swL,h0,h1,h2,h3,h4,h5,h6]
         clear h0 h1 h2 h3 h4 h5 h6 hs
         go_enter Tryz.func116,Tryz.ntmps116
         go_wp2_with (go_at_call 193;refine (HE _ _ _).out.mono ?_;rintro e w3 ⟨rfl,hb3⟩)
         go_ret
         first | exact ⟨ret_int (hv.out.symm:_=swL (IB sg) vb),((Below.refl _ _).alloc (Nat.le_refl _) _)⟩ | exact ⟨ret_int (hv.out.symm:_=swL (IB sg) vb),((Below.refl _ _).alloc (Nat.le_refl _) _).trans (hb3.mono (by simp))⟩
        | false =>
         cases h7:(vb == [109,117,108]) with
         | true =>
          have q0:(s.toList == [97,110,100])=false:=by rw [hs,str_list];exact h0
          have q1:(s.toList == [111,114])=false:=by rw [hs,str_list];exact h1
          have q2:(s.toList == [120,111,114])=false:=by rw [hs,str_list];exact h2
          have q3:(s.toList == [115,104,108])=false:=by rw [hs,str_list];exact h3
          have q4:(s.toList == [115,104,114])=false:=by rw [hs,str_list];exact h4
          have q5:(s.toList == [97,100,100])=false:=by rw [hs,str_list];exact h5
          have q6:(s.toList == [115,117,98])=false:=by rw [hs,str_list];exact h6
          have q7:(s.toList == [109,117,108])=true:=by rw [hs,str_list];exact h7
          have hv:Hid (swL (IB sg) vb=3):=by simp [Hid,IB,swL,h0,h1,h2,h3,h4,h5,h6,h7]
          clear h0 h1 h2 h3 h4 h5 h6 h7 hs
          go_enter Tryz.func116,Tryz.ntmps116
          go_wp2_with (go_at_call 193;refine (HE _ _ _).out.mono ?_;rintro e w3 ⟨rfl,hb3⟩)
          go_ret
          first | exact ⟨ret_int (hv.out.symm:_=swL (IB sg) vb),((Below.refl _ _).alloc (Nat.le_refl _) _)⟩ | exact ⟨ret_int (hv.out.symm:_=swL (IB sg) vb),((Below.refl _ _).alloc (Nat.le_refl _) _).trans (hb3.mono (by simp))⟩
         | false =>
          cases h8:(vb == [109,105,110]) with
          | true =>
           have q0:(s.toList == [97,110,100])=false:=by rw [hs,str_list];exact h0
           have q1:(s.toList == [111,114])=false:=by rw [hs,str_list];exact h1
           have q2:(s.toList == [120,111,114])=false:=by rw [hs,str_list];exact h2
           have q3:(s.toList == [115,104,108])=false:=by rw [hs,str_list];exact h3
           have q4:(s.toList == [115,104,114])=false:=by rw [hs,str_list];exact h4
           have q5:(s.toList == [97,100,100])=false:=by rw [hs,str_list];exact h5
           have q6:(s.toList == [115,117,98])=false:=by rw [hs,str_list];exact h6
           have q7:(s.toList == [109,117,108])=false:=by rw [hs,str_list];exact h7
           have q8:(s.toList == [109,105,110])=true:=by rw [hs,str_list];exact h8
           have hv:Hid (swL (IB sg) vb=(ei sg 20 21)):=by simp [Hid,IB,swL,h0,h1,h2,h3,h4,h5,h6,h7,h8]
           clear h0 h1 h2 h3 h4 h5 h6 h7 h8 hs
           go_enter Tryz.func116,Tryz.ntmps116
           go_wp2_with (go_at_call 193;refine (HE _ _ _).out.mono ?_;rintro e w3 ⟨rfl,hb3⟩)
           go_ret
           first | exact ⟨ret_int (hv.out.symm:_=swL (IB sg) vb),((Below.refl _ _).alloc (Nat.le_refl _) _)⟩ | exact ⟨ret_int (hv.out.symm:_=swL (IB sg) vb),((Below.refl _ _).alloc (Nat.le_refl _) _).trans (hb3.mono (by simp))⟩
          | false =>
           cases h9:(vb == [109,97,120]) with
           | true =>
            have q0:(s.toList == [97,110,100])=false:=by rw [hs,str_list];exact h0
            have q1:(s.toList == [111,114])=false:=by rw [hs,str_list];exact h1
            have q2:(s.toList == [120,111,114])=false:=by rw [hs,str_list];exact h2
            have q3:(s.toList == [115,104,108])=false:=by rw [hs,str_list];exact h3
            have q4:(s.toList == [115,104,114])=false:=by rw [hs,str_list];exact h4
            have q5:(s.toList == [97,100,100])=false:=by rw [hs,str_list];exact h5
            have q6:(s.toList == [115,117,98])=false:=by rw [hs,str_list];exact h6
            have q7:(s.toList == [109,117,108])=false:=by rw [hs,str_list];exact h7
            have q8:(s.toList == [109,105,110])=false:=by rw [hs,str_list];exact h8
            have q9:(s.toList == [109,97,120])=true:=by rw [hs,str_list];exact h9
            have hv:Hid (swL (IB sg) vb=(ei sg 22 23)):=by simp [Hid,IB,swL,h0,h1,h2,h3,h4,h5,h6,h7,h8,h9]
            clear h0 h1 h2 h3 h4 h5 h6 h7 h8 h9 hs
            go_enter Tryz.func116,Tryz.ntmps116
            go_wp2_with (go_at_call 193;refine (HE _ _ _).out.mono ?_;rintro e w3 ⟨rfl,hb3⟩)
            go_ret
            first | exact ⟨ret_int (hv.out.symm:_=swL (IB sg) vb),((Below.refl _ _).alloc (Nat.le_refl _) _)⟩ | exact ⟨ret_int (hv.out.symm:_=swL (IB sg) vb),((Below.refl _ _).alloc (Nat.le_refl _) _).trans (hb3.mono (by simp))⟩
           | false =>
            cases h10:(vb == [97,100,100,95,115,97,116]) with
            | true =>
             have q0:(s.toList == [97,110,100])=false:=by rw [hs,str_list];exact h0
             have q1:(s.toList == [111,114])=false:=by rw [hs,str_list];exact h1
             have q2:(s.toList == [120,111,114])=false:=by rw [hs,str_list];exact h2
             have q3:(s.toList == [115,104,108])=false:=by rw [hs,str_list];exact h3
             have q4:(s.toList == [115,104,114])=false:=by rw [hs,str_list];exact h4
             have q5:(s.toList == [97,100,100])=false:=by rw [hs,str_list];exact h5
             have q6:(s.toList == [115,117,98])=false:=by rw [hs,str_list];exact h6
             have q7:(s.toList == [109,117,108])=false:=by rw [hs,str_list];exact h7
             have q8:(s.toList == [109,105,110])=false:=by rw [hs,str_list];exact h8
             have q9:(s.toList == [109,97,120])=false:=by rw [hs,str_list];exact h9
             have q10:(s.toList == [97,100,100,95,115,97,116])=true:=by rw [hs,str_list];exact h10
             have hv:Hid (swL (IB sg) vb=(ei sg 16 17)):=by simp [Hid,IB,swL,h0,h1,h2,h3,h4,h5,h6,h7,h8,h9,h10]
             clear h0 h1 h2 h3 h4 h5 h6 h7 h8 h9 h10 hs
             go_enter Tryz.func116,Tryz.ntmps116
             go_wp2_with (go_at_call 193;refine (HE _ _ _).out.mono ?_;rintro e w3 ⟨rfl,hb3⟩)
             go_ret
             first | exact ⟨ret_int (hv.out.symm:_=swL (IB sg) vb),((Below.refl _ _).alloc (Nat.le_refl _) _)⟩ | exact ⟨ret_int (hv.out.symm:_=swL (IB sg) vb),((Below.refl _ _).alloc (Nat.le_refl _) _).trans (hb3.mono (by simp))⟩
            | false =>
             cases h11:(vb == [115,117,98,95,115,97,116]) with
             | true =>
              have q0:(s.toList == [97,110,100])=false:=by rw [hs,str_list];exact h0
              have q1:(s.toList == [111,114])=false:=by rw [hs,str_list];exact h1
              have q2:(s.toList == [120,111,114])=false:=by rw [hs,str_list];exact h2
              have q3:(s.toList == [115,104,108])=false:=by rw [hs,str_list];exact h3
              have q4:(s.toList == [115,104,114])=false:=by rw [hs,str_list];exact h4
              have q5:(s.toList == [97,100,100])=false:=by rw [hs,str_list];exact h5
              have q6:(s.toList == [115,117,98])=false:=by rw [hs,str_list];exact h6
              have q7:(s.toList == [109,117,108])=false:=by rw [hs,str_list];exact h7
              have q8:(s.toList == [109,105,110])=false:=by rw [hs,str_list];exact h8
              have q9:(s.toList == [109,97,120])=false:=by rw [hs,str_list];exact h9
              have q10:(s.toList == [97,100,100,95,115,97,116])=false:=by rw [hs,str_list];exact h10
              have q11:(s.toList == [115,117,98,95,115,97,116])=true:=by rw [hs,str_list];exact h11
              have hv:Hid (swL (IB sg) vb=(ei sg 18 19)):=by simp [Hid,IB,swL,h0,h1,h2,h3,h4,h5,h6,h7,h8,h9,h10,h11]
              clear h0 h1 h2 h3 h4 h5 h6 h7 h8 h9 h10 h11 hs
              go_enter Tryz.func116,Tryz.ntmps116
              go_wp2_with (go_at_call 193;refine (HE _ _ _).out.mono ?_;rintro e w3 ⟨rfl,hb3⟩)
              go_ret
              first | exact ⟨ret_int (hv.out.symm:_=swL (IB sg) vb),((Below.refl _ _).alloc (Nat.le_refl _) _)⟩ | exact ⟨ret_int (hv.out.symm:_=swL (IB sg) vb),((Below.refl _ _).alloc (Nat.le_refl _) _).trans (hb3.mono (by simp))⟩
             | false =>
              cases h12:(vb == [97,118,103,114]) with
              | true =>
               have q0:(s.toList == [97,110,100])=false:=by rw [hs,str_list];exact h0
               have q1:(s.toList == [111,114])=false:=by rw [hs,str_list];exact h1
               have q2:(s.toList == [120,111,114])=false:=by rw [hs,str_list];exact h2
               have q3:(s.toList == [115,104,108])=false:=by rw [hs,str_list];exact h3
               have q4:(s.toList == [115,104,114])=false:=by rw [hs,str_list];exact h4
               have q5:(s.toList == [97,100,100])=false:=by rw [hs,str_list];exact h5
               have q6:(s.toList == [115,117,98])=false:=by rw [hs,str_list];exact h6
               have q7:(s.toList == [109,117,108])=false:=by rw [hs,str_list];exact h7
               have q8:(s.toList == [109,105,110])=false:=by rw [hs,str_list];exact h8
               have q9:(s.toList == [109,97,120])=false:=by rw [hs,str_list];exact h9
               have q10:(s.toList == [97,100,100,95,115,97,116])=false:=by rw [hs,str_list];exact h10
               have q11:(s.toList == [115,117,98,95,115,97,116])=false:=by rw [hs,str_list];exact h11
               have q12:(s.toList == [97,118,103,114])=true:=by rw [hs,str_list];exact h12
               have hv:Hid (swL (IB sg) vb=24):=by simp [Hid,IB,swL,h0,h1,h2,h3,h4,h5,h6,h7,h8,h9,h10,h11,h12]
               clear h0 h1 h2 h3 h4 h5 h6 h7 h8 h9 h10 h11 h12 hs
               go_enter Tryz.func116,Tryz.ntmps116
               go_wp2_with (go_at_call 193;refine (HE _ _ _).out.mono ?_;rintro e w3 ⟨rfl,hb3⟩)
               go_ret
               first | exact ⟨ret_int (hv.out.symm:_=swL (IB sg) vb),((Below.refl _ _).alloc (Nat.le_refl _) _)⟩ | exact ⟨ret_int (hv.out.symm:_=swL (IB sg) vb),((Below.refl _ _).alloc (Nat.le_refl _) _).trans (hb3.mono (by simp))⟩
              | false =>
               cases h13:(vb == [113,49,53,109,117,108,114,95,115,97,116]) with
               | true =>
                have q0:(s.toList == [97,110,100])=false:=by rw [hs,str_list];exact h0
                have q1:(s.toList == [111,114])=false:=by rw [hs,str_list];exact h1
                have q2:(s.toList == [120,111,114])=false:=by rw [hs,str_list];exact h2
                have q3:(s.toList == [115,104,108])=false:=by rw [hs,str_list];exact h3
                have q4:(s.toList == [115,104,114])=false:=by rw [hs,str_list];exact h4
                have q5:(s.toList == [97,100,100])=false:=by rw [hs,str_list];exact h5
                have q6:(s.toList == [115,117,98])=false:=by rw [hs,str_list];exact h6
                have q7:(s.toList == [109,117,108])=false:=by rw [hs,str_list];exact h7
                have q8:(s.toList == [109,105,110])=false:=by rw [hs,str_list];exact h8
                have q9:(s.toList == [109,97,120])=false:=by rw [hs,str_list];exact h9
                have q10:(s.toList == [97,100,100,95,115,97,116])=false:=by rw [hs,str_list];exact h10
                have q11:(s.toList == [115,117,98,95,115,97,116])=false:=by rw [hs,str_list];exact h11
                have q12:(s.toList == [97,118,103,114])=false:=by rw [hs,str_list];exact h12
                have q13:(s.toList == [113,49,53,109,117,108,114,95,115,97,116])=true:=by rw [hs,str_list];exact h13
                have hv:Hid (swL (IB sg) vb=25):=by simp [Hid,IB,swL,h0,h1,h2,h3,h4,h5,h6,h7,h8,h9,h10,h11,h12,h13]
                clear h0 h1 h2 h3 h4 h5 h6 h7 h8 h9 h10 h11 h12 h13 hs
                go_enter Tryz.func116,Tryz.ntmps116
                go_wp2_with (go_at_call 193;refine (HE _ _ _).out.mono ?_;rintro e w3 ⟨rfl,hb3⟩)
                go_ret
                first | exact ⟨ret_int (hv.out.symm:_=swL (IB sg) vb),((Below.refl _ _).alloc (Nat.le_refl _) _)⟩ | exact ⟨ret_int (hv.out.symm:_=swL (IB sg) vb),((Below.refl _ _).alloc (Nat.le_refl _) _).trans (hb3.mono (by simp))⟩
               | false =>
                have q0:(s.toList == [97,110,100])=false:=by rw [hs,str_list];exact h0
                have q1:(s.toList == [111,114])=false:=by rw [hs,str_list];exact h1
                have q2:(s.toList == [120,111,114])=false:=by rw [hs,str_list];exact h2
                have q3:(s.toList == [115,104,108])=false:=by rw [hs,str_list];exact h3
                have q4:(s.toList == [115,104,114])=false:=by rw [hs,str_list];exact h4
                have q5:(s.toList == [97,100,100])=false:=by rw [hs,str_list];exact h5
                have q6:(s.toList == [115,117,98])=false:=by rw [hs,str_list];exact h6
                have q7:(s.toList == [109,117,108])=false:=by rw [hs,str_list];exact h7
                have q8:(s.toList == [109,105,110])=false:=by rw [hs,str_list];exact h8
                have q9:(s.toList == [109,97,120])=false:=by rw [hs,str_list];exact h9
                have q10:(s.toList == [97,100,100,95,115,97,116])=false:=by rw [hs,str_list];exact h10
                have q11:(s.toList == [115,117,98,95,115,97,116])=false:=by rw [hs,str_list];exact h11
                have q12:(s.toList == [97,118,103,114])=false:=by rw [hs,str_list];exact h12
                have q13:(s.toList == [113,49,53,109,117,108,114,95,115,97,116])=false:=by rw [hs,str_list];exact h13
                have hv:Hid (swL (IB sg) vb=0):=by simp [Hid,IB,swL,h0,h1,h2,h3,h4,h5,h6,h7,h8,h9,h10,h11,h12,h13]
                clear h0 h1 h2 h3 h4 h5 h6 h7 h8 h9 h10 h11 h12 h13 hs
                go_enter Tryz.func116,Tryz.ntmps116
                go_wp2_with (go_at_call 193;refine (HE _ _ _).out.mono ?_;rintro e w3 ⟨rfl,hb3⟩)
                go_ret
                first | exact ⟨ret_int (hv.out.symm:_=swL (IB sg) vb),((Below.refl _ _).alloc (Nat.le_refl _) _)⟩ | exact ⟨ret_int (hv.out.symm:_=swL (IB sg) vb),((Below.refl _ _).alloc (Nat.le_refl _) _).trans (hb3.mono (by simp))⟩
end Go.Proofs.YtlhakbkdlgejpaaGreatDoor
namespace Go.Proofs.YtlhakbkdlgejpaaGreatDoor
open Go.RowKit
def Does (g:Nat) (lb:Array Value) (f:Nat→Nat→Nat) (w:World):Prop :=
 ∀ (W:World) (x y:Nat),Below w.heap.size w W→x < 18446744073709551616→y < 18446744073709551616 →
  Calls Tryz.prog g (#[.int .u64 x,.int .u64 y] ++ lb) W fun e w' => e=.returned (.int .u64 (f x y:Nat))∧Below W.heap.size W w'
def Two (g0:Nat) (bits op:Int) (f:Nat→Nat→Nat):Prop:=∀ (x y:Nat) (W:World),x < 18446744073709551616→y < 18446744073709551616 →
 Calls Tryz.prog g0 #[.int .i64 bits,.int .i64 op,.int .u64 x,.int .u64 y] W fun e w' => (∃ c:Int,e=.returned (.tuple #[.int .u64 (f x y:Nat),.int .i64 c]))∧Below W.heap.size W w'
def One (g0:Nat) (bits op:Int) (f:Nat→Nat):Prop:=∀ (x:Nat) (W:World),x < 18446744073709551616 →
 Calls Tryz.prog g0 #[.int .i64 bits,.int .i64 op,.int .u64 x] W fun e w' => (∃ c:Int,e=.returned (.tuple #[.int .u64 (f x:Nat),.int .i64 c]))∧Below W.heap.size W w'
theorem clo_bin (g0:Nat) (eg:∀ args w,(callFunc g0 args).run Tryz.prog w=.ok (.enter g0 args) w) (bits op:Int) (f:Nat→Nat→Nat) (HB:Two g0 bits op f) (b1 b2 b3:Nat) (w:World)
  (c1:w.cell? ⟨b1,0,none⟩=some (.func (.func g0) #[] #[])) (c2:w.cell? ⟨b2,0,none⟩=some (.int .i64 bits)) (c3:w.cell? ⟨b3,0,none⟩=some (.int .i64 op)) :
  Does 117 #[.pointer (some ⟨b1,0,none⟩),.pointer (some ⟨b2,0,none⟩),.pointer (some ⟨b3,0,none⟩)] f w:=fun W x y hb hx hy => by
 have d1:=(hb.cell (p:=⟨b1,0,none⟩) (World.block_lt_of_cell? _ _ c1)).trans c1
 have d2:=(hb.cell (p:=⟨b2,0,none⟩) (World.block_lt_of_cell? _ _ c2)).trans c2
 have d3:=(hb.cell (p:=⟨b3,0,none⟩) (World.block_lt_of_cell? _ _ c3)).trans c3
 have H:=fun W => hid (HB x y W hx hy)
 show Calls Tryz.prog 117 #[.int .u64 x,.int .u64 y,.pointer (some ⟨b1,0,none⟩),.pointer (some ⟨b2,0,none⟩),.pointer (some ⟨b3,0,none⟩)] W _
 clear HB c1 c2 c3 hb
 generalize f x y=r at *
 go_enter Tryz.func117,Tryz.ntmps117
 go_wp2_with (go_at_fn g0;refine (H _).out.mono ?_;rintro e w' ⟨⟨c,rfl⟩,hb⟩)
 go_ret
 exact ⟨rfl,hb⟩
end Go.Proofs.YtlhakbkdlgejpaaGreatDoor
namespace Go.Proofs.YtlhakbkdlgejpaaGreatDoor
open Go.RowKit
def FnPost (w:World) (f:Nat→Nat→Nat) (e:Ending) (w':World):Prop :=
 ∃ g lb,e=.returned (.func (.func g) #[] lb)∧Enters Tryz.prog g∧Does g lb f w'∧Below w.heap.size w w'
structure Keep (w w3:World) (cs:Array Value) (v2 v3 v4 v5:Value):Prop where
 size:w.heap.size + 5≤w3.heap.size
 below:Below w.heap.size w w3
 box:CA w.heap.size cs 50 w3
 c2:w3.cell? ⟨w.heap.size + 1,0,none⟩=some v2
 c3:w3.cell? ⟨w.heap.size + 2,0,none⟩=some v3
 c4:w3.cell? ⟨w.heap.size + 3,0,none⟩=some v4
 c5:w3.cell? ⟨w.heap.size + 4,0,none⟩=some v5
theorem Keep.to {w w3 w4:World} {cs:Array Value} {v2 v3 v4 v5:Value} (h:Keep w w3 cs v2 v3 v4 v5) (hb:Below w3.heap.size w3 w4):Keep w w4 cs v2 v3 v4 v5 where
 size:=Nat.le_trans h.size hb.size
 below:=h.below.trans (hb.mono h.below.size)
 box:=h.box.call hb
 c2:=(hb.cell (p:=⟨w.heap.size + 1,0,none⟩) (World.block_lt_of_cell? _ _ h.c2)).trans h.c2
 c3:=(hb.cell (p:=⟨w.heap.size + 2,0,none⟩) (World.block_lt_of_cell? _ _ h.c3)).trans h.c3
 c4:=(hb.cell (p:=⟨w.heap.size + 3,0,none⟩) (World.block_lt_of_cell? _ _ h.c4)).trans h.c4
 c5:=(hb.cell (p:=⟨w.heap.size + 4,0,none⟩) (World.block_lt_of_cell? _ _ h.c5)).trans h.c5
theorem Keep.next {w w3 w4:World} {cs:Array Value} {v2 v3 v4 v5:Value} {o:Obj} (h:Keep w w3 cs v2 v3 v4 v5) (hb:Below (w3.alloc o).heap.size (w3.alloc o) w4):Keep w w4 cs v2 v3 v4 v5 :=
 (h.to ((Below.refl _ _).alloc (Nat.le_refl _) o)).to hb
theorem size_al (w:World) (o:Obj):(w.alloc o).heap.size=w.heap.size + 1:=by simp
theorem keep_five (w:World) (cs:Array Value) (v2 v3 v4 v5:Value) (t2 t3 t4 t5:TypeId):Keep w (((((w.alloc (.cells cs 50)).alloc (.cells #[v2] t2)).alloc (.cells #[v3] t3)).alloc (.cells #[v4] t4)).alloc (.cells #[v5] t5)) cs v2 v3 v4 v5:=by
 have n1:=((((CA.new w cs 50).alloc (.cells #[v2] t2)).alloc (.cells #[v3] t3)).alloc (.cells #[v4] t4)).alloc (.cells #[v5] t5)
 have n2:=(((CA.new (w.alloc (.cells cs 50)) #[v2] t2).alloc (.cells #[v3] t3)).alloc (.cells #[v4] t4)).alloc (.cells #[v5] t5)
 have n3:=((CA.new ((w.alloc (.cells cs 50)).alloc (.cells #[v2] t2)) #[v3] t3).alloc (.cells #[v4] t4)).alloc (.cells #[v5] t5)
 have n4:=(CA.new (((w.alloc (.cells cs 50)).alloc (.cells #[v2] t2)).alloc (.cells #[v3] t3)) #[v4] t4).alloc (.cells #[v5] t5)
 have n5:=CA.new ((((w.alloc (.cells cs 50)).alloc (.cells #[v2] t2)).alloc (.cells #[v3] t3)).alloc (.cells #[v4] t4)) #[v5] t5
 simp only [size_al] at n2 n3 n4 n5
 refine ⟨by simp only [size_al];omega,?_,n1,n2.at rfl,n3.at rfl,n4.at rfl,n5.at rfl⟩
 exact ((((((Below.refl _ w).alloc (Nat.le_refl _) _).alloc (by simp only [size_al];omega) _).alloc (by simp only [size_al];omega) _).alloc (by simp only [size_al];omega) _).alloc (by simp only [size_al];omega) _)
theorem keep_of {w w3:World} {cs:Array Value} {v2 v3 v4 v5:Value} {t2 t3 t4 t5:TypeId} (hb:Below (((((w.alloc (.cells cs 50)).alloc (.cells #[v2] t2)).alloc (.cells #[v3] t3)).alloc (.cells #[v4] t4)).alloc (.cells #[v5] t5)).heap.size (((((w.alloc (.cells cs 50)).alloc (.cells #[v2] t2)).alloc (.cells #[v3] t3)).alloc (.cells #[v4] t4)).alloc (.cells #[v5] t5)) w3):Keep w w3 cs v2 v3 v4 v5 :=
 (keep_five w cs v2 v3 v4 v5 t2 t3 t4 t5).to hb
set_option maxHeartbeats 4000000 in
theorem operation_bin_i (vb:List UInt8) (ff:Bool) (fb:Int) (tb:Int) (sg:Bool) (k:Int) (hu:swL IU vb=0) (hr:swL (IR sg) vb=0) (hb:swL (IB sg) vb=k) (f:Nat→Nat→Nat) (HB:Two 108 tb k f) (h0:(vb == [110,111,116])=false) (h1:(vb == [97,110,100,110,111,116])=false) (w:World) :
  Calls Tryz.prog 72 #[insV vb ff fb false tb sg] w (FnPost w f):=by
 have HU:=fun W => hid (unary_says vb ff fb false tb sg W)
 have HR:=fun W => hid (relation_says vb ff fb false tb sg W)
 have HX:=fun W => hid (binary_says vb ff fb false tb sg W)
 rw [show (if false=true then swL FU vb else swL IU vb)=swL IU vb from rfl,hu] at HU
 rw [show (if false=true then swL FR vb else swL (IR sg) vb)=swL (IR sg) vb from rfl,hr] at HR
 rw [show (if false=true then swL FB vb else swL (IB sg) vb)=swL (IB sg) vb from rfl,hb] at HX
 unfold insV at HU HR HX ⊢
 have hsf:=fun (fn:Fn) (a:Addr) (w:World) => run_store Tryz.prog w a (.func fn #[] #[]) .plain rfl
 have hmf:∀ (fn:Fn) (first cap:Array Value) (w:World),(Instr.makeFunc fn first cap).run Tryz.prog w=.ok (.func fn first cap) w:=fun _ _ _ _ => rfl
 obtain ⟨s,hs⟩:∃ s,s=str vb:=⟨_,rfl⟩
 have q0:(s.toList == [110,111,116])=false:=by rw [hs,str_list];exact h0
 have q1:(s.toList == [97,110,100,110,111,116])=false:=by rw [hs,str_list];exact h1
 rw [← hs] at HU HR HX ⊢
 have HBB:=hid HB
 clear HB h0 h1 hs hu hr hb
 go_enter Tryz.func72,Tryz.ntmps72
 go_wp2_with (first
  | (go_at_call 112;refine (HU _).out.mono ?_;rintro e w3 ⟨rfl,hb3⟩;have HK3:=hid (keep_of hb3);have b0:=fun o => (HK3.out.box.alloc o).at (k:=0) (v:=.string s) rfl;have b1:=fun o => (HK3.out.box.alloc o).at (k:=1) (v:=.bool ff) rfl;have b2:=fun o => (HK3.out.box.alloc o).at (k:=2) (v:=.int .i64 fb) rfl;have b3:=fun o => (HK3.out.box.alloc o).at (k:=3) rfl;have b4:=fun o => (HK3.out.box.alloc o).at (k:=4) (v:=.int .i64 tb) rfl;have b5:=fun o => (HK3.out.box.alloc o).at (k:=5) (v:=.bool sg) rfl;simp only [List.getElem_toArray,List.getElem_cons_zero,List.getElem_cons_succ] at b3;clear hb3)
  | (go_at_call 114;refine (HR _).out.mono ?_;rintro e w4 ⟨rfl,hb4⟩;have HK4:=hid (HK3.out.next hb4);clear b0 b1 b2 b3 b4 b5;have b0:=fun o => (HK4.out.box.alloc o).at (k:=0) (v:=.string s) rfl;have b1:=fun o => (HK4.out.box.alloc o).at (k:=1) (v:=.bool ff) rfl;have b2:=fun o => (HK4.out.box.alloc o).at (k:=2) (v:=.int .i64 fb) rfl;have b3:=fun o => (HK4.out.box.alloc o).at (k:=3) rfl;have b4:=fun o => (HK4.out.box.alloc o).at (k:=4) (v:=.int .i64 tb) rfl;have b5:=fun o => (HK4.out.box.alloc o).at (k:=5) (v:=.bool sg) rfl;simp only [List.getElem_toArray,List.getElem_cons_zero,List.getElem_cons_succ] at b3;clear hb4)
  | (go_at_call 116;refine (HX _).out.mono ?_;rintro e w5 ⟨rfl,hb5⟩;have HK5:=hid (HK4.out.next hb5);clear b0 b1 b2 b3 b4 b5;clear hb5))
 go_ret
 have HL:=HK5.out.to ((Below.refl _ _).alloc (Nat.le_refl _) (.cells #[.int .i64 k] 3))
 refine ⟨117,_,rfl,enters_of Tryz.func117 (by kernel_rfl) rfl,clo_bin 108 (enters_of Tryz.func108 (by kernel_rfl) rfl) tb k f HBB.out (w.heap.size + 4) (w.heap.size + 1) w5.heap.size _ HL.c5 HL.c2 ((CA.new _ _ _).at rfl),HL.below⟩
set_option maxHeartbeats 4000000 in
theorem operation_bin_f (vb:List UInt8) (ff:Bool) (fb:Int) (tb:Int) (sg:Bool) (k:Int) (hu:swL FU vb=0) (hr:swL FR vb=0) (hb:swL FB vb=k) (f:Nat→Nat→Nat) (HB:Two 111 tb k f) (h0:(vb == [110,111,116])=false) (h1:(vb == [97,110,100,110,111,116])=false) (w:World) :
  Calls Tryz.prog 72 #[insV vb ff fb true tb sg] w (FnPost w f):=by
 have HU:=fun W => hid (unary_says vb ff fb true tb sg W)
 have HR:=fun W => hid (relation_says vb ff fb true tb sg W)
 have HX:=fun W => hid (binary_says vb ff fb true tb sg W)
 rw [show (if true=true then swL FU vb else swL IU vb)=swL FU vb from rfl,hu] at HU
 rw [show (if true=true then swL FR vb else swL (IR sg) vb)=swL FR vb from rfl,hr] at HR
 rw [show (if true=true then swL FB vb else swL (IB sg) vb)=swL FB vb from rfl,hb] at HX
 unfold insV at HU HR HX ⊢
 have hsf:=fun (fn:Fn) (a:Addr) (w:World) => run_store Tryz.prog w a (.func fn #[] #[]) .plain rfl
 have hmf:∀ (fn:Fn) (first cap:Array Value) (w:World),(Instr.makeFunc fn first cap).run Tryz.prog w=.ok (.func fn first cap) w:=fun _ _ _ _ => rfl
 obtain ⟨s,hs⟩:∃ s,s=str vb:=⟨_,rfl⟩
 have q0:(s.toList == [110,111,116])=false:=by rw [hs,str_list];exact h0
 have q1:(s.toList == [97,110,100,110,111,116])=false:=by rw [hs,str_list];exact h1
 rw [← hs] at HU HR HX ⊢
 have HBB:=hid HB
 clear HB h0 h1 hs hu hr hb
 go_enter Tryz.func72,Tryz.ntmps72
 go_wp2_with (first
  | (go_at_call 112;refine (HU _).out.mono ?_;rintro e w3 ⟨rfl,hb3⟩;have HK3:=hid (keep_of hb3);have b0:=fun o => (HK3.out.box.alloc o).at (k:=0) (v:=.string s) rfl;have b1:=fun o => (HK3.out.box.alloc o).at (k:=1) (v:=.bool ff) rfl;have b2:=fun o => (HK3.out.box.alloc o).at (k:=2) (v:=.int .i64 fb) rfl;have b3:=fun o => (HK3.out.box.alloc o).at (k:=3) rfl;have b4:=fun o => (HK3.out.box.alloc o).at (k:=4) (v:=.int .i64 tb) rfl;have b5:=fun o => (HK3.out.box.alloc o).at (k:=5) (v:=.bool sg) rfl;simp only [List.getElem_toArray,List.getElem_cons_zero,List.getElem_cons_succ] at b3;clear hb3)
  | (go_at_call 114;refine (HR _).out.mono ?_;rintro e w4 ⟨rfl,hb4⟩;have HK4:=hid (HK3.out.next hb4);clear b0 b1 b2 b3 b4 b5;have b0:=fun o => (HK4.out.box.alloc o).at (k:=0) (v:=.string s) rfl;have b1:=fun o => (HK4.out.box.alloc o).at (k:=1) (v:=.bool ff) rfl;have b2:=fun o => (HK4.out.box.alloc o).at (k:=2) (v:=.int .i64 fb) rfl;have b3:=fun o => (HK4.out.box.alloc o).at (k:=3) rfl;have b4:=fun o => (HK4.out.box.alloc o).at (k:=4) (v:=.int .i64 tb) rfl;have b5:=fun o => (HK4.out.box.alloc o).at (k:=5) (v:=.bool sg) rfl;simp only [List.getElem_toArray,List.getElem_cons_zero,List.getElem_cons_succ] at b3;clear hb4)
  | (go_at_call 116;refine (HX _).out.mono ?_;rintro e w5 ⟨rfl,hb5⟩;have HK5:=hid (HK4.out.next hb5);clear b0 b1 b2 b3 b4 b5;clear hb5))
 go_ret
 have HL:=HK5.out.to ((Below.refl _ _).alloc (Nat.le_refl _) (.cells #[.int .i64 k] 3))
 refine ⟨117,_,rfl,enters_of Tryz.func117 (by kernel_rfl) rfl,clo_bin 111 (enters_of Tryz.func111 (by kernel_rfl) rfl) tb k f HBB.out (w.heap.size + 4) (w.heap.size + 1) w5.heap.size _ HL.c5 HL.c2 ((CA.new _ _ _).at rfl),HL.below⟩
end Go.Proofs.YtlhakbkdlgejpaaGreatDoor
namespace Go.Proofs.YtlhakbkdlgejpaaGreatDoor
open Go.RowKit
def EInv (w:World) (g2 n:Nat) (F:Nat→Nat) (i:Nat) (wr:World):Prop :=
 wr.ownsRow w.heap.size 22 1 (.slice (some ⟨g2,0,none⟩) n n) n (fc n (fun j => if j < i then F j else 0))∧Below w.heap.size w wr∧w.heap.size≤g2∧g2 < wr.heap.size
theorem EInv.start {w w2:World} {n:Nat} {F:Nat→Nat} (hown2:w2.ownsRow w.heap.size 22 1 (.slice (some ⟨w.heap.size,0,none⟩) n n) n (madeCells (Value.int .u64 0).cells (n * 1)).toList) (hg2:w.grownBy w2 none):EInv w w.heap.size n F 0 w2:=by
 refine ⟨?_,(Below.refl _ w).grown hg2 (Nat.le_refl _) (by simp),Nat.le_refl _,(hown2.lt w.heap.size rfl).2⟩
 have e:(madeCells (Value.int .u64 0).cells (n * 1)).toList=fc n (fun j => if j < 0 then F j else 0):=by
  rw [Nat.mul_one,show (Value.int .u64 0).cells=#[Value.int .u64 0] from rfl,toList_madeCells_one]
  apply List.ext_getElem?
  intro j
  by_cases hj:j < n
  ·rw [fc_get hj];simp [hj]
  ·simp [fc,hj]
 rw [e] at hown2
 exact hown2
theorem EInv.call {w W W':World} {g2 n i:Nat} {F:Nat→Nat} (h:EInv w g2 n F i W) (hb:Below W.heap.size W W'):EInv w g2 n F i W' :=
 ⟨own_below h.1 hb (Nat.le_refl _),h.2.1.trans (hb.mono h.2.1.size),h.2.2.1,Nat.lt_of_lt_of_le h.2.2.2 hb.size⟩
theorem EInv.drew {w W:World} {g2 n i:Nat} {F:Nat→Nat} (h:EInv w g2 n F i W):EInv w g2 n F i W.drew:=⟨h.1,h.2.1.drew,h.2.2.1,h.2.2.2⟩
theorem EInv.next {w W:World} {g2 n i:Nat} {F:Nat→Nat} (h:EInv w g2 n F i W):EInv w g2 n F (i + 1) (W.setCell ⟨g2,i,none⟩ (.int .u64 (F i:Nat))):=by
 obtain ⟨h4,h5,h2,h6⟩:=h
 refine ⟨?_,h5.setCell (p:=⟨g2,i,none⟩) h2 _,h2,by simpa using h6⟩
 have:=(h4.stored i (.int .u64 (F i:Nat))).1
 rw [fc_set] at this
 rw [fc_congr (g:=fun j => if j=i then F i else if j < i then F j else 0) (fun j _ => by
  by_cases hji:j=i
  ·subst hji;simp
  ·by_cases hlt:j < i
   ·simp [hji,hlt,show j < i + 1 by omega]
   ·simp [hji,hlt,show ¬ j < i + 1 by omega])]
 exact this
theorem EInv.cells {w W:World} {g2 n i:Nat} {F:Nat→Nat} (h:EInv w g2 n F i W) (hi:i < n):W.cell? ⟨g2,i,none⟩=some (.int .u64 0)∧W.frozen? ⟨g2,i,none⟩=false:=by
 obtain ⟨h4,h5,h2,h6⟩:=h
 refine ⟨?_,h4.frozenAt i⟩
 rw [h4.cellAt i (by omega),fc_get hi]
 simp
theorem EInv.end {w W:World} {g2 n i:Nat} {F:Nat→Nat} (h:EInv w g2 n F i W) (hi:n≤i):W.ownsRow w.heap.size 22 1 (.slice (some ⟨g2,0,none⟩) n n) n (fc n F)∧Below w.heap.size w W:=by
 refine ⟨?_,h.2.1⟩
 rw [fc_congr (g:=fun j => if j < i then F j else 0) (fun j hj => by simp [show j < i by omega])]
 exact h.1
set_option maxHeartbeats 4000000 in
theorem each_says (g:Nat) (lb:Array Value) (f:Nat→Nat→Nat) (w:World) (hD:Does g lb f w) (eg:Enters Tryz.prog g) (n:Nat) (hn:n≤16) (va vb:Value) (F G:Nat→Nat)
  (ha:RowAt w va n F) (hb:RowAt w vb n G) (hF:∀ i,i < n→F i < 18446744073709551616) (hG:∀ i,i < n→G i < 18446744073709551616) :
  Calls Tryz.prog 71 #[.func (.func g) #[] lb,va,vb] w (LPost w n (fun i => f (F i) (G i))):=by
 obtain ⟨i0,hi,hz0,hz1,hz2⟩:=info_parts info22
 obtain ⟨ga,oa,ca,rfl,hga,hca,hata⟩:=ha
 obtain ⟨gb,ob,cb,rfl,hgb,hcb,hatb⟩:=hb
 have eg2:∀ args w,(callFunc g args).run Tryz.prog w=.ok (.enter g args) w:=eg
 obtain ⟨R,hR⟩:∃ R:Nat→Nat,R=fun i => f (F i) (G i):=⟨_,rfl⟩
 have HA:=hid hata
 have HB:=hid hatb
 have HF:=hid hF
 have HG:=hid hG
 have HD:Hid (∀ i,i < n→∀ W,Below w.heap.size w W→Calls Tryz.prog g (#[.int .u64 (F i:Nat),.int .u64 (G i:Nat)] ++ lb) W fun e w' => e=.returned (.int .u64 (R i:Nat))∧Below W.heap.size W w'):=by
  intro i hi W hW
  rw [hR]
  exact hD W (F i) (G i) hW (hF i hi) (hG i hi)
 rw [← hR]
 clear hata hatb hF hG hD hR
 go_enter Tryz.func71,Tryz.ntmps71
 go_wp2_with (at_make;refine wpList_make_full _ rfl _ _ 40 rfl w.heap.size 22 i0 (.int .u64 0) 1 Tryz.underlying40 hi hz0 hz1 .i64 .i64 _ _ n rfl rfl rfl rfl (by rw [hz2];omega) (by unfold maxLen;omega) (Nat.le_refl _) ?_;intro w2 hown2 hgrow2)
 have HS:=hid (EInv.start (F:=R) hown2 hgrow2)
 clear hown2 hgrow2
 go_loopw [14] (fun vi wr => ∃ i:Nat,i≤n∧vi=.int .i64 i∧Hid (EInv w w.heap.size n R i wr)) (fun vi _ => n - (intOf vi).toNat)
 case atStart => exact ⟨0,Nat.zero_le _,rfl,HS⟩
 case round =>
  obtain ⟨i,hin,rfl,HI⟩:=hrel
  by_cases hlt:i < n
  ·have HLT:=hid hlt
   go_upto_region 5 with fail
   have HJW:=HI.out.drew
   have hS:=HJW.2.1
   refine wp_region_held_drew (S:=Below w.heap.size w) (by kernel_rfl) hS (fun _ => ?_)
   generalize wr.drew=W at *
   refine zt 0 (.slice (some ⟨w.heap.size,0,none⟩) n n) rfl ?_ ?_
   ·(intro W hSw;have x1:=(hSw.cell (p:=⟨ga,oa + i,none⟩) hga).trans (HA.out i hlt).1;have x2:=(hSw.cell (p:=⟨gb,ob + i,none⟩) hgb).trans (HB.out i hlt).1;go_simp;try (with_reducible rfl))
   try simp only [Act.put,sl2,sl0,sl1]
   refine zt 1 (.int .i64 i) rfl ?_ ?_
   ·(intro W hSw;have x1:=(hSw.cell (p:=⟨ga,oa + i,none⟩) hga).trans (HA.out i hlt).1;have x2:=(hSw.cell (p:=⟨gb,ob + i,none⟩) hgb).trans (HB.out i hlt).1;go_simp;try (with_reducible rfl))
   try simp only [Act.put,sl2,sl0,sl1]
   refine zt 2 (.func (.func g) #[] lb) rfl ?_ ?_
   ·(intro W hSw;have x1:=(hSw.cell (p:=⟨ga,oa + i,none⟩) hga).trans (HA.out i hlt).1;have x2:=(hSw.cell (p:=⟨gb,ob + i,none⟩) hgb).trans (HB.out i hlt).1;go_simp;try (with_reducible rfl))
   try simp only [Act.put,sl2,sl0,sl1]
   refine zt 3 (.slice (some ⟨ga,oa,none⟩) n ca) rfl ?_ ?_
   ·(intro W hSw;have x1:=(hSw.cell (p:=⟨ga,oa + i,none⟩) hga).trans (HA.out i hlt).1;have x2:=(hSw.cell (p:=⟨gb,ob + i,none⟩) hgb).trans (HB.out i hlt).1;go_simp;try (with_reducible rfl))
   try simp only [Act.put,sl2,sl0,sl1]
   refine zt 4 (.int .i64 i) rfl ?_ ?_
   ·(intro W hSw;have x1:=(hSw.cell (p:=⟨ga,oa + i,none⟩) hga).trans (HA.out i hlt).1;have x2:=(hSw.cell (p:=⟨gb,ob + i,none⟩) hgb).trans (HB.out i hlt).1;go_simp;try (with_reducible rfl))
   try simp only [Act.put,sl2,sl0,sl1]
   refine zt 5 (.pointer (some ⟨ga,oa + i,none⟩)) rfl ?_ ?_
   ·(intro W hSw;have x1:=(hSw.cell (p:=⟨ga,oa + i,none⟩) hga).trans (HA.out i hlt).1;have x2:=(hSw.cell (p:=⟨gb,ob + i,none⟩) hgb).trans (HB.out i hlt).1;go_simp;try (with_reducible rfl))
   try simp only [Act.put,sl2,sl0,sl1]
   refine zt 6 (.int .u64 (F i:Nat)) rfl ?_ ?_
   ·(intro W hSw;have x1:=(hSw.cell (p:=⟨ga,oa + i,none⟩) hga).trans (HA.out i hlt).1;have x2:=(hSw.cell (p:=⟨gb,ob + i,none⟩) hgb).trans (HB.out i hlt).1;go_simp;try (with_reducible rfl))
   try simp only [Act.put,sl2,sl0,sl1]
   refine zt 7 (.slice (some ⟨gb,ob,none⟩) n cb) rfl ?_ ?_
   ·(intro W hSw;have x1:=(hSw.cell (p:=⟨ga,oa + i,none⟩) hga).trans (HA.out i hlt).1;have x2:=(hSw.cell (p:=⟨gb,ob + i,none⟩) hgb).trans (HB.out i hlt).1;go_simp;try (with_reducible rfl))
   try simp only [Act.put,sl2,sl0,sl1]
   refine zt 8 (.int .i64 i) rfl ?_ ?_
   ·(intro W hSw;have x1:=(hSw.cell (p:=⟨ga,oa + i,none⟩) hga).trans (HA.out i hlt).1;have x2:=(hSw.cell (p:=⟨gb,ob + i,none⟩) hgb).trans (HB.out i hlt).1;go_simp;try (with_reducible rfl))
   try simp only [Act.put,sl2,sl0,sl1]
   refine zt 9 (.pointer (some ⟨gb,ob + i,none⟩)) rfl ?_ ?_
   ·(intro W hSw;have x1:=(hSw.cell (p:=⟨ga,oa + i,none⟩) hga).trans (HA.out i hlt).1;have x2:=(hSw.cell (p:=⟨gb,ob + i,none⟩) hgb).trans (HB.out i hlt).1;go_simp;try (with_reducible rfl))
   try simp only [Act.put,sl2,sl0,sl1]
   refine zt 10 (.int .u64 (G i:Nat)) rfl ?_ ?_
   ·(intro W hSw;have x1:=(hSw.cell (p:=⟨ga,oa + i,none⟩) hga).trans (HA.out i hlt).1;have x2:=(hSw.cell (p:=⟨gb,ob + i,none⟩) hgb).trans (HB.out i hlt).1;go_simp;try (with_reducible rfl))
   try simp only [Act.put,sl2,sl0,sl1]
   refine zr 11 rfl (fun K hK => ?_)
   go_simp
   go_at_fn g
   (with_reducible refine (HD.out i hlt _ hS).mono ?_)
   rintro e W1 ⟨rfl,hb⟩
   replace hS:=hS.trans (hb.mono hS.size)
   replace HJW:=HJW.call hb
   clear hb
   refine hK.out _ _ hS (fun _ => ?_)
   clear hK K
   try simp only [Act.put,sl2,sl0,sl1]
   refine zt 12 (.pointer (some ⟨w.heap.size,i,none⟩)) rfl ?_ ?_
   ·(intro W hSw;have x1:=(hSw.cell (p:=⟨ga,oa + i,none⟩) hga).trans (HA.out i hlt).1;have x2:=(hSw.cell (p:=⟨gb,ob + i,none⟩) hgb).trans (HB.out i hlt).1;go_simp;try (with_reducible rfl))
   try simp only [Act.put,sl2,sl0,sl1]
   refine zr 13 rfl (fun K hK => ?_)
   obtain ⟨z0,z1⟩:=HJW.cells hlt
   go_simp
   clear z0 z1
   replace HJW:=HJW.next
   refine hK.out _ _ HJW.2.1 (fun _ => ?_)
   clear hK K
   try simp only [Act.put,sl2,sl0,sl1]
   refine wpAnyH_done (by kernel_rfl) ?_ _
   go_wp2_with fail
   go_roundw
   case rel => exact ⟨i + 1,HLT.out,by go_num,HJW⟩
   case measure => (simp [intOf];have:=HLT.out;omega)
  ·obtain rfl:i=n:=by omega
   have HE:=hid (HI.out.end (Nat.le_refl _))
   go_wp2
   go_ret
   exact ⟨_,rfl,HE.out.1,HE.out.2⟩
end Go.Proofs.YtlhakbkdlgejpaaGreatDoor
namespace Go.Proofs.YtlhakbkdlgejpaaGreatDoor
open Go.RowKit
abbrev Av:=Int × Nat × Nat × Bool
def AR (w:World) (va:Value) (l:List Av):Prop :=
 ∃ g cap,va=.slice (some ⟨g,0,none⟩) l.length cap∧g < w.heap.size∧l.length≤cap∧∀ (j:Nat) (a:Av),l[j]?=some a →
  w.cell? ⟨g,j * 4,none⟩=some (.int .i64 a.1)∧w.cell? ⟨g,j * 4 + 1,none⟩=some (.int .u64 (a.2.1:Nat))∧w.cell? ⟨g,j * 4 + 2,none⟩=some (.int .u64 (a.2.2.1:Nat))∧w.cell? ⟨g,j * 4 + 3,none⟩=some (.bool a.2.2.2)
theorem AR.call {w w':World} {va:Value} {l:List Av} (h:AR w va l) (hb:Below w.heap.size w w'):AR w' va l:=by
 obtain ⟨g,cap,e,hl,hc,ha⟩:=h
 refine ⟨g,cap,e,Nat.lt_of_lt_of_le hl hb.size,hc,fun j a hj => ?_⟩
 obtain ⟨h0,h1,h2,h3⟩:=ha j a hj
 exact ⟨by rw [hb.cell (p:=⟨g,j * 4,none⟩) hl,h0],by rw [hb.cell (p:=⟨g,j * 4 + 1,none⟩) hl,h1],by rw [hb.cell (p:=⟨g,j * 4 + 2,none⟩) hl,h2],by rw [hb.cell (p:=⟨g,j * 4 + 3,none⟩) hl,h3]⟩
theorem LPost.mono0 {w w1 w':World} {n:Nat} {F:Nat→Nat} {e:Ending} (hb:Below w.heap.size w w1) (h:LPost w1 n F e w'):LPost w n F e w':=by
 obtain ⟨v,rfl,ho,hb2⟩:=h
 exact ⟨v,rfl,own_mono ho hb.size,hb.trans (hb2.mono hb.size)⟩
set_option maxHeartbeats 2000000 in
theorem operand_v (vb:List UInt8) (ff:Bool) (n:Nat) (hn:Okn n) (tf:Bool) (tb:Int) (sg:Bool) (va:Value) (l:List Av) (i:Nat) (lo hi:Nat) (nl:Bool) (hi':l[i]?=some (123,lo,hi,nl)) (hlo:lo < 18446744073709551616) (hhi:hi < 18446744073709551616) (w:World) (ha:AR w va l) :
  Calls Tryz.prog 64 #[insV vb ff n tf tb sg,va,.int .i64 i] w (LPost w (cnt n) (splitF n lo hi)):=by
 obtain ⟨g,cap,rfl,hg,hcap,hat⟩:=ha
 obtain ⟨h0,h1,h2,h3⟩:=hat i _ hi'
 have hlt:i < l.length:=(List.getElem?_eq_some_iff.1 hi').1
 have HS:=fun W => hid (Split_says n hn 123 lo hi nl hlo hhi W)
 unfold vv at HS
 obtain ⟨m,hm⟩:∃ m,m=l.length:=⟨_,rfl⟩
 rw [← hm] at hlt hcap ⊢
 unfold insV
 generalize str vb=s
 simp only [] at h0 h1 h2 h3
 clear hat hn hm hi'
 go_enter Tryz.func64,Tryz.ntmps64
 go_wp2_with (first
  | (go_at_call 28;refine (HS _).out.mono ?_;rintro e w2 ⟨v2,rfl,ho2,hb2⟩))
 go_ret
 exact LPost.mono0 ((Below.refl w.heap.size w).alloc (Nat.le_refl _) _) ⟨v2,rfl,ho2,hb2⟩
end Go.Proofs.YtlhakbkdlgejpaaGreatDoor
