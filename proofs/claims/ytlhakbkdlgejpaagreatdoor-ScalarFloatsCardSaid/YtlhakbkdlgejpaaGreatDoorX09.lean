/-
  FSumMath, FPartsMath: merged, what the laws do not reach left out (each text says what it holds where it lies in wip). No condition.
-/
import Derived.Test.YtlhakbkdlgejpaaGreatDoorX06
import Derived.Test.YtlhakbkdlgejpaaGreatDoorX08
import Derived.Test.YtlhakbkdlgejpaaGreatDoorX01
set_option linter.unusedSimpArgs false
set_option linter.unusedVariables false
set_option maxRecDepth 100000
namespace Go.Proofs.YtlhakbkdlgejpaaGreatDoor.Fl
open Ieee
theorem sum_comm (d e:Datum):d.sum e=e.sum d:=by
 cases d with
 | nan s t => cases e <;> rfl
 | infinity s =>
  cases e with
  | nan => rfl
  | number => rfl
  | infinity t =>
   simp only [Datum.sum]
   by_cases h:s=t
   ·subst h;rfl
   ·rw [if_neg h,if_neg (fun h2 => h h2.symm)]
 | number s m i =>
  cases e with
  | nan => rfl
  | infinity => rfl
  | number t n j =>
   simp only [Datum.sum]
   rw [Int.min_comm i j,Int.add_comm,Bool.and_comm]
def sumN (f:Format) (room:Nat) (sx sy:Bool) (mx my:Nat) (ex:Int) (ap:Nat):Nat :=
 let Y:=my * 2 ^ room
 let more:=decide (Y % 2 ^ ap ≠ 0)
 if sx=sy then f.word sx (rungR f (mx * 2 ^ room + Y / 2 ^ ap) (ex - room) more)
 else
  let M:=mx * 2 ^ room - Y / 2 ^ ap - more.toNat
  f.word (if M=0 then false else sx) (rungR f M (ex - room) more)
theorem signed_zero (s:Bool) (m:Nat):signed s m 0=if s then -(m:Int) else (m:Int):=by
 unfold signed;simp
theorem signed_shift (s:Bool) (m k:Nat):signed s m k=if s then -((m * 2 ^ k:Nat):Int) else ((m * 2 ^ k:Nat):Int):=by
 unfold signed;rw [Nat.shiftLeft_eq]
theorem sum_ge {f:Format} (room:Nat) (hP:f.fractionBits≤52) (hroom:room + f.fractionBits=61) (sx sy:Bool) (mx my:Nat) (ex ey:Int) (ap:Nat)
  (hap:ey + ap=ex) (hge:my≤mx * 2 ^ ap) (hmy:my < 2 ^ (f.fractionBits + 1)) (hmx:ap ≠ 0→2 ^ f.fractionBits≤mx) :
  (Datum.sum (.number sx mx ex) (.number sy my ey)).map f.write=some (sumN f room sx sy mx my ex ap):=by
 have hpa:0 < 2 ^ ap:=Nat.two_pow_pos ap
 have hpr:0 < 2 ^ room:=Nat.two_pow_pos room
 have hbase:min ex ey=ey:=by omega
 simp only [Datum.sum,hbase]
 rw [show (ex - ey).toNat=ap by omega,show (ey - ey).toNat=0 by omega,signed_zero,signed_shift]
 obtain ⟨N,hN⟩:∃ N,N=mx * 2 ^ ap:=⟨_,rfl⟩
 obtain ⟨Y,hY⟩:∃ Y,Y=my * 2 ^ room:=⟨_,rfl⟩
 obtain ⟨X,hX⟩:∃ X,X=mx * 2 ^ room:=⟨_,rfl⟩
 have hNX:N * 2 ^ room=2 ^ ap * X:=by rw [hN,hX,Nat.mul_right_comm,Nat.mul_comm]
 have hYdm:=Nat.div_add_mod Y (2 ^ ap)
 have hYml:=Nat.mod_lt Y hpa
 have hsticky:Y % 2 ^ ap ≠ 0→2 ^ 61≤X∧Y / 2 ^ ap < 2 ^ 52:=by
  intro h0
  have ha0:ap ≠ 0:=by intro h;subst h;simp [Nat.mod_one] at h0
  have hgt:room < ap:=by
   rcases Nat.lt_or_ge room ap with h | h
   ·exact h
   ·exfalso
    apply h0
    rw [hY,show room=(room - ap) + ap by omega,Nat.pow_add,← Nat.mul_assoc,Nat.mul_mod_left]
  constructor
  ·rw [hX,show 61=f.fractionBits + room by omega,Nat.pow_add];exact Nat.mul_le_mul_right _ (hmx ha0)
  ·rw [Nat.div_lt_iff_lt_mul hpa,hY]
   calc my * 2 ^ room < 2 ^ (f.fractionBits + 1) * 2 ^ room:=Nat.mul_lt_mul_of_pos_right hmy hpr
    _=2 ^ (f.fractionBits + 1 + room):=by rw [← Nat.pow_add]
    _≤2 ^ (52 + ap):=Nat.pow_le_pow_right (by decide) (by omega)
    _=2 ^ 52 * 2 ^ ap:=Nat.pow_add ..
 have h53:(2:Nat) ^ (f.fractionBits + 1)≤2 ^ 53:=Nat.pow_le_pow_right (by decide) (by omega)
 have c61:(2:Nat) ^ 61=2305843009213693952:=by decide
 have c53:(2:Nat) ^ 53=9007199254740992:=by decide
 have c52:(2:Nat) ^ 52=4503599627370496:=by decide
 have hup:rungR f (X + Y / 2 ^ ap) (ex - room) (decide (Y % 2 ^ ap ≠ 0))=rungOf f (N + my) ey:=by
  have hM:(N + my) * 2 ^ room=2 ^ ap * X + Y:=by rw [Nat.add_mul,hNX,hY]
  have hd:(N + my) * 2 ^ room / 2 ^ ap=X + Y / 2 ^ ap:=by rw [hM,Nat.mul_add_div hpa]
  have hr:(N + my) * 2 ^ room % 2 ^ ap=Y % 2 ^ ap:=by rw [hM,Nat.mul_add_mod]
  have:=rungR_jam f ((N + my) * 2 ^ room) ap (ey - room) (by
   rw [hd,hr];intro h0;have:=hsticky h0;exact Nat.le_trans (show 2 ^ (f.fractionBits + 1)≤X by omega) (Nat.le_add_right _ _))
  rw [hd,hr,rungOf_scale,show ey - (room:Int) + ap=ex - room by omega] at this
  exact this
 have hdn:rungR f (X - Y / 2 ^ ap - (decide (Y % 2 ^ ap ≠ 0)).toNat) (ex - room) (decide (Y % 2 ^ ap ≠ 0))=rungOf f (N - my) ey ∧
   (X - Y / 2 ^ ap - (decide (Y % 2 ^ ap ≠ 0)).toNat=0 ↔ N - my=0):=by
  have hM:(N - my) * 2 ^ room=2 ^ ap * X - Y:=by rw [Nat.sub_mul,hNX,hY]
  have hle:Y≤2 ^ ap * X:=by rw [hY,← hNX];exact Nat.mul_le_mul_right _ (by omega)
  by_cases h0:Y % 2 ^ ap=0
  ·have e1:Y=2 ^ ap * (Y / 2 ^ ap):=by omega
   have hMe:(N - my) * 2 ^ room=2 ^ ap * (X - Y / 2 ^ ap):=by rw [hM,Nat.mul_sub];omega
   have hd:(N - my) * 2 ^ room / 2 ^ ap=X - Y / 2 ^ ap:=by rw [hMe,Nat.mul_div_cancel_left _ hpa]
   have hr:(N - my) * 2 ^ room % 2 ^ ap=0:=by rw [hMe,Nat.mul_mod_right]
   have:=rungR_jam f ((N - my) * 2 ^ room) ap (ey - room) (by rw [hr];intro h;exact absurd rfl h)
   rw [hd,hr,rungOf_scale,show ey - (room:Int) + ap=ex - room by omega] at this
   simp only [h0,ne_eq,not_true_eq_false,decide_false,Bool.toNat_false,Nat.sub_zero] at this ⊢
   refine ⟨this,?_⟩
   constructor
   ·intro hz
    rw [hz,Nat.mul_zero] at hMe
    rcases Nat.mul_eq_zero.1 hMe with h | h
    ·exact h
    ·omega
   ·intro hz
    rw [hz,Nat.zero_mul] at hMe
    rcases Nat.mul_eq_zero.1 hMe.symm with h | h
    ·omega
    ·exact h
  ·have hs:=hsticky h0
   have hMe:(N - my) * 2 ^ room=2 ^ ap * (X - Y / 2 ^ ap - 1) + (2 ^ ap - Y % 2 ^ ap):=by
    rw [hM,Nat.mul_sub,Nat.mul_sub,Nat.mul_one]
    have:2 ^ ap * (Y / 2 ^ ap + 1)≤2 ^ ap * X:=Nat.mul_le_mul_left _ (by omega)
    rw [Nat.mul_add,Nat.mul_one] at this
    omega
   have hd:(N - my) * 2 ^ room / 2 ^ ap=X - Y / 2 ^ ap - 1:=by
    rw [hMe,Nat.mul_add_div hpa,Nat.div_eq_of_lt (show 2 ^ ap - Y % 2 ^ ap < 2 ^ ap by omega)];omega
   have hr:(N - my) * 2 ^ room % 2 ^ ap=2 ^ ap - Y % 2 ^ ap:=by
    rw [hMe,Nat.mul_add_mod,Nat.mod_eq_of_lt (by omega)]
   have:=rungR_jam f ((N - my) * 2 ^ room) ap (ey - room) (by rw [hd];intro _;omega)
   rw [hd,hr,rungOf_scale,show ey - (room:Int) + ap=ex - room by omega] at this
   have hb:decide (2 ^ ap - Y % 2 ^ ap ≠ 0)=true:=by simp;omega
   have hb2:decide (Y % 2 ^ ap ≠ 0)=true:=by simp [h0]
   rw [hb] at this
   rw [hb2]
   refine ⟨this,?_⟩
   constructor
   ·intro hz;simp at hz;omega
   ·intro hz
    rw [hz,Nat.zero_mul] at hMe
    omega
 unfold sumN
 simp only [← hX,← hY]
 rw [← hN] at hge ⊢
 simp only [Option.map_some,Option.some.injEq,Format.write]
 rw [nearest_eq]
 cases sx <;> cases sy
 ·simp only [Bool.false_eq_true,if_false,if_true]
  rw [hup,show ((N:Int) + (my:Int)).natAbs=N + my by omega]
  congr 1
  by_cases h:(N:Int) + my=0
  ·rw [if_pos h];rfl
  ·rw [if_neg h];simp;omega
 ·simp only [Bool.false_eq_true,if_false,if_true]
  rw [hdn.1,show ((N:Int) + -(my:Int)).natAbs=N - my by omega]
  congr 1
  by_cases h:(N:Int) + -(my:Int)=0
  ·rw [if_pos h];simp
  ·rw [if_neg h];simp;omega
 ·simp only [Bool.true_eq_false,if_false,if_true,Bool.false_eq_true]
  rw [hdn.1,show (-(N:Int) + (my:Int)).natAbs=N - my by omega]
  congr 1
  by_cases h:-(N:Int) + (my:Int)=0
  ·rw [if_pos h,if_pos (hdn.2.2 (by omega))];rfl
  ·have h3:¬ N - my=0:=by omega
   rw [if_neg h,if_neg (fun h2 => h3 (hdn.2.1 h2))];simp;omega
 ·simp only [if_true]
  rw [hup,show (-(N:Int) + -(my:Int)).natAbs=N + my by omega]
  congr 1
  by_cases h:-(N:Int) + -(my:Int)=0
  ·rw [if_pos h];rfl
  ·rw [if_neg h];simp;omega
end Go.Proofs.YtlhakbkdlgejpaaGreatDoor.Fl
namespace Go.Proofs.YtlhakbkdlgejpaaGreatDoor.Fl
open Ieee
theorem pe_eq (P:Nat) (low:Int) (s:Nat):pe P low s=low + ((s / 2 ^ P - 1:Nat):Int):=by
 unfold pe;split
 ·rename_i h;rw [h];simp
 ·rfl
theorem pm_lt (P s:Nat):pm P s < 2 ^ (P + 1):=by
 have hp:0 < 2 ^ P:=Nat.two_pow_pos P
 have hm:=Nat.mod_lt s hp
 have e:(2:Nat) ^ (P + 1)=2 * 2 ^ P:=by rw [Nat.pow_succ];omega
 have hdm:=Nat.div_add_mod s (2 ^ P)
 unfold pm;split
 ·rename_i h;rw [h] at hdm;simp at hdm;omega
 ·omega
theorem pm_ge (P s:Nat) (h:s / 2 ^ P ≠ 0):2 ^ P≤pm P s:=by
 unfold pm;rw [if_neg h];omega
theorem pm_small (P s:Nat) (h:s / 2 ^ P≤1):pm P s=s:=by
 have hdm:=Nat.div_add_mod s (2 ^ P)
 unfold pm;split
 ·rfl
 ·rename_i h0
  have h1:s / 2 ^ P=1:=by generalize s / 2 ^ P=q at *;omega
  rw [h1] at hdm;omega
theorem parts_ord (P:Nat) (low:Int) {s1 s2:Nat} (h:s2≤s1) :
  ∃ ap:Nat,pe P low s2 + ap=pe P low s1∧pm P s2≤pm P s1 * 2 ^ ap∧(ap ≠ 0→2 ^ P≤pm P s1)∧ap≤s1 / 2 ^ P:=by
 have hp:0 < 2 ^ P:=Nat.two_pow_pos P
 have hq:s2 / 2 ^ P≤s1 / 2 ^ P:=Nat.div_le_div_right h
 refine ⟨(s1 / 2 ^ P - 1) - (s2 / 2 ^ P - 1),by rw [pe_eq,pe_eq];generalize s1 / 2 ^ P=q1 at *;generalize s2 / 2 ^ P=q2 at *;omega,?_,fun h0 => pm_ge P s1 (by generalize s1 / 2 ^ P=q1 at *;omega),by generalize s1 / 2 ^ P=q1 at *;omega⟩
 by_cases h0:(s1 / 2 ^ P - 1) - (s2 / 2 ^ P - 1)=0
 ·rw [h0,Nat.pow_zero,Nat.mul_one]
  by_cases h1:s1 / 2 ^ P≤1
  ·rw [pm_small P s1 h1,pm_small P s2 (Nat.le_trans hq h1)];exact h
  ·have he:s2 / 2 ^ P=s1 / 2 ^ P:=by generalize s1 / 2 ^ P=q1 at *;generalize s2 / 2 ^ P=q2 at *;omega
   have d1:=Nat.div_add_mod s1 (2 ^ P)
   have d2:=Nat.div_add_mod s2 (2 ^ P)
   rw [he] at d2
   have h2:¬ s1 / 2 ^ P=0:=fun h => h1 (by rw [h];decide)
   unfold pm
   rw [if_neg h2,if_neg (by rw [he];exact h2)]
   omega
 ·have h1:=pm_ge P s1 (by generalize s1 / 2 ^ P=q1 at *;omega)
  have h2:=pm_lt P s2
  have e:(2:Nat) ^ (P + 1)=2 ^ P * 2 ^ 1:=Nat.pow_add ..
  have h3:2 ^ P * 2 ^ 1≤pm P s1 * 2 ^ ((s1 / 2 ^ P - 1) - (s2 / 2 ^ P - 1)):=Nat.mul_le_mul h1 (Nat.pow_le_pow_right (by decide) (by omega))
  omega
theorem read_fin {f:Format} {a SB P:Nat} {low:Int} (hSB:f.signWeight=SB) (hP:f.fractionBits=P) (hlow:f.leastPlace=low) (ha:a < 2 * SB) (h:a % SB < f.infRung) :
  f.read a=.number (decide (SB≤a)) (pm P (a % SB)) (pe P low (a % SB)):=by
 subst hSB hP hlow
 have hp:0 < 2 ^ f.fractionBits:=Nat.two_pow_pos _
 have hsg:(a / f.signWeight % 2 == 1)=decide (f.signWeight≤a):=by
  by_cases hc:f.signWeight≤a
  ·have:a / f.signWeight=1:=by rw [Nat.div_eq_iff (by omega)];omega
   simp [this,hc]
  ·have:a / f.signWeight=0:=Nat.div_eq_of_lt (by omega)
   simp [this,hc]
 unfold Format.read
 simp only [hsg]
 by_cases hb:a % f.signWeight < f.binade
 ·rw [if_pos hb]
  have h0:a % f.signWeight / 2 ^ f.fractionBits=0:=Nat.div_eq_of_lt hb
  unfold pm pe;rw [if_pos h0,if_pos h0]
 ·rw [if_neg hb,if_pos h]
  have h0:¬ a % f.signWeight / 2 ^ f.fractionBits=0:=by
   intro h0
   rcases Nat.lt_or_ge (a % f.signWeight) (2 ^ f.fractionBits) with h2 | h2
   ·exact hb h2
   ·have:=Nat.div_pos h2 hp;omega
  unfold pm pe;rw [if_neg h0,if_neg h0,Nat.add_comm];rfl
theorem read_inf {f:Format} {a SB:Nat} (hSB:f.signWeight=SB) (ha:a < 2 * SB) (hb:f.binade≤f.infRung) (h:a % SB=f.infRung) :
  f.read a=.infinity (decide (SB≤a)):=by
 subst hSB
 have hsg:(a / f.signWeight % 2 == 1)=decide (f.signWeight≤a):=by
  by_cases hc:f.signWeight≤a
  ·have:a / f.signWeight=1:=by rw [Nat.div_eq_iff (by omega)];omega
   simp [this,hc]
  ·have:a / f.signWeight=0:=Nat.div_eq_of_lt (by omega)
   simp [this,hc]
 unfold Format.read
 simp only [hsg]
 rw [if_neg (by omega),if_neg (by omega),if_pos h]
theorem read_nan {f:Format} {a SB:Nat} (hSB:f.signWeight=SB) (hb:f.binade≤f.infRung) (h:f.infRung < a % SB) :
  ∃ s t,f.read a=.nan s t:=by
 subst hSB
 unfold Format.read
 simp only []
 rw [if_neg (by omega),if_neg (by omega),if_neg (by omega)]
 exact ⟨_,_,rfl⟩
end Go.Proofs.YtlhakbkdlgejpaaGreatDoor.Fl
