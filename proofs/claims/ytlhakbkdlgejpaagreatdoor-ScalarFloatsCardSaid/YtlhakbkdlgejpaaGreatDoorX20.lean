/-
  FWholeMath, FOrderM, FWiden, FVal, FRSign, FRVal, FRKind, FAddMath, FRBase: merged, what the laws do not reach left out (each text says what it holds where it lies in wip). No condition.
-/
import Derived.Test.YtlhakbkdlgejpaaGreatDoorX11
import Derived.Test.YtlhakbkdlgejpaaGreatDoorX08
import Derived.Test.YtlhakbkdlgejpaaGreatDoorX05
import Derived.Laws.FloatArith
import Derived.Laws.Externs
import Derived.Laws.NewFold
import Derived.Test.YtlhakbkdlgejpaaGreatDoorX10
import Derived.Test.YtlhakbkdlgejpaaGreatDoorX01
set_option linter.unusedSimpArgs false
set_option linter.unusedVariables false
set_option maxRecDepth 100000
namespace Go.Proofs.YtlhakbkdlgejpaaGreatDoor.Fl
open Ieee
def cutUp (way:Toward) (neg:Bool) (n d:Nat):Bool :=
 match way with
 | .even => decide (2 ^ d < 2 * (n % 2 ^ d)) || (2 ^ d == 2 * (n % 2 ^ d) && n / 2 ^ d % 2 == 1)
 | .down => neg && n % 2 ^ d != 0
 | .up => !neg && n % 2 ^ d != 0
 | .zero => false
theorem cut_plain (way:Toward) (neg:Bool) (n d:Nat):way.cut neg n d=n / 2 ^ d + (cutUp way neg n d).toNat:=by
 by_cases h:d≤n.log2 + 2
 ·unfold Toward.cut cutUp
  simp only [Nat.one_shiftLeft]
  rw [Nat.min_eq_left h]
  cases way <;> rfl
 ·have hn:=@Nat.lt_log2_self n
  have e:(2:Nat) ^ (n.log2 + 2)=2 * 2 ^ (n.log2 + 1):=by rw [show n.log2 + 2=(n.log2 + 1) + 1 by omega,Nat.pow_succ];omega
  have hle:(2:Nat) ^ (n.log2 + 2)≤2 ^ d:=Nat.pow_le_pow_right (by omega) (by omega)
  have d1:n / 2 ^ d=0:=Nat.div_eq_of_lt (by omega)
  have m1:n % 2 ^ d=n:=Nat.mod_eq_of_lt (by omega)
  have d2:n / 2 ^ (n.log2 + 2)=0:=Nat.div_eq_of_lt (by omega)
  have m2:n % 2 ^ (n.log2 + 2)=n:=Nat.mod_eq_of_lt (by omega)
  unfold Toward.cut cutUp
  simp only [Nat.one_shiftLeft]
  rw [Nat.min_eq_right (by omega),d1,m1,d2,m2]
  cases way
  ·have e1:decide (2 ^ d < 2 * n)=false:=by simp;omega
   have e2:(2 ^ d == 2 * n)=false:=by simp;omega
   have e3:decide (2 ^ (n.log2 + 2) < 2 * n)=false:=by simp;omega
   have e4:(2 ^ (n.log2 + 2) == 2 * n)=false:=by simp;omega
   simp only [e1,e2,e3,e4]
  ·rfl
  ·rfl
  ·rfl
theorem cutUp_far (way:Toward) (neg:Bool) (n d:Nat) (hn:n < 4611686018427387904) (hd:63≤d):n / 2 ^ d=n / 2 ^ 63∧cutUp way neg n d=cutUp way neg n 63:=by
 have hle:(2:Nat) ^ 63≤2 ^ d:=Nat.pow_le_pow_right (by omega) hd
 have h63:(2:Nat) ^ 63=9223372036854775808:=by decide
 have d1:n / 2 ^ d=0:=Nat.div_eq_of_lt (by omega)
 have m1:n % 2 ^ d=n:=Nat.mod_eq_of_lt (by omega)
 have d2:n / 2 ^ 63=0:=Nat.div_eq_of_lt (by omega)
 have m2:n % 2 ^ 63=n:=Nat.mod_eq_of_lt (by omega)
 refine ⟨by rw [d1,d2],?_⟩
 unfold cutUp
 rw [d1,m1,d2,m2]
 cases way
 ·have e1:decide (2 ^ d < 2 * n)=false:=by simp;omega
  have e2:(2 ^ d == 2 * n)=false:=by simp;omega
  have e3:decide (2 ^ 63 < 2 * n)=false:=by simp;omega
  have e4:(2 ^ 63 == 2 * n)=false:=by simp;omega
  simp only [e1,e2,e3,e4]
 ·rfl
 ·rfl
 ·rfl
def wayOf (op:Nat):Toward:=if op=4 then .up else if op=5 then .down else if op=6 then .zero else .even
section
variable {f:Format} {SB INF P:Nat} {low:Int} (F:Fmt f SB INF P low) {a:Nat}
include F
theorem rungOf_parts {s:Nat} (hs:s < INF):rungOf f (pm P s) (pe P low s)=s:=by
 have hp:0 < 2 ^ P:=Nat.two_pow_pos P
 have hi:=F.inf
 have hdm:=Nat.div_add_mod s (2 ^ P)
 have hml:=Nat.mod_lt s hp
 by_cases hq:s / 2 ^ P=0
 ·have e1:pm P s=s:=by unfold pm;rw [if_pos hq]
  have e2:pe P low s=low:=by unfold pe;rw [if_pos hq]
  rw [e1,e2]
  by_cases h0:s=0
  ·subst h0;rfl
  ·have hsp:s < 2 ^ P:=by
    rcases Nat.lt_or_ge s (2 ^ P) with h | h
    ·exact h
    ·have:=Nat.div_pos h hp;omega
   have hlog:s.log2 < P:=log2_lt_of h0 hsp
   have hL:lastP f s low=low:=by
    unfold lastP;rw [F.fr,F.lp];omega
   unfold rungOf
   rw [if_neg h0,hL,F.lp,F.inf]
   unfold rneI
   rw [show low - low=0 by omega,if_pos (by omega)]
   simp [rne_zero]
   omega
 ·have e1:pm P s=s % 2 ^ P + 2 ^ P:=by unfold pm;rw [if_neg hq]
  have e2:=pe_eq P low s
  have hne:pm P s ≠ 0:=by omega
  have hlog:(pm P s).log2=P:=by
   rw [Nat.log2_eq_iff hne,e1]
   have:(2:Nat) ^ (P + 1)=2 * 2 ^ P:=by rw [Nat.pow_succ];omega
   omega
  have hL:lastP f (pm P s) (pe P low s)=pe P low s:=by
   unfold lastP;rw [F.fr,F.lp,hlog];omega
  unfold rungOf
  rw [if_neg hne,hL,F.lp,F.inf,F.fr]
  unfold rneI
  rw [show pe P low s - pe P low s=0 by omega,if_pos (by omega)]
  simp only [Int.toNat_zero,rne_zero]
  rw [show (pe P low s - low).toNat=s / 2 ^ P - 1 by rw [e2];generalize s / 2 ^ P=q;omega,e1]
  have:(s / 2 ^ P - 1) * 2 ^ P + (s % 2 ^ P + 2 ^ P)=s:=by
   obtain ⟨q,hqe⟩:∃ q,s / 2 ^ P=q + 1:=⟨s / 2 ^ P - 1,by generalize s / 2 ^ P=z at *;omega⟩
   rw [hqe] at hdm ⊢
   rw [Nat.mul_add,Nat.mul_one,Nat.mul_comm] at hdm
   rw [show q + 1 - 1=q by omega]
   omega
  rw [this]
  omega
theorem word_sz (ha:a < 2 * SB):f.word (decide (SB≤a)) (a % SB)=a:=by
 unfold Format.word
 rw [F.sb]
 by_cases h:SB≤a
 ·have:a % SB=a - SB:=by rw [Nat.mod_eq_sub_mod h,Nat.mod_eq_of_lt (by omega)]
  simp [h,this]
 ·simp [h,Nat.mod_eq_of_lt (show a < SB by omega)]
theorem read_12 (ha:a < 2 * SB) (h:kindOf INF (a % SB)=1 ∨ kindOf INF (a % SB)=2):f.read a=.number (decide (SB≤a)) (pm P (a % SB)) (pe P low (a % SB))∧a % SB < INF:=by
 have hfin:a % SB < INF:=by
  rcases h with h | h
  ·rw [kind1.1 h];exact F.inf0
  ·exact (kind2.1 h).2
 exact ⟨read_fin F.sb F.fr F.lp ha (by rw [F.inf];exact hfin),hfin⟩
theorem whole_inf (ha:a < 2 * SB) (h:kindOf INF (a % SB)=3) (way:Toward):f.write ((f.read a).integral way)=a:=by
 rw [rk3 F ha h]
 show f.word _ f.infRung=a
 have h3:=(kind3 F.inf0).1 h
 have:=word_sz F ha
 rw [h3] at this
 rw [F.inf];exact this
theorem whole_big (ha:a < 2 * SB) (h:kindOf INF (a % SB)=1 ∨ kindOf INF (a % SB)=2) (he:0≤pe P low (a % SB)) (way:Toward):f.write ((f.read a).integral way)=a:=by
 have h1:=read_12 F ha h
 rw [h1.1]
 simp only [Datum.integral,Format.write]
 rw [nearest_eq,cut_plain,show (-pe P low (a % SB)).toNat=0 by omega,Nat.shiftLeft_eq]
 have hup:cutUp way (decide (SB≤a)) (pm P (a % SB) * 2 ^ (pe P low (a % SB)).toNat) 0=false:=by
  unfold cutUp;cases way <;> simp [Nat.mod_one]
 rw [hup,Nat.pow_zero,Nat.div_one]
 have:=rungOf_scale f (pm P (a % SB)) (pe P low (a % SB)) (pe P low (a % SB)).toNat
 rw [show pe P low (a % SB) - ((pe P low (a % SB)).toNat:Int)=0 by omega] at this
 show f.word _ (rungOf f (pm P (a % SB) * 2 ^ (pe P low (a % SB)).toNat + 0) 0)=a
 rw [Nat.add_zero,this,rungOf_parts F h1.2,word_sz F ha]
theorem whole_small (ha:a < 2 * SB) (h:kindOf INF (a % SB)=1 ∨ kindOf INF (a % SB)=2) {K pl:Nat} (hK:pe P low (a % SB)=-(K:Int)) (hpl:pl=min K 63) (way:Toward) :
  f.write ((f.read a).integral way)=f.word (decide (SB≤a)) (rungR f (pm P (a % SB) / 2 ^ pl + (cutUp way (decide (SB≤a)) (pm P (a % SB)) pl).toNat) 0 false):=by
 have h1:=read_12 F ha h
 rw [h1.1,rungR_false]
 simp only [Datum.integral,Format.write]
 rw [nearest_eq,cut_plain,show (-pe P low (a % SB)).toNat=K by omega,show (pe P low (a % SB)).toNat=0 by omega]
 simp only [Nat.shiftLeft_zero]
 have hm:pm P (a % SB) < 4611686018427387904:=by
  have h2:=pm_lt P (a % SB)
  have h3:(2:Nat) ^ (P + 1)≤2 ^ 53:=Nat.pow_le_pow_right (by decide) (by have:=F.p52;omega)
  have h4:(2:Nat) ^ 53=9007199254740992:=by decide
  omega
 by_cases hc:K≤63
 ·rw [show pl=K by omega]
 ·have hp:pl=63:=by omega
  have:=cutUp_far way (decide (SB≤a)) _ K hm (by omega)
  rw [hp,this.1,this.2]
end
end Go.Proofs.YtlhakbkdlgejpaaGreatDoor.Fl
namespace Go.Proofs.YtlhakbkdlgejpaaGreatDoor.Fl
open Ieee
def sgn (s:Bool) (x:Nat):Int:=if s then -(x:Int) else (x:Int)
theorem compare_congr {x y x' y':Int} (h1:x < y ↔ x' < y') (h2:x=y ↔ x'=y'):compare x y=compare x' y':=by
 show compareOfLessAndEq x y=compareOfLessAndEq x' y'
 unfold compareOfLessAndEq
 simp only [h1,h2]
theorem cmp_lt {x y:Int} (h:x < y):compare x y=.lt:=by
 show compareOfLessAndEq x y=_
 unfold compareOfLessAndEq;rw [if_pos h]
theorem cmp_eq {x y:Int} (h:x=y):compare x y=.eq:=by
 show compareOfLessAndEq x y=_
 unfold compareOfLessAndEq;rw [if_neg (by omega),if_pos h]
theorem cmp_gt {x y:Int} (h:y < x):compare x y=.gt:=by
 show compareOfLessAndEq x y=_
 unfold compareOfLessAndEq;rw [if_neg (by omega),if_neg (by omega)]
theorem order_num (s t:Bool) (m n:Nat) (i j L:Int) (h1:L≤i) (h2:L≤j) :
  Datum.order (.number s m i) (.number t n j)=some (compare (sgn s (m * 2 ^ (i - L).toNat)) (sgn t (n * 2 ^ (j - L).toNat))):=by
 simp only [Datum.order]
 congr 1
 obtain ⟨c,hc⟩:∃ c:Nat,c=(min i j - L).toNat:=⟨_,rfl⟩
 have e1:(i - L).toNat=(i - min i j).toNat + c:=by omega
 have e2:(j - L).toNat=(j - min i j).toNat + c:=by omega
 have hp:(0:Int) < ((2 ^ c:Nat):Int):=by have:=Nat.two_pow_pos c;omega
 have f:∀ (s:Bool) (m k:Nat),sgn s (m * 2 ^ (k + c))=signed s m k * ((2 ^ c:Nat):Int):=fun s m k => by
  rw [signed_shift,Nat.pow_add,← Nat.mul_assoc]
  unfold sgn
  cases s
  ·simp [Int.natCast_mul]
  ·simp [Int.natCast_mul,Int.neg_mul]
 rw [e1,e2,f,f]
 exact compare_congr ⟨fun h => Int.mul_lt_mul_of_pos_right h hp,fun h => Int.lt_of_mul_lt_mul_right h (Int.le_of_lt hp)⟩ ⟨fun h => by rw [h],fun h => Int.eq_of_mul_eq_mul_right (by omega) h⟩
def unitsOf (P s:Nat):Nat:=pm P s * 2 ^ (s / 2 ^ P - 1)
theorem units_zero (P:Nat):unitsOf P 0=0:=by unfold unitsOf pm;simp
theorem units_lt (P:Nat) {s t:Nat} (h:s < t):unitsOf P s < unitsOf P t:=by
 have hp:0 < 2 ^ P:=Nat.two_pow_pos P
 have hq:s / 2 ^ P≤t / 2 ^ P:=Nat.div_le_div_right (Nat.le_of_lt h)
 have key:pm P s < pm P t * 2 ^ ((t / 2 ^ P - 1) - (s / 2 ^ P - 1)):=by
  by_cases h0:(t / 2 ^ P - 1) - (s / 2 ^ P - 1)=0
  ·rw [h0,Nat.pow_zero,Nat.mul_one]
   by_cases h1:t / 2 ^ P≤1
   ·rw [pm_small P t h1,pm_small P s (Nat.le_trans hq h1)];exact h
   ·have he:s / 2 ^ P=t / 2 ^ P:=by generalize t / 2 ^ P=q1 at *;generalize s / 2 ^ P=q2 at *;omega
    have d1:=Nat.div_add_mod t (2 ^ P)
    have d2:=Nat.div_add_mod s (2 ^ P)
    rw [he] at d2
    have h2:¬ t / 2 ^ P=0:=fun h => h1 (by rw [h];decide)
    unfold pm
    rw [if_neg h2,if_neg (by rw [he];exact h2)]
    omega
  ·have h1:=pm_ge P t (by generalize t / 2 ^ P=q1 at *;omega)
   have h2:=pm_lt P s
   have e:(2:Nat) ^ (P + 1)=2 ^ P * 2 ^ 1:=Nat.pow_add ..
   have h3:2 ^ P * 2 ^ 1≤pm P t * 2 ^ ((t / 2 ^ P - 1) - (s / 2 ^ P - 1)):=Nat.mul_le_mul h1 (Nat.pow_le_pow_right (by decide) (by omega))
   omega
 unfold unitsOf
 have:=Nat.mul_lt_mul_of_pos_right key (Nat.two_pow_pos (s / 2 ^ P - 1))
 rw [Nat.mul_assoc,← Nat.pow_add,show (t / 2 ^ P - 1) - (s / 2 ^ P - 1) + (s / 2 ^ P - 1)=t / 2 ^ P - 1 by generalize t / 2 ^ P=q1 at *;generalize s / 2 ^ P=q2 at *;omega] at this
 exact this
theorem units_iff (P:Nat) {s t:Nat}:unitsOf P s < unitsOf P t ↔ s < t:=by
 constructor
 ·intro h
  rcases Nat.lt_trichotomy s t with h1 | h1 | h1
  ·exact h1
  ·subst h1;omega
  ·have:=units_lt P h1;omega
 ·exact units_lt P
theorem units_pos (P:Nat) {s:Nat}:0 < unitsOf P s ↔ 0 < s:=by
 have:=units_iff P (s:=0) (t:=s)
 rw [units_zero] at this
 exact this
theorem compare_sgn (P:Nat) (s t:Bool) (x y:Nat):compare (sgn s (unitsOf P x)) (sgn t (unitsOf P y))=compare (sgn s x) (sgn t y):=by
 have h1:=units_iff P (s:=x) (t:=y)
 have h2:=units_iff P (s:=y) (t:=x)
 have h3:=units_pos P (s:=x)
 have h4:=units_pos P (s:=y)
 apply compare_congr
 ·unfold sgn;cases s <;> cases t <;> simp <;> omega
 ·unfold sgn;cases s <;> cases t <;> simp <;> omega
section
variable {f:Format} {SB INF P:Nat} {low:Int} (F:Fmt f SB INF P low) {a b:Nat}
include F
omit F in
theorem rank_sgn:rankOf SB a=sgn (decide (SB≤a)) (a % SB):=by
 unfold rankOf sgn
 by_cases h:SB≤a <;> simp [h]
theorem order_word (ha:a < 2 * SB) (hb:b < 2 * SB) (na:a % SB≤INF) (nb:b % SB≤INF):f.order a b=some (compare (rankOf SB a) (rankOf SB b)):=by
 have h0:=F.inf0
 unfold Format.order
 rw [rank_sgn,rank_sgn]
 by_cases h1:a % SB=INF
 ·have k1:kindOf INF (a % SB)=3:=(kind3 h0).2 h1
  rw [rk3 F ha k1]
  by_cases h2:b % SB=INF
  ·have k2:kindOf INF (b % SB)=3:=(kind3 h0).2 h2
   rw [rk3 F hb k2,h1,h2]
   simp only [Datum.order]
   congr 1
   cases decide (SB≤a) <;> cases decide (SB≤b)
   ·exact (cmp_eq rfl).symm
   ·exact (cmp_gt (by show -(INF:Int) < (INF:Int);omega)).symm
   ·exact (cmp_lt (by show -(INF:Int) < (INF:Int);omega)).symm
   ·exact (cmp_eq rfl).symm
  ·rw [read_fin F.sb F.fr F.lp hb (by rw [F.inf];omega),h1]
   simp only [Datum.order]
   congr 1
   cases decide (SB≤a)
   ·exact (cmp_gt (by unfold sgn;cases decide (SB≤b) <;> simp <;> omega)).symm
   ·exact (cmp_lt (by unfold sgn;cases decide (SB≤b) <;> simp <;> omega)).symm
 ·rw [read_fin F.sb F.fr F.lp ha (by rw [F.inf];omega)]
  by_cases h2:b % SB=INF
  ·have k2:kindOf INF (b % SB)=3:=(kind3 h0).2 h2
   rw [rk3 F hb k2,h2]
   simp only [Datum.order]
   congr 1
   cases decide (SB≤b)
   ·exact (cmp_lt (by unfold sgn;cases decide (SB≤a) <;> simp <;> omega)).symm
   ·exact (cmp_gt (by unfold sgn;cases decide (SB≤a) <;> simp <;> omega)).symm
  ·rw [read_fin F.sb F.fr F.lp hb (by rw [F.inf];omega)]
   rw [order_num _ _ _ _ _ _ low (by rw [pe_eq];omega) (by rw [pe_eq];omega)]
   rw [show (pe P low (a % SB) - low).toNat=a % SB / 2 ^ P - 1 by rw [pe_eq];generalize a % SB / 2 ^ P=q;omega]
   rw [show (pe P low (b % SB) - low).toNat=b % SB / 2 ^ P - 1 by rw [pe_eq];generalize b % SB / 2 ^ P=q;omega]
   exact congrArg some (compare_sgn P _ _ _ _)
theorem order_nan (h:INF < a % SB ∨ INF < b % SB):f.order a b=none:=by
 unfold Format.order
 rcases h with h | h
 ·obtain ⟨s,t,e⟩:=read_nan F.sb F.bi (by rw [F.inf];exact h)
  rw [e];rfl
 ·obtain ⟨s,t,e⟩:=read_nan F.sb F.bi (by rw [F.inf];exact h)
  rw [e];cases f.read a <;> rfl
end
end Go.Proofs.YtlhakbkdlgejpaaGreatDoor.Fl
namespace Go.Proofs.YtlhakbkdlgejpaaGreatDoor.Fl
open Ieee
def wideD (s:Bool) (m:Nat) (e:Int):Datum:=if m=0 then .number s 0 (-1074) else .number s (m * 2 ^ (52 - m.log2)) (e - ((52 - m.log2:Nat):Int))
theorem read_write_double (s:Bool) (m:Nat) (e:Int) (hm:m < 9007199254740992) (he:-1000≤e) (he2:e≤900) :
  double.read (double.write (.number s m e))=wideD s m e∧double.write (.number s m e) < 2 * 9223372036854775808∧double.write (.number s m e) % 9223372036854775808 < 9218868437227405312 ∧
   decide (9223372036854775808≤double.write (.number s m e))=s:=by
 have F:=fmt_double
 have hw:double.write (.number s m e)=double.word s (rungOf double m e):=nearest_eq ..
 rw [hw]
 by_cases h0:m=0
 ·subst h0
  have:rungOf double 0 e=0:=rfl
  rw [this]
  cases s
  ·refine ⟨?_,by decide,by decide,by decide⟩;rfl
  ·refine ⟨?_,by decide,by decide,by decide⟩
   rw [show wideD true 0 e=.number true 0 (-1074) by unfold wideD;rw [if_pos rfl]]
   decide +kernel
 ·have hlog:m.log2 < 53:=log2_lt_of h0 (by omega)
  obtain ⟨k,hk⟩:∃ k:Nat,k=52 - m.log2:=⟨_,rfl⟩
  have hlo:=Nat.log2_self_le h0
  have hhi:=@Nat.lt_log2_self m
  have hp:0 < 2 ^ k:=Nat.two_pow_pos k
  have hm1:4503599627370496≤m * 2 ^ k:=by
   have:2 ^ m.log2 * 2 ^ k≤m * 2 ^ k:=Nat.mul_le_mul_right _ hlo
   rw [← Nat.pow_add,show m.log2 + k=52 by omega] at this
   have c:(2:Nat) ^ 52=4503599627370496:=by decide
   omega
  have hm2:m * 2 ^ k < 9007199254740992:=by
   have:m * 2 ^ k < 2 ^ (m.log2 + 1) * 2 ^ k:=Nat.mul_lt_mul_of_pos_right hhi hp
   rw [← Nat.pow_add,show m.log2 + 1 + k=53 by omega] at this
   have c:(2:Nat) ^ 53=9007199254740992:=by decide
   omega
  have hsc:=rungOf_scale double m e k
  have hlog2:(m * 2 ^ k).log2=52:=by rw [log2_two_pow_mul h0];omega
  obtain ⟨y,hy⟩:∃ y:Nat,y=m * 2 ^ k:=⟨_,rfl⟩
  obtain ⟨d,hd⟩:∃ d:Int,d=e - (k:Int):=⟨_,rfl⟩
  rw [← hy,← hd] at hsc
  rw [← hy] at hm1 hm2 hlog2
  have hL:lastP double y d=d:=by
   unfold lastP
   rw [hlog2]
   show max (d + ((52:Nat):Int) - ((52:Nat):Int)) (-1074)=d
   omega
  have hr:rungOf double y d=(d + 1074).toNat * 4503599627370496 + y:=by
   unfold rungOf
   rw [if_neg (by omega),hL]
   show min ((d - (-1074)).toNat * 4503599627370496 + rneI y (d - d)) 9218868437227405312=_
   have:rneI y (d - d)=y:=by
    unfold rneI;rw [show d - d=0 by omega,if_pos (by omega)];exact rne_zero y
   rw [this,show d - -1074=d + 1074 by omega]
   apply Nat.min_eq_left
   omega
  rw [← hsc,hr]
  obtain ⟨r,hre⟩:∃ r:Nat,r=(d + 1074).toNat * 4503599627370496 + y:=⟨_,rfl⟩
  rw [← hre]
  have hrb:r < 9218868437227405312:=by omega
  have hword:double.word s r=(if s then 9223372036854775808 + r else r):=rfl
  have hlt:double.word s r < 2 * 9223372036854775808:=by rw [hword];split <;> omega
  have hmod:double.word s r % 9223372036854775808=r:=by rw [hword];split <;> omega
  have hsg:decide (9223372036854775808≤double.word s r)=s:=by
   rw [hword];cases s
   ·simp;omega
   ·simp
  refine ⟨?_,hlt,by rw [hmod];exact hrb,hsg⟩
  rw [read_fin F.sb F.fr F.lp hlt (by rw [hmod];exact hrb),hmod,hsg]
  have hq:r / 2 ^ 52=(d + 1074).toNat + 1:=by show r / 4503599627370496=_;omega
  have hm3:r % 2 ^ 52=y - 4503599627370496:=by show r % 4503599627370496=_;omega
  have h1:pm 52 r=y:=by
   unfold pm
   rw [if_neg (by omega),hm3]
   show y - 4503599627370496 + 4503599627370496=y
   omega
  have h2:pe 52 (-1074) r=d:=by rw [pe_eq,hq];omega
  rw [h1,h2]
  unfold wideD
  rw [if_neg h0,← hk,← hy,← hd]
theorem order_wide (s t:Bool) (m n:Nat) (i j:Int) (hi:-1000≤i) (hj:-1000≤j):(wideD s m i).order (wideD t n j)=Datum.order (.number s m i) (.number t n j):=by
 have e1:∀ (s:Bool) (m:Nat) (i:Int),-1000≤i→∃ (m':Nat) (i':Int),wideD s m i=.number s m' i'∧-1074≤i'∧m' * 2 ^ (i' - (-1074)).toNat=m * 2 ^ (i - (-1074)).toNat:=fun s m i hi => by
  unfold wideD
  by_cases h0:m=0
  ·rw [if_pos h0];exact ⟨0,-1074,rfl,by omega,by rw [h0];simp⟩
  ·rw [if_neg h0]
   refine ⟨_,_,rfl,by omega,?_⟩
   rw [Nat.mul_assoc,← Nat.pow_add]
   congr 2
   omega
 obtain ⟨m',i',h1,h2,h3⟩:=e1 s m i hi
 obtain ⟨n',j',h4,h5,h6⟩:=e1 t n j hj
 rw [h1,h4,order_num s t m' n' i' j' (-1074) h2 h5,order_num s t m n i j (-1074) (by omega) (by omega),h3,h6]
end Go.Proofs.YtlhakbkdlgejpaaGreatDoor.Fl
namespace Go.Proofs.YtlhakbkdlgejpaaGreatDoor.Fl
open Ieee
theorem single_bounds {a : Nat} (ha : a < 2 * 2147483648) (h : a % 2147483648 < 2139095040) :
    pm 23 (a % 2147483648) < 9007199254740992 ∧ -1000 ≤ pe 23 (-149) (a % 2147483648) ∧ pe 23 (-149) (a % 2147483648) ≤ 900 := by
  have h1 := pm_lt 23 (a % 2147483648)
  have h2 : pm 23 (a % 2147483648) < 16777216 := h1
  have h3 := pe_eq 23 (-149) (a % 2147483648)
  have h4 : a % 2147483648 / 2 ^ 23 ≤ 255 := by show a % 2147483648 / 8388608 ≤ 255; omega
  generalize a % 2147483648 / 2 ^ 23 = q at *
  omega
def vS (a : Nat) : Nat := double.write (single.read a)
theorem vS_read {a : Nat} (ha : a < 2 * 2147483648) (h : a % 2147483648 ≤ 2139095040) :
    (a % 2147483648 < 2139095040 ∧ double.read (vS a) = wideD (decide (2147483648 ≤ a)) (pm 23 (a % 2147483648)) (pe 23 (-149) (a % 2147483648)) ∧ single.read a = .number (decide (2147483648 ≤ a)) (pm 23 (a % 2147483648)) (pe 23 (-149) (a % 2147483648)) ∨
     a % 2147483648 = 2139095040 ∧ double.read (vS a) = .infinity (decide (2147483648 ≤ a)) ∧ single.read a = .infinity (decide (2147483648 ≤ a))) ∧ vS a < 2 * 9223372036854775808 ∧ vS a % 9223372036854775808 ≤ 9218868437227405312 := by
  have F := fmt_single
  rcases Nat.lt_or_ge (a % 2147483648) 2139095040 with h1 | h1
  · have hb := single_bounds ha h1
    have hr := read_fin F.sb F.fr F.lp ha h1
    have hw := read_write_double (decide (2147483648 ≤ a)) _ _ hb.1 hb.2.1 hb.2.2
    unfold vS
    rw [hr]
    exact ⟨.inl ⟨h1, hw.1, rfl⟩, hw.2.1, by omega⟩
  · have h2 : a % 2147483648 = 2139095040 := by omega
    have hr := read_inf (f := single) F.sb ha F.bi h2
    unfold vS
    rw [hr]
    refine ⟨.inr ⟨h2, ?_, rfl⟩, ?_, ?_⟩
    · cases decide (2147483648 ≤ a) <;> decide +kernel
    · cases decide (2147483648 ≤ a) <;> decide +kernel
    · cases decide (2147483648 ≤ a) <;> decide +kernel
theorem vS_order {a b : Nat} (ha : a < 2 * 2147483648) (hb : b < 2 * 2147483648) (na : a % 2147483648 ≤ 2139095040) (nb : b % 2147483648 ≤ 2139095040) :
    double.order (vS a) (vS b) = some (compare (rankOf 2147483648 a) (rankOf 2147483648 b)) := by
  rw [← order_word fmt_single ha hb na nb]
  unfold Format.order
  have inf_num : ∀ (s t : Bool) (m : Nat) (e : Int), (Datum.infinity s).order (wideD t m e) = (Datum.infinity s).order (.number t m e) ∧ (wideD t m e).order (Datum.infinity s) = (Datum.number t m e).order (.infinity s) := fun s t m e => by
    unfold wideD; split <;> exact ⟨rfl, rfl⟩
  rcases (vS_read ha na).1 with ⟨x1, x2, x3⟩ | ⟨x1, x2, x3⟩ <;> rcases (vS_read hb nb).1 with ⟨y1, y2, y3⟩ | ⟨y1, y2, y3⟩
  · rw [x2, y2, x3, y3]
    have h1 := single_bounds ha x1
    have h2 := single_bounds hb y1
    exact order_wide _ _ _ _ _ _ h1.2.1 h2.2.1
  · rw [x2, y2, x3, y3]; exact (inf_num _ _ _ _).2
  · rw [x2, y2, x3, y3]; exact (inf_num _ _ _ _).1
  · rw [x2, y2, x3, y3]
def ValOf (SB INF a v : Nat) : Prop :=
  (INF < a % SB ∧ 9218868437227405312 < v % 9223372036854775808) ∨ (a % SB ≤ INF ∧ v % 9223372036854775808 ≤ 9218868437227405312 ∧ (SB = 2147483648 ∧ INF = 2139095040 ∧ v = vS a ∨ SB = 9223372036854775808 ∧ INF = 9218868437227405312 ∧ v = a))
theorem order_val {SB INF a b v w : Nat} (ha : a < 2 * SB) (hb : b < 2 * SB) (hv : ValOf SB INF a v) (hw : ValOf SB INF b w) :
    double.order v w = if INF < a % SB ∨ INF < b % SB then none else some (compare (rankOf SB a) (rankOf SB b)) := by
  rcases hv with ⟨h1, h2⟩ | ⟨h1, h2, h3⟩
  · rw [if_pos (.inl h1)]
    exact order_nan fmt_double (.inl h2)
  · rcases hw with ⟨g1, g2⟩ | ⟨g1, g2, g3⟩
    · rw [if_pos (.inr g1)]
      exact order_nan fmt_double (.inr g2)
    · rw [if_neg (by omega)]
      rcases h3 with ⟨rfl, rfl, rfl⟩ | ⟨rfl, rfl, rfl⟩
      · rcases g3 with ⟨_, _, rfl⟩ | ⟨h, _, _⟩
        · exact vS_order ha hb h1 g1
        · omega
      · rcases g3 with ⟨h, _, _⟩ | ⟨_, _, rfl⟩
        · omega
        · exact order_word fmt_double ha hb h1 g1
end Go.Proofs.YtlhakbkdlgejpaaGreatDoor.Fl
namespace Go.Proofs.YtlhakbkdlgejpaaGreatDoor.Fl
open Go.RowKit
theorem rsign_32 (w:World):Calls Tryz.prog 217 #[.int .i64 32] w fun e w' => e=.returned (.int .u64 2147483648)∧w=w':=by
 go_enter Tryz.func217,Tryz.ntmps217
 go_wp2
 go_ret
 exact ⟨rfl,rfl⟩
theorem rsign_64 (w:World):Calls Tryz.prog 217 #[.int .i64 64] w fun e w' => e=.returned (.int .u64 9223372036854775808)∧w=w':=by
 go_enter Tryz.func217,Tryz.ntmps217
 go_wp2
 go_ret
 exact ⟨rfl,rfl⟩
end Go.Proofs.YtlhakbkdlgejpaaGreatDoor.Fl
namespace Go.Proofs.YtlhakbkdlgejpaaGreatDoor.Fl
open Go.RowKit
theorem ext67 (n:Int) (w:World):(callFunc 262 #[.int .u32 n]).run Tryz.prog w=.ok (.value (.float .f32 n.toNat)) w:=by
 have:=run_callFunc_extern (P:=Tryz.prog) (e:=Extern.MathFloatBits.float32frombits) Tryz.func262 (by kernel_rfl) (by kernel_rfl) (by kernel_rfl) (by kernel_rfl) #[.int .u32 n] w
 rw [this];rfl
theorem ext79 (n:Int) (w:World):(callFunc 271 #[.int .u64 n]).run Tryz.prog w=.ok (.value (.float .f64 n.toNat)) w:=by
 have:=run_callFunc_extern (P:=Tryz.prog) (e:=Extern.MathFloatBits.float64frombits) Tryz.func271 (by kernel_rfl) (by kernel_rfl) (by kernel_rfl) (by kernel_rfl) #[.int .u64 n] w
 rw [this];rfl
theorem F32_any (a:Nat) (w:World):Calls Tryz.prog 227 #[.int .u64 a] w fun e w' => e=.returned (.float .f32 (a % 4294967296))∧w=w':=by
 obtain ⟨c,hc⟩:∃ c:Nat,c=a % 4294967296:=⟨_,rfl⟩
 have hw:IntKind.u32.wrap (a:Int)=(c:Int):=by
  have:IntKind.u32.wrap (a:Int)=(a:Int) % 4294967296:=by simp [IntKind.wrap,IntKind.bits,IntKind.signed]
  rw [this];omega
 have hx:∀ W:World,(callFunc 262 #[.int .u32 (c:Int)]).run Tryz.prog W=.ok (.value (.float .f32 c)) W:=fun W => ext67 c W
 rw [← hc]
 clear hc
 go_enter Tryz.func227,Tryz.ntmps227
 go_wp2
 go_ret
 exact ⟨rfl,rfl⟩
theorem F64_any (a:Nat) (w:World):Calls Tryz.prog 252 #[.int .u64 a] w fun e w' => e=.returned (.float .f64 a)∧w=w':=by
 have hx:∀ W:World,(callFunc 271 #[.int .u64 (a:Int)]).run Tryz.prog W=.ok (.value (.float .f64 a)) W:=fun W => ext79 a W
 go_enter Tryz.func252,Tryz.ntmps252
 go_wp2
 go_ret
 exact ⟨rfl,rfl⟩
theorem conv_ok (c:Nat) (hc:c < 2 * 2147483648) (h:c % 2147483648≤2139095040) (w:World):(convert 164 159 (.float .f32 c)).run Tryz.prog w=.ok (.float .f64 (vS c)) w:=by
 refine run_convert_float_float w 164 159 .f32 .f64 c (vS c) (by kernel_rfl) (by kernel_rfl) ?_
 unfold floatToFloatBits
 rw [if_neg (by decide)]
 show (match Ieee.single.read c with | .nan _ _ => none | .infinity s => some (Ieee.double.write (.infinity s)) | .number s m e => if (Ieee.double.read (Ieee.double.write (.number s m e))).isInfinity then none else some (Ieee.double.write (.number s m e)))=some (vS c)
 rcases (vS_read hc h).1 with ⟨x1,x2,x3⟩ | ⟨x1,x2,x3⟩
 ·have hv:vS c=Ieee.double.write (.number (decide (2147483648≤c)) (pm 23 (c % 2147483648)) (pe 23 (-149) (c % 2147483648))):=by unfold vS;rw [x3]
  rw [x3]
  simp only []
  rw [← hv,x2]
  have:(wideD (decide (2147483648≤c)) (pm 23 (c % 2147483648)) (pe 23 (-149) (c % 2147483648))).isInfinity=false:=by unfold wideD;split <;> rfl
  rw [this];rfl
 ·have hv:vS c=Ieee.double.write (.infinity (decide (2147483648≤c))):=by unfold vS;rw [x3]
  rw [x3,hv]
theorem conv_nan (c:Nat) (h:2139095040 < c % 2147483648) (w:World):∃ v:Nat,(convert 164 159 (.float .f32 c)).run Tryz.prog w=.ok (.float .f64 v) w.drew∧9218868437227405312 < v % 9223372036854775808:=by
 obtain ⟨s,t,hr⟩:=read_nan (f:=Ieee.single) (a:=c) (SB:=2147483648) rfl (by decide) h
 have hd:FloatKind.f32.decode c=.nan s t:=hr
 have hu:Tryz.prog.underlying 159=some (.float .f64):=by kernel_rfl
 have hs:Tryz.prog.underlying 164=some (.float .f32):=by kernel_rfl
 refine ⟨Question.cut (.nanConv .f64 c) (w.tape w.drawn (.nanConv .f64 c)),?_,?_⟩
 ·simp [convert,run_underlying hs,run_underlying hu,Conv.floatToFloat,hd,run_choose_drew,Question.forced]
 ·generalize w.tape w.drawn (.nanConv .f64 c)=t
  show 9218868437227405312 < ((t % 2) * 2 ^ 63 + 0x7ff0000000000000 + 1 + (t / 2) % (2 ^ 52 - 1)) % 9223372036854775808
  have h1:(t / 2) % (2 ^ 52 - 1) < 4503599627370495:=Nat.mod_lt _ (by decide)
  have h2:t % 2=0 ∨ t % 2=1:=by omega
  generalize (t / 2) % (2 ^ 52 - 1)=r at *
  rcases h2 with h2 | h2 <;> rw [h2] <;> omega
def VPost (SB INF a:Nat) (w:World) (e:Ending) (w':World):Prop:=∃ v:Nat,e=.returned (.float .f64 v)∧ValOf SB INF a v∧Below w.heap.size w w'
theorem value_32 (a:Nat) (w:World):Calls Tryz.prog 215 #[.int .i64 32,.int .u64 a] w (VPost 2147483648 2139095040 (a % 4294967296) w):=by
 have HF:=fun w => hid (F32_any a w)
 have hlt:a % 4294967296 < 2 * 2147483648:=by omega
 generalize a % 4294967296=c at *
 by_cases h:2139095040 < c % 2147483648
 ·obtain ⟨v,hx,hv⟩:=conv_nan c h w
  have HV:=hid (And.intro h hv)
  clear h hv hlt
  go_enter Tryz.func215,Tryz.ntmps215
  go_wp2_with (go_at_call 227;((with_reducible refine (HF _).out.mono ?_);rintro e w1 ⟨rfl,rfl⟩))
  go_ret
  exact ⟨v,rfl,.inl HV.out,(Below.refl _ _).drew⟩
 ·have hx:∀ W:World,(convert 164 159 (.float .f32 c)).run Tryz.prog W=.ok (.float .f64 (vS c)) W:=fun W => conv_ok c hlt (by omega) W
  have hr:=vS_read hlt (by omega)
  have HV:Hid (ValOf 2147483648 2139095040 c (vS c)):=hid (.inr ⟨by omega,hr.2.2,.inl ⟨rfl,rfl,rfl⟩⟩)
  generalize vS c=v at *
  clear h hr hlt
  go_enter Tryz.func215,Tryz.ntmps215
  go_wp2_with (go_at_call 227;((with_reducible refine (HF _).out.mono ?_);rintro e w1 ⟨rfl,rfl⟩))
  go_ret
  exact ⟨v,rfl,HV.out,Below.refl _ _⟩
theorem value_64 (a:Nat) (ha:a < 18446744073709551616) (w:World):Calls Tryz.prog 215 #[.int .i64 64,.int .u64 a] w (VPost 9223372036854775808 9218868437227405312 a w):=by
 have HV:Hid (ValOf 9223372036854775808 9218868437227405312 a a):=hid (by
  by_cases h:9218868437227405312 < a % 9223372036854775808
  ·exact .inl ⟨h,h⟩
  ·exact .inr ⟨by omega,by omega,.inr ⟨rfl,rfl,rfl⟩⟩)
 go_enter Tryz.func215,Tryz.ntmps215
 go_wp2_with (go_at_call 252;((with_reducible refine (F64_any _ _).mono ?_);rintro e w1 ⟨rfl,rfl⟩))
 go_ret
 exact ⟨a,rfl,HV.out,Below.refl _ _⟩
theorem rcut_32 (a:Nat) (w:World):Calls Tryz.prog 216 #[.int .i64 32,.int .u64 a] w fun e w' => e=.returned (.int .u64 ((a % 4294967296:Nat):Int))∧w=w':=by
 obtain ⟨c,hc⟩:∃ c:Nat,c=a % 4294967296:=⟨_,rfl⟩
 have hw:(a:Int) % 4294967296=(c:Int):=by omega
 rw [← hc]
 clear hc
 go_enter Tryz.func216,Tryz.ntmps216
 go_wp2
 go_ret
 exact ⟨congrArg (fun x => Ending.returned (.int .u64 x)) hw,rfl⟩
theorem rcut_64 (a:Nat) (ha:a < 18446744073709551616) (w:World):Calls Tryz.prog 216 #[.int .i64 64,.int .u64 a] w fun e w' => e=.returned (.int .u64 ((a % 18446744073709551616:Nat):Int))∧w=w':=by
 rw [Nat.mod_eq_of_lt ha]
 go_enter Tryz.func216,Tryz.ntmps216
 go_wp2
 go_ret
 exact ⟨rfl,rfl⟩
theorem rcan_32 (w:World):Calls Tryz.prog 225 #[.int .i64 32] w fun e w' => e=.returned (.int .u64 2143289344)∧w=w':=by
 go_enter Tryz.func225,Tryz.ntmps225
 go_wp2
 go_ret
 exact ⟨rfl,rfl⟩
theorem rcan_64 (w:World):Calls Tryz.prog 225 #[.int .i64 64] w fun e w' => e=.returned (.int .u64 9221120237041090560)∧w=w':=by
 go_enter Tryz.func225,Tryz.ntmps225
 go_wp2
 go_ret
 exact ⟨rfl,rfl⟩
end Go.Proofs.YtlhakbkdlgejpaaGreatDoor.Fl
namespace Go.Proofs.YtlhakbkdlgejpaaGreatDoor.Fl
open Go.RowKit
theorem val_zero {SB INF:Nat} (h:SB=2147483648∧INF=2139095040 ∨ SB=9223372036854775808∧INF=9218868437227405312):ValOf SB INF 0 0:=by
 rcases h with ⟨rfl,rfl⟩ | ⟨rfl,rfl⟩
 ·exact .inr ⟨by decide,by decide,.inl ⟨rfl,rfl,by decide +kernel⟩⟩
 ·exact .inr ⟨by decide,by decide,.inr ⟨rfl,rfl,rfl⟩⟩
theorem val_eq0 {SB INF c v:Nat} (h:SB=2147483648∧INF=2139095040 ∨ SB=9223372036854775808∧INF=9218868437227405312) (hc:c < 2 * SB) (hv:ValOf SB INF c v) :
  (Ieee.double.order v 0 == some .eq)=decide (c % SB=0):=by
 have hp:0 < SB:=by omega
 rw [order_val hc (by omega) hv (val_zero h)]
 by_cases hn:INF < c % SB ∨ INF < 0 % SB
 ·rw [if_pos hn]
  have:¬ c % SB=0:=by rw [Nat.zero_mod] at hn;omega
  simp [this]
 ·rw [if_neg hn]
  have hz:rankOf SB 0=0:=by unfold rankOf;rw [if_neg (by omega),Nat.zero_mod];rfl
  rw [hz]
  by_cases h0:c % SB=0
  ·have:rankOf SB c=0:=by unfold rankOf;rw [h0];split <;> rfl
   rw [this,cmp_eq rfl];simp [h0]
  ·have hne:rankOf SB c < 0 ∨ 0 < rankOf SB c:=by unfold rankOf;split <;> omega
   rcases hne with h1 | h1
   ·rw [cmp_lt h1];simp [h0]
   ·rw [cmp_gt h1];simp [h0]
theorem val_ne {SB INF c v:Nat} (hc:c < 2 * SB) (hv:ValOf SB INF c v):(Ieee.double.order v v != some .eq)=decide (INF < c % SB):=by
 rw [order_val hc hc hv hv]
 by_cases h:INF < c % SB
 ·rw [if_pos (.inl h)];simp [h]
 ·rw [if_neg (by omega),cmp_eq rfl];simp [h]
end Go.Proofs.YtlhakbkdlgejpaaGreatDoor.Fl
namespace Go.Proofs.YtlhakbkdlgejpaaGreatDoor.Fl
open Ieee
section
variable {f:Format} {SB INF P:Nat} {low:Int} (F:Fmt f SB INF P low) {a b:Nat}
include F
theorem word_inf (ha:a < 2 * SB) (h:a % SB=INF):f.word (decide (SB≤a)) f.infRung=a:=by
 have:=word_sz F ha
 rw [h] at this
 rw [F.inf];exact this
omit F in
theorem opp_lt (ha:a < 2 * SB):oppN SB a < 2 * SB∧oppN SB a % SB=a % SB∧decide (SB≤oppN SB a)=!decide (SB≤a):=by
 unfold oppN
 by_cases h:SB≤a
 ·rw [if_pos h]
  refine ⟨by omega,?_,?_⟩
  ·rw [Nat.mod_eq_sub_mod h]
  ·have:¬ SB≤a - SB:=by omega
   simp [h,this]
 ·rw [if_neg h]
  refine ⟨by omega,?_,?_⟩
  ·rw [Nat.add_mod_right]
  ·have:SB≤a + SB:=by omega
   simp [h]
theorem sumO_add (room CAN:Nat) (hroom:room + P=61) (ha:a < 2 * SB) (hb:b < 2 * SB) (na:a % SB≤INF) (hle:b % SB≤a % SB) :
  sumO f room SB INF CAN P low a b=(f.add a b).getD CAN:=by
 have h0:=F.inf0
 unfold sumO Format.add
 by_cases hi:a % SB=INF
 ·rw [if_pos hi]
  have k1:kindOf INF (a % SB)=3:=(kind3 h0).2 hi
  rw [rk3 F ha k1]
  by_cases hj:b % SB=INF
  ·have k2:kindOf INF (b % SB)=3:=(kind3 h0).2 hj
   rw [rk3 F hb k2]
   simp only [Datum.sum]
   have ho:=opp_lt (SB:=SB) ha
   by_cases hs:decide (SB≤a)=decide (SB≤b)
   ·rw [if_pos hs]
    have hne:b ≠ oppN SB a:=by
     intro h
     rw [h,ho.2.2] at hs
     cases decide (SB≤a) <;> simp at hs
    rw [if_neg hne]
    simp only [Option.map_some,Option.getD_some,Format.write]
    exact (word_inf F ha hi).symm
   ·rw [if_neg hs]
    have he:b=oppN SB a:=by
     have w1:=word_sz F hb
     have w2:=word_sz F ho.1
     rw [ho.2.1,ho.2.2,hi] at w2
     rw [hj] at w1
     have:decide (SB≤b)=!decide (SB≤a):=by
      cases h1:decide (SB≤a) <;> cases h2:decide (SB≤b) <;> simp_all
     rw [this] at w1
     rw [← w1,← w2]
    rw [if_pos he];rfl
  ·rw [read_fin F.sb F.fr F.lp hb (by rw [F.inf];omega)]
   have hne:b ≠ oppN SB a:=by
    intro h
    have ho:=opp_lt (SB:=SB) ha
    rw [h,ho.2.1] at hj
    exact hj hi
   rw [if_neg hne]
   simp only [Datum.sum,Option.map_some,Option.getD_some,Format.write]
   exact (word_inf F ha hi).symm
 ·rw [if_neg hi,read_fin F.sb F.fr F.lp ha (by rw [F.inf];omega),read_fin F.sb F.fr F.lp hb (by rw [F.inf];omega)]
  obtain ⟨ap,h1,h2,h3,_⟩:=parts_ord P low hle
  rw [sum_ge room (by rw [F.fr];exact F.p52) (by rw [F.fr];exact hroom) _ _ _ _ _ _ ap h1 h2 (by rw [F.fr];exact pm_lt _ _) (by rw [F.fr];exact h3)]
  rw [show (pe P low (a % SB) - pe P low (b % SB)).toNat=ap by omega]
  rfl
theorem sumW_add (room CAN:Nat) (hroom:room + P=61) (ha:a < 2 * SB) (hb:b < 2 * SB) (na:a % SB≤INF) (nb:b % SB≤INF) :
  sumW f room SB INF CAN P low a b=(f.add a b).getD CAN:=by
 unfold sumW
 by_cases h:a % SB < b % SB
 ·rw [if_pos h,sumO_add F room CAN hroom hb ha nb (by omega)]
  unfold Format.add;rw [sum_comm]
 ·rw [if_neg h,sumO_add F room CAN hroom ha hb na (by omega)]
theorem add_opp (ha:a < 2 * SB) (hb:b < 2 * SB) (nb:b % SB≤INF):f.add a (oppN SB b)=f.sub a b:=by
 have h0:=F.inf0
 have ho:=opp_lt (SB:=SB) hb
 unfold Format.add Format.sub
 have:f.read (oppN SB b)=(f.read b).opposite:=by
  by_cases hj:b % SB=INF
  ·rw [rk3 F hb ((kind3 h0).2 hj),rk3 F ho.1 ((kind3 h0).2 (by rw [ho.2.1];exact hj)),ho.2.2];rfl
  ·rw [read_fin F.sb F.fr F.lp hb (by rw [F.inf];omega),read_fin F.sb F.fr F.lp ho.1 (by rw [ho.2.1,F.inf];omega),ho.2.1,ho.2.2];rfl
 rw [this]
theorem write_fin (d:Datum) (hd:d.isNaN=false):f.write d < 2 * SB∧f.write d % SB≤INF:=by
 have hw:∀ s r,r≤INF→f.word s r < 2 * SB∧f.word s r % SB≤INF:=fun s r hr => by
  have hlt:INF < SB:=by
   have h1:f.infRung < f.signWeight:=by
    have h:0 < 2 ^ f.exponentBits:=Nat.two_pow_pos _
    have hb:0 < f.binade:=Nat.two_pow_pos _
    have:f.infRung + f.binade=f.signWeight:=by
     unfold Format.infRung Format.signWeight
     rw [Nat.pow_add,← Nat.succ_mul]
     exact congrArg (· * f.binade) (by omega)
    omega
   rw [← F.inf,← F.sb];exact h1
  unfold Format.word
  rw [F.sb]
  cases s
  ·simp only [Bool.false_eq_true,if_false]
   rw [Nat.mod_eq_of_lt (by omega)];omega
  ·simp only [if_true]
   rw [Nat.add_mod_left,Nat.mod_eq_of_lt (by omega)];omega
 cases d with
 | number s m e =>
  simp only [Format.write]
  rw [nearest_eq]
  refine hw s _ ?_
  unfold rungOf
  split
  ·omega
  ·rw [F.inf];exact Nat.min_le_right _ _
 | infinity s => simp only [Format.write];exact hw s _ (by rw [F.inf];omega)
 | nan s t => cases hd
omit F in
theorem sum_notNaN (d e r:Datum) (h:d.sum e=some r):r.isNaN=false:=by
 cases d <;> cases e <;> simp only [Datum.sum] at h
 all_goals first
  | (cases h;rfl)
  | (split at h <;> first | (cases h;rfl) | cases h)
  | cases h
omit F in
theorem product_notNaN (d e r:Datum) (h:d.product e=some r):r.isNaN=false:=by
 cases d <;> cases e <;> simp only [Datum.product] at h
 all_goals first
  | (cases h;rfl)
  | (split at h <;> first | (cases h;rfl) | cases h)
  | cases h
omit F in
theorem quotient_notNaN (k:Nat) (d e r:Datum) (h:d.quotient k e=some r):r.isNaN=false:=by
 cases d <;> cases e <;> simp only [Datum.quotient] at h
 all_goals first
  | (cases h;rfl)
  | (split at h <;> first | (cases h;rfl) | (split at h <;> first | (cases h;rfl) | cases h) | cases h)
  | cases h
end
end Go.Proofs.YtlhakbkdlgejpaaGreatDoor.Fl
namespace Go.Proofs.YtlhakbkdlgejpaaGreatDoor.Fl
open Go.RowKit
theorem ext66 (v:Nat) (w:World):(callFunc 261 #[.float .f64 v]).run Tryz.prog w=.ok (.value (.int .u64 (v:Int))) w:=by
 have:=run_callFunc_extern (P:=Tryz.prog) (e:=Extern.MathFloatBits.float64bits) Tryz.func261 (by kernel_rfl) (by kernel_rfl) (by kernel_rfl) (by kernel_rfl) #[.float .f64 v] w
 rw [this];rfl
theorem ext68 (v:Nat) (w:World):(callFunc 260 #[.float .f32 v]).run Tryz.prog w=.ok (.value (.int .u32 (v:Int))) w:=by
 have:=run_callFunc_extern (P:=Tryz.prog) (e:=Extern.MathFloatBits.float32bits) Tryz.func260 (by kernel_rfl) (by kernel_rfl) (by kernel_rfl) (by kernel_rfl) #[.float .f32 v] w
 rw [this];rfl
theorem wrapu_nat {q:Nat} (h:q < 18446744073709551616):IntKind.u64.wrap (q:Int)=(q:Int):=by
 rw [IntKind.wrap_u64];omega
theorem BB_32 (v:Nat) (hv:v < 2 * 2147483648) (h:v % 2147483648≤2139095040) (w:World):Calls Tryz.prog 223 #[.float .f32 v] w fun e w' => e=.returned (.int .u64 (v:Int))∧w=w':=by
 have hx:∀ W:World,(callFunc 260 #[.float .f32 v]).run Tryz.prog W=.ok (.value (.int .u32 (v:Int))) W:=fun W => ext68 v W
 have ho:(FloatKind.f32.format.order v v != some .eq)=false:=by
  have:=order_word fmt_single hv hv h h
  rw [cmp_eq rfl] at this
  show (Ieee.single.order v v != some .eq)=false
  rw [this];rfl
 have hw:IntKind.u64.wrap (v:Int)=(v:Int):=wrapu_nat (by omega)
 clear hv h
 go_enter Tryz.func223,Tryz.ntmps223
 go_wp2
 go_ret
 exact ⟨rfl,rfl⟩
theorem BB_64 (v:Nat) (hv:v < 2 * 9223372036854775808) (h:v % 9223372036854775808≤9218868437227405312) (w:World):Calls Tryz.prog 224 #[.float .f64 v] w fun e w' => e=.returned (.int .u64 (v:Int))∧w=w':=by
 have hx:∀ W:World,(callFunc 261 #[.float .f64 v]).run Tryz.prog W=.ok (.value (.int .u64 (v:Int))) W:=fun W => ext66 v W
 have ho:(FloatKind.f64.format.order v v != some .eq)=false:=by
  have:=order_word fmt_double hv hv h h
  rw [cmp_eq rfl] at this
  show (Ieee.double.order v v != some .eq)=false
  rw [this];rfl
 clear hv h
 go_enter Tryz.func224,Tryz.ntmps224
 go_wp2
 go_ret
 exact ⟨rfl,rfl⟩
theorem BB_32_nan (v:Nat) (h:2139095040 < v % 2147483648) (w:World):Calls Tryz.prog 223 #[.float .f32 v] w fun e w' => e=.returned (.int .u64 2143289344)∧w=w':=by
 have ho:(FloatKind.f32.format.order v v != some .eq)=true:=by
  have:=order_nan fmt_single (a:=v) (b:=v) (.inl h)
  show (Ieee.single.order v v != some .eq)=true
  rw [this];rfl
 clear h
 go_enter Tryz.func223,Tryz.ntmps223
 go_wp2_with (go_at_call 225;((with_reducible refine (rcan_32 _).mono ?_);rintro e w1 ⟨rfl,rfl⟩))
 go_ret
 exact ⟨rfl,rfl⟩
theorem drawn_32 (t:Nat):2139095040 < ((t % 2) * 2 ^ (32 - 1) + 2139095040 + 1 + (t / 2) % (2 ^ 23 - 1)) % 2147483648:=by
 have h1:(t / 2) % (2 ^ 23 - 1) < 2 ^ 23 - 1:=Nat.mod_lt _ (by decide)
 have h2:t % 2=0 ∨ t % 2=1:=by omega
 have e1:(2:Nat) ^ (32 - 1)=2147483648:=by decide
 have e2:(2:Nat) ^ 23 - 1=2147483648 - 2139095040 - 1:=by decide
 rw [e1]
 rw [e2] at h1 ⊢
 generalize (t / 2) % (2147483648 - 2139095040 - 1)=r at *
 rcases h2 with h2 | h2 <;> rw [h2] <;> omega
theorem BB_64_nan (v:Nat) (h:9218868437227405312 < v % 9223372036854775808) (w:World):Calls Tryz.prog 224 #[.float .f64 v] w fun e w' => e=.returned (.int .u64 9221120237041090560)∧w=w':=by
 have ho:(FloatKind.f64.format.order v v != some .eq)=true:=by
  have:=order_nan fmt_double (a:=v) (b:=v) (.inl h)
  show (Ieee.double.order v v != some .eq)=true
  rw [this];rfl
 clear h
 go_enter Tryz.func224,Tryz.ntmps224
 go_wp2_with (go_at_call 225;((with_reducible refine (rcan_64 _).mono ?_);rintro e w1 ⟨rfl,rfl⟩))
 go_ret
 exact ⟨rfl,rfl⟩
theorem drawn_64 (t:Nat):9218868437227405312 < ((t % 2) * 2 ^ (64 - 1) + 9218868437227405312 + 1 + (t / 2) % (2 ^ 52 - 1)) % 9223372036854775808:=by
 have h1:(t / 2) % (2 ^ 52 - 1) < 2 ^ 52 - 1:=Nat.mod_lt _ (by decide)
 have h2:t % 2=0 ∨ t % 2=1:=by omega
 have e1:(2:Nat) ^ (64 - 1)=9223372036854775808:=by decide
 have e2:(2:Nat) ^ 52 - 1=9223372036854775808 - 9218868437227405312 - 1:=by decide
 rw [e1]
 rw [e2] at h1 ⊢
 generalize (t / 2) % (9223372036854775808 - 9218868437227405312 - 1)=r at *
 rcases h2 with h2 | h2 <;> rw [h2] <;> omega
end Go.Proofs.YtlhakbkdlgejpaaGreatDoor.Fl
