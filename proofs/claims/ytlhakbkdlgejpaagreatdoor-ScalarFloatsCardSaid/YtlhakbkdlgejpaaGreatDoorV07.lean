/-
  FRootD, FRRoot: merged, what the laws do not reach left out (each text says what it holds where it lies in wip). No condition.
-/
import Derived.Test.YtlhakbkdlgejpaaGreatDoorV04
import Derived.Test.YtlhakbkdlgejpaaGreatDoorV05
import Derived.Test.YtlhakbkdlgejpaaGreatDoorV06
import Derived.Test.YtlhakbkdlgejpaaGreatDoorX01
set_option linter.unusedSimpArgs false
set_option linter.unusedVariables false
set_option maxRecDepth 100000
namespace Go.Proofs.YtlhakbkdlgejpaaGreatDoor.Fl
open Ieee
theorem sq_exp (h c:Nat):(h * 34359738368 + c) * (h * 34359738368 + c)=1180591620717411303424 * (h * h) + 68719476736 * (h * c) + c * c:=by
 rw [Nat.add_mul,Nat.mul_add,Nat.mul_add]
 have e1:h * 34359738368 * (h * 34359738368)=1180591620717411303424 * (h * h):=by
  rw [Nat.mul_mul_mul_comm];omega
 have e2:h * 34359738368 * c=34359738368 * (h * c):=by rw [Nat.mul_right_comm,Nat.mul_comm]
 have e3:c * (h * 34359738368)=34359738368 * (h * c):=by rw [← Nat.mul_assoc,Nat.mul_comm c h,Nat.mul_comm]
 rw [e1,e2,e3];omega
theorem sqrt_gap (n' R:Nat) (hs:SqrtOf (n' * 1180591620717411303424) R) (hR1:576460752303423488≤R) (hR2:R < 1152921504606846976) :
  (R % 34359738368=0∧R * R=n' * 1180591620717411303424) ∨ (511≤R % 34359738368∧R % 34359738368≤34359737856):=by
 obtain ⟨s1,s2⟩:=hs
 obtain ⟨h,hh⟩:∃ h:Nat,h=R / 34359738368:=⟨_,rfl⟩
 obtain ⟨d,hd⟩:∃ d:Nat,d=R % 34359738368:=⟨_,rfl⟩
 have hRe:R=h * 34359738368 + d:=by omega
 have hhb:h < 33554432:=by omega
 have hdb:d < 34359738368:=by omega
 rw [← hd]
 rcases Nat.lt_trichotomy n' (h * h) with hc | hc | hc
 ·exfalso
  have e:=sq_exp h d
  rw [← hRe] at e
  omega
 ·left
  have e:=sq_exp h d
  rw [← hRe] at e
  have hd0:d * d=0:=by omega
  have hd1:d=0:=by
   rcases Nat.eq_zero_or_pos d with h0 | h0
   ·exact h0
   ·have:=Nat.mul_pos h0 h0;omega
  refine ⟨hd1,?_⟩
  have hz:h * d=0:=by rw [hd1,Nat.mul_zero]
  omega
 ·right
  constructor
  ·rcases Nat.lt_or_ge d 511 with h1 | h1
   ·exfalso
    have h2:(R + 1) * (R + 1)≤(h * 34359738368 + 511) * (h * 34359738368 + 511):=Nat.mul_le_mul (by omega) (by omega)
    rw [sq_exp h 511] at h2
    omega
   ·exact h1
  ·rcases Nat.lt_or_ge 34359737856 d with h1 | h1
   ·exfalso
    obtain ⟨g,hg⟩:∃ g:Nat,g=h + 1:=⟨_,rfl⟩
    have h2:(g * 34359738368 + 0) * (g * 34359738368 + 0)≤(R + 511) * (R + 511):=Nat.mul_le_mul (by omega) (by omega)
    have h3:(R + 1) * (R + 1)≤(g * 34359738368 + 0) * (g * 34359738368 + 0):=Nat.mul_le_mul (by omega) (by omega)
    rw [sq_exp g 0] at h2 h3
    rw [Nat.mul_zero] at h2 h3
    have e:(R + 511) * (R + 511)=R * R + 1022 * R + 261121:=by
     rw [Nat.add_mul,Nat.mul_add,Nat.mul_add];omega
    rw [e] at h2
    generalize g * g=G at *
    omega
   ·exact h1
theorem rne_near (n d:Nat):n / 2 ^ d≤rne n d∧rne n d≤n / 2 ^ d + 1:=by
 unfold rne
 generalize n / 2 ^ d=q
 constructor <;> (split <;> (try split) <;> omega)
theorem rne_exact (q:Nat):rne (q * 256) 8=q:=by
 have:=rne_scale q 0 8
 rw [show (2:Nat) ^ 8=256 by decide,Nat.zero_add] at this
 rw [this,rne_zero]
theorem root_53 (n' R X:Nat) (s:Bool) (hs:SqrtOf (n' * 1180591620717411303424) R) (hR1:576460752303423488≤R) (hR2:R < 1152921504606846976)
  (hsb:s=decide (R * R ≠ n' * 1180591620717411303424)) (hX:X=2 * R + s.toNat) :
  1152921504606846976≤X∧X < 2305843009213693952∧4503599627370496≤rne X 8∧rne X 8 < 9007199254740992∧rne X 8 / 268435456=X / 68719476736∧(rne X 8 % 268435456=0 ↔ X % 68719476736=0):=by
 have hst:=Bool.toNat_le s
 rcases sqrt_gap n' R hs hR1 hR2 with ⟨h1,h2⟩ | ⟨h1,h2⟩
 ·have hs0:s=false:=by rw [hsb];exact decide_eq_false (fun h => h h2)
  rw [hs0] at hX
  have hX2:X=(R / 34359738368 * 268435456) * 256:=by
   have:(false:Bool).toNat=0:=rfl
   omega
  have hr:rne X 8=R / 34359738368 * 268435456:=by rw [hX2];exact rne_exact _
  rw [hr]
  omega
 ·have hn:=rne_near X 8
  rw [show (2:Nat) ^ 8=256 by decide] at hn
  generalize rne X 8=M at *
  generalize s.toNat=c at *
  clear hs hsb
  refine ⟨by omega,by omega,by omega,by omega,by omega,by omega⟩
theorem rung_x (X M:Nat) (e:Int) (hX1:1152921504606846976≤X) (hX2:X < 2305843009213693952) (hM:M=rne X 8) (hM1:4503599627370496≤M) (hM2:M < 9007199254740992) (he:-1000≤e) :
  rungOf double X (e - 1)=rungOf double M (e + 7):=by
 have l1:X.log2=60:=by rw [Nat.log2_eq_iff (by omega)];exact ⟨hX1,hX2⟩
 have l2:M.log2=52:=by rw [Nat.log2_eq_iff (by omega)];exact ⟨hM1,hM2⟩
 have p1:lastP double X (e - 1)=e + 7:=by
  unfold lastP;rw [l1]
  show max (e - 1 + ((60:Nat):Int) - ((52:Nat):Int)) (-1074)=_
  omega
 have p2:lastP double M (e + 7)=e + 7:=by
  unfold lastP;rw [l2]
  show max (e + 7 + ((52:Nat):Int) - ((52:Nat):Int)) (-1074)=_
  omega
 unfold rungOf
 rw [if_neg (by omega),if_neg (by omega),p1,p2]
 have r1:rneI X (e + 7 - (e - 1))=M:=by
  rw [show e + 7 - (e - 1)=8 by omega]
  unfold rneI;rw [if_pos (by decide)];exact hM.symm
 have r2:rneI M (e + 7 - (e + 7))=M:=by
  rw [show e + 7 - (e + 7)=0 by omega]
  unfold rneI;rw [if_pos (by decide)];exact rne_zero M
 rw [r1,r2]
theorem rung_lt (M:Nat) (e:Int) (hM1:4503599627370496≤M) (hM2:M < 9007199254740992) (h0:-170≤e) (h1:e≤30):rungOf single M e < 2139095040:=by
 have l2:M.log2=52:=by rw [Nat.log2_eq_iff (by omega)];exact ⟨hM1,hM2⟩
 have p2:lastP single M e=e + 29:=by
  unfold lastP;rw [l2]
  show max (e + ((52:Nat):Int) - ((23:Nat):Int)) (-149)=_
  omega
 unfold rungOf
 rw [if_neg (by omega),p2]
 have r:rneI M (e + 29 - e)≤16777217:=by
  rw [show e + 29 - e=29 by omega]
  unfold rneI;rw [if_pos (by decide)]
  have:=(rne_near M 29).2
  rw [show (2:Nat) ^ 29=536870912 by decide] at this
  show rne M 29≤16777217
  omega
 show min ((e + 29 - (-149)).toNat * 8388608 + rneI M (e + 29 - e)) 2139095040 < 2139095040
 have:(e + 29 - (-149)).toNat≤208:=by omega
 omega
theorem rung_jam2 (X M:Nat) (e:Int) (hX1:1152921504606846976≤X) (hM1:4503599627370496≤M) (hq:M / 268435456=X / 68719476736) (hz:M % 268435456=0 ↔ X % 68719476736=0) :
  rungOf single M (e + 7)=rungOf single X (e - 1):=by
 have j1:=rungOf_jam single M 28 (e + 7) (by show (2:Nat) ^ 24≤M / 268435456;have:(2:Nat) ^ 24=16777216:=(by decide);omega)
 have j2:=rungOf_jam single X 36 (e - 1) (by show (2:Nat) ^ 24≤X / 68719476736;have:(2:Nat) ^ 24=16777216:=(by decide);omega)
 rw [← j1,← j2]
 have:jam M 28=jam X 36:=by
  unfold jam
  rw [show (2:Nat) ^ 28=268435456 by decide,show (2:Nat) ^ 36=68719476736 by decide,hq]
  by_cases h:M % 268435456=0
  ·rw [if_pos h,if_pos (hz.1 h)]
  ·rw [if_neg h,if_neg (fun h2 => h (hz.2 h2))]
 rw [this,show e + 7 + ((28:Nat):Int) - 1=e - 1 + ((36:Nat):Int) - 1 by omega]
theorem root_twice (n' R:Nat) (e:Int) (hs:SqrtOf (n' * 1180591620717411303424) R) (hR1:576460752303423488≤R) (hR2:R < 1152921504606846976) (h0:-170≤e) (h1:e≤20) :
  floatToFloatBits .f64 (double.word false (rungS double (n' * 1180591620717411303424) R e)) .f32=some (single.word false (rungS single (n' * 1180591620717411303424) R e)):=by
 unfold rungS rungR
 obtain ⟨s,hsb⟩:∃ s:Bool,s=decide (R * R ≠ n' * 1180591620717411303424):=⟨_,rfl⟩
 rw [← hsb]
 obtain ⟨X,hX⟩:∃ X:Nat,X=2 * R + s.toNat:=⟨_,rfl⟩
 rw [← hX]
 obtain ⟨x1,x2,m1,m2,q,z⟩:=root_53 n' R X s hs hR1 hR2 hsb hX
 obtain ⟨M,hM⟩:∃ M:Nat,M=rne X 8:=⟨_,rfl⟩
 rw [← hM] at m1 m2 q z
 rw [rung_x X M e x1 x2 hM m1 m2 (by omega),← rung_jam2 X M e x1 m1 q z]
 have:=demote_num false M (e + 7) m2 (by omega) (by omega) (rung_lt M (e + 7) m1 m2 (by omega) (by omega))
 have w1:double.write (.number false M (e + 7))=double.word false (rungOf double M (e + 7)):=nearest_eq ..
 have w2:single.write (.number false M (e + 7))=single.word false (rungOf single M (e + 7)):=nearest_eq ..
 rw [w1,w2] at this
 exact this
end Go.Proofs.YtlhakbkdlgejpaaGreatDoor.Fl
namespace Go.Proofs.YtlhakbkdlgejpaaGreatDoor.Fl
open Go.RowKit
section
open Ieee
theorem write_zero (f:Format) (s:Bool) (e:Int):f.write (.number s 0 e)=f.word s 0:=by
 show f.nearest s 0 e=_
 rw [nearest_eq]
 have hz:rungOf f 0 e=0:=by unfold rungOf;rw [if_pos rfl]
 rw [hz]
theorem root_notNaN (k:Nat) (d r:Datum) (h:d.root k=some r):r.isNaN=false:=by
 cases d with
 | nan s t => cases h
 | infinity s => cases s <;> simp [Datum.root] at h;subst h;rfl
 | number s m e =>
  by_cases h0:m=0
  ·simp only [Datum.root,if_pos h0] at h;cases h;rfl
  ·cases s
   ·simp only [Datum.root,if_neg h0] at h;cases h;rfl
   ·simp only [Datum.root,if_neg h0] at h;cases h
theorem sqrt_fin {c:Nat} (hc:c < 2 * 2147483648) (h:kindOf 2139095040 (c % 2147483648)=2) (hs:¬ 2147483648≤c) :
  ∃ y r,double.sqrt (vS c)=some y∧single.sqrt c=some r∧floatToFloatBits .f64 y .f32=some r:=by
 have hk:=kind2.1 h
 obtain ⟨h1,h2,h3⟩:_∧_∧_:=by
  rcases (vS_read hc (by omega)).1 with h4 | h4
  ·exact h4
  ·omega
 have hm0:pm 23 (c % 2147483648) ≠ 0:=(rk2 fmt_single hc h).2
 have hm24:pm 23 (c % 2147483648) < 16777216:=pm_lt 23 _
 have he:=pe_eq 23 (-149) (c % 2147483648)
 have hq:c % 2147483648 / 2 ^ 23≤254:=by show c % 2147483648 / 8388608≤254;omega
 unfold Format.sqrt
 rw [h2,h3,decide_eq_false hs]
 generalize pm 23 (c % 2147483648)=m at *
 generalize pe 23 (-149) (c % 2147483648)=e at *
 generalize c % 2147483648 / 2 ^ 23=q at *
 have heb:-149≤e∧e≤104:=by omega
 have hlog:m.log2 < 24:=log2_lt_of hm0 (by omega)
 have hlo:=Nat.log2_self_le hm0
 have hhi:=@Nat.lt_log2_self m
 obtain ⟨L,hL⟩:∃ L:Nat,L=m.log2:=⟨_,rfl⟩
 rw [← hL] at hlog hlo hhi
 obtain ⟨K,hK1,hK2,hK3⟩:∃ K:Nat,(e - (K:Int)) % 2=0∧118 - L≤K∧K≤119 - L:=by
  by_cases hp:(e - ((118 - L:Nat):Int)) % 2=0
  ·exact ⟨118 - L,hp,by omega,by omega⟩
  ·exact ⟨119 - L,by omega,by omega,by omega⟩
 have hn1:2 ^ 118≤m * 2 ^ K:=by
  have a1:2 ^ L * 2 ^ (118 - L)≤m * 2 ^ K:=Nat.mul_le_mul hlo (Nat.pow_le_pow_right (by decide) hK2)
  rw [← Nat.pow_add,show L + (118 - L)=118 by omega] at a1
  exact a1
 have hn2:m * 2 ^ K < 2 ^ 120:=by
  have a1:m * 2 ^ K < 2 ^ (L + 1) * 2 ^ K:=Nat.mul_lt_mul_of_pos_right hhi (Nat.two_pow_pos K)
  rw [← Nat.pow_add] at a1
  exact Nat.lt_of_lt_of_le a1 (Nat.pow_le_pow_right (by decide) (by omega))
 obtain ⟨n',hn'⟩:∃ n':Nat,n'=m * 2 ^ (K - 70):=⟨_,rfl⟩
 have hnn:m * 2 ^ K=n' * 1180591620717411303424:=by
  rw [hn',show (1180591620717411303424:Nat)=2 ^ 70 by decide,Nat.mul_assoc,← Nat.pow_add,show K - 70 + 70=K by omega]
 obtain ⟨R,hR⟩:∃ R:Nat,SqrtOf (m * 2 ^ K) R:=⟨_,root_spec _⟩
 have hR1:2 ^ 59≤R:=sqrt_lo hR (by rw [show 2 * 59=118 by decide];exact hn1)
 have hR2:R < 2 ^ 60:=by
  rcases Nat.lt_or_ge R (2 ^ 60) with h5 | h5
  ·exact h5
  ·exfalso
   have h6:2 ^ 60 * 2 ^ 60≤R * R:=Nat.mul_le_mul h5 h5
   rw [← Nat.pow_add] at h6
   have:=hR.1
   exact absurd (Nat.lt_of_le_of_lt (Nat.le_trans h6 this) hn2) (Nat.lt_irrefl _)
 have hw:wideD false m e=.number false (m * 2 ^ (52 - L)) (e - ((52 - L:Nat):Int)):=by unfold wideD;rw [if_neg hm0,hL]
 have hmk:m * 2 ^ (52 - L) * 2 ^ (K - (52 - L))=m * 2 ^ K:=by rw [Nat.mul_assoc,← Nat.pow_add,show 52 - L + (K - (52 - L))=K by omega]
 have rs:=root_math (f:=single) m e hm0 hK1 hR (Nat.le_trans (Nat.pow_le_pow_right (by decide) (by decide)) hn1)
 have rd:=root_math (f:=double) (m * 2 ^ (52 - L)) (e - ((52 - L:Nat):Int)) (Nat.mul_ne_zero hm0 (by have:=Nat.two_pow_pos (52 - L);omega)) (K:=K - (52 - L)) (r:=R) (by omega) (by rw [hmk];exact hR) (by rw [hmk];exact Nat.le_trans (Nat.pow_le_pow_right (by decide) (by decide)) hn1)
 rw [hmk,show (e - ((52 - L:Nat):Int) - ((K - (52 - L):Nat):Int)) / 2=(e - (K:Int)) / 2 by omega] at rd
 rw [hw]
 refine ⟨_,_,rd,rs,?_⟩
 rw [hnn] at hR ⊢
 exact root_twice n' R _ hR hR1 hR2 (by omega) (by omega)
theorem sqrt_conv {c:Nat} (hc:c < 2 * 2147483648) (h:c % 2147483648≤2139095040) :
  (double.sqrt (vS c)=none∧single.sqrt c=none) ∨ (∃ y r,double.sqrt (vS c)=some y∧single.sqrt c=some r∧floatToFloatBits .f64 y .f32=some r):=by
 rcases kind_le h with hk | hk | hk
 ·right
  have h0:=kind1.1 hk
  refine ⟨double.word (decide (2147483648≤c)) 0,single.word (decide (2147483648≤c)) 0,?_,?_,?_⟩
  ·rcases (vS_read hc h).1 with ⟨_,h2,h3⟩ | ⟨h4,_⟩
   ·unfold Format.sqrt
    have hp:pm 23 (c % 2147483648)=0:=by rw [h0];decide
    rw [h2,hp]
    have:wideD (decide (2147483648≤c)) 0 (pe 23 (-149) (c % 2147483648))=.number (decide (2147483648≤c)) 0 (-1074):=by unfold wideD;rw [if_pos rfl]
    rw [this]
    show some (double.write (.number _ 0 (-1074)))=_
    rw [write_zero]
   ·omega
  ·unfold Format.sqrt
   rw [rk1 fmt_single hc hk]
   show some (single.write (.number _ 0 _))=_
   rw [write_zero]
  ·have:=demote_num (decide (2147483648≤c)) 0 0 (by decide) (by decide) (by decide) (by decide +kernel)
   rw [write_zero,write_zero] at this
   exact this
 ·by_cases hs:2147483648≤c
  ·left
   have hk2:=rk2 fmt_single hc hk
   refine ⟨?_,sqrt_neg fmt_single hc (.inl hk) hs⟩
   rcases (vS_read hc h).1 with ⟨_,h2,h3⟩ | ⟨h4,_⟩
   ·unfold Format.sqrt
    rw [h2,decide_eq_true hs]
    unfold wideD
    rw [if_neg hk2.2]
    have:¬ pm 23 (c % 2147483648) * 2 ^ (52 - (pm 23 (c % 2147483648)).log2)=0:=Nat.mul_ne_zero hk2.2 (by have:=Nat.two_pow_pos (52 - (pm 23 (c % 2147483648)).log2);omega)
    simp only [Datum.root,if_neg this];rfl
   ·have:=(kind2.1 hk).2;omega
  ·exact .inr (sqrt_fin hc hk hs)
 ·have hi:=(kind3 (by decide)).1 hk
  have h2:double.read (vS c)=.infinity (decide (2147483648≤c)):=by
   rcases (vS_read hc h).1 with ⟨h4,_⟩ | ⟨_,h2,_⟩
   ·omega
   ·exact h2
  by_cases hs:2147483648≤c
  ·left
   refine ⟨?_,sqrt_neg fmt_single hc (.inr hk) hs⟩
   unfold Format.sqrt;rw [h2,decide_eq_true hs];rfl
  ·right
   refine ⟨double.write (.infinity false),single.write (.infinity false),?_,?_,by decide +kernel⟩
   ·unfold Format.sqrt;rw [h2,decide_eq_false hs];rfl
   ·unfold Format.sqrt;rw [rk3 fmt_single hc hk,decide_eq_false hs];rfl
end
theorem ext70_num (v y:Nat) (h:Ieee.double.sqrt v=some y) (w:World):(callFunc 253 #[.float .f64 v]).run Tryz.prog w=.ok (.value (.float .f64 y)) w:=by
 have:=run_callFunc_extern (P:=Tryz.prog) (e:=Extern.MathSqrt.sqrt) Tryz.func253 (by kernel_rfl) (by kernel_rfl) (by kernel_rfl) (by kernel_rfl) #[.float .f64 v] w
 rw [this]
 have h':FloatKind.f64.format.sqrt v=some y:=h
 have:(Extern.MathSqrt.sqrt #[.float .f64 v])=(match FloatKind.f64.format.sqrt v with | some r => pure (.float .f64 r) | none => do pure (.float .f64 (← choose (.nanBits .f64 v v)))):=rfl
 rw [this,h'];rfl
theorem ext70_nan (v:Nat) (h:Ieee.double.sqrt v=none) (w:World):∃ N:Nat,(callFunc 253 #[.float .f64 v]).run Tryz.prog w=.ok (.value (.float .f64 N)) w.drew∧9218868437227405312 < N % 9223372036854775808:=by
 refine ⟨Question.cut (.nanBits .f64 v v) (w.tape w.drawn (.nanBits .f64 v v)),?_,drawn_64 _⟩
 have:=run_callFunc_extern (P:=Tryz.prog) (e:=Extern.MathSqrt.sqrt) Tryz.func253 (by kernel_rfl) (by kernel_rfl) (by kernel_rfl) (by kernel_rfl) #[.float .f64 v] w
 rw [this]
 have h':FloatKind.f64.format.sqrt v=none:=h
 have:(Extern.MathSqrt.sqrt #[.float .f64 v])=(match FloatKind.f64.format.sqrt v with | some r => pure (.float .f64 r) | none => do pure (.float .f64 (← choose (.nanBits .f64 v v)))):=rfl
 rw [this,h']
 simp [run_choose_drew,Question.forced]
theorem sqrt50_num (v y:Nat) (h:Ieee.double.sqrt v=some y) (w:World):Calls Tryz.prog 218 #[.float .f64 v] w fun e w' => e=.returned (.float .f64 y)∧w=w':=by
 have hx:∀ W:World,(callFunc 253 #[.float .f64 v]).run Tryz.prog W=.ok (.value (.float .f64 y)) W:=fun W => ext70_num v y h W
 clear h
 go_enter Tryz.func218,Tryz.ntmps218
 go_wp2
 go_ret
 exact ⟨rfl,rfl⟩
theorem sqrt50_nan (v:Nat) (h:Ieee.double.sqrt v=none) (w:World):Calls Tryz.prog 218 #[.float .f64 v] w fun e w' => ∃ N:Nat,e=.returned (.float .f64 N)∧9218868437227405312 < N % 9223372036854775808∧Below w.heap.size w w':=by
 obtain ⟨N,hx,hN⟩:=ext70_nan v h w
 have HN:=hid hN
 clear h hN
 go_enter Tryz.func218,Tryz.ntmps218
 go_wp2
 go_ret
 exact ⟨N,rfl,HN.out,(Below.refl _ _).drew⟩
set_option maxRecDepth 20000 in
set_option maxHeartbeats 3200000 in
theorem RUw_32_3_num (a c v y r:Nat) (hy:Ieee.double.sqrt v=some y) (hr:r < 2 * 2147483648∧r % 2147483648≤2139095040) (hyr:floatToFloatBits .f64 y .f32=some r)
  (HCA:∀ W,Hid (Calls Tryz.prog 216 #[.int .i64 32,.int .u64 (a:Int)] W fun e w' => e=.returned (.int .u64 (c:Int))∧W=w'))
  (HVA:∀ W,Hid (Calls Tryz.prog 215 #[.int .i64 32,.int .u64 (c:Int)] W fun e w' => e=.returned (.float .f64 v)∧Below W.heap.size W w')) (w:World) :
  Calls Tryz.prog 147 #[.int .i64 32,.int .i64 3,.int .u64 (a:Int)] w fun e w' => e=.returned (.tuple #[.int .u64 (r:Int),.int .i64 0])∧Below w.heap.size w w':=by
 have HS:=fun W => hid (sqrt50_num v y hy W)
 have hcv:∀ W:World,(convert 159 164 (.float .f64 y)).run Tryz.prog W=.ok (.float .f32 r) W:=fun W => conv_num64 y r hyr W
 have HB:=fun W => hid (BB_32 r hr.1 hr.2 W)
 clear hr hy hyr
 go_enter Tryz.func147,Tryz.ntmps147
 go_wp2_with (first
   | (go_at_call 216;((with_reducible refine (HCA _).out.mono ?_);rintro e w1 ⟨rfl,rfl⟩))
   | (go_at_call 217;((with_reducible refine (rsign_32 _).mono ?_);rintro e w3 ⟨rfl,rfl⟩))
   | (go_at_call 215;((with_reducible refine (HVA _).out.mono ?_);rintro e w1 ⟨rfl,hb1⟩))
   | (go_at_call 218;((with_reducible refine (HS _).out.mono ?_);rintro e w1 ⟨rfl,rfl⟩))
   | (go_at_call 223;((with_reducible refine (HB _).out.mono ?_);rintro e w3 ⟨rfl,rfl⟩)))
 go_ret2
 exact ⟨rfl,hb1⟩
set_option maxRecDepth 20000 in
set_option maxHeartbeats 3200000 in
theorem RUw_32_3_nan (a c:Nat) (V:Nat→Prop) (HN0:Hid (∀ v,V v→Ieee.double.sqrt v=none))
  (HCA:∀ W,Hid (Calls Tryz.prog 216 #[.int .i64 32,.int .u64 (a:Int)] W fun e w' => e=.returned (.int .u64 (c:Int))∧W=w'))
  (HVA:∀ W,Hid (Calls Tryz.prog 215 #[.int .i64 32,.int .u64 (c:Int)] W fun e w' => ∃ v:Nat,e=.returned (.float .f64 v)∧V v∧Below W.heap.size W w')) (w:World) :
  Calls Tryz.prog 147 #[.int .i64 32,.int .i64 3,.int .u64 (a:Int)] w fun e w' => e=.returned (.tuple #[.int .u64 2143289344,.int .i64 0])∧Below w.heap.size w w':=by
 have HB:=hid BB_32_nan
 have HSN:=hid (sqrt50_nan)
 go_enter Tryz.func147,Tryz.ntmps147
 go_wp2_with (first
   | (go_at_call 216;((with_reducible refine (HCA _).out.mono ?_);rintro e w1 ⟨rfl,rfl⟩))
   | (go_at_call 217;((with_reducible refine (rsign_32 _).mono ?_);rintro e w3 ⟨rfl,rfl⟩))
   | (go_at_call 215;((with_reducible refine (HVA _).out.mono ?_);rintro e w1 ⟨v,rfl,hv,hb1⟩;have HV:=hid (HN0.out v hv);clear hv))
   | (go_at_call 218;((with_reducible refine (HSN.out _ HV.out _).mono ?_);rintro e w2 ⟨N,rfl,hN,hb2⟩;obtain ⟨M,hcv,hM⟩:=conv_nan64 N hN w2;have HN:=hid hM;clear hN hM))
   | (go_at_call 223;((with_reducible refine (HB.out _ HN.out _).mono ?_);rintro e w3 ⟨rfl,rfl⟩)))
 go_ret2
 exact ⟨rfl,(bnext hb1 hb2).drew⟩
theorem RUn_32_3 (a:Nat) (ha:a < 18446744073709551616) (w:World) :
  Calls Tryz.prog 147 #[.int .i64 32,.int .i64 3,.int .u64 (a:Int)] w fun e w' => e=.returned (.tuple #[.int .u64 ((unW Ieee.single 2147483648 2139095040 2143289344 3 (a % 4294967296):Nat):Int),.int .i64 0])∧Below w.heap.size w w':=by
 have HCA:=fun W => hid (rcut_32 a  W)
 have hc:a % 4294967296 < 2 * 2147483648:=by omega
 generalize a % 4294967296=c at *
 have HV:∀ W,Hid (Calls Tryz.prog 215 #[.int .i64 32,.int .u64 (c:Int)] W (VPost 2147483648 2139095040 c W)):=fun W => hid (by have:=value_32 c W;rw [Nat.mod_eq_of_lt (show c < 4294967296 from hc)] at this;exact this)
 rw [show unW Ieee.single 2147483648 2139095040 2143289344 3 c=(Ieee.single.sqrt c).getD 2143289344 from rfl]
 by_cases hn:2139095040 < c % 2147483648
 ·rw [sqrt_nan fmt_single hn]
  refine RUw_32_3_nan a c (ValOf 2147483648 2139095040 c) (hid fun v h2 => ?_) HCA HV w
  rcases h2 with ⟨_,h⟩ | ⟨h,_⟩
  ·exact sqrt_nan fmt_double h
  ·exact absurd hn (by omega)
 ·have hvv:∀ v,ValOf 2147483648 2139095040 c v→v=(vS c):=fun v h2 => by
   rcases h2 with ⟨h,_⟩ | ⟨_,_,h5⟩
   ·exact absurd h hn
   ·rcases h5 with ⟨h7,_,h6⟩ | ⟨h7,_,h6⟩
    ·first | exact h6 | exact absurd h7 (by decide)
    ·first | exact h6 | exact absurd h7 (by decide)
  have hr:∀ r,Ieee.single.sqrt c=some r→r < 2 * 2147483648∧r % 2147483648≤2139095040:=fun r h => by
   unfold Ieee.Format.sqrt at h
   obtain ⟨D,hD,rfl⟩:=Option.map_eq_some_iff.1 h
   exact write_fin fmt_single D (root_notNaN _ _ _ hD)
  have HVA:∀ W,Hid (Calls Tryz.prog 215 #[.int .i64 32,.int .u64 (c:Int)] W fun e w' => e=.returned (.float .f64 (vS c))∧Below W.heap.size W w'):=fun W => hid ((HV W).out.mono fun e w' ⟨v,h1,h2,h3⟩ => ⟨by rw [h1,hvv v h2],h3⟩)
  rcases sqrt_conv hc (by omega) with ⟨h1,h2⟩ | ⟨y,r,h1,h2,h3⟩
  ·rw [h2]
   exact RUw_32_3_nan a c (ValOf 2147483648 2139095040 c) (hid fun v h4 => by rw [hvv v h4];exact h1) HCA HV w
  ·rw [h2]
   exact RUw_32_3_num a c (vS c) y r h1 (hr r h2) h3 HCA HVA w
set_option maxRecDepth 20000 in
set_option maxHeartbeats 3200000 in
theorem RUw_64_3_num (a c v y r:Nat) (hy:Ieee.double.sqrt v=some y) (hr:r < 2 * 9223372036854775808∧r % 9223372036854775808≤9218868437227405312) (hyr:y=r)
  (HCA:∀ W,Hid (Calls Tryz.prog 216 #[.int .i64 64,.int .u64 (a:Int)] W fun e w' => e=.returned (.int .u64 (c:Int))∧W=w'))
  (HVA:∀ W,Hid (Calls Tryz.prog 215 #[.int .i64 64,.int .u64 (c:Int)] W fun e w' => e=.returned (.float .f64 v)∧Below W.heap.size W w')) (w:World) :
  Calls Tryz.prog 147 #[.int .i64 64,.int .i64 3,.int .u64 (a:Int)] w fun e w' => e=.returned (.tuple #[.int .u64 (r:Int),.int .i64 0])∧Below w.heap.size w w':=by
 have HS:=fun W => hid (sqrt50_num v y hy W)
 subst hyr
 have HB:=fun W => hid (BB_64 y hr.1 hr.2 W)
 clear hr hy
 go_enter Tryz.func147,Tryz.ntmps147
 go_wp2_with (first
   | (go_at_call 216;((with_reducible refine (HCA _).out.mono ?_);rintro e w1 ⟨rfl,rfl⟩))
   | (go_at_call 217;((with_reducible refine (rsign_64 _).mono ?_);rintro e w3 ⟨rfl,rfl⟩))
   | (go_at_call 215;((with_reducible refine (HVA _).out.mono ?_);rintro e w1 ⟨rfl,hb1⟩))
   | (go_at_call 218;((with_reducible refine (HS _).out.mono ?_);rintro e w1 ⟨rfl,rfl⟩))
   | (go_at_call 224;((with_reducible refine (HB _).out.mono ?_);rintro e w3 ⟨rfl,rfl⟩)))
 go_ret2
 exact ⟨rfl,hb1⟩
set_option maxRecDepth 20000 in
set_option maxHeartbeats 3200000 in
theorem RUw_64_3_nan (a c:Nat) (V:Nat→Prop) (HN0:Hid (∀ v,V v→Ieee.double.sqrt v=none))
  (HCA:∀ W,Hid (Calls Tryz.prog 216 #[.int .i64 64,.int .u64 (a:Int)] W fun e w' => e=.returned (.int .u64 (c:Int))∧W=w'))
  (HVA:∀ W,Hid (Calls Tryz.prog 215 #[.int .i64 64,.int .u64 (c:Int)] W fun e w' => ∃ v:Nat,e=.returned (.float .f64 v)∧V v∧Below W.heap.size W w')) (w:World) :
  Calls Tryz.prog 147 #[.int .i64 64,.int .i64 3,.int .u64 (a:Int)] w fun e w' => e=.returned (.tuple #[.int .u64 9221120237041090560,.int .i64 0])∧Below w.heap.size w w':=by
 have HB:=hid BB_64_nan
 have HSN:=hid (sqrt50_nan)
 go_enter Tryz.func147,Tryz.ntmps147
 go_wp2_with (first
   | (go_at_call 216;((with_reducible refine (HCA _).out.mono ?_);rintro e w1 ⟨rfl,rfl⟩))
   | (go_at_call 217;((with_reducible refine (rsign_64 _).mono ?_);rintro e w3 ⟨rfl,rfl⟩))
   | (go_at_call 215;((with_reducible refine (HVA _).out.mono ?_);rintro e w1 ⟨v,rfl,hv,hb1⟩;have HV:=hid (HN0.out v hv);clear hv))
   | (go_at_call 218;((with_reducible refine (HSN.out _ HV.out _).mono ?_);rintro e w2 ⟨N,rfl,hN,hb2⟩;have HN:=hid hN;clear hN))
   | (go_at_call 224;((with_reducible refine (HB.out _ HN.out _).mono ?_);rintro e w3 ⟨rfl,rfl⟩)))
 go_ret2
 exact ⟨rfl,bnext hb1 hb2⟩
theorem RUn_64_3 (a:Nat) (ha:a < 18446744073709551616) (w:World) :
  Calls Tryz.prog 147 #[.int .i64 64,.int .i64 3,.int .u64 (a:Int)] w fun e w' => e=.returned (.tuple #[.int .u64 ((unW Ieee.double 9223372036854775808 9218868437227405312 9221120237041090560 3 (a % 18446744073709551616):Nat):Int),.int .i64 0])∧Below w.heap.size w w':=by
 have HCA:=fun W => hid (rcut_64 a ha W)
 have hc:a % 18446744073709551616 < 2 * 9223372036854775808:=by omega
 generalize a % 18446744073709551616=c at *
 have HV:∀ W,Hid (Calls Tryz.prog 215 #[.int .i64 64,.int .u64 (c:Int)] W (VPost 9223372036854775808 9218868437227405312 c W)):=fun W => hid (by exact value_64 c hc W)
 rw [show unW Ieee.double 9223372036854775808 9218868437227405312 9221120237041090560 3 c=(Ieee.double.sqrt c).getD 9221120237041090560 from rfl]
 by_cases hn:9218868437227405312 < c % 9223372036854775808
 ·rw [sqrt_nan fmt_double hn]
  refine RUw_64_3_nan a c (ValOf 9223372036854775808 9218868437227405312 c) (hid fun v h2 => ?_) HCA HV w
  rcases h2 with ⟨_,h⟩ | ⟨h,_⟩
  ·exact sqrt_nan fmt_double h
  ·exact absurd hn (by omega)
 ·have hvv:∀ v,ValOf 9223372036854775808 9218868437227405312 c v→v=c:=fun v h2 => by
   rcases h2 with ⟨h,_⟩ | ⟨_,_,h5⟩
   ·exact absurd h hn
   ·rcases h5 with ⟨h7,_,h6⟩ | ⟨h7,_,h6⟩
    ·first | exact h6 | exact absurd h7 (by decide)
    ·first | exact h6 | exact absurd h7 (by decide)
  have hr:∀ r,Ieee.double.sqrt c=some r→r < 2 * 9223372036854775808∧r % 9223372036854775808≤9218868437227405312:=fun r h => by
   unfold Ieee.Format.sqrt at h
   obtain ⟨D,hD,rfl⟩:=Option.map_eq_some_iff.1 h
   exact write_fin fmt_double D (root_notNaN _ _ _ hD)
  have HVA:∀ W,Hid (Calls Tryz.prog 215 #[.int .i64 64,.int .u64 (c:Int)] W fun e w' => e=.returned (.float .f64 c)∧Below W.heap.size W w'):=fun W => hid ((HV W).out.mono fun e w' ⟨v,h1,h2,h3⟩ => ⟨by rw [h1,hvv v h2],h3⟩)
  cases hs:Ieee.double.sqrt c with
  | none => exact RUw_64_3_nan a c (ValOf 9223372036854775808 9218868437227405312 c) (hid fun v h2 => by rw [hvv v h2];exact hs) HCA HV w
  | some y => exact RUw_64_3_num a c c y y hs (hr y hs) rfl HCA HVA w
end Go.Proofs.YtlhakbkdlgejpaaGreatDoor.Fl
