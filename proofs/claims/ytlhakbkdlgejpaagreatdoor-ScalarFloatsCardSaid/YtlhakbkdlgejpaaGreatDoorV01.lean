/-
  SBase, SFam, SEf, SDo, SRef1: merged, what the laws do not reach left out (each text says what it holds where it lies in wip). No condition.
-/
import Derived.Test.YtlhakbkdlgejpaaGreatDoorX04
import Derived.Test.YtlhakbkdlgejpaaGreatDoorX03
import Derived.Deep.DeepCutAuto
import Derived.Deep.RegionHeld3
import Derived.Test.YtlhakbkdlgejpaaGreatDoorX02
import Derived.Test.YtlhakbkdlgejpaaGreatDoorX01
set_option linter.unusedSimpArgs false
set_option linter.unusedVariables false
set_option maxRecDepth 100000
namespace Go.Proofs.YtlhakbkdlgejpaaGreatDoor.Sc
open Go.RowKit
def vv (t:Int) (lo hi:Nat) (nl:Bool):Value:=.agg #[.int .i64 t,.int .u64 lo,.int .u64 hi,.bool nl]
def CA (g:Nat) (cs:Array Value) (T:TypeId) (W:World):Prop:=W.heap[g]?=some (.cells cs T (0,0))
theorem CA.lt {g:Nat} {cs:Array Value} {T:TypeId} {W:World} (h:CA g cs T W):g < W.heap.size:=(Array.getElem?_eq_some_iff.1 h).1
theorem CA.new (w:World) (cs:Array Value) (T:TypeId):CA w.heap.size cs T (w.alloc (.cells cs T)):=by
 show (w.heap.push _)[w.heap.size]?=_
 simp
theorem CA.call {g:Nat} {cs:Array Value} {T:TypeId} {W W':World} (h:CA g cs T W) (hb:Below W.heap.size W W'):CA g cs T W':=by
 unfold CA at h ⊢
 rw [hb.block g (CA.lt h),h]
theorem CA.below {g B:Nat} {cs:Array Value} {T:TypeId} {W W':World} (h:CA g cs T W) (hb:Below B W W') (hg:g < B):CA g cs T W':=by
 unfold CA at h ⊢
 rw [hb.block g hg,h]
theorem CA.alloc {g:Nat} {cs:Array Value} {T:TypeId} {W:World} (h:CA g cs T W) (o:Obj):CA g cs T (W.alloc o):=h.call ((Below.refl _ _).alloc (Nat.le_refl _) o)
theorem CA.drew {g:Nat} {cs:Array Value} {T:TypeId} {W:World} (h:CA g cs T W):CA g cs T W.drew:=h
theorem CA.at {g k:Nat} {cs:Array Value} {T:TypeId} {W:World} {v:Value} (h:CA g cs T W) (hk:cs[k]?=some v):W.cell? ⟨g,k,none⟩=some v:=by
 unfold CA at h
 rw [World.cell?,h]
 simp [hk]
theorem CA.free {g:Nat} {cs:Array Value} {T:TypeId} {W:World} (h:CA g cs T W) (k:Nat):W.frozen? ⟨g,k,none⟩=false:=by
 unfold CA at h
 rw [World.frozen?,h]
 simp
theorem CA.set {g k:Nat} {cs:Array Value} {T:TypeId} {W:World} (h:CA g cs T W) (v:Value):CA g (cs.setIfInBounds k v) T (W.setCell ⟨g,k,none⟩ v):=by
 unfold CA at h ⊢
 rw [World.setCell,Array.getElem?_modify,if_pos rfl,h]
 rfl
theorem CA.far {g c o:Nat} {cs:Array Value} {T:TypeId} {W:World} (h:CA g cs T W) (hne:c ≠ g) (v:Value):CA g cs T (W.setCell ⟨c,o,none⟩ v):=by
 unfold CA at h ⊢
 rw [World.setCell,Array.getElem?_modify,if_neg hne,h]
theorem below_new {W W':World} {cs:Array Value} {T:TypeId} (hb:Below (W.alloc (.cells cs T)).heap.size (W.alloc (.cells cs T)) W'):CA W.heap.size cs T W'∧Below W.heap.size W W' :=
 ⟨(CA.new W cs T).call hb,((Below.refl _ _).alloc (Nat.le_refl _) _).trans (hb.mono (by simp))⟩
theorem size_al (w:World) (o:Obj):(w.alloc o).heap.size=w.heap.size + 1:=by simp
abbrev Av:=Int × Nat × Nat × Bool
def AR (w:World) (va:Value) (l:List Av):Prop :=
 ∃ g cap,va=.slice (some ⟨g,0,none⟩) l.length cap∧g < w.heap.size∧l.length≤cap∧∀ (j:Nat) (a:Av),l[j]?=some a →
  w.cell? ⟨g,j * 4,none⟩=some (.int .i64 a.1)∧w.cell? ⟨g,j * 4 + 1,none⟩=some (.int .u64 (a.2.1:Nat))∧w.cell? ⟨g,j * 4 + 2,none⟩=some (.int .u64 (a.2.2.1:Nat))∧w.cell? ⟨g,j * 4 + 3,none⟩=some (.bool a.2.2.2)
theorem AR.call {w w':World} {va:Value} {l:List Av} (h:AR w va l) (hb:Below w.heap.size w w'):AR w' va l:=by
 obtain ⟨g,cap,e,hl,hc,ha⟩:=h
 refine ⟨g,cap,e,Nat.lt_of_lt_of_le hl hb.size,hc,fun j a hj => ?_⟩
 obtain ⟨h0,h1,h2,h3⟩:=ha j a hj
 exact ⟨by rw [hb.cell (p:=⟨g,j * 4,none⟩) hl,h0],by rw [hb.cell (p:=⟨g,j * 4 + 1,none⟩) hl,h1],by rw [hb.cell (p:=⟨g,j * 4 + 2,none⟩) hl,h2],by rw [hb.cell (p:=⟨g,j * 4 + 3,none⟩) hl,h3]⟩
def avc (a:Av):List Value:=[.int .i64 a.1,.int .u64 (a.2.1:Nat),.int .u64 (a.2.2.1:Nat),.bool a.2.2.2]
theorem info24:(Tryz.prog.info? 24).map (fun i => (i.zero,i.size,i.bytes))=some (some (.agg #[.int .i64 0,.int .u64 0,.int .u64 0,.bool false]),4,32):=by kernel_rfl
theorem cell_four_new (w:World) (x0 x1 x2 x3:Value) (t:TypeId):∀ j u,[x0,x1,x2,x3][j]?=some u→(w.alloc (.cells #[x0,x1,x2,x3] t)).cell? ((⟨w.heap.size,0,none⟩:Addr).add j)=some u:=by
 intro j u hj
 have h:=CA.new w #[x0,x1,x2,x3] t
 have e:((⟨w.heap.size,0,none⟩:Addr).add j)=⟨w.heap.size,j,none⟩:=by (simp [Addr.add];try (intro h;exact h.symm))
 rw [e]
 exact h.at (by rw [List.getElem?_toArray];exact hj)
theorem append_val {w:World} {ops:Array Oper} {rest:List Oper} {o:Oper} {a:Act} {Q:Exit→Act→World→Prop} (hgd:o.guard=none) (s x:Operand)
  (ho:o.op=.call { callee:=.builtin .append,args:=#[s,x],argTypes:=#[30,30] }) (base:Nat) (v:Value) (n:Nat) (xs:List Value) (t lo hi:Int) (nl:Bool)
  (hown:w.ownsRow base 24 4 v n xs) (hbase:base≤w.heap.size) (hn:n + 1≤1000) (hs:a.eval s=v) (hx:a.eval x=.slice (some ⟨w.heap.size,0,none⟩) 1 1)
  (h:∀ v' w',w'.ownsRow base 24 4 v' (n + 1) (xs ++ [.int .i64 t,.int .u64 lo,.int .u64 hi,.bool nl])→Below base w w'→base≤w'.heap.size→wpList Tryz.prog ops Q rest (a.put o.dst v') w') :
  wpList Tryz.prog ops Q (o :: rest) a (w.alloc (.cells #[.int .i64 t,.int .u64 lo,.int .u64 hi,.bool nl] 24)):=by
 obtain ⟨i0,hi0,hz0,hz1,hz2⟩:=info_parts info24
 have hb1:=(Below.refl base w).alloc hbase (.cells #[.int .i64 t,.int .u64 lo,.int .u64 hi,.bool nl] 24)
 refine wpList_append_own _ hgd s x 30 ho base 24 i0 _ 4 32 Tryz.underlying30 hi0 hz0 hz1 hz2 rfl (by decide) v n xs hs (hown.alloc _) ⟨w.heap.size,0,none⟩ 1 1 [.int .i64 t,.int .u64 lo,.int .u64 hi,.bool nl] hx rfl (cell_four_new _ _ _ _ _ _)
  (fun u hu => by simp at hu;rcases hu with rfl | rfl | rfl | rfl <;> rfl) (by unfold maxLen;omega) (by omega) (by simp;omega) ?_
 intro v' w1 hown' hgrow _
 exact h v' w1 hown' (hb1.grown hgrow (by simp;omega) (fun k hk => (hown.lt k hk).1)) (by have:=hgrow.size;simp at this;omega)
theorem AR.of1 {w:World} {base:Nat} {v:Value} {a:Av} (h:w.ownsRow base 24 4 v 1 (avc a)):AR w v [a]:=by
 have h0:=h
 rcases h.2 with ⟨_,h2⟩ | ⟨g,cap,cur,rfl,e2,e3,e4,_⟩
 ·omega
 ·refine ⟨g,cap,rfl,(Array.getElem?_eq_some_iff.1 e3).1,e4,fun j b hj => ?_⟩
  cases j with
  | zero =>
   obtain rfl:a=b:=by simpa using hj
   exact ⟨h0.cellAt 0 (by decide),h0.cellAt 1 (by decide),h0.cellAt 2 (by decide),h0.cellAt 3 (by decide)⟩
  | succ j => simp at hj
theorem AR.of2 {w:World} {base:Nat} {v:Value} {a b:Av} (h:w.ownsRow base 24 4 v 2 (avc a ++ avc b)):AR w v [a,b]:=by
 have h0:=h
 rcases h.2 with ⟨_,h2⟩ | ⟨g,cap,cur,rfl,e2,e3,e4,_⟩
 ·omega
 ·refine ⟨g,cap,rfl,(Array.getElem?_eq_some_iff.1 e3).1,e4,fun j c hj => ?_⟩
  match j,hj with
  | 0,hj =>
   obtain rfl:a=c:=by simpa using hj
   exact ⟨h0.cellAt 0 (by decide),h0.cellAt 1 (by decide),h0.cellAt 2 (by decide),h0.cellAt 3 (by decide)⟩
  | 1,hj =>
   obtain rfl:b=c:=by simpa using hj
   exact ⟨h0.cellAt 4 (by decide),h0.cellAt 5 (by decide),h0.cellAt 6 (by decide),h0.cellAt 7 (by decide)⟩
  | j + 2,hj => simp at hj
theorem extract_str (l:List UInt8) (a n:Nat):((str l).extract a (a + n)).toList=(l.drop a).take n:=by
 rw [ByteArray.toList_eq,ByteArray.data_extract]
 simp only [str]
 rw [List.extract_toArray]
 show (l.extract a (a + n))=_
 rw [List.extract_eq_take_drop,Nat.add_sub_cancel_left]
theorem ext_list (l:List UInt8) (a b:Nat) (h:a≤b):((str l).extract a b).toList=(l.drop a).take (b - a):=by
 obtain ⟨n,rfl⟩:∃ n,b=a + n:=⟨b - a,by omega⟩
 rw [Nat.add_sub_cancel_left]
 exact extract_str l a n
theorem list_str (s:ByteArray):str s.toList=s:=by
 rw [ByteArray.toList_eq];rfl
theorem ext_str (l:List UInt8) (a b:Nat) (h:a≤b):(str l).extract a b=str ((l.drop a).take (b - a)):=by
 rw [← ext_list l a b h,list_str]
theorem cut_str (l:List UInt8) (m:Nat):(str l).extract 0 m=str (l.take m):=by
 rw [ext_str l 0 m (Nat.zero_le _),List.drop_zero,Nat.sub_zero]
def plL:List (List UInt8)→List UInt8→Nat→Int
 | [],_,_ => -1
 | x :: t,s,k => if (x == s)=true then (k:Int) else plL t s (k + 1)
theorem pl_drop (L:List (List UInt8)) (s:List UInt8):∀ k,k < L.length→plL (L.drop k) s k=if (L.getD k [] == s)=true then (k:Int) else plL (L.drop (k + 1)) s (k + 1):=fun k h => by
 rw [List.drop_eq_getElem_cons h,plL]
 simp [List.getD_eq_getElem?_getD,List.getElem?_eq_getElem h]
theorem sc_getD {L:List (List UInt8)} {k:Nat} (h:k < L.length):(sc L).toArray[k]?=some (.string (str (L.getD k []))):=by
 simp [sc,List.getElem?_eq_getElem h,List.getD_eq_getElem?_getD]
set_option maxHeartbeats 2000000 in
theorem index_says (v:List UInt8) (L:List (List UInt8)) (hL:L.length≤30) (g n:Nat) (hn:n=L.length) (w:World) (hA:CA g (sc L).toArray 9 w):Calls Tryz.prog 145 #[.string (str v),.slice (some ⟨g,0,none⟩) n n] w fun e w' => e=.returned (.int .i64 (plL L v 0))∧w=w':=by
 obtain ⟨s,hs⟩:∃ s,s=str v:=⟨_,rfl⟩
 have HS:=hid hs
 have HA:=hid hA
 have HP:=hid (pl_drop L v)
 rw [← hs]
 have HR:Hid (plL L v 0=plL (L.drop 0) v 0):=rfl
 generalize plL L v 0=r at *
 rw [← hn] at hL
 have HN:=hid hn
 clear hs hA hn
 go_enter Tryz.func145,Tryz.ntmps145
 go_wp2
 go_loop [5] (fun vi => ∃ k:Nat,k≤n∧vi=.int .i64 (k:Int)∧Hid (r=plL (L.drop k) v k)) (fun vi => n - (intOf vi).toNat)
 case atStart => exact ⟨0,Nat.zero_le _,rfl,HR⟩
 case round =>
  obtain ⟨k,hk,rfl,HK⟩:=hrel
  by_cases hlt:k < n
  ·have hkl:k < L.length:=by rw [← HN.out];exact hlt
   have hc:=HA.out.at (sc_getD hkl)
   have hp:=HP.out k hkl
   obtain ⟨t,ht⟩:∃ t,t=str (L.getD k []):=⟨_,rfl⟩
   rw [← ht] at hc
   have hq0:(t.toList == s.toList)=(L.getD k [] == v):=by rw [ht,HS.out,str_list,str_list]
   cases hb:(L.getD k [] == v) with
   | true =>
    have hq:(t.toList == s.toList)=true:=by rw [hq0,hb]
    have HE:=hid (HK.out.trans (hp.trans (if_pos hb)))
    clear hb hq0 hp ht
    go_wp2
    go_ret
    exact ⟨ret_int HE.out.symm,rfl⟩
   | false =>
    have hq:(t.toList == s.toList)=false:=by rw [hq0,hb]
    have HE:=hid (HK.out.trans (hp.trans (if_neg (by rw [hb];decide))))
    clear hb hq0 hp ht
    go_wp2
    go_round
    case rel => exact ⟨k + 1,hlt,by go_num,HE⟩
    case measure => simp [intOf];omega
  ·obtain rfl:k=n:=by omega
   have HE:Hid (r=-1):=by have:=HK.out;rw [List.drop_of_length_le (by rw [← HN.out];exact Nat.le_refl _)] at this;exact this
   go_wp2
   go_ret
   exact ⟨ret_int HE.out.symm,rfl⟩
theorem place_at (v:List UInt8) (L:List (List UInt8)) (hL:L.length≤30) (cs:Array Value) (hcs:cs=(sc L).toArray) (n:Nat) (hn:n=L.length) (k:Int) (hk:plL L v 0=k) :
  ∀ (W:World),Calls Tryz.prog 145 #[.string (str v),.slice (some ⟨W.heap.size,0,none⟩) n n] (W.alloc (.cells cs 9)) fun e w' => e=.returned (.int .i64 k)∧(W.alloc (.cells cs 9))=w':=fun W => by
 subst hcs
 rw [← hk]
 exact index_says v L hL _ n hn _ (CA.new W _ 9)
end Go.Proofs.YtlhakbkdlgejpaaGreatDoor.Sc
namespace Go.Proofs.YtlhakbkdlgejpaaGreatDoor.Sc
open Go.RowKit
structure GlobF (w:World):Prop where
 g:Glob w
 c6:∀ j,j < 7→w.cell? ⟨2,j,none⟩=some (.int .i64 (glob6.getD j 0))
theorem GlobF.next {w w':World} (h:GlobF w) (hb:Below w.heap.size w w'):GlobF w' where
 g:=h.g.next hb
 c6 j hj:=by rw [hb.cell (p:=⟨2,j,none⟩) (Nat.lt_of_lt_of_le (show 2 < 6 by decide) h.g.size),h.c6 j hj]
def Ans (f:FuncId) (args:Array Value) (r:Value):Prop:=∀ W:World,Calls Tryz.prog f args W fun e w' => e=.returned r∧Below W.heap.size W w'
def AnsG (f:FuncId) (args:Array Value) (r:Value):Prop:=∀ W:World,GlobF W→Calls Tryz.prog f args W fun e w' => e=.returned r∧Below W.heap.size W w'
theorem Ans.g {f:FuncId} {args:Array Value} {r:Value} (h:Ans f args r):AnsG f args r:=fun W _ => h W
def cutT (t:Int) (n:Nat):Nat:=if t=127 ∨ t=125 then n % 4294967296 else n
theorem cut_says (t:Int) (n:Nat) (w:World):Calls Tryz.prog 49 #[.int .i64 t,.int .u64 n] w fun e w' => e=.returned (.int .u64 (cutT t n:Nat))∧w=w':=by
 have hw:IntKind.u32.wrap (n:Int)=((n % 4294967296:Nat):Int):=by rw [IntKind.wrap_u32];omega
 have hw2:IntKind.u64.wrap ((n % 4294967296:Nat):Int)=((n % 4294967296:Nat):Int):=by rw [IntKind.wrap_u64];omega
 by_cases h1:t=127
 ·have hc:cutT t n=n % 4294967296:=by unfold cutT;rw [if_pos (.inl h1)]
  rw [hc]
  generalize n % 4294967296=m at *
  have d:(t == 127)=true:=by simpa using h1
  clear h1 hc
  go_enter Tryz.func49,Tryz.ntmps49
  go_wp2
  go_ret
  exact ⟨rfl,rfl⟩
 ·have d:(t == 127)=false:=by simpa using h1
  by_cases h2:t=125
  ·have hc:cutT t n=n % 4294967296:=by unfold cutT;rw [if_pos (.inr h2)]
   rw [hc]
   generalize n % 4294967296=m at *
   have d2:(t == 125)=true:=by simpa using h2
   clear h1 h2 hc
   go_enter Tryz.func49,Tryz.ntmps49
   go_wp2
   go_ret
   exact ⟨rfl,rfl⟩
  ·have hc:cutT t n=n:=by unfold cutT;rw [if_neg (by omega)]
   rw [hc]
   have d2:(t == 125)=false:=by simpa using h2
   clear h1 h2 hc hw hw2
   go_enter Tryz.func49,Tryz.ntmps49
   go_wp2
   go_ret
   exact ⟨rfl,rfl⟩
set_option maxHeartbeats 1000000 in
theorem com_b32 (op:Int) (q:Int) (hq:q=op - 105) (h0:106≤op) (h1:op < 121) (a b:Nat) (r:Int) (r2:Int) (HC:Ans 108 #[.int .i64 32,.int .i64 q,.int .u64 a,.int .u64 b] (.tuple #[.int .u64 r,.int .i64 r2])):Ans 85 #[.int .i64 op,.int .u64 a,.int .u64 b] (.tuple #[.int .u64 r,.int .i64 r2]):=fun w => by
 have HCC:=fun W => hid (HC W)
 have d0:decide (op < 106)=false:=by simp;omega
 have d1:decide (op < 121)=true:=by simp;omega
 obtain ⟨p,hp⟩:∃ p,p=1 + op:=⟨_,rfl⟩
 have e1:wrap64 (1 + op)=p:=by unfold wrap64;omega
 have e2:wrap64 (p - 106)=q:=by unfold wrap64;omega
 clear HC h0 h1 hq hp
 go_enter Tryz.func85,Tryz.ntmps85
 go_wp2_with (first
  | (go_at_call 108;(with_reducible refine (HCC _).out.mono ?_);rintro e w1 ⟨rfl,hb1⟩;have HB1:=hid hb1;clear hb1))
 go_ret2
 exact ⟨rfl,HB1.out⟩
set_option maxHeartbeats 1000000 in
theorem com_g32 (op:Int) (q:Int) (hq:q=op - 145) (h0:146≤op) (h1:op < 153) (a b:Nat) (r:Int) (r2:Int) (HC:Ans 111 #[.int .i64 32,.int .i64 q,.int .u64 a,.int .u64 b] (.tuple #[.int .u64 r,.int .i64 r2])):Ans 85 #[.int .i64 op,.int .u64 a,.int .u64 b] (.tuple #[.int .u64 r,.int .i64 r2]):=fun w => by
 have HCC:=fun W => hid (HC W)
 have d0:decide (op < 106)=false:=by simp;omega
 have d1:decide (op < 121)=false:=by simp;omega
 have d2:decide (op < 124)=false:=by simp;omega
 have d3:decide (op < 139)=false:=by simp;omega
 have d4:decide (op < 146)=false:=by simp;omega
 have d5:decide (op < 153)=true:=by simp;omega
 obtain ⟨p,hp⟩:∃ p,p=1 + op:=⟨_,rfl⟩
 have e1:wrap64 (1 + op)=p:=by unfold wrap64;omega
 have e2:wrap64 (p - 146)=q:=by unfold wrap64;omega
 clear HC h0 h1 hq hp
 go_enter Tryz.func85,Tryz.ntmps85
 go_wp2_with (first
  | (go_at_call 111;(with_reducible refine (HCC _).out.mono ?_);rintro e w1 ⟨rfl,hb1⟩;have HB1:=hid hb1;clear hb1))
 go_ret2
 exact ⟨rfl,HB1.out⟩
set_option maxHeartbeats 1000000 in
theorem com_g64 (op:Int) (q:Int) (hq:q=op - 159) (h0:160≤op) (h1:op < 167) (a b:Nat) (r:Int) (r2:Int) (HC:Ans 111 #[.int .i64 64,.int .i64 q,.int .u64 a,.int .u64 b] (.tuple #[.int .u64 r,.int .i64 r2])):Ans 85 #[.int .i64 op,.int .u64 a,.int .u64 b] (.tuple #[.int .u64 r,.int .i64 r2]):=fun w => by
 have HCC:=fun W => hid (HC W)
 have d0:decide (op < 106)=false:=by simp;omega
 have d1:decide (op < 121)=false:=by simp;omega
 have d2:decide (op < 124)=false:=by simp;omega
 have d3:decide (op < 139)=false:=by simp;omega
 have d4:decide (op < 146)=false:=by simp;omega
 have d5:decide (op < 153)=false:=by simp;omega
 have d6:decide (op < 160)=false:=by simp;omega
 obtain ⟨p,hp⟩:∃ p,p=1 + op:=⟨_,rfl⟩
 have e1:wrap64 (1 + op)=p:=by unfold wrap64;omega
 have e2:wrap64 (p - 160)=q:=by unfold wrap64;omega
 clear HC h0 h1 hq hp
 go_enter Tryz.func85,Tryz.ntmps85
 go_wp2_with (first
  | (go_at_call 111;(with_reducible refine (HCC _).out.mono ?_);rintro e w1 ⟨rfl,hb1⟩;have HB1:=hid hb1;clear hb1))
 go_ret2
 exact ⟨rfl,HB1.out⟩
set_option maxHeartbeats 1000000 in
theorem res_com (op:Int) (h0:103≤op) (h1:op < 167) (a b:Nat) (r:Int) (r2:Int) (HC:Ans 85 #[.int .i64 op,.int .u64 a,.int .u64 b] (.tuple #[.int .u64 r,.int .i64 r2])):Ans 50 #[.int .i64 op,.int .u64 a,.int .u64 b] (.tuple #[.int .u64 r,.int .i64 r2]):=fun w => by
 have HCC:=fun W => hid (HC W)
 have d0:decide (op < 103)=false:=by simp;omega
 have d1:decide (op < 167)=true:=by simp;omega
 clear HC h0 h1
 go_enter Tryz.func50,Tryz.ntmps50
 go_wp2_with (first
  | (go_at_call 85;(with_reducible refine (HCC _).out.mono ?_);rintro e w1 ⟨rfl,hb1⟩;have HB1:=hid hb1;clear hb1))
 go_ret2
 exact ⟨rfl,HB1.out⟩
set_option maxHeartbeats 1000000 in
theorem res_comG (op:Int) (h0:103≤op) (h1:op < 167) (a b:Nat) (r:Int) (r2:Int) (HC:AnsG 85 #[.int .i64 op,.int .u64 a,.int .u64 b] (.tuple #[.int .u64 r,.int .i64 r2])):AnsG 50 #[.int .i64 op,.int .u64 a,.int .u64 b] (.tuple #[.int .u64 r,.int .i64 r2]):=fun w hg => by
 have HCC:=fun W (h:GlobF W) => hid (HC W h)
 have HG:=hid hg
 have d0:decide (op < 103)=false:=by simp;omega
 have d1:decide (op < 167)=true:=by simp;omega
 clear HC h0 h1 hg
 go_enter Tryz.func50,Tryz.ntmps50
 go_wp2_with (first
  | (go_at_call 85;(with_reducible refine (HCC _ HG.out).out.mono ?_);rintro e w1 ⟨rfl,hb1⟩;have HB1:=hid hb1;clear hb1))
 go_ret2
 exact ⟨rfl,HB1.out⟩
set_option maxHeartbeats 1000000 in
theorem res_con (op:Int) (h0:167≤op) (h1:op < 192) (a b:Nat) (r:Int) (r2:Int) (HC:Ans 86 #[.int .i64 op,.int .u64 a] (.tuple #[.int .u64 r,.int .i64 r2])):Ans 50 #[.int .i64 op,.int .u64 a,.int .u64 b] (.tuple #[.int .u64 r,.int .i64 r2]):=fun w => by
 have HCC:=fun W => hid (HC W)
 have d0:decide (op < 103)=false:=by simp;omega
 have d1:decide (op < 167)=false:=by simp;omega
 have d2:decide (op < 192)=true:=by simp;omega
 clear HC h0 h1
 go_enter Tryz.func50,Tryz.ntmps50
 go_wp2_with (first
  | (go_at_call 86;(with_reducible refine (HCC _).out.mono ?_);rintro e w1 ⟨rfl,hb1⟩;have HB1:=hid hb1;clear hb1))
 go_ret2
 exact ⟨rfl,HB1.out⟩
end Go.Proofs.YtlhakbkdlgejpaaGreatDoor.Sc
namespace Go.Proofs.YtlhakbkdlgejpaaGreatDoor.Sc
open Go.RowKit
theorem cell_far {W:World} {c o g k:Nat} {v:Value} (h:c ≠ g):(W.setCell ⟨c,o,none⟩ v).cell? ⟨g,k,none⟩=W.cell? ⟨g,k,none⟩:=by
 unfold World.cell? World.setCell
 simp [Array.getElem?_modify,h]
theorem Num_says (op:Int) (hN:(69≤op∧op≤196) ∨ (64512≤op∧op≤64519)) (w:World):Calls Tryz.prog 24 #[.int .i64 op] w fun e w' => e=.returned (.bool true)∧w=w':=by
 have d0:decide (op < 64768)=true:=by simp;omega
 have d1:decide (69≤op)=true:=by simp;omega
 rcases hN with h | h
 ·have d2:decide (op≤196)=true:=by simp;omega
  clear h
  go_enter Tryz.func24,Tryz.ntmps24
  go_wp2
  go_ret
  exact ⟨rfl,rfl⟩
 ·have d2:decide (op≤196)=false:=by simp;omega
  have d3:decide (64512≤op)=true:=by simp;omega
  have d4:decide (op≤64519)=true:=by simp;omega
  clear h
  go_enter Tryz.func24,Tryz.ntmps24
  go_wp2
  go_ret
  exact ⟨rfl,rfl⟩
theorem hasType_says (t lo hi:Int) (nl:Bool) (w:World):Calls Tryz.prog 48 #[.agg #[.int .i64 t,.int .u64 lo,.int .u64 hi,.bool nl],.int .i64 t] w fun e w' => e=.returned (.bool true)∧Below w.heap.size w w':=by
 have d:(t == t)=true:=by simp
 go_enter Tryz.func48,Tryz.ntmps48
 go_wp2
 go_ret
 exact ⟨rfl,(Below.refl _ _).alloc (Nat.le_refl _) _⟩
theorem fn48:∀ args w,(callFunc 48 args).run Tryz.prog w=.ok (.enter 48 args) w:=fun _ _ => rfl
set_option maxHeartbeats 4000000 in
theorem EF_says (l:List Av) (hl1:1≤l.length) (hl:l.length≤10) (va:Value) (g2 c2:Nat) (w:World) (ha:AR w va l) (hg2:g2 < w.heap.size) (ht:∀ j a,l[j]?=some a→w.cell? ⟨g2,j,none⟩=some (.int .i64 a.1)) :
  Calls Tryz.prog 47 #[va,.slice (some ⟨g2,0,none⟩) l.length c2,.func (.func 48) #[] #[]] w fun e w' => e=.returned (.bool true)∧Below w.heap.size w w':=by
 obtain ⟨ga,ca,rfl,hga,hca,hata⟩:=ha
 have HA:=hid hata
 have HTC:=hid ht
 have eg:=fn48
 obtain ⟨n,hn⟩:∃ n,n=l.length:=⟨_,rfl⟩
 rw [← hn] at hca hl1 hl ⊢
 have HN:=hid hn
 have hnn:((n:Int) != (n:Int))=false:=by simp
 clear hata hn ht
 go_enter Tryz.func47,Tryz.ntmps47
 go_wp2
 go_loopw [17] (fun vi wr => ∃ i:Nat,i≤n∧vi=.int .i64 i∧Hid (Below w.heap.size w wr)) (fun vi _ => n - (intOf vi).toNat)
 case atStart => exact ⟨0,Nat.zero_le _,rfl,Below.refl _ _⟩
 case round =>
  obtain ⟨i,hin,rfl,HB⟩:=hrel
  by_cases hlt:i < n
  ·obtain ⟨⟨t,lo,hi,nl⟩,hja⟩:∃ a,l[i]?=some a:=⟨l[i]'(by rw [← HN.out];exact hlt),by simp [← HN.out,hlt]⟩
   obtain ⟨h0,h1,h2,h3⟩:=HA.out i _ hja
   have ht0:=HTC.out i _ hja
   have HT:=fun W => hid (hasType_says t (lo:Nat) (hi:Nat) nl W)
   have e0:=(HB.out.cell (p:=⟨ga,i * 4,none⟩) hga).trans h0
   have e1:=(HB.out.cell (p:=⟨ga,i * 4 + 1,none⟩) hga).trans h1
   have e2:=(HB.out.cell (p:=⟨ga,i * 4 + 2,none⟩) hga).trans h2
   have e3:=(HB.out.cell (p:=⟨ga,i * 4 + 3,none⟩) hga).trans h3
   have u0:=fun o => ((HB.out.alloc HB.out.size o).cell (p:=⟨g2,i,none⟩) hg2).trans ht0
   have hgr:ga < wr.heap.size:=Nat.lt_of_lt_of_le hga HB.out.size
   have hg2r:g2 < wr.heap.size:=Nat.lt_of_lt_of_le hg2 HB.out.size
   simp only [] at e0 e1 e2 e3 u0
   clear h0 h1 h2 h3 ht0 hja
   go_wp2_with (go_at_call 48;(with_reducible refine (HT _).out.mono ?_);rintro e w3 ⟨rfl,hb3⟩;have HB3:=hid ((HB.out.alloc HB.out.size (.cells #[.int .i64 t,.int .u64 (lo:Nat),.int .u64 (hi:Nat),.bool nl] 24)).trans (hb3.mono (by have:=HB.out.size;rw [size_al];omega)));clear hb3)
   go_roundw
   case rel => exact ⟨i + 1,by omega,by go_num,HB3.out⟩
   case measure => simp [intOf];omega
  ·obtain rfl:i=n:=by omega
   go_wp2
   go_ret
   exact ⟨rfl,HB.out⟩
end Go.Proofs.YtlhakbkdlgejpaaGreatDoor.Sc
namespace Go.Proofs.YtlhakbkdlgejpaaGreatDoor.Sc
open Go.RowKit
def opn (l:List Av) (j:Nat):Nat:=match l[j]? with | some a => cutT a.1 a.2.1 | none => 0
def sel (l:List Av) (i j:Nat):Nat:=if j < i then opn l j else 0
theorem sel_end (l:List Av) (j:Nat):sel l l.length j=opn l j:=by
 unfold sel
 split
 ·rfl
 ·rename_i h
  unfold opn
  rw [List.getElem?_eq_none (by omega)]
theorem sel_next (l:List Av) (i:Nat) (hi:i < 2) (a:Av) (h:l[i]?=some a):(#[.int .u64 (sel l i 0:Nat),.int .u64 (sel l i 1:Nat)]:Array Value).setIfInBounds i (.int .u64 (cutT a.1 a.2.1:Nat))=#[.int .u64 (sel l (i + 1) 0:Nat),.int .u64 (sel l (i + 1) 1:Nat)]:=by
 have e:opn l i=cutT a.1 a.2.1:=by unfold opn;rw [h]
 rcases (show i=0 ∨ i=1 by omega) with rfl | rfl
 ·simp [sel,← e]
 ·simp [sel,← e]
def doV (t:Int) (x:Nat) (e:Nat):Value:=if e=0 then vv t (cutT t x) 0 false else vv 0 0 0 false
set_option maxHeartbeats 8000000 in
theorem SDo_says (op:Int) (hN:(69≤op∧op≤196) ∨ (64512≤op∧op≤64519)) (l:List Av) (hl1:1≤l.length) (hl2:l.length≤2) (hla:laL op=l.map (·.1)) (t:Int) (hlb:lbL op=[t])
  (va:Value) (w:World) (hg:GlobF w) (ha:AR w va l) (x:Nat) (e2:Nat) (HR:AnsG 50 #[.int .i64 op,.int .u64 (opn l 0:Nat),.int .u64 (opn l 1:Nat)] (.tuple #[.int .u64 x,.int .i64 e2])) :
  Calls Tryz.prog 26 #[.int .i64 op,.slice none 0 0,va] w fun e w' => e=.returned (.tuple #[doV t x e2,.int .i64 e2])∧Below w.heap.size w w':=by
 have HN:=fun W => hid (Num_says op hN W)
 have HSG:=fun W (h:GlobF W) => hid (Sign_any op W h.g)
 rw [hla,hlb] at HSG
 have hlm:(l.map (·.1)).length=l.length:=List.length_map _
 have HRR:=fun W h => hid (HR W h)
 have HCX:=fun W => hid (cut_says t x W)
 have HCUT:∀ (j:Nat) (a:Av),l[j]?=some a→∀ W,Hid (Calls Tryz.prog 49 #[.int .i64 a.1,.int .u64 a.2.1] W fun e w' => e=.returned (.int .u64 (cutT a.1 a.2.1:Nat))∧W=w'):=fun j a hj W => cut_says a.1 a.2.1 W
 have HGL:=hid hg
 have HA:=hid ha
 have HSE:=hid (sel_end l)
 have HSN:=hid (sel_next l)
 have d0:decide (64768≤op)=false:=by simp;omega
 have HEF:∀ (g2 c2:Nat) (W:World),AR W va l→g2 < W.heap.size→(∀ j a,l[j]?=some a→W.cell? ⟨g2,j,none⟩=some (.int .i64 a.1))→Hid (Calls Tryz.prog 47 #[va,.slice (some ⟨g2,0,none⟩) l.length c2,.func (.func 48) #[] #[]] W fun e w' => e=.returned (.bool true)∧Below W.heap.size W w'):=fun g2 c2 W h1 h2 h3 => EF_says l hl1 (by omega) va g2 c2 W h1 h2 h3
 generalize fxB (lineL op)=fx at *
 obtain ⟨n,hn⟩:∃ n,n=l.length:=⟨_,rfl⟩
 rw [← hn] at hl1 hl2 hlm HEF HSE
 have HNN:=hid hn
 have HD0:Hid (doV t x 0=vv t (cutT t x) 0 false):=rfl
 have HDE:Hid (e2 ≠ 0→doV t x e2=vv 0 0 0 false):=fun h => if_neg h
 unfold vv at HD0 HDE
 obtain ⟨CT,hCT⟩:∃ c,c=cutT t x:=⟨_,rfl⟩
 rw [← hCT] at HCX HD0
 clear hN hla hlb HR ha hg hn hCT
 go_enter Tryz.func26,Tryz.ntmps26
 go_upto_region 6 with (first
  | (go_at_call 24;refine (HN _).out.mono ?_;rintro e w1 ⟨rfl,rfl⟩)
  | (go_at_call 33;refine (HSG _ (HGL.out.next ((Below.refl _ w).alloc (Nat.le_refl _) _))).out.mono ?_;rintro e w2 ⟨v1,v2,B2,rfl,ho1,ho2,hB2,hsep,hb⟩;have HL1:=hid ho1;have HL2:=hid ho2;have HR2:=hid (below_new hb);have HBB:=hid hB2;clear hb hB2 hsep ho1 ho2))
 obtain ⟨gs,cs,rfl⟩:∃ g cap,v1=.slice (some ⟨g,0,none⟩) (l.map (·.1)).length cap:=owned_at HL1.out (by rw [hlm];exact hl1)
 obtain ⟨gt,ct,rfl⟩:∃ g cap,v2=.slice (some ⟨g,0,none⟩) 1 cap:=owned_at HL2.out (Nat.le_refl _)
 rw [hlm]
 have k0:w2.cell? ⟨gt,0,none⟩=some (.int .i64 t):=HL2.out.cellAt 0 (by decide)
 have hgt:gt < w2.heap.size:=(HL2.out.lt gt rfl).2
 have hgs:gs < w2.heap.size:=(HL1.out.lt gs rfl).2
 have hne:w.heap.size ≠ gt:=by
  have h1:=(HL2.out.lt gt rfl).1
  have h2:=HBB.out
  rw [size_al] at h2
  omega
 have HTC:∀ j a,l[j]?=some a→w2.cell? ⟨gs,j,none⟩=some (.int .i64 a.1):=fun j a hj => by
  have hjl:j < l.length:=(List.getElem?_eq_some_iff.1 hj).1
  rw [HL1.out.cellAt j (by rw [List.length_map];omega)]
  simp [ic,hj]
 have HEF2:=HEF gs cs w2 (HA.out.call HR2.out.2) hgs HTC
 clear HEF HTC HL1 HL2
 go_upto_region 8 with (go_at_call 47;(with_reducible refine HEF2.out.mono ?_);rintro e w3 ⟨rfl,hb3⟩;have HB3:=hid hb3;clear hb3)
 have k3:w3.cell? ⟨gt,0,none⟩=some (.int .i64 t):=(HB3.out.cell (p:=⟨gt,0,none⟩) hgt).trans k0
 have hgt3:gt < w3.heap.size:=Nat.lt_of_lt_of_le hgt HB3.out.size
 have HRS:Hid (CA w.heap.size #[.int .i64 0,.int .u64 0,.int .u64 0,.bool false] 24 w3):=HR2.out.1.call HB3.out
 have HBW:Hid (Below w.heap.size w w3):=HR2.out.2.trans (HB3.out.mono HR2.out.2.size)
 have HA3:=hid (HA.out.call HBW.out)
 clear HR2 HB3 HEF2 k0 hgs HSG HN HA
 obtain ⟨ga,ca,rfl,hga,hca,hata⟩:=HA3.out
 have HAT:=hid hata
 rw [← HNN.out] at hca ⊢
 clear hata HA3
 go_upto_region 9 with fail
 have HST:Hid (Below w3.heap.size w3 (w3.alloc (.cells #[.int .u64 0,.int .u64 0] 65))∧CA w3.heap.size #[.int .u64 (sel l 0 0:Nat),.int .u64 (sel l 0 1:Nat)] 65 (w3.alloc (.cells #[.int .u64 0,.int .u64 0] 65))):=⟨(Below.refl _ _).alloc (Nat.le_refl _) _,CA.new w3 _ 65⟩
 generalize w3.alloc (.cells #[.int .u64 0,.int .u64 0] 65)=w4 at *
 go_wp2
 go_loopw [46] (fun vi wr => ∃ i:Nat,i≤n∧vi=.int .i64 i∧Hid (Below w3.heap.size w3 wr∧CA w3.heap.size #[.int .u64 (sel l i 0:Nat),.int .u64 (sel l i 1:Nat)] 65 wr)) (fun vi _ => n - (intOf vi).toNat)
 case atStart => exact ⟨0,Nat.zero_le _,rfl,HST⟩
 case round =>
  obtain ⟨i,hin,rfl,HB⟩:=hrel
  by_cases hlt:i < n
  ·obtain ⟨a,hja⟩:∃ a,l[i]?=some a:=⟨l[i]'(by rw [← HNN.out];exact hlt),by simp [← HNN.out,hlt]⟩
   obtain ⟨h0,h1,h2,h3⟩:=HAT.out i _ hja
   have HCC:=HCUT i a hja
   have HNX:=hid (HSN.out i (by omega) a hja)
   have e0:=(HB.out.1.cell (p:=⟨ga,i * 4,none⟩) hga).trans h0
   have e1:=(HB.out.1.cell (p:=⟨ga,i * 4 + 1,none⟩) hga).trans h1
   have e2':=(HB.out.1.cell (p:=⟨ga,i * 4 + 2,none⟩) hga).trans h2
   have e3:=(HB.out.1.cell (p:=⟨ga,i * 4 + 3,none⟩) hga).trans h3
   have hga3:ga < wr.heap.size:=Nat.lt_of_lt_of_le hga HB.out.1.size
   have hgg:w3.heap.size < wr.heap.size:=HB.out.2.lt
   obtain ⟨t1,lo1,hi1,nl1⟩:=a
   simp only [] at e0 e1 e2' e3 HCC HNX
   obtain ⟨y,hy⟩:∃ y,y=cutT t1 lo1:=⟨_,rfl⟩
   rw [← hy] at HCC HNX
   clear hy
   have hi2:i < 2:=by omega
   have c0:=fun o => (HB.out.2.alloc o).at (k:=i) (v:=.int .u64 (sel l i i:Nat)) (by rcases (show i=0 ∨ i=1 by omega) with rfl | rfl <;> rfl)
   have f0:=fun o => (HB.out.2.alloc o).free i
   clear h0 h1 h2 h3 hja
   go_wp2_with (go_at_call 49;(with_reducible refine (HCC _).out.mono ?_);rintro e w5 ⟨rfl,rfl⟩)
   go_roundw
   case rel =>
    have hb1:=HB.out.1.setCell (p:=⟨w3.heap.size,i,none⟩) (Nat.le_refl _) (.int .u64 (y:Nat))
    have hc1:=HB.out.2.set (k:=i) (.int .u64 (y:Nat))
    rw [HNX.out] at hc1
    exact ⟨i + 1,hlt,by go_num,hb1.alloc hb1.size _,hc1.alloc _⟩
   case measure => simp [intOf];omega
  ·obtain rfl:i=n:=by omega
   have hc:=HB.out.2
   rw [HSE.out 0,HSE.out 1] at hc
   have c0:=hc.at (k:=0) (v:=.int .u64 (opn l 0:Nat)) rfl
   have c1:=hc.at (k:=1) (v:=.int .u64 (opn l 1:Nat)) rfl
   have hgt4:gt < wr.heap.size:=Nat.lt_of_lt_of_le hgt3 HB.out.1.size
   have k4:wr.cell? ⟨gt,0,none⟩=some (.int .i64 t):=(HB.out.1.cell (p:=⟨gt,0,none⟩) hgt3).trans k3
   have HRSr:=hid (HRS.out.call HB.out.1)
   have HBr:=hid (HBW.out.trans (HB.out.1.mono HBW.out.size))
   have HRW:=HRR wr (HGL.out.next HBr.out)
   clear hc HB HST HRS HBW k3
   go_upto_region 15 with (go_at_call 50;(with_reducible refine HRW.out.mono ?_);rintro e w5 ⟨rfl,hb5⟩;have HB5:=hid hb5;clear hb5)
   have k5:w5.cell? ⟨gt,0,none⟩=some (.int .i64 t):=(HB5.out.cell (p:=⟨gt,0,none⟩) hgt4).trans k4
   have hJ5:=HRSr.out.call HB5.out
   have hB5:=HBr.out.trans (HB5.out.mono HBr.out.size)
   clear HRSr HBr HB5 k4 c0 c1 HRW
   by_cases hez:e2=0
   ·subst hez
    have dz:(((0:Nat):Int) != 0)=false:=rfl
    go_upto_region 17 with fail
    have hS:Below w.heap.size w w5.drew∧w5.drew.cell? ⟨gt,0,none⟩=some (.int .i64 t):=⟨hB5.drew,k5⟩
    have HJW:CA w.heap.size #[.int .i64 0,.int .u64 0,.int .u64 0,.bool false] 24 w5.drew:=hJ5.drew
    clear k5 hJ5 hB5
    refine wp_region_held_drew (S:=fun W => Below w.heap.size w W∧W.cell? ⟨gt,0,none⟩=some (.int .i64 t)) (by kernel_rfl) hS (fun _ => ?_)
    generalize w5.drew=W at *
    refine zt 0 (.slice (some ⟨gt,0,none⟩) 1 ct) rfl ?_ ?_
    ·(intro W hSw;have x0:=hSw.2;go_simp;try (with_reducible rfl))
    try simp only [Act.put,sl2,sl0,sl1]
    refine zt 1 (.pointer (some ⟨gt,0,none⟩)) rfl ?_ ?_
    ·(intro W hSw;have x0:=hSw.2;go_simp;try (with_reducible rfl))
    try simp only [Act.put,sl2,sl0,sl1]
    refine zt 2 (.int .i64 t) rfl ?_ ?_
    ·(intro W hSw;have x0:=hSw.2;go_simp;try (with_reducible rfl))
    try simp only [Act.put,sl2,sl0,sl1]
    refine zt 3 (.slice (some ⟨gt,0,none⟩) 1 ct) rfl ?_ ?_
    ·(intro W hSw;have x0:=hSw.2;go_simp;try (with_reducible rfl))
    try simp only [Act.put,sl2,sl0,sl1]
    refine zt 4 (.pointer (some ⟨gt,0,none⟩)) rfl ?_ ?_
    ·(intro W hSw;have x0:=hSw.2;go_simp;try (with_reducible rfl))
    try simp only [Act.put,sl2,sl0,sl1]
    refine zt 5 (.int .i64 t) rfl ?_ ?_
    ·(intro W hSw;have x0:=hSw.2;go_simp;try (with_reducible rfl))
    try simp only [Act.put,sl2,sl0,sl1]
    refine zt 6 (.int .u64 x) rfl ?_ ?_
    ·(intro W hSw;have x0:=hSw.2;go_simp;try (with_reducible rfl))
    try simp only [Act.put,sl2,sl0,sl1]
    refine zr 7 rfl (fun K hK => ?_)
    go_simp
    go_at_call 49
    (with_reducible refine (HCX _).out.mono ?_)
    rintro e W1 ⟨rfl,rfl⟩
    refine hK.out _ _ hS (fun _ => ?_)
    clear hK K
    try simp only [Act.put,sl2,sl0,sl1]
    refine zt 8 (.agg #[.int .i64 t,.int .u64 (CT:Nat),.int .u64 0,.bool false]) rfl ?_ ?_
    ·(intro W hSw;have x0:=hSw.2;go_simp;try (with_reducible rfl))
    try simp only [Act.put,sl2,sl0,sl1]
    refine zr 9 rfl (fun K hK => ?_)
    have r0:=HJW.at (k:=0) (v:=.int .i64 0) rfl
    have r1:=HJW.at (k:=1) (v:=.int .u64 0) rfl
    have r2:=HJW.at (k:=2) (v:=.int .u64 0) rfl
    have r3:=HJW.at (k:=3) (v:=.bool false) rfl
    have f0:=HJW.free 0
    have f1:=HJW.free 1
    have f2:=HJW.free 2
    have f3:=HJW.free 3
    go_simp
    clear r0 r1 r2 r3 f0 f1 f2 f3
    have hS2:Below w.heap.size w ((((W.setCell ⟨w.heap.size,0,none⟩ (.int .i64 t)).setCell ⟨w.heap.size,1,none⟩ (.int .u64 (CT:Nat))).setCell ⟨w.heap.size,2,none⟩ (.int .u64 0)).setCell ⟨w.heap.size,3,none⟩ (.bool false))∧((((W.setCell ⟨w.heap.size,0,none⟩ (.int .i64 t)).setCell ⟨w.heap.size,1,none⟩ (.int .u64 (CT:Nat))).setCell ⟨w.heap.size,2,none⟩ (.int .u64 0)).setCell ⟨w.heap.size,3,none⟩ (.bool false)).cell? ⟨gt,0,none⟩=some (.int .i64 t):=And.intro ((((hS.1.setCell (p:=⟨w.heap.size,0,none⟩) (Nat.le_refl _) (.int .i64 t)).setCell (p:=⟨w.heap.size,1,none⟩) (Nat.le_refl _) (.int .u64 (CT:Nat))).setCell (p:=⟨w.heap.size,2,none⟩) (Nat.le_refl _) (.int .u64 0)).setCell (p:=⟨w.heap.size,3,none⟩) (Nat.le_refl _) (.bool false)) (by rw [cell_far hne,cell_far hne,cell_far hne,cell_far hne];exact hS.2)
    have HJ2:=(((HJW.set (k:=0) (.int .i64 t)).set (k:=1) (.int .u64 (CT:Nat))).set (k:=2) (.int .u64 0)).set (k:=3) (.bool false)
    clear hS HJW
    have hS:=hS2
    have HJW:=HJ2
    clear hS2 HJ2
    generalize (((W.setCell ⟨w.heap.size,0,none⟩ (.int .i64 t)).setCell ⟨w.heap.size,1,none⟩ (.int .u64 (CT:Nat))).setCell ⟨w.heap.size,2,none⟩ (.int .u64 0)).setCell ⟨w.heap.size,3,none⟩ (.bool false)=W3 at *
    refine hK.out _ _ hS (fun _ => ?_)
    clear hK K
    try simp only [Act.put,sl2,sl0,sl1]
    refine zt 10 (.int .i64 0) rfl ?_ ?_
    ·(intro W hSw;have x0:=hSw.2;go_simp;try (with_reducible rfl))
    try simp only [Act.put,sl2,sl0,sl1]
    refine wpAnyH_done (by kernel_rfl) ?_ _
    have r0:=HJW.at (k:=0) (v:=.int .i64 t) rfl
    have r1:=HJW.at (k:=1) (v:=.int .u64 (CT:Nat)) rfl
    have r2:=HJW.at (k:=2) (v:=.int .u64 0) rfl
    have r3:=HJW.at (k:=3) (v:=.bool false) rfl
    go_wp2_with fail
    exact bodyPost_ret (v:=.tuple #[.agg #[.int .i64 t,.int .u64 (CT:Nat),.int .u64 0,.bool false],.int .i64 0]) (by simp [results,Tryz.results26,go_sem,r0,r1,r2,r3]) rfl ⟨by rw [HD0.out];rfl,hS.1⟩
   ·have dz:((e2:Int) != 0)=true:=by simp;omega
    have r0:=hJ5.at (k:=0) (v:=.int .i64 0) rfl
    have r1:=hJ5.at (k:=1) (v:=.int .u64 0) rfl
    have r2:=hJ5.at (k:=2) (v:=.int .u64 0) rfl
    have r3:=hJ5.at (k:=3) (v:=.bool false) rfl
    have f0:=hJ5.free 0
    have f1:=hJ5.free 1
    have f2:=hJ5.free 2
    have f3:=hJ5.free 3
    clear k5
    go_wp2_with fail
    have hJ6:=(((hJ5.set (k:=0) (.int .i64 0)).set (k:=1) (.int .u64 0)).set (k:=2) (.int .u64 0)).set (k:=3) (.bool false)
    have hB6:=(((hB5.setCell (p:=⟨w.heap.size,0,none⟩) (Nat.le_refl _) (.int .i64 0)).setCell (p:=⟨w.heap.size,1,none⟩) (Nat.le_refl _) (.int .u64 0)).setCell (p:=⟨w.heap.size,2,none⟩) (Nat.le_refl _) (.int .u64 0)).setCell (p:=⟨w.heap.size,3,none⟩) (Nat.le_refl _) (.bool false)
    exact bodyPost_ret (v:=.tuple #[.agg #[.int .i64 0,.int .u64 0,.int .u64 0,.bool false],.int .i64 e2]) (by simp [results,Tryz.results26,go_sem,r0,r1,r2,r3]) rfl ⟨by rw [HDE.out hez];rfl,hB6⟩
end Go.Proofs.YtlhakbkdlgejpaaGreatDoor.Sc
namespace Go.Proofs.YtlhakbkdlgejpaaGreatDoor.Sc
open Go.RowKit
theorem one_says (b:Bool) (w:World):Calls Tryz.prog 142 #[.bool b] w fun e w' => e=.returned (.int .u64 ((if b then 1 else 0:Nat):Int))∧Below w.heap.size w w':=by
 cases b
 all_goals (go_enter Tryz.func142,Tryz.ntmps142;go_wp2;go_ret;exact ⟨rfl,Below.refl _ _⟩)
def bitsT (t:Int):Nat:=if t=127 ∨ t=125 then 32 else 64
theorem Bits_says (t:Int) (w:World):Calls Tryz.prog 92 #[.int .i64 t] w fun e w' => e=.returned (.int .i64 (bitsT t:Nat))∧w=w':=by
 by_cases h1:t=127
 ·have hb:bitsT t=32:=by unfold bitsT;rw [if_pos (.inl h1)]
  rw [hb]
  have d1:(t == 127)=true:=by simpa using h1
  clear h1 hb
  go_enter Tryz.func92,Tryz.ntmps92
  go_wp2
  go_ret
  exact ⟨rfl,rfl⟩
 ·have d1:(t == 127)=false:=by simpa using h1
  by_cases h2:t=125
  ·have hb:bitsT t=32:=by unfold bitsT;rw [if_pos (.inr h2)]
   rw [hb]
   have d2:(t == 125)=true:=by simpa using h2
   clear h1 h2 hb
   go_enter Tryz.func92,Tryz.ntmps92
   go_wp2
   go_ret
   exact ⟨rfl,rfl⟩
  ·have hb:bitsT t=64:=by unfold bitsT;rw [if_neg (by omega)]
   rw [hb]
   have d2:(t == 125)=false:=by simpa using h2
   clear h1 h2 hb
   go_enter Tryz.func92,Tryz.ntmps92
   go_wp2
   go_ret
   exact ⟨rfl,rfl⟩
set_option maxHeartbeats 2000000 in
theorem Clean_says (t:Int) (ht:t ≠ 123) (lo:Nat) (hi:Nat) (nl:Bool) (w:World):Calls Tryz.prog 90 #[.agg #[.int .i64 t,.int .u64 lo,.int .u64 hi,.bool nl]] w fun e w' => e=.returned (vv t (cutT t lo) 0 false)∧Below w.heap.size w w':=by
 have HC:∀ W:World,Hid (Calls Tryz.prog 81 #[.int .i64 32,.int .u64 lo] W fun e w' => e=.returned (.int .u64 ((lo % 2 ^ 32:Nat):Int))∧W=w'):=fun W => Cut_small 32 (by decide) lo W
 have hBF:∀ a b,Below w.heap.size w ((w.alloc a).alloc b):=fun a b => ((Below.refl _ w).alloc (Nat.le_refl _) a).alloc (by rw [size_al];omega) b
 have HBF:=hid hBF
 have d3:(t == 123)=false:=by simpa using ht
 unfold vv
 clear hBF
 by_cases h1:t=127 ∨ t=125
 ·have hc:cutT t lo=lo % 2 ^ 32:=by unfold cutT;rw [if_pos h1]
  obtain ⟨m,hm⟩:∃ m,m=lo % 2 ^ 32:=⟨_,rfl⟩
  rw [← hm] at HC
  rw [hc,← hm]
  have hd:∃ b1 b2,(t == 127)=b1∧(t == 125)=b2∧(b1=true ∨ b1=false∧b2=true):=by
   rcases h1 with h | h
   ·exact ⟨true,false,by simpa using h,by simp;omega,.inl rfl⟩
   ·exact ⟨false,true,by simp;omega,by simpa using h,.inr ⟨rfl,rfl⟩⟩
  obtain ⟨b1,b2,d1,d2,hb⟩:=hd
  clear h1 hc hm ht
  rcases hb with rfl | ⟨rfl,rfl⟩
  all_goals
   go_enter Tryz.func90,Tryz.ntmps90
   go_wp2
   go_region_with (go_at_call 81;(with_reducible refine (HC _).out.mono ?_);rintro e w3 ⟨rfl,rfl⟩)
  all_goals
   go_wp2
   exact bodyPost_ret (v:=.agg #[.int .i64 t,.int .u64 (m:Nat),.int .u64 0,.bool false]) (by simp [results,Tryz.results90,go_sem]) rfl ⟨rfl,by first | exact HBF.out _ _ | exact (HBF.out _ _).drew⟩
 ·have hc:cutT t lo=lo:=by unfold cutT;rw [if_neg h1]
  rw [hc]
  have d1:(t == 127)=false:=by simp;omega
  have d2:(t == 125)=false:=by simp;omega
  clear h1 hc ht HC
  go_enter Tryz.func90,Tryz.ntmps90
  go_wp2
  exact bodyPost_ret (v:=.agg #[.int .i64 t,.int .u64 (lo:Nat),.int .u64 0,.bool false]) (by simp [results,Tryz.results90,go_sem]) rfl ⟨rfl,HBF.out _ _⟩
set_option maxHeartbeats 2000000 in
theorem RNum_says (op:Int) (hN:(69≤op∧op≤196) ∨ (64512≤op∧op≤64519)) (ro:Int) (nm:List UInt8) (im:Int) (tk lv:List UInt8) (fx:Bool) (hr:ofL op=(ro,nm,im,tk,lv,fx)) (hro:0≤ro) (w:World):Calls Tryz.prog 89 #[.int .i64 op] w fun e w' => e=.returned (.bool true)∧Below w.heap.size w w':=by
 have HO:=fun W => hid (Of_says op W)
 rw [hr] at HO
 unfold rwV at HO
 have d0:decide (ro < 0)=false:=by simp;omega
 have d1:decide (69≤op)=true:=by simp;omega
 generalize str nm=s1 at *
 generalize str tk=s2 at *
 generalize str lv=s3 at *
 clear hr hro
 rcases hN with h | h
 ·have d2:decide (op≤196)=true:=by simp;omega
  clear h
  go_enter Tryz.func89,Tryz.ntmps89
  go_wp2_with (go_at_call 23;refine (HO _).out.mono ?_;rintro e w1 ⟨rfl,hb1⟩;have HB:=hid (hb1.alloc hb1.size (.cells #[.int .i64 ro,.string s1,.int .i64 im,.string s2,.string s3,.bool fx] 36));clear hb1)
  go_ret
  exact ⟨rfl,HB.out⟩
 ·have d2:decide (op≤196)=false:=by simp;omega
  have d3:decide (64512≤op)=true:=by simp;omega
  have d4:decide (op≤64519)=true:=by simp;omega
  clear h
  go_enter Tryz.func89,Tryz.ntmps89
  go_wp2_with (go_at_call 23;refine (HO _).out.mono ?_;rintro e w1 ⟨rfl,hb1⟩;have HB:=hid (hb1.alloc hb1.size (.cells #[.int .i64 ro,.string s1,.int .i64 im,.string s2,.string s3,.bool fx] 36));clear hb1)
  go_ret
  exact ⟨rfl,HB.out⟩
end Go.Proofs.YtlhakbkdlgejpaaGreatDoor.Sc
