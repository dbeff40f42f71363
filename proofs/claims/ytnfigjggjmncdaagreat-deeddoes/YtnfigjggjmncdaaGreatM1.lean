/- Contracts. -/
import Derived.Lib.BitFns
import Derived.Laws.Strings
import Derived.Test.YtnfigjggjmncdaaGreatRows
import Derived.WalkKit
import Derived.WalkSpells
import Derived.WalkLawsBesides
import Derived.Lib.Hide
import Derived.Laws.CopyOwn
import Derived.Laws.BytesArg
import Derived.Maps.AppendAt
import Derived.Deep.RegionHeld3
import Derived.OpenShut
import Derived.ProofKit
import Derived.SizedLaws
import Derived.Laws.IdiomStrings
import Derived.Deep.QuietTactic
import Derived.BigQuiet
import Derived.Lib.Zigzag
import Derived.Lib.AppendStr
import Derived.Laws.StructEq
import Derived.Shelf.SlSortCmp.QuietGrown
import Derived.Deep.Slices
import Derived.Deep.Strs
import Derived.ChangeSlices
import Derived.Lib.SmallJoins
import Derived.Laws.CopyRow
import Derived.Laws.OwnMore
import Derived.Laws.Strings2
import Derived.Shelf.GgSortFunc.RowK
set_option maxRecDepth 100000
set_option maxHeartbeats 4000000
abbrev LU:=List UInt8
abbrev OA:=Option Go.Addr
theorem Jh {p:Prop} (h:p):Go.RowKit.Hid p:=h
theorem Jn {n:Nat}:n<=n:=Nat.le_refl n
theorem Go.RowKit.Hid.o {p:Prop} (h:Go.RowKit.Hid p):p:=h
namespace Wire
def put (n:Nat):LU:=if n<128 then [UInt8.ofNat n] else UInt8.ofNat (n % 128+128)::put (n / 128)
termination_by n
theorem put_lo (n:Nat) (h:n<128):put n=[UInt8.ofNat n]:=by rw[put,if_pos h]
theorem put_hi (n:Nat) (h:128<=n):put n=UInt8.ofNat (n % 128+128)::put (n / 128):=by rw[put,if_neg (by omega)]
theorem put_pos (n:Nat):1<=(put n).length:=by
 by_cases h:n<128
 ·simp[put_lo n h]
 ·simp[put_hi n (by omega)]
theorem put_len:∀n,n<2 ^ 64->(put n).length=(Go.Lib.bitLen (n ||| 1)+6) / 7:=by
 intro n
 induction n using Nat.strongRecOn with
 | _ n ih=>
  intro hn
  by_cases h:n<128
  ·rw[put_lo n h]
   have:∀m:Fin 128,1=(Go.Lib.bitLen (m.val ||| 1)+6) / 7:=by decide +kernel
   exact this ⟨n,h⟩
  ·rw[put_hi n (by omega),List.length_cons,ih (n / 128) (by omega) (by omega)]
   have e1:∀m,128<=m->m<2 ^ 64->Go.Lib.bitLen (m ||| 1)=Go.Lib.bitLen m:=by
    intro m h1 h2
    have hb:m ||| 1<2 ^ 64:=Nat.or_lt_two_pow h2 (by decide)
    have hm:(m ||| 1) / 2=m / 2:=by
     have:=Nat.shiftRight_or_distrib (a:=m) (b:=1) (i:=1)
     simpa[Nat.shiftRight_eq_div_pow] using this
    rw[Go.Lib.bitLen_half (m ||| 1) (by have:=Nat.left_le_or (n:=m) (m:=1);omega) hb,hm,<-Go.Lib.bitLen_half m (by omega) h2]
   have e2:Go.Lib.bitLen n=7+Go.Lib.bitLen (n / 128):=Go.Lib.bitLen_shift 7 n (by omega) hn
   rw[e1 n (by omega) hn,e2]
   by_cases h2:n / 128<128
   ·have:∀m:Fin 128,0<m.val->(Go.Lib.bitLen (m.val ||| 1)+6) / 7+1=(7+Go.Lib.bitLen m.val+6) / 7:=by decide +kernel
    exact this ⟨n / 128,h2⟩ (by show 0<n / 128;omega)
   ·rw[e1 (n / 128) (by omega) (by omega)];omega
theorem put_len_le (n:Nat) (h:n<2 ^ 64):(put n).length<=10:=by
 rw[put_len n h]
 have:=Go.Lib.bitLen_le (n ||| 1) 64 (by decide) (Nat.or_lt_two_pow h (by decide))
 omega
def mayEnd (x p:Nat):Bool:=if p=9 then x == 1 else (x != 0 || p == 0)
def scan:Nat->Nat->Nat->LU->Nat × Nat × Nat
 | 0,_,_,_=>(0,0,3)
 | _+1,_,_,[]=>(0,0,2)
 | f+1,p,acc,x::r=>
  if 128<=x.toNat then scan f (p+1) (acc+x.toNat % 128*128 ^ p) r
  else if mayEnd x.toNat p then (acc+x.toNat*128 ^ p,p+1,0) else (0,0,3)
def num (bs:LU):Nat × Nat × Nat:=scan 10 0 0 bs
theorem scan_err:∀(f p acc:Nat) (bs:LU),(scan f p acc bs).2.2=0∨((scan f p acc bs).1=0/\(scan f p acc bs).2.1=0/\((scan f p acc bs).2.2=2∨(scan f p acc bs).2.2=3))
 | 0,_,_,_=>by simp[scan]
 | _+1,_,_,[]=>by simp[scan]
 | f+1,p,acc,x::r=>by
  rw[scan]
  split
  ·exact scan_err f (p+1) _ r
  ·split<;>simp
theorem scan_ok:∀(f p acc:Nat) (bs:LU),f+p=10->(scan f p acc bs).2.2=0 ->
  ∃m j,(scan f p acc bs).1=acc+m*128 ^ p/\(scan f p acc bs).2.1=p+j/\1<=j/\j<=bs.length/\put m=bs.take j/\(0<p->0<m)/\m<2 ^ (64-7*p)
 | 0,_,_,_=>by simp[scan]
 | _+1,_,_,[]=>by simp[scan]
 | f+1,p,acc,x::r=>by
  intro hf
  rw[scan]
  split
  ·rename_i hx
   intro he
   obtain⟨m,j,h1,h2,h3,h4,h5,h6,h7⟩:=scan_ok f (p+1) (acc+x.toNat % 128*128 ^ p) r (by omega) he
   have hm:=h6 (by omega)
   have hp:p<=8:=by
    rcases Nat.lt_or_ge p 9 with h|h
    ·omega
    ·obtain rfl:f=0:=by omega
     simp[scan] at he
   have hxl:=x.toNat_lt
   refine ⟨x.toNat % 128+128*m,j+1,?_,by rw[h2];omega,by omega,by simp;omega,?_,fun _=>by omega,?_⟩
   ·rw[h1,Nat.pow_succ,Nat.add_mul,Nat.add_assoc,Nat.mul_comm (128 ^ p) 128,<-Nat.mul_assoc,Nat.mul_comm m 128]
   ·rw[put_hi _ (by omega),show (x.toNat % 128+128*m) % 128+128=x.toNat by omega,show (x.toNat % 128+128*m) / 128=m by omega,h5]
    simp
   ·have e:64-7*p=(64-7*(p+1))+7:=by omega
    rw[e,Nat.pow_add]
    omega
  ·rename_i hx
   split
   ·rename_i hm
    intro _
    refine ⟨x.toNat,1,rfl,rfl,by omega,by simp,?_,?_,?_⟩
    ·rw[put_lo _ (by omega)];simp
    ·intro hp
     unfold mayEnd at hm
     by_cases h9:p=9
     ·simp[h9] at hm;omega
     ·simp[h9] at hm
      rcases Nat.eq_zero_or_pos x.toNat with h0|h0
      ·rcases hm with hm | hm
       ·exact absurd h0 hm
       ·omega
      ·exact h0
    ·unfold mayEnd at hm
     by_cases h9:p=9
     ·simp[h9] at hm
      subst h9;omega
     ·have:2 ^ 7<=2 ^ (64-7*p):=Nat.pow_le_pow_right (by decide) (by omega)
      omega
   ·simp
theorem scan_put:∀(f p acc m:Nat) (r:LU),f+p=10->m<2 ^ (64-7*p)->(0<p->0<m)->p<=9->scan f p acc (put m++r)=(acc+m*128 ^ p,p+(put m).length,0)
 | 0,_,_,_,_=>by omega
 | f+1,p,acc,m,r=>by
  intro hf hm h0 hp
  by_cases h:m<128
  ·rw[put_lo m h,List.singleton_append,scan]
   have hx:(UInt8.ofNat m).toNat=m:=by simp;omega
   rw[hx,if_neg (by omega),if_pos]
   ·simp
   ·unfold mayEnd
    by_cases h9:p=9
    ·subst h9
     have:=h0 (by omega)
     simp only[if_true,beq_iff_eq];omega
    ·rw[if_neg h9]
     rcases Nat.eq_zero_or_pos p with hp0|hp0
     ·simp[hp0]
     ·have:=h0 hp0
      simp;omega
  ·have hp8:p<=8:=by
    rcases Nat.lt_or_ge p 9 with h9|h9
    ·omega
    ·obtain rfl:p=9:=by omega
     simp at hm;omega
   rw[put_hi m (by omega),List.cons_append,scan]
   have hx:(UInt8.ofNat (m % 128+128)).toNat=m % 128+128:=by simp;omega
   rw[hx,if_pos (by omega),scan_put f (p+1) _ (m / 128) r (by omega) ?_ (fun _=>by omega) (by omega)]
   ·have:acc+(m % 128+128) % 128*128 ^ p+m / 128*128 ^ (p+1)=acc+m*128 ^ p:=by
     rw[Nat.pow_succ,Nat.mul_comm (128 ^ p) 128,<-Nat.mul_assoc,Nat.add_assoc,<-Nat.add_mul]
     congr 2;omega
    rw[this]
    simp;omega
   ·have e:64-7*p=(64-7*(p+1))+7:=by omega
    rw[e,Nat.pow_add] at hm
    omega
theorem num_put (m:Nat) (h:m<2 ^ 64) (r:LU):num (put m++r)=(m,(put m).length,0):=by
 have:=scan_put 10 0 0 m r rfl h (by omega) (by omega)
 simpa[num] using this
theorem num_ok (bs:LU) (h:(num bs).2.2=0):put (num bs).1=bs.take (num bs).2.1/\1<=(num bs).2.1/\(num bs).2.1<=bs.length/\(num bs).1<2 ^ 64:=by
 obtain⟨m,j,h1,h2,h3,h4,h5,_,h7⟩:=scan_ok 10 0 0 bs rfl h
 have e1:(num bs).1=m:=by simpa[num] using h1
 have e2:(num bs).2.1=j:=by simpa[num] using h2
 rw[e1,e2]
 exact⟨h5,h3,h4,by simpa using h7⟩
theorem num_bad (bs:LU) (h:(num bs).2.2≠0):(num bs).1=0/\(num bs).2.1=0/\((num bs).2.2=2∨(num bs).2.2=3):=by
 rcases scan_err 10 0 0 bs with h'|h'
 ·exact absurd h' h
 ·exact h'
theorem num_lt (bs:LU):(num bs).1<2 ^ 64:=by
 by_cases h:(num bs).2.2=0
 ·exact (num_ok bs h).2.2.2
 ·rw[(num_bad bs h).1];decide
theorem num_le (bs:LU):(num bs).2.1<=bs.length:=by
 by_cases h:(num bs).2.2=0
 ·exact (num_ok bs h).2.2.1
 ·rw[(num_bad bs h).2.1];omega
def zig (n:Int):Nat:=if n<0 then 2*(-1-n).toNat+1 else 2*n.toNat
def zag (n:Nat):Int:=if n % 2=1 then -1-((n / 2:Nat):Int) else ((n / 2:Nat):Int)
theorem zag_zig (n:Int):zag (zig n)=n:=by
 unfold zag zig
 by_cases h:n<0
 ·rw[if_pos h,if_pos (by omega)];omega
 ·rw[if_neg h,if_neg (by omega)];omega
theorem zig_zag (n:Nat):zig (zag n)=n:=by
 unfold zag zig
 by_cases h:n % 2=1
 ·rw[if_pos h,if_pos (by omega)];omega
 ·rw[if_neg h,if_neg (by omega)];omega
theorem zig_lt (n:Int) (h1:-9223372036854775808<=n) (h2:n<=9223372036854775807):zig n<2 ^ 64:=by
 unfold zig
 split<;>omega
theorem zag_bd (n:Nat) (h:n<2 ^ 64):-9223372036854775808<=zag n/\zag n<=9223372036854775807:=by
 unfold zag
 split<;>omega
def text (s:LU):LU:=put s.length++s
structure St where
 rest:LU
 err:Int
def St.fail (s:St) (e:Int):St:=if s.err=0/\e≠0 then ⟨[],e⟩ else s
def St.fine (s:St):Prop:=s.err≠0->s.rest=[]
def St.numS (s:St):St:=if (num s.rest).2.2=0 then ⟨s.rest.drop (num s.rest).2.1,s.err⟩ else s.fail (num s.rest).2.2
def St.numV (s:St):Nat:=(num s.rest).1
def St.over (s:St) (most:Int):Bool:=most<0 || most<(s.numV:Int)
def St.uptoS (s:St) (most:Int):St:=if s.over most then s.numS.fail 4 else s.numS
def St.uptoV (s:St) (most:Int):Nat:=if s.over most then 0 else s.numV
def St.textS (s:St) (most:Int):St:=
 if (s.uptoS most).rest.length<s.uptoV most then (s.uptoS most).fail 2 else ⟨(s.uptoS most).rest.drop (s.uptoV most),(s.uptoS most).err⟩
def St.textV (s:St) (most:Int):LU:=
 if (s.uptoS most).rest.length<s.uptoV most then [] else (s.uptoS most).rest.take (s.uptoV most)
def St.endE (s:St):Int:=if s.err=0/\0<s.rest.length then 5 else s.err
theorem St.text_or (b:LU) (m:Int):
  (((St.mk b 0).textS m).err≠0/\((St.mk b 0).textS m).rest=[]/\(St.mk b 0).textV m=[]) ∨
  (∃j,j<=b.length/\(St.mk b 0).textS m=⟨b.drop j,0⟩/\text ((St.mk b 0).textV m)=b.take j/\(num b).2.2=0):=by
 by_cases he:(num b).2.2=0
 ·have hS:(St.mk b 0).numS=⟨b.drop (num b).2.1,0⟩:=by unfold St.numS;simp only;rw[if_pos he]
  have hV:(St.mk b 0).numV=(num b).1:=rfl
  obtain⟨h1,h2,h3,h4⟩:=num_ok b he
  cases ho:(St.mk b 0).over m with
  | true=>
   left
   have e1:(St.mk b 0).uptoS m=⟨[],4⟩:=by unfold St.uptoS;rw[if_pos ho,hS];rfl
   have e2:(St.mk b 0).uptoV m=0:=by unfold St.uptoV;rw[if_pos ho]
   refine ⟨?_,?_,?_⟩
   ·unfold St.textS;rw[e1,e2];simp
   ·unfold St.textS;rw[e1,e2];simp
   ·unfold St.textV;rw[e1,e2];simp
  | false=>
   have e1:(St.mk b 0).uptoS m=⟨b.drop (num b).2.1,0⟩:=by unfold St.uptoS;rw[if_neg (by rw[ho];simp),hS]
   have e2:(St.mk b 0).uptoV m=(num b).1:=by unfold St.uptoV;rw[if_neg (by rw[ho];simp),hV]
   by_cases hl:(b.drop (num b).2.1).length<(num b).1
   ·left
    refine ⟨?_,?_,?_⟩
    ·unfold St.textS;rw[e1,e2,if_pos hl];simp[St.fail]
    ·unfold St.textS;rw[e1,e2,if_pos hl];simp[St.fail]
    ·unfold St.textV;rw[e1,e2,if_pos hl]
   ·right
    rw[List.length_drop] at hl
    refine ⟨(num b).2.1+(num b).1,by omega,?_,?_,he⟩
    ·unfold St.textS;rw[e1,e2,if_neg (by rw[List.length_drop];exact hl)];simp[List.drop_drop]
    ·have e3:(St.mk b 0).textV m=(b.drop (num b).2.1).take (num b).1:=by unfold St.textV;rw[e1,e2,if_neg (by rw[List.length_drop];exact hl)]
     have e4:((b.drop (num b).2.1).take (num b).1).length=(num b).1:=by rw[List.length_take,List.length_drop];omega
     rw[e3,text,e4,h1,<-List.take_add]
 ·left
  obtain⟨b1,b2,b3⟩:=num_bad b he
  have hS:(St.mk b 0).numS=⟨[],((num b).2.2:Nat)⟩:=by
   unfold St.numS;simp only;rw[if_neg he];unfold St.fail;rw[if_pos ⟨rfl,by omega⟩]
  have hV:(St.mk b 0).numV=0:=b1
  have e1:(St.mk b 0).uptoS m=⟨[],((num b).2.2:Nat)⟩:=by
   unfold St.uptoS
   split
   ·rw[hS];unfold St.fail;rw[if_neg (by simp;omega)]
   ·exact hS
  have e2:(St.mk b 0).uptoV m=0:=by
   unfold St.uptoV
   split
   ·rfl
   ·exact hV
  refine ⟨?_,?_,?_⟩
  ·unfold St.textS;rw[e1,e2];simp;omega
  ·unfold St.textS;rw[e1,e2];simp
  ·unfold St.textV;rw[e1,e2];simp
theorem St.num_or (b:LU):
  (((St.mk b 0).numS).err≠0/\((St.mk b 0).numS).rest=[]/\(num b).2.2≠0) ∨
  (∃j,j<=b.length/\(St.mk b 0).numS=⟨b.drop j,0⟩/\put ((St.mk b 0).numV)=b.take j/\(num b).2.2=0):=by
 by_cases he:(num b).2.2=0
 ·right
  obtain⟨h1,h2,h3,h4⟩:=num_ok b he
  refine ⟨(num b).2.1,h3,?_,h1,he⟩
  unfold St.numS;simp only;rw[if_pos he]
 ·left
  have hS:(St.mk b 0).numS=⟨[],((num b).2.2:Nat)⟩:=by
   unfold St.numS;simp only;rw[if_neg he];unfold St.fail;rw[if_pos ⟨rfl,by omega⟩]
  rw[hS]
  exact⟨by simp;omega,rfl,he⟩
end Wire
namespace Vals
open Wire
open Go.Op (bytesLess)
def cmpI (a b:Int):Int:=if a<b then -1 else if b<a then 1 else 0
def cmpT (a b:LU):Int:=if bytesLess a b then -1 else if a=b then 0 else 1
def cmp (k i:Int) (t:LU) (k' i':Int) (t':LU):Int:=
 if cmpI k k'≠0 then cmpI k k' else if cmpI i i'≠0 then cmpI i i' else cmpT t t'
def right (k i:Int) (t:LU):Bool:=
 if k=1 then t.length == 0 else if k=2 then i == 0 && decide (t.length<=64) else if k=3 then t.length == 0 && decide (0<=i) && decide (i<=1) else false
def bytes (k i:Int) (t:LU):LU:=
 put k.toNat++(if k=1 then put (zig i) else if k=2 then text t else put i.toNat)
def lay (k i:Int) (t:LU):LU:=if right k i t then bytes k i t else []
def getS (s:St):St:=
 if s.uptoV 3=1 then (s.uptoS 3).numS else if s.uptoV 3=2 then (s.uptoS 3).textS 64 else if s.uptoV 3=3 then (s.uptoS 3).uptoS 1 else (s.uptoS 3).fail 3
def getK (s:St):Int:=if (getS s).err=0 then (s.uptoV 3:Int) else 0
def getI (s:St):Int:=if (getS s).err=0 then (if s.uptoV 3=1 then zag (s.uptoS 3).numV else if s.uptoV 3=3 then ((s.uptoS 3).uptoV 1:Int) else 0) else 0
def getT (s:St):LU:=if (getS s).err=0 then (if s.uptoV 3=2 then (s.uptoS 3).textV 64 else []) else []
theorem less_irr:∀a:LU,bytesLess a a=false
 | []=>rfl
 | x::a=>by simp[bytesLess,less_irr a]
theorem less_asym:∀a b:LU,bytesLess a b=true->bytesLess b a=false
 | _,[]=>by simp[bytesLess]
 | [],_::_=>by simp[bytesLess]
 | x::a,y::b=>by
  simp only[bytesLess,Bool.or_eq_true,decide_eq_true_eq,Bool.and_eq_true,beq_iff_eq,Bool.or_eq_false_iff,decide_eq_false_iff_not,Bool.and_eq_false_iff]
  rintro (h|⟨h,k⟩)
  ·have:¬y<x:=by rw[UInt8.lt_iff_toNat_lt] at *;omega
   refine ⟨this,.inl ?_⟩
   rw[beq_eq_false_iff_ne];rintro rfl;rw[UInt8.lt_iff_toNat_lt] at h;omega
  ·subst h
   refine ⟨by rw[UInt8.lt_iff_toNat_lt];omega,.inr (less_asym a b k)⟩
theorem less_tri:∀a b:LU,bytesLess a b=false->bytesLess b a=false->a=b
 | [],[]=>by simp
 | _::_,[]=>by simp[bytesLess]
 | [],_::_=>by simp[bytesLess]
 | x::a,y::b=>by
  simp only[bytesLess,Bool.or_eq_false_iff,decide_eq_false_iff_not,Bool.and_eq_false_iff]
  rintro ⟨h1,h2⟩ ⟨h3,h4⟩
  have e:x=y:=by rw[UInt8.lt_iff_toNat_lt] at *;exact UInt8.toNat_inj.1 (by omega)
  subst e
  rcases h2 with h2|h2
  ·simp at h2
  ·rcases h4 with h4 | h4
   ·simp at h4
   ·rw[less_tri a b h2 h4]
theorem less_trans:∀a b c:LU,bytesLess a b=true->bytesLess b c=true->bytesLess a c=true
 | _,[],_=>by simp[bytesLess]
 | _,_::_,[]=>by simp[bytesLess]
 | [],_::_,_::_=>by simp[bytesLess]
 | x::a,y::b,z::c=>by
  simp only[bytesLess,Bool.or_eq_true,decide_eq_true_eq,Bool.and_eq_true,beq_iff_eq]
  rintro (h|⟨h,k⟩) (h'|⟨h',k'⟩)
  ·left;rw[UInt8.lt_iff_toNat_lt] at *;omega
  ·subst h';exact .inl h
  ·subst h;exact .inl h'
  ·subst h;subst h';exact .inr ⟨rfl,less_trans a b c k k'⟩
theorem cmpI_neg (a b:Int):cmpI b a = - cmpI a b:=by unfold cmpI;split<;>split<;>(try split)<;>omega
theorem cmpI_zero (a b:Int):cmpI a b=0↔a=b:=by unfold cmpI;split<;>(try split)<;>omega
theorem cmpT_zero (a b:LU):cmpT a b=0↔a=b:=by
 unfold cmpT
 constructor
 ·split
  ·intro h;omega
  ·split
   ·intro _;assumption
   ·intro h;omega
 ·rintro rfl;rw[less_irr];simp
theorem cmpT_le (a b:LU):cmpT a b<=0↔bytesLess b a=false:=by
 unfold cmpT
 split
 ·rename_i h
  constructor
  ·intro _;exact less_asym _ _ h
  ·intro _;omega
 ·rename_i h
  split
  ·rename_i h'
   subst h'
   simp[less_irr]
  ·rename_i h'
   constructor
   ·intro h;omega
   ·intro h2;exact absurd (less_tri _ _ (by simpa using h) h2) h'
theorem cmpT_neg (a b:LU):cmpT b a = - cmpT a b:=by
 by_cases e:a=b
 ·subst e
  rw[(cmpT_zero a a).2 rfl];rfl
 ·have e':¬b=a:=fun h=>e h.symm
  unfold cmpT
  cases h1:bytesLess a b<;>cases h2:bytesLess b a
  ·exact absurd (less_tri _ _ h1 h2) e
  ·simp[e]
  ·simp[e']
  ·rw[less_asym _ _ h1] at h2;simp at h2
theorem cmpT_trans (a b c:LU) (h1:cmpT a b<=0) (h2:cmpT b c<=0):cmpT a c<=0:=by
 rw[cmpT_le] at *
 cases h:bytesLess c a with
 | false=>rfl
 | true=>
  cases h3:bytesLess a b with
  | true=>rw[less_trans _ _ _ h h3] at h2;exact h2
  | false=>
   have:=less_tri _ _ h3 h1
   subst this
   rw[h] at h2;exact h2
theorem cmp_neg (k i:Int) (t:LU) (k' i':Int) (t':LU):cmp k' i' t' k i t = - cmp k i t k' i' t':=by
 unfold cmp
 rw[cmpI_neg k k',cmpI_neg i i',cmpT_neg t t']
 by_cases h1:cmpI k k'=0
 ·by_cases h2:cmpI i i'=0
  ·simp[h1,h2]
  ·simp[h1,h2]
 ·simp[h1]
theorem cmp_zero (k i:Int) (t:LU) (k' i':Int) (t':LU):cmp k i t k' i' t'=0↔(k=k'/\i=i'/\t=t'):=by
 unfold cmp
 rw[<-cmpI_zero k k',<-cmpI_zero i i',<-cmpT_zero t t']
 by_cases h1:cmpI k k'=0
 ·by_cases h2:cmpI i i'=0
  ·simp[h1,h2]
  ·simp[h1,h2]
 ·simp[h1]
theorem cmpI_le (a b:Int):cmpI a b<=0↔a<=b:=by unfold cmpI;split<;>(try split)<;>omega
theorem cmp_le (k i:Int) (t:LU) (k' i':Int) (t':LU):cmp k i t k' i' t'<=0↔(k<k'∨(k=k'/\(i<i'∨(i=i'/\cmpT t t'<=0)))):=by
 unfold cmp
 by_cases h1:k=k'
 ·by_cases h2:i=i'
  ·simp[h1,h2,(cmpI_zero _ _).2]
  ·rw[if_neg (by simp[cmpI_zero,h1]),if_pos (by simp[cmpI_zero,h2]),cmpI_le]
   constructor
   ·intro h;exact .inr ⟨h1,.inl (by omega)⟩
   ·rintro (h | ⟨_,h | ⟨h,_⟩⟩)<;>omega
 ·rw[if_pos (by simp[cmpI_zero,h1]),cmpI_le]
  constructor
  ·intro h;exact .inl (by omega)
  ·rintro (h | ⟨h,_⟩)<;>omega
theorem cmp_trans (k1 i1:Int) (t1:LU) (k2 i2:Int) (t2:LU) (k3 i3:Int) (t3:LU) (h1:cmp k1 i1 t1 k2 i2 t2<=0) (h2:cmp k2 i2 t2 k3 i3 t3<=0):cmp k1 i1 t1 k3 i3 t3<=0:=by
 rw[cmp_le] at *
 rcases h1 with h1|⟨h1,h1|⟨h1',h1''⟩⟩<;>rcases h2 with h2|⟨h2,h2|⟨h2',h2''⟩⟩
 ·left;omega
 ·left;omega
 ·left;omega
 ·left;omega
 ·right;exact⟨by omega,.inl (by omega)⟩
 ·right;exact⟨by omega,.inl (by omega)⟩
 ·left;omega
 ·right;exact⟨by omega,.inl (by omega)⟩
 ·right;exact⟨by omega,.inr ⟨by omega,cmpT_trans _ _ _ h1'' h2''⟩⟩
/-! What was laid is read as it was. -/
theorem upto_put (m n:Nat) (r:LU) (h:n<=m) (hm:n<2 ^ 64):(St.mk (put n++r) 0).uptoV (m:Int)=n/\(St.mk (put n++r) 0).uptoS (m:Int)=⟨r,0⟩:=by
 have e:=num_put n hm r
 have ho:(St.mk (put n++r) 0).over (m:Int)=false:=by
  unfold St.over St.numV
  rw[e]
  simp;omega
 refine ⟨?_,?_⟩
 ·unfold St.uptoV
  rw[if_neg (by rw[ho];simp)]
  unfold St.numV
  rw[e]
 ·unfold St.uptoS
  rw[if_neg (by rw[ho];simp)]
  unfold St.numS
  simp only[e]
  simp
theorem text_put (t:LU) (r:LU) (h:t.length<=64):(St.mk (text t++r) 0).textV 64=t/\(St.mk (text t++r) 0).textS 64=⟨r,0⟩:=by
 have e:text t++r=put t.length++(t++r):=by unfold text;simp
 rw[e]
 obtain⟨h1,h2⟩:=upto_put 64 t.length (t++r) h (by omega)
 rw[show ((64:Nat):Int)=64 from rfl] at h1 h2
 refine ⟨?_,?_⟩
 ·unfold St.textV
  rw[h1,h2,if_neg (by simp)]
  simp
 ·unfold St.textS
  rw[h1,h2,if_neg (by simp)]
  simp
theorem num_put' (n:Nat) (r:LU) (hm:n<2 ^ 64):(St.mk (put n++r) 0).numV=n/\(St.mk (put n++r) 0).numS=⟨r,0⟩:=by
 have e:=num_put n hm r
 unfold St.numV St.numS
 simp only[e]
 simp
theorem right_cases {k i:Int} {t:LU} (h:right k i t=true):(k=1/\t=[])∨(k=2/\i=0/\t.length<=64)∨(k=3/\t=[]/\(i=0∨i=1)):=by
 unfold right at h
 by_cases h1:k=1
 ·rw[if_pos h1] at h
  exact .inl ⟨h1,by simpa using h⟩
 ·rw[if_neg h1] at h
  by_cases h2:k=2
  ·rw[if_pos h2] at h
   simp only[Bool.and_eq_true,beq_iff_eq,decide_eq_true_eq] at h
   exact .inr (.inl ⟨h2,h.1,h.2⟩)
  ·rw[if_neg h2] at h
   by_cases h3:k=3
   ·rw[if_pos h3] at h
    simp only[Bool.and_eq_true,beq_iff_eq,decide_eq_true_eq,List.length_eq_zero_iff] at h
    exact .inr (.inr ⟨h3,h.1.1,by omega⟩)
   ·rw[if_neg h3] at h;simp at h
theorem get_lay (k i:Int) (t r:LU) (h:right k i t=true) (h1:-9223372036854775808<=i) (h2:i<=9223372036854775807):
  getS ⟨lay k i t++r,0⟩=⟨r,0⟩/\getK ⟨lay k i t++r,0⟩=k/\getI ⟨lay k i t++r,0⟩=i/\getT ⟨lay k i t++r,0⟩=t:=by
 unfold lay
 rw[if_pos h]
 unfold bytes
 rcases right_cases h with ⟨rfl,rfl⟩|⟨rfl,rfl,ht⟩|⟨rfl,rfl,hi⟩
 ·rw[if_pos rfl,List.append_assoc]
  obtain⟨e1,e2⟩:=upto_put 3 1 (put (zig i)++r) (by omega) (by omega)
  obtain⟨e3,e4⟩:=num_put' (zig i) r (zig_lt i h1 h2)
  have e1':(St.mk (put (1:Int).toNat++(put (zig i)++r)) 0).uptoV 3=1:=e1
  have e2':(St.mk (put (1:Int).toNat++(put (zig i)++r)) 0).uptoS 3=⟨put (zig i)++r,0⟩:=e2
  have eS:getS ⟨put (1:Int).toNat++(put (zig i)++r),0⟩=⟨r,0⟩:=by unfold getS;rw[e1',e2',if_pos rfl,e4]
  refine ⟨eS,?_,?_,?_⟩
  ·unfold getK;rw[eS,if_pos rfl,e1'];rfl
  ·unfold getI;rw[eS,if_pos rfl,e1',if_pos rfl,e2',e3,zag_zig]
  ·unfold getT;rw[eS,if_pos rfl,e1',if_neg (by decide)]
 ·rw[if_neg (by decide),if_pos rfl,List.append_assoc]
  obtain⟨e1,e2⟩:=upto_put 3 2 (text t++r) (by omega) (by omega)
  obtain⟨e3,e4⟩:=text_put t r ht
  have e1':(St.mk (put (2:Int).toNat++(text t++r)) 0).uptoV 3=2:=e1
  have e2':(St.mk (put (2:Int).toNat++(text t++r)) 0).uptoS 3=⟨text t++r,0⟩:=e2
  have eS:getS ⟨put (2:Int).toNat++(text t++r),0⟩=⟨r,0⟩:=by unfold getS;rw[e1',e2',if_neg (by decide),if_pos rfl,e4]
  refine ⟨eS,?_,?_,?_⟩
  ·unfold getK;rw[eS,if_pos rfl,e1'];rfl
  ·unfold getI;rw[eS,if_pos rfl,e1',if_neg (by decide),if_neg (by decide)]
  ·unfold getT;rw[eS,if_pos rfl,e1',if_pos rfl,e2',e3]
 ·rw[if_neg (by decide),if_neg (by decide),List.append_assoc]
  obtain⟨e1,e2⟩:=upto_put 3 3 (put i.toNat++r) (by omega) (by omega)
  obtain⟨e3,e4⟩:=upto_put 1 i.toNat r (by omega) (by omega)
  have e3':(St.mk (put i.toNat++r) 0).uptoV 1=i.toNat:=e3
  have e4':(St.mk (put i.toNat++r) 0).uptoS 1=⟨r,0⟩:=e4
  have e1':(St.mk (put (3:Int).toNat++(put i.toNat++r)) 0).uptoV 3=3:=e1
  have e2':(St.mk (put (3:Int).toNat++(put i.toNat++r)) 0).uptoS 3=⟨put i.toNat++r,0⟩:=e2
  have eS:getS ⟨put (3:Int).toNat++(put i.toNat++r),0⟩=⟨r,0⟩:=by unfold getS;rw[e1',e2',if_neg (by decide),if_neg (by decide),if_pos rfl,e4']
  refine ⟨eS,?_,?_,?_⟩
  ·unfold getK;rw[eS,if_pos rfl,e1'];rfl
  ·unfold getI;rw[eS,if_pos rfl,e1',if_neg (by decide),if_pos rfl,e2',e3'];omega
  ·unfold getT;rw[eS,if_pos rfl,e1',if_neg (by decide)]
/-! What is read was laid just so, and is right. -/
theorem upto_or (b:LU) (m:Int) (hm:0<=m):(((St.mk b 0).uptoS m).err≠0/\((St.mk b 0).uptoS m).rest=[]/\(St.mk b 0).uptoV m=0) ∨
  (∃j,j<=b.length/\(St.mk b 0).uptoS m=⟨b.drop j,0⟩/\put ((St.mk b 0).uptoV m)=b.take j/\((St.mk b 0).uptoV m:Int)<=m):=by
 rcases St.num_or b with ⟨h1,h2,h3⟩|⟨j,h1,h2,h3,h4⟩
 ·left
  have hv:(St.mk b 0).numV=0:=(num_bad b h3).1
  have ho:(St.mk b 0).over m=false:=by unfold St.over;rw[hv];simp;omega
  unfold St.uptoS St.uptoV
  rw[if_neg (by rw[ho];simp),if_neg (by rw[ho];simp)]
  exact⟨h1,h2,hv⟩
 ·cases ho:(St.mk b 0).over m with
  | true=>
   left
   unfold St.uptoS St.uptoV
   rw[if_pos ho,if_pos ho,h2]
   exact⟨by simp[St.fail],by simp[St.fail],rfl⟩
  | false=>
   right
   unfold St.uptoS St.uptoV
   rw[if_neg (by rw[ho];simp),if_neg (by rw[ho];simp)]
   refine ⟨j,h1,h2,h3,?_⟩
   unfold St.over at ho
   simp at ho
   exact ho.2
theorem textV_le (s:St) (m:Nat):(s.textV (m:Int)).length<=m:=by
 unfold St.textV
 split
 ·simp
 ·rw[List.length_take]
  have:s.uptoV (m:Int)<=m:=by
   unfold St.uptoV St.over
   split
   ·omega
   ·rename_i h
    simp at h;omega
  omega
theorem get_ok (b:LU) (h:(getS ⟨b,0⟩).err=0):
  ∃j,j<=b.length/\getS ⟨b,0⟩=⟨b.drop j,0⟩/\right (getK ⟨b,0⟩) (getI ⟨b,0⟩) (getT ⟨b,0⟩)=true/\lay (getK ⟨b,0⟩) (getI ⟨b,0⟩) (getT ⟨b,0⟩)=b.take j:=by
 have hk:getK ⟨b,0⟩=((St.mk b 0).uptoV 3:Int):=by unfold getK;rw[if_pos h]
 have hi:getI ⟨b,0⟩=(if (St.mk b 0).uptoV 3=1 then zag ((St.mk b 0).uptoS 3).numV else if (St.mk b 0).uptoV 3=3 then (((St.mk b 0).uptoS 3).uptoV 1:Int) else 0):=by unfold getI;rw[if_pos h]
 have ht:getT ⟨b,0⟩=(if (St.mk b 0).uptoV 3=2 then ((St.mk b 0).uptoS 3).textV 64 else []):=by unfold getT;rw[if_pos h]
 rcases upto_or b 3 (by omega) with ⟨e1,e2,e3⟩|⟨j,e1,e2,e3,e4⟩
 ·exfalso
  unfold getS at h
  rw[e3] at h
  simp only[show ¬(0=1) by omega,show ¬(0=2) by omega,show ¬(0=3) by omega,if_false] at h
  unfold St.fail at h
  rw[if_neg (fun hh=>e1 hh.1)] at h
  exact e1 h
 ·generalize hv:(St.mk b 0).uptoV 3=v at *
  have hl:(b.take j).length=j:=by rw[List.length_take];omega
  have hv4:v=0∨v=1∨v=2∨v=3:=by omega
  rcases hv4 with rfl|rfl|rfl|rfl
  ·exfalso
   unfold getS at h
   rw[hv] at h
   simp only[show ¬(0=1) by omega,show ¬(0=2) by omega,show ¬(0=3) by omega,if_false] at h
   rw[e2] at h
   simp[St.fail] at h
  ·replace hk:getK ⟨b,0⟩=1:=hk
   rw[if_pos rfl] at hi
   rw[if_neg (by decide)] at ht
   have hS:getS ⟨b,0⟩=(St.mk (b.drop j) 0).numS:=by unfold getS;rw[hv,if_pos rfl,e2]
   rw[hS] at h
   rw[e2] at hi
   rcases St.num_or (b.drop j) with ⟨h1,h2,h3⟩|⟨n,h1,h2,h3,h4⟩
   ·exact absurd h h1
   ·rw[List.length_drop] at h1
    refine ⟨j+n,by omega,by rw[hS,h2,List.drop_drop],?_,?_⟩
    ·rw[hk,ht];rfl
    ·have hr:right (getK ⟨b,0⟩) (getI ⟨b,0⟩) (getT ⟨b,0⟩)=true:=by rw[hk,ht];rfl
     unfold lay
     rw[if_pos hr]
     unfold bytes
     rw[hk,hi,ht,if_pos rfl,zig_zag,h3,List.take_add]
     congr 1
  ·replace hk:getK ⟨b,0⟩=2:=hk
   rw[if_neg (by decide),if_neg (by decide)] at hi
   rw[if_pos rfl] at ht
   have hS:getS ⟨b,0⟩=(St.mk (b.drop j) 0).textS 64:=by unfold getS;rw[hv,if_neg (by decide),if_pos rfl,e2]
   rw[hS] at h
   rw[e2] at ht
   rcases St.text_or (b.drop j) 64 with ⟨h1,h2,h3⟩|⟨n,h1,h2,h3,h4⟩
   ·exact absurd h h1
   ·rw[List.length_drop] at h1
    have hle:=textV_le (St.mk (b.drop j) 0) 64
    have hr:right (getK ⟨b,0⟩) (getI ⟨b,0⟩) (getT ⟨b,0⟩)=true:=by
     rw[hk,hi,ht];unfold right
     rw[if_neg (by decide),if_pos rfl]
     simpa using hle
    refine ⟨j+n,by omega,by rw[hS,h2,List.drop_drop],hr,?_⟩
    unfold lay
    rw[if_pos hr]
    unfold bytes
    rw[hk,hi,ht,if_neg (by decide),if_pos rfl,h3,List.take_add]
    congr 1
  ·replace hk:getK ⟨b,0⟩=3:=hk
   rw[if_neg (by decide),if_pos rfl] at hi
   rw[if_neg (by decide)] at ht
   have hS:getS ⟨b,0⟩=(St.mk (b.drop j) 0).uptoS 1:=by unfold getS;rw[hv,if_neg (by decide),if_neg (by decide),if_pos rfl,e2]
   rw[hS] at h
   rw[e2] at hi
   rcases upto_or (b.drop j) 1 (by omega) with ⟨h1,h2,h3⟩|⟨n,h1,h2,h3,h4⟩
   ·exact absurd h h1
   ·rw[List.length_drop] at h1
    have hr:right (getK ⟨b,0⟩) (getI ⟨b,0⟩) (getT ⟨b,0⟩)=true:=by
     rw[hk,hi,ht];unfold right
     rw[if_neg (by decide),if_neg (by decide),if_pos rfl]
     simpa using h4
    refine ⟨j+n,by omega,by rw[hS,h2,List.drop_drop],hr,?_⟩
    unfold lay
    rw[if_pos hr]
    unfold bytes
    rw[hk,hi,ht,if_neg (by decide),if_neg (by decide),Int.toNat_natCast,h3,List.take_add]
    congr 1
theorem get_bad (s:St) (h:(getS s).err≠0):getK s=0/\getI s=0/\getT s=[]:=by
 unfold getK getI getT
 rw[if_neg h,if_neg h,if_neg h]
 exact⟨rfl,rfl,rfl⟩
theorem get_bd (b:LU) (h:right (getK ⟨b,0⟩) (getI ⟨b,0⟩) (getT ⟨b,0⟩)=true):-9223372036854775808<=getI ⟨b,0⟩/\getI ⟨b,0⟩<=9223372036854775807/\(getT ⟨b,0⟩).length<=64:=by
 rcases right_cases h with ⟨_,h2⟩|⟨_,h2,h3⟩|⟨_,h2,h3⟩
 ·have hb:-9223372036854775808<=getI ⟨b,0⟩/\getI ⟨b,0⟩<=9223372036854775807:=by
   unfold getI
   split
   ·split
    ·exact zag_bd _ (num_lt _)
    ·split
     ·have:((St.mk b 0).uptoS 3).uptoV 1<=1:=by
       unfold St.uptoV St.over
       split
       ·omega
       ·rename_i h
        simp at h;omega
      omega
     ·omega
   ·omega
  rw[h2]
  exact⟨hb.1,hb.2,by simp⟩
 ·rw[h2];exact⟨by omega,by omega,h3⟩
 ·rw[h2];exact⟨by omega,by omega,by simp⟩
theorem lay_len (k i:Int) (t:LU) (h1:-9223372036854775808<=i) (h2:i<=9223372036854775807):(lay k i t).length<=200:=by
 unfold lay
 split
 ·rename_i h
  unfold bytes
  rcases right_cases h with ⟨rfl,rfl⟩|⟨rfl,rfl,ht⟩|⟨rfl,rfl,hi⟩
  ·have a:=put_len_le 1 (by decide)
   have b:=put_len_le (zig i) (zig_lt i h1 h2)
   simp;omega
  ·have a:=put_len_le 2 (by decide)
   have b:=put_len_le t.length (by omega)
   simp[text];omega
  ·have a:=put_len_le 3 (by decide)
   have b:=put_len_le i.toNat (by omega)
   simp;omega
 ·simp
end Vals
namespace Go.Proofs.YtnfigjggjmncdaaGreat
section
open Go.RowKit
abbrev sC (K lo hi:Int) (f t:Array UInt8) (o:Bool) (A:Option Addr) (n c:Nat):Array Value:=#[.int .i64 K,.int .i64 lo,.int .i64 hi,.string ⟨f⟩,.string ⟨t⟩,.bool o,.slice A n c]
abbrev zC:Array Value:=#[.int .i64 0,.int .i64 0,.int .i64 0,.string ⟨#[]⟩,.string ⟨#[]⟩,.bool false,.slice none 0 0]
abbrev pC (n:Array UInt8) (o k i:Int) (t:Array UInt8):Array Value:=#[.string ⟨n⟩,.int .i64 o,.int .i64 k,.int .i64 i,.string ⟨t⟩]
abbrev vC (k i:Int) (t:Array UInt8):Array Value:=#[.int .i64 k,.int .i64 i,.string ⟨t⟩]
abbrev dC (k i r:Int) (t:Array UInt8) (A:Option Addr) (n c:Nat):Array Value:=#[.int .i64 k,.int .i64 i,.int .i64 r,.string ⟨t⟩,.slice A n c]
abbrev eC (i r:Int) (A:Option Addr) (n c:Nat):Array Value:=#[.int .i64 i,.int .i64 r,.slice A n c]
abbrev xC (e:Int) (A:Option Addr) (n c:Nat) (B:Option Addr) (m d:Nat) (C:Option Addr) (k r:Nat):Array Value:=#[.int .i64 e,.slice A n c,.slice B m d,.slice C k r]
abbrev xZ:Array Value:=#[.int .i64 0,.slice none 0 0,.slice none 0 0,.slice none 0 0]
def Bv (x:UInt8):Value:=.int .u8 (x.toNat:Int)
def Rd (w:World) (A:OA) (bs:LU):Prop:=
 bs=[]∨∃g off,A=some ⟨g,off,none⟩/\g<w.heap.size/\∀i (h:i<bs.length),w.cell? ⟨g,off+i,none⟩=some (.int .u8 (bs[i].toNat:Int))
theorem Rd.at_ {w:World} {A:OA} {bs:LU} (h:Rd w A bs) {k:Nat} (hk:k<bs.length):
  ∃g off,A=some ⟨g,off,none⟩/\g<w.heap.size/\w.cell? ⟨g,off+k,none⟩=some (.int .u8 (bs[k].toNat:Int)):=by
 rcases h with rfl|⟨g,off,rfl,hg,hc⟩
 ·simp at hk
 ·exact⟨g,off,rfl,hg,hc k hk⟩
theorem Rd.below {w w':World} {A:OA} {bs:LU} (h:Rd w A bs) (hb:Below w.heap.size w w'):Rd w' A bs:=by
 rcases h with rfl|⟨g,off,rfl,hg,hc⟩
 ·exact .inl rfl
 ·exact .inr ⟨g,off,rfl,Nat.lt_of_lt_of_le hg hb.size,fun i hi=>(hb.cell (p:=⟨g,off+i,none⟩) hg).trans (hc i hi)⟩
theorem Rd.take {w:World} {A:OA} {bs:LU} (h:Rd w A bs) (k:Nat):Rd w A (bs.take k):=by
 rcases h with rfl|⟨g,off,rfl,hg,hc⟩
 ·exact .inl (by simp)
 ·exact .inr ⟨g,off,rfl,hg,fun i hi=>by
   have hi':i<bs.length:=by simp at hi;omega
   rw[List.getElem_take];exact hc i hi'⟩
def Blk (w:World) (g:Nat) (t:TypeId) (cs:Array Value):Prop:=w.heap[g]?=some (.cells cs t (0,0))
theorem Blk.cell {w:World} {g:Nat} {t:TypeId} {cs:Array Value} (h:Blk w g t cs) (i:Nat):w.cell? ⟨g,i,none⟩=cs[i]?:=cell_of_row w g i cs t (0,0) h
theorem Blk.frozen {w:World} {g:Nat} {t:TypeId} {cs:Array Value} (h:Blk w g t cs) (i:Nat):w.frozen? ⟨g,i,none⟩=false:=frozen_of_row w g i cs t h
theorem Blk.put {w:World} {g:Nat} {t:TypeId} {cs:Array Value} (h:Blk w g t cs) (i:Nat) (u:Value):Blk (w.setCell ⟨g,i,none⟩ u) g t (cs.setIfInBounds i u):=heap_setCell_same w g i cs t u h
theorem Blk.far {w:World} {g:Nat} {t:TypeId} {cs:Array Value} (h:Blk w g t cs) {p:Addr} (hp:g≠p.block) (u:Value):Blk (w.setCell p u) g t cs:=(heap_setCell_other w p g u hp).trans h
theorem Blk.below {w w':World} {B g:Nat} {t:TypeId} {cs:Array Value} (h:Blk w g t cs) (hb:Below B w w') (hg:g<B):Blk w' g t cs:=(hb.block g hg).trans h
theorem Blk.lt {w:World} {g:Nat} {t:TypeId} {cs:Array Value} (h:Blk w g t cs):g<w.heap.size:=(Array.getElem?_eq_some_iff.1 h).1
theorem Blk.new (w:World) (t:TypeId) (cs:Array Value):Blk (w.alloc (.cells cs t)) w.heap.size t cs:=heap_alloc_new w _
theorem Blk.alloc {w:World} {g:Nat} {t:TypeId} {cs:Array Value} (h:Blk w g t cs) (o:Obj):Blk (w.alloc o) g t cs:=(Below.heap_alloc w o g h.lt).trans h
theorem add_lit (g off j:Nat):(⟨g,off,none⟩:Addr).add j=⟨g,off+j,none⟩:=by unfold Addr.add;split<;>simp_all
theorem Blk.src {w:World} {g:Nat} {t:TypeId} {cs:List Value} (h:Blk w g t cs.toArray):∀j u,cs[j]?=some u->w.cell? ((⟨g,0,none⟩:Addr).add j)=some u:=by
 intro j u hu
 rw[add_lit,Nat.zero_add,h.cell j];simpa using hu
theorem Blk.rd {w:World} {g:Nat} {t:TypeId} {bs:LU} (h:Blk w g t (bs.map Bv).toArray):Rd w (some ⟨g,0,none⟩) bs:=by
 refine .inr ⟨g,0,rfl,h.lt,fun i hi=>?_⟩
 rw[Nat.zero_add,h.cell i];simp[hi,Bv]
theorem rd_const (w:World) (t:TypeId) (m:Nat × Nat) (cs:Array Value) (bs:LU) (h:cs=(bs.map Bv).toArray):Rd (w.alloc (.cells cs t m)) (some ⟨w.heap.size,0,none⟩) bs:=by
 refine .inr ⟨w.heap.size,0,rfl,by simp,fun i hi=>?_⟩
 have e:=cell_of_row (w.alloc (.cells cs t m)) w.heap.size i cs t m (heap_alloc_new _ _)
 rw[Nat.zero_add,e,h];simp[hi,Bv]
theorem run_str {P:Program} (w:World) (A:OA) (bs:LU) (n cap:Nat) (hr:Rd w A bs) (hn:bs.length=n) (src e dst:TypeId)
  (hs:P.underlying src=some (.slice e)) (he:P.underlying e=some (.int .u8)) (hd:P.underlying dst=some .string):
  (convert src dst (.slice A n cap)).run P w=.ok (.string ⟨bs.toArray⟩) w:=by
 subst hn
 rcases A with _|ad
 ·rcases hr with rfl | ⟨g,off,e,_,_⟩
  ·exact run_convert_bytes_nil w src e hs he 0 cap dst hd
  ·cases e
 ·refine run_convert_bytes_back w src dst e ad cap bs hs he hd fun j hj=>?_
  obtain⟨g,off,e,_,hc⟩:=hr.at_ hj
  injection e with e
  rw[e,add_lit];exact hc
theorem rd_of_ints {w:World} {x:Addr} {len cap:Nat} {zs:List Int} (hl:len<=cap) (hz:zs.length=cap)
  (hcell:∀i,i<zs.length->w.cell? (x.add i)=some (.int .u8 (zs.getD i 0))) (hwz:∀n∈zs,(Lit.int .u8 n).wf=true):
  ∃bs:LU,bs.length=len/\Rd w (some x) bs:=by
 refine ⟨(zs.take len).map fun n=>UInt8.ofNat n.toNat,by simp;omega,?_⟩
 by_cases h0:len=0
 ·exact .inl (by simp[h0])
 ·obtain⟨b,off,rfl,hc⟩:=ints_at hcell (by omega)
  refine .inr ⟨b,off,rfl,block_lt_of_cell (hc 0 (by omega)),fun i hi=>?_⟩
  have hi':i<zs.length:=by simp at hi;omega
  rw[hc i hi']
  have hw:=hwz zs[i] (List.getElem_mem hi')
  have hb:0<=zs[i]/\zs[i]<=255:=by simpa using bounds_u8 hw
  have e:zs.getD i 0=zs[i]:=by simp[List.getD,hi']
  rw[e]
  simp only[List.getElem_map,List.getElem_take,UInt8.toNat_ofNat']
  congr 2;omega
theorem below_next {B:Nat} {w a b:World} (h:Below B w a) (hB:B<=w.heap.size) (k:Below a.heap.size a b):Below B w b:=h.trans (k.mono (Nat.le_trans hB h.size))
section
variable {P:Program} {md:Region.Mode} {ops:Array Oper} {Q:Exit->Act->World->Prop} {S:World->Prop}
theorem wpAnyH_yes {i d:Nat} {oi:Oper} {v:Value} {fuel:Nat} {listed:Array Bool} {a:Act} {w:World} (hi:ops.toList[i]?=some oi) (hd:oi.dst=some d)
  (hs:Region.noSelect ops=true) (hf:Region.free md ops listed i=true) (hr:(Region.ready md ops listed).contains i=true)
  (hQ:∀c a w,Q (.panic c) (a.put (some d) v) w->Q (.panic c) a w) (hw:Region.wanted oi (yielded ops a.tmps)=true)
  (hv:∀w,S w->(execOp a.eval oi).run P w=.ok (.value v) w) (hS:S w)
  (h:wpAnyH P md ops Q S fuel (listed.setIfInBounds i true) (a.put (some d) v) w):wpAnyH P md ops Q S (fuel+1) listed a w:=by
 rw[<-hd] at hQ h
 exact wpAnyH_take (by simpa using hi) hs hf hr hQ (Or.inl ⟨hw,hv⟩) hS h
theorem wpAnyH_no {i d:Nat} {oi:Oper} {fuel:Nat} {listed:Array Bool} {a:Act} {w:World} (hi:ops.toList[i]?=some oi) (hd:oi.dst=some d)
  (hs:Region.noSelect ops=true) (hf:Region.free md ops listed i=true) (hr:(Region.ready md ops listed).contains i=true)
  (hQ:∀c a w,Q (.panic c) (a.put (some d) undef) w->Q (.panic c) a w) (hw:Region.wanted oi (yielded ops a.tmps)=false) (hS:S w)
  (h:wpAnyH P md ops Q S fuel (listed.setIfInBounds i true) (a.put (some d) undef) w):wpAnyH P md ops Q S (fuel+1) listed a w:=by
 rw[<-hd] at hQ h
 exact wpAnyH_take (by simpa using hi) hs hf hr hQ (Or.inr ⟨hw,rfl⟩) hS h
theorem wpAnyH_one {i:Nat} {oi:Oper} {fuel:Nat} {listed:Array Bool} {a:Act} {w:World} (hr:Region.ready md ops listed=[i]) (hi:ops.toList[i]?=some oi)
  (hw:Region.wanted oi (yielded ops a.tmps)=true)
  (h:∀K:Act->World->Prop,Hid (∀a w,S w->wpAnyH P md ops Q S fuel (listed.setIfInBounds i true) a w->K a w)->Oper.wp P oi a w K Q):wpAnyH P md ops Q S (fuel+1) listed a w:=by
 refine wpAnyH_ready hr (by simp) (AllReadyH.cons (by simpa using hi) (fun K hK=>?_) AllReadyH.nil)
 rw[if_pos hw]
 exact h K (fun a w hS hW=>hK.out a w hS (fun _=>hW))
theorem zu0 {α:Type} (l:List α) (i:Nat) (a:α):l.toArray.setIfInBounds i a=(l.set i a).toArray:=List.setIfInBounds_toArray ..
theorem zu1 {α:Type} (x:α) (l:List α) (a:α):(x::l).set 0 a=a::l:=List.set_cons_zero
theorem zu2 {α:Type} (x:α) (l:List α) (n:Nat) (a:α):(x::l).set (n+1) a=x::l.set n a:=List.set_cons_succ
theorem Jz (i:Nat) {d:Nat} {oi:Oper} {v:Value} {fuel:Nat} {listed:Array Bool} {a a':Act} {w:World} (hS:S w)
  (h:wpAnyH P md ops Q S fuel (listed.setIfInBounds i true) a' w) (hi:ops.toList[i]?=some oi:=by rfl) (hd:oi.dst=some d:=by rfl)
  (hv:∀w,S w->(execOp a.eval oi).run P w=.ok (.value v) w:=by intro w' hSw;first | (clear hSw;go_simp<;>with_reducible rfl;done) | (subst hSw;go_simp<;>with_reducible rfl;done) | (have h7:=blk7 hSw;obtain⟨_,_,_,_,_,_,_,_⟩:=h7;clear hSw;go_simp<;>with_reducible rfl;done) | (have h5:=blk5 hSw;obtain⟨_,_,_,_,_,_⟩:=h5;clear hSw;go_simp<;>with_reducible rfl;done) | (have h7:=blk7 hSw.1;have h8:=blk7 hSw.2;obtain⟨_,_,_,_,_,_,_,_⟩:=h7;obtain⟨_,_,_,_,_,_,_,_⟩:=h8;clear hSw;go_simp<;>with_reducible rfl;done) | (have h5:=blk5 hSw.1;have h7:=blk7 hSw.2;obtain⟨_,_,_,_,_,_⟩:=h5;obtain⟨_,_,_,_,_,_,_,_⟩:=h7;clear hSw;go_simp<;>with_reducible rfl;done) | (repeat (rcases hSw with ⟨_,hSw⟩);go_simp<;>with_reducible rfl;done) | (go_simp<;>with_reducible rfl))
  (ha:a.put (some d) v=a':=by simp only[Act.put,zu0,zu1,zu2];rfl)
  (hs:(Region.noSelect ops && Region.free md ops listed i && (Region.ready md ops listed).contains i)=true:=by kernel_rfl)
  (hQ:∀c a w,Q (.panic c) (a.put (some d) v) w->Q (.panic c) a w:=by exact fun _ _ _ h=>h) (hw:Region.wanted oi (yielded ops a.tmps)=true:=by rfl):wpAnyH P md ops Q S (fuel+1) listed a w:=by
 rw[Bool.and_eq_true,Bool.and_eq_true] at hs
 subst ha
 exact wpAnyH_yes hi hd hs.1.1 hs.1.2 hs.2 hQ hw hv hS h
theorem Jw (i:Nat) {d:Nat} {oi:Oper} {fuel:Nat} {listed:Array Bool} {a a':Act} {w:World} (hS:S w) (h:wpAnyH P md ops Q S fuel (listed.setIfInBounds i true) a' w) (hi:ops.toList[i]?=some oi:=by rfl) (hd:oi.dst=some d:=by rfl)
  (ha:a.put (some d) undef=a':=by simp only[Act.put,zu0,zu1,zu2];rfl)
  (hs:(Region.noSelect ops && Region.free md ops listed i && (Region.ready md ops listed).contains i)=true:=by kernel_rfl)
  (hQ:∀c a w,Q (.panic c) (a.put (some d) undef) w->Q (.panic c) a w:=by exact fun _ _ _ h=>h) (hw:Region.wanted oi (yielded ops a.tmps)=false:=by rfl):wpAnyH P md ops Q S (fuel+1) listed a w:=by
 rw[Bool.and_eq_true,Bool.and_eq_true] at hs
 subst ha
 exact wpAnyH_no hi hd hs.1.1 hs.1.2 hs.2 hQ hw hS h
theorem Jd {fuel:Nat} {listed:Array Bool} {a:Act} {w:World} (h:Q .normal a w) (hr:Region.ready md ops listed=[]:=by kernel_rfl):wpAnyH P md ops Q S fuel listed a w:=wpAnyH_done hr h fuel
theorem Je (i:Nat) {oi:Oper} {fuel:Nat} {listed:Array Bool} {a:Act} {w:World} (h:∀K:Act->World->Prop,Hid (∀a w,S w->wpAnyH P md ops Q S fuel (listed.setIfInBounds i true) a w->K a w)->Oper.wp P oi a w K Q)
  (hr:Region.ready md ops listed=[i]:=by kernel_rfl) (hi:ops.toList[i]?=some oi:=by rfl) (hw:Region.wanted oi (yielded ops a.tmps)=true:=by rfl):wpAnyH P md ops Q S (fuel+1) listed a w:=wpAnyH_one hr hi hw h
end
theorem wpAnyH_more {P:Program} {md:Region.Mode} {ops:Array Oper} {Q:Exit->Act->World->Prop} {S S':World->Prop} (h:∀w,S' w->S w):
  ∀(fuel:Nat) (listed:Array Bool) (a:Act) (w:World),wpAnyH P md ops Q S' fuel listed a w->wpAnyH P md ops Q S fuel listed a w
 | 0,_,_,_,k=>k
 | fuel+1,_,_,_,k=>⟨k.1,fun i hi=>wpOp_mono (fun a' w' h'=>⟨h w' h'.1,wpAnyH_more h fuel _ a' w' h'.2⟩) (k.2 i hi)⟩
theorem Rd.src {w:World} {A:OA} {bs:LU} (h:Rd w A bs) (h0:0<bs.length):
  ∃ad,A=some ad/\ad.block<w.heap.size/\∀j v,(bs.map Bv)[j]?=some v->w.cell? (ad.add j)=some v:=by
 rcases h with rfl|⟨g,off,rfl,hg,hc⟩
 ·simp at h0
 ·refine ⟨_,rfl,hg,fun j v hv=>?_⟩
  have hj:j<bs.length:=by
   have:=(List.getElem?_eq_some_iff.1 hv).1;simpa using this
  have e:(⟨g,off,none⟩:Addr).add j=⟨g,off+j,none⟩:=by unfold Addr.add;split<;>simp_all
  rw[e,hc j hj]
  simp[hj,Bv] at hv
  rw[<-hv]
theorem vals_one (bs:LU):∀v∈bs.map Bv,v.oneCell'=true:=by
 intro v hv
 simp only[List.mem_map] at hv
 obtain⟨x,_,rfl⟩:=hv
 rfl
theorem wpList_copy_rd {P:Program} {w:World} {ops:Array Oper} {rest:List Oper} {o:Oper} {a:Act} {Q:Exit->Act->World->Prop} (hgd:o.guard=none) (d s:Operand) (dT sT:TypeId)
  (ho:o.op=.call { callee:=.builtin .copy,args:=#[d,s],argTypes:=#[dT,sT] }) (elem:TypeId) (hu:P.underlying dT=some (.slice elem)) (hsz:(P.info? elem).map (·.size)=some 1)
  (g dLen dCap:Nat) (A:OA) (sLen sCap:Nat) (hd:a.eval d=.slice (some ⟨g,0,none⟩) dLen dCap) (hs:a.eval s=.slice A sLen sCap)
  (bs:LU) (hr:Rd w A bs) (hn:bs.length=Nat.min sLen dLen) (cur:List Value) (t:TypeId) (hg:w.heap[g]?=some (.cells cur.toArray t (0,0))) (hfit:bs.length<=cur.length)
  (h:∀w',Blk w' g t (bs.map Bv++cur.drop bs.length).toArray->(∀B w0,Below B w0 w->B<=g->Below B w0 w')->wpList P ops Q rest (a.put o.dst (goInt bs.length)) w'):
  wpList P ops Q (o::rest) a w:=by
 have hlt:g<w.heap.size:=(Array.getElem?_eq_some_iff.1 hg).1
 refine wpList_copy_splice hgd d s dT sT ho elem hu hsz (some ⟨g,0,none⟩) A dLen dCap sLen sCap hd hs g 0 cur t hg (bs.map Bv) (by simpa using hn) ?_ (by simpa using hfit) (vals_one bs) g w (Below.refl _ _) (Jn) ?_
 ·intro h0
  obtain⟨ad,e,_,hc⟩:=hr.src (by simpa using h0)
  exact⟨rfl,ad,e,hc⟩
 ·intro w' hg' hb'
  have e:splice cur 0 (bs.map Bv)=bs.map Bv++cur.drop bs.length:=by simp[splice]
  have hg2:Blk w' g t (bs.map Bv++cur.drop bs.length).toArray:=by rw[<-e];exact hg'.o
  have:=h w' hg2 (fun B w0 hb hB=>hb.trans (hb'.mono hB))
  simpa using this
theorem wpList_append_fit {P:Program} {w:World} {ops:Array Oper} {rest:List Oper} {o:Oper} {a:Act} {Q:Exit->Act->World->Prop} (hgd:o.guard=none) (s x:Operand) (t:TypeId)
  (ho:o.op=.call { callee:=.builtin .append,args:=#[s,x],argTypes:=#[t,t] }) (e:TypeId) (i:TypeInfo) (ht:P.underlying t=some (.slice e)) (hi:P.info? e=some i) (hsize:i.size=1)
  (g n cap:Nat) (cur:List Value) (hs:a.eval s=.slice (some ⟨g,0,none⟩) n cap) (hg:Blk w g e cur.toArray)
  (ad:Addr) (m c:Nat) (news:List Value) (hx:a.eval x=.slice (some ad) m c) (hl:news.length=m) (hnews:∀j u,news[j]?=some u->w.cell? (ad.add j)=some u) (h1:∀u∈news,u.oneCell'=true)
  (hroom:n+m<=cap) (hfit:n+m<=cur.length)
  (h:∀w',Blk w' g e (cur.take n++news++cur.drop (n+m)).toArray->(∀B w0,Below B w0 w->B<=g->Below B w0 w')->wpList P ops Q rest (a.put o.dst (.slice (some ⟨g,0,none⟩) (n+m) cap)) w'):wpList P ops Q (o::rest) a w:=by
 refine wpList_plain hgd fun K hK=>?_
 have hr:=run_append_room (P:=P) w t o.type e i ht hi g n cap cur.toArray hg ad m c news (by rw[hsize,hl,Nat.mul_one]) hnews h1 hroom (by rw[hsize,hl,Nat.mul_one];simpa using hfit)
 unfold Oper.wp execOp
 simp only[ho,resolve,invoke,builtin,Sem.run_bind,Sem.run_pure,Result.andThen_ok,List.map_toArray,List.map_cons,List.map_nil,hs,hx,hr]
 refine hK _ _ (h _ ?_ fun B w0 hb hB=>below_setRow hb hB _)
 have:=setRow_heap w g cur.toArray (cur.take n++news++cur.drop (n+m)).toArray e _ hg
 simpa[hsize,hl,Blk] using this
def Own (w:World) (base:Nat) (e:TypeId) (v:Value) (bs:LU):Prop:=w.ownsRow base e 1 v bs.length (bs.map Bv)
theorem Own.rd {w:World} {base:Nat} {e:TypeId} {v:Value} {bs:LU} (h:Own w base e v bs):∃A c,v=.slice A bs.length c/\bs.length<=c/\Rd w A bs:=by
 rcases h.2 with ⟨rfl,hn⟩|⟨g,cap,cur,rfl,_,hg,hc,_,_,ht⟩
 ·have:bs=[]:=List.eq_nil_of_length_eq_zero hn
  subst this
  exact⟨none,0,rfl,by simp,.inl rfl⟩
 ·refine ⟨_,cap,rfl,hc,.inr ⟨g,0,rfl,(Array.getElem?_eq_some_iff.1 hg).1,fun i hi=>?_⟩⟩
  rw[Nat.zero_add,cell_of_row w g i cur e (0,0) hg]
  have h1:(cur.toList.take (bs.length*1))[i]?=(bs.map Bv)[i]?:=by rw[ht]
  rw[List.getElem?_take_of_lt (by omega)] at h1
  simpa[hi,Bv] using h1
theorem Own.base_le {w:World} {base:Nat} {e:TypeId} {v:Value} {bs:LU} (h:Own w base e v bs):∀k,v.ownBlock=some k->base<=k:=fun k hk=>(h.lt k hk).1
theorem Own.none_ (w:World) (base:Nat) (e:TypeId):Own w base e (.slice none 0 0) []:=World.ownsRow_nil w base e 1
theorem Own.empty (w:World) (base:Nat) (e:TypeId) (hb:base<=w.heap.size):Own (w.alloc (.cells #[] e)) base e (.slice (some ⟨w.heap.size,0,none⟩) 0 0) []:=
 ⟨by simp,.inr ⟨w.heap.size,0,#[],rfl,hb,heap_alloc_new _ _,by simp,by simp,by simp,by simp⟩⟩
theorem Own.below {w w':World} {base:Nat} {e:TypeId} {v:Value} {bs:LU} (h:Own w base e v bs) (hb:Below w.heap.size w w'):Own w' base e v bs:=by
 refine ⟨h.1,?_⟩
 rcases h.2 with h2|⟨g,cap,cur,hv,hbg,hg,r⟩
 ·exact .inl h2
 ·exact .inr ⟨g,cap,cur,hv,hbg,(hb.block g (Array.getElem?_eq_some_iff.1 hg).1).trans hg,r⟩
theorem run_append_rd {P:Program} (w:World) (base:Nat) (t ty e:TypeId) (i:TypeInfo) (ht:P.underlying t=some (.slice e)) (hi:P.info? e=some i) (hz:i.zero=some (.int .u8 0)) (hsize:i.size=1) (hby:i.bytes=1)
  (v:Value) (bs:LU) (hown:Own w base e v bs) (A:OA) (cs:LU) (m c:Nat) (hr:Rd w A cs) (hm:cs.length=m) (hl:bs.length+m<=140737488355328) (hbase:base<=w.heap.size):
  ∃v' w',(Builtin.append_ #[t,t] ty #[v,.slice A m c]).run P w=.ok v' w'/\Own w' base e v' (bs++cs)/\w.grownBy w' v.ownBlock/\(v'.ownBlock=v.ownBlock∨v'.ownBlock=some w.heap.size):=by
 subst hm
 rcases A with _|ad
 ·have hcs:cs=[]:=by
   rcases hr with h|⟨_,_,h,_⟩
   ·exact h
   ·cases h
  subst hcs
  refine ⟨v,w,?_,by simpa using hown,World.grownBy.refl w _,.inl rfl⟩
  rcases hown.2 with ⟨rfl,_⟩|⟨g,cap,cur,rfl,_,_,hnc,_⟩
  ·simp[Builtin.append_,run_underlying ht,sizeOf,typeInfo,hi,Builtin.lenOf,Builtin.firstCells]
  ·simp[Builtin.append_,run_underlying ht,sizeOf,typeInfo,hi,Builtin.lenOf,Builtin.firstCells,hnc,storeCells]
 ·have hnews:∀j u,(cs.map Bv)[j]?=some u->w.cell? (ad.add j)=some u:=by
   intro j u hu
   have hj:j<cs.length:=by have:=(List.getElem?_eq_some_iff.1 hu).1;simpa using this
   obtain⟨ad',e',_,hc⟩:=hr.src (by omega)
   injection e' with e'
   subst e'
   exact hc j u hu
  obtain⟨v',w',hrun,h2,h3,_,h5⟩:=run_append_own_at (P:=P) w base t ty e i (.int .u8 0) 1 1 ht hi hz hsize hby rfl (by omega) v bs.length (bs.map Bv) hown ad cs.length c (cs.map Bv) (by simp) hnews (vals_one cs) (by unfold maxLen;omega) (by omega) hbase
  exact⟨v',w',hrun,by simpa[Own] using h2,h3,h5⟩
theorem wpList_append_rd {P:Program} {w:World} {ops:Array Oper} {rest:List Oper} {o:Oper} {a:Act} {Q:Exit->Act->World->Prop} (hgd:o.guard=none) (s x:Operand) (t:TypeId)
  (ho:o.op=.call { callee:=.builtin .append,args:=#[s,x],argTypes:=#[t,t] }) (base:Nat) (e:TypeId) (i:TypeInfo) (ht:P.underlying t=some (.slice e)) (hi:P.info? e=some i) (hz:i.zero=some (.int .u8 0)) (hsize:i.size=1) (hby:i.bytes=1)
  (v:Value) (bs:LU) (hs:a.eval s=v) (hown:Own w base e v bs) (A:OA) (cs:LU) (m c:Nat) (hx:a.eval x=.slice A m c) (hr:Rd w A cs) (hm:cs.length=m) (hl:bs.length+m<=140737488355328) (hbase:base<=w.heap.size)
  (h:∀v' w',Own w' base e v' (bs++cs)->(∀w0,Below base w0 w->Below base w0 w')->(v'.ownBlock=v.ownBlock∨v'.ownBlock=some w.heap.size)->w.grownBy w' v.ownBlock->wpList P ops Q rest (a.put o.dst v') w'):wpList P ops Q (o::rest) a w:=by
 refine wpList_plain hgd fun K hK=>?_
 obtain⟨v',w',hrun,h2,h3,h4⟩:=run_append_rd (P:=P) w base t o.type e i ht hi hz hsize hby v bs hown A cs m c hr hm hl hbase
 unfold Oper.wp execOp
 simp only[ho,resolve,invoke,builtin,Sem.run_bind,Sem.run_pure,Result.andThen_ok,List.map_toArray,List.map_cons,List.map_nil,hs,hx,hrun]
 exact hK _ _ (h v' w' h2 (fun w0 hb=>hb.grown h3 hbase hown.base_le) h4 h3)
theorem op_append_rd {P:Program} {w:World} {o:Oper} {a:Act} {K:Act->World->Prop} {Q:Exit->Act->World->Prop} (s x:Operand) (t:TypeId)
  (ho:o.op=.call { callee:=.builtin .append,args:=#[s,x],argTypes:=#[t,t] }) (base:Nat) (e:TypeId) (i:TypeInfo) (ht:P.underlying t=some (.slice e)) (hi:P.info? e=some i) (hz:i.zero=some (.int .u8 0)) (hsize:i.size=1) (hby:i.bytes=1)
  (v:Value) (bs:LU) (hs:a.eval s=v) (hown:Own w base e v bs) (A:OA) (cs:LU) (m c:Nat) (hx:a.eval x=.slice A m c) (hr:Rd w A cs) (hm:cs.length=m) (hl:bs.length+m<=140737488355328) (hbase:base<=w.heap.size)
  (h:∀v' w',Own w' base e v' (bs++cs)->(∀w0,Below base w0 w->Below base w0 w')->K (a.put o.dst v') w'):Oper.wp P o a w K Q:=by
 obtain⟨v',w',hrun,h2,h3,h4⟩:=run_append_rd (P:=P) w base t o.type e i ht hi hz hsize hby v bs hown A cs m c hr hm hl hbase
 unfold Oper.wp execOp
 simp only[ho,resolve,invoke,builtin,Sem.run_bind,Sem.run_pure,Result.andThen_ok,List.map_toArray,List.map_cons,List.map_nil,hs,hx,hrun]
 exact h v' w' h2 (fun w0 hb=>hb.grown h3 hbase hown.base_le)
theorem byte_info:(Tryz.prog.info? 5).map (fun i=>(i.zero,i.size,i.bytes))=some (some (.int .u8 0),1,1):=by kernel_rfl
theorem ret_int {k:IntKind} {a b:Int} (h:a=b):Ending.returned (.int k a)=.returned (.int k b):=by rw[h]
def Touch (g:Nat) (w w':World):Prop:=w.grownBy w' (some g)
theorem Touch.refl (g:Nat) (w:World):Touch g w w:=World.grownBy.refl w _
theorem Touch.trans {g:Nat} {a b c:World} (h:Touch g a b) (k:Touch g b c):Touch g a c:=World.grownBy.trans h k
theorem Touch.set_ {g:Nat} {a w:World} (h:Touch g a w) (i:Nat) (v:Value):Touch g a (w.setCell ⟨g,i,none⟩ v):=
 h.trans ⟨rfl,rfl,rfl,by simp[World.setCell],fun k _ hk=>Below.heap_setCell w ⟨g,i,none⟩ v k (fun e=>hk (by rw[e]))⟩
theorem Touch.of_below {g:Nat} {w w':World} (h:Below w.heap.size w w'):Touch g w w':=⟨h.os,h.tape,h.output,h.size,fun k hk _=>h.block k hk⟩
theorem Touch.below {g B:Nat} {w0 w w':World} (h:Touch g w w') (hb:Below B w0 w) (hB:B<=w.heap.size) (hg:B<=g):Below B w0 w':=
 hb.grown h hB (fun k hk=>by cases hk;exact hg)
theorem Touch.size {g:Nat} {w w':World} (h:Touch g w w'):w.heap.size<=w'.heap.size:=World.grownBy.size h
theorem Touch.blk {g g':Nat} {w w':World} {t:TypeId} {cs:Array Value} (h:Touch g w w') (hB:Blk w g' t cs) (hne:g'≠g):Blk w' g' t cs:=
 (World.grownBy.block h g' hB.lt (fun e=>hne (by cases e;rfl))).trans hB
theorem Touch.rd {g:Nat} {w w':World} {A:OA} {bs:LU} (h:Touch g w w') (hr:Rd w A bs) (hne:∀off,A≠some ⟨g,off,none⟩∨bs=[]):Rd w' A bs:=by
 rcases hr with rfl|⟨g',off,rfl,hg,hc⟩
 ·exact .inl rfl
 ·rcases hne off with hn | rfl
  ·refine .inr ⟨g',off,rfl,Nat.lt_of_lt_of_le hg h.size,fun i hi=>?_⟩
   have e:=World.grownBy.block h g' hg (fun e=>hn (by cases e;rfl))
   exact (World.cell?_of_block (a:=⟨g',off+i,none⟩) e).trans (hc i hi)
  ·exact .inl rfl
theorem blk2 {w:World} {g:Nat} {t:TypeId} {a b:Value} (hB:Blk w g t #[a,b]):
  w.cell? ⟨g,0,none⟩=some a/\w.cell? ⟨g,1,none⟩=some b/\w.frozen? ⟨g,0,none⟩=false/\w.frozen? ⟨g,1,none⟩=false:=
 ⟨hB.cell 0,hB.cell 1,hB.frozen 0,hB.frozen 1⟩
theorem run_head (A:OA) (n cap k:Nat) (hk:k<=n) (hc:n<=cap) (W:World):
  (Instr.slice 29 (.slice A n cap) none (some (.int .i64 (k:Int))) none).run Tryz.prog W=.ok (.slice A k cap) W:=by
 have h1:(0:Int)<=(k:Int):=by omega
 have h2:(k:Int)<=(cap:Int):=by omega
 go_simp
theorem Rd.drewN {w:World} {A:OA} {bs:LU} (h:Rd w A bs) (n:Nat):Rd (w.drewN n) A bs:=h
theorem str_below {w w':World} {A:OA} {bs:LU} {n:Nat} (c:Nat) (hr:Rd w A bs) (hn:bs.length=n) (hb:Below w.heap.size w w'):
  Sem.run Tryz.prog (convert 29 9 (.slice A n c)) w'=.ok (.string ⟨bs.toArray⟩) w':=
 run_str (P:=Tryz.prog) w' A bs n c (hr.below hb) hn 29 5 9 Tryz.underlying29 Tryz.underlying5 Tryz.underlying9
section
variable {P:Program} {md:Region.Mode} {ops:Array Oper} {Q:Exit->Act->World->Prop} {S:World->Prop}
theorem wpAnyH_pr {i j:Nat} {oi oj:Oper} {fuel:Nat} {listed:Array Bool} {a:Act} {w:World} (hr:Region.ready md ops listed=[i,j]) (hi:ops.toList[i]?=some oi) (hj:ops.toList[j]?=some oj)
  (hw:Region.wanted oi (yielded ops a.tmps)=true) (hw':Region.wanted oj (yielded ops a.tmps)=true)
  (h:∀K:Act->World->Prop,Hid (∀a w,S w->wpAnyH P md ops Q S fuel (listed.setIfInBounds i true) a w->K a w)->Oper.wp P oi a w K Q)
  (h':∀K:Act->World->Prop,Hid (∀a w,S w->wpAnyH P md ops Q S fuel (listed.setIfInBounds j true) a w->K a w)->Oper.wp P oj a w K Q):wpAnyH P md ops Q S (fuel+1) listed a w:=by
 refine wpAnyH_ready hr (by simp) (AllReadyH.cons (by simpa using hi) (fun K hK=>?_) (AllReadyH.cons (by simpa using hj) (fun K hK=>?_) AllReadyH.nil))
 ·rw[if_pos hw]
  exact h K (fun a w hS hW=>hK.out a w hS (fun _=>hW))
 ·rw[if_pos hw']
  exact h' K (fun a w hS hW=>hK.out a w hS (fun _=>hW))
end
end
section
open Go.RowKit
theorem tab_size:(Lib.len8tab.size:Int)=256:=by rw[Lib.len8tab_size];rfl
theorem tab_at (y:Int) (h:y.toNat<Lib.len8tab.size):((Lib.len8tab[y.toNat]'h).toNat:Int)=Lib.len8 y:=by
 unfold Lib.len8
 rw[getElem?_pos Lib.len8tab y.toNat h];rfl
theorem wrap_two (k a b:Nat) (hk:k<=56) (ha:a<=8) (hb:b=k+a):wrap64 ((k:Int)+wrap64 (a:Int))=(b:Int):=by
 unfold wrap64;omega
theorem len_way (x k:Nat) (z:Int) (j:Nat) (h:z.toNat<Lib.len8tab.size) (hx:x<2 ^ 64) (hk:k<=56) (h1:j=2 ^ k) (hj:k=0∨j<=x) (hz:z=((x / j:Nat):Int)):
  wrap64 ((k:Int)+wrap64 ((Lib.len8tab[z.toNat]'h).toNat:Int))=(Lib.bitLen x:Int):=by
 subst h1
 generalize hq:x / 2 ^ k=q at *
 have hs:=tab_size
 have hl:q<256:=by omega
 rw[tab_at z h,Lib.len8_of _ (by omega) (by omega),show z.toNat=q by omega]
 refine wrap_two k _ _ hk (Lib.bitLen_le8 ⟨q,hl⟩) ?_
 rcases hj with rfl|hj
 ·simp at hq;simp[hq]
 ·rw[Lib.bitLen_shift k x hj hx,hq]
theorem len64_int (x:Int) (w:World) (h0:0<=x) (h1:x<=18446744073709551615):
  Calls Tryz.prog 125 #[.int .u64 x] w fun e w'=>e=.returned (.int .i64 (Lib.bitLen x.toNat:Int))/\w=w':=by
 go_enter Tryz.func125,Tryz.ntmps125
 go_wp2
 all_goals first
  | (go_ret;refine ⟨congrArg Ending.returned (congrArg (Value.int IntKind.i64) ?_),rfl⟩)
  | (exfalso;have hs:=tab_size;omega)
 ·exact len_way x.toNat 56 _ 72057594037927936 _ (by omega) (by decide) rfl (.inr (by omega)) (by omega)
 ·exact len_way x.toNat 48 _ 281474976710656 _ (by omega) (by decide) rfl (.inr (by omega)) (by omega)
 ·exact len_way x.toNat 40 _ 1099511627776 _ (by omega) (by decide) rfl (.inr (by omega)) (by omega)
 ·exact len_way x.toNat 32 _ 4294967296 _ (by omega) (by decide) rfl (.inr (by omega)) (by omega)
 ·exact len_way x.toNat 24 _ 16777216 _ (by omega) (by decide) rfl (.inr (by omega)) (by omega)
 ·exact len_way x.toNat 16 _ 65536 _ (by omega) (by decide) rfl (.inr (by omega)) (by omega)
 ·exact len_way x.toNat 8 _ 256 _ (by omega) (by decide) rfl (.inr (by omega)) (by omega)
 ·have hs:=tab_size
  have h:=len_way x.toNat 0 x 1 (by omega) (by omega) (by decide) rfl (.inl rfl) (by omega)
  simpa using h
theorem or1 (n:Nat) (h:n<2 ^ 64):bits .or .u64 (n:Int) 1=((n ||| 1:Nat):Int):=u64_or_nat n 1 h (by decide)
theorem size_any (n:Nat) (w:World) (hn:n<2 ^ 64):
  Calls Tryz.prog 92 #[.int .u64 (n:Int)] w fun e w'=>e=.returned (.int .i64 ((Wire.put n).length:Int))/\w=w':=by
 have HN:=Jh hn
 have hor:=or1 n hn
 have hlt:n ||| 1<2 ^ 64:=Nat.or_lt_two_pow hn (by decide)
 have HL:=Jh (Wire.put_len n hn)
 have hb:=Lib.bitLen_le (n ||| 1) 64 (by decide) hlt
 generalize hm:n ||| 1=m at *
 clear hm hn
 have H0:Hid ((0:Int)<=(m:Int)/\(m:Int)<=18446744073709551615):=⟨by omega,by omega⟩
 clear hlt
 go_enter Tryz.func92,Tryz.ntmps92
 go_wp2_with fail
 refine (len64_int (m:Int) _ H0.o.1 H0.o.2).mono ?_
 rintro e w1 ⟨rfl,rfl⟩
 rw[show ((m:Int)).toNat=m from rfl]
 go_wp2_with fail
 go_ret
 refine ⟨?_,rfl⟩
 rw[HL.o]
 exact ret_int (a:=((Lib.bitLen m:Int)+7-1) / 7) (by omega)
theorem wcopied_at (A:OA) (bs:LU) (n cap r m:Nat) (ri:Int) (hri:ri=(r:Int)) (hn:bs.length=n) (hm:n+r=m) (hl:m<=140737488355328) (w:World) (hr:Rd w A bs):
  Calls Tryz.prog 43 #[.slice A n cap,.int .i64 ri] w fun e w'=>∃g Z,e=.returned (.slice (some ⟨g,0,none⟩) n m)/\w.heap.size<=g/\Below w.heap.size w w'/\Blk w' g 5 (bs.map Bv++Z).toArray/\Z.length=r:=by
 subst hn
 subst hm
 subst hri
 obtain⟨i0,hi0,hz0,hz1,hz2⟩:=info_parts byte_info
 have hmk:=fun W=>run_make (P:=Tryz.prog) W 29 5 i0 _ Tryz.underlying29 hi0 hz0 .i64 .i64 bs.length (bs.length+r) (by omega) (by omega) (by rw[hz2];omega) (by omega)
 obtain⟨Z,hZ⟩:∃Z:List Value,Z=(madeCells #[Value.int IntKind.u8 0] (bs.length+r)).toList:=⟨_,rfl⟩
 have HZ:=Jh hZ
 clear hZ
 have hZl:Z.length=bs.length+r:=by rw[HZ.o];simp[size_madeCells]
 have HZl:=Jh hZl
 clear hZl
 have hr1:∀o:Obj,Rd (w.alloc o) A bs:=fun o=>hr.below ((Below.refl _ _).alloc (Jn) o)
 go_enter Tryz.func43,Tryz.ntmps43
 go_wp2_with (refine wpList_copy_rd rfl (.tmp 13) (.tmp 14) 29 29 rfl 5 Tryz.underlying29 (by kernel_rfl) w.heap.size bs.length (bs.length+r) A bs.length cap (by rfl) (by rfl) bs (hr1 _) (by simp) Z 5 (by rw[HZ.o];exact heap_alloc_new _ _) (by rw[HZl.o];omega) ?_;intro w2 hB2 hb2')
 have hb2:=hb2' w.heap.size w ((Below.refl _ _).alloc (Jn) _) (Jn)
 go_ret
 exact⟨w.heap.size,Z.drop bs.length,rfl,Jn,hb2,hB2,by rw[List.length_drop,HZl.o];omega⟩
theorem or128 (n:Nat):bits .or .u8 ((n:Int) % 256) 128=(((UInt8.ofNat (n % 128+128)).toNat:Nat):Int):=by
 have h:∀x:Fin 256,x.val ||| 128=x.val % 128+128:=by decide +kernel
 have e:=u8_or_nat (n % 256) 128 (by omega) (by decide)
 have h':=h ⟨n % 256,by omega⟩
 simp only at h'
 rw[h'] at e
 have:(UInt8.ofNat (n % 128+128)).toNat=n % 128+128:=by simp;omega
 rw[this]
 refine Eq.trans ?_ (e.trans ?_)
 ·rfl
 ·omega
theorem byte_of (n:Nat) (h:n<128):(n:Int)=(((UInt8.ofNat n).toNat:Nat):Int):=by
 have:(UInt8.ofNat n).toNat=n:=by simp;omega
 rw[this]
theorem lay_step (bs pre:LU) (Z:List Value) (x:UInt8) (n k:Nat) (hn:bs.length+k=n) (hk:pre.length=k):
  (((bs++pre).map Bv++Z.drop k).take n++[Value.int .u8 (x.toNat:Int)]++((bs++pre).map Bv++Z.drop k).drop (n+1)).toArray=((bs++(pre++[x])).map Bv++Z.drop (k+1)).toArray:=by
 have hl:((bs++pre).map Bv).length=n:=by simp;omega
 have e1:((bs++pre).map Bv++Z.drop k).take n=(bs++pre).map Bv:=by
  rw[List.take_append_of_le_length (by omega)];exact List.take_of_length_le (by omega)
 have e2:((bs++pre).map Bv++Z.drop k).drop (n+1)=Z.drop (k+1):=by
  rw[List.drop_append,List.drop_eq_nil_of_le (by omega),hl,List.nil_append,List.drop_drop]
  congr 1;omega
 rw[e1,e2]
 simp[Bv]
theorem blk_step {w:World} {g:Nat} {t:TypeId} {bs pre:LU} {Z:List Value} {x:UInt8} {n k:Nat} {v:Int} (hv:v=(x.toNat:Int)) (hn:bs.length+k=n) (hk:pre.length=k)
  (h:Blk w g t (((bs++pre).map Bv++Z.drop k).take n++[Value.int .u8 v]++((bs++pre).map Bv++Z.drop k).drop (n+1)).toArray):Blk w g t ((bs++(pre++[x])).map Bv++Z.drop (k+1)).toArray:=by
 subst hv
 rw[lay_step bs pre Z x n k hn hk] at h;exact h
theorem lay_at (g:Nat) (bs:LU) (Z:List Value) (n cap m L:Nat) (hn:bs.length=n) (hc:n+Z.length=cap) (hm:m<2 ^ 64) (hL:n+(Wire.put m).length=L) (hfit:(Wire.put m).length<=Z.length) (hl:cap<=140737488355328) (w:World)
  (hB:Blk w g 5 (bs.map Bv++Z).toArray):
  Calls Tryz.prog 91 #[.slice (some ⟨g,0,none⟩) n cap,.int .u64 (m:Int)] w fun e w'=>e=.returned (.slice (some ⟨g,0,none⟩) L cap)/\Blk w' g 5 ((bs++Wire.put m).map Bv++Z.drop (Wire.put m).length).toArray/\(∀B w0,Below B w0 w->B<=g->Below B w0 w'):=by
 obtain⟨i0,hi0,hz0,hz1,hz2⟩:=info_parts byte_info
 have HN:=Jh hn
 have HC:=Jh hc
 have HM:=Jh hm
 have HL:=Jh hL
 have hp1:=Wire.put_pos m
 have hp2:=Wire.put_len_le m hm
 have hcap:n+(Wire.put m).length<=cap:=by omega
 clear hn hc hm hL
 generalize hlen:(Wire.put m).length=len at *
 have HE:=Jh hlen
 clear hlen
 go_enter Tryz.func91,Tryz.ntmps91
 go_wp2_with fail
 refine (size_any m _ HM.o).mono ?_
 rintro e w1 ⟨rfl,rfl⟩
 rw[HE.o]
 go_wp2_with fail
 go_loopw [0,1,8] (fun v x i wr=>∃(pre:LU) (q:Nat),Wire.put m=pre++Wire.put q/\Hid (q<2 ^ 64)/\v=.slice (some ⟨g,0,none⟩) (n+pre.length) cap/\x=.int .u64 (q:Int)/\i=.int .i64 (pre.length:Int)/\Blk wr g 5 ((bs++pre).map Bv++Z.drop pre.length).toArray/\(∀B w0,Below B w0 w->B<=g->Below B w0 wr)) (fun _ _ i _=>len-(intOf i).toNat)
 case atStart=>exact⟨[],m,rfl,HM,rfl,rfl,rfl,by simpa using hB,fun _ _ h _=>h⟩
 case round=>
  obtain⟨pre,q,hpq,hq,rfl,rfl,rfl,hBr,hbr⟩:=hrel
  have hll:len=pre.length+(Wire.put q).length:=by rw[<-HE.o,hpq,List.length_append]
  have HPQ:=Jh hpq
  have HLL:=Jh hll
  have hqp:=Wire.put_pos q
  clear hpq
  have hprel:pre.length<len:=by omega
  clear hll
  generalize hk:pre.length=k at *
  have HK:=Jh hk
  clear hk
  have hnew:=fun vs=>Blk.src (cs:=vs) (Blk.new wr 5 vs.toArray)
  have hBa:=fun O=>hBr.alloc O
  by_cases hlt:k+1<len
  ·have hq128:128<=q:=by
    rcases Nat.lt_or_ge q 128 with h|h
    ·have:=HLL.o;rw[Wire.put_lo q h] at this;simp at this;omega
    ·exact h
   have hd1:(k:Int)<(len:Int)-1:=by omega
   have HF:Hid (n+k+1<=cap):=by show _<=_;omega
   have HG:Hid (n+k+1<=((bs++pre).map Bv++Z.drop k).length):=by
    show _<=_
    simp[HN.o,HK.o];omega
   go_wp2_with (at_builtin;refine wpList_append_fit rfl (.tmp 10) (.tmp 14) 29 rfl 5 i0 Tryz.underlying29 hi0 hz1 g (n+k) cap ((bs++pre).map Bv++Z.drop k) (by rfl) (hBa _) ⟨wr.heap.size,0,none⟩ 1 1 [.int .u8 (bits .or .u8 ((q:Int) % 256) 128)] (by rfl) (by rfl) (hnew _) (by intro u hu;simp at hu;subst hu;rfl) HF.o HG.o ?_;intro w4 hB4 hb4')
   go_roundw
   case rel=>
    refine ⟨pre++[UInt8.ofNat (q % 128+128)],q / 128,?_,?_,?_,?_,?_,?_,?_⟩
    ·rw[HPQ.o,Wire.put_hi q hq128];simp
    ·have:=hq.o;exact (by omega:q / 128<2 ^ 64)
    ·simp[HK.o];omega
    ·go_num
    ·simp[HK.o]
    ·rw[List.length_append,List.length_singleton,HK.o]
     exact blk_step (or128 q) (by rw[HN.o]) HK.o hB4
    ·intro B w0 h hg
     have hg2:=hBr.lt
     exact hb4' B w0 ((hbr B w0 h hg).alloc (by omega) _) hg
   case measure=>simp[intOf];omega
  ·have hq128:q<128:=by
    rcases Nat.lt_or_ge q 128 with h|h
    ·exact h
    ·have:=HLL.o;rw[Wire.put_hi q h] at this;simp at this
     have:=Wire.put_pos (q / 128);omega
   have hd1:¬(k:Int)<(len:Int)-1:=by omega
   have HF:Hid (n+k+1<=cap):=by show _<=_;omega
   have HG:Hid (n+k+1<=((bs++pre).map Bv++Z.drop k).length):=by
    show _<=_
    simp[HN.o,HK.o];omega
   go_wp2_with (at_builtin;refine wpList_append_fit rfl (.tmp 19) (.tmp 22) 29 rfl 5 i0 Tryz.underlying29 hi0 hz1 g (n+k) cap ((bs++pre).map Bv++Z.drop k) (by rfl) (hBa _) ⟨wr.heap.size,0,none⟩ 1 1 [.int .u8 (q:Int)] (by rfl) (by rfl) (hnew _) (by intro u hu;simp at hu;subst hu;rfl) HF.o HG.o ?_;intro w4 hB4 hb4')
   go_ret
   have h1:(Wire.put q).length=1:=by rw[Wire.put_lo q hq128];rfl
   have h2:len=k+1:=by have:=HLL.o;omega
   refine ⟨?_,?_,?_⟩
   ·rw[<-HL.o,h2];rfl
   ·rw[HPQ.o,Wire.put_lo q hq128,h2]
    simpa using blk_step (byte_of q hq128) (by rw[HN.o]) HK.o hB4
   ·intro B w0 h hg
    have hg2:=hBr.lt
    exact hb4' B w0 ((hbr B w0 h hg).alloc (by omega) _) hg
theorem put_at (A:OA) (bs:LU) (n cap m L:Nat) (hn:bs.length=n) (hL:n+(Wire.put m).length=L) (hm:m<2 ^ 64) (hl:L<=140737488355328) (w:World) (hr:Rd w A bs):
  Calls Tryz.prog 61 #[.slice A n cap,.int .u64 (m:Int)] w fun e w'=>∃g,e=.returned (.slice (some ⟨g,0,none⟩) L L)/\w.heap.size<=g/\Below w.heap.size w w'/\Blk w' g 5 ((bs++Wire.put m).map Bv).toArray:=by
 have HN:=Jh hn
 have HM:=Jh hm
 have HL:=Jh hL
 clear hn hm hL
 go_enter Tryz.func61,Tryz.ntmps61
 go_wp2_with fail
 refine (size_any m _ HM.o).mono ?_
 rintro e w1 ⟨rfl,rfl⟩
 go_wp2_with fail
 refine (wcopied_at A bs n cap (Wire.put m).length L _ rfl HN.o HL.o hl w hr).mono ?_
 rintro e w1 ⟨g,Z,rfl,hg,hb,hB,hZ⟩
 have HZ:=Jh hZ
 clear hZ
 go_wp2_with fail
 refine (lay_at g bs Z n L m L HN.o (by rw[HZ.o];exact HL.o) HM.o HL.o (by rw[HZ.o];omega) hl w1 hB).mono ?_
 rintro e w2 ⟨rfl,hB2,hb2⟩
 go_wp2_with fail
 go_ret
 refine ⟨g,rfl,hg,hb2 _ _ hb hg,?_⟩
 have hd:Z.drop (Wire.put m).length=[]:=List.drop_eq_nil_of_le (by rw[HZ.o];omega)
 rw[hd] at hB2
 simpa using hB2
theorem fold_eq (n:Int) (h1:-9223372036854775808<=n) (h2:n<=9223372036854775807):bits .xor .u64 (IntKind.u64.wrap (IntKind.u64.wrap n*2)) (IntKind.u64.wrap (n / 9223372036854775808))=((Wire.zig n:Nat):Int):=by
 rw[IntKind.wrap_u64,IntKind.wrap_u64,IntKind.wrap_u64]
 unfold Wire.zig
 by_cases h:n<0
 ·rw[if_pos h]
  have e1:n % 18446744073709551616*2 % 18446744073709551616=(((2*n+18446744073709551616).toNat:Nat):Int):=by omega
  have e2:n / 9223372036854775808 % 18446744073709551616=((2 ^ 64-1:Nat):Int):=by omega
  rw[e1,e2,bits_xor_u64_nat _ _ (by omega) (by decide),Nat.xor_comm,Lib.xor_ones64 _ (by omega)]
  omega
 ·rw[if_neg h]
  have e1:n % 18446744073709551616*2 % 18446744073709551616=(((2*n).toNat:Nat):Int):=by omega
  have e2:n / 9223372036854775808 % 18446744073709551616=((0:Nat):Int):=by omega
  rw[e1,e2,bits_xor_u64_nat _ _ (by omega) (by decide),Nat.xor_zero]
  omega
theorem folded_any (n:Int) (h1:-9223372036854775808<=n) (h2:n<=9223372036854775807) (w:World):
  Calls Tryz.prog 206 #[.int .i64 n] w fun e w'=>e=.returned (.int .u64 ((Wire.zig n:Nat):Int))/\w=w':=by
 have HE:=Jh (fold_eq n h1 h2)
 go_enter Tryz.func206,Tryz.ntmps206
 go_wp2
 go_ret
 refine ⟨?_,rfl⟩
 exact ret_int HE.o
theorem putInt_at (A:OA) (bs:LU) (n cap L:Nat) (m:Int) (hn:bs.length=n) (hL:n+(Wire.put (Wire.zig m)).length=L) (h1:-9223372036854775808<=m) (h2:m<=9223372036854775807) (hl:L<=140737488355328) (w:World) (hr:Rd w A bs):
  Calls Tryz.prog 184 #[.slice A n cap,.int .i64 m] w fun e w'=>∃g,e=.returned (.slice (some ⟨g,0,none⟩) L L)/\w.heap.size<=g/\Below w.heap.size w w'/\Blk w' g 5 ((bs++Wire.put (Wire.zig m)).map Bv).toArray:=by
 have HN:=Jh hn
 have HL:=Jh hL
 clear hn hL
 go_enter Tryz.func184,Tryz.ntmps184
 go_wp2_with fail
 refine (folded_any m h1 h2 _).mono ?_
 rintro e w1 ⟨rfl,rfl⟩
 have HM:=Jh (Wire.zig_lt m h1 h2)
 go_wp2_with fail
 refine (put_at A bs n cap (Wire.zig m) L HN.o HL.o HM.o hl w hr).mono ?_
 rintro e w2 ⟨g,rfl,hg,hb,hB⟩
 go_wp2_with fail
 go_ret
 exact⟨g,rfl,hg,hb,by simpa using hB⟩
theorem wpList_append_text {P:Program} {w:World} {ops:Array Oper} {rest:List Oper} {o:Oper} {a:Act} {Q:Exit->Act->World->Prop} (hgd:o.guard=none) (s x:Operand) (t u:TypeId)
  (ho:o.op=.call { callee:=.builtin .append,args:=#[s,x],argTypes:=#[t,u] }) (e:TypeId) (i:TypeInfo) (ht:P.underlying t=some (.slice e)) (hu:P.underlying u=some .string) (hi:P.info? e=some i) (hsize:i.size=1)
  (g n cap:Nat) (cur:List Value) (hs:a.eval s=.slice (some ⟨g,0,none⟩) n cap) (hg:Blk w g e cur.toArray)
  (ss:LU) (m:Nat) (hx:a.eval x=.string ⟨ss.toArray⟩) (hm:ss.length=m)
  (hroom:n+m<=cap) (hfit:n+m<=cur.length)
  (h:∀w',Blk w' g e (cur.take n++ss.map Bv++cur.drop (n+m)).toArray->(∀B w0,Below B w0 w->B<=g->Below B w0 w')->wpList P ops Q rest (a.put o.dst (.slice (some ⟨g,0,none⟩) (n+m) cap)) w'):wpList P ops Q (o::rest) a w:=by
 subst hm
 refine wpList_plain hgd fun K hK=>?_
 have hsz:(⟨ss.toArray⟩:ByteArray).size=ss.length:=rfl
 have hr:=Lib.run_append_room_string (P:=P) w t u o.type e i ht hu hi hsize g n cap cur.toArray hg ⟨ss.toArray⟩ (by rw[hsz];exact hroom) (by rw[hsz];simpa using hfit)
 unfold Oper.wp execOp
 simp only[ho,resolve,invoke,builtin,Sem.run_bind,Sem.run_pure,Result.andThen_ok,List.map_toArray,List.map_cons,List.map_nil,hs,hx,hr]
 refine hK _ _ (h _ ?_ fun B w0 hb hB=>below_setRow hb hB _)
 have e1:Lib.strCells ⟨ss.toArray⟩=ss.map Bv:=by simp[Lib.strCells,Bv]
 rw[hsz,e1]
 exact setRow_heap w g cur.toArray _ e _ hg
theorem putText_at (A:OA) (bs ss:LU) (n cap k L:Nat) (hn:bs.length=n) (hk:ss.length=k) (hL:n+(Wire.text ss).length=L) (hl:L<=140737488355328) (w:World) (hr:Rd w A bs):
  Calls Tryz.prog 62 #[.slice A n cap,.string ⟨ss.toArray⟩] w fun e w'=>∃g,e=.returned (.slice (some ⟨g,0,none⟩) L L)/\w.heap.size<=g/\Below w.heap.size w w'/\Blk w' g 5 ((bs++Wire.text ss).map Bv).toArray:=by
 obtain⟨i0,hi0,hz0,hz1,hz2⟩:=info_parts byte_info
 have hkk:k<2 ^ 64:=by
  have:(Wire.text ss).length=(Wire.put ss.length).length+ss.length:=by simp[Wire.text]
  omega
 have hkl:k<=140737488355328:=by
  have:(Wire.text ss).length=(Wire.put ss.length).length+ss.length:=by simp[Wire.text]
  omega
 have HS:Hid ((⟨ss.toArray⟩:ByteArray).size=k):=hk
 have HX:Hid (n+((Wire.put k).length+k)=L):=by
  show _=_
  rw[<-hL,<-hk];simp[Wire.text]
 have HT:Hid (Wire.text ss=Wire.put k++ss):=by
  show _=_
  rw[<-hk];rfl
 have hp2:=Wire.put_len_le k hkk
 have HN:=Jh hn
 have HK:=Jh hk
 have HKK:=Jh hkk
 clear hn hk hL hkk
 have hsz:(⟨ss.toArray⟩:ByteArray).size=k:=HS.o
 generalize hlen:(Wire.put k).length=len at *
 have HE:=Jh hlen
 clear hlen
 go_enter Tryz.func62,Tryz.ntmps62
 go_wp2_with fail
 refine (size_any k _ HKK.o).mono ?_
 rintro e w1 ⟨rfl,rfl⟩
 rw[HE.o]
 go_wp2_with fail
 refine (wcopied_at A bs n cap (len+k) L _ (by omega) HN.o HX.o hl w hr).mono ?_
 rintro e w1 ⟨g,Z,rfl,hg,hb,hB,hZ⟩
 have HZ:=Jh hZ
 clear hZ
 have HF:Hid (n+len+k<=L):=by have:=HX.o;show _<=_;omega
 have HA:Hid (n+len+k=L):=by have:=HX.o;show _=_;omega
 have HG:Hid (n+len+k<=((bs++Wire.put k).map Bv++Z.drop len).length):=by
  show _<=_
  simp[HN.o,HE.o,HZ.o];omega
 go_wp2_with fail
 refine (lay_at g bs Z n L k (n+len) HN.o (by rw[HZ.o];exact HX.o) HKK.o (by rw[HE.o]) (by rw[HZ.o,HE.o];omega) hl w1 hB).mono ?_
 rintro e w2 ⟨rfl,hB2,hb2⟩
 rw[HE.o] at hB2
 have hb3:=hb2 _ _ hb hg
 clear hb2
 go_wp2_with (at_builtin;refine wpList_append_text rfl (.tmp 19) (.tmp 20) 29 9 rfl 5 i0 Tryz.underlying29 Tryz.underlying9 hi0 hz1 g (n+len) L ((bs++Wire.put k).map Bv++Z.drop len) (by rfl) hB2 ss k (by rfl) HK.o HF.o HG.o ?_;intro w4 hB4 hb4')
 go_ret
 refine ⟨g,by rw[<-HA.o];rfl,hg,hb4' _ _ hb3 hg,?_⟩
 rw[HT.o]
 have hl1:((bs++Wire.put k).map Bv).length=n+len:=by simp[HN.o,HE.o]
 have e1:((bs++Wire.put k).map Bv++Z.drop len).take (n+len)=(bs++Wire.put k).map Bv:=by
  rw[List.take_append_of_le_length (by omega)];exact List.take_of_length_le (by omega)
 have e2:((bs++Wire.put k).map Bv++Z.drop len).drop (n+len+k)=[]:=by
  apply List.drop_eq_nil_of_le
  simp[HN.o,HE.o,HZ.o];omega
 rw[e1,e2] at hB4
 simpa using hB4
theorem and128_hi (x:UInt8) (hx:128<=x.toNat):bits .and .u8 (x.toNat:Int) 128=128:=by
 have h:∀y:Fin 256,128<=y.val->y.val &&& 128=128:=by decide +kernel
 have e:=u8_and_nat x.toNat 128 x.toNat_lt (by decide)
 rw[h ⟨x.toNat,x.toNat_lt⟩ hx] at e
 exact e
theorem and128_lo (x:UInt8) (hx:x.toNat<128):bits .and .u8 (x.toNat:Int) 128=0:=by
 have h:∀y:Fin 256,y.val<128->y.val &&& 128=0:=by decide +kernel
 have e:=u8_and_nat x.toNat 128 x.toNat_lt (by decide)
 rw[h ⟨x.toNat,x.toNat_lt⟩ hx] at e
 exact e
theorem not128 (x:UInt8):bits .andNot .u8 (x.toNat:Int) 128=((x.toNat % 128:Nat):Int):=by
 have e:=u8_andNot_nat x.toNat 128 x.toNat_lt (by decide)
 rw[show 255-128=127 from rfl,nat_mask7] at e
 exact e
theorem or_step (acc x p:Nat) (ha:acc<2 ^ (7*p)) (hp:p<=9) (hx:p<=8∨x % 128<=1):bits .or .u64 (acc:Int) (IntKind.u64.wrap ((x:Int) % 128*2 ^ (p*7)))=((acc+x % 128*128 ^ p:Nat):Int):=by
 have e1:(128:Nat) ^ p=2 ^ (7*p):=by rw[show (128:Nat)=2 ^ 7 from rfl,<-Nat.pow_mul]
 have hlt:x % 128*2 ^ (7*p)<2 ^ 64:=by
  rcases hx with h|h
  ·have:2 ^ (7*p)<=2 ^ 56:=Nat.pow_le_pow_right (by decide) (by omega)
   have h2:x % 128<128:=by omega
   calc x % 128*2 ^ (7*p)<=x % 128*2 ^ 56:=Nat.mul_le_mul_left _ this
    _<128*2 ^ 56:=Nat.mul_lt_mul_of_pos_right h2 (by decide)
    _<=2 ^ 64:=by decide
  ·have:2 ^ (7*p)<=2 ^ 63:=Nat.pow_le_pow_right (by decide) (by omega)
   calc x % 128*2 ^ (7*p)<=1*2 ^ 63:=Nat.mul_le_mul h this
    _<2 ^ 64:=by decide
 have hal:acc<2 ^ 64:=Nat.lt_of_lt_of_le ha (Nat.pow_le_pow_right (by decide) (by omega))
 have e2:((x:Int) % 128*2 ^ (p*7))=((x % 128*2 ^ (7*p):Nat):Int):=by
  rw[Nat.mul_comm 7 p];simp
 rw[e2,e1,IntKind.wrap_u64]
 generalize hz:x % 128*2 ^ (7*p)=z at *
 rw[show (z:Int) % 18446744073709551616=(z:Int) by omega,u64_or_nat acc z (by omega) (by omega),Nat.or_comm,nat_join (7*p) z acc (by rw[<-hz];exact Nat.mul_mod_left _ _) ha]
 omega
theorem mayEnd_any (x p:Nat) (hx:x<256) (hp:p<10) (b:Bool) (hb:Wire.mayEnd x p=b) (w:World):
  Calls Tryz.prog 164 #[.int .u8 (x:Int),.int .i64 (p:Int)] w fun e w'=>e=.returned (.bool b)/\w=w':=by
 have HB:=Jh hb
 clear hb
 by_cases h9:p=9
 ·subst h9
  by_cases h1:x=1
  ·subst h1
   go_enter Tryz.func164,Tryz.ntmps164
   go_wp2
   go_ret
   exact⟨by rw[<-HB.o];rfl,rfl⟩
  ·have hd:((x:Int) == 1)=false:=by simp;omega
   go_enter Tryz.func164,Tryz.ntmps164
   go_wp2
   go_ret
   exact⟨by rw[<-HB.o];simp[Wire.mayEnd,h1],rfl⟩
 ·have hd:((p:Int) == 9)=false:=by simp;omega
  by_cases h0:x=0
  ·subst h0
   by_cases hp0:p=0
   ·subst hp0
    go_enter Tryz.func164,Tryz.ntmps164
    go_wp2
    go_ret
    exact⟨by rw[<-HB.o];rfl,rfl⟩
   ·have hd2:((p:Int) == 0)=false:=by simp;omega
    go_enter Tryz.func164,Tryz.ntmps164
    go_wp2
    go_ret
    exact⟨by rw[<-HB.o];simp[Wire.mayEnd,h9,hp0],rfl⟩
  ·have hd2:((x:Int) != 0)=true:=by simp;omega
   go_enter Tryz.func164,Tryz.ntmps164
   go_wp2
   go_ret
   exact⟨by rw[<-HB.o];simp[Wire.mayEnd,h9,h0],rfl⟩
theorem ret_num {bs:LU} {t:Nat × Nat × Nat} (h:Wire.num bs=t) {a b c:Int} (h1:a=(t.1:Int)) (h2:b=(t.2.1:Int)) (h3:c=(t.2.2:Int)):
  Ending.returned (.tuple #[.int .u64 a,.int .i64 b,.int .i64 c])=.returned (.tuple #[.int .u64 ((Wire.num bs).1:Int),.int .i64 ((Wire.num bs).2.1:Int),.int .i64 ((Wire.num bs).2.2:Int)]):=by
 rw[h,h1,h2,h3]
theorem scan_cons (f p acc:Nat) (x:UInt8) (r:LU):Wire.scan (f+1) p acc (x::r)=if 128<=x.toNat then Wire.scan f (p+1) (acc+x.toNat % 128*128 ^ p) r
  else if Wire.mayEnd x.toNat p then (acc+x.toNat*128 ^ p,p+1,0) else (0,0,3):=rfl
theorem number_at (A:OA) (bs:LU) (n cap:Nat) (hn:bs.length=n) (hl:n<=140737488355328) (w:World) (hr:Rd w A bs):
  Calls Tryz.prog 136 #[.slice A n cap] w fun e w'=>e=.returned (.tuple #[.int .u64 ((Wire.num bs).1:Int),.int .i64 ((Wire.num bs).2.1:Int),.int .i64 ((Wire.num bs).2.2:Int)])/\w=w':=by
 have HN:=Jh hn
 clear hn
 go_enter Tryz.func136,Tryz.ntmps136
 go_wp2_with fail
 go_loop [5,8] (fun x i=>∃(p acc:Nat) (z:Int),p<=10/\p<=n/\i=.int .i64 (p:Int)/\x=.int .u64 z/\Hid (p<=9->z=(acc:Int)/\acc<2 ^ (7*p))/\Hid (Wire.num bs=Wire.scan (10-p) p acc (bs.drop p))) (fun _ i=>10-(intOf i).toNat)
 case atStart=>exact⟨0,0,0,by omega,by omega,rfl,rfl,fun _=>by simp,rfl⟩
 case round=>
  obtain⟨p,acc,z,hp,hpn,rfl,rfl,hacc,HI⟩:=hrel
  by_cases h10:p=10
  ·subst h10
   go_wp2
   go_ret3
   exact⟨ret_num HI.o rfl rfl rfl,rfl⟩
  ·have hlt:p<10:=by omega
   obtain⟨f,hf⟩:∃f,10-p=f+1:=⟨9-p,by omega⟩
   have HF:=Jh hf
   clear hf
   obtain⟨hz,hal⟩:=hacc.o (by omega)
   subst hz
   have HA:=Jh hal
   clear hal hacc
   by_cases hpl:p=n
   ·subst hpl
    go_wp2
    go_ret3
    refine ⟨ret_num (t:=(0,0,2)) ?_ rfl rfl rfl,rfl⟩
    rw[HI.o,List.drop_eq_nil_of_le (by rw[HN.o];omega),HF.o];rfl
   ·obtain⟨g,off,rfl,hg,hc⟩:=hr.at_ (k:=p) (by rw[HN.o];omega)
    have hdr:bs.drop p=bs[p]'(by rw[HN.o];omega)::bs.drop (p+1):=List.drop_eq_getElem_cons _
    generalize hX:bs[p]'(by rw[HN.o];omega)=x at *
    clear hX
    have HD:=Jh hdr
    clear hdr
    have hx:x.toNat<256:=x.toNat_lt
    have h1:=not128 x
    have h3:p<n:=by omega
    have h4:((p:Int) == (n:Int))=false:=by simp;omega
    have HSc:Hid (Wire.num bs=if 128<=x.toNat then Wire.scan f (p+1) (acc+x.toNat % 128*128 ^ p) (bs.drop (p+1)) else if Wire.mayEnd x.toNat p then (acc+x.toNat*128 ^ p,p+1,0) else (0,0,3)):=by
     show _=_
     rw[HI.o,HF.o,HD.o,scan_cons]
    by_cases hhi:128<=x.toNat
    ·have h2:=and128_hi x hhi
     go_wp2_with fail
     go_round
     case rel=>
      refine ⟨p+1,acc+x.toNat % 128*128 ^ p,_,by omega,by omega,by go_num,rfl,?_,?_⟩
      ·intro h9
       refine ⟨or_step acc x.toNat p HA.o (by omega) (.inl (by omega)),?_⟩
       have e1:(128:Nat) ^ p=2 ^ (7*p):=by rw[show (128:Nat)=2 ^ 7 from rfl,<-Nat.pow_mul]
       have hz:=HA.o
       rw[e1,Nat.mul_add,Nat.pow_add]
       have:x.toNat % 128*2 ^ (7*p)<=127*2 ^ (7*p):=Nat.mul_le_mul_right _ (by omega)
       omega
      ·show _=_
       rw[HSc.o,if_pos hhi,show 10-(p+1)=f by have:=HF.o;omega]
     case measure=>simp[intOf];omega
    ·have hlo:x.toNat<128:=by omega
     have h2:=and128_lo x hlo
     cases hme:Wire.mayEnd x.toNat p with
     | true=>
      have HM:=Jh hme
      clear hme
      go_wp2_with fail
      refine (mayEnd_any x.toNat p hx hlt true HM.o _).mono ?_
      rintro e w1 ⟨rfl,rfl⟩
      go_wp2_with fail
      go_ret3
      have hm:x.toNat % 128=x.toNat:=by omega
      have ho:=or_step acc x.toNat p HA.o (by omega) (by
       by_cases h9:p=9
       ·right
        have:=HM.o
        simp[Wire.mayEnd,h9] at this
        omega
       ·left;omega)
      refine ⟨ret_num (t:=(acc+x.toNat*128 ^ p,p+1,0)) ?_ (by rw[hm] at ho;exact ho) (by simp) rfl,rfl⟩
      rw[HSc.o,if_neg hhi,if_pos HM.o]
     | false=>
      have HM:=Jh hme
      clear hme
      go_wp2_with fail
      refine (mayEnd_any x.toNat p hx hlt false HM.o _).mono ?_
      rintro e w1 ⟨rfl,rfl⟩
      go_wp2_with fail
      go_ret3
      refine ⟨ret_num (t:=(0,0,3)) ?_ rfl rfl rfl,rfl⟩
      rw[HSc.o,if_neg hhi,if_neg (by rw[HM.o];simp)]
theorem rd_apart {w:World} {g:Nat} {t:TypeId} {a:OA} {n c:Nat} {z:Int} {A:OA} {bs:LU} (hB:Blk w g t #[.slice a n c,.int .i64 z]) (hr:Rd w A bs) (off:Nat):A≠some ⟨g,off,none⟩∨bs=[]:=by
 rcases hr with rfl|⟨g',off',rfl,hg,hc⟩
 ·exact .inr rfl
 ·by_cases h0:bs=[]
  ·exact .inr h0
  ·refine .inl fun e=>?_
   cases e
   have hl:0<bs.length:=List.length_pos_iff.2 h0
   have h:=hc 0 hl
   rw[hB.cell] at h
   rcases off with _|_|off
   ·simp at h
   ·simp at h
   ·simp at h
def Ahd (A:OA) (g:Nat):Prop:=∀a,A=some a->a.block<g
theorem run_cutH {w:World} {A:OA} {bs:LU} {n cap k g:Nat} (hr:Rd w A bs) (hn:bs.length=n) (hk:k<=n) (hc:n<=cap) (ha:Ahd A g):
  ∃A',(∀W,(Instr.slice 29 (.slice A n cap) (some (.int .i64 (k:Int))) none none).run Tryz.prog W=.ok (.slice A' (n-k) (cap-k)) W)/\Rd w A' (bs.drop k)/\Ahd A' g:=by
 by_cases hck:cap=k
 ·refine ⟨A,fun W=>?_,.inl (List.drop_eq_nil_of_le (by omega)),ha⟩
  have h1:(0:Int)<=(k:Int):=by omega
  have h2:(k:Int)<=(n:Int):=by omega
  subst hck
  go_simp
 ·refine ⟨A.map fun x=>x.add k,fun W=>?_,?_,fun a h=>?_⟩
  ·have h1:(0:Int)<=(k:Int):=by omega
   have h2:(k:Int)<=(n:Int):=by omega
   go_simp
  ·rcases hr with rfl | ⟨g,off,rfl,hg,hcell⟩
   ·exact .inl (by simp)
   ·refine .inr ⟨g,off+k,by simp[add_lit],hg,fun i hi=>?_⟩
    have hi':k+i<bs.length:=by simp at hi;omega
    rw[List.getElem_drop,Nat.add_assoc];exact hcell (k+i) hi'
  ·rcases A with _ | x
   ·simp at h
   ·simp only[Option.map_some,Option.some.injEq] at h
    subst h
    have hx:=ha x rfl
    unfold Addr.add
    split<;>exact hx
def Sc (w:World) (g:Nat) (t:TypeId) (s:Wire.St):Prop:=
 ∃A n cap,Blk w g t #[.slice A n cap,.int .i64 s.err]/\s.rest.length=n/\n<=cap/\cap<=140737488355328/\Rd w A s.rest/\Ahd A g
theorem Sc.lt {w:World} {g:Nat} {t:TypeId} {s:Wire.St} (h:Sc w g t s):g<w.heap.size:=by
 obtain⟨A,n,cap,hB,_⟩:=h
 exact hB.lt
theorem Sc.below {w w':World} {g:Nat} {t:TypeId} {s:Wire.St} (h:Sc w g t s) (hb:Below w.heap.size w w'):Sc w' g t s:=by
 obtain⟨A,n,cap,hB,h1,h2,h3,hr,ha⟩:=h
 exact⟨A,n,cap,hB.below hb hB.lt,h1,h2,h3,hr.below hb,ha⟩
theorem err_at (w:World) (g:Nat) (s:Wire.St) (h:Sc w g 82 s) (z:Int) (hz:s.err=z):
  Calls Tryz.prog 47 #[.pointer (some ⟨g,0,none⟩)] w fun e w'=>e=.returned (.int .i64 z)/\w=w':=by
 subst hz
 obtain⟨A,n',cap,hB,h1,h2,h3,hr,ha⟩:=h
 obtain⟨c0,c1,f0,f1⟩:=blk2 hB
 clear h1
 go_enter Tryz.func47,Tryz.ntmps47
 go_wp2
 go_ret
 exact⟨rfl,rfl⟩
theorem end_at (w:World) (g:Nat) (s:Wire.St) (h:Sc w g 82 s) (z:Int) (hz:s.endE=z):
  Calls Tryz.prog 22 #[.pointer (some ⟨g,0,none⟩)] w fun e w'=>e=.returned (.int .i64 z)/\w=w':=by
 obtain⟨A,n,cap,hB,h1,h2,h3,hr,ha⟩:=h
 obtain⟨c0,c1,f0,f1⟩:=blk2 hB
 unfold Wire.St.endE at hz
 rw[h1] at hz
 clear h1
 obtain⟨rest,err⟩:=s
 simp only at hz c1
 clear hB hr
 by_cases he:err=0
 ·subst he
  by_cases hn:n=0
  ·subst hn
   obtain rfl:z=0:=by rw[<-hz];simp
   clear hz
   go_enter Tryz.func22,Tryz.ntmps22
   go_wp2
   go_ret
   exact⟨rfl,rfl⟩
  ·have hn':0<n:=by omega
   have hd:decide ((0:Int)<(n:Int))=true:=by simp;omega
   obtain rfl:z=5:=by rw[<-hz];simp[hn']
   clear hz
   go_enter Tryz.func22,Tryz.ntmps22
   go_wp2
   go_ret
   exact⟨rfl,rfl⟩
 ·have hd:(err == 0)=false:=by simpa using he
  obtain rfl:err=z:=by rw[<-hz,if_neg (fun h=>he h.1)]
  clear hz
  go_enter Tryz.func22,Tryz.ntmps22
  go_wp2
  go_ret
  exact⟨rfl,rfl⟩
theorem fail_at (w:World) (g:Nat) (s:Wire.St) (h:Sc w g 82 s) (z:Int):
  Calls Tryz.prog 77 #[.pointer (some ⟨g,0,none⟩),.int .i64 z] w fun e w'=>e=.returned (.tuple #[])/\Sc w' g 82 (s.fail z)/\Touch g w w':=by
 have h0:=h
 obtain⟨A,n,cap,hB,h1,h2,h3,hr,ha⟩:=h
 obtain⟨c0,c1,f0,f1⟩:=blk2 hB
 clear h1
 obtain⟨rest,err⟩:=s
 simp only at *
 by_cases he:err=0
 ·subst he
  by_cases hz:z=0
  ·subst hz
   go_enter Tryz.func77,Tryz.ntmps77
   go_wp2
   (try simp only[Exit.inBlock,Exit.then])
   refine bodyPost_ret (results_none rfl _ _ _) rfl ?_
   exact⟨rfl,h0,Touch.refl _ _⟩
  ·have hd:(z == 0)=false:=by simpa using hz
   go_enter Tryz.func77,Tryz.ntmps77
   go_wp2
   go_end0
   refine ⟨rfl,?_,((Touch.refl _ _).set_ _ _).set_ _ _⟩
   unfold Wire.St.fail
   rw[if_pos ⟨rfl,hz⟩]
   refine ⟨none,0,0,?_,rfl,by omega,by omega,.inl rfl,fun a h=>by cases h⟩
   exact (hB.put 1 (.int .i64 z)).put 0 (.slice none 0 0)
 ·have hd:(err != 0)=true:=by simpa using he
  go_enter Tryz.func77,Tryz.ntmps77
  go_wp2
  (try simp only[Exit.inBlock,Exit.then])
  refine bodyPost_ret (results_none rfl _ _ _) rfl ?_
  refine ⟨rfl,?_,Touch.refl _ _⟩
  unfold Wire.St.fail
  rw[if_neg (fun h=>he h.1)]
  exact h0
theorem on_at (A:OA) (bs:LU) (n cap:Nat) (hn:bs.length=n) (hl:n<=140737488355328) (w:World) (hr:Rd w A bs):
  Calls Tryz.prog 20 #[.slice A n cap] w fun e w'=>∃g,e=.returned (.pointer (some ⟨g,0,none⟩))/\w.heap.size<=g/\Below w.heap.size w w'/\Sc w' g 82 ⟨bs,0⟩:=by
 have HN:=Jh hn
 clear hn
 go_enter Tryz.func20,Tryz.ntmps20
 go_wp2_with fail
 refine (wcopied_at A bs n cap 0 n _ rfl HN.o rfl hl w hr).mono ?_
 rintro e w1 ⟨g,Z,rfl,hg,hb,hB,hZ⟩
 obtain rfl:Z=[]:=List.eq_nil_of_length_eq_zero hZ
 clear hZ
 go_wp2_with fail
 go_ret
 refine ⟨w1.heap.size,rfl,hb.size,hb.alloc hb.size _,?_⟩
 rw[List.append_nil] at hB
 exact⟨some ⟨g,0,none⟩,n,n,Blk.new _ _ _,HN.o,Jn,hl,(hB.alloc _).rd,fun a h=>by cases h;exact (show g<_ from hB.lt)⟩
def Reads (w:World) (g:Nat) (T:TypeId) (v:Value) (s:Wire.St) (e:Ending) (w':World):Prop:=e=.returned v/\Sc w' g T s/\Touch g w w'
theorem num_at (w:World) (g:Nat) (s:Wire.St) (h:Sc w g 82 s):
  Calls Tryz.prog 99 #[.pointer (some ⟨g,0,none⟩)] w (Reads w g 82 (.int .u64 (s.numV:Int)) s.numS):=by
 have h0:=h
 obtain⟨A,n,cap,hB,h1,h2,h3,hr,ha⟩:=h
 obtain⟨c0,c1,f0,f1⟩:=blk2 hB
 have hle:=Wire.num_le s.rest
 have hlt:=Wire.num_lt s.rest
 have hbad:=Wire.num_bad s.rest
 obtain⟨rest,err⟩:=s
 simp only[Wire.St.numV,Wire.St.numS] at *
 have hnum:=number_at A rest n cap h1 (by omega) w hr
 rcases hq:Wire.num rest with ⟨v,k,e⟩
 rw[hq] at hle hlt hbad hnum
 simp only at hle hlt hbad hnum
 have HL:=Jh h1
 have HV:=Jh hlt
 clear h1 hlt hq
 have hk:k<=n:=by rw[HL.o] at hle;exact hle
 clear hle
 by_cases he:e=0
 ·subst he
  obtain⟨A',hcut,hr',hAA⟩:=run_cutH (g:=g) hr HL.o hk h2 ha
  have HK:=Jh hk
  clear hk
  go_enter Tryz.func99,Tryz.ntmps99
  go_wp2_with fail
  refine hnum.mono ?_
  rintro e w1 ⟨rfl,rfl⟩
  go_wp2_with fail
  go_ret
  refine ⟨rfl,?_,(Touch.refl _ _).set_ _ _⟩
  have hT:Touch g w (w.setCell ⟨g,0,none⟩ (.slice A' (n-k) (cap-k))):=(Touch.refl _ _).set_ _ _
  exact⟨A',n-k,cap-k,hB.put 0 _,by simp[HL.o],by omega,by omega,hT.rd hr' (rd_apart hB hr'),hAA⟩
 ·have hb:=hbad he
  obtain⟨rfl,rfl,_⟩:=hb
  clear hbad
  have hd:((e:Int) != 0)=true:=by simpa using he
  go_enter Tryz.func99,Tryz.ntmps99
  go_wp2_with fail
  refine hnum.mono ?_
  rintro e1 w1 ⟨rfl,rfl⟩
  go_wp2_with fail
  refine (fail_at w g ⟨rest,err⟩ h0 _).mono ?_
  rintro e1 w1 ⟨rfl,hs1,ht1⟩
  go_wp2_with fail
  go_ret
  exact⟨rfl,hs1,ht1⟩
theorem upto_at (w:World) (g:Nat) (s:Wire.St) (h:Sc w g 82 s) (m:Int) (hm1:-9223372036854775808<=m) (hm2:m<=9223372036854775807):
  Calls Tryz.prog 76 #[.pointer (some ⟨g,0,none⟩),.int .i64 m] w (Reads w g 82 (.int .i64 (s.uptoV m:Int)) (s.uptoS m)):=by
 have hn:=num_at w g s h
 unfold Wire.St.uptoV Wire.St.uptoS Wire.St.over
 have HV:Hid (s.numV<2 ^ 64):=Wire.num_lt s.rest
 generalize s.numS=s1 at *
 generalize s.numV=v at *
 by_cases h0:m<0
 ·have hd:decide (m<0)=true:=by simpa using h0
  rw[hd,Bool.true_or,if_pos rfl,if_pos rfl]
  go_enter Tryz.func76,Tryz.ntmps76
  go_wp2_with fail
  refine hn.mono ?_
  rintro e w1 ⟨rfl,hs1,ht1⟩
  go_wp2_with fail
  refine (fail_at w1 g s1 hs1 _).mono ?_
  rintro e w2 ⟨rfl,hs2,ht2⟩
  go_wp2_with fail
  go_ret
  exact⟨rfl,hs2,ht1.trans ht2⟩
 ·obtain⟨k,rfl⟩:=Int.eq_ofNat_of_zero_le (show 0<=m by omega)
  have hd:decide ((k:Int)<0)=false:=by simp
  rw[hd,Bool.false_or]
  have hk:k<=9223372036854775807:=by omega
  clear hm1 hm2 h0
  by_cases hv:k<v
  ·have hd2:decide ((k:Int)<(v:Int))=true:=by simpa using hv
   have hd3:decide (k<v)=true:=by simpa using hv
   rw[hd2,if_pos rfl,if_pos rfl]
   go_enter Tryz.func76,Tryz.ntmps76
   go_wp2_with fail
   refine hn.mono ?_
   rintro e w1 ⟨rfl,hs1,ht1⟩
   go_wp2_with fail
   refine (fail_at w1 g s1 hs1 _).mono ?_
   rintro e w2 ⟨rfl,hs2,ht2⟩
   go_wp2_with fail
   go_ret
   exact⟨rfl,hs2,ht1.trans ht2⟩
  ·have hd2:decide ((k:Int)<(v:Int))=false:=by simpa using hv
   have hd3:decide (k<v)=false:=by simpa using hv
   have hv2:v<=k:=by omega
   rw[hd2,if_neg (by simp),if_neg (by simp)]
   go_enter Tryz.func76,Tryz.ntmps76
   go_wp2_with fail
   refine hn.mono ?_
   rintro e w1 ⟨rfl,hs1,ht1⟩
   go_wp2_with fail
   go_ret
   exact⟨rfl,hs1,ht1⟩
theorem text_at (w:World) (g:Nat) (s:Wire.St) (h:Sc w g 82 s) (m:Int) (hm1:-9223372036854775808<=m) (hm2:m<=9223372036854775807):
  Calls Tryz.prog 45 #[.pointer (some ⟨g,0,none⟩),.int .i64 m] w (Reads w g 82 (.string ⟨(s.textV m).toArray⟩) (s.textS m)):=by
 have hu:=upto_at w g s h m hm1 hm2
 unfold Wire.St.textV Wire.St.textS
 generalize s.uptoS m=s1 at *
 have hk:s.uptoV m<=9223372036854775807:=by
  unfold Wire.St.uptoV Wire.St.over
  split
  ·omega
  ·rename_i h
   simp at h
   omega
 generalize s.uptoV m=k at *
 by_cases hlt:s1.rest.length<k
 ·rw[if_pos hlt,if_pos hlt]
  go_enter Tryz.func45,Tryz.ntmps45
  go_wp2_with fail
  refine hu.mono ?_
  rintro e w1 ⟨rfl,hs1,ht1⟩
  have hs0:=hs1
  obtain⟨A,n,cap,hB,h1,h2,h3,hr,ha⟩:=hs1
  obtain⟨c0,c1,f0,f1⟩:=blk2 hB
  rw[h1] at hlt
  clear h1
  have hd:decide (n<k)=true:=by simpa using hlt
  go_wp2_with fail
  refine (fail_at w1 g s1 hs0 _).mono ?_
  rintro e w2 ⟨rfl,hs2,ht2⟩
  go_wp2_with fail
  go_ret
  exact⟨rfl,hs2,ht1.trans ht2⟩
 ·rw[if_neg hlt,if_neg hlt]
  go_enter Tryz.func45,Tryz.ntmps45
  go_wp2_with fail
  refine hu.mono ?_
  rintro e w1 ⟨rfl,hs1,ht1⟩
  obtain⟨A,n,cap,hB,h1,h2,h3,hr,ha⟩:=hs1
  obtain⟨c0,c1,f0,f1⟩:=blk2 hB
  rw[h1] at hlt
  have HL:=Jh h1
  clear h1
  have hd:decide (n<k)=false:=by simpa using hlt
  have hkn:k<=n:=by omega
  obtain⟨A',hcut,hr',hAA⟩:=run_cutH (g:=g) hr HL.o hkn h2 ha
  have hhd:=run_head A n cap k hkn h2
  have hst:=run_str (P:=Tryz.prog) w1 A (s1.rest.take k) k cap (hr.take k) (by rw[List.length_take,HL.o];omega) 29 5 9 Tryz.underlying29 Tryz.underlying5 Tryz.underlying9
  have HK:=Jh hkn
  clear hkn hlt
  go_wp2_with fail
  go_ret
  refine ⟨rfl,?_,ht1.set_ _ _⟩
  have hT:Touch g w1 (w1.setCell ⟨g,0,none⟩ (.slice A' (n-k) (cap-k))):=(Touch.refl _ _).set_ _ _
  exact⟨A',n-k,cap-k,hB.put 0 _,by simp[HL.o],by have:=HK.o;omega,by omega,hT.rd hr' (rd_apart hB hr'),hAA⟩
theorem upto_is (w:World) (g:Nat) (s s':Wire.St) (v:Nat) (h:Sc w g 82 s) (m:Int) (hm1:-9223372036854775808<=m) (hm2:m<=9223372036854775807) (hv:s.uptoV m=v) (hs:s.uptoS m=s'):
  Calls Tryz.prog 76 #[.pointer (some ⟨g,0,none⟩),.int .i64 m] w (Reads w g 82 (.int .i64 (v:Int)) s'):=by
 subst hv;subst hs;exact upto_at w g s h m hm1 hm2
theorem text_is (w:World) (g:Nat) (s s':Wire.St) (v:LU) (h:Sc w g 82 s) (m:Int) (hm1:-9223372036854775808<=m) (hm2:m<=9223372036854775807) (hv:s.textV m=v) (hs:s.textS m=s'):
  Calls Tryz.prog 45 #[.pointer (some ⟨g,0,none⟩),.int .i64 m] w (Reads w g 82 (.string ⟨v.toArray⟩) s'):=by
 subst hv;subst hs;exact text_at w g s h m hm1 hm2
theorem Touch.sc {g g':Nat} {T T':TypeId} {w w':World} {s s':Wire.St} (h:Touch g w w') (hg:Sc w g T s) (hg':Sc w g' T' s') (hne:g'≠g):Sc w' g' T' s':=by
 obtain⟨A,n,cap,hB,_⟩:=hg
 obtain⟨A',n',cap',hB',h1,h2,h3,hr,ha⟩:=hg'
 exact⟨A',n',cap',h.blk hB' hne,h1,h2,h3,h.rd hr (rd_apart hB hr),ha⟩
theorem Sc.drew {w:World} {g:Nat} {t:TypeId} {s:Wire.St} (h:Sc w g t s):Sc w.drew g t s:=h
theorem Sc.drewN {w:World} {g:Nat} {t:TypeId} {s:Wire.St} (h:Sc w g t s) (n:Nat):Sc (w.drewN n) g t s:=h
theorem blk3 {w:World} {g:Nat} {t:TypeId} {a b c:Value} (hB:Blk w g t #[a,b,c]):
  w.cell? ⟨g,0,none⟩=some a/\w.cell? ⟨g,1,none⟩=some b/\w.cell? ⟨g,2,none⟩=some c/\w.frozen? ⟨g,0,none⟩=false/\w.frozen? ⟨g,1,none⟩=false/\w.frozen? ⟨g,2,none⟩=false:=
 ⟨hB.cell 0,hB.cell 1,hB.cell 2,hB.frozen 0,hB.frozen 1,hB.frozen 2⟩
theorem eqGuardV:Tryz.prog.eqGuardType Tryz.prog.depth 52=false:=by kernel_rfl
theorem right_at (k i:Int) (t:LU) (w:World) (hl:t.length<=9223372036854775807):
  Calls Tryz.prog 138 #[.agg (vC k i t.toArray)] w fun e w'=>e=.returned (.bool (Vals.right k i t))/\Below w.heap.size w w':=by
 go_enter Tryz.func138,Tryz.ntmps138
 go_wp2
 all_goals (go_ret;refine ⟨congrArg (fun b=>Ending.returned (Value.bool b)) ?_,(Below.refl _ _).alloc (Jn) _⟩)
 all_goals (simp_all [Vals.right])
 ·cases t<;>rfl
 all_goals omega
theorem refRight_at (k i:Int) (t:LU) (w:World) (hl:t.length<=9223372036854775807):
  Calls Tryz.prog 118 #[.agg (vC k i t.toArray)] w fun e w'=>e=.returned (.bool (Vals.right k i t))/\Below w.heap.size w w':=by
 go_enter Tryz.func118,Tryz.ntmps118
 go_wp2
 all_goals (go_ret;refine ⟨congrArg (fun b=>Ending.returned (Value.bool b)) ?_,(Below.refl _ _).alloc (Jn) _⟩)
 all_goals (simp_all [Vals.right])
 ·cases t<;>rfl
 all_goals omega
end
section
open Go.RowKit Go.Sort
theorem maxLen_num:maxLen=9223372036854775807:=rfl
def Grown (w w':World):Prop:=∃q os,w'=grow (w.drewN q) os
theorem Grown.refl (w:World):Grown w w:=⟨0,#[],by rw[grow_empty];rfl⟩
theorem Grown.alloc {w w':World} (h:Grown w w') (o:Obj):Grown w (w'.alloc o):=by
 obtain⟨q,os,rfl⟩:=h
 exact⟨q,os++#[o],by rw[alloc_eq_grow,grow_grow]⟩
theorem Grown.trans {a b c:World} (h:Grown a b) (k:Grown b c):Grown a c:=by
 obtain⟨q,os,rfl⟩:=h
 obtain⟨q',os',rfl⟩:=k
 exact⟨q+q',os++os',by show grow (grow ((a.drewN q).drewN q') os) os'=_;rw[grow_grow,World.drewN_drewN]⟩
theorem Grown.more {a b:World} (h:Grown a b) (n:Nat) (os:Array Obj):Grown a (grow (b.drewN n) os):=h.trans ⟨n,os,rfl⟩
theorem Grown.below {w w':World} (h:Grown w w'):Below w.heap.size w w':=by
 obtain⟨q,os,rfl⟩:=h
 refine ⟨rfl,rfl,rfl,by simp,fun k hk=>?_⟩
 show (w.heap++os)[k]?=_
 rw[Array.getElem?_append_left hk]
structure HQ (P:Program) (ops:Array Oper) (C:World->Prop) (Q:Act->Prop) (l:List Oper) (a:Act):Prop where
 qo:wpQuiet P ops C Q l a
theorem hq_nil {P:Program} {ops:Array Oper} {C:World->Prop} {Q:Act->Prop} {a:Act} (h:Q a):HQ P ops C Q [] a:=⟨wpQuiet_nil h⟩
theorem hq_step {P:Program} {ops:Array Oper} {C:World->Prop} {Q:Act->Prop} {a:Act} {o:Oper} {rest:List Oper}
  (h:∀K:Act->Prop,(∀a,HQ P ops C Q rest a->K a)->if Region.wanted o (yielded ops a.tmps) then o.quiet P a C K else K (a.put o.dst undef)):HQ P ops C Q (o::rest) a:=
 ⟨wpQuiet_step fun K hK=>h K fun a k=>hK a k.qo⟩
theorem hq_region {P:Program} {id:Nat} {Q:Exit->Act->World->Prop} {a:Act} {w:World} {l:List Oper} (hm:P.follows .mixedOrders=true) (hB:Region.lexB .any l.toArray=true)
  (h:HQ P l.toArray (fun w'=>∃p:GrownBy,w'=grow (w.drewN p.n) p.os) (fun a'=>∀w',(∃p:GrownBy,w'=grow (w.drewN p.n) p.os)->Q .normal a' w') l a):(Code.region id l.toArray true).wp P Q a w:=
 wp_region_quiet_grown hm hB h.qo
theorem mixedT:Tryz.prog.follows .mixedOrders=true:=by kernel_rfl
theorem hq_mono {P:Program} {ops:Array Oper} {C:World->Prop} {Q Q':Act->Prop} (h:∀a,Q a->Q' a):∀(l:List Oper) (a:Act),wpQuiet P ops C Q l a->wpQuiet P ops C Q' l a
 | [],a,k=>h a k
 | o::rest,a,k=>by
  unfold wpQuiet at k ⊢
  by_cases hw:Region.wanted o (yielded ops a.tmps)=true
  ·rw[if_pos hw] at k ⊢
   obtain⟨v,h1,h2⟩:=k
   exact⟨v,h1,hq_mono h rest _ h2⟩
  ·rw[if_neg hw] at k ⊢
   exact hq_mono h rest _ k
theorem qgr {id:Nat} {Q:Exit->Act->World->Prop} {a a':Act} {w:World} {l:List Oper} (h:∀nq osq,Q .normal a' (grow (w.drewN nq) osq))
  (hq:HQ Tryz.prog l.toArray (fun w'=>∃p:GrownBy,w'=grow (w.drewN p.n) p.os) (fun b=>b=a') l a:=by (repeat (refine hq_step (fun K hK=>?_);go_simp;refine hK _ ?_;clear hK K));exact hq_nil rfl)
  (hB:Region.lexB .any l.toArray=true:=by kernel_rfl):(Code.region id l.toArray true).wp Tryz.prog Q a w:=
 hq_region mixedT hB ⟨hq_mono (by rintro _ rfl w' ⟨p,rfl⟩;exact h _ _) _ _ hq.qo⟩
end
section
open Go.RowKit
theorem drewN_more {w wr:World} (h:∃n,wr=w.drewN n) (m:Nat):∃n,wr.drewN m=w.drewN n:=by
 obtain⟨n,rfl⟩:=h
 exact⟨n+m,by simp[World.drewN,Nat.add_assoc]⟩
theorem nanText_at (a:ByteArray) (w:World):Calls Tryz.prog 198 #[.string a] w fun e w'=>e=.returned (.bool false)/\w=w':=by
 go_enter Tryz.func198,Tryz.ntmps198
 go_wp2
 go_ret
 exact⟨by simp,rfl⟩
theorem cmpText_at (a b:LU) (w:World):Calls Tryz.prog 168 #[.string ⟨a.toArray⟩,.string ⟨b.toArray⟩] w fun e w'=>e=.returned (.int .i64 (Vals.cmpT a b))/\w=w':=by
 go_enter Tryz.func168,Tryz.ntmps168
 go_wp2_with fail
 refine (nanText_at _ w).mono ?_
 rintro e w' ⟨rfl,rfl⟩
 go_wp2_with fail
 refine (nanText_at _ w).mono ?_
 rintro e w' ⟨rfl,rfl⟩
 go_wp2
 all_goals (go_ret;refine ⟨ret_int ?_,rfl⟩;simp_all [Vals.cmpT])
theorem less_same (a b:LU) (q:Nat) (h1:q<a.length) (h2:q<b.length) (h:a[q]=b[q]):Op.bytesLess (a.drop q) (b.drop q)=Op.bytesLess (a.drop (q+1)) (b.drop (q+1)):=by
 rw[List.drop_eq_getElem_cons h1,List.drop_eq_getElem_cons h2,h]
 simp[Op.bytesLess]
theorem less_here (a b:LU) (q:Nat) (h1:q<a.length) (h2:q<b.length) (h:a[q]≠b[q]):Op.bytesLess (a.drop q) (b.drop q)=decide (a[q].toNat<b[q].toNat):=by
 rw[List.drop_eq_getElem_cons h1,List.drop_eq_getElem_cons h2]
 simp[Op.bytesLess,h,UInt8.lt_iff_toNat_lt]
theorem less_end (a b:LU) (q:Nat) (h1:q<=a.length) (h2:q<=b.length) (h:q=a.length∨q=b.length):Op.bytesLess (a.drop q) (b.drop q)=decide (a.length<b.length):=by
 rcases Nat.lt_or_ge q b.length with h3|h3
 ·obtain rfl:q=a.length:=by omega
  rw[List.drop_length,List.drop_eq_getElem_cons h3]
  simp[Op.bytesLess,h3]
 ·obtain rfl:q=b.length:=by omega
  rw[List.drop_length]
  simp[Op.bytesLess];omega
theorem refLess_dn (a b:LU) (hl:a.length<=9223372036854775807) (hl2:b.length<=9223372036854775807) (w:World):
  Calls Tryz.prog 119 #[.string ⟨a.toArray⟩,.string ⟨b.toArray⟩] w fun e w'=>e=.returned (.bool (Op.bytesLess a b))/\∃n,w'=w.drewN n:=by
 go_enter Tryz.func119,Tryz.ntmps119
 go_wp2_with fail
 go_loopw [5] (fun x wr=>∃q:Nat,q<=a.length/\q<=b.length/\x=.int .i64 (q:Int)/\(∃n,wr=w.drewN n)/\Hid (Op.bytesLess a b=Op.bytesLess (a.drop q) (b.drop q))) (fun x _=>a.length-(intOf x).toNat)
 case atStart=>exact⟨0,by omega,by omega,rfl,⟨0,rfl⟩,rfl⟩
 case round=>
  obtain⟨q,hq1,hq2,rfl,hbr,HE⟩:=hrel
  by_cases c1:q<a.length
  ·by_cases c2:q<b.length
   ·have d1:decide (q<a.length)=true:=by simpa using c1
    have d2:decide (q<b.length)=true:=by simpa using c2
    have hx:∀h,(⟨a.toArray⟩:ByteArray)[q]'h=a[q]:=fun _=>rfl
    have hy:∀h,(⟨b.toArray⟩:ByteArray)[q]'h=b[q]:=fun _=>rfl
    by_cases he:a[q]=b[q]
    ·have HE2:=Jh (HE.o.trans (less_same a b q c1 c2 he))
     have d3:(((a[q].toNat:Nat):Int) != ((b[q].toNat:Nat):Int))=false:=by simp[he]
     clear HE he
     go_wp2_with fail
     go_quiet (fail)
     have hbn:∃n,wr.drewN nq=w.drewN n:=drewN_more hbr nq
     generalize wr.drewN nq=w2 at *
     go_wp2_with fail
     go_roundw
     case rel=>exact⟨q+1,by omega,by omega,by go_num,hbn,HE2⟩
     case measure=>simp[intOf];omega
    ·have HE2:=Jh (HE.o.trans (less_here a b q c1 c2 he))
     have d3:(((a[q].toNat:Nat):Int) != ((b[q].toNat:Nat):Int))=true:=by
      have:a[q].toNat≠b[q].toNat:=fun h=>he (UInt8.toNat_inj.1 h)
      simp;omega
     clear HE he
     go_wp2_with fail
     go_quiet (fail)
     have hbn:∃n,wr.drewN nq=w.drewN n:=drewN_more hbr nq
     generalize wr.drewN nq=w2 at *
     go_wp2_with fail
     go_quiet (fail)
     have hbn2:∃n,w2.drewN nq=w.drewN n:=drewN_more hbn nq
     generalize w2.drewN nq=w3 at *
     go_wp2_with fail
     go_ret
     exact⟨congrArg (fun x=>Ending.returned (Value.bool x)) (by rw[HE2.o]),hbn2⟩
   ·have d1:decide (q<a.length)=true:=by simpa using c1
    have d2:decide (q<b.length)=false:=by simpa using c2
    have HE2:=Jh (HE.o.trans (less_end a b q hq1 hq2 (.inr (by omega))))
    go_wp2_with fail
    go_ret
    exact⟨congrArg (fun x=>Ending.returned (Value.bool x)) (by rw[HE2.o]),hbr⟩
  ·have d1:decide (q<a.length)=false:=by simpa using c1
   have HE2:=Jh (HE.o.trans (less_end a b q hq1 hq2 (.inl (by omega))))
   go_wp2_with fail
   go_ret
   exact⟨congrArg (fun x=>Ending.returned (Value.bool x)) (by rw[HE2.o]),hbr⟩
theorem refCmpText_dn (a b:LU) (hl:a.length<=9223372036854775807) (hl2:b.length<=9223372036854775807) (w:World):
  Calls Tryz.prog 87 #[.string ⟨a.toArray⟩,.string ⟨b.toArray⟩] w fun e w'=>e=.returned (.int .i64 (Vals.cmpT a b))/\∃n,w'=w.drewN n:=by
 by_cases he:a=b
 ·subst he
  have HE:=Jh ((Vals.cmpT_zero a a).2 rfl)
  go_enter Tryz.func87,Tryz.ntmps87
  go_wp2_with fail
  go_ret
  exact⟨ret_int HE.o.symm,0,rfl⟩
 ·have hd:(a == b)=false:=by simpa using he
  have HE:Hid (∀c,Op.bytesLess a b=c->Vals.cmpT a b=if c then -1 else 1):=by
   intro c hc
   unfold Vals.cmpT
   rw[hc,if_neg he]
  clear he
  cases hc:Op.bytesLess a b with
  | false=>
   have HC:=Jh (HE.o _ hc)
   have hL:=refLess_dn a b hl hl2 w
   rw[hc] at hL
   clear hc HE
   go_enter Tryz.func87,Tryz.ntmps87
   go_wp2_with fail
   refine hL.mono ?_
   rintro e w1 ⟨rfl,hb1⟩
   go_wp2_with fail
   go_ret
   exact⟨ret_int HC.o.symm,hb1⟩
  | true=>
   have HC:=Jh (HE.o _ hc)
   have hL:=refLess_dn a b hl hl2 w
   rw[hc] at hL
   clear hc HE
   go_enter Tryz.func87,Tryz.ntmps87
   go_wp2_with fail
   refine hL.mono ?_
   rintro e w1 ⟨rfl,hb1⟩
   go_wp2_with fail
   go_ret
   exact⟨ret_int HC.o.symm,hb1⟩
theorem right_is (k i:Int) (t:LU) (w:World) (hl:t.length<=9223372036854775807) (b:Bool) (hb:Vals.right k i t=b):
  Calls Tryz.prog 138 #[.agg (vC k i t.toArray)] w fun e w'=>e=.returned (.bool b)/\Below w.heap.size w w':=by
 subst hb;exact right_at k i t w hl
theorem refRight_is (k i:Int) (t:LU) (w:World) (hl:t.length<=9223372036854775807) (b:Bool) (hb:Vals.right k i t=b):
  Calls Tryz.prog 118 #[.agg (vC k i t.toArray)] w fun e w'=>e=.returned (.bool b)/\Below w.heap.size w w':=by
 subst hb;exact refRight_at k i t w hl
theorem box3 (w:World) (t:TypeId) (a b c:Value):Blk (w.alloc (.cells #[a,b,c] t)) w.heap.size t #[a,b,c]/\Below w.heap.size w (w.alloc (.cells #[a,b,c] t)):=
 ⟨Blk.new w _ _,(Below.refl _ _).alloc (Jn) _⟩
end
end Go.Proofs.YtnfigjggjmncdaaGreat
namespace Ev
open Go.Op (bytesLess)
structure At where
 n:LU
 k:Int
 i:Int
 t:LU
instance:Inhabited At:=⟨⟨[],0,0,[]⟩⟩
instance:DecidableEq At:=fun a b=>decidable_of_iff (a.n=b.n/\a.k=b.k/\a.i=b.i/\a.t=b.t) (by cases a;cases b;simp)
def ok (a:At):Bool:=decide (1<=a.n.length) && decide (a.n.length<=16) && Vals.right a.k a.i a.t
def lt (a b:At):Prop:=bytesLess a.n b.n=true
instance (a b:At):Decidable (lt a b):=inferInstanceAs (Decidable (_=_))
theorem lt_trans {a b c:At}:lt a b->lt b c->lt a c:=Vals.less_trans _ _ _
theorem lt_asym {a b:At}:lt a b->¬lt b a:=fun h=>by unfold lt;rw[Vals.less_asym _ _ h];simp
def Right (es:List At):Prop:=es.length<=24/\(∀a∈es,ok a=true)/\es.Pairwise lt
instance (es:List At):Decidable (Right es):=inferInstanceAs (Decidable (_/\_/\_))
def Fine (es:List At) (k:Nat):Prop:=∀(h:k<es.length),ok es[k]=true/\(0<k->lt (es[k-1]'(by omega)) es[k])
def IsSort (es out:List At):Prop:=out.Perm es/\out.Pairwise lt
theorem IsSort.one {es out out':List At} (h:IsSort es out) (k:IsSort es out'):out=out':=
 (h.1.trans k.1.symm).eq_of_pairwise (fun _ _ _ _ h1 h2=>absurd h2 (lt_asym h1)) h.2 k.2
theorem IsSort.length {es out:List At} (h:IsSort es out):out.length=es.length:=h.1.length_eq
def Once (es:List At):Prop:=(es.map At.n).Nodup
instance (es:List At):Decidable (Once es):=inferInstanceAs (Decidable (List.Nodup _))
def mkE (es:List At):Int:=if 24<es.length then 4 else if ∃a∈es,ok a=false then 1 else if Once es then 0 else 8
def Made (es:List At) (c:Int) (out:List At):Prop:=c=mkE es/\(c=0->IsSort es out)/\(c≠0->out=[])
theorem Made.one {es out out':List At} {c c':Int} (h:Made es c out) (k:Made es c' out'):c=c'/\out=out':=by
 obtain⟨h1,h2,h3⟩:=h
 obtain⟨k1,k2,k3⟩:=k
 refine ⟨h1.trans k1.symm,?_⟩
 by_cases hc:c=0
 ·exact (h2 hc).one (k2 (by omega))
 ·rw[h3 hc,k3 (by omega)]
theorem Made.zero {es out:List At} (h:Made es 0 out):es.length<=24/\(∀a∈es,ok a=true)/\IsSort es out:=by
 have h1:=h.1
 unfold mkE at h1
 by_cases c1:24<es.length
 ·rw[if_pos c1] at h1;omega
 ·rw[if_neg c1] at h1
  by_cases c2:∃a∈es,ok a=false
  ·rw[if_pos c2] at h1;omega
  ·refine ⟨by omega,fun a ha=>?_,h.2.1 rfl⟩
   cases hk:ok a
   ·exact absurd ⟨a,ha,hk⟩ c2
   ·rfl
theorem Made.right {es out:List At} (h:Made es 0 out):Right out:=by
 obtain⟨h1,h2,h3⟩:=h.zero
 exact⟨by rw[h3.length];exact h1,fun a ha=>h2 a (h3.1.mem_iff.1 ha),h3.2⟩
def find (es:List At) (s:LU):Option At:=es.find? fun a=>a.n == s
def got (es:List At) (s:LU):At:=(find es s).getD default
def Few (es:List At):Prop:=es.length<=40/\∀a∈es,a.n.length<=100/\a.t.length<=300
instance (es:List At):Decidable (Few es):=inferInstanceAs (Decidable (_/\_))
end Ev
namespace Go.Proofs.YtnfigjggjmncdaaGreat
section
open Go.RowKit Go.ChangeShapes Go.WideShapes Go.Deep Ev
def cellsA (a:At):List Value:=[.string ⟨a.n.toArray⟩,.int .i64 a.k,.int .i64 a.i,.string ⟨a.t.toArray⟩]
def Cells (w:World) (g o:Nat) (a:At):Prop:=
 w.cell? ⟨g,o,none⟩=some (.string ⟨a.n.toArray⟩)/\w.cell? ⟨g,o+1,none⟩=some (.int .i64 a.k)/\w.cell? ⟨g,o+2,none⟩=some (.int .i64 a.i)/\w.cell? ⟨g,o+3,none⟩=some (.string ⟨a.t.toArray⟩)
def RdA (w:World) (A:OA) (es:List At):Prop:=
 es=[]∨∃g off,A=some ⟨g,off,none⟩/\g<w.heap.size/\∀i (h:i<es.length),Cells w g (off+i*4) es[i]
theorem Cells.below {w w':World} {g o:Nat} {a:At} (h:Cells w g o a) {B:Nat} (hb:Below B w w') (hg:g<B):Cells w' g o a:=
 ⟨(hb.cell (p:=⟨g,o,none⟩) hg).trans h.1,(hb.cell (p:=⟨g,o+1,none⟩) hg).trans h.2.1,(hb.cell (p:=⟨g,o+2,none⟩) hg).trans h.2.2.1,(hb.cell (p:=⟨g,o+3,none⟩) hg).trans h.2.2.2⟩
theorem RdA.at_ {w:World} {A:OA} {es:List At} (h:RdA w A es) {k:Nat} (hk:k<es.length):
  ∃g off,A=some ⟨g,off,none⟩/\g<w.heap.size/\Cells w g (off+k*4) es[k]:=by
 rcases h with rfl|⟨g,off,rfl,hg,hc⟩
 ·simp at hk
 ·exact⟨g,off,rfl,hg,hc k hk⟩
theorem RdA.below {w w':World} {A:OA} {es:List At} (h:RdA w A es) (hb:Below w.heap.size w w'):RdA w' A es:=by
 rcases h with rfl|⟨g,off,rfl,hg,hc⟩
 ·exact .inl rfl
 ·exact .inr ⟨g,off,rfl,Nat.lt_of_lt_of_le hg hb.size,fun i hi=>(hc i hi).below hb hg⟩
theorem RdA.take {w:World} {A:OA} {es:List At} (h:RdA w A es) (k:Nat):RdA w A (es.take k):=by
 rcases h with rfl|⟨g,off,rfl,hg,hc⟩
 ·exact .inl (by simp)
 ·exact .inr ⟨g,off,rfl,hg,fun i hi=>by
   have hi':i<es.length:=by simp at hi;omega
   rw[List.getElem_take];exact hc i hi'⟩
theorem flat_length (es:List At):(es.flatMap cellsA).length=es.length*4:=by
 induction es with
 | nil=>rfl
 | cons a r ih=>rw[List.flatMap_cons,List.length_append,ih];simp[cellsA];omega
theorem flat_at:∀(es:List At) (i:Nat) (h:i<es.length) (j:Nat),j<4->(es.flatMap cellsA)[i*4+j]?=(cellsA es[i])[j]?
 | [],_,h,_,_=>by simp at h
 | a::r,0,_,j,hj=>by
  rw[List.flatMap_cons,List.getElem?_append_left (by simp[cellsA];omega)];simp
 | a::r,i+1,h,j,hj=>by
  rw[List.flatMap_cons,List.getElem?_append_right (by simp[cellsA];omega)]
  have e:(i+1)*4+j-(cellsA a).length=i*4+j:=by simp[cellsA];omega
  rw[e,flat_at r i (by simpa using h) j hj];rfl
theorem RdA.src {w:World} {ad:Addr} {es:List At} (h:RdA w (some ad) es):∀j v,(es.flatMap cellsA)[j]?=some v->w.cell? (ad.add j)=some v:=by
 intro j v hv
 have hj:j<es.length*4:=by
  have:=(List.getElem?_eq_some_iff.1 hv).1
  rwa [flat_length] at this
 obtain⟨g,off,e,_,hc⟩:=h.at_ (k:=j / 4) (by omega)
 injection e with e
 subst e
 have e2:j=j / 4*4+j % 4:=by omega
 rw[e2,flat_at es (j / 4) (by omega) (j % 4) (Nat.mod_lt _ (by decide))] at hv
 rw[add_lit]
 have h4:j % 4=0∨j % 4=1∨j % 4=2∨j % 4=3:=by omega
 obtain⟨c0,c1,c2,c3⟩:=hc
 rcases h4 with h4|h4|h4|h4<;>rw[h4] at hv<;>simp[cellsA] at hv<;>subst hv
 ·rw[show off+j=off+j / 4*4 by omega];exact c0
 ·rw[show off+j=off+j / 4*4+1 by omega];exact c1
 ·rw[show off+j=off+j / 4*4+2 by omega];exact c2
 ·rw[show off+j=off+j / 4*4+3 by omega];exact c3
section
variable {H:Type} {enc:TypeId × Value->H} {P:Program} {w:World} {base:Nat} {spare:Nat->Bool} {held:Bool}
end
end
section
open Go.RowKit Go.Sort Ev
end
end Go.Proofs.YtnfigjggjmncdaaGreat
namespace Preds
open Wire
def side (k i:Int) (t:LU):Bool:=Vals.right k i t && decide (t.length<=32)
def asks (o k i:Int) (t:LU):Bool:=
 if o=8 then decide (k=0/\i=0/\t=[]) else if o=7 then side k i t && decide (k=2) else decide (1<=o) && decide (o<=6) && side k i t
def right (n:LU) (o k i:Int) (t:LU):Bool:=decide (1<=n.length) && decide (n.length<=16) && asks o k i t
def allows (o c:Int):Bool:=
 if o=1 then c == 0 else if o=2 then c != 0 else if o=3 then decide (c<0) else if o=4 then decide (c<=0) else if o=5 then decide (0<c) else if o=6 then decide (0<=c) else false
def begins (t p:LU):Bool:=decide (p.length<=t.length) && decide (t.take p.length=p)
def met (o k i:Int) (t:LU) (k' i':Int) (t':LU):Bool:=
 if o=8 then true else decide (k'=k) && (if o=7 then begins t' t else allows o (Vals.cmp k' i' t' k i t))
def holds (n:LU) (o k i:Int) (t:LU) (k' i':Int) (t':LU):Bool:=right n o k i t && Vals.right k' i' t' && met o k i t k' i' t'
def bytes (n:LU) (o k i:Int) (t:LU):LU:=text n++(put o.toNat++(if o=8 then [] else Vals.lay k i t))
def lay (n:LU) (o k i:Int) (t:LU):LU:=if right n o k i t then bytes n o k i t else []
def nameS (s:St):St:=if s.textV 16=[] then (s.textS 16).fail 3 else s.textS 16
def opS (s:St):St:=if s.uptoV 8=0 then (s.uptoS 8).fail 3 else s.uptoS 8
def wrong (o k:Int) (t:LU):Bool:=(decide (o=7) && decide (k≠2)) || decide (32<t.length)
def sideS (s:St) (o:Int):St:=if wrong o (Vals.getK s) (Vals.getT s) then (Vals.getS s).fail 3 else Vals.getS s
def rawO (s:St):Nat:=(nameS s).uptoV 8
def behind (s:St):St:=opS (nameS s)
def getS (s:St):St:=if rawO s=8 then behind s else sideS (behind s) (rawO s:Int)
def rawK (s:St):Int:=if rawO s=8 then 0 else Vals.getK (behind s)
def rawI (s:St):Int:=if rawO s=8 then 0 else Vals.getI (behind s)
def rawT (s:St):LU:=if rawO s=8 then [] else Vals.getT (behind s)
def getN (s:St):LU:=if (getS s).err=0 then s.textV 16 else []
def getO (s:St):Int:=if (getS s).err=0 then (rawO s:Int) else 0
def getK (s:St):Int:=if (getS s).err=0 then rawK s else 0
def getI (s:St):Int:=if (getS s).err=0 then rawI s else 0
def getT (s:St):LU:=if (getS s).err=0 then rawT s else []
theorem get_bad (s:St) (h:(getS s).err≠0):getN s=[]/\getO s=0/\getK s=0/\getI s=0/\getT s=[]:=by
 unfold getN getO getK getI getT
 rw[if_neg h,if_neg h,if_neg h,if_neg h,if_neg h]
 exact⟨rfl,rfl,rfl,rfl,rfl⟩
theorem get_good (s:St) (h:(getS s).err=0):getN s=s.textV 16/\getO s=(rawO s:Int)/\getK s=rawK s/\getI s=rawI s/\getT s=rawT s:=by
 unfold getN getO getK getI getT
 rw[if_pos h,if_pos h,if_pos h,if_pos h,if_pos h]
 exact⟨rfl,rfl,rfl,rfl,rfl⟩
theorem fail_err (s:St) (e:Int) (he:e≠0):(s.fail e).err≠0:=by
 unfold St.fail
 split
 ·exact he
 ·rename_i h
  intro h0
  exact h ⟨h0,he⟩
theorem fail_stuck (s:St) (e:Int) (h:s.err≠0):s.fail e=s:=by
 unfold St.fail
 rw[if_neg (fun k=>h k.1)]
theorem upto_le (s:St) (m:Nat):s.uptoV (m:Int)<=m:=by
 unfold St.uptoV St.over
 split
 ·omega
 ·rename_i h
  simp at h;omega
theorem rawO_le (s:St):rawO s<=8:=upto_le (nameS s) 8
/-! Errors stay. -/
theorem numS_err {s:St} (h:s.err≠0):s.numS.err=s.err:=by
 unfold St.numS
 split
 ·rfl
 ·rw[fail_stuck s _ h]
theorem uptoS_err {s:St} (h:s.err≠0) (m:Int):(s.uptoS m).err=s.err:=by
 unfold St.uptoS
 split
 ·rw[fail_stuck _ _ (by rw[numS_err h];exact h),numS_err h]
 ·exact numS_err h
theorem textS_err {s:St} (h:s.err≠0) (m:Int):(s.textS m).err=s.err:=by
 unfold St.textS
 split
 ·rw[fail_stuck _ _ (by rw[uptoS_err h];exact h),uptoS_err h]
 ·exact uptoS_err h m
theorem vgetS_err {s:St} (h:s.err≠0):(Vals.getS s).err=s.err:=by
 have hu:=uptoS_err h 3
 have h':(s.uptoS 3).err≠0:=by rw[hu];exact h
 unfold Vals.getS
 split
 ·rw[numS_err h',hu]
 ·split
  ·rw[textS_err h',hu]
  ·split
   ·rw[uptoS_err h',hu]
   ·rw[fail_stuck _ _ h',hu]
theorem opS_err {s:St} (h:s.err≠0):(opS s).err=s.err:=by
 unfold opS
 split
 ·rw[fail_stuck _ _ (by rw[uptoS_err h];exact h),uptoS_err h]
 ·exact uptoS_err h 8
theorem sideS_err {s:St} (h:s.err≠0) (o:Int):(sideS s o).err=s.err:=by
 unfold sideS
 split
 ·rw[fail_stuck _ _ (by rw[vgetS_err h];exact h),vgetS_err h]
 ·exact vgetS_err h
theorem getS_behind (s:St) (h:(getS s).err=0):(behind s).err=0:=by
 by_cases hb:(behind s).err=0
 ·exact hb
 ·exfalso
  unfold getS at h
  split at h
  ·exact hb h
  ·rw[sideS_err hb] at h;exact hb h
theorem behind_name (s:St) (h:(behind s).err=0):(nameS s).err=0:=by
 by_cases hb:(nameS s).err=0
 ·exact hb
 ·exfalso
  unfold behind at h
  rw[opS_err hb] at h;exact hb h
/-! What was laid is read as it was. -/
theorem text_put16 (t:LU) (r:LU) (h:t.length<=16):(St.mk (text t++r) 0).textV 16=t/\(St.mk (text t++r) 0).textS 16=⟨r,0⟩:=by
 have e:text t++r=put t.length++(t++r):=by unfold text;simp
 rw[e]
 obtain⟨h1,h2⟩:=Vals.upto_put 16 t.length (t++r) h (by omega)
 rw[show ((16:Nat):Int)=16 from rfl] at h1 h2
 refine ⟨?_,?_⟩
 ·unfold St.textV
  rw[h1,h2,if_neg (by simp)]
  simp
 ·unfold St.textS
  rw[h1,h2,if_neg (by simp)]
  simp
theorem right_parts {n:LU} {o k i:Int} {t:LU} (h:right n o k i t=true):1<=n.length/\n.length<=16/\asks o k i t=true:=by
 unfold right at h
 simp only[Bool.and_eq_true,decide_eq_true_eq] at h
 exact⟨h.1.1,h.1.2,h.2⟩
theorem asks_cases {o k i:Int} {t:LU} (h:asks o k i t=true):(o=8/\k=0/\i=0/\t=[])∨(o≠8/\1<=o/\o<=7/\Vals.right k i t=true/\t.length<=32/\(o=7->k=2)):=by
 unfold asks at h
 by_cases h8:o=8
 ·rw[if_pos h8] at h
  simp only[decide_eq_true_eq] at h
  exact .inl ⟨h8,h⟩
 ·rw[if_neg h8] at h
  right
  by_cases h7:o=7
  ·rw[if_pos h7] at h
   simp only[side,Bool.and_eq_true,decide_eq_true_eq] at h
   exact⟨h8,by omega,by omega,h.1.1,h.1.2,fun _=>h.2⟩
  ·rw[if_neg h7] at h
   simp only[side,Bool.and_eq_true,decide_eq_true_eq] at h
   exact⟨h8,h.1.1,by omega,h.2.1,h.2.2,fun e=>absurd e h7⟩
theorem asks_of {o k i:Int} {t:LU} (h8:o≠8) (h1:1<=o) (h2:o<=7) (hr:Vals.right k i t=true) (ht:t.length<=32) (h7:o=7->k=2):asks o k i t=true:=by
 unfold asks side
 rw[if_neg h8,hr]
 by_cases e:o=7
 ·rw[if_pos e,h7 e];simpa using ht
 ·rw[if_neg e]
  simp only[Bool.true_and,Bool.and_eq_true,decide_eq_true_eq]
  exact⟨⟨h1,by omega⟩,ht⟩
theorem get_lay (n:LU) (o k i:Int) (t r:LU) (h:right n o k i t=true) (h1:-9223372036854775808<=i) (h2:i<=9223372036854775807):
  getS ⟨lay n o k i t++r,0⟩=⟨r,0⟩/\getN ⟨lay n o k i t++r,0⟩=n/\getO ⟨lay n o k i t++r,0⟩=o/\getK ⟨lay n o k i t++r,0⟩=k/\getI ⟨lay n o k i t++r,0⟩=i/\getT ⟨lay n o k i t++r,0⟩=t:=by
 obtain⟨a1,a2,ha⟩:=right_parts h
 unfold lay
 rw[if_pos h]
 unfold bytes
 rw[List.append_assoc,List.append_assoc]
 generalize hrest:(if o=8 then [] else Vals.lay k i t)++r=q
 obtain⟨e1,e2⟩:=text_put16 n (put o.toNat++q) a2
 have hN:nameS ⟨text n++(put o.toNat++q),0⟩=⟨put o.toNat++q,0⟩:=by
  unfold nameS
  rw[e1,e2,if_neg (by intro hn;rw[hn] at a1;simp at a1)]
 have ho:1<=o/\o<=8:=by rcases asks_cases ha with ⟨rfl,_⟩ | ⟨_,b1,b2,_⟩<;>omega
 obtain⟨e3,e4⟩:=Vals.upto_put 8 o.toNat q (by omega) (by omega)
 rw[show ((8:Nat):Int)=8 from rfl] at e3 e4
 have hO:rawO ⟨text n++(put o.toNat++q),0⟩=o.toNat:=by unfold rawO;rw[hN,e3]
 have hB:behind ⟨text n++(put o.toNat++q),0⟩=⟨q,0⟩:=by
  unfold behind opS
  rw[hN,e3,e4,if_neg (by omega)]
 generalize (St.mk (text n++(put o.toNat++q)) 0)=s at *
 rcases asks_cases ha with ⟨rfl,rfl,rfl,rfl⟩|⟨h8,b1,b2,b3,b4,b5⟩
 ·rw[if_pos rfl,List.nil_append] at hrest
  subst hrest
  replace hO:rawO s=8:=hO
  have hS:getS s=⟨r,0⟩:=by unfold getS;rw[hO,if_pos rfl,hB]
  obtain⟨g1,g2,g3,g4,g5⟩:=get_good s (by rw[hS])
  refine ⟨hS,g1.trans e1,?_,?_,?_,?_⟩
  ·rw[g2,hO];rfl
  ·rw[g3];unfold rawK;rw[hO];rfl
  ·rw[g4];unfold rawI;rw[hO];rfl
  ·rw[g5];unfold rawT;rw[hO];rfl
 ·rw[if_neg h8] at hrest
  have ne:¬o.toNat=8:=by omega
  obtain⟨v1,v2,v3,v4⟩:=Vals.get_lay k i t r b3 h1 h2
  rw[hrest] at v1 v2 v3 v4
  have hS:getS s=⟨r,0⟩:=by
   unfold getS
   rw[hO,if_neg ne,hB]
   unfold sideS
   rw[v1,v2,v4,if_neg]
   unfold wrong
   simp only[Bool.or_eq_true,Bool.and_eq_true,decide_eq_true_eq]
   rintro (⟨c1,c2⟩|c)
   ·exact c2 (b5 (by omega))
   ·omega
  obtain⟨g1,g2,g3,g4,g5⟩:=get_good s (by rw[hS])
  refine ⟨hS,g1.trans e1,?_,?_,?_,?_⟩
  ·rw[g2,hO];omega
  ·rw[g3];unfold rawK;rw[hO,if_neg ne,hB];exact v2
  ·rw[g4];unfold rawI;rw[hO,if_neg ne,hB];exact v3
  ·rw[g5];unfold rawT;rw[hO,if_neg ne,hB];exact v4
/-! What is read was laid just so, and is right. -/
theorem get_ok (b:LU) (h:(getS ⟨b,0⟩).err=0):
  ∃j,j<=b.length/\getS ⟨b,0⟩=⟨b.drop j,0⟩/\right (getN ⟨b,0⟩) (getO ⟨b,0⟩) (getK ⟨b,0⟩) (getI ⟨b,0⟩) (getT ⟨b,0⟩)=true/\lay (getN ⟨b,0⟩) (getO ⟨b,0⟩) (getK ⟨b,0⟩) (getI ⟨b,0⟩) (getT ⟨b,0⟩)=b.take j:=by
 obtain⟨g1,g2,g3,g4,g5⟩:=get_good _ h
 have hb:=getS_behind _ h
 have hn:=behind_name _ hb
 have hne:(St.mk b 0).textV 16≠[]:=by
  intro e
  unfold nameS at hn
  rw[if_pos e] at hn
  exact fail_err _ 3 (by decide) hn
 have hN:nameS ⟨b,0⟩=(St.mk b 0).textS 16:=by unfold nameS;rw[if_neg hne]
 rw[hN] at hn
 rcases St.text_or b 16 with ⟨c1,_⟩|⟨j,d1,d2,d3,_⟩
 ·exact absurd hn c1
 ·have hno:rawO ⟨b,0⟩≠0:=by
   intro e
   unfold behind opS at hb
   unfold rawO at e
   rw[if_pos e] at hb
   exact fail_err _ 3 (by decide) hb
  have hO:rawO ⟨b,0⟩=(St.mk (b.drop j) 0).uptoV 8:=by unfold rawO;rw[hN,d2]
  have hB:behind ⟨b,0⟩=(St.mk (b.drop j) 0).uptoS 8:=by
   unfold behind opS
   rw[hN,d2,if_neg (by rw[<-hO];exact hno)]
  rw[hB] at hb
  rcases Vals.upto_or (b.drop j) 8 (by decide) with ⟨c1,_⟩|⟨m,f1,f2,f3,f4⟩
  ·exact absurd hb c1
  ·rw[<-hO] at f3 f4
   rw[f2] at hB
   rw[List.length_drop] at f1
   have hlN:=Vals.textV_le (St.mk b 0) 16
   have hpN:1<=((St.mk b 0).textV 16).length:=by
    rcases hq:(St.mk b 0).textV 16 with _|⟨x,l⟩
    ·exact absurd hq hne
    ·simp
   have hlN':((St.mk b 0).textV 16).length<=16:=hlN
   by_cases h8:rawO ⟨b,0⟩=8
   ·have hS:getS ⟨b,0⟩=⟨b.drop (j+m),0⟩:=by unfold getS;rw[if_pos h8,hB,List.drop_drop]
    have k1:getK ⟨b,0⟩=0:=by rw[g3];unfold rawK;rw[if_pos h8]
    have k2:getI ⟨b,0⟩=0:=by rw[g4];unfold rawI;rw[if_pos h8]
    have k3:getT ⟨b,0⟩=[]:=by rw[g5];unfold rawT;rw[if_pos h8]
    have k4:getO ⟨b,0⟩=8:=by rw[g2,h8];rfl
    have hr:right (getN ⟨b,0⟩) (getO ⟨b,0⟩) (getK ⟨b,0⟩) (getI ⟨b,0⟩) (getT ⟨b,0⟩)=true:=by
     rw[k1,k2,k3,k4,g1]
     unfold right asks
     simp[hpN,hlN']
    refine ⟨j+m,by omega,hS,hr,?_⟩
    unfold lay
    rw[if_pos hr]
    unfold bytes
    rw[k4,g1,if_pos rfl,d3,List.append_nil,List.take_add]
    rw[h8] at f3
    congr 1
   ·have hS':getS ⟨b,0⟩=sideS ⟨(b.drop j).drop m,0⟩ (rawO ⟨b,0⟩:Int):=by unfold getS;rw[if_neg h8,hB]
    have hw:wrong (rawO ⟨b,0⟩:Int) (Vals.getK ⟨(b.drop j).drop m,0⟩) (Vals.getT ⟨(b.drop j).drop m,0⟩)=false:=by
     cases hq:wrong (rawO ⟨b,0⟩:Int) (Vals.getK ⟨(b.drop j).drop m,0⟩) (Vals.getT ⟨(b.drop j).drop m,0⟩) with
     | false=>rfl
     | true=>
      rw[hS'] at h
      unfold sideS at h
      rw[if_pos hq] at h
      exact absurd h (fail_err _ 3 (by decide))
    have hS2:getS ⟨b,0⟩=Vals.getS ⟨(b.drop j).drop m,0⟩:=by rw[hS'];unfold sideS;rw[if_neg (by rw[hw];simp)]
    rw[hS2] at h
    obtain⟨p,q1,q2,q3,q4⟩:=Vals.get_ok ((b.drop j).drop m) h
    have k1:getK ⟨b,0⟩=Vals.getK ⟨(b.drop j).drop m,0⟩:=by rw[g3];unfold rawK;rw[if_neg h8,hB]
    have k2:getI ⟨b,0⟩=Vals.getI ⟨(b.drop j).drop m,0⟩:=by rw[g4];unfold rawI;rw[if_neg h8,hB]
    have k3:getT ⟨b,0⟩=Vals.getT ⟨(b.drop j).drop m,0⟩:=by rw[g5];unfold rawT;rw[if_neg h8,hB]
    unfold wrong at hw
    simp only[Bool.or_eq_false_iff,Bool.and_eq_false_iff,decide_eq_false_iff_not] at hw
    have hr:right (getN ⟨b,0⟩) (getO ⟨b,0⟩) (getK ⟨b,0⟩) (getI ⟨b,0⟩) (getT ⟨b,0⟩)=true:=by
     rw[k1,k2,k3,g2,g1]
     unfold right
     have:=rawO_le ⟨b,0⟩
     rw[asks_of (by omega) (by omega) (by omega) q3 (by omega) (fun e=>by
      rcases hw.1 with c|c
      ·exact absurd e c
      ·exact Decidable.not_not.1 c)]
     simp[hpN,hlN']
    rw[List.length_drop,List.length_drop] at q1
    refine ⟨j+m+p,by omega,by rw[hS2,q2,List.drop_drop,List.drop_drop,Nat.add_assoc],hr,?_⟩
    unfold lay
    rw[if_pos hr]
    unfold bytes
    rw[if_neg (by rw[g2];omega),k1,k2,k3,q4,g2,g1,Int.toNat_natCast,f3,d3]
    rw[show j+m+p=j+(m+p) by omega,List.take_add,List.take_add]
theorem lay_len (n:LU) (o k i:Int) (t:LU) (h1:-9223372036854775808<=i) (h2:i<=9223372036854775807):(lay n o k i t).length<=300:=by
 unfold lay
 split
 ·rename_i h
  obtain⟨a1,a2,ha⟩:=right_parts h
  have b1:=put_len_le n.length (by omega)
  have b2:(put o.toNat).length<=10:=by
   refine put_len_le _ ?_
   rcases asks_cases ha with ⟨rfl,_⟩|⟨_,_,_,_⟩<;>omega
  have b3:=Vals.lay_len k i t h1 h2
  unfold bytes text
  split<;>simp<;>omega
 ·simp
theorem right_bd {n:LU} {o k i:Int} {t:LU} (h:right n o k i t=true):n.length<=16/\t.length<=32:=by
 obtain⟨a1,a2,ha⟩:=right_parts h
 rcases asks_cases ha with ⟨_,_,_,rfl⟩|⟨_,_,_,_,h,_⟩
 ·exact⟨a2,by simp⟩
 ·exact⟨a2,h⟩
theorem getI_bd (b:LU):-9223372036854775808<=getI ⟨b,0⟩/\getI ⟨b,0⟩<=9223372036854775807:=by
 by_cases h:(getS ⟨b,0⟩).err=0
 ·obtain⟨g1,g2,g3,g4,g5⟩:=get_good _ h
  rw[g4]
  unfold rawI
  split
  ·omega
  ·have hb:=getS_behind _ h
   generalize hq:behind ⟨b,0⟩=s at *
   obtain⟨q,e⟩:=s
   simp only at hb
   subst hb
   by_cases hv:(Vals.getS ⟨q,0⟩).err=0
   ·obtain⟨_,_,_,hr,_⟩:=Vals.get_ok q hv
    have:=Vals.get_bd q hr
    exact⟨this.1,this.2.1⟩
   ·rw[(Vals.get_bad _ hv).2.1];omega
 ·rw[(get_bad _ h).2.2.2.1];omega
end Preds
namespace Go.Proofs.YtnfigjggjmncdaaGreat
section
open Go.RowKit
theorem ret_b {a b:Bool} (h:a=b):Ending.returned (.bool a)=.returned (.bool b):=by rw[h]
theorem blk5 {w:World} {g:Nat} {t:TypeId} {a b c d e:Value} (hB:Blk w g t #[a,b,c,d,e]):
  w.cell? ⟨g,0,none⟩=some a/\w.cell? ⟨g,1,none⟩=some b/\w.cell? ⟨g,2,none⟩=some c/\w.cell? ⟨g,3,none⟩=some d/\w.cell? ⟨g,4,none⟩=some e /\
   w.frozen? ⟨g,0,none⟩=false/\w.frozen? ⟨g,1,none⟩=false/\w.frozen? ⟨g,2,none⟩=false/\w.frozen? ⟨g,3,none⟩=false/\w.frozen? ⟨g,4,none⟩=false:=
 ⟨hB.cell 0,hB.cell 1,hB.cell 2,hB.cell 3,hB.cell 4,hB.frozen 0,hB.frozen 1,hB.frozen 2,hB.frozen 3,hB.frozen 4⟩
theorem box5 (w:World) (t:TypeId) (a b c d e:Value):Blk (w.alloc (.cells #[a,b,c,d,e] t)) w.heap.size t #[a,b,c,d,e]/\Below w.heap.size w (w.alloc (.cells #[a,b,c,d,e] t)):=
 ⟨Blk.new w _ _,(Below.refl _ _).alloc (Jn) _⟩
theorem side_at (k i:Int) (t:LU) (w:World) (hl:t.length<=9223372036854775807):
  Calls Tryz.prog 103 #[.agg (vC k i t.toArray)] w fun e w'=>e=.returned (.bool (Preds.side k i t))/\Below w.heap.size w w':=by
 obtain⟨hB,hb0⟩:=box3 w 52 (.int .i64 k) (.int .i64 i) (.string ⟨t.toArray⟩)
 have HE:Hid (Preds.side k i t=(Vals.right k i t && decide (t.length<=32))):=rfl
 go_enter Tryz.func103,Tryz.ntmps103
 go_wp2_with fail
 generalize w.alloc (.cells (vC k i t.toArray) 52)=w0 at *
 refine (right_at k i t w0 hl).mono ?_
 rintro e w1 ⟨rfl,hb1⟩
 obtain⟨c0,c1,c2,_,_,_⟩:=blk3 (hB.below hb1 hB.lt)
 have hbw:=below_next hb0 (Jn) hb1
 clear hB hb0 hb1
 cases hr:Vals.right k i t with
 | false=>
  have HF:Hid (Preds.side k i t=false):=by show _=_;rw[HE.o,hr];rfl
  clear hr HE
  go_wp2_with fail
  go_ret
  exact⟨ret_b HF.o.symm,hbw⟩
 | true=>
  have HF:Hid (Preds.side k i t=decide ((t.length:Int)<=32)):=by show _=_;rw[HE.o,hr];simp;omega
  clear hr HE
  go_wp2_with fail
  go_ret
  exact⟨ret_b HF.o.symm,hbw⟩
theorem side_is (k i:Int) (t:LU) (b:Bool) (hb:Preds.side k i t=b) (w:World) (hl:t.length<=9223372036854775807):
  Calls Tryz.prog 103 #[.agg (vC k i t.toArray)] w fun e w'=>e=.returned (.bool b)/\Below w.heap.size w w':=by
 subst hb;exact side_at k i t w hl
theorem pright_name (n:LU) (o k i:Int) (t:LU) (w:World) (hn:n.length<=9223372036854775807) (_hl:t.length<=9223372036854775807) (h:n.length<1∨16<n.length):Calls Tryz.prog 79 #[.agg (pC n.toArray o k i t.toArray)] w fun e w'=>e=.returned (.bool (Preds.right n o k i t))/\Below w.heap.size w w':=by
 obtain⟨hB,hb0⟩:=box5 w 54 (.string ⟨n.toArray⟩) (.int .i64 o) (.int .i64 k) (.int .i64 i) (.string ⟨t.toArray⟩)
 have HF:Hid (Preds.right n o k i t=false):=by
  show _=_
  unfold Preds.right
  rcases h with h|h
  ·rw[decide_eq_false (by omega:¬1<=n.length)];rfl
  ·rw[decide_eq_false (by omega:¬n.length<=16)];simp
 by_cases h1:n.length<1
 ·have d1:decide ((n.length:Int)<1)=true:=by simp;omega
  clear h h1
  go_enter Tryz.func79,Tryz.ntmps79
  go_wp2_with fail
  go_ret
  exact⟨ret_b HF.o.symm,hb0⟩
 ·have d1:decide ((n.length:Int)<1)=false:=by simp;omega
  have d2:decide ((16:Int)<(n.length:Int))=true:=by simp;omega
  clear h h1
  go_enter Tryz.func79,Tryz.ntmps79
  go_wp2_with fail
  go_ret
  exact⟨ret_b HF.o.symm,hb0⟩
theorem pright_exists (n:LU) (k i:Int) (t:LU) (w:World) (hn:n.length<=9223372036854775807) (_hl:t.length<=9223372036854775807) (h1:1<=n.length) (h2:n.length<=16):Calls Tryz.prog 79 #[.agg (pC n.toArray 8 k i t.toArray)] w fun e w'=>e=.returned (.bool (Preds.right n 8 k i t))/\Below w.heap.size w w':=by
 obtain⟨hB,hb0⟩:=box5 w 54 (.string ⟨n.toArray⟩) (.int .i64 8) (.int .i64 k) (.int .i64 i) (.string ⟨t.toArray⟩)
 have d1:decide ((n.length:Int)<1)=false:=by simp;omega
 have d2:decide ((16:Int)<(n.length:Int))=false:=by simp;omega
 have HF:Hid (Preds.right n 8 k i t=decide (k=0/\i=0/\t=[])):=by
  show _=_
  unfold Preds.right Preds.asks
  simp[h1,h2]
 clear h1 h2
 have hG:=eqGuardV
 go_enter Tryz.func79,Tryz.ntmps79
 by_cases a0:k=0
 ·subst a0
  by_cases a1:i=0
  ·subst a1
   by_cases a2:t=[]
   ·subst a2
    go_wp2_with fail
    go_ret
    exact⟨ret_b (by rw[HF.o];simp),hb0⟩
   ·have e2:(t == [])=false:=by simpa using a2
    have HF2:Hid (Preds.right n 8 0 0 t=false):=by show _=_;rw[HF.o];simp[a2]
    clear a2 HF
    go_wp2_with fail
    all_goals (go_ret;exact⟨ret_b HF2.o.symm,hb0⟩)
  ·have e1:(i == 0)=false:=by simpa using a1
   have HF2:Hid (Preds.right n 8 0 i t=false):=by show _=_;rw[HF.o];simp[a1]
   clear a1 HF
   go_wp2_with fail
   all_goals (go_ret;exact⟨ret_b HF2.o.symm,hb0⟩)
 ·have e0:(k == 0)=false:=by simpa using a0
  have HF2:Hid (Preds.right n 8 k i t=false):=by show _=_;rw[HF.o];simp[a0]
  clear a0 HF
  go_wp2_with fail
  all_goals (go_ret;exact⟨ret_b HF2.o.symm,hb0⟩)
theorem pright_ord (n:LU) (o k i:Int) (t:LU) (w:World) (hn:n.length<=9223372036854775807) (hl:t.length<=9223372036854775807) (h1:1<=n.length) (h2:n.length<=16) (ho:1<=o) (ho2:o<=6):Calls Tryz.prog 79 #[.agg (pC n.toArray o k i t.toArray)] w fun e w'=>e=.returned (.bool (Preds.right n o k i t))/\Below w.heap.size w w':=by
 have d1:decide ((n.length:Int)<1)=false:=by simp;omega
 have d2:decide ((16:Int)<(n.length:Int))=false:=by simp;omega
 have HF:Hid (Preds.right n o k i t=Preds.side k i t):=by
  show _=_
  unfold Preds.right Preds.asks
  rw[if_neg (by omega),if_neg (by omega)]
  simp[h1,h2,ho,ho2]
 clear h1 h2
 have h6:o=1∨o=2∨o=3∨o=4∨o=5∨o=6:=by omega
 clear ho ho2
 rcases h6 with rfl|rfl|rfl|rfl|rfl|rfl
 ·obtain⟨hB,hb0⟩:=box5 w 54 (.string ⟨n.toArray⟩) (.int .i64 1) (.int .i64 k) (.int .i64 i) (.string ⟨t.toArray⟩)
  go_enter Tryz.func79,Tryz.ntmps79
  go_wp2_with fail
  generalize w.alloc (.cells (pC n.toArray 1 k i t.toArray) 54)=w0 at *
  refine (side_at k i t w0 hl).mono ?_
  rintro e w1 ⟨rfl,hb1⟩
  have hbw:=below_next hb0 (Jn) hb1
  clear hB hb0 hb1
  go_wp2_with fail
  go_ret
  exact⟨ret_b HF.o.symm,hbw⟩
 ·obtain⟨hB,hb0⟩:=box5 w 54 (.string ⟨n.toArray⟩) (.int .i64 2) (.int .i64 k) (.int .i64 i) (.string ⟨t.toArray⟩)
  go_enter Tryz.func79,Tryz.ntmps79
  go_wp2_with fail
  generalize w.alloc (.cells (pC n.toArray 2 k i t.toArray) 54)=w0 at *
  refine (side_at k i t w0 hl).mono ?_
  rintro e w1 ⟨rfl,hb1⟩
  have hbw:=below_next hb0 (Jn) hb1
  clear hB hb0 hb1
  go_wp2_with fail
  go_ret
  exact⟨ret_b HF.o.symm,hbw⟩
 ·obtain⟨hB,hb0⟩:=box5 w 54 (.string ⟨n.toArray⟩) (.int .i64 3) (.int .i64 k) (.int .i64 i) (.string ⟨t.toArray⟩)
  go_enter Tryz.func79,Tryz.ntmps79
  go_wp2_with fail
  generalize w.alloc (.cells (pC n.toArray 3 k i t.toArray) 54)=w0 at *
  refine (side_at k i t w0 hl).mono ?_
  rintro e w1 ⟨rfl,hb1⟩
  have hbw:=below_next hb0 (Jn) hb1
  clear hB hb0 hb1
  go_wp2_with fail
  go_ret
  exact⟨ret_b HF.o.symm,hbw⟩
 ·obtain⟨hB,hb0⟩:=box5 w 54 (.string ⟨n.toArray⟩) (.int .i64 4) (.int .i64 k) (.int .i64 i) (.string ⟨t.toArray⟩)
  go_enter Tryz.func79,Tryz.ntmps79
  go_wp2_with fail
  generalize w.alloc (.cells (pC n.toArray 4 k i t.toArray) 54)=w0 at *
  refine (side_at k i t w0 hl).mono ?_
  rintro e w1 ⟨rfl,hb1⟩
  have hbw:=below_next hb0 (Jn) hb1
  clear hB hb0 hb1
  go_wp2_with fail
  go_ret
  exact⟨ret_b HF.o.symm,hbw⟩
 ·obtain⟨hB,hb0⟩:=box5 w 54 (.string ⟨n.toArray⟩) (.int .i64 5) (.int .i64 k) (.int .i64 i) (.string ⟨t.toArray⟩)
  go_enter Tryz.func79,Tryz.ntmps79
  go_wp2_with fail
  generalize w.alloc (.cells (pC n.toArray 5 k i t.toArray) 54)=w0 at *
  refine (side_at k i t w0 hl).mono ?_
  rintro e w1 ⟨rfl,hb1⟩
  have hbw:=below_next hb0 (Jn) hb1
  clear hB hb0 hb1
  go_wp2_with fail
  go_ret
  exact⟨ret_b HF.o.symm,hbw⟩
 ·obtain⟨hB,hb0⟩:=box5 w 54 (.string ⟨n.toArray⟩) (.int .i64 6) (.int .i64 k) (.int .i64 i) (.string ⟨t.toArray⟩)
  go_enter Tryz.func79,Tryz.ntmps79
  go_wp2_with fail
  generalize w.alloc (.cells (pC n.toArray 6 k i t.toArray) 54)=w0 at *
  refine (side_at k i t w0 hl).mono ?_
  rintro e w1 ⟨rfl,hb1⟩
  have hbw:=below_next hb0 (Jn) hb1
  clear hB hb0 hb1
  go_wp2_with fail
  go_ret
  exact⟨ret_b HF.o.symm,hbw⟩
theorem pright_pre (n:LU) (k i:Int) (t:LU) (w:World) (hn:n.length<=9223372036854775807) (hl:t.length<=9223372036854775807) (h1:1<=n.length) (h2:n.length<=16):Calls Tryz.prog 79 #[.agg (pC n.toArray 7 k i t.toArray)] w fun e w'=>e=.returned (.bool (Preds.right n 7 k i t))/\Below w.heap.size w w':=by
 obtain⟨hB,hb0⟩:=box5 w 54 (.string ⟨n.toArray⟩) (.int .i64 7) (.int .i64 k) (.int .i64 i) (.string ⟨t.toArray⟩)
 have d1:decide ((n.length:Int)<1)=false:=by simp;omega
 have d2:decide ((16:Int)<(n.length:Int))=false:=by simp;omega
 have HF:Hid (Preds.right n 7 k i t=(Preds.side k i t && decide (k=2))):=by
  show _=_
  unfold Preds.right Preds.asks
  simp[h1,h2]
 clear h1 h2
 go_enter Tryz.func79,Tryz.ntmps79
 go_wp2_with fail
 generalize w.alloc (.cells (pC n.toArray 7 k i t.toArray) 54)=w0 at *
 cases hs:Preds.side k i t with
 | false=>
  have HF2:Hid (Preds.right n 7 k i t=false):=by show _=_;rw[HF.o,hs];rfl
  refine (side_is k i t false hs w0 hl).mono ?_
  rintro e w1 ⟨rfl,hb1⟩
  have hbw:=below_next hb0 (Jn) hb1
  clear hB hb0 hb1 hs HF
  go_wp2_with fail
  go_ret
  exact⟨ret_b HF2.o.symm,hbw⟩
 | true=>
  have HF2:Hid (Preds.right n 7 k i t=(k == 2)):=by show _=_;rw[HF.o,hs];simp;by_cases h:k=2<;>simp[h]
  refine (side_is k i t true hs w0 hl).mono ?_
  rintro e w1 ⟨rfl,hb1⟩
  obtain⟨c0,c1,c2,c3,c4,_,_,_,_,_⟩:=blk5 (hB.below hb1 hB.lt)
  have hbw:=below_next hb0 (Jn) hb1
  clear hB hb0 hb1 hs HF
  go_wp2_with fail
  go_ret
  exact⟨ret_b HF2.o.symm,hbw⟩
theorem pright_none (n:LU) (o k i:Int) (t:LU) (w:World) (hn:n.length<=9223372036854775807) (_hl:t.length<=9223372036854775807) (h1:1<=n.length) (h2:n.length<=16) (ho:o<1∨8<o):Calls Tryz.prog 79 #[.agg (pC n.toArray o k i t.toArray)] w fun e w'=>e=.returned (.bool (Preds.right n o k i t))/\Below w.heap.size w w':=by
 obtain⟨hB,hb0⟩:=box5 w 54 (.string ⟨n.toArray⟩) (.int .i64 o) (.int .i64 k) (.int .i64 i) (.string ⟨t.toArray⟩)
 have d1:decide ((n.length:Int)<1)=false:=by simp;omega
 have d2:decide ((16:Int)<(n.length:Int))=false:=by simp;omega
 have HF:Hid (Preds.right n o k i t=false):=by
  show _=_
  unfold Preds.right Preds.asks
  rw[if_neg (by omega),if_neg (by omega)]
  rcases ho with ho|ho
  ·rw[decide_eq_false (by omega:¬1<=o)];simp
  ·rw[decide_eq_false (by omega:¬o<=6)];simp
 have e1:(o == 1)=false:=by simp;omega
 have e2:(o == 2)=false:=by simp;omega
 have e3:(o == 3)=false:=by simp;omega
 have e4:(o == 4)=false:=by simp;omega
 have e5:(o == 5)=false:=by simp;omega
 have e6:(o == 6)=false:=by simp;omega
 have e7:(o == 7)=false:=by simp;omega
 have e8:(o == 8)=false:=by simp;omega
 clear h1 h2 ho
 go_enter Tryz.func79,Tryz.ntmps79
 go_wp2_with fail
 go_ret
 exact⟨ret_b HF.o.symm,hb0⟩
theorem pright_at (n:LU) (o k i:Int) (t:LU) (w:World) (hn:n.length<=9223372036854775807) (hl:t.length<=9223372036854775807):Calls Tryz.prog 79 #[.agg (pC n.toArray o k i t.toArray)] w fun e w'=>e=.returned (.bool (Preds.right n o k i t))/\Below w.heap.size w w':=by
 by_cases h:n.length<1∨16<n.length
 ·exact pright_name n o k i t w hn hl h
 ·by_cases h8:o=8
  ·subst h8;exact pright_exists n k i t w hn hl (by omega) (by omega)
  ·by_cases h7:o=7
   ·subst h7;exact pright_pre n k i t w hn hl (by omega) (by omega)
   ·by_cases h6:1<=o/\o<=6
    ·exact pright_ord n o k i t w hn hl (by omega) (by omega) h6.1 h6.2
    ·exact pright_none n o k i t w hn hl (by omega) (by omega) (by omega)
theorem pright_is (n:LU) (o k i:Int) (t:LU) (w:World) (hn:n.length<=9223372036854775807) (hl:t.length<=9223372036854775807) (b:Bool) (hb:Preds.right n o k i t=b):Calls Tryz.prog 79 #[.agg (pC n.toArray o k i t.toArray)] w fun e w'=>e=.returned (.bool b)/\Below w.heap.size w w':=by
 subst hb;exact pright_at n o k i t w hn hl
theorem rpright_name (n:LU) (o k i:Int) (t:LU) (w:World) (hn:n.length<=9223372036854775807) (_hl:t.length<=9223372036854775807) (h:n.length<1∨16<n.length):Calls Tryz.prog 86 #[.agg (pC n.toArray o k i t.toArray)] w fun e w'=>e=.returned (.bool (Preds.right n o k i t))/\Below w.heap.size w w':=by
 obtain⟨hB,hb0⟩:=box5 w 54 (.string ⟨n.toArray⟩) (.int .i64 o) (.int .i64 k) (.int .i64 i) (.string ⟨t.toArray⟩)
 have HF:Hid (Preds.right n o k i t=false):=by
  show _=_
  unfold Preds.right
  rcases h with h|h
  ·rw[decide_eq_false (by omega:¬1<=n.length)];rfl
  ·rw[decide_eq_false (by omega:¬n.length<=16)];simp
 by_cases h1:n.length<1
 ·have d1:decide ((n.length:Int)<1)=true:=by simp;omega
  clear h h1
  go_enter Tryz.func86,Tryz.ntmps86
  go_wp2_with fail
  go_ret
  exact⟨ret_b HF.o.symm,hb0⟩
 ·have d1:decide ((n.length:Int)<1)=false:=by simp;omega
  have d2:decide ((16:Int)<(n.length:Int))=true:=by simp;omega
  clear h h1
  go_enter Tryz.func86,Tryz.ntmps86
  go_wp2_with fail
  go_ret
  exact⟨ret_b HF.o.symm,hb0⟩
theorem rpright_exists (n:LU) (k i:Int) (t:LU) (w:World) (hn:n.length<=9223372036854775807) (_hl:t.length<=9223372036854775807) (h1:1<=n.length) (h2:n.length<=16):Calls Tryz.prog 86 #[.agg (pC n.toArray 8 k i t.toArray)] w fun e w'=>e=.returned (.bool (Preds.right n 8 k i t))/\Below w.heap.size w w':=by
 obtain⟨hB,hb0⟩:=box5 w 54 (.string ⟨n.toArray⟩) (.int .i64 8) (.int .i64 k) (.int .i64 i) (.string ⟨t.toArray⟩)
 have d1:decide ((n.length:Int)<1)=false:=by simp;omega
 have d2:decide ((16:Int)<(n.length:Int))=false:=by simp;omega
 have HF:Hid (Preds.right n 8 k i t=decide (k=0/\i=0/\t=[])):=by
  show _=_
  unfold Preds.right Preds.asks
  simp[h1,h2]
 clear h1 h2
 have hG:=eqGuardV
 go_enter Tryz.func86,Tryz.ntmps86
 by_cases a0:k=0
 ·subst a0
  by_cases a1:i=0
  ·subst a1
   by_cases a2:t=[]
   ·subst a2
    go_wp2_with fail
    go_ret
    exact⟨ret_b (by rw[HF.o];simp),hb0⟩
   ·have e2:(t == [])=false:=by simpa using a2
    have HF2:Hid (Preds.right n 8 0 0 t=false):=by show _=_;rw[HF.o];simp[a2]
    clear a2 HF
    go_wp2_with fail
    all_goals (go_ret;exact⟨ret_b HF2.o.symm,hb0⟩)
  ·have e1:(i == 0)=false:=by simpa using a1
   have HF2:Hid (Preds.right n 8 0 i t=false):=by show _=_;rw[HF.o];simp[a1]
   clear a1 HF
   go_wp2_with fail
   all_goals (go_ret;exact⟨ret_b HF2.o.symm,hb0⟩)
 ·have e0:(k == 0)=false:=by simpa using a0
  have HF2:Hid (Preds.right n 8 k i t=false):=by show _=_;rw[HF.o];simp[a0]
  clear a0 HF
  go_wp2_with fail
  all_goals (go_ret;exact⟨ret_b HF2.o.symm,hb0⟩)
theorem rpright_else (n:LU) (o k i:Int) (t:LU) (w:World) (hn:n.length<=9223372036854775807) (hl:t.length<=9223372036854775807) (h1:1<=n.length) (h2:n.length<=16) (ho:o≠8):Calls Tryz.prog 86 #[.agg (pC n.toArray o k i t.toArray)] w fun e w'=>e=.returned (.bool (Preds.right n o k i t))/\Below w.heap.size w w':=by
 obtain⟨hB,hb0⟩:=box5 w 54 (.string ⟨n.toArray⟩) (.int .i64 o) (.int .i64 k) (.int .i64 i) (.string ⟨t.toArray⟩)
 have d1:decide ((n.length:Int)<1)=false:=by simp;omega
 have d2:decide ((16:Int)<(n.length:Int))=false:=by simp;omega
 have HF:Hid (Preds.right n o k i t=(Vals.right k i t && decide (t.length<=32) && decide (1<=o) && decide (o<=7) && (decide (o≠7) || decide (k=2)))):=by
  show _=_
  unfold Preds.right Preds.asks Preds.side
  rw[if_neg ho]
  by_cases h7:o=7
  ·subst h7;simp[h1,h2]
  ·have h76:(o<=7)↔(o<=6):=by omega
   simp[h1,h2,h7,h76]
   cases Vals.right k i t<;>simp
   by_cases b1:1<=o<;>by_cases b2:o<=6<;>by_cases b3:t.length<=32<;>simp[b1,b2,b3]
 have e8:(o == 8)=false:=by simpa using ho
 clear h1 h2
 go_enter Tryz.func86,Tryz.ntmps86
 go_wp2_with fail
 generalize w.alloc (.cells (pC n.toArray o k i t.toArray) 54)=w0 at *
 refine (refRight_at k i t w0 hl).mono ?_
 rintro e w1 ⟨rfl,hb1⟩
 obtain⟨c0,c1,c2,c3,c4,_,_,_,_,_⟩:=blk5 (hB.below hb1 hB.lt)
 have hbw:=below_next hb0 (Jn) hb1
 clear hB hb0 hb1
 cases hr:Vals.right k i t with
 | false=>
  have HF2:Hid (Preds.right n o k i t=false):=by show _=_;rw[HF.o,hr];rfl
  clear hr HF ho
  go_wp2_with fail
  go_ret
  exact⟨ret_b HF2.o.symm,hbw⟩
 | true=>
  by_cases b1:t.length<=32
  ·have q1:decide ((t.length:Int)<=32)=true:=by simp;omega
   by_cases b2:1<=o
   ·have q2:decide (1<=o)=true:=by simpa using b2
    by_cases b3:o<=7
    ·have q3:decide (o<=7)=true:=by simpa using b3
     by_cases b4:o=7
     ·subst b4
      have HF2:Hid (Preds.right n 7 k i t=(k == 2)):=by show _=_;rw[HF.o,hr];simp[b1];by_cases h:k=2<;>simp[h]
      clear hr HF ho b1 b2 b3 q2 q3
      go_wp2_with fail
      go_ret
      exact⟨ret_b HF2.o.symm,hbw⟩
     ·have q4:(o != 7)=true:=by simpa using b4
      have HF2:Hid (Preds.right n o k i t=true):=by show _=_;rw[HF.o,hr];simp[b1,b2,b3,b4]
      clear hr HF ho b1 b2 b3 b4
      go_wp2_with fail
      go_ret
      exact⟨ret_b HF2.o.symm,hbw⟩
    ·have q3:decide (o<=7)=false:=by simpa using b3
     have HF2:Hid (Preds.right n o k i t=false):=by show _=_;rw[HF.o,hr];simp[b3]
     clear hr HF ho b1 b2 b3
     go_wp2_with fail
     go_ret
     exact⟨ret_b HF2.o.symm,hbw⟩
   ·have q2:decide (1<=o)=false:=by simpa using b2
    have HF2:Hid (Preds.right n o k i t=false):=by show _=_;rw[HF.o,hr];simp[b2]
    clear hr HF ho b1 b2
    go_wp2_with fail
    go_ret
    exact⟨ret_b HF2.o.symm,hbw⟩
  ·have q1:decide ((t.length:Int)<=32)=false:=by simp;omega
   have HF2:Hid (Preds.right n o k i t=false):=by show _=_;rw[HF.o,hr];simp[b1]
   clear hr HF ho b1
   go_wp2_with fail
   go_ret
   exact⟨ret_b HF2.o.symm,hbw⟩
theorem rpright_at (n:LU) (o k i:Int) (t:LU) (w:World) (hn:n.length<=9223372036854775807) (hl:t.length<=9223372036854775807):Calls Tryz.prog 86 #[.agg (pC n.toArray o k i t.toArray)] w fun e w'=>e=.returned (.bool (Preds.right n o k i t))/\Below w.heap.size w w':=by
 by_cases h:n.length<1∨16<n.length
 ·exact rpright_name n o k i t w hn hl h
 ·by_cases h8:o=8
  ·subst h8;exact rpright_exists n k i t w hn hl (by omega) (by omega)
  ·exact rpright_else n o k i t w hn hl (by omega) (by omega) h8
theorem rpright_is (n:LU) (o k i:Int) (t:LU) (w:World) (hn:n.length<=9223372036854775807) (hl:t.length<=9223372036854775807) (b:Bool) (hb:Preds.right n o k i t=b):Calls Tryz.prog 86 #[.agg (pC n.toArray o k i t.toArray)] w fun e w'=>e=.returned (.bool b)/\Below w.heap.size w w':=by
 subst hb;exact rpright_at n o k i t w hn hl
end
end Go.Proofs.YtnfigjggjmncdaaGreat
namespace Spans
open Go.Op (bytesLess)
structure Val where
 k:Int
 i:Int
 t:LU
instance:Inhabited Val:=⟨⟨0,0,[]⟩⟩
instance:DecidableEq Val:=fun a b=>decidable_of_iff (a.k=b.k/\a.i=b.i/\a.t=b.t) (by cases a;cases b;simp)
theorem Val.ext_ {a b:Val} (h1:a.k=b.k) (h2:a.i=b.i) (h3:a.t=b.t):a=b:=by cases a;cases b;simp_all
def rightV (v:Val):Bool:=Vals.right v.k v.i v.t && (decide (-9223372036854775808<=v.i) && decide (v.i<=9223372036854775807))
theorem rightV_iff (v:Val):rightV v=true↔Vals.right v.k v.i v.t=true /\ -9223372036854775808<=v.i/\v.i<=9223372036854775807:=by unfold rightV;simp
structure Sp where
 kind:Int
 lo:Int
 hi:Int
 frm:LU
 to_:LU
 opn:Bool
 no:List Val
def none_:Sp:=⟨0,0,0,[],[],false,[]⟩
def any_:Sp:=⟨4,0,0,[],[],false,[]⟩
/-! Texts. -/
theorem lt_snoc:∀u:LU,bytesLess u (u++[0])=true
 | []=>rfl
 | x::u=>by simp[bytesLess,lt_snoc u]
theorem next_le:∀u t:LU,bytesLess u t=true->bytesLess t (u++[0])=false
 | _,[],h=>by cases ‹LU›<;>simp[bytesLess] at h
 | [],y::t,_=>by
  simp only[List.nil_append,bytesLess,Bool.or_eq_false_iff,decide_eq_false_iff_not,Bool.and_eq_false_iff]
  refine ⟨by rw[UInt8.lt_iff_toNat_lt];simp,.inr ?_⟩
  cases t<;>first | rfl | trivial
 | x::u,y::t,h=>by
  simp only[bytesLess,Bool.or_eq_true,decide_eq_true_eq,Bool.and_eq_true,beq_iff_eq] at h
  simp only[List.cons_append,bytesLess,Bool.or_eq_false_iff,decide_eq_false_iff_not,Bool.and_eq_false_iff]
  rcases h with h|⟨rfl,h⟩
  ·refine ⟨by rw[UInt8.lt_iff_toNat_lt] at *;omega,.inl ?_⟩
   rw[beq_eq_false_iff_ne];rintro rfl;rw[UInt8.lt_iff_toNat_lt] at h;omega
  ·exact⟨by rw[UInt8.lt_iff_toNat_lt];omega,.inr (next_le u t h)⟩
theorem less_or (a b:LU):bytesLess a b=true∨a=b∨bytesLess b a=true:=by
 cases h1:bytesLess a b with
 | true=>exact .inl rfl
 | false=>
  cases h2:bytesLess b a with
  | true=>exact .inr (.inr rfl)
  | false=>exact .inr (.inl (Vals.less_tri a b h1 h2))
theorem le_trans {a b c:LU} (h1:bytesLess b a=false) (h2:bytesLess c b=false):bytesLess c a=false:=by
 cases h:bytesLess c a with
 | false=>rfl
 | true=>
  rcases less_or a b with h3|rfl|h3
  ·rw[Vals.less_trans _ _ _ h h3] at h2;simp at h2
  ·rw[h] at h2;simp at h2
  ·rw[h3] at h1;simp at h1
theorem lt_of_lt_of_le {a b c:LU} (h1:bytesLess a b=true) (h2:bytesLess c b=false):bytesLess a c=true:=by
 rcases less_or a c with h|rfl|h
 ·exact h
 ·rw[h1] at h2;simp at h2
 ·rw[Vals.less_trans _ _ _ h h1] at h2;simp at h2
theorem lt_of_le_of_lt {a b c:LU} (h1:bytesLess b a=false) (h2:bytesLess b c=true):bytesLess a c=true:=by
 rcases less_or a b with h|rfl|h
 ·exact Vals.less_trans _ _ _ h h2
 ·exact h2
 ·rw[h] at h1;simp at h1
theorem le_of_lt {a b:LU} (h:bytesLess a b=true):bytesLess b a=false:=Vals.less_asym _ _ h
def zs (u:LU) (j:Nat):LU:=u++List.replicate j 0
theorem zs_zero (u:LU):zs u 0=u:=by simp[zs]
theorem zs_succ (u:LU) (j:Nat):zs u (j+1)=zs u j++[0]:=by
 unfold zs
 rw[List.replicate_succ',List.append_assoc]
theorem zs_len (u:LU) (j:Nat):(zs u j).length=u.length+j:=by simp[zs]
theorem zs_add (u:LU) (a b:Nat):zs (zs u a) b=zs u (a+b):=by
 unfold zs
 rw[List.append_assoc,List.replicate_append_replicate]
theorem zs_le (u:LU):∀j,bytesLess (zs u j) u=false
 | 0=>by rw[zs_zero,Vals.less_irr]
 | j+1=>by rw[zs_succ];exact le_trans (zs_le u j) (le_of_lt (lt_snoc _))
theorem zs_reach (u e:LU) (h:bytesLess u e=true):∀j,bytesLess (zs u j) e=true∨∃k,1<=k/\k<=j/\e=zs u k
 | 0=>by rw[zs_zero];exact .inl h
 | j+1=>by
  rcases zs_reach u e h j with h1|⟨k,h1,h2,h3⟩
  ·rcases less_or (zs u (j+1)) e with h2 | h2 | h2
   ·exact .inl h2
   ·exact .inr ⟨j+1,by omega,by omega,h2.symm⟩
   ·rw[zs_succ] at h2
    rw[next_le _ _ h1] at h2;simp at h2
  ·exact .inr ⟨k,h1,by omega,h3⟩
/-! What is in a span. -/
def inT (frm to_:LU) (opn:Bool) (t:LU):Bool:=!bytesLess t frm && (opn || bytesLess t to_)
def inN (lo hi i:Int):Bool:=decide (lo<=i) && decide (i<=hi)
def has (a:Sp) (v:Val):Bool:=
 if a.kind=0 then false else if a.kind=4 then rightV v
 else rightV v && decide (v.k=a.kind) && !decide (v∈a.no) && (if a.kind=2 then inT a.frm a.to_ a.opn v.t else inN a.lo a.hi v.i)
def lowest (k:Int):Int:=if k=1 then -9223372036854775808 else 0
def highest (k:Int):Int:=if k=1 then 9223372036854775807 else 1
structure CanonN (a:Sp):Prop where
 kind:a.kind=1∨a.kind=3
 frm:a.frm=[]
 to_:a.to_=[]
 opn:a.opn=false
 low:lowest a.kind<=a.lo
 ord:a.lo<=a.hi
 high:a.hi<=highest a.kind
 no:∀v∈a.no,v.k=a.kind/\v.t=[]/\a.lo<v.i/\v.i<a.hi
 rise:a.no.Pairwise fun u v=>u.i<v.i
def Short (s:LU):Prop:=s.length<=32∨∃u,s=u++[0]/\u.length<=32
theorem Short.len {s:LU} (h:Short s):s.length<=33:=by
 rcases h with h|⟨u,rfl,h⟩
 ·omega
 ·simp;omega
structure CanonT (a:Sp):Prop where
 kind:a.kind=2
 lo:a.lo=0
 hi:a.hi=0
 flen:Short a.frm
 no:∀v∈a.no,v.k=2/\v.i=0/\v.t.length<=32/\bytesLess a.frm v.t=true/\(a.opn=false->bytesLess v.t a.to_=true)
 rise:a.no.Pairwise fun u v=>bytesLess u.t v.t=true
 isOpn:a.opn=true->a.to_=[]
 shut:a.opn=false->Short a.to_/\bytesLess a.frm a.to_=true/\∀u,a.to_=u++[0]->(⟨2,0,u⟩:Val)∉a.no
def Canon (a:Sp):Prop:=a=none_∨a=any_∨CanonN a∨CanonT a
theorem right_text (t:LU) (h:t.length<=64):rightV ⟨2,0,t⟩=true:=by rw[rightV_iff];unfold Vals.right;simp[h]
theorem right_num {k i:Int} (hk:k=1∨k=3) (h1:lowest k<=i) (h2:i<=highest k):rightV ⟨k,i,[]⟩=true:=by
 rw[rightV_iff]
 unfold Vals.right
 rcases hk with rfl|rfl
 ·simp[lowest,highest] at h1 h2 ⊢;omega
 ·simp[lowest,highest] at h1 h2 ⊢;omega
theorem has_N {a:Sp} (h:CanonN a) (v:Val):has a v=(rightV v && decide (v.k=a.kind) && !decide (v∈a.no) && inN a.lo a.hi v.i):=by
 unfold has
 rcases h.kind with hk|hk<;>simp[hk]
theorem has_T {a:Sp} (h:CanonT a) (v:Val):has a v=(rightV v && decide (v.k=2) && !decide (v∈a.no) && inT a.frm a.to_ a.opn v.t):=by
 unfold has
 simp[h.kind]
theorem has_none (v:Val):has none_ v=false:=rfl
theorem has_any (v:Val):has any_ v=rightV v:=rfl
theorem N_iff {a:Sp} (h:CanonN a) (v:Val):has a v=true↔rightV v=true/\v.k=a.kind/\v∉a.no/\a.lo<=v.i/\v.i<=a.hi:=by
 rw[has_N h]
 simp[inN,and_assoc]
theorem T_iff {a:Sp} (h:CanonT a) (v:Val):has a v=true↔rightV v=true/\v.k=2/\v∉a.no/\bytesLess v.t a.frm=false/\(a.opn=true∨bytesLess v.t a.to_=true):=by
 rw[has_T h]
 simp[inT,and_assoc]
theorem has_right {a:Sp} {v:Val} (h:has a v=true):rightV v=true:=by
 unfold has at h
 split at h
 ·simp at h
 ·split at h
  ·exact h
  ·simp only[Bool.and_eq_true] at h
   exact h.1.1.1
theorem has_kind {a:Sp} {v:Val} (h:has a v=true):a.kind=4∨v.k=a.kind:=by
 unfold has at h
 split at h
 ·simp at h
 ·split at h
  ·exact .inl (by assumption)
  ·simp only[Bool.and_eq_true,decide_eq_true_eq] at h
   exact .inr h.1.1.2
theorem has_lo {a:Sp} (h:CanonN a):has a ⟨a.kind,a.lo,[]⟩=true:=by
 rw[N_iff h]
 have h1:=h.low
 have h2:=h.ord
 have h3:=h.high
 exact⟨right_num h.kind h1 (by omega),rfl,fun hm=>by have:=(h.no _ hm).2.2.1;simp at this,Int.le_refl _,h2⟩
theorem has_hi {a:Sp} (h:CanonN a):has a ⟨a.kind,a.hi,[]⟩=true:=by
 rw[N_iff h]
 have h1:=h.low
 have h2:=h.ord
 have h3:=h.high
 exact⟨right_num h.kind (by omega) h3,rfl,fun hm=>by have:=(h.no _ hm).2.2.2;simp at this,h2,Int.le_refl _⟩
theorem has_frm {a:Sp} (h:CanonT a):has a ⟨2,0,a.frm⟩=true:=by
 rw[T_iff h]
 have h1:=h.flen.len
 refine ⟨right_text _ (by omega),rfl,fun hm=>?_,Vals.less_irr _,?_⟩
 ·have:=(h.no _ hm).2.2.2.1
  rw[Vals.less_irr] at this;simp at this
 ·cases ho:a.opn with
  | true=>exact .inl rfl
  | false=>exact .inr (h.shut ho).2.1
theorem has_far {a:Sp} (h:CanonT a) (x:LU) (hx:x.length<=33) (h1:bytesLess x a.frm=false) (h2:a.opn=true∨bytesLess x a.to_=true):
  ∃j,x.length+j<=33/\has a ⟨2,0,zs x j⟩=true:=by
 have hlong:(⟨2,0,zs x (33-x.length)⟩:Val)∉a.no:=fun hm=>by
  have:=(h.no _ hm).2.2.1
  rw[show (Val.mk 2 0 (zs x (33-x.length))).t=zs x (33-x.length) from rfl,zs_len] at this
  omega
 have hfr:∀j,bytesLess (zs x j) a.frm=false:=fun j=>le_trans h1 (zs_le x j)
 cases ho:a.opn with
 | true=>
  refine ⟨33-x.length,by omega,?_⟩
  rw[T_iff h]
  exact⟨right_text _ (by rw[zs_len];omega),rfl,hlong,hfr _,.inl ho⟩
 | false=>
  have h2':bytesLess x a.to_=true:=by rcases h2 with h2 | h2;rw[ho] at h2;simp at h2;exact h2
  rcases zs_reach x a.to_ h2' (33-x.length) with h3|⟨k,k1,k2,k3⟩
  ·refine ⟨33-x.length,by omega,?_⟩
   rw[T_iff h]
   exact⟨right_text _ (by rw[zs_len];omega),rfl,hlong,hfr _,.inr h3⟩
  ·have e:a.to_=zs x (k-1)++[0]:=by rw[<-zs_succ,k3];congr 1;omega
   refine ⟨k-1,by omega,?_⟩
   rw[T_iff h]
   refine ⟨right_text _ (by rw[zs_len];omega),rfl,(h.shut ho).2.2 _ e,hfr _,.inr ?_⟩
   show bytesLess (zs x (k-1)) a.to_=true
   rw[e];exact lt_snoc _
/-! Each set has one form. -/
theorem rise_ext {A:Type} {r:A->A->Prop} (asym:∀x y,r x y->¬r y x):∀(l m:List A),l.Pairwise r->m.Pairwise r->(∀x,x∈l↔x∈m)->l=m
 | [],[],_,_,_=>rfl
 | [],y::m,_,_,h=>by have:=(h y).2 (by simp);simp at this
 | x::l,[],_,_,h=>by have:=(h x).1 (by simp);simp at this
 | x::l,y::m,hl,hm,h=>by
  have hl':=List.pairwise_cons.1 hl
  have hm':=List.pairwise_cons.1 hm
  have e:x=y:=by
   rcases List.mem_cons.1 ((h x).1 (by simp)) with e|hx
   ·exact e
   ·rcases List.mem_cons.1 ((h y).2 (by simp)) with e | hy
    ·exact e.symm
    ·exact absurd (hl'.1 y hy) (asym _ _ (hm'.1 x hx))
  subst e
  rw[rise_ext asym l m hl'.2 hm'.2 (fun z=>?_)]
  constructor
  ·intro hz
   rcases List.mem_cons.1 ((h z).1 (List.mem_cons_of_mem _ hz)) with rfl|hz'
   ·exact absurd (hl'.1 _ hz) (fun k=>asym _ _ k k)
   ·exact hz'
  ·intro hz
   rcases List.mem_cons.1 ((h z).2 (List.mem_cons_of_mem _ hz)) with rfl|hz'
   ·exact absurd (hm'.1 _ hz) (fun k=>asym _ _ k k)
   ·exact hz'
theorem Sp.ext_ {a b:Sp} (h1:a.kind=b.kind) (h2:a.lo=b.lo) (h3:a.hi=b.hi) (h4:a.frm=b.frm) (h5:a.to_=b.to_) (h6:a.opn=b.opn) (h7:a.no=b.no):a=b:=by cases a;cases b;simp_all
theorem N_not4 {a:Sp} (h:CanonN a):a.kind≠4/\a.kind≠2/\a.kind≠0:=by rcases h.kind with hk | hk<;>rw[hk]<;>decide
theorem T_not4 {a:Sp} (h:CanonT a):a.kind≠4/\a.kind≠0:=by rw[h.kind];decide
theorem sub_N {a b:Sp} (ha:CanonN a) (hb:CanonN b) (h:∀v,has a v=true->has b v=true):a.kind=b.kind/\b.lo<=a.lo/\a.hi<=b.hi:=by
 have h1:=h _ (has_lo ha)
 have h2:=h _ (has_hi ha)
 have hk:a.kind=b.kind:=by
  rcases has_kind h1 with e|e
  ·exact absurd e (N_not4 hb).1
  ·exact e
 rw[N_iff hb] at h1 h2
 exact⟨hk,h1.2.2.2.1,h2.2.2.2.2⟩
theorem one_N {a b:Sp} (ha:CanonN a) (hb:CanonN b) (h:∀v,has a v=has b v):a=b:=by
 obtain⟨hk,l1,l2⟩:=sub_N ha hb (fun v hv=>by rw[<-h];exact hv)
 obtain⟨_,l3,l4⟩:=sub_N hb ha (fun v hv=>by rw[h];exact hv)
 have e1:a.lo=b.lo:=by omega
 have e2:a.hi=b.hi:=by omega
 refine Sp.ext_ hk e1 e2 (ha.frm.trans hb.frm.symm) (ha.to_.trans hb.to_.symm) (ha.opn.trans hb.opn.symm) ?_
 have half:∀{a b:Sp},CanonN a->CanonN b->(∀v,has a v=has b v)->a.kind=b.kind->a.lo=b.lo->a.hi=b.hi->∀v,v∈a.no->v∈b.no:=by
  intro a b ha hb h hk e1 e2 v hv
  obtain⟨n1,n2,n3,n4⟩:=ha.no v hv
  by_cases hb':v∈b.no
  ·exact hb'
  ·exfalso
   have hr:rightV v=true:=by
    have e:v=⟨a.kind,v.i,[]⟩:=Val.ext_ n1 rfl n2
    rw[e]
    have:=ha.low
    have:=ha.high
    exact right_num ha.kind (by show _<=v.i;omega) (by show v.i<=_;omega)
   have:has b v=true:=(N_iff hb v).2 ⟨hr,n1.trans hk,hb',by omega,by omega⟩
   rw[<-h,N_iff ha] at this
   exact this.2.2.1 hv
 exact rise_ext (fun x y h1 h2=>by omega) _ _ ha.rise hb.rise (fun v=>⟨half ha hb h hk e1 e2 v,half hb ha (fun v=>(h v).symm) hk.symm e1.symm e2.symm v⟩)
theorem sub_T {a b:Sp} (ha:CanonT a) (hb:CanonT b) (h:∀v,has a v=true->has b v=true):
  bytesLess a.frm b.frm=false/\(b.opn=true∨(a.opn=false/\bytesLess b.to_ a.to_=false)):=by
 have h1:=h _ (has_frm ha)
 rw[T_iff hb] at h1
 refine ⟨h1.2.2.2.1,?_⟩
 cases ho:b.opn with
 | true=>exact .inl rfl
 | false=>
  right
  obtain⟨s1,s2,s3⟩:=hb.shut ho
  have hfr:bytesLess a.frm b.to_=true:=by
   rcases h1.2.2.2.2 with h|h
   ·rw[ho] at h;simp at h
   ·exact h
  have key:¬(a.opn=true∨bytesLess b.to_ a.to_=true):=by
   intro hk
   obtain⟨j,_,hj⟩:=has_far ha b.to_ s1.len (le_of_lt hfr) hk
   have hj':=h _ hj
   rw[T_iff hb] at hj'
   rcases hj'.2.2.2.2 with h|h
   ·rw[ho] at h;simp at h
   ·rw[zs_le b.to_ j] at h;simp at h
  refine ⟨by cases hq:a.opn with | true=>exact absurd (.inl hq) key | false=>rfl,?_⟩
  cases hq:bytesLess b.to_ a.to_ with
  | true=>exact absurd (.inr hq) key
  | false=>rfl
theorem one_T {a b:Sp} (ha:CanonT a) (hb:CanonT b) (h:∀v,has a v=has b v):a=b:=by
 obtain⟨l1,l2⟩:=sub_T ha hb (fun v hv=>by rw[<-h];exact hv)
 obtain⟨l3,l4⟩:=sub_T hb ha (fun v hv=>by rw[h];exact hv)
 have e1:a.frm=b.frm:=Vals.less_tri _ _ l1 l3
 have e2:a.opn=b.opn:=by
  rcases l2 with l2|⟨l2,_⟩
  ·rcases l4 with l4 | ⟨l4,_⟩
   ·rw[l2,l4]
   ·rw[l2] at l4;simp at l4
  ·rcases l4 with l4 | ⟨l4,_⟩
   ·rw[l2] at l4;simp at l4
   ·rw[l2,l4]
 have e3:a.to_=b.to_:=by
  cases ho:a.opn with
  | true=>rw[ha.isOpn ho,hb.isOpn (e2.symm.trans ho)]
  | false=>
   have ho':b.opn=false:=e2.symm.trans ho
   rcases l2 with l2|⟨_,l2⟩
   ·rw[ho'] at l2;simp at l2
   ·rcases l4 with l4 | ⟨_,l4⟩
    ·rw[ho] at l4;simp at l4
    ·exact Vals.less_tri _ _ l4 l2
 refine Sp.ext_ (ha.kind.trans hb.kind.symm) (ha.lo.trans hb.lo.symm) (ha.hi.trans hb.hi.symm) e1 e3 e2 ?_
 have half:∀{a b:Sp},CanonT a->CanonT b->(∀v,has a v=has b v)->a.frm=b.frm->a.opn=b.opn->a.to_=b.to_->∀v,v∈a.no->v∈b.no:=by
  intro a b ha hb h e1 e2 e3 v hv
  obtain⟨n1,n2,n3,n4,n5⟩:=ha.no v hv
  by_cases hb':v∈b.no
  ·exact hb'
  ·exfalso
   have hr:rightV v=true:=by
    have e:v=⟨2,0,v.t⟩:=Val.ext_ n1 n2 rfl
    rw[e]
    exact right_text _ (by omega)
   have:has b v=true:=(T_iff hb v).2 ⟨hr,n1,hb',by rw[<-e1];exact le_of_lt n4,by
    cases ho:a.opn with
    | true=>exact .inl (e2 ▸ ho)
    | false=>exact .inr (by rw[<-e3];exact n5 ho)⟩
   rw[<-h,T_iff ha] at this
   exact this.2.2.1 hv
 exact rise_ext (fun x y h1 h2=>by rw[Vals.less_asym _ _ h1] at h2;simp at h2) _ _ ha.rise hb.rise (fun v=>⟨half ha hb h e1 e2 e3 v,half hb ha (fun v=>(h v).symm) e1.symm e2.symm e3.symm v⟩)
theorem any_kinds (a:Sp) (h4:a.kind≠4) (h:∀v,rightV v=true->has a v=true):False:=by
 have h1:=h ⟨1,0,[]⟩ rfl
 have h2:=h ⟨2,0,[]⟩ rfl
 rcases has_kind h1 with e|e
 ·exact h4 e
 ·rcases has_kind h2 with e' | e'
  ·exact h4 e'
  ·rw[<-e'] at e;revert e;decide
theorem one {a b:Sp} (ha:Canon a) (hb:Canon b) (h:∀v,has a v=has b v):a=b:=by
 rcases ha with rfl|rfl|ha|ha<;>rcases hb with rfl|rfl|hb|hb
 ·rfl
 ·exact absurd (h ⟨1,0,[]⟩) (by decide)
 ·have:=has_lo hb;rw[<-h,has_none] at this;simp at this
 ·have:=has_frm hb;rw[<-h,has_none] at this;simp at this
 ·exact absurd (h ⟨1,0,[]⟩) (by decide)
 ·rfl
 ·exact (any_kinds b (N_not4 hb).1 (fun v hv=>by rw[<-h,has_any];exact hv)).elim
 ·exact (any_kinds b (T_not4 hb).1 (fun v hv=>by rw[<-h,has_any];exact hv)).elim
 ·have:=has_lo ha;rw[h,has_none] at this;simp at this
 ·exact (any_kinds a (N_not4 ha).1 (fun v hv=>by rw[h,has_any];exact hv)).elim
 ·exact one_N ha hb h
 ·have:=has_kind ((h _).symm.trans (has_lo ha))
  rcases this with e|e
  ·exact absurd e (T_not4 hb).1
  ·rw[hb.kind] at e;exact absurd e (N_not4 ha).2.1
 ·have:=has_frm ha;rw[h,has_none] at this;simp at this
 ·exact (any_kinds a (T_not4 ha).1 (fun v hv=>by rw[h,has_any];exact hv)).elim
 ·have:=has_kind ((h _).symm.trans (has_frm ha))
  rcases this with e|e
  ·exact absurd e (N_not4 hb).1
  ·exact absurd e.symm (N_not4 hb).2.1
 ·exact one_T ha hb h
/-! Is a span in another one? -/
def inn (a b:Sp):Bool:=
 if a.kind=0∨b.kind=4 then true else if a.kind≠b.kind then false
 else !(b.no.any fun v=>has a v) && (if a.kind=2 then !bytesLess a.frm b.frm && (b.opn || (!a.opn && !bytesLess b.to_ a.to_)) else decide (b.lo<=a.lo) && decide (a.hi<=b.hi))
theorem no_any {a b:Sp}:(b.no.any fun v=>has a v)=false↔∀v,has a v=true->v∉b.no:=by
 rw[Bool.eq_false_iff]
 simp only[ne_eq,List.any_eq_true,not_exists,not_and]
 exact⟨fun h v hv hm=>h v hm hv,fun h v hm hv=>h v hv hm⟩
theorem in_iff {a b:Sp} (ha:Canon a) (hb:Canon b):inn a b=true↔∀v,has a v=true->has b v=true:=by
 unfold inn
 by_cases h0:a.kind=0∨b.kind=4
 ·rw[if_pos h0]
  refine ⟨fun _ v hv=>?_,fun _=>rfl⟩
  rcases h0 with h0|h0
  ·unfold has at hv;rw[if_pos h0] at hv;simp at hv
  ·unfold has;rw[h0];simpa using has_right hv
 ·rw[if_neg h0]
  have h1:a.kind≠0:=fun e=>h0 (.inl e)
  have h2:b.kind≠4:=fun e=>h0 (.inr e)
  by_cases hk:a.kind=b.kind
  ·rw[if_neg (by simpa using hk)]
   rcases ha with rfl|rfl|ha|ha
   ·exact absurd rfl h1
   ·exact absurd hk.symm h2
   ·rcases hb with rfl | rfl | hb | hb
    ·exact absurd hk (N_not4 ha).2.2
    ·exact absurd rfl h2
    ·rw[if_neg (N_not4 ha).2.1]
     constructor
     ·intro h v hv
      simp only[Bool.and_eq_true,Bool.not_eq_true',decide_eq_true_eq] at h
      obtain⟨g1,g2,g3⟩:=h
      have hn:=no_any.1 g1 v hv
      rw[N_iff ha] at hv
      exact (N_iff hb v).2 ⟨hv.1,hv.2.1.trans hk,hn,by omega,by omega⟩
     ·intro h
      obtain⟨_,g1,g2⟩:=sub_N ha hb h
      simp only[Bool.and_eq_true,Bool.not_eq_true',decide_eq_true_eq]
      refine ⟨no_any.2 fun v hv=>?_,g1,g2⟩
      have:=h v hv
      rw[N_iff hb] at this
      exact this.2.2.1
    ·rw[hb.kind] at hk;exact absurd hk (N_not4 ha).2.1
   ·rcases hb with rfl | rfl | hb | hb
    ·exact absurd hk h1
    ·exact absurd rfl h2
    ·rw[ha.kind] at hk;exact absurd hk.symm (N_not4 hb).2.1
    ·rw[if_pos ha.kind]
     constructor
     ·intro h v hv
      simp only[Bool.and_eq_true,Bool.not_eq_true',Bool.or_eq_true] at h
      obtain⟨g1,g2,g3⟩:=h
      have hn:=no_any.1 g1 v hv
      rw[T_iff ha] at hv
      refine (T_iff hb v).2 ⟨hv.1,hv.2.1,hn,le_trans g2 hv.2.2.2.1,?_⟩
      rcases g3 with g3|⟨g3,g4⟩
      ·exact .inl g3
      ·rcases hv.2.2.2.2 with k | k
       ·rw[g3] at k;simp at k
       ·exact .inr (lt_of_lt_of_le k g4)
     ·intro h
      obtain⟨g1,g2⟩:=sub_T ha hb h
      simp only[Bool.and_eq_true,Bool.not_eq_true',Bool.or_eq_true]
      refine ⟨no_any.2 fun v hv=>?_,g1,g2⟩
      have:=h v hv
      rw[T_iff hb] at this
      exact this.2.2.1
  ·rw[if_pos hk]
   refine ⟨fun h=>by simp at h,fun h=>?_⟩
   exfalso
   rcases ha with rfl|rfl|ha|ha
   ·exact h1 rfl
   ·exact any_kinds b h2 (fun v hv=>h v (by rw[has_any];exact hv))
   ·rcases has_kind (h _ (has_lo ha)) with e | e
    ·exact h2 e
    ·exact hk e
   ·rcases has_kind (h _ (has_frm ha)) with e | e
    ·exact h2 e
    ·exact hk (ha.kind.trans e)
/-! Spans of numbers but some, of texts but some. -/
theorem has_wrong {a:Sp} {v:Val} (h:rightV v=false):has a v=false:=by
 cases hq:has a v with
 | false=>rfl
 | true=>rw[has_right hq] at h;simp at h
theorem one_right {a b:Sp} (ha:Canon a) (hb:Canon b) (h:∀v,rightV v=true->has a v=has b v):a=b:=
 one ha hb fun v=>by
  cases hr:rightV v with
  | false=>rw[has_wrong hr,has_wrong hr]
  | true=>exact h v hr
def IsInts (k lo hi:Int) (l:List Val) (r:Sp):Prop:=Canon r/\∀v,rightV v=true->(has r v=true↔v.k=k/\lo<=v.i/\v.i<=hi/\v∉l)
def IsTexts (frm to_:LU) (opn:Bool) (l:List Val) (r:Sp):Prop:=
 Canon r/\∀v,rightV v=true->(has r v=true↔v.k=2/\bytesLess v.t frm=false/\(opn=true∨bytesLess v.t to_=true)/\v∉l)
theorem right_numT {v:Val} (hr:rightV v=true) (hk:v.k=1∨v.k=3):v.t=[]:=by
 rw[rightV_iff] at hr
 rcases Vals.right_cases hr.1 with ⟨_,h⟩|⟨h,_⟩|⟨_,h,_⟩
 ·exact h
 ·omega
 ·exact h
theorem right_textI {v:Val} (hr:rightV v=true) (hk:v.k=2):v.i=0/\v.t.length<=64:=by
 rw[rightV_iff] at hr
 rcases Vals.right_cases hr.1 with ⟨h,_⟩|⟨_,h⟩|⟨h,_⟩
 ·omega
 ·exact h
 ·omega
theorem ints_none {k lo hi:Int} {l:List Val} (hk:k=1∨k=3) (h:∀x,lo<=x->x<=hi->(⟨k,x,[]⟩:Val)∈l):IsInts k lo hi l none_:=by
 refine ⟨.inl rfl,fun v hr=>?_⟩
 rw[has_none]
 refine ⟨fun h=>by simp at h,fun ⟨h1,h2,h3,h4⟩=>?_⟩
 have e:v=⟨k,v.i,[]⟩:=Val.ext_ h1 rfl (right_numT hr (h1 ▸ hk))
 exact absurd (e ▸ h v.i h2 h3) h4
theorem ints_mk {k lo hi a b:Int} {l m:List Val} (hk:k=1∨k=3) (h1:lowest k<=a) (h2:b<=highest k) (hab:a<=b) (hlo:lo<=a) (hhi:b<=hi)
  (ga:∀x,lo<=x->x<a->(⟨k,x,[]⟩:Val)∈l) (gb:∀x,b<x->x<=hi->(⟨k,x,[]⟩:Val)∈l) (na:(⟨k,a,[]⟩:Val)∉l) (nb:(⟨k,b,[]⟩:Val)∉l)
  (hm:∀v,v∈m↔v∈l/\v.k=k/\v.t=[]/\a<v.i/\v.i<b) (hrise:m.Pairwise fun u v=>u.i<v.i):IsInts k lo hi l ⟨k,a,b,[],[],false,m⟩:=by
 have hc:CanonN ⟨k,a,b,[],[],false,m⟩:=⟨hk,rfl,rfl,rfl,h1,hab,h2,fun v hv=>((hm v).1 hv).2,hrise⟩
 refine ⟨.inr (.inr (.inl hc)),fun v hr=>?_⟩
 rw[N_iff hc]
 constructor
 ·rintro ⟨_,g1,g2,g3,g4⟩
  simp only at g1 g2 g3 g4
  refine ⟨g1,by omega,by omega,fun hv=>?_⟩
  have e:v=⟨k,v.i,[]⟩:=Val.ext_ g1 rfl (right_numT hr (g1 ▸ hk))
  have hx:v.i≠a:=fun h=>na (by rw[<-h,<-e];exact hv)
  have hy:v.i≠b:=fun h=>nb (by rw[<-h,<-e];exact hv)
  exact g2 ((hm v).2 ⟨hv,g1,right_numT hr (g1 ▸ hk),by omega,by omega⟩)
 ·rintro ⟨g1,g2,g3,g4⟩
  have e:v=⟨k,v.i,[]⟩:=Val.ext_ g1 rfl (right_numT hr (g1 ▸ hk))
  refine ⟨hr,g1,fun hv=>g4 ((hm v).1 hv).1,?_,?_⟩
  ·show a<=v.i
   rcases Int.lt_or_le v.i a with h|h
   ·exact absurd (by rw[e];exact ga v.i g2 h) g4
   ·exact h
  ·show v.i<=b
   rcases Int.lt_or_le b v.i with h|h
   ·exact absurd (by rw[e];exact gb v.i h g3) g4
   ·exact h
theorem moved_le {frm:LU} {l:List Val} {a:Nat} (h:∀j,j<a->(⟨2,0,zs frm j⟩:Val)∈l) {v:Val} (hr:rightV v=true) (hk:v.k=2) (hv:v∉l) (h1:bytesLess v.t frm=false):bytesLess v.t (zs frm a)=false:=by
 induction a with
 | zero=>rw[zs_zero];exact h1
 | succ a ih=>
  have h2:=ih (fun j hj=>h j (by omega))
  rw[zs_succ]
  rcases less_or (zs frm a) v.t with h3|h3|h3
  ·exact next_le _ _ h3
  ·exfalso
   have e:v=⟨2,0,zs frm a⟩:=Val.ext_ hk (right_textI hr hk).1 h3.symm
   exact hv (by rw[e];exact h a (by omega))
  ·rw[h3] at h2;simp at h2
theorem moved_lt {e:LU} {l:List Val} {b:Nat} (h:∀j,j<b->(⟨2,0,zs e j⟩:Val)∈l) {v:Val} (hr:rightV v=true) (hk:v.k=2) (hv:v∉l):bytesLess v.t (zs e b)=true↔bytesLess v.t e=true:=by
 induction b with
 | zero=>rw[zs_zero]
 | succ b ih=>
  have h2:=ih (fun j hj=>h j (by omega))
  rw[<-h2,zs_succ]
  constructor
  ·intro h3
   rcases less_or v.t (zs e b) with h4|h4|h4
   ·exact h4
   ·exfalso
    have e':v=⟨2,0,zs e b⟩:=Val.ext_ hk (right_textI hr hk).1 h4
    exact hv (by rw[e'];exact h b (by omega))
   ·rw[next_le _ _ h4] at h3;simp at h3
  ·intro h3
   exact Vals.less_trans _ _ _ h3 (lt_snoc _)
theorem moved_short {frm:LU} {l:List Val} {a:Nat} (hl:∀v∈l,v.t.length<=32) (h:Short frm) (ga:∀j,j<a->(⟨2,0,zs frm j⟩:Val)∈l):Short (zs frm a):=by
 rcases a with _|a
 ·rw[zs_zero];exact h
 ·exact .inr ⟨zs frm a,zs_succ _ _,hl _ (ga a (by omega))⟩
theorem moved_short' {e:LU} {l:List Val} {b:Nat} (hl:∀v∈l,v.t.length<=32) (h:Short (zs e b)) (gb:∀j,j<b->(⟨2,0,zs e j⟩:Val)∈l):Short e:=by
 rcases b with _|b
 ·rw[zs_zero] at h;exact h
 ·have:=hl _ (gb 0 (by omega))
  rw[zs_zero] at this
  exact .inl this
theorem texts_none {frm e:LU} {l:List Val} {a b:Nat} (ga:∀j,j<a->(⟨2,0,zs frm j⟩:Val)∈l) (gb:∀j,j<b->(⟨2,0,zs e j⟩:Val)∈l) (h:bytesLess (zs frm a) e=false):IsTexts frm (zs e b) false l none_:=by
 refine ⟨.inl rfl,fun v hr=>?_⟩
 rw[has_none]
 refine ⟨fun h=>by simp at h,fun ⟨h1,h2,h3,h4⟩=>?_⟩
 exfalso
 have g1:=moved_le ga hr h1 h4 h2
 rcases h3 with h3|h3
 ·simp at h3
 ·rw[moved_lt gb hr h1 h4] at h3
  rw[le_trans h g1] at h3;simp at h3
theorem texts_mk {frm to_ e:LU} {opn:Bool} {l m:List Val} {a b:Nat} (ga:∀j,j<a->(⟨2,0,zs frm j⟩:Val)∈l) (na:(⟨2,0,zs frm a⟩:Val)∉l) (gb:opn=false->to_=zs e b/\∀j,j<b->(⟨2,0,zs e j⟩:Val)∈l)
  (hf:Short (zs frm a)) (ho:opn=true->e=[]) (hs:opn=false->Short e/\bytesLess (zs frm a) e=true/\∀u,e=u++[0]->(⟨2,0,u⟩:Val)∉l)
  (hl:∀v∈l,v.k=2/\v.i=0/\v.t.length<=32) (hm:∀v,v∈m↔v∈l/\bytesLess v.t (zs frm a)=false/\(opn=true∨bytesLess v.t e=true)) (hrise:m.Pairwise fun u v=>bytesLess u.t v.t=true):
  IsTexts frm to_ opn l ⟨2,0,0,zs frm a,e,opn,m⟩:=by
 have hc:CanonT ⟨2,0,0,zs frm a,e,opn,m⟩:=by
  refine ⟨rfl,rfl,rfl,hf,fun v hv=>?_,hrise,ho,fun h=>⟨(hs h).1,(hs h).2.1,fun u hu hv=>(hs h).2.2 u hu ((hm _).1 hv).1⟩⟩
  obtain⟨g1,g2,g3⟩:=(hm v).1 hv
  obtain⟨k1,k2,k3⟩:=hl v g1
  refine ⟨k1,k2,k3,?_,fun h=>?_⟩
  ·rcases less_or (zs frm a) v.t with h | h | h
   ·exact h
   ·exact absurd (by rw[show (⟨2,0,zs frm a⟩:Val)=v from Val.ext_ k1.symm k2.symm h];exact g1) na
   ·rw[h] at g2;simp at g2
  ·rcases g3 with g3 | g3
   ·rw[show opn=false from h] at g3;simp at g3
   ·exact g3
 refine ⟨.inr (.inr (.inr hc)),fun v hr=>?_⟩
 rw[T_iff hc]
 constructor
 ·rintro ⟨_,g1,g2,g3,g4⟩
  simp only at g2 g3 g4
  have hv:v∉l:=fun hv=>g2 ((hm v).2 ⟨hv,g3,g4⟩)
  refine ⟨g1,le_trans (zs_le frm a) g3,?_,hv⟩
  cases hop:opn with
  | true=>exact .inl rfl
  | false=>
   obtain⟨e1,e2⟩:=gb hop
   rw[hop] at g4
   rcases g4 with g4|g4
   ·simp at g4
   ·exact .inr (by rw[e1];exact (moved_lt e2 hr g1 hv).2 g4)
 ·rintro ⟨g1,g2,g3,g4⟩
  refine ⟨hr,g1,fun hv=>g4 ((hm v).1 hv).1,moved_le ga hr g1 g4 g2,?_⟩
  cases hop:opn with
  | true=>exact .inl rfl
  | false=>
   obtain⟨e1,e2⟩:=gb hop
   rw[hop] at g3
   rcases g3 with g3|g3
   ·simp at g3
   ·rw[e1] at g3
    exact .inr ((moved_lt e2 hr g1 g4).1 g3)
theorem IsInts.one {k lo hi:Int} {l:List Val} {r r':Sp} (h:IsInts k lo hi l r) (h':IsInts k lo hi l r'):r=r':=
 one_right h.1 h'.1 fun v hr=>by rw[Bool.eq_iff_iff,h.2 v hr,h'.2 v hr]
theorem IsTexts.one {frm to_:LU} {opn:Bool} {l:List Val} {r r':Sp} (h:IsTexts frm to_ opn l r) (h':IsTexts frm to_ opn l r'):r=r':=
 one_right h.1 h'.1 fun v hr=>by rw[Bool.eq_iff_iff,h.2 v hr,h'.2 v hr]
/-! What is in both. -/
def IsMeet (a b r:Sp):Prop:=Canon r/\∀v,rightV v=true->(has r v=true↔has a v=true/\has b v=true)
theorem IsMeet.one {a b r r':Sp} (h:IsMeet a b r) (h':IsMeet a b r'):r=r':=
 one_right h.1 h'.1 fun v hr=>by rw[Bool.eq_iff_iff,h.2 v hr,h'.2 v hr]
theorem IsMeet.has {a b r:Sp} (h:IsMeet a b r) (v:Val):has r v=(has a v && has b v):=by
 cases hr:rightV v with
 | false=>rw[has_wrong hr,has_wrong hr];rfl
 | true=>rw[Bool.eq_iff_iff,h.2 v hr];simp
theorem meet_any {a:Sp} (h:Canon a):IsMeet a any_ a/\IsMeet any_ a a:=
 ⟨⟨h,fun v hr=>by rw[has_any];simp[hr]⟩,⟨h,fun v hr=>by rw[has_any];simp[hr]⟩⟩
theorem meet_none (a b:Sp) (h:a=none_∨b=none_):IsMeet a b none_:=by
 refine ⟨.inl rfl,fun v _=>?_⟩
 rw[has_none]
 rcases h with rfl|rfl<;>simp[has_none]
theorem meet_kinds {a b:Sp} (ha:a.kind≠4) (hb:b.kind≠4) (h:a.kind≠b.kind):IsMeet a b none_:=by
 refine ⟨.inl rfl,fun v _=>?_⟩
 rw[has_none]
 refine ⟨fun h=>by simp at h,fun ⟨h1,h2⟩=>?_⟩
 rcases has_kind h1 with e|e
 ·exact absurd e ha
 ·rcases has_kind h2 with e' | e'
  ·exact absurd e' hb
  ·exact absurd (e.symm.trans e') h
theorem meet_N {a b r:Sp} (ha:CanonN a) (hb:CanonN b) (hk:a.kind=b.kind) {lo hi:Int} (hlo:∀x,lo<=x↔a.lo<=x/\b.lo<=x) (hhi:∀x,x<=hi↔x<=a.hi/\x<=b.hi) {l:List Val} (hl:∀v,v∈l↔v∈a.no∨v∈b.no) (h:IsInts a.kind lo hi l r):IsMeet a b r:=by
 refine ⟨h.1,fun v hr=>?_⟩
 rw[h.2 v hr,N_iff ha,N_iff hb,hlo,hhi,hl]
 constructor
 ·rintro ⟨g1,⟨g2,g3⟩,⟨g4,g5⟩,g6⟩
  exact⟨⟨hr,g1,fun k=>g6 (.inl k),g2,g4⟩,⟨hr,g1.trans hk,fun k=>g6 (.inr k),g3,g5⟩⟩
 ·rintro ⟨⟨_,g1,g2,g3,g4⟩,⟨_,_,g5,g6,g7⟩⟩
  exact⟨g1,⟨g3,g6⟩,⟨g4,g7⟩,fun k=>k.elim g2 g5⟩
theorem meet_T {a b r:Sp} (ha:CanonT a) (hb:CanonT b) {frm to_:LU} {opn:Bool} (hf:∀t,bytesLess t frm=false↔bytesLess t a.frm=false/\bytesLess t b.frm=false)
  (ht:∀t,(opn=true∨bytesLess t to_=true)↔(a.opn=true∨bytesLess t a.to_=true)/\(b.opn=true∨bytesLess t b.to_=true)) {l:List Val} (hl:∀v,v∈l↔v∈a.no∨v∈b.no) (h:IsTexts frm to_ opn l r):IsMeet a b r:=by
 refine ⟨h.1,fun v hr=>?_⟩
 rw[h.2 v hr,T_iff ha,T_iff hb,hf,ht,hl]
 constructor
 ·rintro ⟨g1,⟨g2,g3⟩,⟨g4,g5⟩,g6⟩
  exact⟨⟨hr,g1,fun k=>g6 (.inl k),g2,g4⟩,⟨hr,g1,fun k=>g6 (.inr k),g3,g5⟩⟩
 ·rintro ⟨⟨_,g1,g2,g3,g4⟩,⟨_,_,g5,g6,g7⟩⟩
  exact⟨g1,⟨g3,g6⟩,⟨g4,g7⟩,fun k=>k.elim g2 g5⟩
end Spans
namespace Spans
open Go.Op (bytesLess)
structure Pr where
 n:LU
 o:Int
 k:Int
 i:Int
 t:LU
instance:Inhabited Pr:=⟨⟨[],0,0,0,[]⟩⟩
instance:DecidableEq Pr:=fun a b=>decidable_of_iff (a.n=b.n/\a.o=b.o/\a.k=b.k/\a.i=b.i/\a.t=b.t) (by cases a;cases b;simp)
def rightP (p:Pr):Bool:=Preds.right p.n p.o p.k p.i p.t && (decide (-9223372036854775808<=p.i) && decide (p.i<=9223372036854775807))
theorem rightP_iff (p:Pr):rightP p=true↔Preds.right p.n p.o p.k p.i p.t=true /\ -9223372036854775808<=p.i/\p.i<=9223372036854775807:=by unfold rightP;simp
def holdsP (p:Pr) (v:Val):Bool:=Preds.holds p.n p.o p.k p.i p.t v.k v.i v.t
def sideV (p:Pr):Val:=⟨p.k,p.i,p.t⟩
/-! Texts that begin with others. -/
def up:LU->Option (LU)
 | []=>none
 | x::p=>
  match up p with
  | some u=>some (x::u)
  | none=>if x=255 then none else some [x+1]
theorem up_cons (x:UInt8) (p:LU):up (x::p)=match up p with
  | some u=>some (x::u)
  | none=>if x=255 then none else some [x+1]:=rfl
theorem begins_nil (t:LU):Preds.begins t []=true:=by unfold Preds.begins;simp
theorem begins_cons (x y:UInt8) (t p:LU):Preds.begins (y::t) (x::p)=(decide (y=x) && Preds.begins t p):=by
 unfold Preds.begins
 by_cases h:y=x
 ·simp[h]
 ·simp[h]
theorem begins_short (x:UInt8) (p:LU):Preds.begins [] (x::p)=false:=by unfold Preds.begins;simp
theorem begins_iff:∀(p t:LU),Preds.begins t p=true↔bytesLess t p=false/\∀u,up p=some u->bytesLess t u=true
 | [],t=>by
  rw[begins_nil]
  simp only[true_iff]
  refine ⟨by cases t<;>rfl,fun u hu=>by simp[up] at hu⟩
 | x::p,[]=>by
  rw[begins_short]
  simp[bytesLess]
 | x::p,y::t=>by
  rw[begins_cons,Bool.and_eq_true,decide_eq_true_eq,begins_iff p t]
  have hl:∀(a b:UInt8) (c d:LU),bytesLess (a::c) (b::d)=true↔a.toNat<b.toNat∨a=b/\bytesLess c d=true:=by
   intro a b c d
   simp[bytesLess,UInt8.lt_iff_toNat_lt]
  have hf:∀(a b:UInt8) (c d:LU),bytesLess (a::c) (b::d)=false↔¬(a.toNat<b.toNat∨a=b/\bytesLess c d=true):=by
   intro a b c d
   rw[<-hl,Bool.not_eq_true]
  rw[hf]
  have hinj:∀a b:UInt8,a.toNat=b.toNat->a=b:=fun a b h=>UInt8.toNat_inj.1 h
  rw[up_cons]
  cases hq:up p with
  | some u=>
   constructor
   ·rintro ⟨rfl,h1,h2⟩
    refine ⟨?_,fun w hw=>?_⟩
    ·rintro (h | ⟨_,h⟩)
     ·omega
     ·rw[h1] at h;simp at h
    ·injection hw with hw
     subst hw
     rw[hl]
     exact .inr ⟨rfl,h2 u rfl⟩
   ·rintro ⟨h1,h2⟩
    have h3:=h2 _ rfl
    rw[hl] at h3
    have e:y=x:=by
     rcases h3 with h3|h3
     ·exact absurd (.inl h3) h1
     ·exact h3.1
    subst e
    refine ⟨rfl,?_,fun w hw=>?_⟩
    ·cases hb:bytesLess t p with
     | false=>rfl
     | true=>exact absurd (.inr ⟨rfl,hb⟩) h1
    ·injection hw with hw
     subst hw
     rcases h3 with h3|h3
     ·omega
     ·exact h3.2
  | none=>
   by_cases hx:x=255
   ·subst hx
    simp only[if_true]
    constructor
    ·rintro ⟨rfl,h1,_⟩
     refine ⟨?_,fun w hw=>by simp at hw⟩
     rintro (h|⟨_,h⟩)
     ·omega
     ·rw[h1] at h;simp at h
    ·rintro ⟨h1,_⟩
     have e:y=255:=by
      refine hinj _ _ ?_
      have:=y.toNat_lt
      have:¬y.toNat<(255:UInt8).toNat:=fun h=>h1 (.inl h)
      simp at this ⊢;omega
     refine ⟨e,?_,fun w hw=>by simp at hw⟩
     cases hb:bytesLess t p with
     | false=>rfl
     | true=>exact absurd (.inr ⟨e,hb⟩) h1
   ·simp only[if_neg hx]
    have hx1:(x+1).toNat=x.toNat+1:=by
     have:=x.toNat_lt
     have:x.toNat≠255:=fun h=>hx (hinj _ _ (by simpa using h))
     rw[UInt8.toNat_add];simp;omega
    constructor
    ·rintro ⟨rfl,h1,_⟩
     refine ⟨?_,fun w hw=>?_⟩
     ·rintro (h | ⟨_,h⟩)
      ·omega
      ·rw[h1] at h;simp at h
     ·injection hw with hw
      subst hw
      rw[hl]
      left;omega
    ·rintro ⟨h1,h2⟩
     have h3:=h2 _ rfl
     rw[hl] at h3
     have e:y=x:=by
      refine hinj _ _ ?_
      have:¬y.toNat<x.toNat:=fun h=>h1 (.inl h)
      rcases h3 with h3|⟨_,h3⟩
      ·omega
      ·cases t<;>simp[bytesLess] at h3
     subst e
     refine ⟨rfl,?_,fun w hw=>by simp at hw⟩
     cases hb:bytesLess t p with
     | false=>rfl
     | true=>exact absurd (.inr ⟨rfl,hb⟩) h1
theorem up_len:∀(p u:LU),up p=some u->u.length<=p.length
 | [],u,h=>by simp[up] at h
 | x::p,u,h=>by
  unfold up at h
  cases hq:up p with
  | some w=>
   rw[hq] at h
   injection h with h
   subst h
   have:=up_len p w hq
   simp;omega
  | none=>
   rw[hq] at h
   by_cases hx:x=255
   ·simp[hx] at h
   ·simp only[if_neg hx] at h
    injection h with h
    subst h
    simp
/-! Of what predicates hold. -/
def ofLo (p:Pr):Int:=if p.o=1∨p.o=6 then p.i else if p.o=5 then p.i+1 else lowest p.k
def ofHi (p:Pr):Int:=if p.o=1∨p.o=4 then p.i else if p.o=3 then p.i-1 else highest p.k
def ofNo (p:Pr):List Val:=if p.o=2 then [sideV p] else []
def ofFrm (p:Pr):LU:=if p.o=1∨p.o=6∨p.o=7 then p.t else if p.o=5 then p.t++[0] else []
def ofTo (p:Pr):LU:=if p.o=1∨p.o=4 then p.t++[0] else if p.o=3 then p.t else if p.o=7 then (up p.t).getD [] else []
def ofOpn (p:Pr):Bool:=if p.o=1∨p.o=3∨p.o=4 then false else if p.o=7 then (up p.t).isNone else true
theorem rightP_cases {p:Pr} (h:rightP p=true):(p.o=8/\p.k=0/\p.i=0/\p.t=[])∨(p.o≠8/\1<=p.o/\p.o<=7/\Vals.right p.k p.i p.t=true/\p.t.length<=32/\(p.o=7->p.k=2)):=
 Preds.asks_cases (Preds.right_parts ((rightP_iff p).1 h).1).2.2
theorem rightP_side {p:Pr} (h:rightP p=true) (h8:p.o≠8):rightV (sideV p)=true:=by
 rcases rightP_cases h with ⟨e,_⟩|⟨_,_,_,hr,_⟩
 ·exact absurd e h8
 ·rw[rightV_iff];exact⟨hr,((rightP_iff p).1 h).2⟩
theorem num_bd {v:Val} (hr:rightV v=true) (hk:v.k=1∨v.k=3):lowest v.k<=v.i/\v.i<=highest v.k:=by
 rw[rightV_iff] at hr
 rcases Vals.right_cases hr.1 with ⟨h,_⟩|⟨h,_⟩|⟨h,_,h'⟩
 ·rw[h];simp[lowest,highest];omega
 ·omega
 ·rw[h];simp[lowest,highest];omega
theorem holds_met {p:Pr} {v:Val} (h:rightP p=true) (hv:rightV v=true):holdsP p v=Preds.met p.o p.k p.i p.t v.k v.i v.t:=by
 unfold holdsP Preds.holds
 rw[((rightP_iff p).1 h).1,((rightV_iff v).1 hv).1];rfl
theorem holds_wrong {p:Pr} {v:Val} (h:Preds.right p.n p.o p.k p.i p.t=false):holdsP p v=false:=by
 unfold holdsP Preds.holds
 rw[h];rfl
theorem holds_E {p:Pr} {v:Val} (h:rightP p=true) (h8:p.o=8) (hv:rightV v=true):holdsP p v=true:=by
 rw[holds_met h hv]
 unfold Preds.met
 rw[if_pos h8]
theorem cmp_num (k a b:Int):Vals.cmp k a [] k b []=Vals.cmpI a b:=by
 unfold Vals.cmp
 rw[if_neg (by simp[Vals.cmpI_zero])]
 by_cases h:Vals.cmpI a b=0
 ·rw[if_neg (by simpa using h),h];rfl
 ·rw[if_pos h]
theorem cmp_txt (a b:LU):Vals.cmp 2 0 a 2 0 b=Vals.cmpT a b:=by
 unfold Vals.cmp Vals.cmpI
 simp
theorem holds_N {p:Pr} {v:Val} (h:rightP p=true) (hk:p.k=1∨p.k=3) (hv:rightV v=true):holdsP p v=true↔v.k=p.k/\ofLo p<=v.i/\v.i<=ofHi p/\v∉ofNo p:=by
 rw[holds_met h hv]
 rcases rightP_cases h with ⟨_,e,_⟩|⟨h8,h1,h2,hr,hl,h7⟩
 ·omega
 ·have h7':p.o≠7:=fun e=>by have:=h7 e;omega
  unfold Preds.met
  rw[if_neg h8,if_neg h7',Bool.and_eq_true,decide_eq_true_eq]
  have hpt:p.t=[]:=by
   rcases Vals.right_cases hr with ⟨_,h⟩|⟨h,_⟩|⟨_,h,_⟩
   ·exact h
   ·omega
   ·exact h
  constructor
  ·rintro ⟨hvk,ha⟩
   have hvt:=right_numT hv (by omega)
   obtain⟨b1,b2⟩:=num_bd hv (by omega)
   rw[hvk,hvt,hpt,cmp_num] at ha
   refine ⟨hvk,?_⟩
   unfold ofLo ofHi ofNo
   have ho:p.o=1∨p.o=2∨p.o=3∨p.o=4∨p.o=5∨p.o=6:=by omega
   rw[hvk] at b1 b2
   rcases ho with ho|ho|ho|ho|ho|ho<;>rw[ho] at ha ⊢<;>simp[Preds.allows] at ha ⊢<;>unfold Vals.cmpI at ha
   ·split at ha
    ·omega
    ·split at ha<;>omega
   ·refine ⟨b1,b2,fun e=>?_⟩
    have:v.i=p.i:=by rw[e];rfl
    rw[this] at ha
    simp at ha
   ·split at ha
    ·omega
    ·split at ha<;>omega
   ·split at ha
    ·omega
    ·split at ha<;>omega
   ·split at ha
    ·omega
    ·split at ha<;>omega
   ·split at ha
    ·omega
    ·split at ha<;>omega
  ·rintro ⟨hvk,g1,g2,g3⟩
   have hvt:=right_numT hv (by omega)
   refine ⟨hvk,?_⟩
   rw[hvk,hvt,hpt,cmp_num]
   unfold ofLo at g1
   unfold ofHi at g2
   unfold ofNo at g3
   have ho:p.o=1∨p.o=2∨p.o=3∨p.o=4∨p.o=5∨p.o=6:=by omega
   rcases ho with ho|ho|ho|ho|ho|ho<;>rw[ho] at g1 g2 g3 ⊢<;>simp[Preds.allows] at g1 g2 g3 ⊢<;>unfold Vals.cmpI
   ·split
    ·omega
    ·split<;>omega
   ·have:v.i≠p.i:=fun e=>g3 (Val.ext_ hvk e (hvt.trans hpt.symm))
    split
    ·omega
    ·split<;>omega
   ·split
    ·omega
    ·split<;>omega
   ·split
    ·omega
    ·split<;>omega
   ·split
    ·omega
    ·split<;>omega
   ·split
    ·omega
    ·split<;>omega
theorem lt_next (v t:LU):bytesLess v (t++[0])=true↔bytesLess t v=false:=by
 constructor
 ·intro h
  cases hq:bytesLess t v with
  | false=>rfl
  | true=>rw[next_le _ _ hq] at h;simp at h
 ·intro h
  exact lt_of_le_of_lt h (lt_snoc t)
theorem cmpT_neg_iff (a b:LU):Vals.cmpT a b<0↔bytesLess a b=true:=by
 unfold Vals.cmpT
 split
 ·rename_i h;simp[h]
 ·rename_i h
  split<;>simp[h]
theorem cmpT_pos_iff (a b:LU):0<Vals.cmpT a b↔bytesLess b a=true:=by
 rw[<-cmpT_neg_iff b a,Vals.cmpT_neg a b];omega
theorem holds_T {p:Pr} {v:Val} (h:rightP p=true) (hk:p.k=2) (hv:rightV v=true):holdsP p v=true↔v.k=2/\bytesLess v.t (ofFrm p)=false/\(ofOpn p=true∨bytesLess v.t (ofTo p)=true)/\v∉ofNo p:=by
 rw[holds_met h hv]
 rcases rightP_cases h with ⟨_,e,_⟩|⟨h8,h1,h2,hr,hl,h7⟩
 ·omega
 ·unfold Preds.met
  rw[if_neg h8,Bool.and_eq_true,decide_eq_true_eq,hk]
  have hpi:p.i=0:=by
   rcases Vals.right_cases hr with ⟨h,_⟩|⟨_,h,_⟩|⟨h,_⟩
   ·omega
   ·exact h
   ·omega
  have hnil:∀t:LU,bytesLess t []=false:=fun t=>by cases t<;>rfl
  by_cases hvk:v.k=2
  ·have hvi:=(right_textI hv hvk).1
   have hc:Vals.cmp v.k v.i v.t 2 p.i p.t=Vals.cmpT v.t p.t:=by rw[hvk,hvi,hpi,cmp_txt]
   rw[hc]
   have hne:v=sideV p↔v.t=p.t:=⟨fun e=>by rw[e];rfl,fun e=>Val.ext_ (hvk.trans hk.symm) (hvi.trans hpi.symm) e⟩
   unfold ofFrm ofTo ofOpn ofNo
   have ho:p.o=1∨p.o=2∨p.o=3∨p.o=4∨p.o=5∨p.o=6∨p.o=7:=by omega
   rcases ho with ho|ho|ho|ho|ho|ho|ho<;>rw[ho]<;>simp[Preds.allows,hvk]
   ·rw[Vals.cmpT_zero,lt_next]
    exact⟨fun e=>by rw[e,Vals.less_irr];exact⟨rfl,rfl⟩,fun ⟨a,b⟩=>Vals.less_tri _ _ a b⟩
   ·rw[Vals.cmpT_zero,hne]
    exact⟨fun e=>⟨hnil _,e⟩,fun e=>e.2⟩
   ·rw[cmpT_neg_iff]
    exact⟨fun e=>⟨hnil _,e⟩,fun e=>e.2⟩
   ·rw[Vals.cmpT_le,lt_next]
    exact⟨fun e=>⟨hnil _,e⟩,fun e=>e.2⟩
   ·rw[cmpT_pos_iff,Bool.eq_false_iff,ne_eq,lt_next,Bool.not_eq_false]
   ·rw[<-Int.not_lt,cmpT_neg_iff,Bool.not_eq_true]
   ·rw[begins_iff]
    cases hq:up p.t with
    | none=>simp
    | some u=>simp
  ·simp[hvk]
def IsOf (p:Pr) (r:Sp):Prop:=Canon r/\∀v,rightV v=true->(has r v=true↔holdsP p v=true)
theorem IsOf.one {p:Pr} {r r':Sp} (h:IsOf p r) (h':IsOf p r'):r=r':=one_right h.1 h'.1 fun v hr=>by rw[Bool.eq_iff_iff,h.2 v hr,h'.2 v hr]
theorem of_wrong {p:Pr} (h:Preds.right p.n p.o p.k p.i p.t=false):IsOf p none_:=⟨.inl rfl,fun v _=>by rw[has_none,holds_wrong h]⟩
theorem of_E {p:Pr} (h:rightP p=true) (h8:p.o=8):IsOf p any_:=⟨.inr (.inl rfl),fun v hr=>by rw[has_any,hr,holds_E h h8 hr]⟩
theorem of_N {p:Pr} {r:Sp} (h:rightP p=true) (hk:p.k=1∨p.k=3) (hr:IsInts p.k (ofLo p) (ofHi p) (ofNo p) r):IsOf p r:=⟨hr.1,fun v hv=>by rw[hr.2 v hv,holds_N h hk hv]⟩
theorem of_T {p:Pr} {r:Sp} (h:rightP p=true) (hk:p.k=2) (hr:IsTexts (ofFrm p) (ofTo p) (ofOpn p) (ofNo p) r):IsOf p r:=⟨hr.1,fun v hv=>by rw[hr.2 v hv,holds_T h hk hv]⟩
def IsAll (l:List Pr) (r:Sp):Prop:=Canon r/\∀v,rightV v=true->(has r v=true↔∀p∈l,holdsP p v=true)
theorem IsAll.one {l:List Pr} {r r':Sp} (h:IsAll l r) (h':IsAll l r'):r=r':=one_right h.1 h'.1 fun v hr=>by rw[Bool.eq_iff_iff,h.2 v hr,h'.2 v hr]
theorem all_nil:IsAll [] any_:=⟨.inr (.inl rfl),fun v hr=>by rw[has_any];simp[hr]⟩
theorem all_snoc {l:List Pr} {p:Pr} {a b r:Sp} (h:IsAll l a) (hp:IsOf p b) (hm:IsMeet a b r):IsAll (l++[p]) r:=
 ⟨hm.1,fun v hr=>by rw[hm.2 v hr,h.2 v hr,hp.2 v hr];simp[or_imp,forall_and]⟩
end Spans
namespace Spans
open Go.Op (bytesLess)
def zeroEnd (s:LU):Option (LU):=if s.getLast?=some 0 then some s.dropLast else none
theorem zeroEnd_iff (s u:LU):zeroEnd s=some u↔s=u++[0]:=by
 unfold zeroEnd
 constructor
 ·intro h
  split at h
  ·rename_i hl
   injection h with h
   subst h
   obtain⟨ys,rfl⟩:=List.getLast?_eq_some_iff.1 hl
   simp
  ·simp at h
 ·rintro rfl
  simp
theorem zeroEnd_none (s:LU) (h:zeroEnd s=none):∀u,s≠u++[0]:=fun u e=>by
 rw[(zeroEnd_iff s u).2 e] at h;simp at h
def frmP (n:LU) (a:Sp):List Pr:=
 match zeroEnd a.frm with
 | some u=>[⟨n,5,2,0,u⟩]
 | none=>if a.frm=[] then [] else [⟨n,6,2,0,a.frm⟩]
def toP (n:LU) (a:Sp):List Pr:=
 if a.opn=true then [] else
 match zeroEnd a.to_ with
 | some u=>[⟨n,4,2,0,u⟩]
 | none=>[⟨n,3,2,0,a.to_⟩]
def loP (n:LU) (a:Sp):List Pr:=if a.kind=1 /\ -9223372036854775808<a.lo then [⟨n,6,1,a.lo,[]⟩] else []
def hiP (n:LU) (a:Sp):List Pr:=if a.kind=1/\a.hi<9223372036854775807 then [⟨n,4,1,a.hi,[]⟩] else []
def noP (n:LU) (a:Sp):List Pr:=a.no.map fun v=>⟨n,2,v.k,v.i,v.t⟩
def orP (l:List Pr) (d:Pr):List Pr:=if l=[] then [d] else l
def predsOf (n:LU) (a:Sp):List Pr:=
 if a.kind=0 then [] else if a.kind=4 then [⟨n,8,0,0,[]⟩]
 else if a.kind=2 then (if a.opn=false/\a.to_=a.frm++[0] then [⟨n,1,2,0,a.frm⟩] else orP (frmP n a++toP n a++noP n a) ⟨n,6,2,0,[]⟩)
 else if a.lo=a.hi then [⟨n,1,a.kind,a.lo,[]⟩] else orP (loP n a++hiP n a++noP n a) ⟨n,6,a.kind,lowest a.kind,[]⟩
theorem mk_right (n:LU) (o k i:Int) (t:LU) (h1:1<=n.length) (h2:n.length<=16) (ho:1<=o) (ho2:o<=6) (hv:rightV ⟨k,i,t⟩=true) (hl:t.length<=32):rightP ⟨n,o,k,i,t⟩=true:=by
 rw[rightV_iff] at hv
 rw[rightP_iff]
 refine ⟨?_,hv.2⟩
 show Preds.right n o k i t=true
 unfold Preds.right
 rw[Preds.asks_of (by omega) ho (by omega) hv.1 hl (fun e=>by omega)]
 simp[h1,h2]
theorem mem_orP {l:List Pr} {d p:Pr} (h:p∈orP l d):p=d∨p∈l:=by
 unfold orP at h
 split at h
 ·exact .inl (by simpa using h)
 ·exact .inr h
theorem orP_ne (l:List Pr) (d:Pr):orP l d≠[]:=by
 unfold orP
 split
 ·simp
 ·assumption
def Fine (n:LU) (p:Pr):Prop:=rightP p=true/\p.n=n
theorem no_right {a:Sp} (h:Canon a):∀v∈a.no,rightV v=true/\v.t.length<=32:=by
 intro v hv
 rcases h with rfl|rfl|h|h
 ·simp[none_] at hv
 ·simp[any_] at hv
 ·obtain⟨n1,n2,n3,n4⟩:=h.no v hv
  have:=h.low
  have:=h.high
  have e:v=⟨a.kind,v.i,[]⟩:=Val.ext_ n1 rfl n2
  refine ⟨?_,by rw[n2];simp⟩
  rw[e]
  exact right_num h.kind (by show _<=v.i;omega) (by show v.i<=_;omega)
 ·obtain⟨n1,n2,n3,_⟩:=h.no v hv
  have e:v=⟨2,0,v.t⟩:=Val.ext_ n1 n2 rfl
  refine ⟨?_,n3⟩
  rw[e]
  exact right_text _ (by omega)
theorem noP_fine {n:LU} {a:Sp} (h:Canon a) (h1:1<=n.length) (h2:n.length<=16):∀p∈noP n a,Fine n p:=by
 intro p hp
 obtain⟨v,hv,rfl⟩:=List.mem_map.1 hp
 obtain⟨r1,r2⟩:=no_right h v hv
 exact⟨mk_right n 2 v.k v.i v.t h1 h2 (by decide) (by decide) r1 r2,rfl⟩
theorem frmP_fine {n:LU} {a:Sp} (h:CanonT a) (h1:1<=n.length) (h2:n.length<=16):∀p∈frmP n a,Fine n p:=by
 intro p hp
 unfold frmP at hp
 have hl:=h.flen.len
 cases hq:zeroEnd a.frm with
 | some u=>
  rw[hq] at hp
  simp at hp
  subst hp
  have e:=(zeroEnd_iff _ _).1 hq
  have:u.length<=32:=by rw[e] at hl;simp at hl;omega
  exact⟨mk_right n 5 2 0 u h1 h2 (by decide) (by decide) (right_text _ (by omega)) this,rfl⟩
 | none=>
  rw[hq] at hp
  by_cases he:a.frm=[]
  ·simp[he] at hp
  ·simp[he] at hp
   subst hp
   have:a.frm.length<=32:=by
    rcases h.flen with hf|⟨u,hu,_⟩
    ·exact hf
    ·exact absurd hu (zeroEnd_none _ hq u)
   exact⟨mk_right n 6 2 0 a.frm h1 h2 (by decide) (by decide) (right_text _ (by omega)) this,rfl⟩
theorem toP_fine {n:LU} {a:Sp} (h:CanonT a) (h1:1<=n.length) (h2:n.length<=16):∀p∈toP n a,Fine n p:=by
 intro p hp
 unfold toP at hp
 cases ho:a.opn with
 | true=>rw[ho] at hp;simp at hp
 | false=>
  rw[ho] at hp
  have hsh:=(h.shut ho).1
  have hl:=hsh.len
  simp only[Bool.false_eq_true,if_false] at hp
  cases hq:zeroEnd a.to_ with
  | some u=>
   rw[hq] at hp
   simp at hp
   subst hp
   have e:=(zeroEnd_iff _ _).1 hq
   have:u.length<=32:=by rw[e] at hl;simp at hl;omega
   exact⟨mk_right n 4 2 0 u h1 h2 (by decide) (by decide) (right_text _ (by omega)) this,rfl⟩
  | none=>
   rw[hq] at hp
   simp at hp
   subst hp
   have:a.to_.length<=32:=by
    rcases hsh with hf|⟨u,hu,_⟩
    ·exact hf
    ·exact absurd hu (zeroEnd_none _ hq u)
   exact⟨mk_right n 3 2 0 a.to_ h1 h2 (by decide) (by decide) (right_text _ (by omega)) this,rfl⟩
theorem preds_fine {n:LU} {a:Sp} (h:Canon a) (h1:1<=n.length) (h2:n.length<=16):∀p∈predsOf n a,Fine n p:=by
 intro p hp
 have hno:=noP_fine h h1 h2
 unfold predsOf at hp
 rcases h with rfl|rfl|h|h
 ·simp[none_] at hp
 ·simp[any_] at hp
  subst hp
  refine ⟨?_,rfl⟩
  rw[rightP_iff]
  refine ⟨?_,by show -9223372036854775808<=(0:Int);decide,by show (0:Int)<=9223372036854775807;decide⟩
  show Preds.right n 8 0 0 []=true
  unfold Preds.right Preds.asks
  simp[h1,h2]
 ·obtain⟨k1,k2,k3⟩:=N_not4 h
  have g1:=h.low
  have g2:=h.ord
  have g3:=h.high
  rw[if_neg k3,if_neg k1,if_neg k2] at hp
  split at hp
  ·simp at hp
   subst hp
   exact⟨mk_right n 1 a.kind a.lo [] h1 h2 (by decide) (by decide) (right_num h.kind g1 (by omega)) (by simp),rfl⟩
  ·rcases mem_orP hp with rfl | hp
   ·exact⟨mk_right n 6 a.kind (lowest a.kind) [] h1 h2 (by decide) (by decide) (right_num h.kind (Int.le_refl _) (by omega)) (by simp),rfl⟩
   ·rcases List.mem_append.1 hp with hp | hp
    ·rcases List.mem_append.1 hp with hp | hp
     ·unfold loP at hp
      split at hp
      ·rename_i hc
       simp at hp
       subst hp
       rw[hc.1] at g1 g3
       exact⟨mk_right n 6 1 a.lo [] h1 h2 (by decide) (by decide) (right_num (.inl rfl) g1 (by omega)) (by simp),rfl⟩
      ·simp at hp
     ·unfold hiP at hp
      split at hp
      ·rename_i hc
       simp at hp
       subst hp
       rw[hc.1] at g1 g3
       exact⟨mk_right n 4 1 a.hi [] h1 h2 (by decide) (by decide) (right_num (.inl rfl) (by omega) g3) (by simp),rfl⟩
      ·simp at hp
    ·exact hno p hp
 ·have hk:=h.kind
  rw[if_neg (T_not4 h).2,if_neg (T_not4 h).1,if_pos hk] at hp
  split at hp
  ·rename_i hc
   simp at hp
   subst hp
   have hl:=(h.shut hc.1).1.len
   rw[hc.2] at hl
   have hl':a.frm.length<=32:=by simp at hl;omega
   exact⟨mk_right n 1 2 0 a.frm h1 h2 (by decide) (by decide) (right_text _ (by omega)) hl',rfl⟩
  ·rcases mem_orP hp with rfl | hp
   ·exact⟨mk_right n 6 2 0 [] h1 h2 (by decide) (by decide) (right_text _ (by simp)) (by simp),rfl⟩
   ·rcases List.mem_append.1 hp with hp | hp
    ·rcases List.mem_append.1 hp with hp | hp
     ·exact frmP_fine h h1 h2 p hp
     ·exact toP_fine h h1 h2 p hp
    ·exact hno p hp
theorem all_kind {l:List Pr} {k:Int} {C:Pr->Prop} {v:Val} (hne:l≠[]) (h:∀p∈l,holdsP p v=true↔v.k=k/\C p):(∀p∈l,holdsP p v=true)↔v.k=k/\∀p∈l,C p:=by
 constructor
 ·intro g
  obtain⟨p,hp⟩:=List.exists_mem_of_ne_nil l hne
  exact⟨((h p hp).1 (g p hp)).1,fun q hq=>((h q hq).1 (g q hq)).2⟩
 ·rintro ⟨g1,g2⟩ p hp
  exact (h p hp).2 ⟨g1,g2 p hp⟩
def CN (v:Val) (p:Pr):Prop:=ofLo p<=v.i/\v.i<=ofHi p/\v∉ofNo p
def CT (v:Val) (p:Pr):Prop:=bytesLess v.t (ofFrm p)=false/\(ofOpn p=true∨bytesLess v.t (ofTo p)=true)/\v∉ofNo p
theorem orP_all {l:List Pr} {d:Pr} {C:Pr->Prop} (h:l=[]->C d):(∀p∈orP l d,C p)↔∀p∈l,C p:=by
 unfold orP
 split
 ·rename_i he
  rw[he]
  simp[h he]
 ·rfl
theorem app_all {l m:List Pr} {C:Pr->Prop}:(∀p∈l++m,C p)↔(∀p∈l,C p)/\∀p∈m,C p:=by
 simp[or_imp,forall_and]
theorem less_nil (t:LU):bytesLess t []=false:=by cases t<;>rfl
theorem frmP_all (n:LU) (a:Sp) (v:Val):(∀p∈frmP n a,CT v p)↔bytesLess v.t a.frm=false:=by
 unfold frmP
 cases hq:zeroEnd a.frm with
 | some u=>
  have e:=(zeroEnd_iff _ _).1 hq
  simp[CT,ofFrm,ofOpn,ofNo,e]
 | none=>
  by_cases he:a.frm=[]
  ·simp[he,less_nil]
  ·simp[he,CT,ofFrm,ofOpn,ofNo]
theorem toP_all (n:LU) (a:Sp) (v:Val):(∀p∈toP n a,CT v p)↔a.opn=true∨bytesLess v.t a.to_=true:=by
 unfold toP
 cases ho:a.opn with
 | true=>simp
 | false=>
  cases hq:zeroEnd a.to_ with
  | some u=>
   have e:=(zeroEnd_iff _ _).1 hq
   simp[CT,ofFrm,ofTo,ofOpn,ofNo,e,less_nil]
  | none=>simp[CT,ofFrm,ofTo,ofOpn,ofNo,less_nil]
theorem noP_all_T (n:LU) (a:Sp) (v:Val):(∀p∈noP n a,CT v p)↔v∉a.no:=by
 unfold noP
 simp only[List.mem_map,forall_exists_index,and_imp,forall_apply_eq_imp_iff₂]
 simp[CT,ofFrm,ofOpn,ofNo,sideV,less_nil]
 exact⟨fun h hv=>h v hv rfl,fun h w hw e=>h (by rw[e];exact hw)⟩
theorem noP_all_N {n:LU} {a:Sp} {v:Val} (hb:lowest a.kind<=v.i/\v.i<=highest a.kind) (hk:∀w∈a.no,w.k=a.kind):(∀p∈noP n a,CN v p)↔v∉a.no:=by
 unfold noP
 simp only[List.mem_map,forall_exists_index,and_imp,forall_apply_eq_imp_iff₂]
 constructor
 ·intro h hv
  have:=(h v hv).2.2
  simp[ofNo,sideV] at this
 ·intro h w hw
  refine ⟨?_,?_,?_⟩
  ·simp[ofLo,hk w hw];exact hb.1
  ·simp[ofHi,hk w hw];exact hb.2
  ·simp[ofNo,sideV]
   intro e
   exact h (by rw[e];exact hw)
theorem loP_all (n:LU) (a:Sp) (v:Val) (h:a.kind=1) (hb:lowest a.kind<=v.i/\v.i<=highest a.kind):(∀p∈loP n a,CN v p)↔(-9223372036854775808<a.lo->a.lo<=v.i):=by
 unfold loP
 rw[h] at hb ⊢
 simp[lowest,highest] at hb
 split
 ·rename_i hc
  simp[CN,ofLo,ofHi,ofNo,highest,hc.2,hb.2]
 ·rename_i hc
  have:¬ -9223372036854775808<a.lo:=fun k=>hc ⟨rfl,k⟩
  simp[this]
theorem hiP_all (n:LU) (a:Sp) (v:Val) (h:a.kind=1) (hb:lowest a.kind<=v.i/\v.i<=highest a.kind):(∀p∈hiP n a,CN v p)↔(a.hi<9223372036854775807->v.i<=a.hi):=by
 unfold hiP
 rw[h] at hb ⊢
 simp[lowest,highest] at hb
 split
 ·rename_i hc
  simp[CN,ofLo,ofHi,ofNo,lowest,hc.2,hb.1]
 ·rename_i hc
  have:¬a.hi<9223372036854775807:=fun k=>hc ⟨rfl,k⟩
  simp[this]
theorem preds_kind {n:LU} {a:Sp} (h:Canon a) (h4:a.kind≠4):∀p∈predsOf n a,p.k=a.kind:=by
 intro p hp
 unfold predsOf at hp
 have hno:∀p∈noP n a,p.k=a.kind:=by
  intro p hp
  obtain⟨v,hv,rfl⟩:=List.mem_map.1 hp
  rcases h with rfl|rfl|h|h
  ·simp[none_] at hv
  ·simp[any_] at hv
  ·exact (h.no v hv).1
  ·exact (h.no v hv).1.trans h.kind.symm
 split at hp
 ·simp at hp
 ·split at hp
  ·rename_i h2
   rw[h2] at hno ⊢
   split at hp
   ·simp at hp;subst hp;rfl
   ·rcases mem_orP hp with rfl | hp
    ·rfl
    ·rcases List.mem_append.1 hp with hp | hp
     ·rcases List.mem_append.1 hp with hp | hp
      ·unfold frmP at hp
       split at hp
       ·simp at hp;subst hp;rfl
       ·split at hp
        ·simp at hp
        ·simp at hp;subst hp;rfl
      ·unfold toP at hp
       split at hp
       ·simp at hp
       ·split at hp
        ·simp at hp;subst hp;rfl
        ·simp at hp;subst hp;rfl
     ·exact hno p hp
  ·split at hp
   ·simp at hp;subst hp;rfl
   ·rcases mem_orP hp with rfl | hp
    ·rfl
    ·rcases List.mem_append.1 hp with hp | hp
     ·rcases List.mem_append.1 hp with hp | hp
      ·unfold loP at hp
       split at hp
       ·rename_i hc;simp at hp;subst hp;exact hc.1.symm
       ·simp at hp
      ·unfold hiP at hp
       split at hp
       ·rename_i hc;simp at hp;subst hp;exact hc.1.symm
       ·simp at hp
     ·exact hno p hp
theorem preds_ne {n:LU} {a:Sp} (h0:a.kind≠0):predsOf n a≠[]:=by
 unfold predsOf
 rw[if_neg h0]
 split
 ·simp
 ·split
  ·split
   ·simp
   ·exact orP_ne _ _
  ·split
   ·simp
   ·exact orP_ne _ _
theorem kind_none {a:Sp} (h:Canon a) (h0:a.kind=0):a=none_:=by
 rcases h with rfl|rfl|h|h
 ·rfl
 ·exact absurd h0 (by decide)
 ·exact absurd h0 (N_not4 h).2.2
 ·exact absurd h0 (T_not4 h).2
theorem preds_all {n:LU} {a:Sp} (h:Canon a) (h0:a.kind≠0) (h1:1<=n.length) (h2:n.length<=16):IsAll (predsOf n a) a:=by
 refine ⟨h,fun v hr=>?_⟩
 have hfine:=preds_fine (n:=n) h h1 h2
 have hkind:=preds_kind (n:=n) h
 have hne:=preds_ne (n:=n) h0
 rcases h with rfl|rfl|h|h
 ·exact absurd rfl h0
 ·rw[has_any]
  simp only[predsOf,any_]
  simp only[show ¬((4:Int)=0) by decide,if_false,if_true,List.mem_singleton,forall_eq]
  have hp:rightP ⟨n,8,0,0,[]⟩=true:=(hfine ⟨n,8,0,0,[]⟩ (by simp[predsOf,any_])).1
  rw[holds_E hp rfl hr,hr]
 ·obtain⟨k1,k2,k3⟩:=N_not4 h
  rw[all_kind (k:=a.kind) (C:=CN v) hne (fun p hp=>by
   have hk:=hkind k1 p hp
   rw[holds_N (hfine p hp).1 (by rw[hk];exact h.kind) hr,hk];rfl),N_iff h]
  have g1:=h.low
  have g2:=h.ord
  have g3:=h.high
  constructor
  ·rintro ⟨_,c1,c2,c3,c4⟩
   refine ⟨c1,?_⟩
   have hb:=num_bd hr (by rw[c1];exact h.kind)
   rw[c1] at hb
   unfold predsOf
   rw[if_neg k3,if_neg k1,if_neg k2]
   split
   ·rename_i e
    simp[CN,ofLo,ofHi,ofNo]
    omega
   ·rw[orP_all (fun _=>by simp[CN,ofLo,ofHi,ofNo];exact hb),app_all,app_all]
    refine ⟨⟨?_,?_⟩,(noP_all_N hb (fun w hw=>(h.no w hw).1)).2 c2⟩
    ·rcases h.kind with hk | hk
     ·exact (loP_all n a v hk hb).2 fun _=>c3
     ·unfold loP;rw[hk];simp
    ·rcases h.kind with hk | hk
     ·exact (hiP_all n a v hk hb).2 fun _=>c4
     ·unfold hiP;rw[hk];simp
  ·rintro ⟨c1,c⟩
   have hb:=num_bd hr (by rw[c1];exact h.kind)
   rw[c1] at hb
   unfold predsOf at c
   rw[if_neg k3,if_neg k1,if_neg k2] at c
   split at c
   ·rename_i e
    simp[CN,ofLo,ofHi,ofNo] at c
    exact⟨hr,c1,fun hv=>by have:=h.no v hv;omega,by omega,by omega⟩
   ·rename_i e
    rw[orP_all (fun _=>by simp[CN,ofLo,ofHi,ofNo];exact hb),app_all,app_all] at c
    obtain⟨⟨d1,d2⟩,d3⟩:=c
    refine ⟨hr,c1,(noP_all_N hb (fun w hw=>(h.no w hw).1)).1 d3,?_,?_⟩
    ·rcases h.kind with hk | hk
     ·have:=(loP_all n a v hk hb).1 d1
      rw[hk] at hb
      simp[lowest,highest] at hb
      rcases Int.lt_or_le (-9223372036854775808) a.lo with k|k
      ·exact this k
      ·omega
     ·rw[hk] at hb g1 g3
      simp[lowest,highest] at hb g1 g3
      omega
    ·rcases h.kind with hk | hk
     ·have:=(hiP_all n a v hk hb).1 d2
      rw[hk] at hb
      simp[lowest,highest] at hb
      rcases Int.lt_or_le a.hi 9223372036854775807 with k|k
      ·exact this k
      ·omega
     ·rw[hk] at hb g1 g3
      simp[lowest,highest] at hb g1 g3
      omega
 ·have hk2:=h.kind
  have k4:=(T_not4 h).1
  rw[all_kind (k:=2) (C:=CT v) hne (fun p hp=>by
   have hk:=(hkind k4 p hp).trans hk2
   rw[holds_T (hfine p hp).1 hk hr];rfl),T_iff h]
  have hcore:(∀p∈predsOf n a,CT v p)↔(v∉a.no/\bytesLess v.t a.frm=false/\(a.opn=true∨bytesLess v.t a.to_=true)):=by
   unfold predsOf
   rw[if_neg h0,if_neg k4,if_pos hk2]
   split
   ·rename_i hc
    have hno:v∉a.no:=fun hv=>by
     obtain⟨_,_,_,n4,n5⟩:=h.no v hv
     have:=n5 hc.1
     rw[hc.2,next_le _ _ n4] at this
     simp at this
    simp[CT,ofFrm,ofTo,ofOpn,ofNo,hno,hc.1,hc.2]
   ·rw[orP_all (fun _=>by simp[CT,ofFrm,ofOpn,ofNo,less_nil]),app_all,app_all,frmP_all,toP_all,noP_all_T]
    constructor
    ·rintro ⟨⟨c1,c2⟩,c3⟩;exact⟨c3,c1,c2⟩
    ·rintro ⟨c3,c1,c2⟩;exact⟨⟨c1,c2⟩,c3⟩
  rw[hcore]
  constructor
  ·rintro ⟨_,c1,c2,c3,c4⟩;exact⟨c1,c2,c3,c4⟩
  ·rintro ⟨c1,c2,c3,c4⟩;exact⟨hr,c1,c2,c3,c4⟩
end Spans
namespace Go.Proofs.YtnfigjggjmncdaaGreat
section
open Go.RowKit Go.ChangeShapes Go.WideShapes Go.Deep Go.Sort
structure Lay (α:Type) where
 enc:α->List Value
 k:Nat
 T:TypeId
 zero:Array Value
 bytes:Nat
 len:∀a,(enc a).length=k
 one:∀a,∀v∈enc a,v.oneCell'=true
 pos:0<k
 zlen:zero.size=k
 info:(Tryz.prog.info? T).map (fun i=>(i.zero,i.size,i.bytes))=some (some (.agg zero),k,bytes)
section
variable {α:Type} {L:Lay α}
theorem Lay.has (L:Lay α):∃i,Tryz.prog.info? L.T=some i/\i.zero=some (.agg L.zero)/\i.size=L.k/\i.bytes=L.bytes:=by
 have h:=L.info
 cases hq:Tryz.prog.info? L.T with
 | none=>rw[hq] at h;simp at h
 | some i=>rw[hq] at h;simp at h;exact⟨i,rfl,h.1,h.2.1,h.2.2⟩
def RdK (L:Lay α) (w:World) (A:OA) (es:List α):Prop:=
 es=[]∨∃g off,A=some ⟨g,off,none⟩/\g<w.heap.size/\∀i (h:i<es.length) j v,(L.enc es[i])[j]?=some v->w.cell? ⟨g,off+i*L.k+j,none⟩=some v
theorem RdK.nil (w:World) (A:OA):RdK L w A []:=.inl rfl
theorem RdK.at_ {w:World} {A:OA} {es:List α} (h:RdK L w A es) {k:Nat} (hk:k<es.length):
  ∃g off,A=some ⟨g,off,none⟩/\g<w.heap.size/\∀j v,(L.enc es[k])[j]?=some v->w.cell? ⟨g,off+k*L.k+j,none⟩=some v:=by
 rcases h with rfl|⟨g,off,rfl,hg,hc⟩
 ·simp at hk
 ·exact⟨g,off,rfl,hg,hc k hk⟩
theorem RdK.below {w w':World} {A:OA} {es:List α} (h:RdK L w A es) (hb:Below w.heap.size w w'):RdK L w' A es:=by
 rcases h with rfl|⟨g,off,rfl,hg,hc⟩
 ·exact .inl rfl
 ·exact .inr ⟨g,off,rfl,Nat.lt_of_lt_of_le hg hb.size,fun i hi j v hv=>(hb.cell (p:=⟨g,off+i*L.k+j,none⟩) hg).trans (hc i hi j v hv)⟩
theorem RdK.take {w:World} {A:OA} {es:List α} (h:RdK L w A es) (k:Nat):RdK L w A (es.take k):=by
 rcases h with rfl|⟨g,off,rfl,hg,hc⟩
 ·exact .inl (by simp)
 ·exact .inr ⟨g,off,rfl,hg,fun i hi=>by
   have hi':i<es.length:=by simp at hi;omega
   rw[List.getElem_take];exact hc i hi'⟩
theorem flatL_length (es:List α):(es.flatMap L.enc).length=es.length*L.k:=by
 induction es with
 | nil=>simp
 | cons a r ih=>rw[List.flatMap_cons,List.length_append,ih,L.len,List.length_cons,Nat.add_mul,Nat.one_mul,Nat.add_comm]
theorem flatL_at:∀(es:List α) (i:Nat) (h:i<es.length) (j:Nat),j<L.k->(es.flatMap L.enc)[i*L.k+j]?=(L.enc es[i])[j]?
 | [],_,h,_,_=>by simp at h
 | a::r,0,_,j,hj=>by
  rw[List.flatMap_cons,List.getElem?_append_left (by rw[L.len];omega)];simp
 | a::r,i+1,h,j,hj=>by
  have e:(i+1)*L.k+j-(L.enc a).length=i*L.k+j:=by rw[L.len,Nat.add_mul,Nat.one_mul];omega
  rw[List.flatMap_cons,List.getElem?_append_right (by rw[L.len,Nat.add_mul,Nat.one_mul];omega),e,flatL_at r i (by simpa using h) j hj];rfl
theorem flatL_one (es:List α):∀v∈es.flatMap L.enc,v.oneCell'=true:=by
 intro v hv
 obtain⟨a,_,hv⟩:=List.mem_flatMap.1 hv
 exact L.one a v hv
theorem flatL_of {es:List α} {j:Nat} {v:Value} (hv:(es.flatMap L.enc)[j]?=some v):∃(h:j / L.k<es.length),(L.enc es[j / L.k])[j % L.k]?=some v:=by
 have hj:j<es.length*L.k:=by
  have:=(List.getElem?_eq_some_iff.1 hv).1
  rwa [flatL_length] at this
 have hq:j / L.k<es.length:=Nat.div_lt_of_lt_mul (by rwa [Nat.mul_comm] at hj)
 have e:j / L.k*L.k+j % L.k=j:=by rw[Nat.mul_comm];exact Nat.div_add_mod j L.k
 refine ⟨hq,?_⟩
 rw[<-flatL_at es (j / L.k) hq (j % L.k) (Nat.mod_lt _ L.pos),e];exact hv
theorem RdK.src {w:World} {ad:Addr} {es:List α} (h:RdK L w (some ad) es):∀j v,(es.flatMap L.enc)[j]?=some v->w.cell? (ad.add j)=some v:=by
 intro j v hv
 obtain⟨hq,hv⟩:=flatL_of hv
 obtain⟨g,off,e,_,hc⟩:=h.at_ hq
 injection e with e
 subst e
 have e:j / L.k*L.k+j % L.k=j:=by rw[Nat.mul_comm];exact Nat.div_add_mod j L.k
 rw[add_lit]
 have:=hc _ v hv
 rw[Nat.add_assoc,e] at this
 exact this
theorem rdk_of_flat {w:World} {g:Nat} {t:TypeId} {cur:Array Value} {es:List α} (hg:Blk w g t cur) (h:cur.toList.take (es.length*L.k)=es.flatMap L.enc):RdK L w (some ⟨g,0,none⟩) es:=by
 refine .inr ⟨g,0,rfl,hg.lt,fun i hi j v hv=>?_⟩
 have hj:j<L.k:=by have:=(List.getElem?_eq_some_iff.1 hv).1;rwa [L.len] at this
 have hb:i*L.k+j<es.length*L.k:=by
  have:(i+1)*L.k<=es.length*L.k:=Nat.mul_le_mul_right _ (by omega)
  rw[Nat.add_mul,Nat.one_mul] at this;omega
 rw[hg.cell,Nat.zero_add,<-hv,<-flatL_at es i hi j hj,<-h,List.getElem?_take_of_lt hb]
 simp
def OwnK (L:Lay α) (w:World) (base:Nat) (v:Value) (es:List α):Prop:=w.ownsRow base L.T L.k v es.length (es.flatMap L.enc)
theorem OwnK.rd {w:World} {base:Nat} {v:Value} {es:List α} (h:OwnK L w base v es):∃A c,v=.slice A es.length c/\es.length<=c/\RdK L w A es:=by
 rcases h.2 with ⟨rfl,hn⟩|⟨g,cap,cur,rfl,_,hg,hc,_,_,ht⟩
 ·have:es=[]:=List.eq_nil_of_length_eq_zero hn
  subst this
  exact⟨none,0,rfl,by simp,.inl rfl⟩
 ·exact⟨_,cap,rfl,hc,rdk_of_flat hg ht⟩
theorem OwnK.base_le {w:World} {base:Nat} {v:Value} {es:List α} (h:OwnK L w base v es):∀k,v.ownBlock=some k->base<=k:=fun k hk=>(h.lt k hk).1
theorem OwnK.none_ (w:World) (base:Nat):OwnK L w base (.slice none 0 0) []:=by
 have:=World.ownsRow_nil w base L.T L.k
 simpa[OwnK] using this
theorem OwnK.empty (w:World) (base:Nat) (hb:base<=w.heap.size):OwnK L (w.alloc (.cells #[] L.T)) base (.slice (some ⟨w.heap.size,0,none⟩) 0 0) []:=
 ⟨by simp,.inr ⟨w.heap.size,0,#[],rfl,hb,heap_alloc_new _ _,by simp,by simp,by simp,by simp⟩⟩
theorem OwnK.below {w w':World} {base:Nat} {v:Value} {es:List α} (h:OwnK L w base v es) (hb:Below w.heap.size w w'):OwnK L w' base v es:=by
 refine ⟨h.1,?_⟩
 rcases h.2 with h2|⟨g,cap,cur,hv,hbg,hg,r⟩
 ·exact .inl h2
 ·exact .inr ⟨g,cap,cur,hv,hbg,(hb.block g (Array.getElem?_eq_some_iff.1 hg).1).trans hg,r⟩
theorem OwnK.less {w:World} {base base':Nat} {v:Value} {es:List α} (h:OwnK L w base v es) (hb:base'<=base):OwnK L w base' v es:=by
 refine ⟨h.1,?_⟩
 rcases h.2 with h2|⟨g,cap,cur,hv,hbg,r⟩
 ·exact .inl h2
 ·exact .inr ⟨g,cap,cur,hv,Nat.le_trans hb hbg,r⟩
theorem run_append_k (w:World) (base:Nat) (st ty:TypeId) (hst:Tryz.prog.underlying st=some (.slice L.T)) (v:Value) (es:List α) (hown:OwnK L w base v es) (A:OA) (fs:List α) (m c:Nat) (hr:RdK L w A fs) (hm:fs.length=m)
  (h63:es.length+m<=maxLen) (hlb:(es.length+m)*L.bytes<=140737488355328) (hbase:base<=w.heap.size):
  ∃v' w',(Builtin.append_ #[st,st] ty #[v,.slice A m c]).run Tryz.prog w=.ok v' w'/\OwnK L w' base v' (es++fs)/\w.grownBy w' v.ownBlock/\(v'.ownBlock=v.ownBlock∨v'.ownBlock=some w.heap.size):=by
 subst hm
 obtain⟨i,hi,hz,hs,hby⟩:=L.has
 rcases A with _|ad
 ·have hfs:fs=[]:=by
   rcases hr with h|⟨_,_,h,_⟩
   ·exact h
   ·cases h
  subst hfs
  refine ⟨v,w,?_,by simpa using hown,World.grownBy.refl w _,.inl rfl⟩
  rcases hown.2 with ⟨rfl,_⟩|⟨g,cap,cur,rfl,_,_,hnc,_⟩
  ·simp[Builtin.append_,run_underlying hst,sizeOf,typeInfo,hi,Builtin.lenOf,Builtin.firstCells]
  ·simp[Builtin.append_,run_underlying hst,sizeOf,typeInfo,hi,Builtin.lenOf,Builtin.firstCells,hnc,storeCells]
 ·obtain⟨v',w',hrun,h2,h3,_,h5⟩:=run_append_own_at (P:=Tryz.prog) w base st ty L.T i _ L.k L.bytes hst hi hz hs hby (by show L.zero.size=_;exact L.zlen) L.pos v es.length (es.flatMap L.enc) hown ad fs.length c (fs.flatMap L.enc) (flatL_length fs) hr.src (flatL_one fs) h63 hlb hbase
  refine ⟨v',w',hrun,?_,h3,h5⟩
  unfold OwnK
  rw[List.length_append,List.flatMap_append]
  exact h2
theorem wpList_append_k (L:Lay α) {w:World} {ops:Array Oper} {rest:List Oper} {o:Oper} {a:Act} {Q:Exit->Act->World->Prop} (hw:Region.wanted o (yielded ops a.tmps)=true) (s x:Operand) (st:TypeId) (hst:Tryz.prog.underlying st=some (.slice L.T))
  (ho:o.op=.call { callee:=.builtin .append,args:=#[s,x],argTypes:=#[st,st] }) (base:Nat)
  (v:Value) (es:List α) (hs:a.eval s=v) (hown:OwnK L w base v es) (A:OA) (fs:List α) (m c:Nat) (hx:a.eval x=.slice A m c) (hr:RdK L w A fs) (hm:fs.length=m)
  (h63:es.length+m<=maxLen) (hlb:(es.length+m)*L.bytes<=140737488355328) (hbase:base<=w.heap.size)
  (h:∀v' w',OwnK L w' base v' (es++fs)->(∀w0,Below base w0 w->Below base w0 w')->w.grownBy w' v.ownBlock->(v'.ownBlock=v.ownBlock∨v'.ownBlock=some w.heap.size)->wpList Tryz.prog ops Q rest (a.put o.dst v') w'):wpList Tryz.prog ops Q (o::rest) a w:=by
 refine wpList_step fun K hK=>?_
 rw[if_pos hw]
 obtain⟨v',w',hrun,h2,h3,h4⟩:=run_append_k w base st o.type hst v es hown A fs m c hr hm h63 hlb hbase
 unfold Oper.wp execOp
 simp only[ho,resolve,invoke,builtin,Sem.run_bind,Sem.run_pure,Result.andThen_ok,List.map_toArray,List.map_cons,List.map_nil,hs,hx,hrun]
 exact hK _ _ (h v' w' h2 (fun w0 hb=>hb.grown h3 hbase hown.base_le) h3 h4)
theorem op_append_k (L:Lay α) {w:World} {o:Oper} {a:Act} {K:Act->World->Prop} {Q:Exit->Act->World->Prop} (s x:Operand) (st:TypeId) (hst:Tryz.prog.underlying st=some (.slice L.T))
  (ho:o.op=.call { callee:=.builtin .append,args:=#[s,x],argTypes:=#[st,st] }) (base:Nat)
  (v:Value) (es:List α) (hs:a.eval s=v) (hown:OwnK L w base v es) (A:OA) (fs:List α) (m c:Nat) (hx:a.eval x=.slice A m c) (hr:RdK L w A fs) (hm:fs.length=m)
  (h63:es.length+m<=maxLen) (hlb:(es.length+m)*L.bytes<=140737488355328) (hbase:base<=w.heap.size)
  (h:∀v' w',OwnK L w' base v' (es++fs)->(∀w0,Below base w0 w->Below base w0 w')->K (a.put o.dst v') w'):Oper.wp Tryz.prog o a w K Q:=by
 obtain⟨v',w',hrun,h2,h3,h4⟩:=run_append_k w base st o.type hst v es hown A fs m c hr hm h63 hlb hbase
 unfold Oper.wp execOp
 simp only[ho,resolve,invoke,builtin,Sem.run_bind,Sem.run_pure,Result.andThen_ok,List.map_toArray,List.map_cons,List.map_nil,hs,hx,hrun]
 exact h v' w' h2 (fun w0 hb=>hb.grown h3 hbase hown.base_le)
theorem rdk_one (L:Lay α) (w:World) (a:α) (t:TypeId) (cs:Array Value) (h:cs=(L.enc a).toArray):RdK L (w.alloc (.cells cs t)) (some ⟨w.heap.size,0,none⟩) [a]:=
 rdk_of_flat (Blk.new w t _) (by subst h;simp;exact List.take_of_length_le (by rw[L.len];exact Jn))
theorem rdk_lit (L:Lay α) (w:World) (es:List α) (t:TypeId) (cs:Array Value) (h:cs=(es.flatMap L.enc).toArray):RdK L (w.alloc (.cells cs t)) (some ⟨w.heap.size,0,none⟩) es:=
 rdk_of_flat (Blk.new w t _) (by subst h;simp;exact List.take_of_length_le (by rw[flatL_length];exact Jn))
/-! Rows as the library's contracts want them. -/
variable [Inhabited α]
end
end
section
open Go.RowKit Go.Sort
variable {α:Type} {L:Lay α} [Inhabited α]
theorem flatL_flatK (es:List α):flatK L.enc L.k es.toArray=(es.flatMap L.enc).toArray:=by
 refine Array.ext (by rw[size_flatK,List.size_toArray,List.size_toArray,flatL_length]) fun t h1 h2=>?_
 have ht:t<es.length*L.k:=by simpa using h1
 have e1:(flatK L.enc L.k es.toArray)[t]! = (L.enc es.toArray[t / L.k]!)[t % L.k]!:=get_flatK L.enc L.k es.toArray t (by simpa using ht)
 rw[getElem!_pos _ t h1] at e1
 rw[e1]
 have hv:=List.getElem?_eq_getElem (show t<(es.flatMap L.enc).length by rw[flatL_length];exact ht)
 obtain⟨hq,hv⟩:=flatL_of hv
 have e4:es.toArray[t / L.k]! = es[t / L.k]:=by simp[hq]
 rw[e4]
 have hl:t % L.k<(L.enc es[t / L.k]).length:=(List.getElem?_eq_some_iff.1 hv).1
 rw[getElem!_pos (L.enc es[t / L.k]) _ hl]
 rw[List.getElem?_eq_getElem hl] at hv
 simpa using Option.some.inj hv
end
section
open Go.RowKit Go.Sort Spans
def cellsV (v:Val):List Value:=[.int .i64 v.k,.int .i64 v.i,.string ⟨v.t.toArray⟩]
def layV:Lay Val where
 enc:=cellsV
 k:=3
 T:=52
 zero:=(vC 0 0 #[])
 bytes:=32
 len:=fun _=>rfl
 one:=fun a v hv=>by simp[cellsV] at hv;rcases hv with rfl | rfl | rfl<;>rfl
 pos:=by decide
 zlen:=rfl
 info:=by kernel_rfl
instance:Inhabited Pr:=⟨⟨[],0,0,0,[]⟩⟩
def cellsP (p:Pr):List Value:=[.string ⟨p.n.toArray⟩,.int .i64 p.o,.int .i64 p.k,.int .i64 p.i,.string ⟨p.t.toArray⟩]
def layP:Lay Pr where
 enc:=cellsP
 k:=5
 T:=54
 zero:=(pC #[] 0 0 0 #[])
 bytes:=56
 len:=fun _=>rfl
 one:=fun a v hv=>by simp[cellsP] at hv;rcases hv with rfl | rfl | rfl | rfl | rfl<;>rfl
 pos:=by decide
 zlen:=rfl
 info:=by kernel_rfl
abbrev RdW (w:World) (A:OA) (es:List Val):Prop:=RdK layV w A es
abbrev RdQ (w:World) (A:OA) (es:List Pr):Prop:=RdK layP w A es
abbrev OwnW (w:World) (base:Nat) (v:Value) (es:List Val):Prop:=OwnK layV w base v es
abbrev OwnQ (w:World) (base:Nat) (v:Value) (es:List Pr):Prop:=OwnK layP w base v es
theorem RdW.at3 {w:World} {A:OA} {es:List Val} (h:RdW w A es) {k:Nat} (hk:k<es.length):∃g off,A=some ⟨g,off,none⟩/\g<w.heap.size /\
  w.cell? ⟨g,off+k*3,none⟩=some (.int .i64 es[k].k)/\w.cell? ⟨g,off+k*3+1,none⟩=some (.int .i64 es[k].i)/\w.cell? ⟨g,off+k*3+2,none⟩=some (.string ⟨es[k].t.toArray⟩):=by
 obtain⟨g,off,rfl,hg,hc⟩:=RdK.at_ h hk
 exact⟨g,off,rfl,hg,hc 0 _ rfl,hc 1 _ rfl,hc 2 _ rfl⟩
theorem RdQ.at5 {w:World} {A:OA} {es:List Pr} (h:RdQ w A es) {k:Nat} (hk:k<es.length):∃g off,A=some ⟨g,off,none⟩/\g<w.heap.size /\
  w.cell? ⟨g,off+k*5,none⟩=some (.string ⟨es[k].n.toArray⟩)/\w.cell? ⟨g,off+k*5+1,none⟩=some (.int .i64 es[k].o)/\w.cell? ⟨g,off+k*5+2,none⟩=some (.int .i64 es[k].k) /\
  w.cell? ⟨g,off+k*5+3,none⟩=some (.int .i64 es[k].i)/\w.cell? ⟨g,off+k*5+4,none⟩=some (.string ⟨es[k].t.toArray⟩):=by
 obtain⟨g,off,rfl,hg,hc⟩:=RdK.at_ h hk
 exact⟨g,off,rfl,hg,hc 0 _ rfl,hc 1 _ rfl,hc 2 _ rfl,hc 3 _ rfl,hc 4 _ rfl⟩
theorem underV:Tryz.prog.underlying 95=some (.slice layV.T):=Tryz.underlying95
theorem underQ:Tryz.prog.underlying 26=some (.slice layP.T):=Tryz.underlying26
theorem run_cutW {w:World} {A:OA} {es:List Val} {n cap k:Nat} (hr:RdW w A es) (hn:es.length=n) (hk:k<=n) (hc:n<=cap):
  ∃A',(∀W,(Instr.slice 95 (.slice A n cap) (some (.int .i64 (k:Int))) none none).run Tryz.prog W=.ok (.slice A' (n-k) (cap-k)) W)/\RdW w A' (es.drop k):=by
 by_cases hck:cap=k
 ·refine ⟨A,fun W=>?_,.inl (List.drop_eq_nil_of_le (by omega))⟩
  have h1:(0:Int)<=(k:Int):=by omega
  have h2:(k:Int)<=(n:Int):=by omega
  subst hck
  go_simp
 ·refine ⟨A.map fun x=>x.add (k*3),fun W=>?_,?_⟩
  ·have h1:(0:Int)<=(k:Int):=by omega
   have h2:(k:Int)<=(n:Int):=by omega
   go_simp
  ·rcases hr with rfl | ⟨g,off,rfl,hg,hcell⟩
   ·exact .inl (by simp)
   ·refine .inr ⟨g,off+k*3,by simp[add_lit],hg,fun i hi j v hv=>?_⟩
    have hi':k+i<es.length:=by simp at hi;omega
    rw[List.getElem_drop] at hv
    have:=hcell (k+i) hi' j v hv
    rw[show off+(k+i)*layV.k+j=off+k*3+i*layV.k+j by show off+(k+i)*3+j=off+k*3+i*3+j;omega] at this
    exact this
theorem run_headW (A:OA) (n cap k:Nat) (hk:k<=n) (hc:n<=cap) (W:World):
  (Instr.slice 95 (.slice A n cap) none (some (.int .i64 (k:Int))) none).run Tryz.prog W=.ok (.slice A k cap) W:=by
 have h1:(0:Int)<=(k:Int):=by omega
 have h2:(k:Int)<=(cap:Int):=by omega
 go_simp
def spV (a:Sp) (s:Value):Value:=.agg #[.int .i64 a.kind,.int .i64 a.lo,.int .i64 a.hi,.string ⟨a.frm.toArray⟩,.string ⟨a.to_.toArray⟩,.bool a.opn,s]
def SpIn (w:World) (a:Sp) (v:Value):Prop:=∃A c,v=spV a (.slice A a.no.length c)/\a.no.length<=c/\RdW w A a.no
def SpOwn (w:World) (base:Nat) (a:Sp) (v:Value):Prop:=∃s,v=spV a s/\OwnW w base s a.no
theorem SpIn.below {w w':World} {a:Sp} {v:Value} (h:SpIn w a v) (hb:Below w.heap.size w w'):SpIn w' a v:=by
 obtain⟨A,c,rfl,hc,hr⟩:=h
 exact⟨A,c,rfl,hc,hr.below hb⟩
theorem SpOwn.below {w w':World} {base:Nat} {a:Sp} {v:Value} (h:SpOwn w base a v) (hb:Below w.heap.size w w'):SpOwn w' base a v:=by
 obtain⟨s,rfl,h⟩:=h
 exact⟨s,rfl,h.below hb⟩
theorem SpOwn.less {w:World} {base base':Nat} {a:Sp} {v:Value} (h:SpOwn w base a v) (hb:base'<=base):SpOwn w base' a v:=by
 obtain⟨s,rfl,h⟩:=h
 exact⟨s,rfl,h.less hb⟩
theorem SpOwn.none_ (w:World) (base:Nat):SpOwn w base none_ (spV none_ (.slice none 0 0)):=⟨_,rfl,OwnK.none_ _ _⟩
theorem SpOwn.any_ (w:World) (base:Nat):SpOwn w base any_ (spV any_ (.slice none 0 0)):=⟨_,rfl,OwnK.none_ _ _⟩
theorem blk7 {w:World} {g:Nat} {t:TypeId} {a b c d e f s:Value} (hB:Blk w g t #[a,b,c,d,e,f,s]):
  w.cell? ⟨g,0,none⟩=some a/\w.cell? ⟨g,1,none⟩=some b/\w.cell? ⟨g,2,none⟩=some c/\w.cell? ⟨g,3,none⟩=some d/\w.cell? ⟨g,4,none⟩=some e/\w.cell? ⟨g,5,none⟩=some f/\w.cell? ⟨g,6,none⟩=some s /\
   w.frozen? ⟨g,0,none⟩=false/\w.frozen? ⟨g,1,none⟩=false/\w.frozen? ⟨g,2,none⟩=false/\w.frozen? ⟨g,3,none⟩=false/\w.frozen? ⟨g,4,none⟩=false/\w.frozen? ⟨g,5,none⟩=false/\w.frozen? ⟨g,6,none⟩=false:=
 ⟨hB.cell 0,hB.cell 1,hB.cell 2,hB.cell 3,hB.cell 4,hB.cell 5,hB.cell 6,hB.frozen 0,hB.frozen 1,hB.frozen 2,hB.frozen 3,hB.frozen 4,hB.frozen 5,hB.frozen 6⟩
end
end Go.Proofs.YtnfigjggjmncdaaGreat
namespace Spans
open Go.Op (bytesLess)
def RiseN (m:List Val):Prop:=m.Pairwise fun u v=>u.i<v.i
def RiseT (m:List Val):Prop:=m.Pairwise fun u v=>bytesLess u.t v.t=true
def RiseV (m:List Val):Prop:=m.Pairwise fun a b=>Vals.cmp a.k a.i a.t b.k b.i b.t<0
theorem cmpI_neg_iff (a b:Int):Vals.cmpI a b<0↔a<b:=by
 unfold Vals.cmpI
 split<;>(try split)<;>omega
theorem riseN_of {K:Int} {m:List Val} (h:RiseV m) (hl:∀v∈m,v.k=K/\v.t=[]):RiseN m:=by
 refine List.Pairwise.imp_of_mem (fun {a b} ha hb hab=>?_) h
 obtain⟨a1,a2⟩:=hl a ha
 obtain⟨b1,b2⟩:=hl b hb
 rw[a1,a2,b1,b2,cmp_num,cmpI_neg_iff] at hab
 exact hab
theorem riseT_of {m:List Val} (h:RiseV m) (hl:∀v∈m,v.k=2/\v.i=0):RiseT m:=by
 refine List.Pairwise.imp_of_mem (fun {a b} ha hb hab=>?_) h
 obtain⟨a1,a2⟩:=hl a ha
 obtain⟨b1,b2⟩:=hl b hb
 rw[a1,a2,b1,b2,cmp_txt,cmpT_neg_iff] at hab
 exact hab
structure TN (K lo hi:Int) (l:List Val) (lo' hi':Int) (m:List Val):Prop where
 mem:∀v,v∈m↔v∈l/\lo'<=v.i/\v.i<=hi'
 rise:RiseN m
 le:lo<=lo'
 ge:hi'<=hi
 ord:lo'<=hi'
 ga:∀x,lo<=x->x<lo'->(⟨K,x,[]⟩:Val)∈l
 gb:∀x,hi'<x->x<=hi->(⟨K,x,[]⟩:Val)∈l
 hl:∀v∈l,v.k=K/\v.t=[]
section
variable {K lo hi lo' hi':Int} {l m:List Val}
theorem TN.val (h:TN K lo hi l lo' hi' m) {v:Val} (hv:v∈l):v=⟨K,v.i,[]⟩:=Val.ext_ (h.hl v hv).1 rfl (h.hl v hv).2
theorem TN.start (hl:∀v∈l,v.k=K/\v.t=[]) (hr:RiseV l) (hlh:lo<=hi) (q:Val->Bool) (hq:∀v,q v=(decide (v.i<lo) || decide (hi<v.i))):TN K lo hi l lo hi (l.filter fun v=>!q v):=by
 refine ⟨fun v=>?_,?_,Int.le_refl _,Int.le_refl _,hlh,fun x h1 h2=>by omega,fun x h1 h2=>by omega,hl⟩
 ·rw[List.mem_filter,hq]
  simp
 ·exact (riseN_of hr hl).sublist List.filter_sublist
theorem head_split (h:0<m.length):m=m[0]::m.drop 1:=by
 cases m with
 | nil=>simp at h
 | cons a r=>rfl
theorem TN.up (h:TN K lo hi l lo' hi' m) (h0:0<m.length) (e:m[0].i=lo') (hne:lo'≠hi'):TN K lo hi l (lo'+1) hi' (m.drop 1):=by
 have hm:=head_split h0
 have hr:RiseN (m[0]::m.drop 1):=hm ▸ h.rise
 have hr':=List.pairwise_cons.1 hr
 have hx0:=(h.mem m[0]).1 (List.getElem_mem h0)
 refine ⟨fun v=>?_,hr'.2,by have:=h.le;omega,h.ge,by have:=h.ord;omega,fun x h1 h2=>?_,h.gb,h.hl⟩
 ·constructor
  ·intro hv
   have h1:=hr'.1 v hv
   have h2:=(h.mem v).1 (by rw[hm];exact List.mem_cons_of_mem _ hv)
   exact⟨h2.1,by omega,h2.2.2⟩
  ·rintro ⟨h1,h2,h3⟩
   have h4:=(h.mem v).2 ⟨h1,by omega,h3⟩
   rw[hm] at h4
   rcases List.mem_cons.1 h4 with h5|h5
   ·rw[h5] at h2;omega
   ·exact h5
 ·by_cases hx:x=lo'
  ·subst hx
   have:=h.val hx0.1
   rw[e] at this
   rw[<-this];exact hx0.1
  ·exact h.ga x h1 (by omega)
theorem TN.full (h:TN K lo hi l lo' hi' m) (hk:K=1∨K=3) (h0:0<m.length) (e:m[0].i=lo') (he:lo'=hi') (hh:hi'=hi):IsInts K lo hi l none_:=by
 have hx0:=(h.mem m[0]).1 (List.getElem_mem h0)
 refine ints_none hk fun x h1 h2=>?_
 by_cases hv:x<lo'
 ·exact h.ga x h1 hv
 ·have hx:x=lo':=by omega
  have:=h.val hx0.1
  rw[e,<-hx] at this
  rw[<-this];exact hx0.1
theorem TN.low_out (h:TN K lo hi l lo' hi' m) (hx:∀h0:0<m.length,m[0].i≠lo'):(⟨K,lo',[]⟩:Val)∉l:=by
 intro hv
 have hv':=(h.mem _).2 ⟨hv,Int.le_refl _,h.ord⟩
 have h0:0<m.length:=List.length_pos_of_mem hv'
 have hm:=head_split h0
 have hr':=List.pairwise_cons.1 (show RiseN (m[0]::m.drop 1) from hm ▸ h.rise)
 rw[hm] at hv'
 have hx0:=(h.mem m[0]).1 (List.getElem_mem h0)
 rcases List.mem_cons.1 hv' with h5|h5
 ·exact hx h0 (by rw[<-h5])
 ·have:=hr'.1 _ h5
  simp only at this
  omega
theorem last_split (h:0<m.length):m=m.take (m.length-1)++[m[m.length-1]]:=by
 have:=List.take_succ_eq_append_getElem (l:=m) (i:=m.length-1) (by omega)
 rw[show m.length-1+1=m.length by omega,List.take_of_length_le (Jn)] at this
 exact this
theorem TN.down (h:TN K lo hi l lo' hi' m) (hlo:(⟨K,lo',[]⟩:Val)∉l) (h0:0<m.length) (e:m[m.length-1].i=hi'):TN K lo hi l lo' (hi'-1) (m.take (m.length-1)):=by
 have hm:=last_split h0
 have hr:RiseN (m.take (m.length-1)++[m[m.length-1]]):=hm ▸ h.rise
 have hr':=List.pairwise_append.1 hr
 have hx0:=(h.mem m[m.length-1]).1 (List.getElem_mem _)
 have hv0:=h.val hx0.1
 have hne:lo'≠hi':=fun hh=>hlo (by rw[hh,<-e,<-hv0];exact hx0.1)
 refine ⟨fun v=>?_,hr'.1,h.le,by have:=h.ge;omega,by have:=h.ord;omega,h.ga,fun x h1 h2=>?_,h.hl⟩
 ·constructor
  ·intro hv
   have h1:=hr'.2.2 v hv _ (List.mem_singleton_self _)
   have h2:=(h.mem v).1 (by rw[hm];exact List.mem_append_left _ hv)
   exact⟨h2.1,h2.2.1,by omega⟩
  ·rintro ⟨h1,h2,h3⟩
   have h4:=(h.mem v).2 ⟨h1,h2,by omega⟩
   rw[hm] at h4
   rcases List.mem_append.1 h4 with h5|h5
   ·exact h5
   ·rw[List.mem_singleton.1 h5] at h3;omega
 ·by_cases hx:x=hi'
  ·rw[hx,<-e,<-hv0];exact hx0.1
  ·exact h.gb x (by omega) h2
theorem TN.high_out (h:TN K lo hi l lo' hi' m) (hx:∀h0:0<m.length,m[m.length-1].i≠hi'):(⟨K,hi',[]⟩:Val)∉l:=by
 intro hv
 have hv':=(h.mem _).2 ⟨hv,h.ord,Int.le_refl _⟩
 have h0:0<m.length:=List.length_pos_of_mem hv'
 have hm:=last_split h0
 have hr':=List.pairwise_append.1 (show RiseN (m.take (m.length-1)++[m[m.length-1]]) from hm ▸ h.rise)
 rw[hm] at hv'
 have hx0:=(h.mem m[m.length-1]).1 (List.getElem_mem _)
 rcases List.mem_append.1 hv' with h5|h5
 ·have:=hr'.2.2 _ h5 _ (List.mem_singleton_self _)
  simp only at this
  omega
 ·exact hx h0 (by rw[<-List.mem_singleton.1 h5])
theorem TN.done (h:TN K lo hi l lo' hi' m) (hk:K=1∨K=3) (h1:lowest K<=lo) (h2:hi<=highest K) (hlo:(⟨K,lo',[]⟩:Val)∉l) (hhi:(⟨K,hi',[]⟩:Val)∉l):IsInts K lo hi l ⟨K,lo',hi',[],[],false,m⟩:=by
 refine ints_mk hk (by have:=h.le;omega) (by have:=h.ge;omega) h.ord h.le h.ge h.ga h.gb hlo hhi (fun v=>?_) h.rise
 rw[h.mem]
 constructor
 ·rintro ⟨g1,g2,g3⟩
  have hv:=h.val g1
  refine ⟨g1,(h.hl v g1).1,(h.hl v g1).2,?_,?_⟩
  ·have:v.i≠lo':=fun e=>hlo (by rw[<-e,<-hv];exact g1)
   omega
  ·have:v.i≠hi':=fun e=>hhi (by rw[<-e,<-hv];exact g1)
   omega
 ·rintro ⟨g1,_,_,g2,g3⟩
  exact⟨g1,by omega,by omega⟩
end
structure TT (frm to_:LU) (opn:Bool) (l:List Val) (a b:Nat) (e:LU) (m:List Val):Prop where
 mem:∀v,v∈m↔v∈l/\bytesLess v.t (zs frm a)=false/\(opn=true∨bytesLess v.t e=true)
 rise:RiseT m
 ga:∀j,j<a->(⟨2,0,zs frm j⟩:Val)∈l
 gb:opn=false->to_=zs e b/\∀j,j<b->(⟨2,0,zs e j⟩:Val)∈l
 hl:∀v∈l,v.k=2/\v.i=0/\v.t.length<=32
section
variable {frm to_ e:LU} {opn:Bool} {l m:List Val} {a b:Nat}
theorem TT.val (h:TT frm to_ opn l a b e m) {v:Val} (hv:v∈l):v=⟨2,0,v.t⟩:=Val.ext_ (h.hl v hv).1 (h.hl v hv).2.1 rfl
theorem TT.start (hl:∀v∈l,v.k=2/\v.i=0/\v.t.length<=32) (hr:RiseV l) (q:Val->Bool) (hq:∀v,q v=(bytesLess v.t frm || (!opn && !bytesLess v.t to_))):TT frm to_ opn l 0 0 to_ (l.filter fun v=>!q v):=by
 refine ⟨fun v=>?_,(riseT_of hr fun v hv=>⟨(hl v hv).1,(hl v hv).2.1⟩).sublist List.filter_sublist,fun j hj=>by omega,fun _=>⟨(zs_zero _).symm,fun j hj=>by omega⟩,hl⟩
 rw[List.mem_filter,hq,zs_zero]
 cases opn<;>cases bytesLess v.t frm<;>cases bytesLess v.t to_<;>simp
theorem TT.up (h:TT frm to_ opn l a b e m) (h0:0<m.length) (hx:m[0].t=zs frm a):TT frm to_ opn l (a+1) b e (m.drop 1):=by
 have hm:=head_split h0
 have hr':=List.pairwise_cons.1 (show RiseT (m[0]::m.drop 1) from hm ▸ h.rise)
 have hx0:=(h.mem m[0]).1 (List.getElem_mem h0)
 have hv0:=h.val hx0.1
 refine ⟨fun v=>?_,hr'.2,fun j hj=>?_,h.gb,h.hl⟩
 ·rw[zs_succ]
  constructor
  ·intro hv
   have h1:=hr'.1 v hv
   have h2:=(h.mem v).1 (by rw[hm];exact List.mem_cons_of_mem _ hv)
   rw[hx] at h1
   exact⟨h2.1,next_le _ _ h1,h2.2.2⟩
  ·rintro ⟨h1,h2,h3⟩
   have h5:bytesLess (zs frm a) v.t=true:=by
    have h6:=lt_next v.t (zs frm a)
    cases h7:bytesLess (zs frm a) v.t with
    | true=>rfl
    | false=>rw[h6.2 h7] at h2;simp at h2
   have h4:=(h.mem v).2 ⟨h1,le_of_lt h5,h3⟩
   rw[hm] at h4
   rcases List.mem_cons.1 h4 with h6|h6
   ·rw[h6,hx,Vals.less_irr] at h5;simp at h5
   ·exact h6
 ·by_cases hj':j=a
  ·rw[hj',<-hx,<-hv0];exact hx0.1
  ·exact h.ga j (by omega)
theorem TT.low_out (h:TT frm to_ opn l a b e m) (hin:opn=true∨bytesLess (zs frm a) e=true) (hx:∀h0:0<m.length,m[0].t≠zs frm a):(⟨2,0,zs frm a⟩:Val)∉l:=by
 intro hv
 have hv':=(h.mem _).2 ⟨hv,Vals.less_irr _,hin⟩
 have h0:0<m.length:=List.length_pos_of_mem hv'
 have hm:=head_split h0
 have hr':=List.pairwise_cons.1 (show RiseT (m[0]::m.drop 1) from hm ▸ h.rise)
 rw[hm] at hv'
 have hx0:=(h.mem m[0]).1 (List.getElem_mem h0)
 rcases List.mem_cons.1 hv' with h5|h5
 ·exact hx h0 (by rw[<-h5])
 ·have:=hr'.1 _ h5
  simp only at this
  rw[hx0.2.1] at this;simp at this
theorem TT.none_ (h:TT frm to_ false l a b e m) (hout:bytesLess (zs frm a) e=false):IsTexts frm to_ false l none_:=by
 obtain⟨h1,h2⟩:=h.gb rfl
 rw[h1]
 exact texts_none h.ga h2 hout
theorem TT.down (h:TT frm to_ false l a b e m) (h0:0<m.length) (hx:m[m.length-1].t++[0]=e):TT frm to_ false l a (b+1) m[m.length-1].t (m.take (m.length-1)):=by
 have hm:=last_split h0
 have hr':=List.pairwise_append.1 (show RiseT (m.take (m.length-1)++[m[m.length-1]]) from hm ▸ h.rise)
 have hx0:=(h.mem m[m.length-1]).1 (List.getElem_mem _)
 have hv0:=h.val hx0.1
 refine ⟨fun v=>?_,hr'.1,h.ga,fun ho=>?_,h.hl⟩
 ·constructor
  ·intro hv
   have h1:=hr'.2.2 v hv _ (List.mem_singleton_self _)
   have h2:=(h.mem v).1 (by rw[hm];exact List.mem_append_left _ hv)
   exact⟨h2.1,h2.2.1,.inr h1⟩
  ·rintro ⟨h1,h2,h3⟩
   have h3':bytesLess v.t m[m.length-1].t=true:=h3.elim (fun h=>by simp at h) id
   have h4:=(h.mem v).2 ⟨h1,h2,.inr (by rw[<-hx,lt_next];exact le_of_lt h3')⟩
   rw[hm] at h4
   rcases List.mem_append.1 h4 with h5|h5
   ·exact h5
   ·rw[List.mem_singleton.1 h5,Vals.less_irr] at h3';simp at h3'
 ·obtain⟨g1,g2⟩:=h.gb rfl
  refine ⟨by rw[g1,<-hx,Nat.add_comm b 1,<-zs_add];rfl,fun j hj=>?_⟩
  rcases j with _|j
  ·rw[zs_zero,<-hv0];exact hx0.1
  ·have:=g2 j (by omega)
   rw[<-hx,show m[m.length-1].t++[0]=zs m[m.length-1].t 1 from rfl,zs_add] at this
   rw[Nat.add_comm j 1];exact this
theorem TT.lt_down (h:TT frm to_ false l a b e m) (hlo:(⟨2,0,zs frm a⟩:Val)∉l) (h0:0<m.length):bytesLess (zs frm a) m[m.length-1].t=true:=by
 have hx0:=(h.mem m[m.length-1]).1 (List.getElem_mem _)
 rcases less_or (zs frm a) m[m.length-1].t with g|g|g
 ·exact g
 ·exact absurd (by rw[g,<-h.val hx0.1];exact hx0.1) hlo
 ·rw[hx0.2.1] at g;simp at g
theorem TT.end_out (h:TT frm to_ false l a b e m) (hlt:bytesLess (zs frm a) e=true) (hx:∀h0:0<m.length,m[m.length-1].t++[0]≠e):∀u,e=u++[0]->(⟨2,0,u⟩:Val)∉l:=by
 intro u hu hv
 have h1:bytesLess u (zs frm a)=false:=by rw[hu,lt_next] at hlt;exact hlt
 have h2:bytesLess u e=true:=by rw[hu];exact lt_snoc u
 have hv':=(h.mem _).2 ⟨hv,h1,.inr h2⟩
 have h0:0<m.length:=List.length_pos_of_mem hv'
 have hm:=last_split h0
 have hr':=List.pairwise_append.1 (show RiseT (m.take (m.length-1)++[m[m.length-1]]) from hm ▸ h.rise)
 have hx0:=(h.mem m[m.length-1]).1 (List.getElem_mem _)
 rw[hm] at hv'
 rcases List.mem_append.1 hv' with h5|h5
 ·have h6:=hr'.2.2 _ h5 _ (List.mem_singleton_self _)
  simp only at h6
  have h7:bytesLess m[m.length-1].t e=true:=hx0.2.2.elim (fun h=>by simp at h) id
  rw[hu,lt_next,h6] at h7;simp at h7
 ·exact hx h0 (by rw[<-List.mem_singleton.1 h5,hu])
theorem TT.done (h:TT frm to_ opn l a b e m) (hf:Short frm) (ho:opn=true->e=[]) (hs:opn=false->Short to_/\bytesLess (zs frm a) e=true/\∀u,e=u++[0]->(⟨2,0,u⟩:Val)∉l) (hlo:(⟨2,0,zs frm a⟩:Val)∉l):IsTexts frm to_ opn l ⟨2,0,0,zs frm a,e,opn,m⟩:=
 texts_mk h.ga hlo h.gb (moved_short (fun v hv=>(h.hl v hv).2.2) hf h.ga) ho (fun hh=>⟨by
  obtain⟨g1,g2⟩:=h.gb hh
  exact moved_short' (fun v hv=>(h.hl v hv).2.2) (g1 ▸ (hs hh).1) g2,(hs hh).2⟩) h.hl h.mem h.rise
end
end Spans
namespace Go.Proofs.YtnfigjggjmncdaaGreat
section
open Go.RowKit Go.ChangeShapes Go.WideShapes Go.Deep Go.Joins
section
variable {H:Type} {enc:TypeId × Value->H} {P:Program} {w:World} {base:Nat} {spare:Nat->Bool} {held:Bool}
end
end
section
open Go.RowKit Go.ChangeShapes Go.WideShapes Go.Deep Go.Joins Spans
section
variable {H:Type} {enc:TypeId × Value->H} {P:Program} {w:World} {base:Nat} {spare:Nat->Bool} {held:Bool}
theorem plain_atQ {a:Addr} {v:Value} (h:w.cell? a=some v):∃b off,a=⟨b,off,none⟩/\b<w.heap.size:=by
 obtain⟨b,off,spot⟩:=a
 have hs:spot=none:=by simpa using World.cell?_spot h
 subst hs
 exact⟨b,off,rfl,World.block_lt_of_cell? w _ h⟩
theorem open_preds_of {t e tn tp tv t0 t1 t2:TypeId} {fn fp fv f0 f1 f2:Field} {A:OA} {len cap:Nat} {d:DataW H} {p:List MemPlace} (ht:P.underlying t=some (.slice e)) (he:P.underlying e=some (.struct #[fn,fp,fv])) (hc:P.cellsOf e=5)
  (hfn:fn.type=tn/\fn.offset=0/\P.cellsOf tn=1) (hfp:fp.type=tp/\fp.offset=1/\P.cellsOf tp=1) (hfv:fv.type=tv/\fv.offset=2/\P.cellsOf tv=3) (hn:P.underlying tn=some .string) (hp:P.underlying tp=some (.int .i64)) (hv:P.underlying tv=some (.struct #[f0,f1,f2]))
  (hf0:f0.type=t0/\f0.offset=0/\P.cellsOf t0=1) (hf1:f1.type=t1/\f1.offset=1/\P.cellsOf t1=1) (hf2:f2.type=t2/\f2.offset=2/\P.cellsOf t2=1)
  (h0:P.underlying t0=some (.int .i64)) (h1:P.underlying t1=some (.int .i64)) (h2:P.underlying t2=some .string)
  (h:DataW.Trod enc P w base spare held t (.slice A len cap) d p):
  ∃es:List Pr,es.length=len/\len<=cap/\cap<=maxLen/\RdQ w A es/\∀a∈es,a.n.length<=maxLen/\a.t.length<=maxLen/\(Lit.int .i64 a.i).wf=true:=by
 obtain⟨fuel,hf⟩:=h
 rcases open_slice ht hf with ⟨hcs,_⟩|⟨a,l,c,m,n,D,Pl,hcs,_,hl,hm,hmm,_,hx⟩
 ·simp[Value.cells] at hcs
  obtain⟨rfl,rfl,rfl⟩:=hcs
  exact⟨[],rfl,by omega,by simp,.inl rfl,by simp⟩
 ·simp[Value.cells] at hcs
  obtain⟨rfl,rfl,rfl⟩:=hcs
  have hlm:len<=m:=by rw[hmm];split<;>omega
  have each:∀i,i<len->∃z:Pr,(w.cell? ((a.add (i*5)).add 0)=some (.string ⟨z.n.toArray⟩)/\w.cell? ((a.add (i*5)).add 1)=some (.int .i64 z.o)/\w.cell? ((a.add (i*5)).add 2)=some (.int .i64 z.k)/\w.cell? ((a.add (i*5)).add 3)=some (.int .i64 z.i)/\w.cell? ((a.add (i*5)).add 4)=some (.string ⟨z.t.toArray⟩))/\z.n.length<=maxLen/\z.t.length<=maxLen/\(Lit.int .i64 z.i).wf=true:=by
   intro i hi
   obtain⟨cs,k1,k2⟩:=hx i (by omega)
   rw[hc] at k1
   obtain⟨_,hlen,hat⟩:=World.cells?_some k1
   obtain⟨xs,n',_,_,_,hxl,hfs⟩:=DataW.trod_struct he k2
   match cs,hlen with
   | [c0,c1,c2,c3,c4],_=>
    have g0:=hfs 0 fn rfl
    have g1:=hfs 1 fp rfl
    have g2:=hfs 2 fv rfl
    obtain⟨e0,o0,s0⟩:=hfn
    obtain⟨e1,o1,s1⟩:=hfp
    obtain⟨e2,o2,s2⟩:=hfv
    rw[e0,o0,s0] at g0
    rw[e1,o1,s1] at g1
    rw[e2,o2,s2] at g2
    have hxs0:xs[0]?=some (xs[0]'(by rw[hxl];simp)):=List.getElem?_eq_getElem _
    have hxs1:xs[1]?=some (xs[1]'(by rw[hxl];simp)):=List.getElem?_eq_getElem _
    have hxs2:xs[2]?=some (xs[2]'(by rw[hxl];simp)):=List.getElem?_eq_getElem _
    rw[hxs0] at g0
    rw[hxs1] at g1
    rw[hxs2] at g2
    obtain⟨⟨⟨zn⟩⟩,q0,_,r0⟩:=DataW.trod_string hn g0
    obtain⟨zo,q1,_,_⟩:=DataW.trod_int hp g1
    obtain⟨ys,n'',_,_,_,hyl,hfs2⟩:=DataW.trod_struct hv g2
    have j0:=hfs2 0 f0 rfl
    have j1:=hfs2 1 f1 rfl
    have j2:=hfs2 2 f2 rfl
    obtain⟨e0,o0,s0⟩:=hf0
    obtain⟨e1,o1,s1⟩:=hf1
    obtain⟨e2,o2,s2⟩:=hf2
    rw[e0,o0,s0] at j0
    rw[e1,o1,s1] at j1
    rw[e2,o2,s2] at j2
    have hys0:ys[0]?=some (ys[0]'(by rw[hyl];simp)):=List.getElem?_eq_getElem _
    have hys1:ys[1]?=some (ys[1]'(by rw[hyl];simp)):=List.getElem?_eq_getElem _
    have hys2:ys[2]?=some (ys[2]'(by rw[hyl];simp)):=List.getElem?_eq_getElem _
    rw[hys0] at j0
    rw[hys1] at j1
    rw[hys2] at j2
    obtain⟨zk,p0,_,_⟩:=DataW.trod_int h0 j0
    obtain⟨zi,p1,_,wi⟩:=DataW.trod_int h1 j1
    obtain⟨⟨⟨zt⟩⟩,p2,_,r2⟩:=DataW.trod_string h2 j2
    have a0:=hat 0 (by omega)
    have a1:=hat 1 (by omega)
    have a2:=hat 2 (by omega)
    have a3:=hat 3 (by omega)
    have a4:=hat 4 (by omega)
    simp at q0 q1 p0 p1 p2
    subst q0;subst q1;subst p0;subst p1;subst p2
    exact⟨⟨zn,zo,zk,zi,zt⟩,⟨a0,a1,a2,a3,a4⟩,r0,r2,wi⟩
  obtain⟨Z,hZ⟩:=choose_lt each
  refine ⟨(List.range len).map Z,by simp,hl,hm,?_,?_⟩
  ·by_cases h0:len=0
   ·exact .inl (by simp[h0])
   ·obtain⟨b,off,rfl,hb⟩:=plain_atQ (a:=a) (by simpa[Addr.add] using (hZ 0 (by omega)).1.1)
    refine .inr ⟨b,off,rfl,hb,fun i hi j v hv=>?_⟩
    have hi':i<len:=by simpa using hi
    have:=(hZ i hi').1
    rw[add_lit,add_lit,add_lit,add_lit,add_lit,add_lit] at this
    obtain⟨q0,q1,q2,q3,q4⟩:=this
    have hz:((List.range len).map Z)[i]=Z i:=by simp
    rw[hz] at hv
    have hj:j<5:=by have:=(List.getElem?_eq_some_iff.1 hv).1;simpa[layP,cellsP] using this
    show w.cell? ⟨b,off+i*5+j,none⟩=some v
    match j,hj with
    | 0,_=>rw[<-hv];exact q0
    | 1,_=>rw[<-hv];exact q1
    | 2,_=>rw[<-hv];exact q2
    | 3,_=>rw[<-hv];exact q3
    | 4,_=>rw[<-hv];exact q4
  ·intro z hz
   simp only[List.mem_map,List.mem_range] at hz
   obtain⟨i,hi,rfl⟩:=hz
   exact (hZ i hi).2
end
end
section
open Go.RowKit Go.ChangeShapes Go.WideShapes Go.Deep Ev
section
variable {H:Type} {enc:TypeId × Value->H} {P:Program} {w:World} {base:Nat} {spare:Nat->Bool} {held:Bool}
end
end
end Go.Proofs.YtnfigjggjmncdaaGreat
