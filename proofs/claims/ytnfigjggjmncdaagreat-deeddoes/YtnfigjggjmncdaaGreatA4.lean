/- Contracts. -/
import Derived.Lib.MinMax
import Derived.BigQuiet
import Derived.Lib.Hide
import Derived.Deep.LoopGhost
import Derived.Test.YtnfigjggjmncdaaGreatM1
import Derived.Test.YtnfigjggjmncdaaGreatA1
import Derived.Test.YtnfigjggjmncdaaGreatA2
set_option maxRecDepth 100000
set_option maxHeartbeats 4000000
namespace Go.Proofs.YtnfigjggjmncdaaGreat
section
open Go.RowKit Spans Op
abbrev spF (K lo hi:Int) (f t:LU) (o:Bool) (A:OA) (n c:Nat):Value:=.agg (sC K lo hi f.toArray t.toArray o A n c)
theorem ba_app (a b:LU):(⟨a.toArray⟩:ByteArray)++⟨b.toArray⟩=⟨(a++b).toArray⟩:=by apply ByteArray.ext;simp[ByteArray.data_append]
theorem ba_app0 (a:LU):(⟨a.toArray⟩:ByteArray)++⟨#[0]⟩=⟨(a++[0]).toArray⟩:=ba_app a [0]
def minT (a b:LU):LU:=if bytesLess b a=true then b else a
def maxT (a b:LU):LU:=if bytesLess a b=true then b else a
theorem leq_less (a b:LU):(bytesLess a b || a == b) = !bytesLess b a:=by
 rcases less_or a b with h|h|h
 ·rw[h,le_of_lt h];rfl
 ·subst h;rw[Vals.less_irr];simp
 ·rw[h,le_of_lt h]
  have:a≠b:=fun e=>by subst e;rw[Vals.less_irr] at h;simp at h
  simp[this]
theorem Grown.drewN {a b:World} (h:Grown a b) (n:Nat):Grown a (b.drewN n):=h.trans ⟨n,#[],by rw[Go.Sort.grow_empty]⟩
theorem run_minT {P:Program} (a b:LU) (W:World) (ts:Array TypeId) (ty:TypeId):(Builtin.min_ ts ty #[.string ⟨a.toArray⟩,.string ⟨b.toArray⟩]).run P W=.ok (.string ⟨(minT a b).toArray⟩) W:=by
 have e2:=leq_less a b
 cases hc:bytesLess b a<;>simp[Builtin.min_,Builtin.min2,Op.stringOp,asBool,minT,hc,e2]
theorem run_maxT {P:Program} (a b:LU) (W:World) (ts:Array TypeId) (ty:TypeId):(Builtin.max_ ts ty #[.string ⟨a.toArray⟩,.string ⟨b.toArray⟩]).run P W=.ok (.string ⟨(maxT a b).toArray⟩) W:=by
 cases hc:bytesLess a b<;>simp[Builtin.max_,Builtin.max2,Op.stringOp,asBool,maxT,hc]
theorem gr1 (w:World) (a:Obj):Grown w (w.alloc a):=(Grown.refl w).alloc a
theorem gr2 (w:World) (a b:Obj):Grown w ((w.alloc a).alloc b):=(gr1 w a).alloc b
theorem gr3 (w:World) (a b c:Obj):Grown w (((w.alloc a).alloc b).alloc c):=(gr2 w a b).alloc c
theorem all_at (w:World):Calls Tryz.prog 80 #[] w fun e w'=>e=.returned (spF 4 0 0 [] [] false none 0 0)/\Grown w w':=by
 go_enter Tryz.func80,Tryz.ntmps80
 go_wp2_with fail
 refine bodyPost_ret (v:=spF 4 0 0 [] [] false none 0 0) (by simp[results,Tryz.results80,go_sem]) rfl ?_
 exact⟨rfl,gr1 _ _⟩
theorem whole_at (K:Int) (w:World) (hK:K=1∨K=2∨K=3):Calls Tryz.prog 108 #[.int .i64 K] w fun e w'=>e=.returned (spF K (if K=1 then -9223372036854775808 else 0) (if K=1 then 9223372036854775807 else if K=3 then 1 else 0) [] [] (K == 2) none 0 0)/\Grown w w':=by
 go_enter Tryz.func108,Tryz.ntmps108
 rcases hK with rfl|rfl|rfl
 ·go_wp2_with fail
  refine bodyPost_ret (v:=spF 1 (-9223372036854775808) 9223372036854775807 [] [] false none 0 0) (by simp[results,Tryz.results108,go_sem]) rfl ?_
  exact⟨rfl,gr2 _ _ _⟩
 ·go_wp2_with fail
  refine bodyPost_ret (v:=spF 2 0 0 [] [] true none 0 0) (by simp[results,Tryz.results108,go_sem]) rfl ?_
  exact⟨rfl,gr2 _ _ _⟩
 ·go_wp2_with fail
  refine bodyPost_ret (v:=spF 3 0 1 [] [] false none 0 0) (by simp[results,Tryz.results108,go_sem]) rfl ?_
  exact⟨rfl,gr2 _ _ _⟩
theorem begin_num (K lo hi:Int) (f t:LU) (o:Bool) (A:OA) (n c:Nat) (k i:Int) (x:LU) (w:World) (hK:K≠2):Calls Tryz.prog 110 #[spF K lo hi f t o A n c,.agg (vC k i x.toArray)] w fun e w'=>e=.returned (spF K i hi f t o A n c)/\Grown w w':=by
 go_enter Tryz.func110,Tryz.ntmps110
 have h2:(K == 2)=false:=beq_eq_false_iff_ne.2 hK
 go_wp2_with fail
 refine bodyPost_ret (v:=spF K i hi f t o A n c) (by simp[results,Tryz.results110,go_sem]) rfl ?_
 exact⟨rfl,gr3 _ _ _ _⟩
theorem begin_text (lo hi:Int) (f t:LU) (o:Bool) (A:OA) (n c:Nat) (k i:Int) (x:LU) (w:World):Calls Tryz.prog 110 #[spF 2 lo hi f t o A n c,.agg (vC k i x.toArray)] w fun e w'=>e=.returned (spF 2 lo hi x t o A n c)/\Grown w w':=by
 go_enter Tryz.func110,Tryz.ntmps110
 go_wp2_with fail
 refine bodyPost_ret (v:=spF 2 lo hi x t o A n c) (by simp[results,Tryz.results110,go_sem]) rfl ?_
 exact⟨rfl,gr3 _ _ _ _⟩
theorem end_num (K lo hi:Int) (f t:LU) (o:Bool) (A:OA) (n c:Nat) (k i:Int) (x:LU) (w:World) (hK:K≠2):Calls Tryz.prog 109 #[spF K lo hi f t o A n c,.agg (vC k i x.toArray)] w fun e w'=>e=.returned (spF K lo i f t o A n c)/\Grown w w':=by
 go_enter Tryz.func109,Tryz.ntmps109
 have h2:(K == 2)=false:=beq_eq_false_iff_ne.2 hK
 go_wp2_with fail
 refine bodyPost_ret (v:=spF K lo i f t o A n c) (by simp[results,Tryz.results109,go_sem]) rfl ?_
 exact⟨rfl,gr3 _ _ _ _⟩
theorem end_text (lo hi:Int) (f t:LU) (o:Bool) (A:OA) (n c:Nat) (k i:Int) (x:LU) (w:World) (hx:x.length<=100000):Calls Tryz.prog 109 #[spF 2 lo hi f t o A n c,.agg (vC k i x.toArray)] w fun e w'=>e=.returned (spF 2 lo hi f (x++[0]) false A n c)/\Grown w w':=by
 go_enter Tryz.func109,Tryz.ntmps109
 go_wp2_with fail
 refine bodyPost_ret (v:=spF 2 lo hi f (x++[0]) false A n c) (by simp[results,Tryz.results109,go_sem,ba_app0]) rfl ?_
 exact⟨rfl,gr3 _ _ _ _⟩
theorem shutsOut_at (o:Int) (w:World) (b:Bool) (hb:(o == 2 || o == 3 || o == 5)=b):Calls Tryz.prog 112 #[.int .i64 o] w fun e w'=>e=.returned (.bool b)/\w'=w:=by
 go_enter Tryz.func112,Tryz.ntmps112
 go_wp2_with fail
 all_goals (go_ret;refine ⟨ret_b ?_,rfl⟩;simp_all)
theorem lesser_at (K lo hi:Int) (f t:LU) (o:Bool) (A:OA) (n c:Nat) (K' lo' hi':Int) (f' t':LU) (o':Bool) (A':OA) (n' c':Nat) (w:World):
  Calls Tryz.prog 106 #[spF K lo hi f t o A n c,spF K' lo' hi' f' t' o' A' n' c'] w fun e w'=>e=.returned (.tuple #[.string ⟨(if o then t' else if o' then t else minT t t').toArray⟩,.bool (o && o')])/\Grown w w':=by
 have hmin:=run_minT (P:=Tryz.prog) t t'
 go_enter Tryz.func106,Tryz.ntmps106
 cases o
 ·cases o'
  ·go_wp2_with fail
   go_ret2
   exact⟨rfl,gr2 _ _ _⟩
  ·go_wp2_with fail
   go_ret2
   exact⟨rfl,gr2 _ _ _⟩
 ·go_wp2_with fail
  go_quiet (fail)
  go_wp2_with fail
  go_ret2
  exact⟨rfl,(gr2 _ _ _).drewN _⟩
theorem takeS {es:List Val} {p:Nat} (h:p<es.length):es.take (p+1)=es.take p++[es[p]]:=List.take_succ_eq_append_getElem h
instance:DecidableEq Sp:=fun a b=>decidable_of_iff (a.kind=b.kind/\a.lo=b.lo/\a.hi=b.hi/\a.frm=b.frm/\a.to_=b.to_/\a.opn=b.opn/\a.no=b.no) (by cases a;cases b;simp)
theorem eqGuardQ:Tryz.prog.eqGuardType Tryz.prog.depth 54=false:=by kernel_rfl
theorem samePs_at (A:OA) (es:List Pr) (n cap:Nat) (hn:es.length=n) (hm:n<=100000) (A':OA) (fs:List Pr) (n' cap':Nat) (hn':fs.length=n') (hm':n'<=100000) (w:World) (hr:RdQ w A es) (hr':RdQ w A' fs) (b:Bool) (hb:decide (es=fs)=b):
  Calls Tryz.prog 29 #[.slice A n cap,.slice A' n' cap'] w fun e w'=>e=.returned (.bool b)/\Grown w w':=by
 subst hb
 have hG:=eqGuardQ
 have HN:=Jh hn
 have HN':=Jh hn'
 have HR:=Jh hr
 have HR':=Jh hr'
 clear hn hn' hr hr'
 by_cases hne:n=n'
 ·subst hne
  go_enter Tryz.func29,Tryz.ntmps29
  go_wp2_with fail
  go_loopg [5] n (fun gg s8 wr=>∃k:Nat,k<=n/\n-k<=gg/\s8=.int .i64 (k:Int)/\Hid (Grown w wr)/\Hid (es.take k=fs.take k))
  case atStart=>exact⟨0,Nat.zero_le _,by omega,rfl,Grown.refl w,by show _=_;simp⟩
  case round=>
   obtain⟨k,hk,hgg,rfl,HG,HA⟩:=hrel
   by_cases hlt:k<n
   ·have hk':k<es.length:=by rw[HN.o];exact hlt
    have hk2:k<fs.length:=by rw[HN'.o];exact hlt
    obtain⟨g,off,rfl,hg,c0,c1,c2,c3,c4⟩:=RdQ.at5 (HR.o.below HG.o.below) hk'
    obtain⟨g',off',rfl,hg',b0,b1,b2,b3,b4⟩:=RdQ.at5 (HR'.o.below HG.o.below) hk2
    obtain⟨x,hx⟩:∃x,es[k]=x:=⟨_,rfl⟩
    obtain⟨y,hy⟩:∃y,fs[k]=y:=⟨_,rfl⟩
    have HX:=Jh hx
    have HY:=Jh hy
    rw[hx] at c0 c1 c2 c3 c4
    rw[hy] at b0 b1 b2 b3 b4
    clear hx hy
    obtain⟨xn,xo,xk,xi,xt⟩:=x
    obtain⟨yn,yo,yk,yi,yt⟩:=y
    have w5:(k:Int)<(n:Int):=by omega
    go_wp2_with fail
    refine wp_region_held_drew (S:=fun w'=>w'=wr.drew) (by kernel_rfl) rfl (fun _=>?_)
    refine Jz 0 rfl ?_
    refine Jz 1 rfl ?_
    refine Jz 2 rfl ?_
    refine Jz 3 rfl ?_
    refine Jz 4 rfl ?_
    refine Jz 5 rfl ?_
    refine Jz 6 rfl ?_
    refine Jz 7 rfl ?_
    refine wpAnyH_yes (i:=8) (d:=25) (v:=.bool (!decide ((⟨xn,xo,xk,xi,xt⟩:Pr)=(⟨yn,yo,yk,yi,yt⟩:Pr)))) rfl rfl (by kernel_rfl) (by kernel_rfl) (by kernel_rfl) (fun _ _ _ h=>h) (by rfl) ?_ rfl ?_
    ·intro w' hSw;subst hSw;go_simp
     by_cases a0:xn=yn<;>by_cases a4:xo=yo<;>by_cases a1:xk=yk<;>by_cases a2:xi=yi<;>by_cases a3:xt=yt<;>simp[a0,a1,a2,a3,a4]
    simp only[Act.put,zu0,zu1,zu2]
    refine Jd ?_
    clear c0 c1 c2 c3 c4 b0 b1 b2 b3 b4 w5
    by_cases hxy:(⟨xn,xo,xk,xi,xt⟩:Pr)=(⟨yn,yo,yk,yi,yt⟩:Pr)
    ·have hd:(!decide ((⟨xn,xo,xk,xi,xt⟩:Pr)=(⟨yn,yo,yk,yi,yt⟩:Pr)))=false:=by rw[decide_eq_true hxy];rfl
     rw[hd]
     have HQ:Hid (es.take (k+1)=fs.take (k+1)):=by
      show _=_
      rw[List.take_succ_eq_append_getElem hk',List.take_succ_eq_append_getElem hk2,HX.o,HY.o,HA.o,hxy]
     clear hd hxy HX HY
     go_wp2_with fail
     go_roundg (n-(k+1))
     case measure=>omega
     case rel=>exact⟨k+1,by omega,Jn,by go_num,HG.o.drew,HQ⟩
    ·have hd:(!decide ((⟨xn,xo,xk,xi,xt⟩:Pr)=(⟨yn,yo,yk,yi,yt⟩:Pr)))=true:=by rw[decide_eq_false hxy];rfl
     rw[hd]
     have HQ:Hid (es≠fs):=by
      show _≠_
      intro e
      subst e
      exact hxy (HX.o.symm.trans HY.o)
     clear hd hxy HX HY
     go_wp2_with fail
     go_ret
     exact⟨ret_b (decide_eq_false HQ.o).symm,HG.o.drew⟩
   ·have hkn:Hid (k=n):=by show k=n;omega
    go_wp2_with fail
    go_ret
    refine ⟨ret_b (decide_eq_true ?_).symm,HG.o⟩
    have:=HA.o
    rwa [hkn.o,List.take_of_length_le (by rw[HN.o];exact Jn),List.take_of_length_le (by rw[HN'.o];exact Jn)] at this
 ·have v1:((n:Int) == (n':Int))=false:=beq_eq_false_iff_ne.2 (by omega)
  go_enter Tryz.func29,Tryz.ntmps29
  go_wp2_with fail
  go_ret
  exact⟨ret_b (decide_eq_false fun e=>hne (by rw[<-HN.o,<-HN'.o,e])).symm,Grown.refl _⟩
end
section
namespace Fil
open Spans Ev Op
def of (f:List Pr) (n:LU):List Pr:=f.filter fun p=>decide (p.n=n)
theorem mem_of {f:List Pr} {n:LU} {p:Pr}:p∈of f n↔p∈f/\p.n=n:=by unfold of;simp
def Asked (f:List Pr) (n:LU):Prop:=∃p∈f,p.n=n
instance (f:List Pr) (n:LU):Decidable (Asked f n):=inferInstanceAs (Decidable (∃p∈f,p.n=n))
theorem asked_app {f g:List Pr} {n:LU}:Asked (f++g) n↔Asked f n∨Asked g n:=by
 unfold Asked;simp only[List.mem_append]
 constructor
 ·rintro ⟨p,h | h,e⟩
  ·exact .inl ⟨p,h,e⟩
  ·exact .inr ⟨p,h,e⟩
 ·rintro (⟨p,h,e⟩ | ⟨p,h,e⟩)
  ·exact⟨p,.inl h,e⟩
  ·exact⟨p,.inr h,e⟩
def IsNames (f:List Pr) (L:List (LU)):Prop:=L.Pairwise (fun a b=>bytesLess a b=true)/\∀n,n∈L↔Asked f n
theorem IsNames.one {f:List Pr} {L M:List (LU)} (h:IsNames f L) (k:IsNames f M):L=M:=
 rise_ext (fun x y hx hy=>by rw[Vals.less_asym _ _ hx] at hy;cases hy) L M h.1 k.1 fun x=>(h.2 x).trans (k.2 x).symm
theorem IsNames.nodup {f:List Pr} {L:List (LU)} (h:IsNames f L):L.Nodup:=h.1.imp fun {a b} hab e=>by rw[e,Vals.less_irr] at hab;cases hab
theorem IsNames.nil:IsNames [] []:=⟨.nil,fun n=>by simp[Asked]⟩
def IsSpans (f:List Pr) (S:LU->Sp):Prop:=∀n,Asked f n->IsAll (of f n) (S n)
theorem IsSpans.one {f:List Pr} {S T:LU->Sp} (h:IsSpans f S) (k:IsSpans f T) {n:LU} (hn:Asked f n):S n=T n:=(h n hn).one (k n hn)
def AllRight (f:List Pr):Prop:=∀p∈f,rightP p=true
instance (f:List Pr):Decidable (AllRight f):=inferInstanceAs (Decidable (∀p∈f,_=_))
def Sound (f:List Pr):Prop:=f.length<=24/\AllRight f
instance (f:List Pr):Decidable (Sound f):=inferInstanceAs (Decidable (_/\_))
def Void (f:List Pr) (S:LU->Sp):Prop:=∃p∈f,(S p.n).kind=0
theorem Void.one {f:List Pr} {S T:LU->Sp} (h:IsSpans f S) (k:IsSpans f T) (v:Void f S):Void f T:=by
 obtain⟨p,hp,e⟩:=v
 exact⟨p,hp,by rw[<-h.one k ⟨p,hp,rfl⟩];exact e⟩
def outOf (L:List (LU)) (S:LU->Sp):List Pr:=L.flatMap fun n=>predsOf n (S n)
theorem outOf_one {f:List Pr} {L:List (LU)} {S T:LU->Sp} (hL:IsNames f L) (h:IsSpans f S) (k:IsSpans f T):outOf L S=outOf L T:=by
 unfold outOf
 rw[List.flatMap_def,List.flatMap_def]
 refine congrArg _ (List.map_congr_left fun n hn=>?_)
 rw[h.one k ((hL.2 n).1 hn)]
def NormG (f:List Pr) (out:List Pr) (e:Int):Prop:=
 ∃S L,IsSpans f S/\IsNames f L/\((Void f S/\out=[]/\e=9)∨(¬Void f S/\24<(outOf L S).length/\out=[]/\e=4)∨(¬Void f S/\(outOf L S).length<=24/\out=outOf L S/\e=0))
def NormIs (f:List Pr) (out:List Pr) (e:Int):Prop:=
 (24<f.length/\out=[]/\e=4)∨(f.length<=24/\¬AllRight f/\out=[]/\e=1)∨(Sound f/\NormG f out e)
theorem NormG.one {f out out':List Pr} {e e':Int} (h:NormG f out e) (k:NormG f out' e'):out=out'/\e=e':=by
 obtain⟨S,L,hS,hL,h⟩:=h
 obtain⟨T,M,hT,hM,k⟩:=k
 obtain rfl:=hL.one hM
 have ho:=outOf_one hL hS hT
 rcases h with ⟨v,rfl,rfl⟩|⟨v,l,rfl,rfl⟩|⟨v,l,rfl,rfl⟩<;>rcases k with ⟨v',rfl,rfl⟩|⟨v',l',rfl,rfl⟩|⟨v',l',rfl,rfl⟩
 ·exact⟨rfl,rfl⟩
 ·exact absurd (v.one hS hT) v'
 ·exact absurd (v.one hS hT) v'
 ·exact absurd (v'.one hT hS) v
 ·exact⟨rfl,rfl⟩
 ·rw[ho] at l;omega
 ·exact absurd (v'.one hT hS) v
 ·rw[ho] at l;omega
 ·exact⟨ho,rfl⟩
theorem NormIs.one {f out out':List Pr} {e e':Int} (h:NormIs f out e) (k:NormIs f out' e'):out=out'/\e=e':=by
 rcases h with ⟨a,rfl,rfl⟩|⟨a,b,rfl,rfl⟩|⟨a,b⟩<;>rcases k with ⟨a',rfl,rfl⟩|⟨a',b',rfl,rfl⟩|⟨a',b'⟩
 ·exact⟨rfl,rfl⟩
 ·omega
 ·have:=a'.1;omega
 ·omega
 ·exact⟨rfl,rfl⟩
 ·exact absurd a'.2 b
 ·have:=a.1;omega
 ·exact absurd a.2 b'
 ·exact b.one b'
theorem NormIs.err {f out:List Pr} {e:Int} (h:NormIs f out e):e=0∨e=1∨e=4∨e=9:=by
 rcases h with ⟨_,_,rfl⟩|⟨_,_,_,rfl⟩|⟨_,_,_,_,_,⟨_,_,rfl⟩|⟨_,_,_,rfl⟩|⟨_,_,_,rfl⟩⟩<;>simp
theorem NormIs.bad {f out:List Pr} {e:Int} (h:NormIs f out e) (he:e≠0):out=[]:=by
 rcases h with ⟨_,rfl,rfl⟩|⟨_,_,rfl,rfl⟩|⟨_,_,_,_,_,⟨_,rfl,rfl⟩|⟨_,_,rfl,rfl⟩|⟨_,_,rfl,rfl⟩⟩
 ·rfl
 ·rfl
 ·rfl
 ·rfl
 ·exact absurd rfl he
structure Good (f out:List Pr) (S:LU->Sp) (L:List (LU)):Prop where
 sound:Sound f
 spans:IsSpans f S
 names:IsNames f L
 full:¬Void f S
 len:out.length<=24
 is:out=outOf L S
theorem NormIs.good {f out:List Pr} (h:NormIs f out 0):∃S L,Good f out S L:=by
 rcases h with ⟨_,_,e⟩|⟨_,_,_,e⟩|⟨hs,S,L,hS,hL,⟨_,_,e⟩|⟨_,_,_,e⟩|⟨v,l,rfl,_⟩⟩
 ·cases e
 ·cases e
 ·cases e
 ·cases e
 ·exact⟨S,L,hs,hS,hL,v,l,rfl⟩
theorem NormIs.wrong {f out:List Pr} {e:Int} (h:NormIs f out e) (hn:f.length<=24) (hr:¬AllRight f):e=1:=by
 rcases h with ⟨a,_,_⟩|⟨_,_,_,rfl⟩|⟨hs,_⟩
 ·omega
 ·rfl
 ·exact absurd hs.2 hr
theorem name_len {f:List Pr} (h:AllRight f) {n:LU} (hn:Asked f n):1<=n.length/\n.length<=16:=by
 obtain⟨p,hp,rfl⟩:=hn
 obtain⟨h1,h2,_⟩:=Preds.right_parts ((rightP_iff p).1 (h p hp)).1
 exact⟨h1,h2⟩
theorem Good.pos {f out:List Pr} {S:LU->Sp} {L:List (LU)} (h:Good f out S L) {n:LU} (hn:Asked f n):(S n).kind≠0:=fun e=>by
 obtain⟨p,hp,rfl⟩:=hn
 exact h.full ⟨p,hp,e⟩
theorem Good.fine {f out:List Pr} {S:LU->Sp} {L:List (LU)} (h:Good f out S L) {n:LU} (hn:Asked f n):∀p∈predsOf n (S n),Spans.Fine n p:=
 preds_fine (h.spans n hn).1 (name_len h.sound.2 hn).1 (name_len h.sound.2 hn).2
theorem Good.mem {f out:List Pr} {S:LU->Sp} {L:List (LU)} (h:Good f out S L) {p:Pr}:p∈out↔Asked f p.n/\p∈predsOf p.n (S p.n):=by
 rw[h.is]
 unfold outOf
 rw[List.mem_flatMap]
 constructor
 ·rintro ⟨n,hn,hp⟩
  have ha:=(h.names.2 n).1 hn
  have:=(h.fine ha p hp).2
  subst this
  exact⟨ha,hp⟩
 ·rintro ⟨ha,hp⟩
  exact⟨p.n,(h.names.2 _).2 ha,hp⟩
theorem Good.asked {f out:List Pr} {S:LU->Sp} {L:List (LU)} (h:Good f out S L) (n:LU):Asked out n↔Asked f n:=by
 constructor
 ·rintro ⟨p,hp,rfl⟩
  exact (h.mem.1 hp).1
 ·intro hn
  obtain⟨p,hp⟩:=List.exists_mem_of_ne_nil _ (preds_ne (n:=n) (h.pos hn))
  have e:=(h.fine hn p hp).2
  subst e
  exact⟨p,h.mem.2 ⟨hn,hp⟩,rfl⟩
theorem of_flat {S:LU->Sp} {n:LU}:∀L:List (LU),L.Nodup->(∀m∈L,∀p∈predsOf m (S m),p.n=m)->of (outOf L S) n=if n∈L then predsOf n (S n) else []
 | [],_,_=>by simp[outOf,of]
 | m::L,hd,hf=>by
  have ih:=of_flat (n:=n) L (List.nodup_cons.1 hd).2 fun x hx=>hf x (List.mem_cons_of_mem _ hx)
  have e:of (outOf (m::L) S) n=of (predsOf m (S m)) n++of (outOf L S) n:=by simp[outOf,of]
  rw[e,ih]
  by_cases hm:n=m
  ·subst hm
   have:of (predsOf n (S n)) n=predsOf n (S n):=List.filter_eq_self.2 fun p hp=>by simp[hf n (by simp) p hp]
   rw[this,if_neg (List.nodup_cons.1 hd).1]
   simp
  ·have:of (predsOf m (S m)) n=[]:=List.filter_eq_nil_iff.2 fun p hp=>by simp[hf m (by simp) p hp];exact fun e=>hm e.symm
   rw[this]
   simp[hm]
theorem Good.of_ {f out:List Pr} {S:LU->Sp} {L:List (LU)} (h:Good f out S L) {n:LU} (hn:Asked f n):of out n=predsOf n (S n):=by
 rw[h.is,of_flat L h.names.nodup fun m hm p hp=>(h.fine ((h.names.2 m).1 hm) p hp).2,if_pos ((h.names.2 n).2 hn)]
theorem Good.again {f out:List Pr} {S:LU->Sp} {L:List (LU)} (h:Good f out S L):Good out out S L where
 sound:=⟨h.len,fun p hp=>(h.fine (h.mem.1 hp).1 p (h.mem.1 hp).2).1⟩
 spans:=fun n hn=>by
  have hf:=(h.asked n).1 hn
  rw[h.of_ hf]
  exact preds_all (h.spans n hf).1 (h.pos hf) (name_len h.sound.2 hf).1 (name_len h.sound.2 hf).2
 names:=⟨h.names.1,fun n=>(h.names.2 n).trans (h.asked n).symm⟩
 full:=fun ⟨p,hp,e⟩=>h.pos (h.mem.1 hp).1 e
 len:=h.len
 is:=h.is
theorem Good.norm {f out:List Pr} {S:LU->Sp} {L:List (LU)} (h:Good f out S L):NormIs f out 0:=
 .inr (.inr ⟨h.sound,S,L,h.spans,h.names,.inr (.inr ⟨h.full,by rw[<-h.is];exact h.len,h.is,rfl⟩)⟩)
def meets (f:List Pr) (e:List At):Bool:=f.all fun p=>meetsV e p.n p.o p.k p.i p.t
def EvR (e:List At):Prop:=Ev.Right e/\∀a∈e,-9223372036854775808<=a.i/\a.i<=9223372036854775807
theorem EvR.val {e:List At} (h:EvR e) {a:At} (ha:a∈e):rightV ⟨a.k,a.i,a.t⟩=true:=by
 rw[rightV_iff]
 have:=h.1.2.1 a ha
 unfold Ev.ok at this
 simp only[Bool.and_eq_true] at this
 exact⟨this.2,h.2 a ha⟩
theorem meets_pred {p:Pr} {e:List At}:meetsV e p.n p.o p.k p.i p.t=true↔∃a,find e p.n=some a/\holdsP p ⟨a.k,a.i,a.t⟩=true:=by
 unfold meetsV holdsP
 cases find e p.n<;>simp
theorem meets_iff {f:List Pr} {S:LU->Sp} {e:List At} (hS:IsSpans f S) (he:EvR e):meets f e=true↔∀n,Asked f n->∃a,find e n=some a/\has (S n) ⟨a.k,a.i,a.t⟩=true:=by
 unfold meets
 rw[List.all_eq_true]
 constructor
 ·rintro h n ⟨p,hp,rfl⟩
  obtain⟨a,ha,_⟩:=meets_pred.1 (h p hp)
  refine ⟨a,ha,((hS p.n ⟨p,hp,rfl⟩).2 _ (he.val (find_mem ha))).2 fun q hq=>?_⟩
  obtain⟨hq,hn⟩:=mem_of.1 hq
  obtain⟨a',ha',hh⟩:=meets_pred.1 (h q hq)
  rw[hn,ha] at ha'
  injection ha' with e1
  subst e1
  exact hh
 ·intro h p hp
  obtain⟨a,ha,hh⟩:=h p.n ⟨p,hp,rfl⟩
  exact meets_pred.2 ⟨a,ha,((hS p.n ⟨p,hp,rfl⟩).2 _ (he.val (find_mem ha))).1 hh p (mem_of.2 ⟨hp,rfl⟩)⟩
theorem Good.meets {f out:List Pr} {S:LU->Sp} {L:List (LU)} (h:Good f out S L) {e:List At} (he:EvR e):Fil.meets out e=Fil.meets f e:=by
 rw[Bool.eq_iff_iff,meets_iff h.again.spans he,meets_iff h.spans he]
 exact⟨fun k n hn=>k n ((h.asked n).2 hn),fun k n hn=>k n ((h.asked n).1 hn)⟩
theorem void_meets {f:List Pr} {S:LU->Sp} {e:List At} (hS:IsSpans f S) (he:EvR e) (v:Void f S):meets f e=false:=by
 cases hm:meets f e with
 | false=>rfl
 | true=>
  obtain⟨p,hp,e0⟩:=v
  obtain⟨a,_,hh⟩:=(meets_iff hS he).1 hm p.n ⟨p,hp,rfl⟩
  rw[kind_none (hS p.n ⟨p,hp,rfl⟩).1 e0,has_none] at hh
  cases hh
def Cov (f g:List Pr):Prop:=Sound f/\Sound g/\∃S T,IsSpans f S/\IsSpans g T/\(Void g T∨∀n,Asked f n->Asked g n/\inn (T n) (S n)=true)
theorem Cov.meets {f g:List Pr} (h:Cov f g) {e:List At} (he:EvR e) (hg:Fil.meets g e=true):Fil.meets f e=true:=by
 obtain⟨_,_,S,T,hS,hT,h⟩:=h
 rcases h with h|h
 ·rw[void_meets hT he h] at hg;cases hg
 ·refine (meets_iff hS he).2 fun n hn=>?_
  obtain⟨a,ha,hh⟩:=(meets_iff hT he).1 hg n (h n hn).1
  exact⟨a,ha,(in_iff (hT n (h n hn).1).1 (hS n hn).1).1 (h n hn).2 _ hh⟩
def Cross (f g:List Pr):Prop:=Sound f/\Sound g/\∃S L,IsSpans (f++g) S/\IsNames (f++g) L/\L.length<=24/\¬Void (f++g) S
theorem of_app (f g:List Pr) (n:LU):of (f++g) n=of f n++of g n:=by simp[of]
end Fil
end
section
open Go.RowKit Spans Op
theorem equalP_at (A:OA) (es:List Pr) (n cap:Nat) (hn:es.length=n) (hm:n<=100000) (A':OA) (fs:List Pr) (n' cap':Nat) (hn':fs.length=n') (hm':n'<=100000) (w:World) (hr:RdQ w A es) (hr':RdQ w A' fs) (b:Bool) (hb:decide (es=fs)=b):
  Calls Tryz.prog 60 #[.slice A n cap,.slice A' n' cap'] w fun e w'=>e=.returned (.bool b)/\Grown w w':=by
 subst hb
 have hG:=eqGuardQ
 have HN:=Jh hn
 have HN':=Jh hn'
 have HR:=Jh hr
 have HR':=Jh hr'
 clear hn hn' hr hr'
 by_cases hne:n=n'
 ·subst hne
  go_enter Tryz.func60,Tryz.ntmps60
  go_wp2_with fail
  go_loopg [13] n (fun gg s8 wr=>∃k:Nat,k<=n/\n-k<=gg/\s8=.int .i64 (k:Int)/\Hid (Grown w wr)/\Hid (es.take k=fs.take k))
  case atStart=>exact⟨0,Nat.zero_le _,by omega,rfl,Grown.refl w,by show _=_;simp⟩
  case round=>
   obtain⟨k,hk,hgg,rfl,HG,HA⟩:=hrel
   by_cases hlt:k<n
   ·have hk':k<es.length:=by rw[HN.o];exact hlt
    have hk2:k<fs.length:=by rw[HN'.o];exact hlt
    obtain⟨g,off,rfl,hg,c0,c1,c2,c3,c4⟩:=RdQ.at5 (HR.o.below HG.o.below) hk'
    obtain⟨g',off',rfl,hg',b0,b1,b2,b3,b4⟩:=RdQ.at5 (HR'.o.below HG.o.below) hk2
    obtain⟨x,hx⟩:∃x,es[k]=x:=⟨_,rfl⟩
    obtain⟨y,hy⟩:∃y,fs[k]=y:=⟨_,rfl⟩
    have HX:=Jh hx
    have HY:=Jh hy
    rw[hx] at c0 c1 c2 c3 c4
    rw[hy] at b0 b1 b2 b3 b4
    clear hx hy
    obtain⟨xn,xo,xk,xi,xt⟩:=x
    obtain⟨yn,yo,yk,yi,yt⟩:=y
    have w5:(k:Int)<(n:Int):=by omega
    go_wp2_with fail
    refine wp_region_held_drew (S:=fun w'=>w'=wr.drew) (by kernel_rfl) rfl (fun _=>?_)
    refine Jz 0 rfl ?_
    refine Jz 1 rfl ?_
    refine Jz 2 rfl ?_
    refine Jz 3 rfl ?_
    refine Jz 4 rfl ?_
    refine Jz 5 rfl ?_
    refine Jz 6 rfl ?_
    refine Jz 7 rfl ?_
    refine wpAnyH_yes (i:=8) (d:=24) (v:=.bool (!decide ((⟨xn,xo,xk,xi,xt⟩:Pr)=(⟨yn,yo,yk,yi,yt⟩:Pr)))) rfl rfl (by kernel_rfl) (by kernel_rfl) (by kernel_rfl) (fun _ _ _ h=>h) (by rfl) ?_ rfl ?_
    ·intro w' hSw;subst hSw;go_simp
     by_cases a0:xn=yn<;>by_cases a4:xo=yo<;>by_cases a1:xk=yk<;>by_cases a2:xi=yi<;>by_cases a3:xt=yt<;>simp[a0,a1,a2,a3,a4]
    simp only[Act.put,zu0,zu1,zu2]
    refine Jd ?_
    clear c0 c1 c2 c3 c4 b0 b1 b2 b3 b4 w5
    by_cases hxy:(⟨xn,xo,xk,xi,xt⟩:Pr)=(⟨yn,yo,yk,yi,yt⟩:Pr)
    ·have hd:(!decide ((⟨xn,xo,xk,xi,xt⟩:Pr)=(⟨yn,yo,yk,yi,yt⟩:Pr)))=false:=by rw[decide_eq_true hxy];rfl
     rw[hd]
     have HQ:Hid (es.take (k+1)=fs.take (k+1)):=by
      show _=_
      rw[List.take_succ_eq_append_getElem hk',List.take_succ_eq_append_getElem hk2,HX.o,HY.o,HA.o,hxy]
     clear hd hxy HX HY
     go_wp2_with fail
     go_roundg (n-(k+1))
     case measure=>omega
     case rel=>exact⟨k+1,by omega,Jn,by go_num,HG.o.drew,HQ⟩
    ·have hd:(!decide ((⟨xn,xo,xk,xi,xt⟩:Pr)=(⟨yn,yo,yk,yi,yt⟩:Pr)))=true:=by rw[decide_eq_false hxy];rfl
     rw[hd]
     have HQ:Hid (es≠fs):=by
      show _≠_
      intro e
      subst e
      exact hxy (HX.o.symm.trans HY.o)
     clear hd hxy HX HY
     go_wp2_with fail
     go_ret
     exact⟨ret_b (decide_eq_false HQ.o).symm,HG.o.drew⟩
   ·have hkn:Hid (k=n):=by show k=n;omega
    go_wp2_with fail
    go_ret
    refine ⟨ret_b (decide_eq_true ?_).symm,HG.o⟩
    have:=HA.o
    rwa [hkn.o,List.take_of_length_le (by rw[HN.o];exact Jn),List.take_of_length_le (by rw[HN'.o];exact Jn)] at this
 ·have v1:((n:Int) == (n':Int))=false:=beq_eq_false_iff_ne.2 (by omega)
  go_enter Tryz.func60,Tryz.ntmps60
  go_wp2_with fail
  go_ret
  exact⟨ret_b (decide_eq_false fun e=>hne (by rw[<-HN.o,<-HN'.o,e])).symm,Grown.refl _⟩
end
end Go.Proofs.YtnfigjggjmncdaaGreat
