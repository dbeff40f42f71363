/- Contracts. -/
import Derived.Test.YtnfigjggjmncdaaGreatA1
import Derived.Test.YtnfigjggjmncdaaGreatT1
import Derived.Test.YtnfigjggjmncdaaGreatX1
set_option maxRecDepth 100000
set_option maxHeartbeats 4000000
namespace Go.Proofs.YtnfigjggjmncdaaGreat
section
open Go.RowKit Go.Sort Spans Tb Dm
theorem cmpI_neg (a b:Int):Vals.cmpI a b<0↔a<b:=by unfold Vals.cmpI;split<;>(try split)<;>omega
theorem cmpI_zero (a b:Int):Vals.cmpI a b=0↔a=b:=by unfold Vals.cmpI;split<;>(try split)<;>omega
theorem cmpL_at (x:Lk) (i:Int) (w:World):Calls Tryz.prog 154 #[.agg #[.int .i64 x.id,.string ⟨x.ad.toArray⟩],.int .i64 i] w fun e w'=>e=.returned (.int .i64 (Vals.cmpI x.id i))/\Below w.heap.size w w':=by
 obtain⟨xi,xa⟩:=x
 have hb:=(gr1 w (.cells #[.int .i64 xi,.string ⟨xa.toArray⟩] 46)).below
 obtain⟨c0,c1,_,_⟩:=blk2 (Blk.new w 46 #[.int .i64 xi,.string ⟨xa.toArray⟩])
 go_enter Tryz.func154,Tryz.ntmps154
 go_wp2_with fail
 refine (cmpInt_at xi i _).mono ?_
 rintro e w1 ⟨rfl,rfl⟩
 go_wp2_with fail
 go_ret
 exact⟨rfl,hb⟩
theorem bsearchL_at (A:OA) (es:List Lk) (n c:Nat) (i:Int) (hn:es.length=n) (hm:n<=100000) (hp:es.Pairwise fun a b=>a.id<b.id) (w:World) (hr:RdLk w A es) (p:Nat) (hpl:place (fun x:Lk=>x.id) es i=p) (q:Bool) (hq:decide (∃x∈es,x.id=i)=q):
  Calls Tryz.prog 153 #[.slice A n c,.int .i64 i,.func (.func 154) #[] #[]] w fun e w'=>e=.returned (.tuple #[.int .i64 (p:Int),.bool q])/\Below w.heap.size w w':=by
 have HN:=Jh hn
 have HP:=Jh hp
 have HR:=Jh hr
 have HPL:=Jh hpl
 have HQ:=Jh hq
 clear hn hp hr hpl hq
 go_enter Tryz.func153,Tryz.ntmps153
 go_wp2_with fail
 go_loopg [9,10] n (fun gg s9 s10 wr=>∃lo hi:Nat,s9=.int .i64 (lo:Int)/\s10=.int .i64 (hi:Int)/\lo<=hi/\hi<=n/\hi-lo<=gg/\Hid (Below w.heap.size w wr)/\Hid (∀t (ht:t<es.length),t<lo->es[t].id<i)/\Hid (∀t (ht:t<es.length),hi<=t->i<=es[t].id))
 case atStart=>exact⟨0,n,rfl,rfl,Nat.zero_le _,Jn,by omega,Below.refl _ _,fun t ht h=>absurd h (by omega),fun t ht h=>absurd h (by rw[HN.o] at ht;omega)⟩
 case round=>
  obtain⟨lo,hi,rfl,rfl,hlh,hin,hgg,HB,HLO,HHI⟩:=hrel
  by_cases hlt:lo<hi
  ·have hd:(lo:Int)<(hi:Int):=by omega
   obtain⟨h,hh⟩:∃h,(lo+hi) / 2=h:=⟨_,rfl⟩
   have hhd:((lo:Int)+(hi:Int)) / 2=(h:Int):=by omega
   have h1:lo<=h:=by omega
   have h2:h<hi:=by omega
   have hk':h<es.length:=by rw[HN.o];omega
   obtain⟨g,off,rfl,hg,c0,c1⟩:=RdLk.at2 (RdK.below HR.o HB.o) (k:=h) hk'
   obtain⟨x,hx⟩:∃x,es[h]=x:=⟨_,rfl⟩
   have HX:=Jh hx
   rw[hx] at c0 c1
   clear hx
   obtain⟨xi,xa⟩:=x
   have hi1:(h:Int)<(n:Int):=by omega
   have hi0:(0:Int)<=(h:Int):=by omega
   by_cases hc:xi<i
   ·have d1:decide (Vals.cmpI xi i<0)=true:=decide_eq_true ((cmpI_neg _ _).2 hc)
    have HLO2:Hid (∀t (ht:t<es.length),t<h+1->es[t].id<i):=fun t ht hl=>by
     rcases Nat.lt_or_ge t h with e|e
     ·have:=(List.pairwise_iff_getElem.1 HP.o) t h ht hk' e;rw[HX.o] at this;dsimp only at this;omega
     ·obtain rfl:t=h:=by omega
      rw[HX.o];exact hc
    clear hc
    go_wp2_with fail
    refine (cmpL_at ⟨xi,xa⟩ i wr).mono ?_
    rintro e w2 ⟨rfl,hb2⟩
    go_wp2_with fail
    have HB2:=Jh (below_next HB.o (Jn) hb2)
    go_roundg (hi-(h+1))
    case measure=>omega
    case rel=>exact⟨h+1,hi,by first | rfl | go_num,rfl,by omega,hin,Jn,HB2,HLO2,HHI⟩
   ·have d1:decide (Vals.cmpI xi i<0)=false:=decide_eq_false (fun h=>hc ((cmpI_neg _ _).1 h))
    have HHI2:Hid (∀t (ht:t<es.length),h<=t->i<=es[t].id):=fun t ht hl=>by
     rcases Nat.lt_or_ge h t with e|e
     ·have:=(List.pairwise_iff_getElem.1 HP.o) h t hk' ht e;rw[HX.o] at this;dsimp only at this;omega
     ·obtain rfl:t=h:=by omega
      rw[HX.o];dsimp only;omega
    clear hc
    go_wp2_with fail
    refine (cmpL_at ⟨xi,xa⟩ i wr).mono ?_
    rintro e w2 ⟨rfl,hb2⟩
    go_wp2_with fail
    have HB2:=Jh (below_next HB.o (Jn) hb2)
    go_roundg (h-lo)
    case measure=>omega
    case rel=>exact⟨lo,h,rfl,rfl,h1,by omega,Jn,HB2,HLO,HHI2⟩
  ·obtain rfl:lo=hi:=by omega
   have hd:¬(lo:Int)<(lo:Int):=by omega
   have HPE:Hid (p=lo):=by
    show _=_
    rw[<-HPL.o]
    exact place_eq (g:=fun x:Lk=>x.id) HP.o (by rw[HN.o];exact hin) HLO.o HHI.o
   obtain rfl:=HPE.o
   have HQE:Hid (q=true↔∃hk:p<es.length,es[p].id=i):=by
    show _↔_
    rw[<-HQ.o,decide_eq_true_iff,place_has (g:=fun x:Lk=>x.id) HP.o]
    simp only[HPL.o]
   by_cases hpn:p<n
   ·have hk':p<es.length:=by rw[HN.o];exact hpn
    have d2:decide ((p:Int)<(n:Int))=true:=decide_eq_true (by omega)
    have hi1:(p:Int)<(n:Int):=by omega
    obtain⟨g,off,rfl,hg,c0,c1⟩:=RdLk.at2 (RdK.below HR.o HB.o) (k:=p) hk'
    obtain⟨x,hx⟩:∃x,es[p]=x:=⟨_,rfl⟩
    have HX:=Jh hx
    rw[hx] at c0 c1
    clear hx
    obtain⟨xi,xa⟩:=x
    have HQ3:Hid ((Vals.cmpI xi i == 0)=q):=by
     show _=_
     rw[Bool.eq_iff_iff,beq_iff_eq,cmpI_zero,HQE.o]
     exact⟨fun h=>⟨hk',by rw[HX.o];exact h⟩,fun ⟨_,h⟩=>by rw[HX.o] at h;exact h⟩
    go_wp2_with fail
    refine (cmpL_at ⟨xi,xa⟩ i wr).mono ?_
    rintro e w2 ⟨rfl,hb2⟩
    go_wp2_with fail
    go_ret2
    exact⟨by rw[HQ3.o];rfl,below_next HB.o (Jn) hb2⟩
   ·have d2:decide ((p:Int)<(n:Int))=false:=decide_eq_false (by omega)
    have HQ3:Hid (q=false):=by
     cases hq:q with
     | false=>rfl
     | true=>obtain⟨h,_⟩:=HQE.o.1 hq;rw[HN.o] at h;exact absurd h hpn
    obtain rfl:=HQ3.o
    go_wp2_with fail
    go_ret2
    exact⟨rfl,HB.o⟩
theorem placeL_at (A:OA) (es:List Lk) (n c:Nat) (i:Int) (hn:es.length=n) (hm:n<=100000) (hp:es.Pairwise fun a b=>a.id<b.id) (w:World) (hr:RdLk w A es) (p:Nat) (hpl:place (fun x:Lk=>x.id) es i=p) (q:Bool) (hq:decide (∃x∈es,x.id=i)=q):
  Calls Tryz.prog 128 #[.slice A n c,.int .i64 i] w fun e w'=>e=.returned (.tuple #[.int .i64 (p:Int),.bool q])/\Below w.heap.size w w':=by
 have HC:=Jh (bsearchL_at A es n c i hn hm hp w hr p hpl q hq)
 clear hn hp hr hpl hq
 go_enter Tryz.func128,Tryz.ntmps128
 go_wp2_with fail
 refine HC.o.mono ?_
 rintro e w1 ⟨rfl,hb⟩
 go_wp2_with fail
 go_ret2
 exact⟨rfl,hb⟩
theorem cmpE_at (x:Ex) (i:Int) (w:World):Calls Tryz.prog 161 #[.agg (eC x.id x.fr x.A x.n x.c),.int .i64 i] w fun e w'=>e=.returned (.int .i64 (Vals.cmpI x.id i))/\Below w.heap.size w w':=by
 obtain⟨xi,xr,xA,xn,xc,xf⟩:=x
 have hb:=(gr1 w (.cells (eC xi xr xA xn xc) 44)).below
 obtain⟨c0,c1,c2,_,_,_⟩:=blk3 (Blk.new w 44 (eC xi xr xA xn xc))
 go_enter Tryz.func161,Tryz.ntmps161
 go_wp2_with fail
 refine (cmpInt_at xi i _).mono ?_
 rintro e w1 ⟨rfl,rfl⟩
 go_wp2_with fail
 go_ret
 exact⟨rfl,hb⟩
theorem bsearchE_at (A:OA) (es:List Ex) (n c:Nat) (i:Int) (hn:es.length=n) (hm:n<=100000) (hp:es.Pairwise fun a b=>a.id<b.id) (w:World) (hr:RdEn w A es) (p:Nat) (hpl:place (fun x:Ex=>x.id) es i=p) (q:Bool) (hq:decide (∃x∈es,x.id=i)=q):
  Calls Tryz.prog 160 #[.slice A n c,.int .i64 i,.func (.func 161) #[] #[]] w fun e w'=>e=.returned (.tuple #[.int .i64 (p:Int),.bool q])/\Below w.heap.size w w':=by
 have HN:=Jh hn
 have HP:=Jh hp
 have HR:=Jh hr
 have HPL:=Jh hpl
 have HQ:=Jh hq
 clear hn hp hr hpl hq
 go_enter Tryz.func160,Tryz.ntmps160
 go_wp2_with fail
 go_loopg [9,10] n (fun gg s9 s10 wr=>∃lo hi:Nat,s9=.int .i64 (lo:Int)/\s10=.int .i64 (hi:Int)/\lo<=hi/\hi<=n/\hi-lo<=gg/\Hid (Below w.heap.size w wr)/\Hid (∀t (ht:t<es.length),t<lo->es[t].id<i)/\Hid (∀t (ht:t<es.length),hi<=t->i<=es[t].id))
 case atStart=>exact⟨0,n,rfl,rfl,Nat.zero_le _,Jn,by omega,Below.refl _ _,fun t ht h=>absurd h (by omega),fun t ht h=>absurd h (by rw[HN.o] at ht;omega)⟩
 case round=>
  obtain⟨lo,hi,rfl,rfl,hlh,hin,hgg,HB,HLO,HHI⟩:=hrel
  by_cases hlt:lo<hi
  ·have hd:(lo:Int)<(hi:Int):=by omega
   obtain⟨h,hh⟩:∃h,(lo+hi) / 2=h:=⟨_,rfl⟩
   have hhd:((lo:Int)+(hi:Int)) / 2=(h:Int):=by omega
   have h1:lo<=h:=by omega
   have h2:h<hi:=by omega
   have hk':h<es.length:=by rw[HN.o];omega
   obtain⟨g,off,rfl,hg,c0,c1,c2,_⟩:=RdEn.at3 (HR.o.below HB.o) (k:=h) hk'
   obtain⟨x,hx⟩:∃x,es[h]=x:=⟨_,rfl⟩
   have HX:=Jh hx
   rw[hx] at c0 c1 c2
   clear hx
   obtain⟨xi,xr,xA,xn,xc,xf⟩:=x
   have hi1:(h:Int)<(n:Int):=by omega
   have hi0:(0:Int)<=(h:Int):=by omega
   by_cases hc:xi<i
   ·have d1:decide (Vals.cmpI xi i<0)=true:=decide_eq_true ((cmpI_neg _ _).2 hc)
    have HLO2:Hid (∀t (ht:t<es.length),t<h+1->es[t].id<i):=fun t ht hl=>by
     rcases Nat.lt_or_ge t h with e|e
     ·have:=(List.pairwise_iff_getElem.1 HP.o) t h ht hk' e;rw[HX.o] at this;dsimp only at this;omega
     ·obtain rfl:t=h:=by omega
      rw[HX.o];exact hc
    clear hc
    go_wp2_with fail
    refine (cmpE_at ⟨xi,xr,xA,xn,xc,xf⟩ i wr).mono ?_
    rintro e w2 ⟨rfl,hb2⟩
    go_wp2_with fail
    have HB2:=Jh (below_next HB.o (Jn) hb2)
    go_roundg (hi-(h+1))
    case measure=>omega
    case rel=>exact⟨h+1,hi,by first | rfl | go_num,rfl,by omega,hin,Jn,HB2,HLO2,HHI⟩
   ·have d1:decide (Vals.cmpI xi i<0)=false:=decide_eq_false (fun h=>hc ((cmpI_neg _ _).1 h))
    have HHI2:Hid (∀t (ht:t<es.length),h<=t->i<=es[t].id):=fun t ht hl=>by
     rcases Nat.lt_or_ge h t with e|e
     ·have:=(List.pairwise_iff_getElem.1 HP.o) h t hk' ht e;rw[HX.o] at this;dsimp only at this;omega
     ·obtain rfl:t=h:=by omega
      rw[HX.o];dsimp only;omega
    clear hc
    go_wp2_with fail
    refine (cmpE_at ⟨xi,xr,xA,xn,xc,xf⟩ i wr).mono ?_
    rintro e w2 ⟨rfl,hb2⟩
    go_wp2_with fail
    have HB2:=Jh (below_next HB.o (Jn) hb2)
    go_roundg (h-lo)
    case measure=>omega
    case rel=>exact⟨lo,h,rfl,rfl,h1,by omega,Jn,HB2,HLO,HHI2⟩
  ·obtain rfl:lo=hi:=by omega
   have hd:¬(lo:Int)<(lo:Int):=by omega
   have HPE:Hid (p=lo):=by
    show _=_
    rw[<-HPL.o]
    exact place_eq (g:=fun x:Ex=>x.id) HP.o (by rw[HN.o];exact hin) HLO.o HHI.o
   obtain rfl:=HPE.o
   have HQE:Hid (q=true↔∃hk:p<es.length,es[p].id=i):=by
    show _↔_
    rw[<-HQ.o,decide_eq_true_iff,place_has (g:=fun x:Ex=>x.id) HP.o]
    simp only[HPL.o]
   by_cases hpn:p<n
   ·have hk':p<es.length:=by rw[HN.o];exact hpn
    have d2:decide ((p:Int)<(n:Int))=true:=decide_eq_true (by omega)
    have hi1:(p:Int)<(n:Int):=by omega
    obtain⟨g,off,rfl,hg,c0,c1,c2,_⟩:=RdEn.at3 (HR.o.below HB.o) (k:=p) hk'
    obtain⟨x,hx⟩:∃x,es[p]=x:=⟨_,rfl⟩
    have HX:=Jh hx
    rw[hx] at c0 c1 c2
    clear hx
    obtain⟨xi,xr,xA,xn,xc,xf⟩:=x
    have HQ3:Hid ((Vals.cmpI xi i == 0)=q):=by
     show _=_
     rw[Bool.eq_iff_iff,beq_iff_eq,cmpI_zero,HQE.o]
     exact⟨fun h=>⟨hk',by rw[HX.o];exact h⟩,fun ⟨_,h⟩=>by rw[HX.o] at h;exact h⟩
    go_wp2_with fail
    refine (cmpE_at ⟨xi,xr,xA,xn,xc,xf⟩ i wr).mono ?_
    rintro e w2 ⟨rfl,hb2⟩
    go_wp2_with fail
    go_ret2
    exact⟨by rw[HQ3.o];rfl,below_next HB.o (Jn) hb2⟩
   ·have d2:decide ((p:Int)<(n:Int))=false:=decide_eq_false (by omega)
    have HQ3:Hid (q=false):=by
     cases hq:q with
     | false=>rfl
     | true=>obtain⟨h,_⟩:=HQE.o.1 hq;rw[HN.o] at h;exact absurd h hpn
    obtain rfl:=HQ3.o
    go_wp2_with fail
    go_ret2
    exact⟨rfl,HB.o⟩
theorem placeE_at (A:OA) (es:List Ex) (n c:Nat) (i:Int) (hn:es.length=n) (hm:n<=100000) (hp:es.Pairwise fun a b=>a.id<b.id) (w:World) (hr:RdEn w A es) (p:Nat) (hpl:place (fun x:Ex=>x.id) es i=p) (q:Bool) (hq:decide (∃x∈es,x.id=i)=q):
  Calls Tryz.prog 133 #[.slice A n c,.int .i64 i] w fun e w'=>e=.returned (.tuple #[.int .i64 (p:Int),.bool q])/\Below w.heap.size w w':=by
 have HC:=Jh (bsearchE_at A es n c i hn hm hp w hr p hpl q hq)
 clear hn hp hr hpl hq
 go_enter Tryz.func133,Tryz.ntmps133
 go_wp2_with fail
 refine HC.o.mono ?_
 rintro e w1 ⟨rfl,hb⟩
 go_wp2_with fail
 go_ret2
 exact⟨rfl,hb⟩
theorem isFrom_at (g:Nat) (i:Int) (w:World) (x:Ex) (hB:Blk w g 3 #[.int .i64 i]):Calls Tryz.prog 159 #[.agg (eC x.id x.fr x.A x.n x.c),.pointer (some ⟨g,0,none⟩)] w fun e w'=>e=.returned (.bool (x.fr == i))/\Below w.heap.size w w':=by
 obtain⟨xi,xr,xA,xn,xc,xf⟩:=x
 have hb:=(gr1 w (.cells (eC xi xr xA xn xc) 44)).below
 obtain⟨c0,c1,c2,_,_,_⟩:=blk3 (Blk.new w 44 (eC xi xr xA xn xc))
 have hB2:=hB.below hb hB.lt
 have d0:=hB2.cell 0
 simp only[List.getElem?_toArray,List.getElem?_cons_zero] at d0
 go_enter Tryz.func159,Tryz.ntmps159
 go_wp2_with fail
 go_ret
 exact⟨rfl,hb⟩
theorem indexE_at (g:Nat) (i:Int) (A:OA) (es:List Ex) (n c:Nat) (hn:es.length=n) (hm:n<=100000) (w:World) (hr:RdEn w A es) (hB:Blk w g 3 #[.int .i64 i]):
  Calls Tryz.prog 187 #[.slice A n c,.func (.func 159) #[] #[.pointer (some ⟨g,0,none⟩)]] w fun e w'=>∃r:Int,e=.returned (.int .i64 r)/\(0<=r↔∃x∈es,x.fr=i)/\Below w.heap.size w w':=by
 have HN:=Jh hn
 have HR:=Jh hr
 have HBB:=Jh hB
 clear hn hr hB
 go_enter Tryz.func187,Tryz.ntmps187
 go_wp2_with fail
 go_loopg [8] n (fun gg s8 wr=>∃k:Nat,k<=n/\n-k<=gg/\s8=.int .i64 (k:Int)/\Hid (Below w.heap.size w wr)/\Hid (∀x∈es.take k,x.fr≠i))
 case atStart=>exact⟨0,Nat.zero_le _,by omega,rfl,Below.refl _ _,by show ∀_,_;simp⟩
 case round=>
  obtain⟨k,hk,hgg,rfl,HB,HA⟩:=hrel
  by_cases hlt:k<n
  ·have hk':k<es.length:=by rw[HN.o];exact hlt
   obtain⟨ga,off,rfl,hg,c0,c1,c2,_⟩:=RdEn.at3 (HR.o.below HB.o) hk'
   obtain⟨x,hx⟩:∃x,es[k]=x:=⟨_,rfl⟩
   have HX:=Jh hx
   rw[hx] at c0 c1 c2
   clear hx
   obtain⟨xi,xr,xA,xn,xc,xf⟩:=x
   have w5:(k:Int)<(n:Int):=by omega
   by_cases hq:xr=i
   ·have hd:(xr == i)=true:=beq_iff_eq.2 hq
    have HF:Hid (∃x∈es,x.fr=i):=⟨_,List.getElem_mem hk',by rw[HX.o];exact hq⟩
    clear hq
    go_wp2_with fail
    refine (isFrom_at g i wr ⟨xi,xr,xA,xn,xc,xf⟩ (HBB.o.below HB.o HBB.o.lt)).mono ?_
    rintro e w' ⟨rfl,hb⟩
    go_wp2_with fail
    go_ret
    exact⟨_,rfl,⟨fun _=>HF.o,fun _=>by omega⟩,below_next HB.o (Jn) hb⟩
   ·have hd:(xr == i)=false:=beq_eq_false_iff_ne.2 hq
    have HA2:Hid (∀x∈es.take (k+1),x.fr≠i):=fun x hx=>by
     rw[List.take_succ_eq_append_getElem hk',HX.o] at hx
     rcases List.mem_append.1 hx with h|h
     ·exact HA.o x h
     ·simp at h;subst h;exact hq
    clear hq
    go_wp2_with fail
    refine (isFrom_at g i wr ⟨xi,xr,xA,xn,xc,xf⟩ (HBB.o.below HB.o HBB.o.lt)).mono ?_
    rintro e w' ⟨rfl,hb⟩
    go_wp2_with fail
    have HB2:=Jh (below_next HB.o (Jn) hb)
    go_roundg (n-(k+1))
    case measure=>omega
    case rel=>exact⟨k+1,by omega,Jn,by go_num,HB2,HA2⟩
  ·have hkn:Hid (k=n):=by show k=n;omega
   go_wp2_with fail
   go_ret
   refine ⟨_,rfl,⟨fun h=>absurd h (by decide),fun ⟨x,hx,h⟩=>absurd h (HA.o x ?_)⟩,HB.o⟩
   rw[hkn.o,List.take_of_length_le (by rw[HN.o];exact Jn)]
   exact hx
theorem anyFrom_at (A:OA) (es:List Ex) (n c:Nat) (i:Int) (hn:es.length=n) (hm:n<=100000) (w:World) (hr:RdEn w A es) (q:Bool) (hq:decide (From (es.map Ex.en) i)=q):
  Calls Tryz.prog 130 #[.slice A n c,.int .i64 i] w fun e w'=>e=.returned (.bool q)/\Below w.heap.size w w':=by
 have hq2:q=true↔∃x∈es,x.fr=i:=by
  rw[<-hq,decide_eq_true_iff]
  unfold From
  simp only[List.mem_map]
  constructor
  ·rintro ⟨e,⟨a,ha,rfl⟩,h⟩;exact⟨a,ha,h⟩
  ·rintro ⟨x,hx,h⟩;exact⟨x.en,⟨x,hx,rfl⟩,h⟩
 have hb0:=(gr1 w (.cells #[.int .i64 i] 3)).below
 have HB0:=Jh hb0
 have HC:=Jh (indexE_at w.heap.size i A es n c hn hm _ (hr.below hb0) (Blk.new w 3 #[.int .i64 i]))
 have HQ:=Jh hq2
 have hct:∀W,Hid (Below w.heap.size w W)->True:=fun _ _=>trivial
 clear hn hr hq hq2 hb0 hct
 have HCT:Hid (Calls Tryz.prog 158 #[.slice A n c,.func (.func 159) #[] #[.pointer (some ⟨w.heap.size,0,none⟩)]] (w.alloc (.cells #[.int .i64 i] 3)) fun e w'=>e=.returned (.bool q)/\Below (w.alloc (.cells #[.int .i64 i] 3)).heap.size (w.alloc (.cells #[.int .i64 i] 3)) w'):=by
  show Calls _ _ _ _ _
  generalize w.alloc (.cells #[.int .i64 i] 3)=w0 at *
  go_enter Tryz.func158,Tryz.ntmps158
  go_wp2_with fail
  refine HC.o.mono ?_
  rintro e w1 ⟨r,rfl,hr,hb⟩
  have hz:decide (0<=r)=q:=by rw[Bool.eq_iff_iff,decide_eq_true_iff,HQ.o];exact hr
  clear hr
  go_wp2_with fail
  go_ret
  exact⟨ret_b (by simp),hb⟩
 clear HC
 go_enter Tryz.func130,Tryz.ntmps130
 go_wp2_with fail
 refine HCT.o.mono ?_
 rintro e w1 ⟨rfl,hb⟩
 go_wp2_with fail
 go_ret
 exact⟨rfl,below_next HB0.o (Jn) hb⟩
end
end Go.Proofs.YtnfigjggjmncdaaGreat
