/- Contracts. -/
import Derived.Test.YtnfigjggjmncdaaGreatD3
import Derived.Test.YtnfigjggjmncdaaGreatT1
import Derived.Test.YtnfigjggjmncdaaGreatT2
import Derived.Test.YtnfigjggjmncdaaGreatT3
import Derived.Test.YtnfigjggjmncdaaGreatX1
import Derived.Test.YtnfigjggjmncdaaGreatX8
set_option maxRecDepth 100000
set_option maxHeartbeats 4000000
namespace Go.Proofs.YtnfigjggjmncdaaGreat
section
open Go.RowKit Go.Sort Spans Tb
def anyFr (es:List Ex) (i:Int):Bool:=es.any fun x=>decide (x.fr=i)
end
section
open Go.RowKit Go.ChangeShapes Go.WideShapes Go.Deep Go.Sort Spans Tb
theorem rlink_at (s:Sx) (i:Int) (hn:s.ls.length=s.n) (hm:s.n<=100000) (w:World) (hr:RdLk w s.A s.ls) (r:Option Lk) (hq:findL s.ls i=r):
  Calls Tryz.prog 71 #[s.v,.int .i64 i] w fun e w'=>e=.returned (.tuple #[lkV (r.getD ⟨0,[]⟩),.bool r.isSome])/\Below w.heap.size w w':=by
 obtain⟨ep,A,n,c,ls,A1,n1,c1,av,A2,n2,c2,su⟩:=s
 dsimp only at *
 have HN:=Jh hn
 have HQ:=Jh hq
 have HR:=Jh hr
 have hB0:=(gr2 w (.cells (xC ep A n c A1 n1 c1 A2 n2 c2) 25) (.cells #[.int .i64 0,.string ⟨#[]⟩] 46)).below
 have hX0:=(Blk.new w 25 (xC ep A n c A1 n1 c1 A2 n2 c2)).alloc (.cells #[.int .i64 0,.string ⟨#[]⟩] 46)
 have hY0:=Blk.new (w.alloc (.cells (xC ep A n c A1 n1 c1 A2 n2 c2) 25)) 46 #[.int .i64 0,.string ⟨#[]⟩]
 rw[show (w.alloc (.cells (xC ep A n c A1 n1 c1 A2 n2 c2) 25)).heap.size=w.heap.size+1 by simp] at hY0
 have BX:=Jh hX0
 have BY:=Jh hY0
 have HB:=Jh hB0
 clear hn hq hr hB0 hX0 hY0
 go_enter Tryz.func71,Tryz.ntmps71
 go_wp2_with fail
 generalize (w.alloc (.cells (xC ep A n c A1 n1 c1 A2 n2 c2) 25)).alloc (.cells #[.int .i64 0,.string ⟨#[]⟩] 46)=w0 at *
 go_loopg [6] n (fun gg s6 wr=>∃k:Nat,k<=n/\n-k<=gg/\s6=.int .i64 (k:Int)/\w0=wr/\Hid (∀x∈ls.take k,x.id≠i))
 case atStart=>exact⟨0,Nat.zero_le _,by omega,rfl,rfl,by show ∀_,_;simp⟩
 case round=>
  obtain⟨k,hk,hgg,rfl,rfl,HA⟩:=hrel
  obtain⟨x0,x1,x2,x3,_⟩:=blk4 BX.o
  have hlx:=BX.o.lt
  obtain⟨y0,y1,q0,q1⟩:=blk2 BY.o
  have hly:=BY.o.lt
  by_cases hlt:k<n
  ·have hk':k<ls.length:=by rw[HN.o];exact hlt
   obtain⟨g,off,rfl,hg,c0,c1⟩:=RdLk.at2 (RdK.below HR.o HB.o) hk'
   obtain⟨x,hx⟩:∃x,ls[k]=x:=⟨_,rfl⟩
   have HX:=Jh hx
   rw[hx] at c0 c1
   clear hx
   obtain⟨xi,xa⟩:=x
   dsimp only at c0 c1
   have w5:(k:Int)<(n:Int):=by omega
   by_cases hxi:xi=i
   ·have hd:(xi == i)=true:=beq_iff_eq.2 hxi
    have HF:Hid (r=some ⟨xi,xa⟩):=by
     show _=_
     rw[<-HQ.o]
     have hsp:ls=ls.take k++⟨xi,xa⟩::ls.drop (k+1):=by
      have:=HX.o
      rw[<-this,List.getElem_cons_drop hk',List.take_append_drop]
     unfold findL
     rw[hsp,List.find?_append,List.find?_eq_none.2 (fun x hx=>by simpa using HA.o x hx)]
     simp[hxi]
    clear hxi
    go_wp2_with fail
    refine bodyPost_ret (v:=.tuple #[lkV ⟨xi,xa⟩,.bool true]) (by simp[results,Tryz.results71,go_sem,y0,y1]) rfl ?_
    exact⟨by rw[HF.o];rfl,below_put2 HB.o (Nat.le_succ w.heap.size) (.int .i64 xi) (.string ⟨xa.toArray⟩)⟩
   ·have hd:(xi == i)=false:=beq_eq_false_iff_ne.2 hxi
    have HA2:Hid (∀x∈ls.take (k+1),x.id≠i):=fun x hx=>by
     rw[List.take_succ_eq_append_getElem hk',HX.o] at hx
     rcases List.mem_append.1 hx with h|h
     ·exact HA.o x h
     ·simp at h;subst h;exact hxi
    clear hxi
    go_wp2_with fail
    go_roundg (n-(k+1))
    case measure=>omega
    case rel=>exact⟨k+1,by omega,Jn,by go_num,rfl,HA2⟩
  ·have hkn:Hid (k=n):=by show k=n;omega
   have HF:Hid (r=none):=by
    show _=_
    rw[<-HQ.o]
    exact List.find?_eq_none.2 fun x hx=>by
     have:=HA.o x (by rw[hkn.o,List.take_of_length_le (by rw[HN.o];exact Jn)];exact hx)
     simpa using this
   go_wp2_with fail
   refine bodyPost_ret (v:=.tuple #[lkV ⟨0,[]⟩,.bool false]) (by simp[results,Tryz.results71,go_sem,y0,y1]) rfl ?_
   exact⟨by rw[HF.o];rfl,below_put2 HB.o (Nat.le_succ w.heap.size) (.int .i64 0) (.string ⟨#[]⟩)⟩
theorem rfind_at (A:OA) (es:List Ex) (n c:Nat) (i:Int) (hn:es.length=n) (hm:n<=100000) (w:World) (hr:RdEn w A es) (q:Bool) (hq:q=true↔Dm.Has (es.map Ex.en) i):
  Calls Tryz.prog 72 #[.slice A n c,.int .i64 i] w fun e w'=>∃y:Ex,e=.returned (.tuple #[exV y,.bool q])/\Below w.heap.size w w':=by
 have HN:=Jh hn
 have HQ:=Jh hq
 have HR:=Jh hr
 have HB:=Jh (gr1 w (.cells (eC 0 0 none 0 0) 44)).below
 have BY:=Jh (Blk.new w 44 (eC 0 0 none 0 0))
 clear hn hq hr
 go_enter Tryz.func72,Tryz.ntmps72
 go_wp2_with fail
 generalize w.alloc (.cells (eC 0 0 none 0 0) 44)=w0 at *
 go_loopg [6] n (fun gg s6 wr=>∃k:Nat,k<=n/\n-k<=gg/\s6=.int .i64 (k:Int)/\w0=wr/\Hid (∀x∈es.take k,x.id≠i))
 case atStart=>exact⟨0,Nat.zero_le _,by omega,rfl,rfl,by show ∀_,_;simp⟩
 case round=>
  obtain⟨k,hk,hgg,rfl,rfl,HA⟩:=hrel
  obtain⟨y0,y1,y2,q0,q1,q2⟩:=blk3 BY.o
  have hly:=BY.o.lt
  by_cases hlt:k<n
  ·have hk':k<es.length:=by rw[HN.o];exact hlt
   obtain⟨g,off,rfl,hg,c0,c1,c2,_⟩:=RdEn.at3 (HR.o.below HB.o) hk'
   obtain⟨x,hx⟩:∃x,es[k]=x:=⟨_,rfl⟩
   have HX:=Jh hx
   rw[hx] at c0 c1 c2
   clear hx
   obtain⟨xi,xr,xA,xn,xc,xf⟩:=x
   dsimp only at c0 c1 c2
   have w5:(k:Int)<(n:Int):=by omega
   by_cases hxi:xi=i
   ·have hd:(xi == i)=true:=beq_iff_eq.2 hxi
    have HF:Hid (true=q):=(HQ.o.2 ⟨_,List.mem_map.2 ⟨_,List.getElem_mem hk',rfl⟩,by rw[HX.o];exact hxi⟩).symm
    clear hxi
    go_wp2_with fail
    refine bodyPost_ret (v:=.tuple #[exV ⟨xi,xr,xA,xn,xc,xf⟩,.bool true]) (by simp[results,Tryz.results72,go_sem,y0,y1,y2]) rfl ?_
    exact⟨⟨xi,xr,xA,xn,xc,xf⟩,by rw[HF.o],below_put3 HB.o (Nat.le_refl w.heap.size) _ _ _⟩
   ·have hd:(xi == i)=false:=beq_eq_false_iff_ne.2 hxi
    have HA2:Hid (∀x∈es.take (k+1),x.id≠i):=fun x hx=>by
     rw[List.take_succ_eq_append_getElem hk',HX.o] at hx
     rcases List.mem_append.1 hx with h|h
     ·exact HA.o x h
     ·simp at h;subst h;exact hxi
    clear hxi
    go_wp2_with fail
    go_roundg (n-(k+1))
    case measure=>omega
    case rel=>exact⟨k+1,by omega,Jn,by go_num,rfl,HA2⟩
  ·have hkn:Hid (k=n):=by show k=n;omega
   have HF:Hid (false=q):=by
    cases q with
    | false=>rfl
    | true=>
     obtain⟨y,hy,e⟩:=HQ.o.1 rfl
     obtain⟨x,hx,rfl⟩:=List.mem_map.1 hy
     exact absurd e (HA.o x (by rw[hkn.o,List.take_of_length_le (by rw[HN.o];exact Jn)];exact hx))
   go_wp2_with fail
   refine bodyPost_ret (v:=.tuple #[exV ⟨0,0,none,0,0,[]⟩,.bool false]) (by simp[results,Tryz.results72,go_sem,y0,y1,y2]) rfl ?_
   exact⟨⟨0,0,none,0,0,[]⟩,by rw[HF.o],below_put3 HB.o (Nat.le_refl w.heap.size) _ _ _⟩
end
section
namespace Dm
open Spans Tb
def lnkS (i:Int) (new:Lk) (st:List Lk × Bool) (x:Lk):List Lk × Bool:=
 if x.id=i then (if st.2=false/\i<=x.id then (st.1++[new],true) else st) else ((if st.2=false/\i<=x.id then (st.1++[new],true) else st).1++[x],(if st.2=false/\i<=x.id then (st.1++[new],true) else st).2)
def lnkT (ls:List Lk) (i:Int) (new:Lk) (k:Nat):List Lk × Bool:=(ls.take k).foldl (lnkS i new) ([],false)
def lnkE (st:List Lk × Bool) (new:Lk):List Lk:=if st.2=true then st.1 else st.1++[new]
theorem lnkT_succ {ls:List Lk} {i:Int} {new:Lk} {k:Nat} (h:k<ls.length):lnkT ls i new (k+1)=lnkS i new (lnkT ls i new k) ls[k]:=by
 unfold lnkT;rw[List.take_succ_eq_append_getElem h,List.foldl_append];rfl
theorem lnk_true {i:Int} {new:Lk}:∀(r:List Lk) (acc:List Lk),(∀x∈r,x.id≠i)->r.foldl (lnkS i new) (acc,true)=(acc++r,true)
 | [],acc,_=>by simp
 | x::r,acc,h=>by
  rw[List.foldl_cons]
  have:lnkS i new (acc,true) x=(acc++[x],true):=by unfold lnkS;rw[if_neg (h x (by simp))];simp
  rw[this,lnk_true r _ fun y hy=>h y (List.mem_cons_of_mem _ hy)]
  simp
theorem lnk_all {i:Int} {new:Lk}:∀(ls acc:List Lk),ls.Pairwise (fun a b=>a.id<b.id)->lnkE (ls.foldl (lnkS i new) (acc,false)) new=acc++(if Linked ls i then ls.set (place Lk.id ls i) new else ins ls (place Lk.id ls i) new)
 | [],acc,_=>by
  have:¬Linked [] i:=fun ⟨k,hk,_⟩=>by cases hk
  rw[if_neg this]
  simp[lnkE,ins,place]
 | x::r,acc,h=>by
  obtain⟨h1,h2⟩:=List.pairwise_cons.1 h
  rw[List.foldl_cons]
  by_cases hlt:x.id<i
  ·have e:lnkS i new (acc,false) x=(acc++[x],false):=by
    unfold lnkS;rw[if_neg (by omega),if_neg (by intro h;omega)]
   rw[e,lnk_all r _ h2,place_cons_lt hlt]
   have hL:Linked (x::r) i↔Linked r i:=by
    constructor
    ·rintro ⟨k,hk,e⟩
     rcases List.mem_cons.1 hk with rfl|hk
     ·omega
     ·exact⟨k,hk,e⟩
    ·rintro ⟨k,hk,e⟩;exact⟨k,List.mem_cons_of_mem _ hk,e⟩
   by_cases hl:Linked r i
   ·rw[if_pos hl,if_pos (hL.2 hl)];simp
   ·rw[if_neg hl,if_neg fun h=>hl (hL.1 h)];simp[ins]
  ·have hp:place Lk.id (x::r) i=0:=place_cons_ge (by omega) h1
   rw[hp]
   have hr:∀y∈r,y.id≠i:=fun y hy=>by have:=h1 y hy;omega
   by_cases he:x.id=i
   ·have e:lnkS i new (acc,false) x=(acc++[new],true):=by
     unfold lnkS;rw[if_pos he,if_pos ⟨rfl,by omega⟩]
    rw[e,lnk_true r _ hr,if_pos ⟨x,by simp,he⟩]
    simp[lnkE]
   ·have e:lnkS i new (acc,false) x=(acc++[new]++[x],true):=by
     unfold lnkS;rw[if_neg he,if_pos ⟨rfl,by omega⟩]
    have hn:¬Linked (x::r) i:=by
     rintro ⟨k,hk,e2⟩
     rcases List.mem_cons.1 hk with rfl|hk
     ·exact he e2
     ·exact hr k hk e2
    rw[e,lnk_true r _ hr,if_neg hn]
    simp[lnkE,ins]
theorem filter_none {A:Type} {g:A->Int} {i:Int} {l:List A} (h:¬ ∃x∈l,g x=i):l.filter (fun x=>decide (g x≠i))=l:=by
 rw[List.filter_eq_self]
 intro x hx
 simp only[decide_eq_true_eq]
 exact fun e=>h ⟨x,hx,e⟩
theorem filter_cut {A:Type} {g:A->Int} {i:Int}:∀{l:List A},l.Pairwise (fun a b=>g a<g b)->(∃x∈l,g x=i)->l.filter (fun x=>decide (g x≠i))=cut l (place g l i)
 | [],_,⟨x,hx,_⟩=>by cases hx
 | a::l,h,hx=>by
  obtain⟨h1,h2⟩:=List.pairwise_cons.1 h
  by_cases hlt:g a<i
  ·have hx2:∃x∈l,g x=i:=by
    obtain⟨x,hx,e⟩:=hx
    rcases List.mem_cons.1 hx with rfl|hx
    ·omega
    ·exact⟨x,hx,e⟩
   have hd:decide (g a≠i)=true:=decide_eq_true (by omega)
   rw[List.filter_cons,if_pos hd,filter_cut h2 hx2,place_cons_lt hlt]
   simp[cut]
  ·have hp:place g (a::l) i=0:=place_cons_ge (by omega) h1
   have hl:¬ ∃x∈l,g x=i:=fun ⟨x,hx,e⟩=>by have:=h1 x hx;omega
   have ha:g a=i:=by
    obtain⟨x,hx,e⟩:=hx
    rcases List.mem_cons.1 hx with rfl|hx
    ·exact e
    ·exact absurd ⟨x,hx,e⟩ hl
   have hd:¬decide (g a≠i)=true:=by simp[ha]
   rw[List.filter_cons,if_neg hd,hp,filter_none hl]
   simp[cut]
end Dm
end
section
open Go.RowKit Go.Sort Spans Tb
def pEx:List Pr:=[⟨[97],8,0,0,[]⟩]
def lEx:List Lk:=[⟨1,[120]⟩,⟨4,[]⟩]
abbrev sEx (b:Nat):Sx:=⟨3,some ⟨b+1,0,none⟩,2,2,lEx,none,0,0,[],some ⟨b+1+1,0,none⟩,1,1,[⟨7,4,some ⟨b,0,none⟩,1,1,pEx⟩]⟩
abbrev bEx (b:Nat):Sx:=⟨0,none,0,0,[],none,0,0,[],some ⟨b+1+1,0,none⟩,1,1,[⟨7,4,some ⟨b,0,none⟩,1,1,pEx⟩]⟩
abbrev zEx:Sx:=⟨0,none,0,0,[],none,0,0,[],none,0,0,[]⟩
end
end Go.Proofs.YtnfigjggjmncdaaGreat
