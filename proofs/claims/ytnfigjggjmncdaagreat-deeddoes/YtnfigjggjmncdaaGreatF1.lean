/- Contracts. -/
import Derived.Test.YtnfigjggjmncdaaGreatC3
import Derived.Test.YtnfigjggjmncdaaGreatE5
import Derived.Test.YtnfigjggjmncdaaGreatE9
set_option maxRecDepth 100000
set_option maxHeartbeats 4000000
namespace Go.Proofs.YtnfigjggjmncdaaGreat
section
open Go.RowKit Go.Sort Spans Op
theorem rprs_none (n:LU) (lo hi:Int) (f t:LU) (o:Bool) (A:OA) (m c:Nat) (w:World):
  Calls Tryz.prog 57 #[.string ⟨n.toArray⟩,.agg (sC 0 lo hi f.toArray t.toArray o A m c)] w (GivesQ w []):=by
 go_enter Tryz.func57,Tryz.ntmps57
 go_wp2_with fail
 go_ret
 exact⟨_,rfl,OwnK.none_ _ _,(gr1 _ _).below⟩
theorem rprs_name0 (n:LU) (K:Int) (lo hi:Int) (f t:LU) (o:Bool) (h0:K≠0) (h1:n.length<1) (A:OA) (m c:Nat) (w:World):
  Calls Tryz.prog 57 #[.string ⟨n.toArray⟩,.agg (sC K lo hi f.toArray t.toArray o A m c)] w (GivesQ w []):=by
 have v0:(K == 0)=false:=beq_eq_false_iff_ne.2 h0
 clear h0
 have d1:decide ((n.length:Int)<1)=true:=decide_eq_true (by omega)
 go_enter Tryz.func57,Tryz.ntmps57
 go_wp2_with fail
 go_ret
 exact⟨_,rfl,OwnK.none_ _ _,(gr1 _ _).below⟩
theorem rprs_name1 (n:LU) (K:Int) (lo hi:Int) (f t:LU) (o:Bool) (h0:K≠0) (h2:16<n.length) (A:OA) (m c:Nat) (w:World):
  Calls Tryz.prog 57 #[.string ⟨n.toArray⟩,.agg (sC K lo hi f.toArray t.toArray o A m c)] w (GivesQ w []):=by
 have v0:(K == 0)=false:=beq_eq_false_iff_ne.2 h0
 clear h0
 have d1:decide ((n.length:Int)<1)=false:=decide_eq_false (by omega)
 have d2:decide ((16:Int)<(n.length:Int))=true:=decide_eq_true (by omega)
 go_enter Tryz.func57,Tryz.ntmps57
 go_wp2_with fail
 go_ret
 exact⟨_,rfl,OwnK.none_ _ _,(gr1 _ _).below⟩
theorem rprs_any (n:LU) (lo hi:Int) (f t:LU) (o:Bool) (h1:1<=n.length) (h2:n.length<=16) (A:OA) (m c:Nat) (w:World):
  Calls Tryz.prog 57 #[.string ⟨n.toArray⟩,.agg (sC 4 lo hi f.toArray t.toArray o A m c)] w (GivesQ w [⟨n,8,0,0,[]⟩]):=by
 have d1:decide ((n.length:Int)<1)=false:=decide_eq_false (by omega)
 have d2:decide ((16:Int)<(n.length:Int))=false:=decide_eq_false (by omega)
 have d1':decide (n.length<1)=false:=decide_eq_false (by omega)
 have d2':decide (16<n.length)=false:=decide_eq_false (by omega)
 clear h1 h2
 go_enter Tryz.func57,Tryz.ntmps57
 go_wp2_with fail
 go_ret
 have h:=own_litK layP (w.alloc (.cells (sC 4 lo hi f.toArray t.toArray o A m c) 97)) w.heap.size (by simp) ⟨n,8,0,0,[]⟩ rfl
 rw[show (w.alloc (.cells (sC 4 lo hi f.toArray t.toArray o A m c) 97)).heap.size=w.heap.size+1 by simp] at h
 exact⟨_,rfl,h,(gr2 _ _ _).below⟩
theorem rprs_one1 (n:LU) (lo:Int) (h1:1<=n.length) (h2:n.length<=16) (A:OA) (m c:Nat) (w:World):
  Calls Tryz.prog 57 #[.string ⟨n.toArray⟩,.agg (sC 1 lo lo #[] #[] false A m c)] w (GivesQ w [⟨n,1,1,lo,[]⟩]):=by
 have d1:decide ((n.length:Int)<1)=false:=decide_eq_false (by omega)
 have d2:decide ((16:Int)<(n.length:Int))=false:=decide_eq_false (by omega)
 have d1':decide (n.length<1)=false:=decide_eq_false (by omega)
 have d2':decide (16<n.length)=false:=decide_eq_false (by omega)
 clear h1 h2
 go_enter Tryz.func57,Tryz.ntmps57
 go_wp2_with fail
 go_ret
 have h:=own_litK layP (w.alloc (.cells (sC 1 lo lo #[] #[] false A m c) 97)) w.heap.size (by simp) ⟨n,1,1,lo,[]⟩ rfl
 have hs:∀(W:World) (o:Obj),(W.alloc o).heap.size=W.heap.size+1:=fun W o=>by simp
 rw[hs] at h
 exact⟨_,rfl,h,(gr2 _ _ _).below⟩
theorem rprs_one3 (n:LU) (lo:Int) (h1:1<=n.length) (h2:n.length<=16) (A:OA) (m c:Nat) (w:World):
  Calls Tryz.prog 57 #[.string ⟨n.toArray⟩,.agg (sC 3 lo lo #[] #[] false A m c)] w (GivesQ w [⟨n,1,3,lo,[]⟩]):=by
 have d1:decide ((n.length:Int)<1)=false:=decide_eq_false (by omega)
 have d2:decide ((16:Int)<(n.length:Int))=false:=decide_eq_false (by omega)
 have d1':decide (n.length<1)=false:=decide_eq_false (by omega)
 have d2':decide (16<n.length)=false:=decide_eq_false (by omega)
 clear h1 h2
 go_enter Tryz.func57,Tryz.ntmps57
 go_wp2_with fail
 go_ret
 have h:=own_litK layP (w.alloc (.cells (sC 3 lo lo #[] #[] false A m c) 97)) w.heap.size (by simp) ⟨n,1,3,lo,[]⟩ rfl
 have hs:∀(W:World) (o:Obj),(W.alloc o).heap.size=W.heap.size+1:=fun W o=>by simp
 rw[hs] at h
 exact⟨_,rfl,h,(gr2 _ _ _).below⟩
theorem rprs_oneT (n:LU) (f:LU) (hf:f.length<=100) (h1:1<=n.length) (h2:n.length<=16) (A:OA) (m c:Nat) (w:World):
  Calls Tryz.prog 57 #[.string ⟨n.toArray⟩,.agg (sC 2 0 0 f.toArray ((f++[0]).toArray) false A m c)] w (GivesQ w [⟨n,1,2,0,f⟩]):=by
 have d1:decide ((n.length:Int)<1)=false:=decide_eq_false (by omega)
 have d2:decide ((16:Int)<(n.length:Int))=false:=decide_eq_false (by omega)
 have d1':decide (n.length<1)=false:=decide_eq_false (by omega)
 have d2':decide (16<n.length)=false:=decide_eq_false (by omega)
 have hap:=ba_app0 f
 have hno:¬9223372036854775807<f.length+1:=by omega
 clear h1 h2 hf
 go_enter Tryz.func57,Tryz.ntmps57
 go_wp2_with fail
 go_ret
 have h:=own_litK layP (w.alloc (.cells (sC 2 0 0 f.toArray ((f++[0]).toArray) false A m c) 97)) w.heap.size (by simp) ⟨n,1,2,0,f⟩ rfl
 have hs:∀(W:World) (o:Obj),(W.alloc o).heap.size=W.heap.size+1:=fun W o=>by simp
 rw[hs] at h
 exact⟨_,rfl,h,(gr2 _ _ _).below⟩
theorem rprs_m1 (n:LU) (lo hi:Int) (hne:lo≠hi) (A:OA) (m c:Nat) (es:List Val) (l:List Pr) (hl:l.length<=4) (hE:∀W,Calls Tryz.prog 88 #[.string ⟨n.toArray⟩,.agg (sC 1 lo hi #[] #[] false A m c)] W (GivesQ W l)) (h1:1<=n.length) (h2:n.length<=16) (hm:es.length=m) (hmm:m<=1000) (w:World) (hes:RdW w A es):
  Calls Tryz.prog 57 #[.string ⟨n.toArray⟩,.agg (sC 1 lo hi #[] #[] false A m c)] w (GivesQ w (orP (l++es.map fun v=>(⟨n,2,v.k,v.i,v.t⟩:Pr)) ⟨n,6,1,(-9223372036854775808),[]⟩)):=by
 have d1:decide ((n.length:Int)<1)=false:=decide_eq_false (by omega)
 have d2:decide ((16:Int)<(n.length:Int))=false:=decide_eq_false (by omega)
 have d1':decide (n.length<1)=false:=decide_eq_false (by omega)
 have d2':decide (16<n.length)=false:=decide_eq_false (by omega)
 have vn:(lo == hi)=false:=beq_eq_false_iff_ne.2 hne
 clear h1 h2 hne
 have HES:=Jh hes
 have HM:=Jh hm
 clear hes hm
 have hsz:(w.alloc (.cells (sC 1 lo hi #[] #[] false A m c) 97)).heap.size=w.heap.size+1:=by simp
 have X:=Jh (Blk.new w 97 (sC 1 lo hi #[] #[] false A m c))
 have BB:=Jh (gr1 w (.cells (sC 1 lo hi #[] #[] false A m c) 97)).below
 have O:Hid (OwnQ (w.alloc (.cells (sC 1 lo hi #[] #[] false A m c) 97)) (w.heap.size+1) (.slice none 0 0) []):=OwnK.none_ _ _
 go_enter Tryz.func57,Tryz.ntmps57
 obtain⟨a0,a1,a2,a3,a4,a5,a6,_⟩:=blk7 X.o
 have hlX:=X.o.lt
 go_wp2_with fail
 refine (hE _).mono ?_
 rintro e w1 ⟨v1,rfl,ho,hb⟩
 rw[hsz] at ho
 obtain⟨B1,d1x,hv1,hd1,_⟩:=OwnK.form ho (n:=l.length) rfl
 subst hv1
 clear a0 a1 a2 a3 a4 a5 a6 hlX
 replace BB:=Jh (below_next BB.o (Jn) hb)
 replace X:=Jh (Blk.below X.o hb X.o.lt)
 replace O:=Jh ho
 clear ho hb hsz
 go_wp2_with fail
 go_loopg [5,6] m (fun gg s5 s6 wr=>∃(q k d:Nat) (B2:OA) (out:List Pr),q<=m/\m-q<=gg/\s6=.int .i64 (q:Int)/\s5=.slice B2 k d/\k<=4+q/\k<=d/\Hid (out=l++(es.take q).map fun v=>(⟨n,2,v.k,v.i,v.t⟩:Pr))/\Hid (out.length=k)/\Hid (OwnQ wr (w.heap.size+1) (.slice B2 k d) out)/\Hid (Blk wr w.heap.size 97 (sC 1 lo hi #[] #[] false A m c))/\Hid (Below w.heap.size w wr))
 case atStart=>exact⟨0,l.length,d1x,B1,l,Nat.zero_le _,by omega,rfl,rfl,by omega,hd1,by show _=_;simp,rfl,O,X,BB⟩
 case round=>
  clear O X BB
  obtain⟨q,k,d,B2,out,hq,hgg,rfl,rfl,hk4,hkd,HOUT,HK,O,X,BB⟩:=hrel
  obtain⟨a0,a1,a2,a3,a4,a5,a6,_⟩:=blk7 X.o
  have hlX:=X.o.lt
  by_cases hlt:q<m
  ·have hq':q<es.length:=by rw[HM.o];exact hlt
   obtain⟨gs,off,hA,hg,c0,c1,c2⟩:=RdW.at3 (RdK.below HES.o BB.o) hq'
   obtain⟨x,hx⟩:∃x,es[q]=x:=⟨_,rfl⟩
   have HX:=Jh hx
   rw[hx] at c0 c1 c2
   clear hx
   obtain⟨xk,xi,xt⟩:=x
   dsimp only at c0 c1 c2
   subst hA
   have w5:(q:Int)<(m:Int):=by omega
   have hrx1:=rdk_one layP wr ⟨n,2,xk,xi,xt⟩ 54 (pC n.toArray 2 xk xi xt.toArray) rfl
   have hbx1:Below wr.heap.size wr (wr.alloc (.cells (pC n.toArray 2 xk xi xt.toArray) 54)):=(gr1 wr _).below
   have ho1:=OwnK.below O.o hbx1
   have hs1:w.heap.size+1<=(wr.alloc (.cells (pC n.toArray 2 xk xi xt.toArray) 54)).heap.size:=by have h1:=hbx1.size;have h2:=X.o.lt;omega
   have hbb1:Below (w.heap.size+1) wr (wr.alloc (.cells (pC n.toArray 2 xk xi xt.toArray) 54)):=hbx1.mono (by have h2:=X.o.lt;omega)
   go_wp2_with (first | (at_builtin;refine wpList_append_k layP (by rfl) (.tmp 77) (.tmp 85) 26 underQ rfl (w.heap.size+1) _ (out) (by rfl) ho1 _ [⟨n,2,xk,xi,xt⟩] 1 1 (by rfl) hrx1 rfl (by rw[maxLen_num];rw[HK.o];omega) (by simp only[layP];rw[HK.o];omega) hs1 ?_;intro v1 x1 o1 b1 g1 l1;have hB1:=b1 _ hbb1;have hX1:=Blk.below X.o hB1 (Nat.lt_succ_self _);obtain⟨a0,a1,a2,a3,a4,a5,a6,_⟩:=blk7 hX1;have hlX:=hX1.lt;clear hrx1 hs1 ho1 b1 g1 l1))
   have hl9:(out++[(⟨n,2,xk,xi,xt⟩:Pr)]).length=k+1:=by rw[List.length_append,HK.o];rfl
   have HOUT2:Hid (out++[(⟨n,2,xk,xi,xt⟩:Pr)]=l++(es.take (q+1)).map fun v=>(⟨n,2,v.k,v.i,v.t⟩:Pr)):=by
    show _=_
    rw[List.take_succ_eq_append_getElem hq',List.map_append,HOUT.o,HX.o,List.append_assoc]
    rfl
   obtain⟨B9,d9,hv9,hd9,_⟩:=OwnK.form o1 hl9
   subst hv9
   have O9:=Jh o1
   have X9:=Jh hX1
   have BB9:=Jh (BB.o.trans (hB1.mono (Nat.le_succ _)))
   have HL9:=Jh hl9
   clear o1 hX1 hB1 hl9
   go_wp2_with fail
   go_roundg (m-(q+1))
   case measure=>omega
   case rel=>exact⟨q+1,k+1,d9,B9,_,by omega,Jn,by go_num,rfl,by omega,hd9,HOUT2,HL9,O9,X9,BB9⟩
  ·have hqm:q=m:=by omega
   have HO2:Hid (out=l++es.map fun v=>(⟨n,2,v.k,v.i,v.t⟩:Pr)):=by
    show _=_
    rw[HOUT.o,hqm,List.take_of_length_le (by rw[HM.o];exact Jn)]
   clear HOUT hqm
   by_cases hk0:k=0
   ·subst hk0
    have HE0:Hid (out=[]):=List.eq_nil_of_length_eq_zero HK.o
    go_wp2_with fail
    go_ret
    refine ⟨_,rfl,?_,?_⟩
    ·rw[<-HO2.o,HE0.o]
     have h:=own_litK layP (wr.alloc (.cells (vC 1 (-9223372036854775808) #[]) 52)) w.heap.size (by have:=BB.o.size;simp;omega) ⟨n,6,1,(-9223372036854775808),[]⟩ rfl
     rw[show (wr.alloc (.cells (vC 1 (-9223372036854775808) #[]) 52)).heap.size=wr.heap.size+1 by simp] at h
     rw[show orP [] (⟨n,6,1,(-9223372036854775808),[]⟩:Pr)=[⟨n,6,1,(-9223372036854775808),[]⟩] from if_pos rfl]
     exact h
    ·exact below_next BB.o (Jn) (gr2 _ _ _).below
   ·have hk1:0<k:=by omega
    have hk2:(0:Int)<(k:Int):=by omega
    have HE0:Hid (out≠[]):=fun e=>by have:=HK.o;rw[e] at this;simp at this;omega
    go_wp2_with fail
    go_ret
    refine ⟨_,rfl,?_,BB.o⟩
    rw[<-HO2.o]
    unfold orP
    rw[if_neg HE0.o]
    exact O.o.less (Nat.le_succ _)
theorem rprs_m3 (n:LU) (lo hi:Int) (hne:lo≠hi) (A:OA) (m c:Nat) (es:List Val) (l:List Pr) (hl:l.length<=4) (hE:∀W,Calls Tryz.prog 88 #[.string ⟨n.toArray⟩,.agg (sC 3 lo hi #[] #[] false A m c)] W (GivesQ W l)) (h1:1<=n.length) (h2:n.length<=16) (hm:es.length=m) (hmm:m<=1000) (w:World) (hes:RdW w A es):
  Calls Tryz.prog 57 #[.string ⟨n.toArray⟩,.agg (sC 3 lo hi #[] #[] false A m c)] w (GivesQ w (orP (l++es.map fun v=>(⟨n,2,v.k,v.i,v.t⟩:Pr)) ⟨n,6,3,0,[]⟩)):=by
 have d1:decide ((n.length:Int)<1)=false:=decide_eq_false (by omega)
 have d2:decide ((16:Int)<(n.length:Int))=false:=decide_eq_false (by omega)
 have d1':decide (n.length<1)=false:=decide_eq_false (by omega)
 have d2':decide (16<n.length)=false:=decide_eq_false (by omega)
 have vn:(lo == hi)=false:=beq_eq_false_iff_ne.2 hne
 clear h1 h2 hne
 have HES:=Jh hes
 have HM:=Jh hm
 clear hes hm
 have hsz:(w.alloc (.cells (sC 3 lo hi #[] #[] false A m c) 97)).heap.size=w.heap.size+1:=by simp
 have X:=Jh (Blk.new w 97 (sC 3 lo hi #[] #[] false A m c))
 have BB:=Jh (gr1 w (.cells (sC 3 lo hi #[] #[] false A m c) 97)).below
 have O:Hid (OwnQ (w.alloc (.cells (sC 3 lo hi #[] #[] false A m c) 97)) (w.heap.size+1) (.slice none 0 0) []):=OwnK.none_ _ _
 go_enter Tryz.func57,Tryz.ntmps57
 obtain⟨a0,a1,a2,a3,a4,a5,a6,_⟩:=blk7 X.o
 have hlX:=X.o.lt
 go_wp2_with fail
 refine (hE _).mono ?_
 rintro e w1 ⟨v1,rfl,ho,hb⟩
 rw[hsz] at ho
 obtain⟨B1,d1x,hv1,hd1,_⟩:=OwnK.form ho (n:=l.length) rfl
 subst hv1
 clear a0 a1 a2 a3 a4 a5 a6 hlX
 replace BB:=Jh (below_next BB.o (Jn) hb)
 replace X:=Jh (Blk.below X.o hb X.o.lt)
 replace O:=Jh ho
 clear ho hb hsz
 go_wp2_with fail
 go_loopg [5,6] m (fun gg s5 s6 wr=>∃(q k d:Nat) (B2:OA) (out:List Pr),q<=m/\m-q<=gg/\s6=.int .i64 (q:Int)/\s5=.slice B2 k d/\k<=4+q/\k<=d/\Hid (out=l++(es.take q).map fun v=>(⟨n,2,v.k,v.i,v.t⟩:Pr))/\Hid (out.length=k)/\Hid (OwnQ wr (w.heap.size+1) (.slice B2 k d) out)/\Hid (Blk wr w.heap.size 97 (sC 3 lo hi #[] #[] false A m c))/\Hid (Below w.heap.size w wr))
 case atStart=>exact⟨0,l.length,d1x,B1,l,Nat.zero_le _,by omega,rfl,rfl,by omega,hd1,by show _=_;simp,rfl,O,X,BB⟩
 case round=>
  clear O X BB
  obtain⟨q,k,d,B2,out,hq,hgg,rfl,rfl,hk4,hkd,HOUT,HK,O,X,BB⟩:=hrel
  obtain⟨a0,a1,a2,a3,a4,a5,a6,_⟩:=blk7 X.o
  have hlX:=X.o.lt
  by_cases hlt:q<m
  ·have hq':q<es.length:=by rw[HM.o];exact hlt
   obtain⟨gs,off,hA,hg,c0,c1,c2⟩:=RdW.at3 (RdK.below HES.o BB.o) hq'
   obtain⟨x,hx⟩:∃x,es[q]=x:=⟨_,rfl⟩
   have HX:=Jh hx
   rw[hx] at c0 c1 c2
   clear hx
   obtain⟨xk,xi,xt⟩:=x
   dsimp only at c0 c1 c2
   subst hA
   have w5:(q:Int)<(m:Int):=by omega
   have hrx1:=rdk_one layP wr ⟨n,2,xk,xi,xt⟩ 54 (pC n.toArray 2 xk xi xt.toArray) rfl
   have hbx1:Below wr.heap.size wr (wr.alloc (.cells (pC n.toArray 2 xk xi xt.toArray) 54)):=(gr1 wr _).below
   have ho1:=OwnK.below O.o hbx1
   have hs1:w.heap.size+1<=(wr.alloc (.cells (pC n.toArray 2 xk xi xt.toArray) 54)).heap.size:=by have h1:=hbx1.size;have h2:=X.o.lt;omega
   have hbb1:Below (w.heap.size+1) wr (wr.alloc (.cells (pC n.toArray 2 xk xi xt.toArray) 54)):=hbx1.mono (by have h2:=X.o.lt;omega)
   go_wp2_with (first | (at_builtin;refine wpList_append_k layP (by rfl) (.tmp 77) (.tmp 85) 26 underQ rfl (w.heap.size+1) _ (out) (by rfl) ho1 _ [⟨n,2,xk,xi,xt⟩] 1 1 (by rfl) hrx1 rfl (by rw[maxLen_num];rw[HK.o];omega) (by simp only[layP];rw[HK.o];omega) hs1 ?_;intro v1 x1 o1 b1 g1 l1;have hB1:=b1 _ hbb1;have hX1:=Blk.below X.o hB1 (Nat.lt_succ_self _);obtain⟨a0,a1,a2,a3,a4,a5,a6,_⟩:=blk7 hX1;have hlX:=hX1.lt;clear hrx1 hs1 ho1 b1 g1 l1))
   have hl9:(out++[(⟨n,2,xk,xi,xt⟩:Pr)]).length=k+1:=by rw[List.length_append,HK.o];rfl
   have HOUT2:Hid (out++[(⟨n,2,xk,xi,xt⟩:Pr)]=l++(es.take (q+1)).map fun v=>(⟨n,2,v.k,v.i,v.t⟩:Pr)):=by
    show _=_
    rw[List.take_succ_eq_append_getElem hq',List.map_append,HOUT.o,HX.o,List.append_assoc]
    rfl
   obtain⟨B9,d9,hv9,hd9,_⟩:=OwnK.form o1 hl9
   subst hv9
   have O9:=Jh o1
   have X9:=Jh hX1
   have BB9:=Jh (BB.o.trans (hB1.mono (Nat.le_succ _)))
   have HL9:=Jh hl9
   clear o1 hX1 hB1 hl9
   go_wp2_with fail
   go_roundg (m-(q+1))
   case measure=>omega
   case rel=>exact⟨q+1,k+1,d9,B9,_,by omega,Jn,by go_num,rfl,by omega,hd9,HOUT2,HL9,O9,X9,BB9⟩
  ·have hqm:q=m:=by omega
   have HO2:Hid (out=l++es.map fun v=>(⟨n,2,v.k,v.i,v.t⟩:Pr)):=by
    show _=_
    rw[HOUT.o,hqm,List.take_of_length_le (by rw[HM.o];exact Jn)]
   clear HOUT hqm
   by_cases hk0:k=0
   ·subst hk0
    have HE0:Hid (out=[]):=List.eq_nil_of_length_eq_zero HK.o
    go_wp2_with fail
    go_ret
    refine ⟨_,rfl,?_,?_⟩
    ·rw[<-HO2.o,HE0.o]
     have h:=own_litK layP (wr.alloc (.cells (vC 3 0 #[]) 52)) w.heap.size (by have:=BB.o.size;simp;omega) ⟨n,6,3,0,[]⟩ rfl
     rw[show (wr.alloc (.cells (vC 3 0 #[]) 52)).heap.size=wr.heap.size+1 by simp] at h
     rw[show orP [] (⟨n,6,3,0,[]⟩:Pr)=[⟨n,6,3,0,[]⟩] from if_pos rfl]
     exact h
    ·exact below_next BB.o (Jn) (gr2 _ _ _).below
   ·have hk1:0<k:=by omega
    have hk2:(0:Int)<(k:Int):=by omega
    have HE0:Hid (out≠[]):=fun e=>by have:=HK.o;rw[e] at this;simp at this;omega
    go_wp2_with fail
    go_ret
    refine ⟨_,rfl,?_,BB.o⟩
    rw[<-HO2.o]
    unfold orP
    rw[if_neg HE0.o]
    exact O.o.less (Nat.le_succ _)
theorem rprs_mO (n:LU) (f t:LU) (A:OA) (m c:Nat) (es:List Val) (l:List Pr) (hl:l.length<=4) (hE:∀W,Calls Tryz.prog 88 #[.string ⟨n.toArray⟩,.agg (sC 2 0 0 f.toArray t.toArray true A m c)] W (GivesQ W l)) (h1:1<=n.length) (h2:n.length<=16) (hm:es.length=m) (hmm:m<=1000) (w:World) (hes:RdW w A es):
  Calls Tryz.prog 57 #[.string ⟨n.toArray⟩,.agg (sC 2 0 0 f.toArray t.toArray true A m c)] w (GivesQ w (orP (l++es.map fun v=>(⟨n,2,v.k,v.i,v.t⟩:Pr)) ⟨n,6,2,0,[]⟩)):=by
 have d1:decide ((n.length:Int)<1)=false:=decide_eq_false (by omega)
 have d2:decide ((16:Int)<(n.length:Int))=false:=decide_eq_false (by omega)
 have d1':decide (n.length<1)=false:=decide_eq_false (by omega)
 have d2':decide (16<n.length)=false:=decide_eq_false (by omega)
 clear h1 h2
 have HES:=Jh hes
 have HM:=Jh hm
 clear hes hm
 have hsz:(w.alloc (.cells (sC 2 0 0 f.toArray t.toArray true A m c) 97)).heap.size=w.heap.size+1:=by simp
 have X:=Jh (Blk.new w 97 (sC 2 0 0 f.toArray t.toArray true A m c))
 have BB:=Jh (gr1 w (.cells (sC 2 0 0 f.toArray t.toArray true A m c) 97)).below
 have O:Hid (OwnQ (w.alloc (.cells (sC 2 0 0 f.toArray t.toArray true A m c) 97)) (w.heap.size+1) (.slice none 0 0) []):=OwnK.none_ _ _
 go_enter Tryz.func57,Tryz.ntmps57
 obtain⟨a0,a1,a2,a3,a4,a5,a6,_⟩:=blk7 X.o
 have hlX:=X.o.lt
 go_wp2_with fail
 refine (hE _).mono ?_
 rintro e w1 ⟨v1,rfl,ho,hb⟩
 rw[hsz] at ho
 obtain⟨B1,d1x,hv1,hd1,_⟩:=OwnK.form ho (n:=l.length) rfl
 subst hv1
 clear a0 a1 a2 a3 a4 a5 a6 hlX
 replace BB:=Jh (below_next BB.o (Jn) hb)
 replace X:=Jh (Blk.below X.o hb X.o.lt)
 replace O:=Jh ho
 clear ho hb hsz
 go_wp2_with fail
 go_loopg [5,6] m (fun gg s5 s6 wr=>∃(q k d:Nat) (B2:OA) (out:List Pr),q<=m/\m-q<=gg/\s6=.int .i64 (q:Int)/\s5=.slice B2 k d/\k<=4+q/\k<=d/\Hid (out=l++(es.take q).map fun v=>(⟨n,2,v.k,v.i,v.t⟩:Pr))/\Hid (out.length=k)/\Hid (OwnQ wr (w.heap.size+1) (.slice B2 k d) out)/\Hid (Blk wr w.heap.size 97 (sC 2 0 0 f.toArray t.toArray true A m c))/\Hid (Below w.heap.size w wr))
 case atStart=>exact⟨0,l.length,d1x,B1,l,Nat.zero_le _,by omega,rfl,rfl,by omega,hd1,by show _=_;simp,rfl,O,X,BB⟩
 case round=>
  clear O X BB
  obtain⟨q,k,d,B2,out,hq,hgg,rfl,rfl,hk4,hkd,HOUT,HK,O,X,BB⟩:=hrel
  obtain⟨a0,a1,a2,a3,a4,a5,a6,_⟩:=blk7 X.o
  have hlX:=X.o.lt
  by_cases hlt:q<m
  ·have hq':q<es.length:=by rw[HM.o];exact hlt
   obtain⟨gs,off,hA,hg,c0,c1,c2⟩:=RdW.at3 (RdK.below HES.o BB.o) hq'
   obtain⟨x,hx⟩:∃x,es[q]=x:=⟨_,rfl⟩
   have HX:=Jh hx
   rw[hx] at c0 c1 c2
   clear hx
   obtain⟨xk,xi,xt⟩:=x
   dsimp only at c0 c1 c2
   subst hA
   have w5:(q:Int)<(m:Int):=by omega
   have hrx1:=rdk_one layP wr ⟨n,2,xk,xi,xt⟩ 54 (pC n.toArray 2 xk xi xt.toArray) rfl
   have hbx1:Below wr.heap.size wr (wr.alloc (.cells (pC n.toArray 2 xk xi xt.toArray) 54)):=(gr1 wr _).below
   have ho1:=OwnK.below O.o hbx1
   have hs1:w.heap.size+1<=(wr.alloc (.cells (pC n.toArray 2 xk xi xt.toArray) 54)).heap.size:=by have h1:=hbx1.size;have h2:=X.o.lt;omega
   have hbb1:Below (w.heap.size+1) wr (wr.alloc (.cells (pC n.toArray 2 xk xi xt.toArray) 54)):=hbx1.mono (by have h2:=X.o.lt;omega)
   go_wp2_with (first | (at_builtin;refine wpList_append_k layP (by rfl) (.tmp 77) (.tmp 85) 26 underQ rfl (w.heap.size+1) _ (out) (by rfl) ho1 _ [⟨n,2,xk,xi,xt⟩] 1 1 (by rfl) hrx1 rfl (by rw[maxLen_num];rw[HK.o];omega) (by simp only[layP];rw[HK.o];omega) hs1 ?_;intro v1 x1 o1 b1 g1 l1;have hB1:=b1 _ hbb1;have hX1:=Blk.below X.o hB1 (Nat.lt_succ_self _);obtain⟨a0,a1,a2,a3,a4,a5,a6,_⟩:=blk7 hX1;have hlX:=hX1.lt;clear hrx1 hs1 ho1 b1 g1 l1))
   have hl9:(out++[(⟨n,2,xk,xi,xt⟩:Pr)]).length=k+1:=by rw[List.length_append,HK.o];rfl
   have HOUT2:Hid (out++[(⟨n,2,xk,xi,xt⟩:Pr)]=l++(es.take (q+1)).map fun v=>(⟨n,2,v.k,v.i,v.t⟩:Pr)):=by
    show _=_
    rw[List.take_succ_eq_append_getElem hq',List.map_append,HOUT.o,HX.o,List.append_assoc]
    rfl
   obtain⟨B9,d9,hv9,hd9,_⟩:=OwnK.form o1 hl9
   subst hv9
   have O9:=Jh o1
   have X9:=Jh hX1
   have BB9:=Jh (BB.o.trans (hB1.mono (Nat.le_succ _)))
   have HL9:=Jh hl9
   clear o1 hX1 hB1 hl9
   go_wp2_with fail
   go_roundg (m-(q+1))
   case measure=>omega
   case rel=>exact⟨q+1,k+1,d9,B9,_,by omega,Jn,by go_num,rfl,by omega,hd9,HOUT2,HL9,O9,X9,BB9⟩
  ·have hqm:q=m:=by omega
   have HO2:Hid (out=l++es.map fun v=>(⟨n,2,v.k,v.i,v.t⟩:Pr)):=by
    show _=_
    rw[HOUT.o,hqm,List.take_of_length_le (by rw[HM.o];exact Jn)]
   clear HOUT hqm
   by_cases hk0:k=0
   ·subst hk0
    have HE0:Hid (out=[]):=List.eq_nil_of_length_eq_zero HK.o
    go_wp2_with fail
    go_ret
    refine ⟨_,rfl,?_,?_⟩
    ·rw[<-HO2.o,HE0.o]
     have h:=own_litK layP (wr.alloc (.cells (vC 2 0 #[]) 52)) w.heap.size (by have:=BB.o.size;simp;omega) ⟨n,6,2,0,[]⟩ rfl
     rw[show (wr.alloc (.cells (vC 2 0 #[]) 52)).heap.size=wr.heap.size+1 by simp] at h
     rw[show orP [] (⟨n,6,2,0,[]⟩:Pr)=[⟨n,6,2,0,[]⟩] from if_pos rfl]
     exact h
    ·exact below_next BB.o (Jn) (gr2 _ _ _).below
   ·have hk1:0<k:=by omega
    have hk2:(0:Int)<(k:Int):=by omega
    have HE0:Hid (out≠[]):=fun e=>by have:=HK.o;rw[e] at this;simp at this;omega
    go_wp2_with fail
    go_ret
    refine ⟨_,rfl,?_,BB.o⟩
    rw[<-HO2.o]
    unfold orP
    rw[if_neg HE0.o]
    exact O.o.less (Nat.le_succ _)
theorem rprs_mT (n:LU) (f t:LU) (hf:f.length<=100) (hne:t≠f++[0]) (A:OA) (m c:Nat) (es:List Val) (l:List Pr) (hl:l.length<=4) (hE:∀W,Calls Tryz.prog 88 #[.string ⟨n.toArray⟩,.agg (sC 2 0 0 f.toArray t.toArray false A m c)] W (GivesQ W l)) (h1:1<=n.length) (h2:n.length<=16) (hm:es.length=m) (hmm:m<=1000) (w:World) (hes:RdW w A es):
  Calls Tryz.prog 57 #[.string ⟨n.toArray⟩,.agg (sC 2 0 0 f.toArray t.toArray false A m c)] w (GivesQ w (orP (l++es.map fun v=>(⟨n,2,v.k,v.i,v.t⟩:Pr)) ⟨n,6,2,0,[]⟩)):=by
 have d1:decide ((n.length:Int)<1)=false:=decide_eq_false (by omega)
 have d2:decide ((16:Int)<(n.length:Int))=false:=decide_eq_false (by omega)
 have d1':decide (n.length<1)=false:=decide_eq_false (by omega)
 have d2':decide (16<n.length)=false:=decide_eq_false (by omega)
 have hap:=ba_app0 f
 have hno:¬9223372036854775807<f.length+1:=by omega
 have vn:(t == f++[0])=false:=by simpa using hne
 clear h1 h2 hne hf
 have HES:=Jh hes
 have HM:=Jh hm
 clear hes hm
 have hsz:(w.alloc (.cells (sC 2 0 0 f.toArray t.toArray false A m c) 97)).heap.size=w.heap.size+1:=by simp
 have X:=Jh (Blk.new w 97 (sC 2 0 0 f.toArray t.toArray false A m c))
 have BB:=Jh (gr1 w (.cells (sC 2 0 0 f.toArray t.toArray false A m c) 97)).below
 have O:Hid (OwnQ (w.alloc (.cells (sC 2 0 0 f.toArray t.toArray false A m c) 97)) (w.heap.size+1) (.slice none 0 0) []):=OwnK.none_ _ _
 go_enter Tryz.func57,Tryz.ntmps57
 obtain⟨a0,a1,a2,a3,a4,a5,a6,_⟩:=blk7 X.o
 have hlX:=X.o.lt
 go_wp2_with fail
 refine (hE _).mono ?_
 rintro e w1 ⟨v1,rfl,ho,hb⟩
 rw[hsz] at ho
 obtain⟨B1,d1x,hv1,hd1,_⟩:=OwnK.form ho (n:=l.length) rfl
 subst hv1
 clear a0 a1 a2 a3 a4 a5 a6 hlX
 replace BB:=Jh (below_next BB.o (Jn) hb)
 replace X:=Jh (Blk.below X.o hb X.o.lt)
 replace O:=Jh ho
 clear ho hb hsz
 go_wp2_with fail
 go_loopg [5,6] m (fun gg s5 s6 wr=>∃(q k d:Nat) (B2:OA) (out:List Pr),q<=m/\m-q<=gg/\s6=.int .i64 (q:Int)/\s5=.slice B2 k d/\k<=4+q/\k<=d/\Hid (out=l++(es.take q).map fun v=>(⟨n,2,v.k,v.i,v.t⟩:Pr))/\Hid (out.length=k)/\Hid (OwnQ wr (w.heap.size+1) (.slice B2 k d) out)/\Hid (Blk wr w.heap.size 97 (sC 2 0 0 f.toArray t.toArray false A m c))/\Hid (Below w.heap.size w wr))
 case atStart=>exact⟨0,l.length,d1x,B1,l,Nat.zero_le _,by omega,rfl,rfl,by omega,hd1,by show _=_;simp,rfl,O,X,BB⟩
 case round=>
  clear O X BB
  obtain⟨q,k,d,B2,out,hq,hgg,rfl,rfl,hk4,hkd,HOUT,HK,O,X,BB⟩:=hrel
  obtain⟨a0,a1,a2,a3,a4,a5,a6,_⟩:=blk7 X.o
  have hlX:=X.o.lt
  by_cases hlt:q<m
  ·have hq':q<es.length:=by rw[HM.o];exact hlt
   obtain⟨gs,off,hA,hg,c0,c1,c2⟩:=RdW.at3 (RdK.below HES.o BB.o) hq'
   obtain⟨x,hx⟩:∃x,es[q]=x:=⟨_,rfl⟩
   have HX:=Jh hx
   rw[hx] at c0 c1 c2
   clear hx
   obtain⟨xk,xi,xt⟩:=x
   dsimp only at c0 c1 c2
   subst hA
   have w5:(q:Int)<(m:Int):=by omega
   have hrx1:=rdk_one layP wr ⟨n,2,xk,xi,xt⟩ 54 (pC n.toArray 2 xk xi xt.toArray) rfl
   have hbx1:Below wr.heap.size wr (wr.alloc (.cells (pC n.toArray 2 xk xi xt.toArray) 54)):=(gr1 wr _).below
   have ho1:=OwnK.below O.o hbx1
   have hs1:w.heap.size+1<=(wr.alloc (.cells (pC n.toArray 2 xk xi xt.toArray) 54)).heap.size:=by have h1:=hbx1.size;have h2:=X.o.lt;omega
   have hbb1:Below (w.heap.size+1) wr (wr.alloc (.cells (pC n.toArray 2 xk xi xt.toArray) 54)):=hbx1.mono (by have h2:=X.o.lt;omega)
   go_wp2_with (first | (at_builtin;refine wpList_append_k layP (by rfl) (.tmp 77) (.tmp 85) 26 underQ rfl (w.heap.size+1) _ (out) (by rfl) ho1 _ [⟨n,2,xk,xi,xt⟩] 1 1 (by rfl) hrx1 rfl (by rw[maxLen_num];rw[HK.o];omega) (by simp only[layP];rw[HK.o];omega) hs1 ?_;intro v1 x1 o1 b1 g1 l1;have hB1:=b1 _ hbb1;have hX1:=Blk.below X.o hB1 (Nat.lt_succ_self _);obtain⟨a0,a1,a2,a3,a4,a5,a6,_⟩:=blk7 hX1;have hlX:=hX1.lt;clear hrx1 hs1 ho1 b1 g1 l1))
   have hl9:(out++[(⟨n,2,xk,xi,xt⟩:Pr)]).length=k+1:=by rw[List.length_append,HK.o];rfl
   have HOUT2:Hid (out++[(⟨n,2,xk,xi,xt⟩:Pr)]=l++(es.take (q+1)).map fun v=>(⟨n,2,v.k,v.i,v.t⟩:Pr)):=by
    show _=_
    rw[List.take_succ_eq_append_getElem hq',List.map_append,HOUT.o,HX.o,List.append_assoc]
    rfl
   obtain⟨B9,d9,hv9,hd9,_⟩:=OwnK.form o1 hl9
   subst hv9
   have O9:=Jh o1
   have X9:=Jh hX1
   have BB9:=Jh (BB.o.trans (hB1.mono (Nat.le_succ _)))
   have HL9:=Jh hl9
   clear o1 hX1 hB1 hl9
   go_wp2_with fail
   go_roundg (m-(q+1))
   case measure=>omega
   case rel=>exact⟨q+1,k+1,d9,B9,_,by omega,Jn,by go_num,rfl,by omega,hd9,HOUT2,HL9,O9,X9,BB9⟩
  ·have hqm:q=m:=by omega
   have HO2:Hid (out=l++es.map fun v=>(⟨n,2,v.k,v.i,v.t⟩:Pr)):=by
    show _=_
    rw[HOUT.o,hqm,List.take_of_length_le (by rw[HM.o];exact Jn)]
   clear HOUT hqm
   by_cases hk0:k=0
   ·subst hk0
    have HE0:Hid (out=[]):=List.eq_nil_of_length_eq_zero HK.o
    go_wp2_with fail
    go_ret
    refine ⟨_,rfl,?_,?_⟩
    ·rw[<-HO2.o,HE0.o]
     have h:=own_litK layP (wr.alloc (.cells (vC 2 0 #[]) 52)) w.heap.size (by have:=BB.o.size;simp;omega) ⟨n,6,2,0,[]⟩ rfl
     rw[show (wr.alloc (.cells (vC 2 0 #[]) 52)).heap.size=wr.heap.size+1 by simp] at h
     rw[show orP [] (⟨n,6,2,0,[]⟩:Pr)=[⟨n,6,2,0,[]⟩] from if_pos rfl]
     exact h
    ·exact below_next BB.o (Jn) (gr2 _ _ _).below
   ·have hk1:0<k:=by omega
    have hk2:(0:Int)<(k:Int):=by omega
    have HE0:Hid (out≠[]):=fun e=>by have:=HK.o;rw[e] at this;simp at this;omega
    go_wp2_with fail
    go_ret
    refine ⟨_,rfl,?_,BB.o⟩
    rw[<-HO2.o]
    unfold orP
    rw[if_neg HE0.o]
    exact O.o.less (Nat.le_succ _)
theorem rprs_at (n:LU) (a:Sp) (ha:Canon a) (A:OA) (m c:Nat) (hm:a.no.length=m) (hmm:m<=1000) (w:World) (hr:RdW w A a.no):
  Calls Tryz.prog 57 #[.string ⟨n.toArray⟩,spF a.kind a.lo a.hi a.frm a.to_ a.opn A m c] w (GivesQ w (prs n a)):=by
 by_cases h0:a.kind=0
 ·have e:prs n a=[]:=by unfold prs predsOf;rw[if_pos h0];simp
  have e':a=none_:=kind_none ha h0
  rw[e];subst e'
  exact rprs_none n 0 0 [] [] false A m c w
 by_cases hn1:n.length<1
 ·have e:prs n a=[]:=by unfold prs;rw[if_neg (by omega)]
  rw[e]
  exact rprs_name0 n a.kind a.lo a.hi a.frm a.to_ a.opn h0 hn1 A m c w
 by_cases hn2:16<n.length
 ·have e:prs n a=[]:=by unfold prs;rw[if_neg (by omega)]
  rw[e]
  exact rprs_name1 n a.kind a.lo a.hi a.frm a.to_ a.opn h0 hn2 A m c w
 have h1:1<=n.length:=by omega
 have h2:n.length<=16:=by omega
 have e0:prs n a=predsOf n a:=by unfold prs;rw[if_pos ⟨h1,h2⟩]
 rw[e0]
 rcases ha with rfl|rfl|ha|ha
 ·exact absurd rfl h0
 ·exact rprs_any n 0 0 [] [] false h1 h2 A m c w
 ·obtain⟨K,lo,hi,f,t,o,no⟩:=a
  obtain rfl:f=[]:=ha.frm
  obtain rfl:t=[]:=ha.to_
  obtain rfl:o=false:=ha.opn
  have hkk:K=1∨K=3:=ha.kind
  dsimp only at hr hm
  by_cases hlh:lo=hi
  ·subst hlh
   rcases hkk with rfl|rfl
   ·rw[show predsOf n ⟨1,lo,lo,[],[],false,no⟩=[⟨n,1,1,lo,[]⟩] by unfold predsOf;simp]
    exact rprs_one1 n lo h1 h2 A m c w
   ·rw[show predsOf n ⟨3,lo,lo,[],[],false,no⟩=[⟨n,1,3,lo,[]⟩] by unfold predsOf;simp]
    exact rprs_one3 n lo h1 h2 A m c w
  ·rcases hkk with rfl | rfl
   ·have e1:predsOf n ⟨1,lo,hi,[],[],false,no⟩=orP (loP n ⟨1,lo,hi,[],[],false,no⟩++hiP n ⟨1,lo,hi,[],[],false,no⟩++no.map fun v=>(⟨n,2,v.k,v.i,v.t⟩:Pr)) ⟨n,6,1,-9223372036854775808,[]⟩:=by unfold predsOf noP lowest;simp[hlh]
    rw[e1]
    by_cases ga:(-9223372036854775808)<lo
    ·have ea:loP n ⟨1,lo,hi,[],[],false,no⟩=[⟨n,6,1,lo,[]⟩]:=by unfold loP;rw[if_pos ⟨rfl,ga⟩]
     by_cases gb:hi<9223372036854775807
     ·have eb:hiP n ⟨1,lo,hi,[],[],false,no⟩=[⟨n,4,1,hi,[]⟩]:=by unfold hiP;rw[if_pos ⟨rfl,gb⟩]
      rw[ea,eb]
      exact rprs_m1 n lo hi hlh A m c no _ (by simp) (fun W=>rends_N11 n lo hi ga gb A m c W) h1 h2 hm hmm w hr
     ·have eb:hiP n ⟨1,lo,hi,[],[],false,no⟩=[]:=by unfold hiP;rw[if_neg (fun h=>gb h.2)]
      rw[ea,eb]
      exact rprs_m1 n lo hi hlh A m c no _ (by simp) (fun W=>rends_N10 n lo hi ga gb A m c W) h1 h2 hm hmm w hr
    ·have ea:loP n ⟨1,lo,hi,[],[],false,no⟩=[]:=by unfold loP;rw[if_neg (fun h=>ga h.2)]
     by_cases gb:hi<9223372036854775807
     ·have eb:hiP n ⟨1,lo,hi,[],[],false,no⟩=[⟨n,4,1,hi,[]⟩]:=by unfold hiP;rw[if_pos ⟨rfl,gb⟩]
      rw[ea,eb]
      exact rprs_m1 n lo hi hlh A m c no _ (by simp) (fun W=>rends_N01 n lo hi ga gb A m c W) h1 h2 hm hmm w hr
     ·have eb:hiP n ⟨1,lo,hi,[],[],false,no⟩=[]:=by unfold hiP;rw[if_neg (fun h=>gb h.2)]
      rw[ea,eb]
      exact rprs_m1 n lo hi hlh A m c no _ (by simp) (fun W=>rends_N00 n lo hi ga gb A m c W) h1 h2 hm hmm w hr
   ·have e1:predsOf n ⟨3,lo,hi,[],[],false,no⟩=orP ([]++no.map fun v=>(⟨n,2,v.k,v.i,v.t⟩:Pr)) ⟨n,6,3,0,[]⟩:=by unfold predsOf noP lowest loP hiP;simp[hlh]
    rw[e1]
    exact rprs_m3 n lo hi hlh A m c no _ (by simp) (fun W=>rends_3 n lo hi A m c W) h1 h2 hm hmm w hr
 ·have bd:=canon_bd (.inr (.inr (.inr ha)))
  obtain⟨K,lo,hi,f,t,o,no⟩:=a
  obtain rfl:K=2:=ha.kind
  obtain rfl:lo=0:=ha.lo
  obtain rfl:hi=0:=ha.hi
  have hio:o=true->t=[]:=ha.isOpn
  dsimp only at hr hm bd
  have hll:(frmP n ⟨2,0,0,f,t,o,no⟩++toP n ⟨2,0,0,f,t,o,no⟩).length<=4:=by
   have h3:(frmP n ⟨2,0,0,f,t,o,no⟩).length<=1:=by
    unfold frmP;dsimp only
    split
    ·simp
    ·split<;>simp
   have h4:(toP n ⟨2,0,0,f,t,o,no⟩).length<=1:=by
    unfold toP;dsimp only
    split
    ·simp
    ·split<;>simp
   rw[List.length_append];omega
  by_cases hone:o=false/\t=f++[0]
  ·obtain⟨rfl,rfl⟩:=hone
   rw[show predsOf n ⟨2,0,0,f,f++[0],false,no⟩=[⟨n,1,2,0,f⟩] by unfold predsOf;simp]
   exact rprs_oneT n f (by omega) h1 h2 A m c w
  ·have e1:predsOf n ⟨2,0,0,f,t,o,no⟩=orP (frmP n ⟨2,0,0,f,t,o,no⟩++toP n ⟨2,0,0,f,t,o,no⟩++no.map fun v=>(⟨n,2,v.k,v.i,v.t⟩:Pr)) ⟨n,6,2,0,[]⟩:=by
    unfold predsOf noP
    rw[if_neg (show ¬(2:Int)=0 by decide),if_neg (show ¬(2:Int)=4 by decide),if_pos rfl,if_neg hone]
   rw[e1]
   cases o with
   | true=>exact rprs_mO n f t A m c no _ hll (fun W=>rends_text n f t true no (by omega) (by omega) hio A m c W) h1 h2 hm hmm w hr
   | false=>exact rprs_mT n f t (by omega) (fun e=>hone ⟨rfl,e⟩) A m c no _ hll (fun W=>rends_text n f t false no (by omega) (by omega) hio A m c W) h1 h2 hm hmm w hr
end
end Go.Proofs.YtnfigjggjmncdaaGreat
