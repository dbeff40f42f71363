/- Contracts. -/
import Derived.Test.YtnfigjggjmncdaaGreatC2
set_option maxRecDepth 100000
set_option maxHeartbeats 4000000
namespace Go.Proofs.YtnfigjggjmncdaaGreat
section
open Go.RowKit Go.Sort Spans Op
theorem prs_none (n:LU) (lo hi:Int) (f t:LU) (o:Bool) (A:OA) (m c:Nat) (w:World):Calls Tryz.prog 85 #[.string ⟨n.toArray⟩,.agg (sC 0 lo hi f.toArray t.toArray o A m c)] w (GivesQ w []):=by
 go_enter Tryz.func85,Tryz.ntmps85
 go_wp2_with fail
 go_ret
 exact⟨_,rfl,OwnK.none_ _ _,(gr2 _ _ _).below⟩
theorem prs_name (n:LU) (K lo hi:Int) (f t:LU) (o:Bool) (A:OA) (m c:Nat) (w:World) (h0:K≠0) (hn:n.length<=9223372036854775807) (hr:Preds.right n 8 0 0 []=false):Calls Tryz.prog 85 #[.string ⟨n.toArray⟩,.agg (sC K lo hi f.toArray t.toArray o A m c)] w (GivesQ w []):=by
 have HR:=Jh hr
 clear hr
 have v0:(K == 0)=false:=beq_eq_false_iff_ne.2 h0
 have hX:=(Blk.new w 97 (sC K lo hi f.toArray t.toArray o A m c)).alloc (.cells (pC n.toArray 8 0 0 #[]) 54)
 have hE:=Blk.new (w.alloc (.cells (sC K lo hi f.toArray t.toArray o A m c) 97)) 54 (pC n.toArray 8 0 0 #[])
 rw[show (w.alloc (.cells (sC K lo hi f.toArray t.toArray o A m c) 97)).heap.size=w.heap.size+1 by simp] at hE
 have hW:Below w.heap.size w ((w.alloc (.cells (sC K lo hi f.toArray t.toArray o A m c) 97)).alloc (.cells (pC n.toArray 8 0 0 #[]) 54)):=(gr2 w _ _).below
 have hs0:((w.alloc (.cells (sC K lo hi f.toArray t.toArray o A m c) 97)).alloc (.cells (pC n.toArray 8 0 0 #[]) 54)).heap.size=w.heap.size+2:=by simp
 go_enter Tryz.func85,Tryz.ntmps85
 go_wp2_with fail
 generalize ((w.alloc (.cells (sC K lo hi f.toArray t.toArray o A m c) 97)).alloc (.cells (pC n.toArray 8 0 0 #[]) 54))=w0 at *
 refine (pright_is n 8 0 0 [] w0 hn (by simp) false HR.o).mono ?_
 rintro e w1 ⟨rfl,hb1⟩
 go_wp2_with fail
 go_ret
 exact⟨_,rfl,OwnK.none_ _ _,below_next hW (Jn) hb1⟩
theorem prs_any (n:LU) (lo hi:Int) (f t:LU) (o:Bool) (A:OA) (m c:Nat) (w:World) (hn:n.length<=9223372036854775807) (hr:Preds.right n 8 0 0 []=true):Calls Tryz.prog 85 #[.string ⟨n.toArray⟩,.agg (sC 4 lo hi f.toArray t.toArray o A m c)] w (GivesQ w [⟨n,8,0,0,[]⟩]):=by
 have HR:=Jh hr
 clear hr
 have hX:=(Blk.new w 97 (sC 4 lo hi f.toArray t.toArray o A m c)).alloc (.cells (pC n.toArray 8 0 0 #[]) 54)
 have hE:=Blk.new (w.alloc (.cells (sC 4 lo hi f.toArray t.toArray o A m c) 97)) 54 (pC n.toArray 8 0 0 #[])
 rw[show (w.alloc (.cells (sC 4 lo hi f.toArray t.toArray o A m c) 97)).heap.size=w.heap.size+1 by simp] at hE
 have hW:Below w.heap.size w ((w.alloc (.cells (sC 4 lo hi f.toArray t.toArray o A m c) 97)).alloc (.cells (pC n.toArray 8 0 0 #[]) 54)):=(gr2 w _ _).below
 have hs0:((w.alloc (.cells (sC 4 lo hi f.toArray t.toArray o A m c) 97)).alloc (.cells (pC n.toArray 8 0 0 #[]) 54)).heap.size=w.heap.size+2:=by simp
 go_enter Tryz.func85,Tryz.ntmps85
 go_wp2_with fail
 generalize ((w.alloc (.cells (sC 4 lo hi f.toArray t.toArray o A m c) 97)).alloc (.cells (pC n.toArray 8 0 0 #[]) 54))=w0 at *
 refine (pright_is n 8 0 0 [] w0 hn (by simp) true HR.o).mono ?_
 rintro e w1 ⟨rfl,hb1⟩
 have hX1:=Blk.below hX hb1 hX.lt
 have hE1:=Blk.below hE hb1 hE.lt
 obtain⟨a0,a1,a2,a3,a4,a5,a6,_⟩:=blk7 hX1
 obtain⟨e0,e1,e2,e3,e4,_⟩:=blk5 hE1
 have hl1:=hX1.lt
 have hl2:=hE1.lt
 have hB1:=below_next hW (Jn) hb1
 go_wp2_with fail
 go_ret
 exact⟨_,rfl,own_litK layP w1 w.heap.size hB1.size ⟨n,8,0,0,[]⟩ rfl,hB1.alloc hB1.size _⟩
theorem prs_more (n:LU) (K lo hi:Int) (f t:LU) (o:Bool) (k1 i1:Int) (t1:LU) (low high:Int) (ob:Bool) (A:OA) (m c:Nat) (es:List Val) (w:World) (l:List Pr) (hlen:l.length<=1000) (hn:n.length<=9223372036854775807) (hr:Preds.right n 8 0 0 []=true) (hm:es.length=m) (hmm:m<=10000) (hes:RdW w A es) (h0:K≠0) (h4:K≠4)
  (honl:∀W,Calls Tryz.prog 116 #[.agg (sC K lo hi f.toArray t.toArray o A m c)] W fun e w'=>e=.returned (.tuple #[.agg (vC k1 i1 t1.toArray),.bool false])/\Below W.heap.size W w')
  (hends:∀W,Calls Tryz.prog 117 #[.string ⟨n.toArray⟩,.agg (sC K lo hi f.toArray t.toArray o A m c)] W (GivesQ W l))
  (hwh:∀W,Calls Tryz.prog 108 #[.int .i64 K] W fun e w'=>e=.returned (spF K low high [] [] ob none 0 0)/\Grown W w'):
  Calls Tryz.prog 85 #[.string ⟨n.toArray⟩,.agg (sC K lo hi f.toArray t.toArray o A m c)] w (GivesQ w (orP (l++es.map fun v=>(⟨n,2,v.k,v.i,v.t⟩:Pr)) ⟨n,6,K,low,[]⟩)):=by
 have HLen:Hid (l.length<=1000):=hlen
 have HR:=Jh hr
 have HM:=Jh hm
 have HES:=Jh hes
 have HONL:=Jh honl
 have HEN:=Jh hends
 have HWH:=Jh hwh
 clear hlen hr hm hes honl hends hwh
 have v0:(K == 0)=false:=beq_eq_false_iff_ne.2 h0
 have v4:(K == 4)=false:=beq_eq_false_iff_ne.2 h4
 have hX:=(Blk.new w 97 (sC K lo hi f.toArray t.toArray o A m c)).alloc (.cells (pC n.toArray 8 0 0 #[]) 54)
 have hE:=Blk.new (w.alloc (.cells (sC K lo hi f.toArray t.toArray o A m c) 97)) 54 (pC n.toArray 8 0 0 #[])
 rw[show (w.alloc (.cells (sC K lo hi f.toArray t.toArray o A m c) 97)).heap.size=w.heap.size+1 by simp] at hE
 have hW:Below w.heap.size w ((w.alloc (.cells (sC K lo hi f.toArray t.toArray o A m c) 97)).alloc (.cells (pC n.toArray 8 0 0 #[]) 54)):=(gr2 w _ _).below
 have hs0:((w.alloc (.cells (sC K lo hi f.toArray t.toArray o A m c) 97)).alloc (.cells (pC n.toArray 8 0 0 #[]) 54)).heap.size=w.heap.size+2:=by simp
 go_enter Tryz.func85,Tryz.ntmps85
 go_wp2_with fail
 generalize ((w.alloc (.cells (sC K lo hi f.toArray t.toArray o A m c) 97)).alloc (.cells (pC n.toArray 8 0 0 #[]) 54))=w0 at *
 refine (pright_is n 8 0 0 [] w0 hn (by simp) true HR.o).mono ?_
 rintro e w1 ⟨rfl,hb1⟩
 have hX1:=Blk.below hX hb1 hX.lt
 obtain⟨a0,a1,a2,a3,a4,a5,a6,_⟩:=blk7 hX1
 have hlx1:=hX1.lt
 have hB1:=below_next hW (Jn) hb1
 clear hX hE hW hb1
 go_wp2_with fail
 refine (HONL.o w1).mono ?_
 rintro e w2 ⟨rfl,hb2⟩
 have hX2:=Blk.below hX1 hb2 hX1.lt
 have hB2:=below_next hB1 (Jn) hb2
 clear a0 a1 a2 a3 a4 a5 a6 hlx1 hX1 hB1 hb2
 obtain⟨a0,a1,a2,a3,a4,a5,a6,_⟩:=blk7 hX2
 have hlx2:=hX2.lt
 have hs2:w.heap.size+1<=w2.heap.size:=hlx2
 have hb3:Below w2.heap.size w2 (w2.alloc (.cells (vC k1 i1 t1.toArray) 52)):=(Below.refl _ _).alloc (Jn) _
 have hX3:=Blk.below hX2 hb3 hX2.lt
 have hB3:=below_next hB2 (Jn) hb3
 have hs3:w.heap.size+1<=(w2.alloc (.cells (vC k1 i1 t1.toArray) 52)).heap.size:=by simp;omega
 go_wp2_with fail
 generalize (w2.alloc (.cells (vC k1 i1 t1.toArray) 52))=w3 at *
 clear a0 a1 a2 a3 a4 a5 a6 hlx2 hX2 hB2 hb3
 refine (HEN.o w3).mono ?_
 rintro e w4 ⟨v4,rfl,ho4,hb4⟩
 have hX4:=Blk.below hX3 hb4 hX3.lt
 have hB4:=below_next hB3 (Jn) hb4
 have hs4:w.heap.size+1<=w4.heap.size:=Nat.le_trans hs3 hb4.size
 have HO4:=Jh (ho4.less hs3)
 obtain⟨a0,a1,a2,a3,a4,a5,a6,_⟩:=blk7 hX4
 have hlx4:=hX4.lt
 clear hX3 hB3 hb4 ho4
 go_wp2_with fail
 clear a0 a1 a2 a3 a4 a5 a6 hlx4
 have HX4:=Jh hX4
 have HB4:=Jh hB4
 clear hX4 hB4
 go_loopg [8,43] m (fun gg s8 s43 wr=>∃k:Nat,k<=m/\m-k<=gg/\s43=.int .i64 (k:Int)/\w.heap.size+1<=wr.heap.size/\Hid (OwnQ wr (w.heap.size+1) s8 (l++(es.take k).map fun v=>(⟨n,2,v.k,v.i,v.t⟩:Pr)))/\Hid (Blk wr w.heap.size 97 (sC K lo hi f.toArray t.toArray o A m c))/\Hid (Below w.heap.size w wr))
 case atStart=>exact⟨0,Nat.zero_le _,by omega,rfl,hs4,by show OwnQ _ _ _ _;simpa using HO4.o,HX4,HB4⟩
 case round=>
  obtain⟨k,hk,hgg,rfl,hsr,HO,HX,HB⟩:=hrel
  clear HO4 HX4 HB4
  by_cases hlt:k<m
  ·have hk':k<es.length:=by rw[HM.o];exact hlt
   obtain⟨g,off,rfl,hg,c0,c1,c2⟩:=RdW.at3 (RdK.below HES.o HB.o) hk'
   obtain⟨x,hx⟩:∃x,es[k]=x:=⟨_,rfl⟩
   have HXX:=Jh hx
   rw[hx] at c0 c1 c2
   clear hx
   obtain⟨xk,xi,xt⟩:=x
   have w5:(k:Int)<(m:Int):=by omega
   have hbv:Below wr.heap.size wr (wr.alloc (.cells (vC xk xi xt.toArray) 52)):=(Below.refl _ _).alloc (Jn) _
   have ho6:=OwnK.below HO.o hbv
   have hX6:=Blk.below HX.o hbv HX.o.lt
   have hB6:=below_next HB.o (Jn) hbv
   have hlen:(l++(es.take k).map fun v=>(⟨n,2,v.k,v.i,v.t⟩:Pr)).length<=1002+m:=by
    rw[List.length_append,List.length_map,List.length_take]
    have:=HLen.o
    omega
   have HLen2:=Jh hlen
   clear hlen
   have HQ:Hid ((l++(es.take k).map fun v=>(⟨n,2,v.k,v.i,v.t⟩:Pr))++[⟨n,2,xk,xi,xt⟩]=l++(es.take (k+1)).map fun v=>(⟨n,2,v.k,v.i,v.t⟩:Pr)):=by
    show _=_
    rw[List.take_succ_eq_append_getElem hk',HXX.o]
    simp
   generalize hL:(l++(es.take k).map fun v=>(⟨n,2,v.k,v.i,v.t⟩:Pr))=lk at *
   clear hL
   go_wp2_with (at_builtin;refine wpList_append_k layP (by rfl) (.tmp 47) (.tmp 51) 26 underQ rfl (w.heap.size+1) _ lk (by rfl) (OwnK.below ho6 ((Below.refl _ _).alloc (Jn) _)) _ [⟨n,2,xk,xi,xt⟩] 1 1 (by rfl) (by have h:=rdk_one layP (wr.alloc (.cells (vC xk xi xt.toArray) 52)) ⟨n,2,xk,xi,xt⟩ 54 _ rfl;rw[show (wr.alloc (.cells (vC xk xi xt.toArray) 52)).heap.size=wr.heap.size+1 by simp] at h;exact h) rfl (by rw[maxLen_num];have:=HLen2.o;omega) (by show (lk.length+1)*56<=_;have:=HLen2.o;omega) (by simp;omega) ?_;intro v7 w7 o7 b7 gg7 _;have hX7:=Blk.below (Blk.alloc hX6 _) (b7 _ (Below.refl _ _)) (by omega);have hB7:=(below_next hB6 (Jn) ((Below.refl _ _).alloc (Jn) _)).trans ((b7 _ (Below.refl _ _)).mono (by omega));have hs7:=Below.size (b7 _ (Below.refl _ _));clear b7 gg7;rw[HQ.o] at o7;have HO7:=Jh o7;have HX7:=Jh hX7;have HB7:=Jh hB7;clear o7 hX7 hB7 c0 c1 c2)
   go_roundg (m-(k+1))
   case measure=>omega
   case rel=>exact⟨k+1,by omega,Jn,by go_num,by simp at hs7;omega,HO7,HX7,HB7⟩
  ·have hkn:Hid (k=m):=by show k=m;omega
   have hO5:=HO.o
   rw[hkn.o,List.take_of_length_le (by rw[HM.o];exact Jn)] at hO5
   have HO5:=Jh hO5
   clear HO
   obtain⟨tot,htot⟩:∃tot,(l++es.map fun v=>(⟨n,2,v.k,v.i,v.t⟩:Pr)).length=tot:=⟨_,rfl⟩
   have HTOT:=Jh htot
   obtain⟨B5,c5,rfl,hc5,hr5⟩:=OwnK.form hO5 htot
   clear htot hO5 hr5
   by_cases ht0:tot=0
   ·have HEQ:Hid (orP (l++es.map fun v=>(⟨n,2,v.k,v.i,v.t⟩:Pr)) ⟨n,6,K,low,[]⟩=[⟨n,6,K,low,[]⟩]):=by
     show _=_
     unfold orP
     rw[if_pos (List.eq_nil_of_length_eq_zero (HTOT.o.trans ht0))]
    subst ht0
    clear HO5 HTOT
    go_wp2_with fail
    have hS0:Blk wr.drew w.heap.size 97 (sC K lo hi f.toArray t.toArray o A m c):=HX.o
    have hfld:∀W,(Instr.field 97 (spF K (low) high [] [] ob none 0 0) 1).run Tryz.prog W=.ok (.int .i64 (low)) W:=fun W=>by kernel_rfl
    have hB0:=HB.o.drew
    have hsz:w.heap.size+1<=wr.drew.heap.size:=hsr
    refine wp_region_held_drew (S:=fun w'=>Blk w' w.heap.size 97 (sC K lo hi f.toArray t.toArray o A m c)) (by kernel_rfl) hS0 (fun _=>?_)
    refine Jz 0 hS0 ?_
    refine Jz 1 hS0 ?_
    refine Jz 2 hS0 ?_
    refine Jz 3 hS0 ?_
    clear HX HB hsr
    generalize wr.drew=wd at *
    refine wpAnyH_pair (i:=4) (j:=7) (by kernel_rfl) rfl rfl (by rfl) (by rfl) (fun Ka hKa=>?_) (fun Ka hKa=>?_)
    ·go_simp
     with_reducible refine (HWH.o wd).mono ?_
     rintro e wf ⟨rfl,hgf⟩
     have hS1:=Blk.below hS0 hgf.below hS0.lt
     have hBf:=below_next hB0 (Jn) hgf.below
     have hsf:w.heap.size+1<=wf.heap.size:=hS1.lt
     go_wp2_with fail
     refine hKa.o _ _ hS1 ?_
     clear hKa Ka
     refine Jz 5 hS1 ?_
     refine Jz 6 hS1 ?_
     refine Je 7 (fun Ka hKa=>?_)
     go_simp
     refine hKa.o _ _ (Blk.alloc hS1 _) ?_
     clear hKa Ka
     refine Je 8 (fun Ka hKa=>?_)
     go_simp
     refine hKa.o _ _ (Blk.alloc hS1 _) ?_
     clear hKa Ka
     refine Jd ?_
     go_wp2_with fail
     go_ret
     refine ⟨_,rfl,?_,?_⟩
     ·have h:=own_litK layP (wf.alloc (.cells (vC K (low) #[]) 52)) w.heap.size (by simp;omega) ⟨n,6,K,low,[]⟩ rfl
      rw[show (wf.alloc (.cells (vC K (low) #[]) 52)).heap.size=wf.heap.size+1 by simp] at h
      rw[HEQ.o]
      exact h
     ·exact ((hBf.alloc hBf.size _).alloc (by simp;omega) _)
    ·go_simp
     have hbz:Below wd.heap.size wd (wd.alloc (.cells (vC 0 0 #[]) 52)):=(Below.refl _ _).alloc (Jn) _
     have hS1:=Blk.below hS0 hbz hS0.lt
     have hBz:=below_next hB0 (Jn) hbz
     have hQz:=Blk.new wd 52 (vC 0 0 #[])
     refine hKa.o _ _ hS1 ?_
     clear hKa Ka hbz
     generalize wd.alloc (.cells (vC 0 0 #[]) 52)=we at *
     generalize wd.heap.size=Q at *
     refine Je 4 (fun Ka hKa=>?_)
     go_simp
     with_reducible refine (HWH.o we).mono ?_
     rintro e wf ⟨rfl,hgf⟩
     have hS2:=Blk.below hS1 hgf.below hS1.lt
     have hBf:=below_next hBz (Jn) hgf.below
     have hQf:=Blk.below hQz hgf.below hQz.lt
     go_wp2_with fail
     refine hKa.o _ _ hS2 ?_
     clear hKa Ka
     refine Jz 5 hS2 ?_
     refine Jz 6 hS2 ?_
     obtain⟨z0,z1,z2,y0,y1,y2⟩:=blk3 hQf
     have hlq:=hQf.lt
     refine Je 8 (fun Ka hKa=>?_)
     go_simp
     refine hKa.o _ _ (Blk.far (Blk.far (Blk.far hS2 (by show w.heap.size≠Q;omega) _) (by show w.heap.size≠Q;omega) _) (by show w.heap.size≠Q;omega) _) ?_
     clear hKa Ka
     refine Jd ?_
     have hsf:w.heap.size+1<=wf.heap.size:=hS2.lt
     go_wp2_with fail
     go_ret
     refine ⟨_,rfl,?_,?_⟩
     ·have h:=own_litK layP (((wf.setCell ⟨Q,0,none⟩ (.int .i64 K)).setCell ⟨Q,1,none⟩ (.int .i64 (low))).setCell ⟨Q,2,none⟩ (.string ⟨#[]⟩)) w.heap.size (by simp;omega) ⟨n,6,K,low,[]⟩ rfl
      rw[show (((wf.setCell ⟨Q,0,none⟩ (.int .i64 K)).setCell ⟨Q,1,none⟩ (.int .i64 (low))).setCell ⟨Q,2,none⟩ (.string ⟨#[]⟩)).heap.size=wf.heap.size by simp] at h
      rw[HEQ.o]
      exact h
     ·exact Below.alloc (below_set (below_set (below_set hBf (by omega)) (by omega)) (by omega)) (by simp;omega) _
   ·have HEQ:Hid (orP (l++es.map fun v=>(⟨n,2,v.k,v.i,v.t⟩:Pr)) ⟨n,6,K,low,[]⟩=l++es.map fun v=>(⟨n,2,v.k,v.i,v.t⟩:Pr)):=by
     show _=_
     unfold orP
     rw[if_neg (fun h=>ht0 (by rw[<-HTOT.o,h];rfl))]
    have vt:((tot:Int) == 0)=false:=beq_eq_false_iff_ne.2 (by omega)
    have vt2:¬tot=0:=ht0
    go_wp2_with fail
    go_ret
    exact⟨_,rfl,by rw[HEQ.o];exact HO5.o.less (by omega),HB.o⟩
theorem prsN_one (n:LU) (K lo hi:Int) (hk:K=1∨K=3) (A:OA) (m c:Nat) (es:List Val) (w:World) (l1 l2:List Pr) (hl1:(if lowest K<lo then [(⟨n,6,K,lo,[]⟩:Pr)] else [])=l1) (hl2:(if hi<highest K then [(⟨n,4,K,hi,[]⟩:Pr)] else [])=l2) (hn:n.length<=9223372036854775807) (hr:Preds.right n 8 0 0 []=true) (hm:es.length=m) (_hmm:m<=10000) (hes:RdW w A es) (hone:lo=hi):
  Calls Tryz.prog 85 #[.string ⟨n.toArray⟩,.agg (sC K lo hi #[] #[] false A m c)] w (GivesQ w [⟨n,1,K,lo,[]⟩]):=by
 have HLen0:Hid (l1.length+l2.length<=1000):=by
  show l1.length+l2.length<=1000
  rw[<-hl1,<-hl2]
  split<;>split<;>simp
 have HONE:=Jh hone
 clear hone
 have HR:=Jh hr
 have HL1:=Jh hl1
 have HL2:=Jh hl2
 have HM:=Jh hm
 have HES:=Jh hes
 clear hr hl1 hl2 hm hes
 have HK:=Jh hk
 have v0:(K == 0)=false:=beq_eq_false_iff_ne.2 (by omega)
 have v4:(K == 4)=false:=beq_eq_false_iff_ne.2 (by omega)
 clear hk
 have hX:=(Blk.new w 97 (sC K lo hi #[] #[] false A m c)).alloc (.cells (pC n.toArray 8 0 0 #[]) 54)
 have hE:=Blk.new (w.alloc (.cells (sC K lo hi #[] #[] false A m c) 97)) 54 (pC n.toArray 8 0 0 #[])
 rw[show (w.alloc (.cells (sC K lo hi #[] #[] false A m c) 97)).heap.size=w.heap.size+1 by simp] at hE
 have hW:Below w.heap.size w ((w.alloc (.cells (sC K lo hi #[] #[] false A m c) 97)).alloc (.cells (pC n.toArray 8 0 0 #[]) 54)):=(gr2 w _ _).below
 have hs0:((w.alloc (.cells (sC K lo hi #[] #[] false A m c) 97)).alloc (.cells (pC n.toArray 8 0 0 #[]) 54)).heap.size=w.heap.size+2:=by simp
 obtain⟨l,hll⟩:∃l,l1++l2=l:=⟨_,rfl⟩
 have HLL:=Jh hll
 have HLen:Hid (l.length<=1000):=by show l.length<=1000;rw[<-HLL.o,List.length_append];exact HLen0.o
 clear hll
 go_enter Tryz.func85,Tryz.ntmps85
 go_wp2_with fail
 generalize ((w.alloc (.cells (sC K lo hi #[] #[] false A m c) 97)).alloc (.cells (pC n.toArray 8 0 0 #[]) 54))=w0 at *
 refine (pright_is n 8 0 0 [] w0 hn (by simp) true HR.o).mono ?_
 rintro e w1 ⟨rfl,hb1⟩
 have hX1:=Blk.below hX hb1 hX.lt
 obtain⟨a0,a1,a2,a3,a4,a5,a6,_⟩:=blk7 hX1
 have hlx1:=hX1.lt
 have hB1:=below_next hW (Jn) hb1
 clear hX hE hW hb1
 go_wp2_with fail
 refine (onlyN_at K lo hi (by have:=HK.o;omega) A m c w1).mono ?_
 rintro e w2 ⟨rfl,hb2⟩
 have hX2:=Blk.below hX1 hb2 hX1.lt
 have hB2:=below_next hB1 (Jn) hb2
 clear a0 a1 a2 a3 a4 a5 a6 hlx1 hX1 hB1 hb2
 obtain⟨a0,a1,a2,a3,a4,a5,a6,_⟩:=blk7 hX2
 have hlx2:=hX2.lt
 have hs2:w.heap.size+1<=w2.heap.size:=hlx2
 have v1:(lo == hi)=true:=beq_iff_eq.2 HONE.o
 rw[v1]
 clear v1
 go_wp2_with fail
 go_ret
 refine ⟨_,rfl,?_,(hB2.alloc hB2.size _).alloc (by simp;have:=hB2.size;omega) _⟩
 have h:=own_litK layP (w2.alloc (.cells (vC K lo #[]) 52)) w.heap.size (by simp;omega) ⟨n,1,K,lo,[]⟩ rfl
 rw[show (w2.alloc (.cells (vC K lo #[]) 52)).heap.size=w2.heap.size+1 by simp] at h
 exact h
theorem prsN_more (n:LU) (K lo hi:Int) (hk:K=1∨K=3) (A:OA) (m c:Nat) (es:List Val) (w:World) (l1 l2:List Pr) (hl1:(if lowest K<lo then [(⟨n,6,K,lo,[]⟩:Pr)] else [])=l1) (hl2:(if hi<highest K then [(⟨n,4,K,hi,[]⟩:Pr)] else [])=l2) (hn:n.length<=9223372036854775807) (hr:Preds.right n 8 0 0 []=true) (hm:es.length=m) (hmm:m<=10000) (hes:RdW w A es) (hone:¬lo=hi):
  Calls Tryz.prog 85 #[.string ⟨n.toArray⟩,.agg (sC K lo hi #[] #[] false A m c)] w (GivesQ w (orP (l1++l2++es.map fun v=>(⟨n,2,v.k,v.i,v.t⟩:Pr)) ⟨n,6,K,lowest K,[]⟩)):=by
 have hlen:(l1++l2).length<=1000:=by
  rw[List.length_append,<-hl1,<-hl2]
  split<;>split<;>simp
 exact prs_more n K lo hi [] [] false K lo [] (lowest K) (highest K) false A m c es w (l1++l2) hlen hn hr hm hmm hes (by omega) (by omega) (fun W=>by have h:=onlyN_at K lo hi (by omega) A m c W;rwa [show (lo == hi)=false from beq_eq_false_iff_ne.2 hone] at h) (fun W=>endsN_at n K lo hi hk A m c W l1 l2 hl1 hl2) (fun W=>wholeN_at K W hk)
theorem prsO_more (n:LU) (f t:LU) (hf:f.length<=1000) (ht:t.length<=1000) (A:OA) (m c:Nat) (es:List Val) (w:World) (l1 l2:List Pr) (hl1:(if f=[] then [] else [teP n f 6 5])=l1) (hl2:(if true then [] else [teP n t 3 4])=l2) (hn:n.length<=9223372036854775807) (hr:Preds.right n 8 0 0 []=true) (hm:es.length=m) (hmm:m<=10000) (hes:RdW w A es):
  Calls Tryz.prog 85 #[.string ⟨n.toArray⟩,.agg (sC 2 0 0 f.toArray t.toArray true A m c)] w (GivesQ w (orP (l1++l2++es.map fun v=>(⟨n,2,v.k,v.i,v.t⟩:Pr)) ⟨n,6,2,0,[]⟩)):=by
 have hlen:(l1++l2).length<=1000:=by
  rw[List.length_append,<-hl1,<-hl2]
  split<;>simp
 exact prs_more n 2 0 0 f t true 2 0 f 0 0 true A m c es w (l1++l2) hlen hn hr hm hmm hes (by decide) (by decide) (fun W=>onlyO_at f t hf A m c W) (fun W=>endsT_at n f t true A m c hf ht W l1 l2 hl1 hl2) wholeT_at
theorem prsT_one (n:LU) (f t:LU) (hf:f.length<=1000) (_ht:t.length<=1000) (A:OA) (m c:Nat) (es:List Val) (w:World) (l1 l2:List Pr) (hl1:(if f=[] then [] else [teP n f 6 5])=l1) (hl2:(if false then [] else [teP n t 3 4])=l2) (hn:n.length<=9223372036854775807) (hr:Preds.right n 8 0 0 []=true) (hm:es.length=m) (_hmm:m<=10000) (hes:RdW w A es) (hone:t=f++[0]):
  Calls Tryz.prog 85 #[.string ⟨n.toArray⟩,.agg (sC 2 0 0 f.toArray t.toArray false A m c)] w (GivesQ w [⟨n,1,2,0,f⟩]):=by
 have HLen0:Hid (l1.length+l2.length<=1000):=by
  show l1.length+l2.length<=1000
  rw[<-hl1,<-hl2]
  split<;>simp
 have HONE:=Jh hone
 clear hone
 have HR:=Jh hr
 have HL1:=Jh hl1
 have HL2:=Jh hl2
 have HM:=Jh hm
 have HES:=Jh hes
 clear hr hl1 hl2 hm hes
 have hX:=(Blk.new w 97 (sC 2 0 0 f.toArray t.toArray false A m c)).alloc (.cells (pC n.toArray 8 0 0 #[]) 54)
 have hE:=Blk.new (w.alloc (.cells (sC 2 0 0 f.toArray t.toArray false A m c) 97)) 54 (pC n.toArray 8 0 0 #[])
 rw[show (w.alloc (.cells (sC 2 0 0 f.toArray t.toArray false A m c) 97)).heap.size=w.heap.size+1 by simp] at hE
 have hW:Below w.heap.size w ((w.alloc (.cells (sC 2 0 0 f.toArray t.toArray false A m c) 97)).alloc (.cells (pC n.toArray 8 0 0 #[]) 54)):=(gr2 w _ _).below
 have hs0:((w.alloc (.cells (sC 2 0 0 f.toArray t.toArray false A m c) 97)).alloc (.cells (pC n.toArray 8 0 0 #[]) 54)).heap.size=w.heap.size+2:=by simp
 obtain⟨l,hll⟩:∃l,l1++l2=l:=⟨_,rfl⟩
 have HLL:=Jh hll
 have HLen:Hid (l.length<=1000):=by show l.length<=1000;rw[<-HLL.o,List.length_append];exact HLen0.o
 clear hll
 go_enter Tryz.func85,Tryz.ntmps85
 go_wp2_with fail
 generalize ((w.alloc (.cells (sC 2 0 0 f.toArray t.toArray false A m c) 97)).alloc (.cells (pC n.toArray 8 0 0 #[]) 54))=w0 at *
 refine (pright_is n 8 0 0 [] w0 hn (by simp) true HR.o).mono ?_
 rintro e w1 ⟨rfl,hb1⟩
 have hX1:=Blk.below hX hb1 hX.lt
 obtain⟨a0,a1,a2,a3,a4,a5,a6,_⟩:=blk7 hX1
 have hlx1:=hX1.lt
 have hB1:=below_next hW (Jn) hb1
 clear hX hE hW hb1
 go_wp2_with fail
 refine (onlyT_at f t hf A m c w1).mono ?_
 rintro e w2 ⟨rfl,hb2⟩
 have hX2:=Blk.below hX1 hb2 hX1.lt
 have hB2:=below_next hB1 (Jn) hb2
 clear a0 a1 a2 a3 a4 a5 a6 hlx1 hX1 hB1 hb2
 obtain⟨a0,a1,a2,a3,a4,a5,a6,_⟩:=blk7 hX2
 have hlx2:=hX2.lt
 have hs2:w.heap.size+1<=w2.heap.size:=hlx2
 have v1:(t == f++[0])=true:=beq_iff_eq.2 HONE.o
 rw[v1]
 clear v1
 go_wp2_with fail
 go_ret
 refine ⟨_,rfl,?_,(hB2.alloc hB2.size _).alloc (by simp;have:=hB2.size;omega) _⟩
 have h:=own_litK layP (w2.alloc (.cells (vC 2 0 f.toArray) 52)) w.heap.size (by simp;omega) ⟨n,1,2,0,f⟩ rfl
 rw[show (w2.alloc (.cells (vC 2 0 f.toArray) 52)).heap.size=w2.heap.size+1 by simp] at h
 exact h
theorem prsT_more (n:LU) (f t:LU) (hf:f.length<=1000) (ht:t.length<=1000) (A:OA) (m c:Nat) (es:List Val) (w:World) (l1 l2:List Pr) (hl1:(if f=[] then [] else [teP n f 6 5])=l1) (hl2:(if false then [] else [teP n t 3 4])=l2) (hn:n.length<=9223372036854775807) (hr:Preds.right n 8 0 0 []=true) (hm:es.length=m) (hmm:m<=10000) (hes:RdW w A es) (hone:¬t=f++[0]):
  Calls Tryz.prog 85 #[.string ⟨n.toArray⟩,.agg (sC 2 0 0 f.toArray t.toArray false A m c)] w (GivesQ w (orP (l1++l2++es.map fun v=>(⟨n,2,v.k,v.i,v.t⟩:Pr)) ⟨n,6,2,0,[]⟩)):=by
 have hlen:(l1++l2).length<=1000:=by
  rw[List.length_append,<-hl1,<-hl2]
  split<;>simp
 exact prs_more n 2 0 0 f t false 2 0 f 0 0 true A m c es w (l1++l2) hlen hn hr hm hmm hes (by decide) (by decide) (fun W=>by have h:=onlyT_at f t hf A m c W;rwa [show (t == f++[0])=false from beq_eq_false_iff_ne.2 hone] at h) (fun W=>endsT_at n f t false A m c hf ht W l1 l2 hl1 hl2) wholeT_at
end
end Go.Proofs.YtnfigjggjmncdaaGreat
namespace Spans
open Go.Op (bytesLess)
def aI:List Pr:=[⟨[97],6,1,3,[]⟩,⟨[97],3,1,6,[]⟩,⟨[97],2,1,3,[]⟩]
def aT:List Pr:=[⟨[97],7,2,0,[97,255]⟩,⟨[97],2,2,0,[97,255]⟩]
def spI:Sp:=⟨1,4,5,[],[],false,[]⟩
def spT:Sp:=⟨2,0,0,[97,255,0],[98],false,[]⟩
theorem r1:rightP ⟨[97],6,1,3,[]⟩=true:=by decide
theorem r2:rightP ⟨[97],3,1,6,[]⟩=true:=by decide
theorem r3:rightP ⟨[97],2,1,3,[]⟩=true:=by decide
theorem r4:rightP ⟨[97],7,2,0,[97,255]⟩=true:=by decide
theorem r5:rightP ⟨[97],2,2,0,[97,255]⟩=true:=by decide
def prs (n:LU) (a:Sp):List Pr:=if 1<=n.length/\n.length<=16 then predsOf n a else []
theorem name_right (n:LU):Preds.right n 8 0 0 []=decide (1<=n.length/\n.length<=16):=by
 unfold Preds.right Preds.asks
 simp
end Spans
namespace Go.Proofs.YtnfigjggjmncdaaGreat
section
open Go.RowKit Go.Sort Spans Op
theorem frm_is (n f:LU) (a:Sp) (h:a.frm=f):(if f=[] then [] else [teP n f 6 5])=frmP n a:=by
 subst h
 unfold frmP teP cutZ
 cases hz:zeroEnd a.frm with
 | none=>simp
 | some u=>
  have:a.frm≠[]:=fun e=>by rw[e] at hz;simp[zeroEnd] at hz
  simp[this]
theorem to_is (n t:LU) (o:Bool) (a:Sp) (h:a.to_=t) (ho:a.opn=o):(if o then [] else [teP n t 3 4])=toP n a:=by
 subst h;subst ho
 unfold toP teP cutZ
 cases hz:zeroEnd a.to_ with
 | none=>simp
 | some u=>simp
theorem preds_at (n:LU) (a:Sp) (ha:Canon a) (A:OA) (m c:Nat) (w:World) (hm:a.no.length=m) (hmm:m<=10000) (hr:RdW w A a.no) (hn:n.length<=9223372036854775807) (l:List Pr) (hl:prs n a=l):
  Calls Tryz.prog 85 #[.string ⟨n.toArray⟩,spF a.kind a.lo a.hi a.frm a.to_ a.opn A m c] w (GivesQ w l):=by
 subst hl
 unfold prs
 by_cases h0:a.kind=0
 ·have e:=kind_none ha h0
  subst e
  have e2:predsOf n none_=[]:=rfl
  rw[e2]
  simp only[ite_self]
  exact prs_none n 0 0 [] [] false A m c w
 by_cases hnm:1<=n.length/\n.length<=16
 ·rw[if_pos hnm]
  have hrn:Preds.right n 8 0 0 []=true:=by rw[name_right];exact decide_eq_true hnm
  rcases ha with rfl|rfl|ha|ha
  ·exact absurd rfl h0
  ·exact prs_any n 0 0 [] [] false A m c w hn hrn
  ·obtain⟨K,lo,hi,f,t,o,no⟩:=a
   have e1:f=[]:=ha.frm
   have e2:t=[]:=ha.to_
   have e3:o=false:=ha.opn
   subst e1;subst e2;subst e3
   have hk:K=1∨K=3:=ha.kind
   have k4:K≠4:=by omega
   have k2:K≠2:=by omega
   have k0:K≠0:=by omega
   by_cases hlh:lo=hi
   ·have e:predsOf n ⟨K,lo,hi,[],[],false,no⟩=[⟨n,1,K,lo,[]⟩]:=by unfold predsOf;simp[k0,k4,k2,hlh]
    rw[e]
    exact prsN_one n K lo hi hk A m c no w _ _ rfl rfl hn hrn hm hmm hr hlh
   ·have e:predsOf n ⟨K,lo,hi,[],[],false,no⟩=orP ((if lowest K<lo then [(⟨n,6,K,lo,[]⟩:Pr)] else [])++(if hi<highest K then [(⟨n,4,K,hi,[]⟩:Pr)] else [])++no.map fun v=>(⟨n,2,v.k,v.i,v.t⟩:Pr)) ⟨n,6,K,lowest K,[]⟩:=by
     unfold predsOf
     simp only[k0,k4,k2,hlh,if_false]
     have h1:loP n ⟨K,lo,hi,[],[],false,no⟩=if lowest K<lo then [(⟨n,6,K,lo,[]⟩:Pr)] else []:=by
      unfold loP lowest
      rcases hk with rfl|rfl
      ·simp
      ·have a1:(0:Int)<=lo:=ha.low
       have a2:hi<=1:=ha.high
       have a3:lo<=hi:=ha.ord
       have:lo=0:=by omega
       subst this
       simp
     have h2:hiP n ⟨K,lo,hi,[],[],false,no⟩=if hi<highest K then [(⟨n,4,K,hi,[]⟩:Pr)] else []:=by
      unfold hiP highest
      rcases hk with rfl|rfl
      ·simp
      ·have a1:(0:Int)<=lo:=ha.low
       have a2:hi<=1:=ha.high
       have a3:lo<=hi:=ha.ord
       have:hi=1:=by omega
       subst this
       simp
     rw[h1,h2]
     rfl
    rw[e]
    exact prsN_more n K lo hi hk A m c no w _ _ rfl rfl hn hrn hm hmm hr hlh
  ·obtain⟨K,lo,hi,f,t,o,no⟩:=a
   have e1:lo=0:=ha.lo
   have e2:hi=0:=ha.hi
   have e3:K=2:=ha.kind
   subst e1;subst e2;subst e3
   have hf:f.length<=1000:=by have:=Short.len ha.flen;dsimp only at this;omega
   have ht:t.length<=1000:=by
    cases o with
    | true=>have h:t=[]:=ha.isOpn rfl;subst h;simp
    | false=>have:=Short.len (ha.shut rfl).1;dsimp only at this;omega
   have hfp:=frm_is n f ⟨2,0,0,f,t,o,no⟩ rfl
   have htp:=to_is n t o ⟨2,0,0,f,t,o,no⟩ rfl rfl
   cases o with
   | true=>
    have e:predsOf n ⟨2,0,0,f,t,true,no⟩=orP (frmP n ⟨2,0,0,f,t,true,no⟩++toP n ⟨2,0,0,f,t,true,no⟩++noP n ⟨2,0,0,f,t,true,no⟩) ⟨n,6,2,0,[]⟩:=by unfold predsOf;simp
    rw[e]
    exact prsO_more n f t hf ht A m c no w _ _ hfp htp hn hrn hm hmm hr
   | false=>
    by_cases hone:t=f++[0]
    ·have e:predsOf n ⟨2,0,0,f,t,false,no⟩=[⟨n,1,2,0,f⟩]:=by unfold predsOf;simp[hone]
     rw[e]
     exact prsT_one n f t hf ht A m c no w _ _ hfp htp hn hrn hm hmm hr hone
    ·have e:predsOf n ⟨2,0,0,f,t,false,no⟩=orP (frmP n ⟨2,0,0,f,t,false,no⟩++toP n ⟨2,0,0,f,t,false,no⟩++noP n ⟨2,0,0,f,t,false,no⟩) ⟨n,6,2,0,[]⟩:=by unfold predsOf;simp[hone]
     rw[e]
     exact prsT_more n f t hf ht A m c no w _ _ hfp htp hn hrn hm hmm hr hone
 ·rw[if_neg hnm]
  exact prs_name n a.kind a.lo a.hi a.frm a.to_ a.opn A m c w h0 hn (by rw[name_right];exact decide_eq_false hnm)
end
end Go.Proofs.YtnfigjggjmncdaaGreat
