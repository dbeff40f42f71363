/- Contracts. -/
import Derived.Test.YtnfigjggjmncdaaGreatA4
import Derived.Test.YtnfigjggjmncdaaGreatE6
import Derived.Test.YtnfigjggjmncdaaGreatE7
set_option maxRecDepth 100000
set_option maxHeartbeats 4000000
namespace Go.Proofs.YtnfigjggjmncdaaGreat
section
open Go.RowKit Go.Sort Spans Op
theorem of_take_yes {l:List Pr} {k:Nat} {nm:LU} (hk:k<l.length) (h:l[k].n=nm):Fil.of (l.take (k+1)) nm=Fil.of (l.take k) nm++[l[k]]:=by
 rw[List.take_succ_eq_append_getElem hk]
 unfold Fil.of
 rw[List.filter_append]
 simp[h]
theorem of_take_no {l:List Pr} {k:Nat} {nm:LU} (hk:k<l.length) (h:l[k].n≠nm):Fil.of (l.take (k+1)) nm=Fil.of (l.take k) nm:=by
 rw[List.take_succ_eq_append_getElem hk]
 unfold Fil.of
 rw[List.filter_append]
 simp[h]
theorem rspanOf_at (A:OA) (l:List Pr) (n c:Nat) (nm:LU) (hn:l.length=n) (hm:n<=100) (hl:∀p∈l,p.n.length<=100/\p.t.length<=100 /\ -9223372036854775808<=p.i/\p.i<=9223372036854775807) (w:World) (hr:RdQ w A l):
  Calls Tryz.prog 58 #[.slice A n c,.string ⟨nm.toArray⟩] w (GivesS w (IsAll (Fil.of l nm)) n):=by
 have HN:=Jh hn
 have HLL:=Jh hl
 have HR:=Jh hr
 clear hn hl hr
 have hY0:=(Blk.new w 97 zC).alloc (.cells (sC 4 0 0 #[] #[] false none 0 0) 97)
 have hV0:=Blk.new (w.alloc (.cells zC 97)) 97 (sC 4 0 0 #[] #[] false none 0 0)
 rw[show (w.alloc (.cells zC 97)).heap.size=w.heap.size+1 by simp] at hV0
 have hg0:=(gr2 w (.cells zC 97) (.cells (sC 4 0 0 #[] #[] false none 0 0) 97)).below
 have HY2:=Jh hY0
 have HV2:=Jh hV0
 have HB2:=Jh hg0
 clear hY0 hV0 hg0
 go_enter Tryz.func58,Tryz.ntmps58
 go_wp2_with fail
 generalize (w.alloc (.cells zC 97)).alloc (.cells (sC 4 0 0 #[] #[] false none 0 0) 97)=w2 at *
 go_loopg [6] n (fun gg s4 wr=>∃(k:Nat) (K lo hi:Int) (f t:LU) (o:Bool) (es:List Val) (B:OA) (m d:Nat),k<=n/\n-k<=gg/\s4=.int .i64 (k:Int)/\m<=k/\m<=d/\Hid (es.length=m)/\Hid (IsAll (Fil.of (l.take (k)) nm) ⟨K,lo,hi,f,t,o,es⟩)/\Hid (Blk wr (w.heap.size+1) 97 (sC K lo hi f.toArray t.toArray o B m d))/\Hid (Blk wr w.heap.size 97 zC)/\Hid (OwnW wr (w.heap.size+2) (.slice B m d) es)/\Hid (Below w.heap.size w wr))
 case atStart=>exact⟨0,4,0,0,[],[],false,[],none,0,0,Nat.zero_le _,by omega,rfl,Jn,Jn,rfl,by show IsAll _ _;exact all_nil,HV2,HY2,OwnK.none_ _ _,HB2⟩
 case round=>
  obtain⟨k,K,lo,hi,f,t,o,es,B,m,d,hk,hgg,rfl,hmk,hmd,HM,HI,HV,HY,HO,HB⟩:=hrel
  clear HV2 HY2 HB2
  have hlV:=HV.o.lt
  by_cases hlt:k<n
  ·have hk':k<l.length:=by rw[HN.o];exact hlt
   have hpl:=HLL.o _ (List.getElem_mem hk')
   obtain⟨g,off,rfl,hg,c0,c1,c2,c3,c4⟩:=RdQ.at5 HR.o hk'
   obtain⟨x,hx⟩:∃x,l[k]=x:=⟨_,rfl⟩
   have HX:=Jh hx
   rw[hx] at c0 c1 c2 c3 c4 hpl
   clear hx
   obtain⟨xn,xo,xk,xi,xt⟩:=x
   obtain⟨hp1,hp2,hp3,hp4⟩:=hpl
   dsimp only at hp1 hp2 hp3 hp4
   have hkeep:∀w',Below w.heap.size w w'->w'.cell? ⟨g,off+k*5,none⟩=some (.string ⟨xn.toArray⟩)/\w'.cell? ⟨g,off+k*5+1,none⟩=some (.int .i64 xo)/\w'.cell? ⟨g,off+k*5+2,none⟩=some (.int .i64 xk)/\w'.cell? ⟨g,off+k*5+3,none⟩=some (.int .i64 xi)/\w'.cell? ⟨g,off+k*5+4,none⟩=some (.string ⟨xt.toArray⟩):=fun w' hb=>⟨(hb.cell (p:=⟨g,off+k*5,none⟩) hg).trans c0,(hb.cell (p:=⟨g,off+k*5+1,none⟩) hg).trans c1,(hb.cell (p:=⟨g,off+k*5+2,none⟩) hg).trans c2,(hb.cell (p:=⟨g,off+k*5+3,none⟩) hg).trans c3,(hb.cell (p:=⟨g,off+k*5+4,none⟩) hg).trans c4⟩
   have HK:=Jh hkeep
   clear hkeep c0 c1 c2 c3 c4
   have w5:(k:Int)<(n:Int):=by omega
   have hS9:=HK.o wr HB.o
   obtain⟨s0,s1,s2,s3,s4⟩:=hS9
   have hgl:g<wr.heap.size:=Nat.lt_of_lt_of_le hg HB.o.size
   by_cases hnx:xn=nm
   ·have HNX:=Jh hnx
    subst hnx
    have hS0:=HK.o wr.drew HB.o.drew
    go_wp2_with fail
    clear s0 s1 s2 s3 s4
    refine wp_region_held_drew (S:=fun w'=>w'.cell? ⟨g,off+k*5,none⟩=some (.string ⟨xn.toArray⟩)/\w'.cell? ⟨g,off+k*5+1,none⟩=some (.int .i64 xo)/\w'.cell? ⟨g,off+k*5+2,none⟩=some (.int .i64 xk)/\w'.cell? ⟨g,off+k*5+3,none⟩=some (.int .i64 xi)/\w'.cell? ⟨g,off+k*5+4,none⟩=some (.string ⟨xt.toArray⟩)) (by kernel_rfl) hS0 (fun _=>?_)
    refine Jz 1 hS0 ?_
    refine Jz 2 hS0 ?_
    refine Jz 3 hS0 ?_
    have hV3:Hid (Blk wr.drew (w.heap.size+1) 97 (sC K lo hi f.toArray t.toArray o B m d)):=HV.o
    have hY3:Hid (Blk wr.drew w.heap.size 97 zC):=HY.o
    have hO3:Hid (OwnW wr.drew (w.heap.size+2) (.slice B m d) es):=OwnK.below HO.o (Below.refl _ _).drew
    have hB3:=Jh HB.o.drew
    clear HV HY HO HB hlV
    generalize wr.drew=w4 at *
    have hS0:=HK.o w4 hB3.o
    refine wpAnyH_pair (i:=0) (j:=4) (by kernel_rfl) rfl rfl (by rfl) (by rfl) (fun Ka hKa=>?_) (fun Kb hKb=>?_)
    ·skip
     obtain⟨z0,z1,z2,z3,z4,z5,z6,_⟩:=blk7 hV3.o
     have hlV:=hV3.o.lt
     go_simp
     refine hKa.o _ _ hS0 ?_
     clear hKa z0 z1 z2 z3 z4 z5 z6 hlV
     refine Jz 4 hS0 ?_
     refine Je 5 (fun Kc hK5=>?_)
     go_simp
     with_reducible refine (rof_at ⟨xn,xo,xk,xi,xt⟩ w4 (by show xn.length<=_;omega) (by show xt.length<=_;omega) hp3 hp4).mono ?_
     rintro e w5 ⟨⟨uK,ulo,uhi,uf,ut,uo,uno⟩,hof,hul,A5,n5,c5,rfl,hl5,hc5,ho5,hb5⟩
     dsimp only at hul hl5 ho5
     replace hB3:=Jh (below_next hB3.o (by have:=hB3.o.size;omega) hb5)
     have hlV:=hV3.o.lt
     replace hV3:=Jh (Blk.below hV3.o hb5 hlV)
     replace hY3:=Jh (Blk.below hY3.o hb5 hY3.o.lt)
     replace hO3:=Jh (OwnK.below hO3.o hb5)
     have hO5:Hid (OwnW w5 (w.heap.size+2) (.slice A5 n5 c5) uno):=ho5.less (by omega)
     have HOF:=Jh hof
     have HL5:=Jh hl5
     have HC5:=Jh hc5
     clear hb5 hlV ho5 hof hl5 hc5
     have hS1:=HK.o w5 hB3.o
     go_wp2_with fail
     refine hK5.o _ _ hS1 ?_
     clear hK5
     refine Je 6 (fun Kc hK6=>?_)
     have hlV:=hV3.o.lt
     go_simp
     have hcA:Canon ⟨K,lo,hi,f,t,o,es⟩:=HI.o.1
     have hcB:Canon ⟨uK,ulo,uhi,uf,ut,uo,uno⟩:=HOF.o.1
     have hl5:=HL5.o
     have hc5:=HC5.o
     with_reducible refine (rmeet_at (w.heap.size+2) ⟨K,lo,hi,f,t,o,es⟩ ⟨uK,ulo,uhi,uf,ut,uo,uno⟩ hcA hcB B m d A5 n5 c5 w5 HM.o (by omega) hl5 (by omega) (by omega) hmd hc5 hO3.o hO5.o).mono ?_
     rintro e w6 ⟨⟨rK,rlo,rhi,rf,rt,ro,rno⟩,him,hrl,A7,n7,c7,rfl,hl7,hc7,ho7,hb7⟩
     dsimp only at hrl hl7 ho7
     replace hB3:=Jh (below_next hB3.o (by have:=hB3.o.size;omega) hb7)
     replace hV3:=Jh (Blk.below hV3.o hb7 hlV)
     replace hY3:=Jh (Blk.below hY3.o hb7 hY3.o.lt)
     have HIM:=Jh him
     have HM7:=Jh hl7
     have HO7:=Jh ho7
     have hnk:n7<=k+1:=by have h1:=HM.o;omega
     clear hb7 hlV him hl7 ho7 hl5 hc5 hO3 hO5
     have hS2:=HK.o w6 hB3.o
     go_wp2_with fail
     refine hK6.o _ _ hS2 ?_
     clear hK6
     refine Je 7 (fun Kc hK7=>?_)
     obtain⟨z0,z1,z2,z3,z4,z5,z6,y0,y1,y2,y3,y4,y5,y6⟩:=blk7 hV3.o
     have hlV:=hV3.o.lt
     go_simp
     have HV7:Hid (Blk (((((((w6.setCell ⟨w.heap.size+1,0,none⟩ (.int .i64 rK)).setCell ⟨w.heap.size+1,1,none⟩ (.int .i64 rlo)).setCell ⟨w.heap.size+1,2,none⟩ (.int .i64 rhi)).setCell ⟨w.heap.size+1,3,none⟩ (.string ⟨rf.toArray⟩)).setCell ⟨w.heap.size+1,4,none⟩ (.string ⟨rt.toArray⟩)).setCell ⟨w.heap.size+1,5,none⟩ (.bool ro)).setCell ⟨w.heap.size+1,6,none⟩ (.slice A7 n7 c7)) (w.heap.size+1) 97 (sC rK rlo rhi rf.toArray rt.toArray ro A7 n7 c7)):=Blk.put7 hV3.o _ _ _ _ _ _ _
     have HY7:Hid (Blk (((((((w6.setCell ⟨w.heap.size+1,0,none⟩ (.int .i64 rK)).setCell ⟨w.heap.size+1,1,none⟩ (.int .i64 rlo)).setCell ⟨w.heap.size+1,2,none⟩ (.int .i64 rhi)).setCell ⟨w.heap.size+1,3,none⟩ (.string ⟨rf.toArray⟩)).setCell ⟨w.heap.size+1,4,none⟩ (.string ⟨rt.toArray⟩)).setCell ⟨w.heap.size+1,5,none⟩ (.bool ro)).setCell ⟨w.heap.size+1,6,none⟩ (.slice A7 n7 c7)) w.heap.size 97 zC):=Blk.far7 hY3.o (by omega) _ _ _ _ _ _ _
     have HO8:Hid (OwnW (((((((w6.setCell ⟨w.heap.size+1,0,none⟩ (.int .i64 rK)).setCell ⟨w.heap.size+1,1,none⟩ (.int .i64 rlo)).setCell ⟨w.heap.size+1,2,none⟩ (.int .i64 rhi)).setCell ⟨w.heap.size+1,3,none⟩ (.string ⟨rf.toArray⟩)).setCell ⟨w.heap.size+1,4,none⟩ (.string ⟨rt.toArray⟩)).setCell ⟨w.heap.size+1,5,none⟩ (.bool ro)).setCell ⟨w.heap.size+1,6,none⟩ (.slice A7 n7 c7)) (w.heap.size+2) (.slice A7 n7 c7) rno):=OwnK.put7 HO7.o (by omega) _ _ _ _ _ _ _
     have hB7:Below w.heap.size w (((((((w6.setCell ⟨w.heap.size+1,0,none⟩ (.int .i64 rK)).setCell ⟨w.heap.size+1,1,none⟩ (.int .i64 rlo)).setCell ⟨w.heap.size+1,2,none⟩ (.int .i64 rhi)).setCell ⟨w.heap.size+1,3,none⟩ (.string ⟨rf.toArray⟩)).setCell ⟨w.heap.size+1,4,none⟩ (.string ⟨rt.toArray⟩)).setCell ⟨w.heap.size+1,5,none⟩ (.bool ro)).setCell ⟨w.heap.size+1,6,none⟩ (.slice A7 n7 c7)):=below_put7 hB3.o (by omega) _ _ _ _ _ _ _
     have HB7:=Jh hB7
     have hS3:=HK.o _ hB7
     have HI7:Hid (IsAll (Fil.of (l.take (k+1)) xn) ⟨rK,rlo,rhi,rf,rt,ro,rno⟩):=by
      show IsAll _ _
      have h9:=all_snoc HI.o HOF.o HIM.o
      rw[of_take_yes hk' (by rw[HX.o]),HX.o]
      exact h9
     refine hK7.o _ _ hS3 ?_
     clear hK7 z0 z1 z2 z3 z4 z5 z6 y0 y1 y2 y3 y4 y5 y6 hlV hV3 hY3 hB3 hB7 HO7 HOF HIM
     refine Jd ?_
     generalize (((((((w6.setCell ⟨w.heap.size+1,0,none⟩ (.int .i64 rK)).setCell ⟨w.heap.size+1,1,none⟩ (.int .i64 rlo)).setCell ⟨w.heap.size+1,2,none⟩ (.int .i64 rhi)).setCell ⟨w.heap.size+1,3,none⟩ (.string ⟨rf.toArray⟩)).setCell ⟨w.heap.size+1,4,none⟩ (.string ⟨rt.toArray⟩)).setCell ⟨w.heap.size+1,5,none⟩ (.bool ro)).setCell ⟨w.heap.size+1,6,none⟩ (.slice A7 n7 c7))=w7 at *
     go_wp2_with fail
     go_roundg (n-(k+1))
     case measure=>omega
     case rel=>exact⟨k+1,rK,rlo,rhi,rf,rt,ro,rno,A7,n7,c7,by omega,Jn,by go_num,hnk,hc7,HM7,HI7,HV7,HY7,HO8,HB7⟩
    ·skip
     have hS0':=hS0
     obtain⟨s0,s1,s2,s3,s4⟩:=hS0'
     go_simp
     refine hKb.o _ _ hS0 ?_
     clear hKb s0 s1 s2 s3 s4
     refine wpAnyH_pair (i:=0) (j:=5) (by kernel_rfl) rfl rfl (by rfl) (by rfl) (fun Ka hKa=>?_) (fun Kb hKb=>?_)
     ·skip
      obtain⟨z0,z1,z2,z3,z4,z5,z6,_⟩:=blk7 hV3.o
      have hlV:=hV3.o.lt
      go_simp
      refine hKa.o _ _ hS0 ?_
      clear hKa z0 z1 z2 z3 z4 z5 z6 hlV
      refine Je 5 (fun Kc hK5=>?_)
      go_simp
      with_reducible refine (rof_at ⟨xn,xo,xk,xi,xt⟩ w4 (by show xn.length<=_;omega) (by show xt.length<=_;omega) hp3 hp4).mono ?_
      rintro e w5 ⟨⟨uK,ulo,uhi,uf,ut,uo,uno⟩,hof,hul,A5,n5,c5,rfl,hl5,hc5,ho5,hb5⟩
      dsimp only at hul hl5 ho5
      replace hB3:=Jh (below_next hB3.o (by have:=hB3.o.size;omega) hb5)
      have hlV:=hV3.o.lt
      replace hV3:=Jh (Blk.below hV3.o hb5 hlV)
      replace hY3:=Jh (Blk.below hY3.o hb5 hY3.o.lt)
      replace hO3:=Jh (OwnK.below hO3.o hb5)
      have hO5:Hid (OwnW w5 (w.heap.size+2) (.slice A5 n5 c5) uno):=ho5.less (by omega)
      have HOF:=Jh hof
      have HL5:=Jh hl5
      have HC5:=Jh hc5
      clear hb5 hlV ho5 hof hl5 hc5
      have hS1:=HK.o w5 hB3.o
      go_wp2_with fail
      refine hK5.o _ _ hS1 ?_
      clear hK5
      refine Je 6 (fun Kc hK6=>?_)
      have hlV:=hV3.o.lt
      go_simp
      have hcA:Canon ⟨K,lo,hi,f,t,o,es⟩:=HI.o.1
      have hcB:Canon ⟨uK,ulo,uhi,uf,ut,uo,uno⟩:=HOF.o.1
      have hl5:=HL5.o
      have hc5:=HC5.o
      with_reducible refine (rmeet_at (w.heap.size+2) ⟨K,lo,hi,f,t,o,es⟩ ⟨uK,ulo,uhi,uf,ut,uo,uno⟩ hcA hcB B m d A5 n5 c5 w5 HM.o (by omega) hl5 (by omega) (by omega) hmd hc5 hO3.o hO5.o).mono ?_
      rintro e w6 ⟨⟨rK,rlo,rhi,rf,rt,ro,rno⟩,him,hrl,A7,n7,c7,rfl,hl7,hc7,ho7,hb7⟩
      dsimp only at hrl hl7 ho7
      replace hB3:=Jh (below_next hB3.o (by have:=hB3.o.size;omega) hb7)
      replace hV3:=Jh (Blk.below hV3.o hb7 hlV)
      replace hY3:=Jh (Blk.below hY3.o hb7 hY3.o.lt)
      have HIM:=Jh him
      have HM7:=Jh hl7
      have HO7:=Jh ho7
      have hnk:n7<=k+1:=by have h1:=HM.o;omega
      clear hb7 hlV him hl7 ho7 hl5 hc5 hO3 hO5
      have hS2:=HK.o w6 hB3.o
      go_wp2_with fail
      refine hK6.o _ _ hS2 ?_
      clear hK6
      refine Je 7 (fun Kc hK7=>?_)
      obtain⟨z0,z1,z2,z3,z4,z5,z6,y0,y1,y2,y3,y4,y5,y6⟩:=blk7 hV3.o
      have hlV:=hV3.o.lt
      go_simp
      have HV7:Hid (Blk (((((((w6.setCell ⟨w.heap.size+1,0,none⟩ (.int .i64 rK)).setCell ⟨w.heap.size+1,1,none⟩ (.int .i64 rlo)).setCell ⟨w.heap.size+1,2,none⟩ (.int .i64 rhi)).setCell ⟨w.heap.size+1,3,none⟩ (.string ⟨rf.toArray⟩)).setCell ⟨w.heap.size+1,4,none⟩ (.string ⟨rt.toArray⟩)).setCell ⟨w.heap.size+1,5,none⟩ (.bool ro)).setCell ⟨w.heap.size+1,6,none⟩ (.slice A7 n7 c7)) (w.heap.size+1) 97 (sC rK rlo rhi rf.toArray rt.toArray ro A7 n7 c7)):=Blk.put7 hV3.o _ _ _ _ _ _ _
      have HY7:Hid (Blk (((((((w6.setCell ⟨w.heap.size+1,0,none⟩ (.int .i64 rK)).setCell ⟨w.heap.size+1,1,none⟩ (.int .i64 rlo)).setCell ⟨w.heap.size+1,2,none⟩ (.int .i64 rhi)).setCell ⟨w.heap.size+1,3,none⟩ (.string ⟨rf.toArray⟩)).setCell ⟨w.heap.size+1,4,none⟩ (.string ⟨rt.toArray⟩)).setCell ⟨w.heap.size+1,5,none⟩ (.bool ro)).setCell ⟨w.heap.size+1,6,none⟩ (.slice A7 n7 c7)) w.heap.size 97 zC):=Blk.far7 hY3.o (by omega) _ _ _ _ _ _ _
      have HO8:Hid (OwnW (((((((w6.setCell ⟨w.heap.size+1,0,none⟩ (.int .i64 rK)).setCell ⟨w.heap.size+1,1,none⟩ (.int .i64 rlo)).setCell ⟨w.heap.size+1,2,none⟩ (.int .i64 rhi)).setCell ⟨w.heap.size+1,3,none⟩ (.string ⟨rf.toArray⟩)).setCell ⟨w.heap.size+1,4,none⟩ (.string ⟨rt.toArray⟩)).setCell ⟨w.heap.size+1,5,none⟩ (.bool ro)).setCell ⟨w.heap.size+1,6,none⟩ (.slice A7 n7 c7)) (w.heap.size+2) (.slice A7 n7 c7) rno):=OwnK.put7 HO7.o (by omega) _ _ _ _ _ _ _
      have hB7:Below w.heap.size w (((((((w6.setCell ⟨w.heap.size+1,0,none⟩ (.int .i64 rK)).setCell ⟨w.heap.size+1,1,none⟩ (.int .i64 rlo)).setCell ⟨w.heap.size+1,2,none⟩ (.int .i64 rhi)).setCell ⟨w.heap.size+1,3,none⟩ (.string ⟨rf.toArray⟩)).setCell ⟨w.heap.size+1,4,none⟩ (.string ⟨rt.toArray⟩)).setCell ⟨w.heap.size+1,5,none⟩ (.bool ro)).setCell ⟨w.heap.size+1,6,none⟩ (.slice A7 n7 c7)):=below_put7 hB3.o (by omega) _ _ _ _ _ _ _
      have HB7:=Jh hB7
      have hS3:=HK.o _ hB7
      have HI7:Hid (IsAll (Fil.of (l.take (k+1)) xn) ⟨rK,rlo,rhi,rf,rt,ro,rno⟩):=by
       show IsAll _ _
       have h9:=all_snoc HI.o HOF.o HIM.o
       rw[of_take_yes hk' (by rw[HX.o]),HX.o]
       exact h9
      refine hK7.o _ _ hS3 ?_
      clear hK7 z0 z1 z2 z3 z4 z5 z6 y0 y1 y2 y3 y4 y5 y6 hlV hV3 hY3 hB3 hB7 HO7 HOF HIM
      refine Jd ?_
      generalize (((((((w6.setCell ⟨w.heap.size+1,0,none⟩ (.int .i64 rK)).setCell ⟨w.heap.size+1,1,none⟩ (.int .i64 rlo)).setCell ⟨w.heap.size+1,2,none⟩ (.int .i64 rhi)).setCell ⟨w.heap.size+1,3,none⟩ (.string ⟨rf.toArray⟩)).setCell ⟨w.heap.size+1,4,none⟩ (.string ⟨rt.toArray⟩)).setCell ⟨w.heap.size+1,5,none⟩ (.bool ro)).setCell ⟨w.heap.size+1,6,none⟩ (.slice A7 n7 c7))=w7 at *
      go_wp2_with fail
      go_roundg (n-(k+1))
      case measure=>omega
      case rel=>exact⟨k+1,rK,rlo,rhi,rf,rt,ro,rno,A7,n7,c7,by omega,Jn,by go_num,hnk,hc7,HM7,HI7,HV7,HY7,HO8,HB7⟩
     ·skip
      go_simp
      with_reducible refine (rof_at ⟨xn,xo,xk,xi,xt⟩ w4 (by show xn.length<=_;omega) (by show xt.length<=_;omega) hp3 hp4).mono ?_
      rintro e w5 ⟨⟨uK,ulo,uhi,uf,ut,uo,uno⟩,hof,hul,A5,n5,c5,rfl,hl5,hc5,ho5,hb5⟩
      dsimp only at hul hl5 ho5
      replace hB3:=Jh (below_next hB3.o (by have:=hB3.o.size;omega) hb5)
      have hlV:=hV3.o.lt
      replace hV3:=Jh (Blk.below hV3.o hb5 hlV)
      replace hY3:=Jh (Blk.below hY3.o hb5 hY3.o.lt)
      replace hO3:=Jh (OwnK.below hO3.o hb5)
      have hO5:Hid (OwnW w5 (w.heap.size+2) (.slice A5 n5 c5) uno):=ho5.less (by omega)
      have HOF:=Jh hof
      have HL5:=Jh hl5
      have HC5:=Jh hc5
      clear hb5 hlV ho5 hof hl5 hc5
      have hS1:=HK.o w5 hB3.o
      go_wp2_with fail
      refine hKb.o _ _ hS1 ?_
      clear hKb
      refine Je 0 (fun Kc hK0=>?_)
      obtain⟨z0,z1,z2,z3,z4,z5,z6,_⟩:=blk7 hV3.o
      have hlV:=hV3.o.lt
      go_simp
      refine hK0.o _ _ hS1 ?_
      clear hK0 z0 z1 z2 z3 z4 z5 z6 hlV
      refine Je 6 (fun Kc hK6=>?_)
      have hlV:=hV3.o.lt
      go_simp
      have hcA:Canon ⟨K,lo,hi,f,t,o,es⟩:=HI.o.1
      have hcB:Canon ⟨uK,ulo,uhi,uf,ut,uo,uno⟩:=HOF.o.1
      have hl5:=HL5.o
      have hc5:=HC5.o
      with_reducible refine (rmeet_at (w.heap.size+2) ⟨K,lo,hi,f,t,o,es⟩ ⟨uK,ulo,uhi,uf,ut,uo,uno⟩ hcA hcB B m d A5 n5 c5 w5 HM.o (by omega) hl5 (by omega) (by omega) hmd hc5 hO3.o hO5.o).mono ?_
      rintro e w6 ⟨⟨rK,rlo,rhi,rf,rt,ro,rno⟩,him,hrl,A7,n7,c7,rfl,hl7,hc7,ho7,hb7⟩
      dsimp only at hrl hl7 ho7
      replace hB3:=Jh (below_next hB3.o (by have:=hB3.o.size;omega) hb7)
      replace hV3:=Jh (Blk.below hV3.o hb7 hlV)
      replace hY3:=Jh (Blk.below hY3.o hb7 hY3.o.lt)
      have HIM:=Jh him
      have HM7:=Jh hl7
      have HO7:=Jh ho7
      have hnk:n7<=k+1:=by have h1:=HM.o;omega
      clear hb7 hlV him hl7 ho7 hl5 hc5 hO3 hO5
      have hS2:=HK.o w6 hB3.o
      go_wp2_with fail
      refine hK6.o _ _ hS2 ?_
      clear hK6
      refine Je 7 (fun Kc hK7=>?_)
      obtain⟨z0,z1,z2,z3,z4,z5,z6,y0,y1,y2,y3,y4,y5,y6⟩:=blk7 hV3.o
      have hlV:=hV3.o.lt
      go_simp
      have HV7:Hid (Blk (((((((w6.setCell ⟨w.heap.size+1,0,none⟩ (.int .i64 rK)).setCell ⟨w.heap.size+1,1,none⟩ (.int .i64 rlo)).setCell ⟨w.heap.size+1,2,none⟩ (.int .i64 rhi)).setCell ⟨w.heap.size+1,3,none⟩ (.string ⟨rf.toArray⟩)).setCell ⟨w.heap.size+1,4,none⟩ (.string ⟨rt.toArray⟩)).setCell ⟨w.heap.size+1,5,none⟩ (.bool ro)).setCell ⟨w.heap.size+1,6,none⟩ (.slice A7 n7 c7)) (w.heap.size+1) 97 (sC rK rlo rhi rf.toArray rt.toArray ro A7 n7 c7)):=Blk.put7 hV3.o _ _ _ _ _ _ _
      have HY7:Hid (Blk (((((((w6.setCell ⟨w.heap.size+1,0,none⟩ (.int .i64 rK)).setCell ⟨w.heap.size+1,1,none⟩ (.int .i64 rlo)).setCell ⟨w.heap.size+1,2,none⟩ (.int .i64 rhi)).setCell ⟨w.heap.size+1,3,none⟩ (.string ⟨rf.toArray⟩)).setCell ⟨w.heap.size+1,4,none⟩ (.string ⟨rt.toArray⟩)).setCell ⟨w.heap.size+1,5,none⟩ (.bool ro)).setCell ⟨w.heap.size+1,6,none⟩ (.slice A7 n7 c7)) w.heap.size 97 zC):=Blk.far7 hY3.o (by omega) _ _ _ _ _ _ _
      have HO8:Hid (OwnW (((((((w6.setCell ⟨w.heap.size+1,0,none⟩ (.int .i64 rK)).setCell ⟨w.heap.size+1,1,none⟩ (.int .i64 rlo)).setCell ⟨w.heap.size+1,2,none⟩ (.int .i64 rhi)).setCell ⟨w.heap.size+1,3,none⟩ (.string ⟨rf.toArray⟩)).setCell ⟨w.heap.size+1,4,none⟩ (.string ⟨rt.toArray⟩)).setCell ⟨w.heap.size+1,5,none⟩ (.bool ro)).setCell ⟨w.heap.size+1,6,none⟩ (.slice A7 n7 c7)) (w.heap.size+2) (.slice A7 n7 c7) rno):=OwnK.put7 HO7.o (by omega) _ _ _ _ _ _ _
      have hB7:Below w.heap.size w (((((((w6.setCell ⟨w.heap.size+1,0,none⟩ (.int .i64 rK)).setCell ⟨w.heap.size+1,1,none⟩ (.int .i64 rlo)).setCell ⟨w.heap.size+1,2,none⟩ (.int .i64 rhi)).setCell ⟨w.heap.size+1,3,none⟩ (.string ⟨rf.toArray⟩)).setCell ⟨w.heap.size+1,4,none⟩ (.string ⟨rt.toArray⟩)).setCell ⟨w.heap.size+1,5,none⟩ (.bool ro)).setCell ⟨w.heap.size+1,6,none⟩ (.slice A7 n7 c7)):=below_put7 hB3.o (by omega) _ _ _ _ _ _ _
      have HB7:=Jh hB7
      have hS3:=HK.o _ hB7
      have HI7:Hid (IsAll (Fil.of (l.take (k+1)) xn) ⟨rK,rlo,rhi,rf,rt,ro,rno⟩):=by
       show IsAll _ _
       have h9:=all_snoc HI.o HOF.o HIM.o
       rw[of_take_yes hk' (by rw[HX.o]),HX.o]
       exact h9
      refine hK7.o _ _ hS3 ?_
      clear hK7 z0 z1 z2 z3 z4 z5 z6 y0 y1 y2 y3 y4 y5 y6 hlV hV3 hY3 hB3 hB7 HO7 HOF HIM
      refine Jd ?_
      generalize (((((((w6.setCell ⟨w.heap.size+1,0,none⟩ (.int .i64 rK)).setCell ⟨w.heap.size+1,1,none⟩ (.int .i64 rlo)).setCell ⟨w.heap.size+1,2,none⟩ (.int .i64 rhi)).setCell ⟨w.heap.size+1,3,none⟩ (.string ⟨rf.toArray⟩)).setCell ⟨w.heap.size+1,4,none⟩ (.string ⟨rt.toArray⟩)).setCell ⟨w.heap.size+1,5,none⟩ (.bool ro)).setCell ⟨w.heap.size+1,6,none⟩ (.slice A7 n7 c7))=w7 at *
      go_wp2_with fail
      go_roundg (n-(k+1))
      case measure=>omega
      case rel=>exact⟨k+1,rK,rlo,rhi,rf,rt,ro,rno,A7,n7,c7,by omega,Jn,by go_num,hnk,hc7,HM7,HI7,HV7,HY7,HO8,HB7⟩
   ·have vq:(xn == nm)=false:=by simpa using hnx
    have HI7:Hid (IsAll (Fil.of (l.take (k+1)) nm) ⟨K,lo,hi,f,t,o,es⟩):=by
     show IsAll _ _
     rw[of_take_no hk' (by rw[HX.o];exact hnx)]
     exact HI.o
    clear hnx
    go_wp2_with fail
    go_roundg (n-(k+1))
    case measure=>omega
    case rel=>exact⟨k+1,K,lo,hi,f,t,o,es,B,m,d,by omega,Jn,by go_num,by omega,hmd,HM,HI7,HV,HY,HO,HB⟩
  ·have hkn:Hid (k=n):=by show k=n;omega
   obtain⟨u0,u1,u2,u3,u4,u5,u6,q0,q1,q2,q3,q4,q5,q6⟩:=blk7 HY.o
   obtain⟨v0,v1,v2,v3,v4,v5,v6,_⟩:=blk7 HV.o
   have hlY:=HY.o.lt
   go_wp2_with fail
   refine bodyPost_ret (v:=spF K lo hi f t o B m d) (by simp[results,Tryz.results58,go_sem,u0,u1,u2,u3,u4,u5,u6]) rfl ?_
   have hI:=HI.o
   rw[hkn.o,List.take_of_length_le (by rw[HN.o];exact Jn)] at hI
   exact⟨⟨K,lo,hi,f,t,o,es⟩,hI,by show es.length<=_;have:=HM.o;have:=HN.o;omega,B,m,d,rfl,HM.o,hmd,(OwnK.put7 HO.o (by omega) _ _ _ _ _ _ _).less (by omega),below_put7 HB.o (Jn) _ _ _ _ _ _ _⟩
end
end Go.Proofs.YtnfigjggjmncdaaGreat
