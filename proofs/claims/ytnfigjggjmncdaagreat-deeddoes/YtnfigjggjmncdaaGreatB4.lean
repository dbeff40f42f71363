/- Contracts. -/
import Derived.Test.YtnfigjggjmncdaaGreatB3
set_option maxRecDepth 100000
set_option maxHeartbeats 4000000
namespace Go.Proofs.YtnfigjggjmncdaaGreat
section
open Go.RowKit Go.Sort Spans Op
theorem meet_2 (f t:LU) (o:Bool) (A:OA) (n c:Nat) (f' t':LU) (o':Bool) (A':OA) (n' c':Nat) (w:World) (es fs:List Val) (tt:LU) (htt:(if o then t' else if o' then t else minT t t')=tt) (oo:Bool) (hoo:(o && o')=oo) (hfs:Short (maxT f f')) (hot:oo=true->tt=[]) (hts:oo=false->Short tt) (hl:∀v∈es++fs,v.k=2/\v.i=0/\v.t.length<=32) (hn:es.length=n) (hm:n<=1000) (hn':fs.length=n') (hm':n'<=1000) (hr:RdW w A es) (hr':RdW w A' fs):
  Calls Tryz.prog 81 #[spF 2 0 0 f t o A n c,spF 2 0 0 f' t' o' A' n' c'] w (fun e w'=>∃r,IsTexts (maxT f f') tt oo (es++fs) r/\r.no.length<=n+n'/\Gives w r e w'):=by
 have HN:=Jh hn
 have HN':=Jh hn'
 clear hn hn'
 have HTT:=Jh htt
 have HOO:=Jh hoo
 clear htt hoo
 have hgr:=gr3 w (.cells (sC 2 0 0 f.toArray t.toArray o A n c) 97) (.cells (sC 2 0 0 f'.toArray t'.toArray o' A' n' c') 97) (.cells zC 97)
 have hbx:=((Blk.new w 97 (sC 2 0 0 f.toArray t.toArray o A n c)).alloc (.cells (sC 2 0 0 f'.toArray t'.toArray o' A' n' c') 97)).alloc (.cells zC 97)
 have hbx2:=(Blk.new (w.alloc (.cells (sC 2 0 0 f.toArray t.toArray o A n c) 97)) 97 (sC 2 0 0 f'.toArray t'.toArray o' A' n' c')).alloc (.cells zC 97)
 have hrs:=Blk.new ((w.alloc (.cells (sC 2 0 0 f.toArray t.toArray o A n c) 97)).alloc (.cells (sC 2 0 0 f'.toArray t'.toArray o' A' n' c') 97)) 97 zC
 rw[show (w.alloc (.cells (sC 2 0 0 f.toArray t.toArray o A n c) 97)).heap.size=w.heap.size+1 by simp] at hbx2
 rw[show ((w.alloc (.cells (sC 2 0 0 f.toArray t.toArray o A n c) 97)).alloc (.cells (sC 2 0 0 f'.toArray t'.toArray o' A' n' c') 97)).heap.size=w.heap.size+2 by simp] at hrs
 have hsz:(((w.alloc (.cells (sC 2 0 0 f.toArray t.toArray o A n c) 97)).alloc (.cells (sC 2 0 0 f'.toArray t'.toArray o' A' n' c') 97)).alloc (.cells zC 97)).heap.size=w.heap.size+3:=by simp
 have hr2:=RdK.below hr hgr.below
 have hr2':=RdK.below hr' hgr.below
 have HGR:=Jh hgr.below
 clear hr hr' hgr
 go_enter Tryz.func81,Tryz.ntmps81
 go_wp2_with fail
 generalize hw2:(((w.alloc (.cells (sC 2 0 0 f.toArray t.toArray o A n c) 97)).alloc (.cells (sC 2 0 0 f'.toArray t'.toArray o' A' n' c') 97)).alloc (.cells zC 97))=w2 at *
 clear hw2
 have hkeep:∀w',Below w2.heap.size w2 w'->Below w2.heap.size w2 w'/\w'.cell? ⟨w.heap.size,0,none⟩=some (.int .i64 2)/\w'.cell? ⟨w.heap.size,6,none⟩=some (.slice A n c)/\w'.cell? ⟨w.heap.size+1,6,none⟩=some (.slice A' n' c'):=fun w' hb=>⟨hb,(hb.cell (p:=⟨w.heap.size,0,none⟩) hbx.lt).trans (hbx.cell 0),(hb.cell (p:=⟨w.heap.size,6,none⟩) hbx.lt).trans (hbx.cell 6),(hb.cell (p:=⟨w.heap.size+1,6,none⟩) hbx2.lt).trans (hbx2.cell 6)⟩
 have HK:=Jh hkeep
 clear hkeep
 have hS0:=HK.o w2.drew (Below.refl _ _).drew
 refine wp_region_held_drew (S:=fun w'=>Below w2.heap.size w2 w'/\w'.cell? ⟨w.heap.size,0,none⟩=some (.int .i64 2)/\w'.cell? ⟨w.heap.size,6,none⟩=some (.slice A n c)/\w'.cell? ⟨w.heap.size+1,6,none⟩=some (.slice A' n' c')) (by kernel_rfl) hS0 (fun _=>?_)
 refine Jz 0 hS0 ?_
 refine Jz 1 hS0 ?_
 refine Jz 2 hS0 ?_
 refine Jz 3 hS0 ?_
 refine Jz 4 hS0 ?_
 refine Jz 5 hS0 ?_
 generalize w2.drew=wd at *
 refine wpAnyH_pair (i:=6) (j:=9) (by kernel_rfl) rfl rfl (by rfl) (by rfl) (fun Ka hKa=>?_) (fun Kb hKb=>?_)
 ·go_simp
  have hb3:Below wd.heap.size wd (wd.alloc (.cells #[.slice A n c,.slice A' n' c'] 95)):=(Below.refl _ _).alloc (Jn) _
  have hS1:=HK.o _ (below_next hS0.1 (Jn) hb3)
  have hblk:=Blk.new wd 95 #[.slice A n c,.slice A' n' c']
  have hblt:=hblk.lt
  have hc0:(wd.alloc (.cells #[.slice A n c,.slice A' n' c'] 95)).cell? ⟨wd.heap.size,0,none⟩=some (.slice A n c):=hblk.cell 0
  have hc1:(wd.alloc (.cells #[.slice A n c,.slice A' n' c'] 95)).cell? ⟨wd.heap.size,1,none⟩=some (.slice A' n' c'):=hblk.cell 1
  refine hKa.o _ _ hS1 ?_
  clear hKa Ka hblk
  generalize wd.alloc (.cells #[.slice A n c,.slice A' n' c'] 95)=w3 at *
  generalize wd.heap.size=g0 at *
  refine wpAnyH_pair (i:=7) (j:=9) (by kernel_rfl) rfl rfl (by rfl) (by rfl) (fun Ka hKa=>?_) (fun Kb hKb=>?_)
  ·skip
   go_simp
   with_reducible refine (concatV_at g0 A n c A' n' c' w3 es fs HN.o (by omega) HN'.o (by omega) (hr2.below hS1.1) (hr2'.below hS1.1) hblt hc0 hc1).mono ?_
   rintro e w4 ⟨v,rfl,ho4,hb4⟩
   have hS2:=HK.o _ (below_next hS1.1 (Jn) hb4)
   obtain⟨B,cc,rfl,hcc,hrB⟩:=OwnK.form ho4 (n:=n+n') (by rw[List.length_append,HN.o,HN'.o])
   go_wp2_with fail
   refine hKa.o _ _ hS2 ?_
   clear hKa Ka
   refine Jz 8 hS2 ?_
   refine Je 9 (fun Kx hKx=>?_)
   go_simp
   have hb5:Below w4.heap.size w4 (w4.alloc (.cells zC 97)):=(Below.refl _ _).alloc (Jn) _
   refine hKx.o _ _ (HK.o _ (below_next hS2.1 (Jn) hb5)) ?_
   clear hKx Kx
   refine Je 10 (fun Kx hKx=>?_)
   go_simp
   have hb6:Below w4.heap.size w4 (w4.alloc (.cells (sC 2 0 0 #[] #[] false B (n+n') cc) 97)):=(Below.refl _ _).alloc (Jn) _
   have hSW:=HK.o _ (below_next hS2.1 (Jn) hb6)
   have hPB:=Blk.new w4 97 (sC 2 0 0 #[] #[] false B (n+n') cc)
   have hoW:OwnW (w4.alloc (.cells (sC 2 0 0 #[] #[] false B (n+n') cc) 97)) w2.heap.size (.slice B (n+n') cc) (es++fs):=(OwnK.below ho4 hb6).less hS1.1.size
   have hBP:∀a,B=some a->a.block≠w4.heap.size:=fun a ha=>Nat.ne_of_lt (own_addr ho4 a ha).2
   have hPlt:w2.heap.size<=w4.heap.size:=hS2.1.size
   refine hKx.o _ _ hSW ?_
   clear hKx Kx hb5 hb6 ho4 hb4 hrB hc0 hc1 hblt hS1 hS2 hb3
   generalize w4.alloc (.cells (sC 2 0 0 #[] #[] false B (n+n') cc) 97)=W at *
   generalize w4.heap.size=P at *
   refine Jd ?_
   have hX1:=Blk.below hbx hSW.1 hbx.lt
   have hX2:=Blk.below hbx2 hSW.1 hbx2.lt
   have hYR:=Blk.below hrs hSW.1 hrs.lt
   have hsW:w2.heap.size<=W.heap.size:=hSW.1.size
   have HBW:=Jh hSW.1
   have HLEN:Hid ((es++fs).length=n+n'):=by show _=_;rw[List.length_append,HN.o,HN'.o]
   clear hbx hbx2 hrs hr2 hr2' hS0 HK
   obtain⟨a0,a1,a2,a3,a4,a5,a6,_⟩:=blk7 hX1
   obtain⟨b0,b1,b2,b3,b4,b5,b6,_⟩:=blk7 hX2
   obtain⟨z0,z1,z2,z3,z4,z5,z6,y0,y1,y2,y3,y4,y5,y6⟩:=blk7 hPB
   have hPW:=hPB.lt
   have hg1:w.heap.size<W.heap.size:=hX1.lt
   have hg2:w.heap.size+1<W.heap.size:=hX2.lt
   have hn1:¬w.heap.size=P:=by omega
   have hn2:¬w.heap.size+1=P:=by omega
   have hn3:¬P=w.heap.size:=by omega
   have hn4:¬P=w.heap.size+1:=by omega
   clear hSW
   have hmax:=run_maxT (P:=Tryz.prog) f f'
   have hP1:Blk (W.setCell ⟨P,3,none⟩ (.string ⟨(maxT f f').toArray⟩)) P 97 (sC 2 0 0 ((maxT f f').toArray) #[] false B (n+n') cc):=by simpa using Blk.put hPB 3 (.string ⟨(maxT f f').toArray⟩)
   have hY1:Blk (W.setCell ⟨P,3,none⟩ (.string ⟨(maxT f f').toArray⟩)) (w.heap.size+2) 97 zC:=Blk.far hYR (by show w.heap.size+2≠P;omega) _
   have hO1:OwnW (W.setCell ⟨P,3,none⟩ (.string ⟨(maxT f f').toArray⟩)) w2.heap.size (.slice B (n+n') cc) (es++fs):=own_far hoW hBP
   have hB1:Below w2.heap.size w2 (W.setCell ⟨P,3,none⟩ (.string ⟨(maxT f f').toArray⟩)):=below_set HBW.o hPlt
   have hs1:W.heap.size<=(W.setCell ⟨P,3,none⟩ (.string ⟨(maxT f f').toArray⟩)).heap.size:=by simp
   clear hX1 hX2 hPB hYR hoW
   go_wp2_with fail
   generalize W.setCell ⟨P,3,none⟩ (.string ⟨(maxT f f').toArray⟩)=W1 at *
   refine (lesser_is 2 0 0 f t o A n c 2 0 0 f' t' o' A' n' c' W1 tt HTT.o oo HOO.o).mono ?_
   rintro e W3 ⟨rfl,hg3⟩
   have hP3:=Blk.below hP1 hg3.below hP1.lt
   have hY3:=Blk.below hY1 hg3.below hY1.lt
   have hO3:=OwnK.below hO1 hg3.below
   have hB3:=below_next hB1 (Jn) hg3.below
   have hs3:=hg3.below.size
   clear a0 a1 a2 a3 a4 a5 a6 b0 b1 b2 b3 b4 b5 b6 z0 z1 z2 z3 z4 z5 z6 y0 y1 y2 y3 y4 y5 y6 HBW hmax
   obtain⟨z0,z1,z2,z3,z4,z5,z6,y0,y1,y2,y3,y4,y5,y6⟩:=blk7 hP3
   have hPW3:=hP3.lt
   have hP2:Blk ((W3.setCell ⟨P,4,none⟩ (.string ⟨tt.toArray⟩)).setCell ⟨P,5,none⟩ (.bool oo)) P 97 (sC 2 0 0 ((maxT f f').toArray) tt.toArray oo B (n+n') cc):=by simpa using (Blk.put hP3 4 (.string ⟨tt.toArray⟩)).put 5 (.bool oo)
   have hY2:Blk ((W3.setCell ⟨P,4,none⟩ (.string ⟨tt.toArray⟩)).setCell ⟨P,5,none⟩ (.bool oo)) (w.heap.size+2) 97 zC:=Blk.far (Blk.far hY3 (by show w.heap.size+2≠P;omega) _) (by show w.heap.size+2≠P;omega) _
   have hO2:OwnW ((W3.setCell ⟨P,4,none⟩ (.string ⟨tt.toArray⟩)).setCell ⟨P,5,none⟩ (.bool oo)) w2.heap.size (.slice B (n+n') cc) (es++fs):=own_far (own_far hO3 hBP) hBP
   have hB2:Below w2.heap.size w2 ((W3.setCell ⟨P,4,none⟩ (.string ⟨tt.toArray⟩)).setCell ⟨P,5,none⟩ (.bool oo)):=below_set (below_set hB3 hPlt) hPlt
   have hs2:W.heap.size<=((W3.setCell ⟨P,4,none⟩ (.string ⟨tt.toArray⟩)).setCell ⟨P,5,none⟩ (.bool oo)).heap.size:=by simp;omega
   clear hP1 hY1 hO1 hB1 hP3 hY3 hO3 hB3 hg3
   go_wp2_with fail
   generalize (W3.setCell ⟨P,4,none⟩ (.string ⟨tt.toArray⟩)).setCell ⟨P,5,none⟩ (.bool oo)=W2 at *
   clear z0 z1 z2 z3 z4 z5 z6 y0 y1 y2 y3 y4 y5 y6
   refine (trim2 (maxT f f') tt oo B (n+n') cc W2 w2.heap.size (es++fs) hfs hot hts hl HLEN.o (by omega) hO2 (by omega)).mono ?_
   rintro e w7 ⟨⟨rK,rlo,rhi,rf,rt,ro,rno⟩,A7,n7,c7,rfl,hl7,hn7,ho7,hb7,hP7⟩
   dsimp only at hl7 ho7
   have HL7:=Jh hl7
   have HP7:=Jh hP7
   have hY7:=Blk.below hY2 hb7 (by omega)
   have hB7:Below w.heap.size w w7:=HGR.o.trans ((hB2.trans hb7).mono (by omega))
   have hs7:=hb7.size
   have hc7:n7<=c7:=by
    obtain⟨_,_,e,h,_⟩:=OwnK.rd ho7
    injection e with e1 e2 e3
    omega
   obtain⟨u0,u1,u2,u3,u4,u5,u6,q0,q1,q2,q3,q4,q5,q6⟩:=blk7 hY7
   have hg7:w.heap.size+2<w7.heap.size:=by omega
   clear hb7 hY7 hl7 hP7
   go_wp2_with fail
   refine bodyPost_ret (v:=spF rK rlo rhi rf rt ro A7 n7 c7) (by simp[results,Tryz.results81,go_sem,u0,u1,u2,u3,u4,u5,u6]) rfl ?_
   exact⟨⟨rK,rlo,rhi,rf,rt,ro,rno⟩,HP7.o,by show rno.length<=_;have:=HL7.o;omega,A7,n7,c7,rfl,HL7.o,hc7,(OwnK.put7 ho7 (by omega) _ _ _ _ _ _ _).less (by omega),below_put7 hB7 (by omega) _ _ _ _ _ _ _⟩
  ·go_simp
   have hb5:Below w3.heap.size w3 (w3.alloc (.cells zC 97)):=(Below.refl _ _).alloc (Jn) _
   have hS2:=HK.o _ (below_next hS1.1 (Jn) hb5)
   have hPB0:=Blk.new w3 97 zC
   have hblt5:=Nat.lt_of_lt_of_le hblt hb5.size
   have hc05:=(hb5.cell (p:=⟨g0,0,none⟩) (by omega)).trans hc0
   have hc15:=(hb5.cell (p:=⟨g0,1,none⟩) (by omega)).trans hc1
   clear hblt hc0 hc1
   have hblt:=hblt5
   have hc0:=hc05
   have hc1:=hc15
   clear hblt5 hc05 hc15
   have hP0:w3.heap.size<(w3.alloc (.cells zC 97)).heap.size:=hPB0.lt
   have hPl:w2.heap.size<=w3.heap.size:=hS1.1.size
   refine hKb.o _ _ hS2 ?_
   clear hKb Kb hb5
   generalize w3.alloc (.cells zC 97)=w5 at *
   generalize w3.heap.size=P at *
   refine Je 7 (fun Ka hKa=>?_)
   go_simp
   with_reducible refine (concatV_at g0 A n c A' n' c' w5 es fs HN.o (by omega) HN'.o (by omega) (hr2.below hS2.1) (hr2'.below hS2.1) hblt hc0 hc1).mono ?_
   rintro e w4 ⟨v,rfl,ho4,hb4⟩
   have hS3:=HK.o _ (below_next hS2.1 (Jn) hb4)
   obtain⟨B,cc,rfl,hcc,hrB⟩:=OwnK.form ho4 (n:=n+n') (by rw[List.length_append,HN.o,HN'.o])
   go_wp2_with fail
   refine hKa.o _ _ hS3 ?_
   clear hKa Ka
   refine Jz 8 hS3 ?_
   refine Je 10 (fun Kx hKx=>?_)
   have hPB1:=Blk.below hPB0 hb4 hP0
   obtain⟨z0,z1,z2,z3,z4,z5,z6,y0,y1,y2,y3,y4,y5,y6⟩:=blk7 hPB1
   have hPlt4:=hPB1.lt
   go_simp
   have hPB2:=((((((Blk.put hPB1 0 (.int .i64 2)).put 1 (.int .i64 0)).put 2 (.int .i64 0)).put 3 (.string ⟨#[]⟩)).put 4 (.string ⟨#[]⟩)).put 5 (.bool false)).put 6 (.slice B (n+n') cc)
   have hPB:Blk (((((((w4.setCell ⟨P,0,none⟩ (.int .i64 2)).setCell ⟨P,1,none⟩ (.int .i64 0)).setCell ⟨P,2,none⟩ (.int .i64 0)).setCell ⟨P,3,none⟩ (.string ⟨#[]⟩)).setCell ⟨P,4,none⟩ (.string ⟨#[]⟩)).setCell ⟨P,5,none⟩ (.bool false)).setCell ⟨P,6,none⟩ (.slice B (n+n') cc)) P 97 (sC 2 0 0 #[] #[] false B (n+n') cc):=by simpa using hPB2
   have hSW:=HK.o (((((((w4.setCell ⟨P,0,none⟩ (.int .i64 2)).setCell ⟨P,1,none⟩ (.int .i64 0)).setCell ⟨P,2,none⟩ (.int .i64 0)).setCell ⟨P,3,none⟩ (.string ⟨#[]⟩)).setCell ⟨P,4,none⟩ (.string ⟨#[]⟩)).setCell ⟨P,5,none⟩ (.bool false)).setCell ⟨P,6,none⟩ (.slice B (n+n') cc)) (below_put7 hS3.1 hPl _ _ _ _ _ _ _)
   have hBP:∀a,B=some a->a.block≠P:=fun a ha=>Nat.ne_of_gt (Nat.lt_of_lt_of_le hP0 (own_addr ho4 a ha).1)
   have hoW:OwnW (((((((w4.setCell ⟨P,0,none⟩ (.int .i64 2)).setCell ⟨P,1,none⟩ (.int .i64 0)).setCell ⟨P,2,none⟩ (.int .i64 0)).setCell ⟨P,3,none⟩ (.string ⟨#[]⟩)).setCell ⟨P,4,none⟩ (.string ⟨#[]⟩)).setCell ⟨P,5,none⟩ (.bool false)).setCell ⟨P,6,none⟩ (.slice B (n+n') cc)) w2.heap.size (.slice B (n+n') cc) (es++fs):=(OwnK.put7 ho4 hP0 _ _ _ _ _ _ _).less (by have:=hS2.1.size;omega)
   have hPlt:w2.heap.size<=P:=hPl
   refine hKx.o _ _ hSW ?_
   clear hKx Kx hPB2 hPB1 hPB0 ho4 hb4 hrB hc0 hc1 hblt hS1 hS2 hS3 z0 z1 z2 z3 z4 z5 z6 y0 y1 y2 y3 y4 y5 y6 hPlt4
   generalize (((((((w4.setCell ⟨P,0,none⟩ (.int .i64 2)).setCell ⟨P,1,none⟩ (.int .i64 0)).setCell ⟨P,2,none⟩ (.int .i64 0)).setCell ⟨P,3,none⟩ (.string ⟨#[]⟩)).setCell ⟨P,4,none⟩ (.string ⟨#[]⟩)).setCell ⟨P,5,none⟩ (.bool false)).setCell ⟨P,6,none⟩ (.slice B (n+n') cc))=W at *
   refine Jd ?_
   have hX1:=Blk.below hbx hSW.1 hbx.lt
   have hX2:=Blk.below hbx2 hSW.1 hbx2.lt
   have hYR:=Blk.below hrs hSW.1 hrs.lt
   have hsW:w2.heap.size<=W.heap.size:=hSW.1.size
   have HBW:=Jh hSW.1
   have HLEN:Hid ((es++fs).length=n+n'):=by show _=_;rw[List.length_append,HN.o,HN'.o]
   clear hbx hbx2 hrs hr2 hr2' hS0 HK
   obtain⟨a0,a1,a2,a3,a4,a5,a6,_⟩:=blk7 hX1
   obtain⟨b0,b1,b2,b3,b4,b5,b6,_⟩:=blk7 hX2
   obtain⟨z0,z1,z2,z3,z4,z5,z6,y0,y1,y2,y3,y4,y5,y6⟩:=blk7 hPB
   have hPW:=hPB.lt
   have hg1:w.heap.size<W.heap.size:=hX1.lt
   have hg2:w.heap.size+1<W.heap.size:=hX2.lt
   have hn1:¬w.heap.size=P:=by omega
   have hn2:¬w.heap.size+1=P:=by omega
   have hn3:¬P=w.heap.size:=by omega
   have hn4:¬P=w.heap.size+1:=by omega
   clear hSW
   have hmax:=run_maxT (P:=Tryz.prog) f f'
   have hP1:Blk (W.setCell ⟨P,3,none⟩ (.string ⟨(maxT f f').toArray⟩)) P 97 (sC 2 0 0 ((maxT f f').toArray) #[] false B (n+n') cc):=by simpa using Blk.put hPB 3 (.string ⟨(maxT f f').toArray⟩)
   have hY1:Blk (W.setCell ⟨P,3,none⟩ (.string ⟨(maxT f f').toArray⟩)) (w.heap.size+2) 97 zC:=Blk.far hYR (by show w.heap.size+2≠P;omega) _
   have hO1:OwnW (W.setCell ⟨P,3,none⟩ (.string ⟨(maxT f f').toArray⟩)) w2.heap.size (.slice B (n+n') cc) (es++fs):=own_far hoW hBP
   have hB1:Below w2.heap.size w2 (W.setCell ⟨P,3,none⟩ (.string ⟨(maxT f f').toArray⟩)):=below_set HBW.o hPlt
   have hs1:W.heap.size<=(W.setCell ⟨P,3,none⟩ (.string ⟨(maxT f f').toArray⟩)).heap.size:=by simp
   clear hX1 hX2 hPB hYR hoW
   go_wp2_with fail
   generalize W.setCell ⟨P,3,none⟩ (.string ⟨(maxT f f').toArray⟩)=W1 at *
   refine (lesser_is 2 0 0 f t o A n c 2 0 0 f' t' o' A' n' c' W1 tt HTT.o oo HOO.o).mono ?_
   rintro e W3 ⟨rfl,hg3⟩
   have hP3:=Blk.below hP1 hg3.below hP1.lt
   have hY3:=Blk.below hY1 hg3.below hY1.lt
   have hO3:=OwnK.below hO1 hg3.below
   have hB3:=below_next hB1 (Jn) hg3.below
   have hs3:=hg3.below.size
   clear a0 a1 a2 a3 a4 a5 a6 b0 b1 b2 b3 b4 b5 b6 z0 z1 z2 z3 z4 z5 z6 y0 y1 y2 y3 y4 y5 y6 HBW hmax
   obtain⟨z0,z1,z2,z3,z4,z5,z6,y0,y1,y2,y3,y4,y5,y6⟩:=blk7 hP3
   have hPW3:=hP3.lt
   have hP2:Blk ((W3.setCell ⟨P,4,none⟩ (.string ⟨tt.toArray⟩)).setCell ⟨P,5,none⟩ (.bool oo)) P 97 (sC 2 0 0 ((maxT f f').toArray) tt.toArray oo B (n+n') cc):=by simpa using (Blk.put hP3 4 (.string ⟨tt.toArray⟩)).put 5 (.bool oo)
   have hY2:Blk ((W3.setCell ⟨P,4,none⟩ (.string ⟨tt.toArray⟩)).setCell ⟨P,5,none⟩ (.bool oo)) (w.heap.size+2) 97 zC:=Blk.far (Blk.far hY3 (by show w.heap.size+2≠P;omega) _) (by show w.heap.size+2≠P;omega) _
   have hO2:OwnW ((W3.setCell ⟨P,4,none⟩ (.string ⟨tt.toArray⟩)).setCell ⟨P,5,none⟩ (.bool oo)) w2.heap.size (.slice B (n+n') cc) (es++fs):=own_far (own_far hO3 hBP) hBP
   have hB2:Below w2.heap.size w2 ((W3.setCell ⟨P,4,none⟩ (.string ⟨tt.toArray⟩)).setCell ⟨P,5,none⟩ (.bool oo)):=below_set (below_set hB3 hPlt) hPlt
   have hs2:W.heap.size<=((W3.setCell ⟨P,4,none⟩ (.string ⟨tt.toArray⟩)).setCell ⟨P,5,none⟩ (.bool oo)).heap.size:=by simp;omega
   clear hP1 hY1 hO1 hB1 hP3 hY3 hO3 hB3 hg3
   go_wp2_with fail
   generalize (W3.setCell ⟨P,4,none⟩ (.string ⟨tt.toArray⟩)).setCell ⟨P,5,none⟩ (.bool oo)=W2 at *
   clear z0 z1 z2 z3 z4 z5 z6 y0 y1 y2 y3 y4 y5 y6
   refine (trim2 (maxT f f') tt oo B (n+n') cc W2 w2.heap.size (es++fs) hfs hot hts hl HLEN.o (by omega) hO2 (by omega)).mono ?_
   rintro e w7 ⟨⟨rK,rlo,rhi,rf,rt,ro,rno⟩,A7,n7,c7,rfl,hl7,hn7,ho7,hb7,hP7⟩
   dsimp only at hl7 ho7
   have HL7:=Jh hl7
   have HP7:=Jh hP7
   have hY7:=Blk.below hY2 hb7 (by omega)
   have hB7:Below w.heap.size w w7:=HGR.o.trans ((hB2.trans hb7).mono (by omega))
   have hs7:=hb7.size
   have hc7:n7<=c7:=by
    obtain⟨_,_,e,h,_⟩:=OwnK.rd ho7
    injection e with e1 e2 e3
    omega
   obtain⟨u0,u1,u2,u3,u4,u5,u6,q0,q1,q2,q3,q4,q5,q6⟩:=blk7 hY7
   have hg7:w.heap.size+2<w7.heap.size:=by omega
   clear hb7 hY7 hl7 hP7
   go_wp2_with fail
   refine bodyPost_ret (v:=spF rK rlo rhi rf rt ro A7 n7 c7) (by simp[results,Tryz.results81,go_sem,u0,u1,u2,u3,u4,u5,u6]) rfl ?_
   exact⟨⟨rK,rlo,rhi,rf,rt,ro,rno⟩,HP7.o,by show rno.length<=_;have:=HL7.o;omega,A7,n7,c7,rfl,HL7.o,hc7,(OwnK.put7 ho7 (by omega) _ _ _ _ _ _ _).less (by omega),below_put7 hB7 (by omega) _ _ _ _ _ _ _⟩
 ·go_simp
  have hb5:Below wd.heap.size wd (wd.alloc (.cells zC 97)):=(Below.refl _ _).alloc (Jn) _
  have hS1:=HK.o _ (below_next hS0.1 (Jn) hb5)
  have hPB0:=Blk.new wd 97 zC
  have hP0:wd.heap.size<(wd.alloc (.cells zC 97)).heap.size:=hPB0.lt
  have hPl:w2.heap.size<=wd.heap.size:=hS0.1.size
  refine hKb.o _ _ hS1 ?_
  clear hKb Kb hb5
  generalize wd.alloc (.cells zC 97)=w3 at *
  generalize wd.heap.size=P at *
  refine Je 6 (fun Ka hKa=>?_)
  go_simp
  have hb3:Below w3.heap.size w3 (w3.alloc (.cells #[.slice A n c,.slice A' n' c'] 95)):=(Below.refl _ _).alloc (Jn) _
  have hS2:=HK.o _ (below_next hS1.1 (Jn) hb3)
  have hPB5:=Blk.below hPB0 hb3 hP0
  have hP5:=Nat.lt_of_lt_of_le hP0 hb3.size
  clear hPB0 hP0
  have hPB0:=hPB5
  have hP0:=hP5
  clear hPB5 hP5
  have hblk:=Blk.new w3 95 #[.slice A n c,.slice A' n' c']
  have hblt:=hblk.lt
  have hc0:(w3.alloc (.cells #[.slice A n c,.slice A' n' c'] 95)).cell? ⟨w3.heap.size,0,none⟩=some (.slice A n c):=hblk.cell 0
  have hc1:(w3.alloc (.cells #[.slice A n c,.slice A' n' c'] 95)).cell? ⟨w3.heap.size,1,none⟩=some (.slice A' n' c'):=hblk.cell 1
  refine hKa.o _ _ hS2 ?_
  clear hKa Ka hblk hb3
  generalize w3.alloc (.cells #[.slice A n c,.slice A' n' c'] 95)=w5 at *
  generalize w3.heap.size=g0 at *
  refine Je 7 (fun Ka hKa=>?_)
  go_simp
  with_reducible refine (concatV_at g0 A n c A' n' c' w5 es fs HN.o (by omega) HN'.o (by omega) (hr2.below hS2.1) (hr2'.below hS2.1) hblt hc0 hc1).mono ?_
  rintro e w4 ⟨v,rfl,ho4,hb4⟩
  have hS3:=HK.o _ (below_next hS2.1 (Jn) hb4)
  obtain⟨B,cc,rfl,hcc,hrB⟩:=OwnK.form ho4 (n:=n+n') (by rw[List.length_append,HN.o,HN'.o])
  go_wp2_with fail
  refine hKa.o _ _ hS3 ?_
  clear hKa Ka
  refine Jz 8 hS3 ?_
  refine Je 10 (fun Kx hKx=>?_)
  have hPB1:=Blk.below hPB0 hb4 hP0
  obtain⟨z0,z1,z2,z3,z4,z5,z6,y0,y1,y2,y3,y4,y5,y6⟩:=blk7 hPB1
  have hPlt4:=hPB1.lt
  go_simp
  have hPB2:=((((((Blk.put hPB1 0 (.int .i64 2)).put 1 (.int .i64 0)).put 2 (.int .i64 0)).put 3 (.string ⟨#[]⟩)).put 4 (.string ⟨#[]⟩)).put 5 (.bool false)).put 6 (.slice B (n+n') cc)
  have hPB:Blk (((((((w4.setCell ⟨P,0,none⟩ (.int .i64 2)).setCell ⟨P,1,none⟩ (.int .i64 0)).setCell ⟨P,2,none⟩ (.int .i64 0)).setCell ⟨P,3,none⟩ (.string ⟨#[]⟩)).setCell ⟨P,4,none⟩ (.string ⟨#[]⟩)).setCell ⟨P,5,none⟩ (.bool false)).setCell ⟨P,6,none⟩ (.slice B (n+n') cc)) P 97 (sC 2 0 0 #[] #[] false B (n+n') cc):=by simpa using hPB2
  have hSW:=HK.o (((((((w4.setCell ⟨P,0,none⟩ (.int .i64 2)).setCell ⟨P,1,none⟩ (.int .i64 0)).setCell ⟨P,2,none⟩ (.int .i64 0)).setCell ⟨P,3,none⟩ (.string ⟨#[]⟩)).setCell ⟨P,4,none⟩ (.string ⟨#[]⟩)).setCell ⟨P,5,none⟩ (.bool false)).setCell ⟨P,6,none⟩ (.slice B (n+n') cc)) (below_put7 hS3.1 hPl _ _ _ _ _ _ _)
  have hBP:∀a,B=some a->a.block≠P:=fun a ha=>Nat.ne_of_gt (Nat.lt_of_lt_of_le hP0 (own_addr ho4 a ha).1)
  have hoW:OwnW (((((((w4.setCell ⟨P,0,none⟩ (.int .i64 2)).setCell ⟨P,1,none⟩ (.int .i64 0)).setCell ⟨P,2,none⟩ (.int .i64 0)).setCell ⟨P,3,none⟩ (.string ⟨#[]⟩)).setCell ⟨P,4,none⟩ (.string ⟨#[]⟩)).setCell ⟨P,5,none⟩ (.bool false)).setCell ⟨P,6,none⟩ (.slice B (n+n') cc)) w2.heap.size (.slice B (n+n') cc) (es++fs):=(OwnK.put7 ho4 hP0 _ _ _ _ _ _ _).less (by have:=hS2.1.size;omega)
  have hPlt:w2.heap.size<=P:=hPl
  refine hKx.o _ _ hSW ?_
  clear hKx Kx hPB2 hPB1 hPB0 ho4 hb4 hrB hc0 hc1 hblt hS1 hS2 hS3 z0 z1 z2 z3 z4 z5 z6 y0 y1 y2 y3 y4 y5 y6 hPlt4
  generalize (((((((w4.setCell ⟨P,0,none⟩ (.int .i64 2)).setCell ⟨P,1,none⟩ (.int .i64 0)).setCell ⟨P,2,none⟩ (.int .i64 0)).setCell ⟨P,3,none⟩ (.string ⟨#[]⟩)).setCell ⟨P,4,none⟩ (.string ⟨#[]⟩)).setCell ⟨P,5,none⟩ (.bool false)).setCell ⟨P,6,none⟩ (.slice B (n+n') cc))=W at *
  refine Jd ?_
  have hX1:=Blk.below hbx hSW.1 hbx.lt
  have hX2:=Blk.below hbx2 hSW.1 hbx2.lt
  have hYR:=Blk.below hrs hSW.1 hrs.lt
  have hsW:w2.heap.size<=W.heap.size:=hSW.1.size
  have HBW:=Jh hSW.1
  have HLEN:Hid ((es++fs).length=n+n'):=by show _=_;rw[List.length_append,HN.o,HN'.o]
  clear hbx hbx2 hrs hr2 hr2' hS0 HK
  obtain⟨a0,a1,a2,a3,a4,a5,a6,_⟩:=blk7 hX1
  obtain⟨b0,b1,b2,b3,b4,b5,b6,_⟩:=blk7 hX2
  obtain⟨z0,z1,z2,z3,z4,z5,z6,y0,y1,y2,y3,y4,y5,y6⟩:=blk7 hPB
  have hPW:=hPB.lt
  have hg1:w.heap.size<W.heap.size:=hX1.lt
  have hg2:w.heap.size+1<W.heap.size:=hX2.lt
  have hn1:¬w.heap.size=P:=by omega
  have hn2:¬w.heap.size+1=P:=by omega
  have hn3:¬P=w.heap.size:=by omega
  have hn4:¬P=w.heap.size+1:=by omega
  clear hSW
  have hmax:=run_maxT (P:=Tryz.prog) f f'
  have hP1:Blk (W.setCell ⟨P,3,none⟩ (.string ⟨(maxT f f').toArray⟩)) P 97 (sC 2 0 0 ((maxT f f').toArray) #[] false B (n+n') cc):=by simpa using Blk.put hPB 3 (.string ⟨(maxT f f').toArray⟩)
  have hY1:Blk (W.setCell ⟨P,3,none⟩ (.string ⟨(maxT f f').toArray⟩)) (w.heap.size+2) 97 zC:=Blk.far hYR (by show w.heap.size+2≠P;omega) _
  have hO1:OwnW (W.setCell ⟨P,3,none⟩ (.string ⟨(maxT f f').toArray⟩)) w2.heap.size (.slice B (n+n') cc) (es++fs):=own_far hoW hBP
  have hB1:Below w2.heap.size w2 (W.setCell ⟨P,3,none⟩ (.string ⟨(maxT f f').toArray⟩)):=below_set HBW.o hPlt
  have hs1:W.heap.size<=(W.setCell ⟨P,3,none⟩ (.string ⟨(maxT f f').toArray⟩)).heap.size:=by simp
  clear hX1 hX2 hPB hYR hoW
  go_wp2_with fail
  generalize W.setCell ⟨P,3,none⟩ (.string ⟨(maxT f f').toArray⟩)=W1 at *
  refine (lesser_is 2 0 0 f t o A n c 2 0 0 f' t' o' A' n' c' W1 tt HTT.o oo HOO.o).mono ?_
  rintro e W3 ⟨rfl,hg3⟩
  have hP3:=Blk.below hP1 hg3.below hP1.lt
  have hY3:=Blk.below hY1 hg3.below hY1.lt
  have hO3:=OwnK.below hO1 hg3.below
  have hB3:=below_next hB1 (Jn) hg3.below
  have hs3:=hg3.below.size
  clear a0 a1 a2 a3 a4 a5 a6 b0 b1 b2 b3 b4 b5 b6 z0 z1 z2 z3 z4 z5 z6 y0 y1 y2 y3 y4 y5 y6 HBW hmax
  obtain⟨z0,z1,z2,z3,z4,z5,z6,y0,y1,y2,y3,y4,y5,y6⟩:=blk7 hP3
  have hPW3:=hP3.lt
  have hP2:Blk ((W3.setCell ⟨P,4,none⟩ (.string ⟨tt.toArray⟩)).setCell ⟨P,5,none⟩ (.bool oo)) P 97 (sC 2 0 0 ((maxT f f').toArray) tt.toArray oo B (n+n') cc):=by simpa using (Blk.put hP3 4 (.string ⟨tt.toArray⟩)).put 5 (.bool oo)
  have hY2:Blk ((W3.setCell ⟨P,4,none⟩ (.string ⟨tt.toArray⟩)).setCell ⟨P,5,none⟩ (.bool oo)) (w.heap.size+2) 97 zC:=Blk.far (Blk.far hY3 (by show w.heap.size+2≠P;omega) _) (by show w.heap.size+2≠P;omega) _
  have hO2:OwnW ((W3.setCell ⟨P,4,none⟩ (.string ⟨tt.toArray⟩)).setCell ⟨P,5,none⟩ (.bool oo)) w2.heap.size (.slice B (n+n') cc) (es++fs):=own_far (own_far hO3 hBP) hBP
  have hB2:Below w2.heap.size w2 ((W3.setCell ⟨P,4,none⟩ (.string ⟨tt.toArray⟩)).setCell ⟨P,5,none⟩ (.bool oo)):=below_set (below_set hB3 hPlt) hPlt
  have hs2:W.heap.size<=((W3.setCell ⟨P,4,none⟩ (.string ⟨tt.toArray⟩)).setCell ⟨P,5,none⟩ (.bool oo)).heap.size:=by simp;omega
  clear hP1 hY1 hO1 hB1 hP3 hY3 hO3 hB3 hg3
  go_wp2_with fail
  generalize (W3.setCell ⟨P,4,none⟩ (.string ⟨tt.toArray⟩)).setCell ⟨P,5,none⟩ (.bool oo)=W2 at *
  clear z0 z1 z2 z3 z4 z5 z6 y0 y1 y2 y3 y4 y5 y6
  refine (trim2 (maxT f f') tt oo B (n+n') cc W2 w2.heap.size (es++fs) hfs hot hts hl HLEN.o (by omega) hO2 (by omega)).mono ?_
  rintro e w7 ⟨⟨rK,rlo,rhi,rf,rt,ro,rno⟩,A7,n7,c7,rfl,hl7,hn7,ho7,hb7,hP7⟩
  dsimp only at hl7 ho7
  have HL7:=Jh hl7
  have HP7:=Jh hP7
  have hY7:=Blk.below hY2 hb7 (by omega)
  have hB7:Below w.heap.size w w7:=HGR.o.trans ((hB2.trans hb7).mono (by omega))
  have hs7:=hb7.size
  have hc7:n7<=c7:=by
   obtain⟨_,_,e,h,_⟩:=OwnK.rd ho7
   injection e with e1 e2 e3
   omega
  obtain⟨u0,u1,u2,u3,u4,u5,u6,q0,q1,q2,q3,q4,q5,q6⟩:=blk7 hY7
  have hg7:w.heap.size+2<w7.heap.size:=by omega
  clear hb7 hY7 hl7 hP7
  go_wp2_with fail
  refine bodyPost_ret (v:=spF rK rlo rhi rf rt ro A7 n7 c7) (by simp[results,Tryz.results81,go_sem,u0,u1,u2,u3,u4,u5,u6]) rfl ?_
  exact⟨⟨rK,rlo,rhi,rf,rt,ro,rno⟩,HP7.o,by show rno.length<=_;have:=HL7.o;omega,A7,n7,c7,rfl,HL7.o,hc7,(OwnK.put7 ho7 (by omega) _ _ _ _ _ _ _).less (by omega),below_put7 hB7 (by omega) _ _ _ _ _ _ _⟩
theorem meet_3 (lo hi:Int) (A:OA) (n c:Nat) (lo' hi':Int) (A':OA) (n' c':Nat) (w:World) (es fs:List Val) (hlow:lowest 3<=max lo lo') (hhigh:min hi hi'<=highest 3) (hl:∀v∈es++fs,v.k=3/\v.t=[]) (hn:es.length=n) (hm:n<=1000) (hn':fs.length=n') (hm':n'<=1000) (hr:RdW w A es) (hr':RdW w A' fs):
  Calls Tryz.prog 81 #[spF 3 lo hi [] [] false A n c,spF 3 lo' hi' [] [] false A' n' c'] w (fun e w'=>∃r,IsInts 3 (max lo lo') (min hi hi') (es++fs) r/\r.no.length<=n+n'/\Gives w r e w'):=
 meet_KK 3 (by decide) (by decide) lo hi A n c lo' hi' A' n' c' w es fs (IsInts 3 (max lo lo') (min hi hi') (es++fs)) (fun B cc W base ho hb=>trim3 _ _ B (n+n') cc W base (es++fs) hlow hhigh hl (by rw[List.length_append,hn,hn']) (by omega) ho hb) hn hm hn' hm' hr hr'
end
end Go.Proofs.YtnfigjggjmncdaaGreat
namespace Spans
open Go.Op (bytesLess)
open Go.Proofs.YtnfigjggjmncdaaGreat (maxT minT)
theorem kind_any {a:Sp} (h:Canon a) (h4:a.kind=4):a=any_:=by
 rcases h with rfl|rfl|h|h
 ·simp[none_] at h4
 ·rfl
 ·exact absurd h4 (N_not4 h).1
 ·exact absurd h4 (T_not4 h).1
theorem maxT_le (a b t:LU):bytesLess t (maxT a b)=false↔bytesLess t a=false/\bytesLess t b=false:=by
 unfold maxT
 by_cases h:bytesLess a b=true
 ·rw[if_pos h]
  exact⟨fun g=>⟨le_trans (le_of_lt h) g,g⟩,fun g=>g.2⟩
 ·rw[if_neg h]
  have h':bytesLess a b=false:=by simpa using h
  exact⟨fun g=>⟨g,le_trans h' g⟩,fun g=>g.1⟩
theorem minT_lt (a b t:LU):bytesLess t (minT a b)=true↔bytesLess t a=true/\bytesLess t b=true:=by
 unfold minT
 by_cases h:bytesLess b a=true
 ·rw[if_pos h]
  exact⟨fun g=>⟨Vals.less_trans _ _ _ g h,g⟩,fun g=>g.2⟩
 ·rw[if_neg h]
  have h':bytesLess b a=false:=by simpa using h
  exact⟨fun g=>⟨g,lt_of_lt_of_le g h'⟩,fun g=>g.1⟩
theorem maxT_short {a b:LU} (ha:Short a) (hb:Short b):Short (maxT a b):=by unfold maxT;split<;>assumption
theorem minT_short {a b:LU} (ha:Short a) (hb:Short b):Short (minT a b):=by unfold minT;split<;>assumption
end Spans
namespace Go.Proofs.YtnfigjggjmncdaaGreat
section
open Go.RowKit Go.Sort Spans Op
def Meets (w:World) (a b:Sp) (e:Ending) (w':World):Prop:=∃r,IsMeet a b r/\r.no.length<=a.no.length+b.no.length/\Gives w r e w'
theorem meet_at (a b:Sp) (ha:Canon a) (hb:Canon b) (A:OA) (n c:Nat) (A':OA) (n' c':Nat) (w:World) (hn:a.no.length=n) (hm:n<=1000) (hn':b.no.length=n') (hm':n'<=1000) (hr:RdW w A a.no) (hr':RdW w A' b.no):
  Calls Tryz.prog 81 #[spF a.kind a.lo a.hi a.frm a.to_ a.opn A n c,spF b.kind b.lo b.hi b.frm b.to_ b.opn A' n' c'] w (Meets w a b):=by
 by_cases h4:a.kind=4
 ·have e:=kind_any ha h4
  subst e
  refine (meet_left 0 0 [] [] false A n c b.kind b.lo b.hi b.frm b.to_ b.opn A' n' c' w b.no hn' (by omega) hr').mono ?_
  intro e w' h
  exact⟨b,(meet_any hb).2,by omega,h⟩
 by_cases h4':b.kind=4
 ·have e:=kind_any hb h4'
  subst e
  refine (meet_right a.kind a.lo a.hi a.frm a.to_ a.opn A n c 0 0 [] [] false A' n' c' w a.no hn (by omega) hr h4).mono ?_
  intro e w' h
  exact⟨a,(meet_any ha).1,by omega,h⟩
 by_cases hk:a.kind=b.kind
 ·rcases ha with rfl | rfl | ha | ha
  ·have e:b=none_:=kind_none hb hk.symm
   subst e
   refine (meet_0 0 0 A n c 0 0 A' n' c' w [] [] hn hm hn' hm' hr hr').mono ?_
   rintro e w' ⟨r,rfl,hl,h⟩
   exact⟨none_,meet_none _ _ (.inl rfl),by simp[none_],h⟩
  ·exact absurd rfl h4
  ·have hb':CanonN b:=by
    rcases hb with rfl|rfl|hb|hb
    ·exact absurd hk (N_not4 ha).2.2
    ·exact absurd hk h4
    ·exact hb
    ·exact absurd (hk.trans hb.kind) (N_not4 ha).2.1
   obtain⟨K,lo,hi,f,t,o,no⟩:=a
   obtain⟨K',lo',hi',f',t',o',no'⟩:=b
   have e1:f=[]:=ha.frm
   have e2:t=[]:=ha.to_
   have e3:o=false:=ha.opn
   have e4:f'=[]:=hb'.frm
   have e5:t'=[]:=hb'.to_
   have e6:o'=false:=hb'.opn
   have e7:K=K':=hk
   subst e1;subst e2;subst e3;subst e4;subst e5;subst e6;subst e7
   have hlow:lowest K<=max lo lo':=Int.le_trans ha.low (Int.le_max_left _ _)
   have hhigh:min hi hi'<=highest K:=Int.le_trans (Int.min_le_left _ _) ha.high
   have hl:∀v∈no++no',v.k=K/\v.t=[]:=fun v hv=>by
    rcases List.mem_append.1 hv with h|h
    ·exact⟨(ha.no v h).1,(ha.no v h).2.1⟩
    ·exact⟨(hb'.no v h).1,(hb'.no v h).2.1⟩
   have hfin:∀r,IsInts K (max lo lo') (min hi hi') (no++no') r->IsMeet ⟨K,lo,hi,[],[],false,no⟩ ⟨K,lo',hi',[],[],false,no'⟩ r:=fun r h=>
    meet_N ha hb' rfl (fun x=>by show max lo lo'<=x↔lo<=x/\lo'<=x;omega) (fun x=>by show x<=min hi hi'↔x<=hi/\x<=hi';omega) (fun v=>List.mem_append) h
   have hkk:K=1∨K=3:=ha.kind
   rcases hkk with rfl|rfl
   ·refine (meet_1 lo hi A n c lo' hi' A' n' c' w no no' hlow hhigh hl hn hm hn' hm' hr hr').mono ?_
    rintro e w' ⟨r,hi,hl,h⟩
    exact⟨r,hfin r hi,by show r.no.length<=no.length+no'.length;dsimp only at hn hn';omega,h⟩
   ·refine (meet_3 lo hi A n c lo' hi' A' n' c' w no no' hlow hhigh hl hn hm hn' hm' hr hr').mono ?_
    rintro e w' ⟨r,hi,hl,h⟩
    exact⟨r,hfin r hi,by show r.no.length<=no.length+no'.length;dsimp only at hn hn';omega,h⟩
  ·have hb':CanonT b:=by
    rcases hb with rfl|rfl|hb|hb
    ·exact absurd hk (T_not4 ha).2
    ·exact absurd hk h4
    ·exact absurd (hk.symm.trans ha.kind) (N_not4 hb).2.1
    ·exact hb
   obtain⟨K,lo,hi,f,t,o,no⟩:=a
   obtain⟨K',lo',hi',f',t',o',no'⟩:=b
   have e1:lo=0:=ha.lo
   have e2:hi=0:=ha.hi
   have e3:lo'=0:=hb'.lo
   have e4:hi'=0:=hb'.hi
   have e5:K=2:=ha.kind
   have e6:K'=2:=hb'.kind
   subst e1;subst e2;subst e3;subst e4;subst e5;subst e6
   have hl:∀v∈no++no',v.k=2/\v.i=0/\v.t.length<=32:=fun v hv=>by
    rcases List.mem_append.1 hv with h|h
    ·exact⟨(ha.no v h).1,(ha.no v h).2.1,(ha.no v h).2.2.1⟩
    ·exact⟨(hb'.no v h).1,(hb'.no v h).2.1,(hb'.no v h).2.2.1⟩
   have i1:o=true->t=[]:=ha.isOpn
   have i2:o'=true->t'=[]:=hb'.isOpn
   have s1:o=false->Short t:=fun h=>(ha.shut h).1
   have s2:o'=false->Short t':=fun h=>(hb'.shut h).1
   refine (meet_2 f t o A n c f' t' o' A' n' c' w no no' _ rfl _ rfl (maxT_short ha.flen hb'.flen) ?_ ?_ hl hn hm hn' hm' hr hr').mono ?_
   ·intro h
    cases o<;>cases o'<;>simp at h
    exact i2 rfl
   ·intro h
    cases o<;>cases o'<;>simp at h
    ·exact minT_short (s1 rfl) (s2 rfl)
    ·exact s1 rfl
    ·exact s2 rfl
   ·rintro e w' ⟨r,hi,hl,h⟩
    refine ⟨r,meet_T ha hb' (fun x=>maxT_le f f' x) (fun x=>?_) (fun v=>List.mem_append) hi,by show r.no.length<=no.length+no'.length;dsimp only at hn hn';omega,h⟩
    show _↔(o=true∨bytesLess x t=true)/\(o'=true∨bytesLess x t'=true)
    cases o<;>cases o'<;>simp
    exact minT_lt t t' x
 ·refine (meet_unlike a.kind a.lo a.hi a.frm a.to_ a.opn A n c b.kind b.lo b.hi b.frm b.to_ b.opn A' n' c' w h4 h4' hk).mono ?_
  intro e w' h
  exact⟨none_,meet_kinds h4 h4' hk,by simp[none_],h⟩
end
end Go.Proofs.YtnfigjggjmncdaaGreat
