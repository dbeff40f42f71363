/- Contracts. -/
import Derived.Test.YtnfigjggjmncdaaGreatB2
set_option maxRecDepth 100000
set_option maxHeartbeats 4000000
namespace Go.Proofs.YtnfigjggjmncdaaGreat
section
open Go.RowKit Go.Sort Spans Op
theorem meet_left (lo hi:Int) (f t:LU) (o:Bool) (A:OA) (n c:Nat) (K' lo' hi':Int) (f' t':LU) (o':Bool) (A':OA) (n' c':Nat) (w:World) (fs:List Val) (hn':fs.length=n') (hm':n'<=100000) (hr':RdW w A' fs):
  Calls Tryz.prog 81 #[spF 4 lo hi f t o A n c,spF K' lo' hi' f' t' o' A' n' c'] w (Gives w ⟨K',lo',hi',f',t',o',fs⟩):=by
 have HN':=Jh hn'
 clear hn'
 have hgr:=gr3 w (.cells (sC 4 lo hi f.toArray t.toArray o A n c) 97) (.cells (sC K' lo' hi' f'.toArray t'.toArray o' A' n' c') 97) (.cells zC 97)
 have hbx:=((Blk.new w 97 (sC 4 lo hi f.toArray t.toArray o A n c)).alloc (.cells (sC K' lo' hi' f'.toArray t'.toArray o' A' n' c') 97)).alloc (.cells zC 97)
 have hbx2:=(Blk.new (w.alloc (.cells (sC 4 lo hi f.toArray t.toArray o A n c) 97)) 97 (sC K' lo' hi' f'.toArray t'.toArray o' A' n' c')).alloc (.cells zC 97)
 have hrs:=Blk.new ((w.alloc (.cells (sC 4 lo hi f.toArray t.toArray o A n c) 97)).alloc (.cells (sC K' lo' hi' f'.toArray t'.toArray o' A' n' c') 97)) 97 zC
 rw[show (w.alloc (.cells (sC 4 lo hi f.toArray t.toArray o A n c) 97)).heap.size=w.heap.size+1 by simp] at hbx2
 rw[show ((w.alloc (.cells (sC 4 lo hi f.toArray t.toArray o A n c) 97)).alloc (.cells (sC K' lo' hi' f'.toArray t'.toArray o' A' n' c') 97)).heap.size=w.heap.size+2 by simp] at hrs
 have hsz:(((w.alloc (.cells (sC 4 lo hi f.toArray t.toArray o A n c) 97)).alloc (.cells (sC K' lo' hi' f'.toArray t'.toArray o' A' n' c') 97)).alloc (.cells zC 97)).heap.size=w.heap.size+3:=by simp
 have hr2:=RdK.below hr' hgr.below
 clear hr'
 go_enter Tryz.func81,Tryz.ntmps81
 go_wp2_with fail
 generalize hw2:(((w.alloc (.cells (sC 4 lo hi f.toArray t.toArray o A n c) 97)).alloc (.cells (sC K' lo' hi' f'.toArray t'.toArray o' A' n' c') 97)).alloc (.cells zC 97))=w2 at *
 clear hw2
 refine (copied_at K' lo' hi' f' t' o' A' n' c' w2 fs HN'.o hm' hr2).mono ?_
 rintro e w7 ⟨A7,n7,c7,rfl,hl7,hc7,ho7,hb7⟩
 dsimp only at hl7 ho7
 have HL7:=Jh hl7
 have hY7:=Blk.below hrs hb7 (by omega)
 have hB7:=below_next hgr.below (Jn) hb7
 have hs7:=hb7.size
 obtain⟨y0,y1,y2,y3,y4,y5,y6,q0,q1,q2,q3,q4,q5,q6⟩:=blk7 hY7
 have hg7:w.heap.size+2<w7.heap.size:=by omega
 clear hb7 hY7 hl7
 go_wp2_with fail
 refine bodyPost_ret (v:=spF K' lo' hi' f' t' o' A7 n7 c7) (by simp[results,Tryz.results81,go_sem,y0,y1,y2,y3,y4,y5,y6]) rfl ?_
 exact⟨A7,n7,c7,rfl,HL7.o,hc7,(OwnK.put7 ho7 (by omega) _ _ _ _ _ _ _).less (by omega),below_put7 hB7 (by omega) _ _ _ _ _ _ _⟩
theorem meet_right (K lo hi:Int) (f t:LU) (o:Bool) (A:OA) (n c:Nat) (lo' hi':Int) (f' t':LU) (o':Bool) (A':OA) (n' c':Nat) (w:World) (es:List Val) (hn:es.length=n) (hm:n<=100000) (hr:RdW w A es) (hK:K≠4):
  Calls Tryz.prog 81 #[spF K lo hi f t o A n c,spF 4 lo' hi' f' t' o' A' n' c'] w (Gives w ⟨K,lo,hi,f,t,o,es⟩):=by
 have HN:=Jh hn
 have v1:(K == 4)=false:=beq_eq_false_iff_ne.2 hK
 clear hn
 have hgr:=gr3 w (.cells (sC K lo hi f.toArray t.toArray o A n c) 97) (.cells (sC 4 lo' hi' f'.toArray t'.toArray o' A' n' c') 97) (.cells zC 97)
 have hbx:=((Blk.new w 97 (sC K lo hi f.toArray t.toArray o A n c)).alloc (.cells (sC 4 lo' hi' f'.toArray t'.toArray o' A' n' c') 97)).alloc (.cells zC 97)
 have hbx2:=(Blk.new (w.alloc (.cells (sC K lo hi f.toArray t.toArray o A n c) 97)) 97 (sC 4 lo' hi' f'.toArray t'.toArray o' A' n' c')).alloc (.cells zC 97)
 have hrs:=Blk.new ((w.alloc (.cells (sC K lo hi f.toArray t.toArray o A n c) 97)).alloc (.cells (sC 4 lo' hi' f'.toArray t'.toArray o' A' n' c') 97)) 97 zC
 rw[show (w.alloc (.cells (sC K lo hi f.toArray t.toArray o A n c) 97)).heap.size=w.heap.size+1 by simp] at hbx2
 rw[show ((w.alloc (.cells (sC K lo hi f.toArray t.toArray o A n c) 97)).alloc (.cells (sC 4 lo' hi' f'.toArray t'.toArray o' A' n' c') 97)).heap.size=w.heap.size+2 by simp] at hrs
 have hsz:(((w.alloc (.cells (sC K lo hi f.toArray t.toArray o A n c) 97)).alloc (.cells (sC 4 lo' hi' f'.toArray t'.toArray o' A' n' c') 97)).alloc (.cells zC 97)).heap.size=w.heap.size+3:=by simp
 have hr2:=RdK.below hr hgr.below
 clear hr
 go_enter Tryz.func81,Tryz.ntmps81
 go_wp2_with fail
 generalize hw2:(((w.alloc (.cells (sC K lo hi f.toArray t.toArray o A n c) 97)).alloc (.cells (sC 4 lo' hi' f'.toArray t'.toArray o' A' n' c') 97)).alloc (.cells zC 97))=w2 at *
 clear hw2
 refine (copied_at K lo hi f t o A n c w2 es HN.o hm hr2).mono ?_
 rintro e w7 ⟨A7,n7,c7,rfl,hl7,hc7,ho7,hb7⟩
 dsimp only at hl7 ho7
 have HL7:=Jh hl7
 have hY7:=Blk.below hrs hb7 (by omega)
 have hB7:=below_next hgr.below (Jn) hb7
 have hs7:=hb7.size
 obtain⟨y0,y1,y2,y3,y4,y5,y6,q0,q1,q2,q3,q4,q5,q6⟩:=blk7 hY7
 have hg7:w.heap.size+2<w7.heap.size:=by omega
 clear hb7 hY7 hl7
 go_wp2_with fail
 refine bodyPost_ret (v:=spF K lo hi f t o A7 n7 c7) (by simp[results,Tryz.results81,go_sem,y0,y1,y2,y3,y4,y5,y6]) rfl ?_
 exact⟨A7,n7,c7,rfl,HL7.o,hc7,(OwnK.put7 ho7 (by omega) _ _ _ _ _ _ _).less (by omega),below_put7 hB7 (by omega) _ _ _ _ _ _ _⟩
theorem meet_unlike (K lo hi:Int) (f t:LU) (o:Bool) (A:OA) (n c:Nat) (K' lo' hi':Int) (f' t':LU) (o':Bool) (A':OA) (n' c':Nat) (w:World) (hK:K≠4) (hK':K'≠4) (hne:K≠K'):
  Calls Tryz.prog 81 #[spF K lo hi f t o A n c,spF K' lo' hi' f' t' o' A' n' c'] w (Gives w none_):=by
 have v1:(K == 4)=false:=beq_eq_false_iff_ne.2 hK
 have v2:(K' == 4)=false:=beq_eq_false_iff_ne.2 hK'
 have v3:(K == K')=false:=beq_eq_false_iff_ne.2 hne
 go_enter Tryz.func81,Tryz.ntmps81
 go_wp2_with fail
 refine bodyPost_ret (v:=spF 0 0 0 [] [] false none 0 0) (by simp[results,Tryz.results81,go_sem]) rfl ?_
 exact⟨none,0,0,rfl,rfl,Jn,OwnK.none_ _ _,(gr3 _ _ _ _).below⟩
theorem lesser_is (K lo hi:Int) (f t:LU) (o:Bool) (A:OA) (n c:Nat) (K' lo' hi':Int) (f' t':LU) (o':Bool) (A':OA) (n' c':Nat) (w:World) (tt:LU) (htt:(if o then t' else if o' then t else minT t t')=tt) (oo:Bool) (hoo:(o && o')=oo):
  Calls Tryz.prog 106 #[spF K lo hi f t o A n c,spF K' lo' hi' f' t' o' A' n' c'] w fun e w'=>e=.returned (.tuple #[.string ⟨tt.toArray⟩,.bool oo])/\Grown w w':=by
 subst htt;subst hoo
 exact lesser_at K lo hi f t o A n c K' lo' hi' f' t' o' A' n' c' w
theorem own_far {w:World} {base:Nat} {A:OA} {n c:Nat} {l:List Val} {b i:Nat} {u:Value} (h:OwnW w base (.slice A n c) l) (hb:∀a,A=some a->a.block≠b):OwnW (w.setCell ⟨b,i,none⟩ u) base (.slice A n c) l:=by
 rcases lies_of_own h with ⟨e,hl⟩|⟨g,cap,sp,e,hbg,hc,hcm,hl,hs⟩
 ·injection e with e1 e2 e3
  subst e1;subst e2;subst e3;subst hl
  exact OwnK.none_ _ _
 ·injection e with e1 e2 e3
  have hgA:=hb _ e1
  rw[e1,e2,e3]
  exact own_of_lies (Blk.far hl (by show g≠b;exact hgA) _) hbg hc hcm hs
section
variable {P:Program} {md:Region.Mode} {ops:Array Oper} {Q:Exit->Act->World->Prop} {S:World->Prop}
theorem wpAnyH_pair {i j:Nat} {oi oj:Oper} {fuel:Nat} {listed:Array Bool} {a:Act} {w:World} (hr:Region.ready md ops listed=[i,j]) (hi:ops.toList[i]?=some oi) (hj:ops.toList[j]?=some oj)
  (hw:Region.wanted oi (yielded ops a.tmps)=true) (hw':Region.wanted oj (yielded ops a.tmps)=true)
  (h:∀K:Act->World->Prop,Hid (∀a w,S w->wpAnyH P md ops Q S fuel (listed.setIfInBounds i true) a w->K a w)->Oper.wp P oi a w K Q)
  (h':∀K:Act->World->Prop,Hid (∀a w,S w->wpAnyH P md ops Q S fuel (listed.setIfInBounds j true) a w->K a w)->Oper.wp P oj a w K Q):wpAnyH P md ops Q S (fuel+1) listed a w:=by
 refine wpAnyH_ready hr (by simp) (AllReadyH.cons (by simpa using hi) (fun K hK=>?_) (AllReadyH.cons (by simpa using hj) (fun K hK=>?_) AllReadyH.nil))
 ·rw[if_pos hw]
  exact h K (fun a w hS hW=>hK.out a w hS (fun _=>hW))
 ·rw[if_pos hw']
  exact h' K (fun a w hS hW=>hK.out a w hS (fun _=>hW))
end
end
section
open Go.RowKit Go.Sort Spans Op
theorem meet_KK (KK:Int) (hk2:(KK == 2)=false) (hk4:(KK == 4)=false) (lo hi:Int) (A:OA) (n c:Nat) (lo' hi':Int) (A':OA) (n' c':Nat) (w:World) (es fs:List Val) (Pq:Sp->Prop) (hT:∀(B:OA) (cc:Nat) (W:World) (base:Nat),OwnW W base (.slice B (n+n') cc) (es++fs)->base<=W.heap.size->Calls Tryz.prog 107 #[spF KK (max lo lo') (min hi hi') [] [] false B (n+n') cc] W (TrimsO Pq base (n+n') W)) (hn:es.length=n) (hm:n<=1000) (hn':fs.length=n') (hm':n'<=1000) (hr:RdW w A es) (hr':RdW w A' fs):
  Calls Tryz.prog 81 #[spF KK lo hi [] [] false A n c,spF KK lo' hi' [] [] false A' n' c'] w (fun e w'=>∃r,Pq r/\r.no.length<=n+n'/\Gives w r e w'):=by
 have HN:=Jh hn
 have HN':=Jh hn'
 clear hn hn'
 have HT:=Jh hT
 clear hT
 have hgr:=gr3 w (.cells (sC KK lo hi #[] #[] false A n c) 97) (.cells (sC KK lo' hi' #[] #[] false A' n' c') 97) (.cells zC 97)
 have hbx:=((Blk.new w 97 (sC KK lo hi #[] #[] false A n c)).alloc (.cells (sC KK lo' hi' #[] #[] false A' n' c') 97)).alloc (.cells zC 97)
 have hbx2:=(Blk.new (w.alloc (.cells (sC KK lo hi #[] #[] false A n c) 97)) 97 (sC KK lo' hi' #[] #[] false A' n' c')).alloc (.cells zC 97)
 have hrs:=Blk.new ((w.alloc (.cells (sC KK lo hi #[] #[] false A n c) 97)).alloc (.cells (sC KK lo' hi' #[] #[] false A' n' c') 97)) 97 zC
 rw[show (w.alloc (.cells (sC KK lo hi #[] #[] false A n c) 97)).heap.size=w.heap.size+1 by simp] at hbx2
 rw[show ((w.alloc (.cells (sC KK lo hi #[] #[] false A n c) 97)).alloc (.cells (sC KK lo' hi' #[] #[] false A' n' c') 97)).heap.size=w.heap.size+2 by simp] at hrs
 have hsz:(((w.alloc (.cells (sC KK lo hi #[] #[] false A n c) 97)).alloc (.cells (sC KK lo' hi' #[] #[] false A' n' c') 97)).alloc (.cells zC 97)).heap.size=w.heap.size+3:=by simp
 have hr2:=RdK.below hr hgr.below
 have hr2':=RdK.below hr' hgr.below
 have HGR:=Jh hgr.below
 clear hr hr' hgr
 go_enter Tryz.func81,Tryz.ntmps81
 go_wp2_with fail
 generalize hw2:(((w.alloc (.cells (sC KK lo hi #[] #[] false A n c) 97)).alloc (.cells (sC KK lo' hi' #[] #[] false A' n' c') 97)).alloc (.cells zC 97))=w2 at *
 clear hw2
 have hkeep:∀w',Below w2.heap.size w2 w'->Below w2.heap.size w2 w'/\w'.cell? ⟨w.heap.size,0,none⟩=some (.int .i64 KK)/\w'.cell? ⟨w.heap.size,6,none⟩=some (.slice A n c)/\w'.cell? ⟨w.heap.size+1,6,none⟩=some (.slice A' n' c'):=fun w' hb=>⟨hb,(hb.cell (p:=⟨w.heap.size,0,none⟩) hbx.lt).trans (hbx.cell 0),(hb.cell (p:=⟨w.heap.size,6,none⟩) hbx.lt).trans (hbx.cell 6),(hb.cell (p:=⟨w.heap.size+1,6,none⟩) hbx2.lt).trans (hbx2.cell 6)⟩
 have HK:=Jh hkeep
 clear hkeep
 have hS0:=HK.o w2.drew (Below.refl _ _).drew
 refine wp_region_held_drew (S:=fun w'=>Below w2.heap.size w2 w'/\w'.cell? ⟨w.heap.size,0,none⟩=some (.int .i64 KK)/\w'.cell? ⟨w.heap.size,6,none⟩=some (.slice A n c)/\w'.cell? ⟨w.heap.size+1,6,none⟩=some (.slice A' n' c')) (by kernel_rfl) hS0 (fun _=>?_)
 refine Jz 0 hS0 ?_
 refine Jz 1 hS0 ?_
 refine Jz 2 hS0 ?_
 refine Jz 3 hS0 ?_
 refine Jz 4 hS0 ?_
 refine Jz 5 hS0 ?_
 generalize w2.drew=wd at *
 refine wpAnyH_pair (i:=6) (j:=9) (by kernel_rfl) rfl rfl (by rfl) (by rfl) (fun Ka hKa=>?_) (fun Kb hKb=>?_)
 ·go_simp
  have hb3:Below wd.heap.size wd (wd.alloc (.cells #[.slice A n c,.slice A' n' c'] 95)):=(Below.refl _ _).alloc (Jn) _
  have hS1:=HK.o _ (below_next hS0.1 (Jn) hb3)
  have hblk:=Blk.new wd 95 #[.slice A n c,.slice A' n' c']
  have hblt:=hblk.lt
  have hc0:(wd.alloc (.cells #[.slice A n c,.slice A' n' c'] 95)).cell? ⟨wd.heap.size,0,none⟩=some (.slice A n c):=hblk.cell 0
  have hc1:(wd.alloc (.cells #[.slice A n c,.slice A' n' c'] 95)).cell? ⟨wd.heap.size,1,none⟩=some (.slice A' n' c'):=hblk.cell 1
  refine hKa.o _ _ hS1 ?_
  clear hKa Ka hblk
  generalize wd.alloc (.cells #[.slice A n c,.slice A' n' c'] 95)=w3 at *
  generalize wd.heap.size=g0 at *
  refine wpAnyH_pair (i:=7) (j:=9) (by kernel_rfl) rfl rfl (by rfl) (by rfl) (fun Ka hKa=>?_) (fun Kb hKb=>?_)
  ·skip
   go_simp
   with_reducible refine (concatV_at g0 A n c A' n' c' w3 es fs HN.o (by omega) HN'.o (by omega) (hr2.below hS1.1) (hr2'.below hS1.1) hblt hc0 hc1).mono ?_
   rintro e w4 ⟨v,rfl,ho4,hb4⟩
   have hS2:=HK.o _ (below_next hS1.1 (Jn) hb4)
   obtain⟨B,cc,rfl,hcc,hrB⟩:=OwnK.form ho4 (n:=n+n') (by rw[List.length_append,HN.o,HN'.o])
   go_wp2_with fail
   refine hKa.o _ _ hS2 ?_
   clear hKa Ka
   refine Jz 8 hS2 ?_
   refine Je 9 (fun Kx hKx=>?_)
   go_simp
   have hb5:Below w4.heap.size w4 (w4.alloc (.cells zC 97)):=(Below.refl _ _).alloc (Jn) _
   refine hKx.o _ _ (HK.o _ (below_next hS2.1 (Jn) hb5)) ?_
   clear hKx Kx
   refine Je 10 (fun Kx hKx=>?_)
   go_simp
   have hb6:Below w4.heap.size w4 (w4.alloc (.cells (sC KK 0 0 #[] #[] false B (n+n') cc) 97)):=(Below.refl _ _).alloc (Jn) _
   have hSW:=HK.o _ (below_next hS2.1 (Jn) hb6)
   have hPB:=Blk.new w4 97 (sC KK 0 0 #[] #[] false B (n+n') cc)
   have hoW:OwnW (w4.alloc (.cells (sC KK 0 0 #[] #[] false B (n+n') cc) 97)) w2.heap.size (.slice B (n+n') cc) (es++fs):=(OwnK.below ho4 hb6).less hS1.1.size
   have hBP:∀a,B=some a->a.block≠w4.heap.size:=fun a ha=>Nat.ne_of_lt (own_addr ho4 a ha).2
   have hPlt:w2.heap.size<=w4.heap.size:=hS2.1.size
   refine hKx.o _ _ hSW ?_
   clear hKx Kx hb5 hb6 ho4 hb4 hrB hc0 hc1 hblt hS1 hS2 hb3
   generalize w4.alloc (.cells (sC KK 0 0 #[] #[] false B (n+n') cc) 97)=W at *
   generalize w4.heap.size=P at *
   refine Jd ?_
   have hX1:=Blk.below hbx hSW.1 hbx.lt
   have hX2:=Blk.below hbx2 hSW.1 hbx2.lt
   have hYR:=Blk.below hrs hSW.1 hrs.lt
   have hsW:w2.heap.size<=W.heap.size:=hSW.1.size
   have HBW:=Jh hSW.1
   have HLEN:Hid ((es++fs).length=n+n'):=by show _=_;rw[List.length_append,HN.o,HN'.o]
   clear hbx hbx2 hrs hr2 hr2' hS0 HK
   obtain⟨a0,a1,a2,a3,a4,a5,a6,_⟩:=blk7 hX1
   obtain⟨b0,b1,b2,b3,b4,b5,b6,_⟩:=blk7 hX2
   obtain⟨z0,z1,z2,z3,z4,z5,z6,y0,y1,y2,y3,y4,y5,y6⟩:=blk7 hPB
   have hPW:=hPB.lt
   have hg1:w.heap.size<W.heap.size:=hX1.lt
   have hg2:w.heap.size+1<W.heap.size:=hX2.lt
   have hn1:¬w.heap.size=P:=by omega
   have hn2:¬w.heap.size+1=P:=by omega
   have hn3:¬P=w.heap.size:=by omega
   have hn4:¬P=w.heap.size+1:=by omega
   clear hSW
   have HX:=Jh hPB
   have HYR:=Jh hYR
   have HOW:=Jh hoW
   clear hX1 hX2 hPB hYR hoW
   go_wp2_with fail
   have hS5:W.drew.cell? ⟨w.heap.size,1,none⟩=some (.int .i64 lo)/\W.drew.cell? ⟨w.heap.size,2,none⟩=some (.int .i64 hi)/\W.drew.cell? ⟨w.heap.size+1,1,none⟩=some (.int .i64 lo')/\W.drew.cell? ⟨w.heap.size+1,2,none⟩=some (.int .i64 hi'):=⟨a1,a2,b1,b2⟩
   refine wp_region_held_drew (S:=fun w'=>w'.cell? ⟨w.heap.size,1,none⟩=some (.int .i64 lo)/\w'.cell? ⟨w.heap.size,2,none⟩=some (.int .i64 hi)/\w'.cell? ⟨w.heap.size+1,1,none⟩=some (.int .i64 lo')/\w'.cell? ⟨w.heap.size+1,2,none⟩=some (.int .i64 hi')) (by kernel_rfl) hS5 (fun _=>?_)
   refine Jz 0 hS5 ?_
   refine Jz 1 hS5 ?_
   refine Jz 2 hS5 ?_
   refine Jz 3 hS5 ?_
   refine Jz 4 hS5 ?_
   refine Jz 5 hS5 ?_
   refine Jz 6 hS5 ?_
   refine Jz 7 hS5 ?_
   refine Jz 8 hS5 ?_
   refine Jz 9 hS5 ?_
   refine Jz 10 hS5 ?_
   refine Je 11 (fun Kx hKx=>?_)
   go_simp
   have hS6:(W.drew.setCell ⟨P,1,none⟩ (.int .i64 (max lo lo'))).cell? ⟨w.heap.size,1,none⟩=some (.int .i64 lo)/\(W.drew.setCell ⟨P,1,none⟩ (.int .i64 (max lo lo'))).cell? ⟨w.heap.size,2,none⟩=some (.int .i64 hi)/\(W.drew.setCell ⟨P,1,none⟩ (.int .i64 (max lo lo'))).cell? ⟨w.heap.size+1,1,none⟩=some (.int .i64 lo')/\(W.drew.setCell ⟨P,1,none⟩ (.int .i64 (max lo lo'))).cell? ⟨w.heap.size+1,2,none⟩=some (.int .i64 hi'):=by
    refine ⟨?_,?_,?_,?_⟩<;>go_simp
   refine hKx.o _ _ hS6 ?_
   clear hKx Kx
   refine Jz 12 hS6 ?_
   refine Je 13 (fun Kx hKx=>?_)
   go_simp
   refine hKx.o _ _ ?_ ?_
   ·refine ⟨?_,?_,?_,?_⟩<;>go_simp
   clear hKx Kx hS5 hS6
   refine Jd ?_
   have hP2:Blk (((W.setCell ⟨P,1,none⟩ (.int .i64 (max lo lo'))).setCell ⟨P,2,none⟩ (.int .i64 (min hi hi'))).drew) P 97 (sC KK (max lo lo') (min hi hi') #[] #[] false B (n+n') cc):=by have h:=(Blk.put (w:=W) HX.o 1 (.int .i64 (max lo lo'))).put 2 (.int .i64 (min hi hi'));simp at h;exact h
   have hY2:Blk (((W.setCell ⟨P,1,none⟩ (.int .i64 (max lo lo'))).setCell ⟨P,2,none⟩ (.int .i64 (min hi hi'))).drew) (w.heap.size+2) 97 zC:=Blk.far (Blk.far (w:=W) HYR.o (by show w.heap.size+2≠P;omega) _) (by show w.heap.size+2≠P;omega) _
   have hO2:OwnW (((W.setCell ⟨P,1,none⟩ (.int .i64 (max lo lo'))).setCell ⟨P,2,none⟩ (.int .i64 (min hi hi'))).drew) w2.heap.size (.slice B (n+n') cc) (es++fs):=own_far (own_far (w:=W) HOW.o hBP) hBP
   have hB2:Below w2.heap.size w2 (((W.setCell ⟨P,1,none⟩ (.int .i64 (max lo lo'))).setCell ⟨P,2,none⟩ (.int .i64 (min hi hi'))).drew):=(below_set (below_set HBW.o hPlt) hPlt).drew
   have hs2:W.heap.size<=(((W.setCell ⟨P,1,none⟩ (.int .i64 (max lo lo'))).setCell ⟨P,2,none⟩ (.int .i64 (min hi hi'))).drew).heap.size:=by simp
   generalize ((W.setCell ⟨P,1,none⟩ (.int .i64 (max lo lo'))).setCell ⟨P,2,none⟩ (.int .i64 (min hi hi'))).drew=W2 at *
   clear a0 a1 a2 a3 a4 a5 a6 b0 b1 b2 b3 b4 b5 b6 z0 z1 z2 z3 z4 z5 z6 y0 y1 y2 y3 y4 y5 y6 HX HYR HOW HBW
   obtain⟨z0,z1,z2,z3,z4,z5,z6,y0,y1,y2,y3,y4,y5,y6⟩:=blk7 hP2
   have hPW2:=hP2.lt
   go_wp2_with fail
   refine (HT.o B cc W2 w2.heap.size hO2 (by omega)).mono ?_
   rintro e w7 ⟨⟨rK,rlo,rhi,rf,rt,ro,rno⟩,A7,n7,c7,rfl,hl7,hn7,ho7,hb7,hP7⟩
   dsimp only at hl7 ho7
   have HL7:=Jh hl7
   have HP7:=Jh hP7
   have hY7:=Blk.below hY2 hb7 (by omega)
   have hB7:Below w.heap.size w w7:=HGR.o.trans ((hB2.trans hb7).mono (by omega))
   have hs7:=hb7.size
   have hc7:n7<=c7:=by
    obtain⟨_,_,e,h,_⟩:=OwnK.rd ho7
    injection e with e1 e2 e3
    omega
   obtain⟨u0,u1,u2,u3,u4,u5,u6,q0,q1,q2,q3,q4,q5,q6⟩:=blk7 hY7
   have hg7:w.heap.size+2<w7.heap.size:=by omega
   clear hb7 hY7 hl7 hP7
   go_wp2_with fail
   refine bodyPost_ret (v:=spF rK rlo rhi rf rt ro A7 n7 c7) (by simp[results,Tryz.results81,go_sem,u0,u1,u2,u3,u4,u5,u6]) rfl ?_
   exact⟨⟨rK,rlo,rhi,rf,rt,ro,rno⟩,HP7.o,by show rno.length<=_;have:=HL7.o;omega,A7,n7,c7,rfl,HL7.o,hc7,(OwnK.put7 ho7 (by omega) _ _ _ _ _ _ _).less (by omega),below_put7 hB7 (by omega) _ _ _ _ _ _ _⟩
  ·go_simp
   have hb5:Below w3.heap.size w3 (w3.alloc (.cells zC 97)):=(Below.refl _ _).alloc (Jn) _
   have hS2:=HK.o _ (below_next hS1.1 (Jn) hb5)
   have hPB0:=Blk.new w3 97 zC
   have hblt5:=Nat.lt_of_lt_of_le hblt hb5.size
   have hc05:=(hb5.cell (p:=⟨g0,0,none⟩) (by omega)).trans hc0
   have hc15:=(hb5.cell (p:=⟨g0,1,none⟩) (by omega)).trans hc1
   clear hblt hc0 hc1
   have hblt:=hblt5
   have hc0:=hc05
   have hc1:=hc15
   clear hblt5 hc05 hc15
   have hP0:w3.heap.size<(w3.alloc (.cells zC 97)).heap.size:=hPB0.lt
   have hPl:w2.heap.size<=w3.heap.size:=hS1.1.size
   refine hKb.o _ _ hS2 ?_
   clear hKb Kb hb5
   generalize w3.alloc (.cells zC 97)=w5 at *
   generalize w3.heap.size=P at *
   refine Je 7 (fun Ka hKa=>?_)
   go_simp
   with_reducible refine (concatV_at g0 A n c A' n' c' w5 es fs HN.o (by omega) HN'.o (by omega) (hr2.below hS2.1) (hr2'.below hS2.1) hblt hc0 hc1).mono ?_
   rintro e w4 ⟨v,rfl,ho4,hb4⟩
   have hS3:=HK.o _ (below_next hS2.1 (Jn) hb4)
   obtain⟨B,cc,rfl,hcc,hrB⟩:=OwnK.form ho4 (n:=n+n') (by rw[List.length_append,HN.o,HN'.o])
   go_wp2_with fail
   refine hKa.o _ _ hS3 ?_
   clear hKa Ka
   refine Jz 8 hS3 ?_
   refine Je 10 (fun Kx hKx=>?_)
   have hPB1:=Blk.below hPB0 hb4 hP0
   obtain⟨z0,z1,z2,z3,z4,z5,z6,y0,y1,y2,y3,y4,y5,y6⟩:=blk7 hPB1
   have hPlt4:=hPB1.lt
   go_simp
   have hPB2:=((((((Blk.put hPB1 0 (.int .i64 KK)).put 1 (.int .i64 0)).put 2 (.int .i64 0)).put 3 (.string ⟨#[]⟩)).put 4 (.string ⟨#[]⟩)).put 5 (.bool false)).put 6 (.slice B (n+n') cc)
   have hPB:Blk (((((((w4.setCell ⟨P,0,none⟩ (.int .i64 KK)).setCell ⟨P,1,none⟩ (.int .i64 0)).setCell ⟨P,2,none⟩ (.int .i64 0)).setCell ⟨P,3,none⟩ (.string ⟨#[]⟩)).setCell ⟨P,4,none⟩ (.string ⟨#[]⟩)).setCell ⟨P,5,none⟩ (.bool false)).setCell ⟨P,6,none⟩ (.slice B (n+n') cc)) P 97 (sC KK 0 0 #[] #[] false B (n+n') cc):=by simpa using hPB2
   have hSW:=HK.o (((((((w4.setCell ⟨P,0,none⟩ (.int .i64 KK)).setCell ⟨P,1,none⟩ (.int .i64 0)).setCell ⟨P,2,none⟩ (.int .i64 0)).setCell ⟨P,3,none⟩ (.string ⟨#[]⟩)).setCell ⟨P,4,none⟩ (.string ⟨#[]⟩)).setCell ⟨P,5,none⟩ (.bool false)).setCell ⟨P,6,none⟩ (.slice B (n+n') cc)) (below_put7 hS3.1 hPl _ _ _ _ _ _ _)
   have hBP:∀a,B=some a->a.block≠P:=fun a ha=>Nat.ne_of_gt (Nat.lt_of_lt_of_le hP0 (own_addr ho4 a ha).1)
   have hoW:OwnW (((((((w4.setCell ⟨P,0,none⟩ (.int .i64 KK)).setCell ⟨P,1,none⟩ (.int .i64 0)).setCell ⟨P,2,none⟩ (.int .i64 0)).setCell ⟨P,3,none⟩ (.string ⟨#[]⟩)).setCell ⟨P,4,none⟩ (.string ⟨#[]⟩)).setCell ⟨P,5,none⟩ (.bool false)).setCell ⟨P,6,none⟩ (.slice B (n+n') cc)) w2.heap.size (.slice B (n+n') cc) (es++fs):=(OwnK.put7 ho4 hP0 _ _ _ _ _ _ _).less (by have:=hS2.1.size;omega)
   have hPlt:w2.heap.size<=P:=hPl
   refine hKx.o _ _ hSW ?_
   clear hKx Kx hPB2 hPB1 hPB0 ho4 hb4 hrB hc0 hc1 hblt hS1 hS2 hS3 z0 z1 z2 z3 z4 z5 z6 y0 y1 y2 y3 y4 y5 y6 hPlt4
   generalize (((((((w4.setCell ⟨P,0,none⟩ (.int .i64 KK)).setCell ⟨P,1,none⟩ (.int .i64 0)).setCell ⟨P,2,none⟩ (.int .i64 0)).setCell ⟨P,3,none⟩ (.string ⟨#[]⟩)).setCell ⟨P,4,none⟩ (.string ⟨#[]⟩)).setCell ⟨P,5,none⟩ (.bool false)).setCell ⟨P,6,none⟩ (.slice B (n+n') cc))=W at *
   refine Jd ?_
   have hX1:=Blk.below hbx hSW.1 hbx.lt
   have hX2:=Blk.below hbx2 hSW.1 hbx2.lt
   have hYR:=Blk.below hrs hSW.1 hrs.lt
   have hsW:w2.heap.size<=W.heap.size:=hSW.1.size
   have HBW:=Jh hSW.1
   have HLEN:Hid ((es++fs).length=n+n'):=by show _=_;rw[List.length_append,HN.o,HN'.o]
   clear hbx hbx2 hrs hr2 hr2' hS0 HK
   obtain⟨a0,a1,a2,a3,a4,a5,a6,_⟩:=blk7 hX1
   obtain⟨b0,b1,b2,b3,b4,b5,b6,_⟩:=blk7 hX2
   obtain⟨z0,z1,z2,z3,z4,z5,z6,y0,y1,y2,y3,y4,y5,y6⟩:=blk7 hPB
   have hPW:=hPB.lt
   have hg1:w.heap.size<W.heap.size:=hX1.lt
   have hg2:w.heap.size+1<W.heap.size:=hX2.lt
   have hn1:¬w.heap.size=P:=by omega
   have hn2:¬w.heap.size+1=P:=by omega
   have hn3:¬P=w.heap.size:=by omega
   have hn4:¬P=w.heap.size+1:=by omega
   clear hSW
   have HX:=Jh hPB
   have HYR:=Jh hYR
   have HOW:=Jh hoW
   clear hX1 hX2 hPB hYR hoW
   go_wp2_with fail
   have hS5:W.drew.cell? ⟨w.heap.size,1,none⟩=some (.int .i64 lo)/\W.drew.cell? ⟨w.heap.size,2,none⟩=some (.int .i64 hi)/\W.drew.cell? ⟨w.heap.size+1,1,none⟩=some (.int .i64 lo')/\W.drew.cell? ⟨w.heap.size+1,2,none⟩=some (.int .i64 hi'):=⟨a1,a2,b1,b2⟩
   refine wp_region_held_drew (S:=fun w'=>w'.cell? ⟨w.heap.size,1,none⟩=some (.int .i64 lo)/\w'.cell? ⟨w.heap.size,2,none⟩=some (.int .i64 hi)/\w'.cell? ⟨w.heap.size+1,1,none⟩=some (.int .i64 lo')/\w'.cell? ⟨w.heap.size+1,2,none⟩=some (.int .i64 hi')) (by kernel_rfl) hS5 (fun _=>?_)
   refine Jz 0 hS5 ?_
   refine Jz 1 hS5 ?_
   refine Jz 2 hS5 ?_
   refine Jz 3 hS5 ?_
   refine Jz 4 hS5 ?_
   refine Jz 5 hS5 ?_
   refine Jz 6 hS5 ?_
   refine Jz 7 hS5 ?_
   refine Jz 8 hS5 ?_
   refine Jz 9 hS5 ?_
   refine Jz 10 hS5 ?_
   refine Je 11 (fun Kx hKx=>?_)
   go_simp
   have hS6:(W.drew.setCell ⟨P,1,none⟩ (.int .i64 (max lo lo'))).cell? ⟨w.heap.size,1,none⟩=some (.int .i64 lo)/\(W.drew.setCell ⟨P,1,none⟩ (.int .i64 (max lo lo'))).cell? ⟨w.heap.size,2,none⟩=some (.int .i64 hi)/\(W.drew.setCell ⟨P,1,none⟩ (.int .i64 (max lo lo'))).cell? ⟨w.heap.size+1,1,none⟩=some (.int .i64 lo')/\(W.drew.setCell ⟨P,1,none⟩ (.int .i64 (max lo lo'))).cell? ⟨w.heap.size+1,2,none⟩=some (.int .i64 hi'):=by
    refine ⟨?_,?_,?_,?_⟩<;>go_simp
   refine hKx.o _ _ hS6 ?_
   clear hKx Kx
   refine Jz 12 hS6 ?_
   refine Je 13 (fun Kx hKx=>?_)
   go_simp
   refine hKx.o _ _ ?_ ?_
   ·refine ⟨?_,?_,?_,?_⟩<;>go_simp
   clear hKx Kx hS5 hS6
   refine Jd ?_
   have hP2:Blk (((W.setCell ⟨P,1,none⟩ (.int .i64 (max lo lo'))).setCell ⟨P,2,none⟩ (.int .i64 (min hi hi'))).drew) P 97 (sC KK (max lo lo') (min hi hi') #[] #[] false B (n+n') cc):=by have h:=(Blk.put (w:=W) HX.o 1 (.int .i64 (max lo lo'))).put 2 (.int .i64 (min hi hi'));simp at h;exact h
   have hY2:Blk (((W.setCell ⟨P,1,none⟩ (.int .i64 (max lo lo'))).setCell ⟨P,2,none⟩ (.int .i64 (min hi hi'))).drew) (w.heap.size+2) 97 zC:=Blk.far (Blk.far (w:=W) HYR.o (by show w.heap.size+2≠P;omega) _) (by show w.heap.size+2≠P;omega) _
   have hO2:OwnW (((W.setCell ⟨P,1,none⟩ (.int .i64 (max lo lo'))).setCell ⟨P,2,none⟩ (.int .i64 (min hi hi'))).drew) w2.heap.size (.slice B (n+n') cc) (es++fs):=own_far (own_far (w:=W) HOW.o hBP) hBP
   have hB2:Below w2.heap.size w2 (((W.setCell ⟨P,1,none⟩ (.int .i64 (max lo lo'))).setCell ⟨P,2,none⟩ (.int .i64 (min hi hi'))).drew):=(below_set (below_set HBW.o hPlt) hPlt).drew
   have hs2:W.heap.size<=(((W.setCell ⟨P,1,none⟩ (.int .i64 (max lo lo'))).setCell ⟨P,2,none⟩ (.int .i64 (min hi hi'))).drew).heap.size:=by simp
   generalize ((W.setCell ⟨P,1,none⟩ (.int .i64 (max lo lo'))).setCell ⟨P,2,none⟩ (.int .i64 (min hi hi'))).drew=W2 at *
   clear a0 a1 a2 a3 a4 a5 a6 b0 b1 b2 b3 b4 b5 b6 z0 z1 z2 z3 z4 z5 z6 y0 y1 y2 y3 y4 y5 y6 HX HYR HOW HBW
   obtain⟨z0,z1,z2,z3,z4,z5,z6,y0,y1,y2,y3,y4,y5,y6⟩:=blk7 hP2
   have hPW2:=hP2.lt
   go_wp2_with fail
   refine (HT.o B cc W2 w2.heap.size hO2 (by omega)).mono ?_
   rintro e w7 ⟨⟨rK,rlo,rhi,rf,rt,ro,rno⟩,A7,n7,c7,rfl,hl7,hn7,ho7,hb7,hP7⟩
   dsimp only at hl7 ho7
   have HL7:=Jh hl7
   have HP7:=Jh hP7
   have hY7:=Blk.below hY2 hb7 (by omega)
   have hB7:Below w.heap.size w w7:=HGR.o.trans ((hB2.trans hb7).mono (by omega))
   have hs7:=hb7.size
   have hc7:n7<=c7:=by
    obtain⟨_,_,e,h,_⟩:=OwnK.rd ho7
    injection e with e1 e2 e3
    omega
   obtain⟨u0,u1,u2,u3,u4,u5,u6,q0,q1,q2,q3,q4,q5,q6⟩:=blk7 hY7
   have hg7:w.heap.size+2<w7.heap.size:=by omega
   clear hb7 hY7 hl7 hP7
   go_wp2_with fail
   refine bodyPost_ret (v:=spF rK rlo rhi rf rt ro A7 n7 c7) (by simp[results,Tryz.results81,go_sem,u0,u1,u2,u3,u4,u5,u6]) rfl ?_
   exact⟨⟨rK,rlo,rhi,rf,rt,ro,rno⟩,HP7.o,by show rno.length<=_;have:=HL7.o;omega,A7,n7,c7,rfl,HL7.o,hc7,(OwnK.put7 ho7 (by omega) _ _ _ _ _ _ _).less (by omega),below_put7 hB7 (by omega) _ _ _ _ _ _ _⟩
 ·go_simp
  have hb5:Below wd.heap.size wd (wd.alloc (.cells zC 97)):=(Below.refl _ _).alloc (Jn) _
  have hS1:=HK.o _ (below_next hS0.1 (Jn) hb5)
  have hPB0:=Blk.new wd 97 zC
  have hP0:wd.heap.size<(wd.alloc (.cells zC 97)).heap.size:=hPB0.lt
  have hPl:w2.heap.size<=wd.heap.size:=hS0.1.size
  refine hKb.o _ _ hS1 ?_
  clear hKb Kb hb5
  generalize wd.alloc (.cells zC 97)=w3 at *
  generalize wd.heap.size=P at *
  refine Je 6 (fun Ka hKa=>?_)
  go_simp
  have hb3:Below w3.heap.size w3 (w3.alloc (.cells #[.slice A n c,.slice A' n' c'] 95)):=(Below.refl _ _).alloc (Jn) _
  have hS2:=HK.o _ (below_next hS1.1 (Jn) hb3)
  have hPB5:=Blk.below hPB0 hb3 hP0
  have hP5:=Nat.lt_of_lt_of_le hP0 hb3.size
  clear hPB0 hP0
  have hPB0:=hPB5
  have hP0:=hP5
  clear hPB5 hP5
  have hblk:=Blk.new w3 95 #[.slice A n c,.slice A' n' c']
  have hblt:=hblk.lt
  have hc0:(w3.alloc (.cells #[.slice A n c,.slice A' n' c'] 95)).cell? ⟨w3.heap.size,0,none⟩=some (.slice A n c):=hblk.cell 0
  have hc1:(w3.alloc (.cells #[.slice A n c,.slice A' n' c'] 95)).cell? ⟨w3.heap.size,1,none⟩=some (.slice A' n' c'):=hblk.cell 1
  refine hKa.o _ _ hS2 ?_
  clear hKa Ka hblk hb3
  generalize w3.alloc (.cells #[.slice A n c,.slice A' n' c'] 95)=w5 at *
  generalize w3.heap.size=g0 at *
  refine Je 7 (fun Ka hKa=>?_)
  go_simp
  with_reducible refine (concatV_at g0 A n c A' n' c' w5 es fs HN.o (by omega) HN'.o (by omega) (hr2.below hS2.1) (hr2'.below hS2.1) hblt hc0 hc1).mono ?_
  rintro e w4 ⟨v,rfl,ho4,hb4⟩
  have hS3:=HK.o _ (below_next hS2.1 (Jn) hb4)
  obtain⟨B,cc,rfl,hcc,hrB⟩:=OwnK.form ho4 (n:=n+n') (by rw[List.length_append,HN.o,HN'.o])
  go_wp2_with fail
  refine hKa.o _ _ hS3 ?_
  clear hKa Ka
  refine Jz 8 hS3 ?_
  refine Je 10 (fun Kx hKx=>?_)
  have hPB1:=Blk.below hPB0 hb4 hP0
  obtain⟨z0,z1,z2,z3,z4,z5,z6,y0,y1,y2,y3,y4,y5,y6⟩:=blk7 hPB1
  have hPlt4:=hPB1.lt
  go_simp
  have hPB2:=((((((Blk.put hPB1 0 (.int .i64 KK)).put 1 (.int .i64 0)).put 2 (.int .i64 0)).put 3 (.string ⟨#[]⟩)).put 4 (.string ⟨#[]⟩)).put 5 (.bool false)).put 6 (.slice B (n+n') cc)
  have hPB:Blk (((((((w4.setCell ⟨P,0,none⟩ (.int .i64 KK)).setCell ⟨P,1,none⟩ (.int .i64 0)).setCell ⟨P,2,none⟩ (.int .i64 0)).setCell ⟨P,3,none⟩ (.string ⟨#[]⟩)).setCell ⟨P,4,none⟩ (.string ⟨#[]⟩)).setCell ⟨P,5,none⟩ (.bool false)).setCell ⟨P,6,none⟩ (.slice B (n+n') cc)) P 97 (sC KK 0 0 #[] #[] false B (n+n') cc):=by simpa using hPB2
  have hSW:=HK.o (((((((w4.setCell ⟨P,0,none⟩ (.int .i64 KK)).setCell ⟨P,1,none⟩ (.int .i64 0)).setCell ⟨P,2,none⟩ (.int .i64 0)).setCell ⟨P,3,none⟩ (.string ⟨#[]⟩)).setCell ⟨P,4,none⟩ (.string ⟨#[]⟩)).setCell ⟨P,5,none⟩ (.bool false)).setCell ⟨P,6,none⟩ (.slice B (n+n') cc)) (below_put7 hS3.1 hPl _ _ _ _ _ _ _)
  have hBP:∀a,B=some a->a.block≠P:=fun a ha=>Nat.ne_of_gt (Nat.lt_of_lt_of_le hP0 (own_addr ho4 a ha).1)
  have hoW:OwnW (((((((w4.setCell ⟨P,0,none⟩ (.int .i64 KK)).setCell ⟨P,1,none⟩ (.int .i64 0)).setCell ⟨P,2,none⟩ (.int .i64 0)).setCell ⟨P,3,none⟩ (.string ⟨#[]⟩)).setCell ⟨P,4,none⟩ (.string ⟨#[]⟩)).setCell ⟨P,5,none⟩ (.bool false)).setCell ⟨P,6,none⟩ (.slice B (n+n') cc)) w2.heap.size (.slice B (n+n') cc) (es++fs):=(OwnK.put7 ho4 hP0 _ _ _ _ _ _ _).less (by have:=hS2.1.size;omega)
  have hPlt:w2.heap.size<=P:=hPl
  refine hKx.o _ _ hSW ?_
  clear hKx Kx hPB2 hPB1 hPB0 ho4 hb4 hrB hc0 hc1 hblt hS1 hS2 hS3 z0 z1 z2 z3 z4 z5 z6 y0 y1 y2 y3 y4 y5 y6 hPlt4
  generalize (((((((w4.setCell ⟨P,0,none⟩ (.int .i64 KK)).setCell ⟨P,1,none⟩ (.int .i64 0)).setCell ⟨P,2,none⟩ (.int .i64 0)).setCell ⟨P,3,none⟩ (.string ⟨#[]⟩)).setCell ⟨P,4,none⟩ (.string ⟨#[]⟩)).setCell ⟨P,5,none⟩ (.bool false)).setCell ⟨P,6,none⟩ (.slice B (n+n') cc))=W at *
  refine Jd ?_
  have hX1:=Blk.below hbx hSW.1 hbx.lt
  have hX2:=Blk.below hbx2 hSW.1 hbx2.lt
  have hYR:=Blk.below hrs hSW.1 hrs.lt
  have hsW:w2.heap.size<=W.heap.size:=hSW.1.size
  have HBW:=Jh hSW.1
  have HLEN:Hid ((es++fs).length=n+n'):=by show _=_;rw[List.length_append,HN.o,HN'.o]
  clear hbx hbx2 hrs hr2 hr2' hS0 HK
  obtain⟨a0,a1,a2,a3,a4,a5,a6,_⟩:=blk7 hX1
  obtain⟨b0,b1,b2,b3,b4,b5,b6,_⟩:=blk7 hX2
  obtain⟨z0,z1,z2,z3,z4,z5,z6,y0,y1,y2,y3,y4,y5,y6⟩:=blk7 hPB
  have hPW:=hPB.lt
  have hg1:w.heap.size<W.heap.size:=hX1.lt
  have hg2:w.heap.size+1<W.heap.size:=hX2.lt
  have hn1:¬w.heap.size=P:=by omega
  have hn2:¬w.heap.size+1=P:=by omega
  have hn3:¬P=w.heap.size:=by omega
  have hn4:¬P=w.heap.size+1:=by omega
  clear hSW
  have HX:=Jh hPB
  have HYR:=Jh hYR
  have HOW:=Jh hoW
  clear hX1 hX2 hPB hYR hoW
  go_wp2_with fail
  have hS5:W.drew.cell? ⟨w.heap.size,1,none⟩=some (.int .i64 lo)/\W.drew.cell? ⟨w.heap.size,2,none⟩=some (.int .i64 hi)/\W.drew.cell? ⟨w.heap.size+1,1,none⟩=some (.int .i64 lo')/\W.drew.cell? ⟨w.heap.size+1,2,none⟩=some (.int .i64 hi'):=⟨a1,a2,b1,b2⟩
  refine wp_region_held_drew (S:=fun w'=>w'.cell? ⟨w.heap.size,1,none⟩=some (.int .i64 lo)/\w'.cell? ⟨w.heap.size,2,none⟩=some (.int .i64 hi)/\w'.cell? ⟨w.heap.size+1,1,none⟩=some (.int .i64 lo')/\w'.cell? ⟨w.heap.size+1,2,none⟩=some (.int .i64 hi')) (by kernel_rfl) hS5 (fun _=>?_)
  refine Jz 0 hS5 ?_
  refine Jz 1 hS5 ?_
  refine Jz 2 hS5 ?_
  refine Jz 3 hS5 ?_
  refine Jz 4 hS5 ?_
  refine Jz 5 hS5 ?_
  refine Jz 6 hS5 ?_
  refine Jz 7 hS5 ?_
  refine Jz 8 hS5 ?_
  refine Jz 9 hS5 ?_
  refine Jz 10 hS5 ?_
  refine Je 11 (fun Kx hKx=>?_)
  go_simp
  have hS6:(W.drew.setCell ⟨P,1,none⟩ (.int .i64 (max lo lo'))).cell? ⟨w.heap.size,1,none⟩=some (.int .i64 lo)/\(W.drew.setCell ⟨P,1,none⟩ (.int .i64 (max lo lo'))).cell? ⟨w.heap.size,2,none⟩=some (.int .i64 hi)/\(W.drew.setCell ⟨P,1,none⟩ (.int .i64 (max lo lo'))).cell? ⟨w.heap.size+1,1,none⟩=some (.int .i64 lo')/\(W.drew.setCell ⟨P,1,none⟩ (.int .i64 (max lo lo'))).cell? ⟨w.heap.size+1,2,none⟩=some (.int .i64 hi'):=by
   refine ⟨?_,?_,?_,?_⟩<;>go_simp
  refine hKx.o _ _ hS6 ?_
  clear hKx Kx
  refine Jz 12 hS6 ?_
  refine Je 13 (fun Kx hKx=>?_)
  go_simp
  refine hKx.o _ _ ?_ ?_
  ·refine ⟨?_,?_,?_,?_⟩<;>go_simp
  clear hKx Kx hS5 hS6
  refine Jd ?_
  have hP2:Blk (((W.setCell ⟨P,1,none⟩ (.int .i64 (max lo lo'))).setCell ⟨P,2,none⟩ (.int .i64 (min hi hi'))).drew) P 97 (sC KK (max lo lo') (min hi hi') #[] #[] false B (n+n') cc):=by have h:=(Blk.put (w:=W) HX.o 1 (.int .i64 (max lo lo'))).put 2 (.int .i64 (min hi hi'));simp at h;exact h
  have hY2:Blk (((W.setCell ⟨P,1,none⟩ (.int .i64 (max lo lo'))).setCell ⟨P,2,none⟩ (.int .i64 (min hi hi'))).drew) (w.heap.size+2) 97 zC:=Blk.far (Blk.far (w:=W) HYR.o (by show w.heap.size+2≠P;omega) _) (by show w.heap.size+2≠P;omega) _
  have hO2:OwnW (((W.setCell ⟨P,1,none⟩ (.int .i64 (max lo lo'))).setCell ⟨P,2,none⟩ (.int .i64 (min hi hi'))).drew) w2.heap.size (.slice B (n+n') cc) (es++fs):=own_far (own_far (w:=W) HOW.o hBP) hBP
  have hB2:Below w2.heap.size w2 (((W.setCell ⟨P,1,none⟩ (.int .i64 (max lo lo'))).setCell ⟨P,2,none⟩ (.int .i64 (min hi hi'))).drew):=(below_set (below_set HBW.o hPlt) hPlt).drew
  have hs2:W.heap.size<=(((W.setCell ⟨P,1,none⟩ (.int .i64 (max lo lo'))).setCell ⟨P,2,none⟩ (.int .i64 (min hi hi'))).drew).heap.size:=by simp
  generalize ((W.setCell ⟨P,1,none⟩ (.int .i64 (max lo lo'))).setCell ⟨P,2,none⟩ (.int .i64 (min hi hi'))).drew=W2 at *
  clear a0 a1 a2 a3 a4 a5 a6 b0 b1 b2 b3 b4 b5 b6 z0 z1 z2 z3 z4 z5 z6 y0 y1 y2 y3 y4 y5 y6 HX HYR HOW HBW
  obtain⟨z0,z1,z2,z3,z4,z5,z6,y0,y1,y2,y3,y4,y5,y6⟩:=blk7 hP2
  have hPW2:=hP2.lt
  go_wp2_with fail
  refine (HT.o B cc W2 w2.heap.size hO2 (by omega)).mono ?_
  rintro e w7 ⟨⟨rK,rlo,rhi,rf,rt,ro,rno⟩,A7,n7,c7,rfl,hl7,hn7,ho7,hb7,hP7⟩
  dsimp only at hl7 ho7
  have HL7:=Jh hl7
  have HP7:=Jh hP7
  have hY7:=Blk.below hY2 hb7 (by omega)
  have hB7:Below w.heap.size w w7:=HGR.o.trans ((hB2.trans hb7).mono (by omega))
  have hs7:=hb7.size
  have hc7:n7<=c7:=by
   obtain⟨_,_,e,h,_⟩:=OwnK.rd ho7
   injection e with e1 e2 e3
   omega
  obtain⟨u0,u1,u2,u3,u4,u5,u6,q0,q1,q2,q3,q4,q5,q6⟩:=blk7 hY7
  have hg7:w.heap.size+2<w7.heap.size:=by omega
  clear hb7 hY7 hl7 hP7
  go_wp2_with fail
  refine bodyPost_ret (v:=spF rK rlo rhi rf rt ro A7 n7 c7) (by simp[results,Tryz.results81,go_sem,u0,u1,u2,u3,u4,u5,u6]) rfl ?_
  exact⟨⟨rK,rlo,rhi,rf,rt,ro,rno⟩,HP7.o,by show rno.length<=_;have:=HL7.o;omega,A7,n7,c7,rfl,HL7.o,hc7,(OwnK.put7 ho7 (by omega) _ _ _ _ _ _ _).less (by omega),below_put7 hB7 (by omega) _ _ _ _ _ _ _⟩
theorem meet_0 (lo hi:Int) (A:OA) (n c:Nat) (lo' hi':Int) (A':OA) (n' c':Nat) (w:World) (es fs:List Val) (hn:es.length=n) (hm:n<=1000) (hn':fs.length=n') (hm':n'<=1000) (hr:RdW w A es) (hr':RdW w A' fs):
  Calls Tryz.prog 81 #[spF 0 lo hi [] [] false A n c,spF 0 lo' hi' [] [] false A' n' c'] w (fun e w'=>∃r,r=none_/\r.no.length<=n+n'/\Gives w r e w'):=
 meet_KK 0 (by decide) (by decide) lo hi A n c lo' hi' A' n' c' w es fs (fun r=>r=none_) (fun B cc W base ho hb=>trim0 _ _ B (n+n') cc W base (es++fs) (by rw[List.length_append,hn,hn']) (by omega) ho hb) hn hm hn' hm' hr hr'
theorem meet_1 (lo hi:Int) (A:OA) (n c:Nat) (lo' hi':Int) (A':OA) (n' c':Nat) (w:World) (es fs:List Val) (hlow:lowest 1<=max lo lo') (hhigh:min hi hi'<=highest 1) (hl:∀v∈es++fs,v.k=1/\v.t=[]) (hn:es.length=n) (hm:n<=1000) (hn':fs.length=n') (hm':n'<=1000) (hr:RdW w A es) (hr':RdW w A' fs):
  Calls Tryz.prog 81 #[spF 1 lo hi [] [] false A n c,spF 1 lo' hi' [] [] false A' n' c'] w (fun e w'=>∃r,IsInts 1 (max lo lo') (min hi hi') (es++fs) r/\r.no.length<=n+n'/\Gives w r e w'):=
 meet_KK 1 (by decide) (by decide) lo hi A n c lo' hi' A' n' c' w es fs (IsInts 1 (max lo lo') (min hi hi') (es++fs)) (fun B cc W base ho hb=>trim1 _ _ B (n+n') cc W base (es++fs) hlow hhigh hl (by rw[List.length_append,hn,hn']) (by omega) ho hb) hn hm hn' hm' hr hr'
end
end Go.Proofs.YtnfigjggjmncdaaGreat
