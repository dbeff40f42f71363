/-
 What a deed does: its one form, its bytes and the state that it leaves are the document's, and the state that it was done on stays as it was, whatever is written into the new one: for every state, every deed and all bytes the call of the law answers true, and all arguments read behind it as they read before. No condition.
-/
import Derived.Test.YtnfigjggjmncdaaGreatX8
import Derived.Test.YtnfigjggjmncdaaGreatK3
import Derived.Test.YtnfigjggjmncdaaGreatK4
import Derived.Test.YtnfigjggjmncdaaGreatL3
set_option maxRecDepth 100000
set_option maxHeartbeats 8000000
namespace Go.Proofs.YtnfigjggjmncdaaGreat
open Go.RowKit Go.ChangeShapes Go.WideShapes Go.ChangeAt Go.Sort Spans Tb Dm
def RowB (w:World) (T:TypeId) (A:OA) (p base m:Nat):Prop:=m=0∨∃g off cs,A=some ⟨g,off,none⟩/\g≠p/\base<=g/\Blk w g T cs/\off+m<=cs.size
theorem RowB.of {α:Type} {L:Lay α} {w:World} {base p n c:Nat} {A:OA} {es:List α} (h:OwnK L w base (.slice A n c) es) (hp:w.heap.size<=p):RowB w L.T A p base (n*L.k):=by
 rcases h.2 with ⟨h1,h2⟩|⟨g,cap,cur,h1,hg,hb,hc,_,hs,_⟩
 ·injection h1 with _ h3 _
  left
  rw[h3,Nat.zero_mul]
 ·injection h1 with e1 e2 e3
  right
  have hlt:g<w.heap.size:=(Array.getElem?_eq_some_iff.1 hb).1
  refine ⟨g,0,cur,e1,by omega,hg,hb,?_⟩
  rw[Nat.zero_add,hs,e2]
  exact Nat.mul_le_mul_right _ hc
theorem RowB.set_ {w:World} {T:TypeId} {A:OA} {p base m:Nat} (h:RowB w T A p base m) (g i:Nat) (u:Value):RowB (w.setCell ⟨g,i,none⟩ u) T A p base m:=by
 rcases h with h|⟨g',off,cs,h1,h2,h3,h4,h5⟩
 ·exact .inl h
 ·right
  by_cases hg:g'=g
  ·subst hg
   exact⟨g',off,_,h1,h2,h3,h4.put i u,by simpa using h5⟩
  ·exact⟨g',off,cs,h1,h2,h3,h4.far (p:=⟨g,i,none⟩) hg u,h5⟩
theorem RowB.below {w w':World} {T:TypeId} {A:OA} {p base m:Nat} (h:RowB w T A p base m) (hb:Below w.heap.size w w'):RowB w' T A p base m:=by
 rcases h with h|⟨g',off,cs,h1,h2,h3,h4,h5⟩
 ·exact .inl h
 ·exact .inr ⟨g',off,cs,h1,h2,h3,h4.below hb h4.lt,h5⟩
theorem RowB.at_ {w:World} {T:TypeId} {A:OA} {p base m j:Nat} (h:RowB w T A p base m) (hj:j<m):∃g off,A=some ⟨g,off,none⟩/\g≠p/\base<=g/\g<w.heap.size/\∀i,i<m->(∃v,w.cell? ⟨g,off+i,none⟩=some v)/\w.frozen? ⟨g,off+i,none⟩=false:=by
 rcases h with h|⟨g,off,cs,h1,h2,h3,h4,h5⟩
 ·omega
 ·refine ⟨g,off,h1,h2,h3,h4.lt,fun i hi=>⟨⟨cs[off+i]'(by omega),?_⟩,h4.frozen _⟩⟩
  rw[h4.cell,Array.getElem?_eq_getElem]
theorem walk_DeedDoes (w:World) (s:Sx) (lns:s.Len) (rss:s.Rd w) (_:-9223372036854775808<=s.ep/\s.ep<=9223372036854775807) (_:s.c<=maxLen/\s.c1<=maxLen/\s.c2<=maxLen) (szs:s.n<=5900000000000/\s.n1<=3600000000000/\s.n2<=3600000000000) (lbs:LBx s.ls) (abs:EBx s.av) (ubs:EBx s.su) (x:Dx) (fx:FltD w x) (bx:DBx [x]) (A:OA) (bs:LU) (len cap:Nat) (hl:bs.length=len) (_:len<=cap) (_:cap<=140737488351232) (rd:Rd w A bs):
  Calls Tryz.prog 3 #[s.v,dxV x,.slice A len cap] w fun e w'=>e=.returned (.bool true)/\Below w.heap.size w w':=by
 obtain⟨xk,xi,xr,xa,xA,xn,xc,xf⟩:=x
 obtain⟨hx1,hx2,hx3⟩:=fx
 dsimp only at hx1 hx2 hx3
 have LN:=Jh lns
 have LB:=Jh lbs
 have AB:=Jh abs
 have UB:=Jh ubs
 have SZ:=Jh szs
 have HBX:=Jh bx
 have HXN:=Jh hx1
 have RX:=Jh hx3
 have HBL:=Jh hl
 have RA:=Jh rd
 have hb0:=(gr2 w (.cells (xC s.ep s.A s.n s.c s.A1 s.n1 s.c1 s.A2 s.n2 s.c2) 25) (.cells (dC xk xi xr xa.toArray xA xn xc) 28)).below
 have BXs:=Jh ((Blk.new w 25 (xC s.ep s.A s.n s.c s.A1 s.n1 s.c1 s.A2 s.n2 s.c2)).alloc (.cells (dC xk xi xr xa.toArray xA xn xc) 28))
 have hX:=Blk.new (w.alloc (.cells (xC s.ep s.A s.n s.c s.A1 s.n1 s.c1 s.A2 s.n2 s.c2) 25)) 28 (dC xk xi xr xa.toArray xA xn xc)
 rw[show (w.alloc (.cells (xC s.ep s.A s.n s.c s.A1 s.n1 s.c1 s.A2 s.n2 s.c2) 25)).heap.size=w.heap.size+1 by simp] at hX
 have BXd:=Jh hX
 have R0:=Jh rss
 have BB:=Jh hb0
 obtain⟨qs,hqs⟩:∃q,statesB s=q:=⟨_,rfl⟩
 have Qs:=Jh hqs
 obtain⟨qf,hqf⟩:∃q,fewD [⟨xk,xi,xr,xa,xA,xn,xc,xf⟩]=q:=⟨_,rfl⟩
 have Qf:=Jh hqf
 clear hb0 hX hqs hqf lns rss szs lbs abs ubs hx1 hx3 bx hl rd
 go_enter Tryz.func3,Tryz.ntmps3
 go_wp2_with fail
 generalize ((w.alloc (.cells (xC s.ep s.A s.n s.c s.A1 s.n1 s.c1 s.A2 s.n2 s.c2) 25)).alloc (.cells (dC xk xi xr xa.toArray xA xn xc) 28))=w0 at *
 refine (dsmall_at w0).mono ?_
 rintro e w1 ⟨rfl,hb⟩
 replace BXs:=Jh (Blk.below BXs.o hb BXs.o.lt)
 replace BB:=Jh (below_next BB.o (by have:=BB.o.size;omega) hb)
 replace BXd:=Jh (Blk.below BXd.o hb BXd.o.lt)
 clear hb
 obtain⟨x0,x1,x2,x3,_⟩:=blk4 BXs.o
 have hlx:=BXs.o.lt
 obtain⟨d0,d1,d2,d3,d4,_⟩:=blk5 BXd.o
 have hld:=BXd.o.lt
 go_wp2_with fail
 refine (states_at s LN.o SZ.o LB.o AB.o UB.o _ (R0.o.below BB.o) qs Qs.o).mono ?_
 rintro e w2 ⟨rfl,hb⟩
 replace BXs:=Jh (Blk.below BXs.o hb BXs.o.lt)
 replace BB:=Jh (below_next BB.o (by have:=BB.o.size;omega) hb)
 replace BXd:=Jh (Blk.below BXd.o hb BXd.o.lt)
 clear hb
 clear x0 x1 x2 x3 hlx d0 d1 d2 d3 d4 hld
 have hrx:=rdk_one layD w2 ⟨xk,xi,xr,xa,xA,xn,xc,xf⟩ 28 (dC xk xi xr xa.toArray xA xn xc) rfl
 have hb:=(gr1 w2 (.cells (dC xk xi xr xa.toArray xA xn xc) 28)).below
 obtain⟨x0,x1,x2,x3,_⟩:=blk4 BXs.o
 have hlx:=BXs.o.lt
 obtain⟨d0,d1,d2,d3,d4,_⟩:=blk5 BXd.o
 have hld:=BXd.o.lt
 replace BXs:=Jh (Blk.below BXs.o hb BXs.o.lt)
 replace BB:=Jh (below_next BB.o (by have:=BB.o.size;omega) hb)
 replace BXd:=Jh (Blk.below BXd.o hb BXd.o.lt)
 clear hb
 obtain⟨z0,z1,z2,z3,z4,_⟩:=blk5 BXd.o
 have HRD:Hid (RdDx (w2.alloc (.cells (dC xk xi xr xa.toArray xA xn xc) 28)) (some ⟨w2.heap.size,0,none⟩) [⟨xk,xi,xr,xa,xA,xn,xc,xf⟩]):=⟨hrx,fun y hy=>by simp at hy;subst hy;exact⟨HXN.o,hx2,RdK.below RX.o BB.o⟩⟩
 clear hrx
 go_wp2_with fail
 clear x0 x1 x2 x3 hlx d0 d1 d2 d3 d4 hld
 clear z0 z1 z2 z3 z4
 generalize w2.alloc (.cells (dC xk xi xr xa.toArray xA xn xc) 28)=w3 at *
 refine (dfew_at (some ⟨w2.heap.size,0,none⟩) [⟨xk,xi,xr,xa,xA,xn,xc,xf⟩] 1 1 rfl (by decide) HBX.o w3 HRD.o qf Qf.o).mono ?_
 rintro e w4 ⟨rfl,hb⟩
 replace BXs:=Jh (Blk.below BXs.o hb BXs.o.lt)
 replace BB:=Jh (below_next BB.o (by have:=BB.o.size;omega) hb)
 replace BXd:=Jh (Blk.below BXd.o hb BXd.o.lt)
 clear hb
 clear HRD
 obtain⟨x0,x1,x2,x3,_⟩:=blk4 BXs.o
 have hlx:=BXs.o.lt
 obtain⟨d0,d1,d2,d3,d4,_⟩:=blk5 BXd.o
 have hld:=BXd.o.lt
 cases qs with
 | false=>
  go_wp2_with fail
  go_ret
  exact⟨rfl,BB.o⟩
 | true=>
  cases qf with
  | false=>
   go_wp2_with fail
   go_ret
   exact⟨rfl,BB.o⟩
  | true=>
   by_cases h3:300<len
   ·have q1:decide ((300:Int)<(len:Int))=true:=by simp;omega
    go_wp2_with fail
    go_ret
    exact⟨rfl,BB.o⟩
   have q1:decide ((300:Int)<(len:Int))=false:=by simp;omega
   have OK:=Jh (ok_of Qs.o LN.o AB.o UB.o)
   have hfd:=fewD_of Qf.o
   have HPX:Hid (PBd xf):=fun p hp=>⟨((hfd.1 _ (List.mem_singleton.2 rfl)).2 p hp).1,((hfd.1 _ (List.mem_singleton.2 rfl)).2 p hp).2,((HBX.o _ (List.mem_singleton.2 rfl)).2.2 p hp).2.2⟩
   have hxn:xn<=400:=hfd.2.2 _ (List.mem_singleton.2 rfl)
   replace RX:=Jh (RdK.below RX.o BB.o)
   replace RA:=Jh (Rd.below RA.o BB.o)
   replace R0:=Jh (R0.o.below BB.o)
   clear hfd HBX Qf Qs
   go_wp2_with fail
   clear x0 x1 x2 x3 hlx d0 d1 d2 d3 d4 hld
   clear q1
   refine (dnorm_at ⟨xk,xi,xr,xa,xf⟩ xA xn xc HXN.o (by omega) HPX.o w4 RX.o).mono ?_
   rintro e w5 ⟨⟨ok,oi,of,oa,off⟩,er,A3,n3,c3,rfl,hdn,hl3,hc3,ho3,hb⟩
   dsimp only at hl3 ho3
   have HDN:=Jh hdn
   have HL3:=Jh hl3
   have RO:=Jh (own_rdq ho3)
   clear hdn hl3 ho3
   replace BXs:=Jh (Blk.below BXs.o hb BXs.o.lt)
   replace BB:=Jh (below_next BB.o (by have:=BB.o.size;omega) hb)
   replace BXd:=Jh (Blk.below BXd.o hb BXd.o.lt)
   replace RX:=Jh (RdK.below RX.o hb)
   replace RA:=Jh (RA.o.below hb)
   replace R0:=Jh (R0.o.below hb)
   clear hb
   have hb:=(gr1 w5 (.cells (dC ok oi of oa.toArray A3 n3 c3) 28)).below
   have BXo:=Jh (Blk.new w5 28 (dC ok oi of oa.toArray A3 n3 c3))
   replace BXs:=Jh (Blk.below BXs.o hb BXs.o.lt)
   replace BB:=Jh (below_next BB.o (by have:=BB.o.size;omega) hb)
   replace BXd:=Jh (Blk.below BXd.o hb BXd.o.lt)
   replace RX:=Jh (RdK.below RX.o hb)
   replace RA:=Jh (RA.o.below hb)
   replace R0:=Jh (R0.o.below hb)
   replace RO:=Jh (RdK.below RO.o hb)
   clear hb
   obtain⟨d0,d1,d2,d3,d4,_⟩:=blk5 BXd.o
   have hld:=BXd.o.lt
   go_wp2_with fail
   clear d0 d1 d2 d3 d4 hld
   generalize w5.alloc (.cells (dC ok oi of oa.toArray A3 n3 c3) 28)=w6 at *
   generalize w5.heap.size=po at *
   refine (rnorm10_at ⟨xk,xi,xr,xa,xf⟩ xA xn xc HXN.o (by omega) HPX.o w6 RX.o).mono ?_
   rintro e w7 ⟨⟨pk,pi,pf,pa,pff⟩,er2,A4,n4,c4,rfl,hdn2,hl4,hc4,ho4,hb⟩
   dsimp only at hl4 ho4
   obtain⟨hoe,rfl⟩:=HDN.o.one hdn2
   injection hoe with e1 e2 e3 e4 e5
   subst e1 e2 e3 e4 e5
   have HL4:=Jh hl4
   have RP:=Jh (own_rdq ho4)
   have hn3:n3<=100000:=HDN.o.short HL3.o
   have hn4:n4<=100000:=HDN.o.short HL4.o
   clear hdn2 hl4 ho4
   replace BXs:=Jh (Blk.below BXs.o hb BXs.o.lt)
   replace BB:=Jh (below_next BB.o (by have:=BB.o.size;omega) hb)
   replace BXd:=Jh (Blk.below BXd.o hb BXd.o.lt)
   replace RX:=Jh (RdK.below RX.o hb)
   replace RA:=Jh (RA.o.below hb)
   replace R0:=Jh (R0.o.below hb)
   replace RO:=Jh (RdK.below RO.o hb)
   replace BXo:=Jh (Blk.below BXo.o hb BXo.o.lt)
   clear hb
   have hb:=(gr1 w7 (.cells (dC ok oi of oa.toArray A4 n4 c4) 28)).below
   have BXp:=Jh (Blk.new w7 28 (dC ok oi of oa.toArray A4 n4 c4))
   replace BXs:=Jh (Blk.below BXs.o hb BXs.o.lt)
   replace BB:=Jh (below_next BB.o (by have:=BB.o.size;omega) hb)
   replace BXd:=Jh (Blk.below BXd.o hb BXd.o.lt)
   replace RX:=Jh (RdK.below RX.o hb)
   replace RA:=Jh (RA.o.below hb)
   replace R0:=Jh (R0.o.below hb)
   replace RO:=Jh (RdK.below RO.o hb)
   replace BXo:=Jh (Blk.below BXo.o hb BXo.o.lt)
   replace RP:=Jh (RdK.below RP.o hb)
   clear hb
   go_wp2_with fail
   generalize w7.alloc (.cells (dC ok oi of oa.toArray A4 n4 c4) 28)=w8 at *
   generalize w7.heap.size=pp at *
   have hS0:Below w8.heap.size w8 w8.drew:=(Below.refl _ _).drew
   refine wp_region_held_drew (S:=fun w'=>Below w8.heap.size w8 w') (by kernel_rfl) hS0 (fun _=>?_)
   refine Jz 0 hS0 ?_ (hv:=by intro w' hSw;obtain⟨y0,y1,y2,y3,y4,_⟩:=blk5 (BXo.o.below hSw BXo.o.lt);go_simp<;>with_reducible rfl)
   refine Jz 1 hS0 ?_ (hv:=by intro w' hSw;obtain⟨y0,y1,y2,y3,y4,_⟩:=blk5 (BXp.o.below hSw BXp.o.lt);go_simp<;>with_reducible rfl)
   refine Je 2 (fun K hK1=>?_)
   go_simp
   with_reducible refine (dsame_at ok oi of oa off A3 n3 c3 HL3.o hn3 ok oi of oa off A4 n4 c4 HL4.o hn4 _ (RdK.below RO.o hS0) (RdK.below RP.o hS0) true (decide_eq_true rfl)).mono ?_
   rintro e w9 ⟨rfl,hb9⟩
   have hS1:=below_next hS0 (Jn) hb9
   have v0:(er == er)=true:=beq_self_eq_true er
   go_wp2_with fail
   refine hK1.o _ _ hS1 ?_
   refine Jz 3 hS1 ?_
   refine Jz 4 hS1 ?_
   refine Jz 5 hS1 ?_
   refine Jz 6 hS1 ?_
   refine Jz 7 hS1 ?_
   refine Jz 8 hS1 ?_
   refine Jz 9 hS1 ?_
   refine Jz 10 hS1 ?_ (hv:=by intro w' hSw;obtain⟨y0,y1,y2,y3,y4,_⟩:=blk5 (BXd.o.below hSw BXd.o.lt);go_simp<;>with_reducible rfl)
   refine Jz 13 hS1 ?_
   refine Jz 14 hS1 ?_ (hv:=by intro w' hSw;obtain⟨y0,y1,y2,y3,y4,_⟩:=blk5 (BXd.o.below hSw BXd.o.lt);go_simp<;>with_reducible rfl)
   refine Je 11 (fun K hK2=>?_)
   go_simp
   with_reducible refine (dput_at A bs len cap HBL.o (by omega) xk xi xr xa xf xA xn xc HXN.o (by omega) HPX.o _ (Rd.below RA.o hS1) (RdK.below RX.o hS1)).mono ?_
   rintro e wa ⟨fs,hfl,hfn,D1,e1,rfl,_,hb,hr8⟩
   have HFL:=Jh hfl
   have HX:Hid ((bs++fs).length=len+fs.length):=by show _=_;rw[List.length_append,HBL.o]
   obtain⟨xx,hxx⟩:∃x,bs++fs=x:=⟨_,rfl⟩
   obtain⟨LL,hLL⟩:∃x,len+fs.length=x:=⟨_,rfl⟩
   rw[hxx] at hr8
   have HXX:=Jh hxx
   have HLL:=Jh hLL
   have HXL:Hid (xx.length=LL):=by show _=_;rw[<-hxx,<-hLL];exact HX.o
   rw[hLL]
   clear hxx hLL hfl
   have hS2:=below_next hS1 (Jn) hb
   go_wp2_with fail
   refine hK2.o _ _ hS2 ?_
   have hk2:Hid (∀w',Below wa.heap.size wa w'->Below w8.heap.size w8 w'/\Sem.run Tryz.prog (convert 29 9 (.slice D1 LL e1)) w'=.ok (.string ⟨(xx).toArray⟩) w'/\Below wa.heap.size wa w'):=fun w' h=>⟨below_next hS2 (Jn) h,str_below e1 hr8 HXL.o h,h⟩
   refine wpAnyH_more (S':=fun w'=>Below w8.heap.size w8 w'/\Sem.run Tryz.prog (convert 29 9 (.slice D1 LL e1)) w'=.ok (.string ⟨(xx).toArray⟩) w'/\Below wa.heap.size wa w') (fun w' h=>h.1) _ _ _ _ ?_
   have hT0:=hk2.o wa (Below.refl _ _)
   refine Jz 12 hT0 ?_
   refine Je 15 (fun K hK3=>?_)
   go_simp
   with_reducible refine (rdput_at A bs len cap HBL.o (by omega) xk xi xr xa xf xA xn xc HXN.o (by omega) HPX.o _ (Rd.below RA.o hT0.1) (RdK.below RX.o hT0.1)).mono ?_
   rintro e wb ⟨fs2,hfl2,D2,e2,rfl,hb,hr9⟩
   obtain rfl:fs=fs2:=HFL.o.one hfl2
   rw[HXX.o] at hr9
   rw[HLL.o]
   have hst:=str_below e2 hr9 HXL.o (Below.refl _ _)
   have hT1:=hk2.o wb hb
   have hee:(xx == xx)=true:=beq_self_eq_true _
   go_wp2_with fail
   refine hK3.o _ _ hT1 ?_
   refine Je 16 (fun K hK4=>?_)
   go_simp
   refine hK4.o _ _ hT1 ?_
   refine Jz 17 hT1 ?_
   refine Jz 18 hT1 ?_
   refine Jz 19 hT1 ?_
   refine Jd ?_
   have hb:=hT1.1
   clear hS0 hS1 hS2 hT0 hT1 hk2 hst hee hr8 hr9 hb9 HXX HLL HXL HX HFL hfl2 hK1 hK2 hK3 hK4 hn3 hn4 HL3 HL4 v0 hfn RO RP BXo BXp HDN RA
   replace BXs:=Jh (Blk.below BXs.o hb BXs.o.lt)
   replace BB:=Jh (below_next BB.o (by have:=BB.o.size;omega) hb)
   replace BXd:=Jh (Blk.below BXd.o hb BXd.o.lt)
   replace RX:=Jh (RdK.below RX.o hb)
   replace R0:=Jh (R0.o.below hb)
   clear hb
   obtain⟨qr,hqr⟩:∃q:Bool,q=true↔Tb.Right s.bk:=by
    by_cases h:Tb.Right s.bk
    ·exact⟨true,by simp[h]⟩
    ·exact⟨false,by simp[h]⟩
   have QR:=Jh hqr
   clear hqr
   obtain⟨x0,x1,x2,x3,_⟩:=blk4 BXs.o
   have hlx:=BXs.o.lt
   go_wp2_with fail
   refine (right_st s LN.o OK.o.few OK.o.pa OK.o.pu _ R0.o qr QR.o).mono ?_
   rintro e wc ⟨rfl,hb⟩
   replace BXs:=Jh (Blk.below BXs.o hb BXs.o.lt)
   replace BB:=Jh (below_next BB.o (by have:=BB.o.size;omega) hb)
   replace BXd:=Jh (Blk.below BXd.o hb BXd.o.lt)
   replace RX:=Jh (RdK.below RX.o hb)
   replace R0:=Jh (R0.o.below hb)
   clear hb
   clear x0 x1 x2 x3 hlx
   obtain⟨x0,x1,x2,x3,_⟩:=blk4 BXs.o
   have hlx:=BXs.o.lt
   cases qr with
   | false=>
    go_wp2_with fail
    go_ret
    exact⟨rfl,BB.o⟩
   | true=>
    have HK:=Jh (sok_of LN.o R0.o (QR.o.1 rfl))
    clear LN LB AB UB SZ R0 OK QR
    go_wp2_with fail
    clear x0 x1 x2 x3 hlx
    refine (copySt2_at s HK.o.len HK.o.few _ HK.o.rd).mono ?_
    rintro e wd ⟨ti,rfl,hbk,hlen,hown,hb,_⟩
    have HIE:=Jh hbk
    have HI:=Jh (sok_of hlen hown.rd (by rw[hbk];exact HK.o.right))
    clear hbk hlen hown
    replace BXs:=Jh (Blk.below BXs.o hb BXs.o.lt)
    replace BB:=Jh (below_next BB.o (by have:=BB.o.size;omega) hb)
    replace BXd:=Jh (Blk.below BXd.o hb BXd.o.lt)
    replace RX:=Jh (RdK.below RX.o hb)
    replace HK:=Jh (HK.o.below hb)
    clear hb
    have hb:=(gr1 wd (.cells (xC ti.ep ti.A ti.n ti.c ti.A1 ti.n1 ti.c1 ti.A2 ti.n2 ti.c2) 25)).below
    have BXi:=Jh (Blk.new wd 25 (xC ti.ep ti.A ti.n ti.c ti.A1 ti.n1 ti.c1 ti.A2 ti.n2 ti.c2))
    replace BXs:=Jh (Blk.below BXs.o hb BXs.o.lt)
    replace BB:=Jh (below_next BB.o (by have:=BB.o.size;omega) hb)
    replace BXd:=Jh (Blk.below BXd.o hb BXd.o.lt)
    replace RX:=Jh (RdK.below RX.o hb)
    replace HK:=Jh (HK.o.below hb)
    replace HI:=Jh (HI.o.below hb)
    clear hb
    obtain⟨y0,y1,y2,y3,_⟩:=blk4 BXi.o
    have hly:=BXi.o.lt
    obtain⟨d0,d1,d2,d3,d4,_⟩:=blk5 BXd.o
    have hld:=BXd.o.lt
    go_wp2_with fail
    clear y0 y1 y2 y3 hly d0 d1 d2 d3 d4 hld
    generalize wd.alloc (.cells (xC ti.ep ti.A ti.n ti.c ti.A1 ti.n1 ti.c1 ti.A2 ti.n2 ti.c2) 25)=we at *
    generalize wd.heap.size=pi at *
    refine (ddo_at ti HI.o.len HI.o.few xk xi xr xa xf xA xn xc HXN.o (by omega) HPX.o we HI.o.right HI.o.rd RX.o).mono ?_
    rintro e wf ⟨t,er1,b1,rfl,hdo,hbt,hfr,hb⟩
    have hri:=hdo.right HI.o.right
    rw[HIE.o] at hdo
    have HDO:=Jh hdo
    have hrt:Tb.Right t.bk:=by
     rw[hbt]
     by_cases h:er1=0
     ·rw[if_pos h];exact hri.1
     ·rw[if_neg h];exact rZ0
    have HBT:=Jh hbt
    have HT:=Jh (sok_of hfr.len hfr.own.rd hrt)
    have hsz:=hb.size
    have HKe:=HK
    have HIe:=HI
    have BXse:=BXs
    have BXie:=BXi
    have BBe:=BB
    have BE:=Jh hb
    have QA:=Jh (RowB.below (RowB.of hfr.own.ls (Jn)) (gr1 wf (.cells (xC t.ep t.A t.n t.c t.A1 t.n1 t.c1 t.A2 t.n2 t.c2) 25)).below)
    have QU:=Jh (RowB.below (RowB.of hfr.own.su.1 (Jn)) (gr1 wf (.cells (xC t.ep t.A t.n t.c t.A1 t.n1 t.c1 t.A2 t.n2 t.c2) 25)).below)
    clear hdo hbt hfr hri hrt
    replace BXs:=Jh (Blk.below BXs.o hb BXs.o.lt)
    replace BB:=Jh (below_next BB.o (by have:=BB.o.size;omega) hb)
    replace BXd:=Jh (Blk.below BXd.o hb BXd.o.lt)
    replace RX:=Jh (RdK.below RX.o hb)
    replace HK:=Jh (HK.o.below hb)
    replace HI:=Jh (HI.o.below hb)
    replace BXi:=Jh (Blk.below BXi.o hb BXi.o.lt)
    clear hb
    have hb:=(gr1 wf (.cells (xC t.ep t.A t.n t.c t.A1 t.n1 t.c1 t.A2 t.n2 t.c2) 25)).below
    have BXt:=Jh (Blk.new wf 25 (xC t.ep t.A t.n t.c t.A1 t.n1 t.c1 t.A2 t.n2 t.c2))
    replace BE:=Jh (below_next BE.o (Jn) hb)
    replace BXs:=Jh (Blk.below BXs.o hb BXs.o.lt)
    replace BB:=Jh (below_next BB.o (by have:=BB.o.size;omega) hb)
    replace BXd:=Jh (Blk.below BXd.o hb BXd.o.lt)
    replace RX:=Jh (RdK.below RX.o hb)
    replace HK:=Jh (HK.o.below hb)
    replace HI:=Jh (HI.o.below hb)
    replace BXi:=Jh (Blk.below BXi.o hb BXi.o.lt)
    replace HT:=Jh (HT.o.below hb)
    clear hb
    obtain⟨x0,x1,x2,x3,_⟩:=blk4 BXs.o
    have hlx:=BXs.o.lt
    obtain⟨d0,d1,d2,d3,d4,_⟩:=blk5 BXd.o
    have hld:=BXd.o.lt
    go_wp2_with fail
    clear x0 x1 x2 x3 hlx d0 d1 d2 d3 d4 hld
    generalize wf.alloc (.cells (xC t.ep t.A t.n t.c t.A1 t.n1 t.c1 t.A2 t.n2 t.c2) 25)=wg at *
    generalize wf.heap.size=pt at *
    refine (rdo_at s HK.o.len ⟨xk,xi,xr,xa,xf⟩ xA xn xc HXN.o (by omega) HPX.o wg HK.o.right (fun _=>False) (fun _ h=>h.elim) (Firm.of HK.o.rd (fun _ h=>h.elim)) RX.o).mono ?_
    rintro e wh ⟨u,er2,b2,rfl,hdo2,hbt2,hlu,hfu,hb⟩
    obtain⟨rfl,rfl⟩:=HDO.o.one hdo2
    have HUE:Hid (t.bk=u.bk):=HBT.o.trans hbt2.symm
    have HU:=Jh (sok_of hlu hfu.rd (by rw[<-HUE.o];exact HT.o.right))
    clear hdo2 hbt2 hlu hfu HDO HBT
    replace BE:=Jh (below_next BE.o (Jn) hb)
    replace BXs:=Jh (Blk.below BXs.o hb BXs.o.lt)
    replace BB:=Jh (below_next BB.o (by have:=BB.o.size;omega) hb)
    replace BXd:=Jh (Blk.below BXd.o hb BXd.o.lt)
    replace RX:=Jh (RdK.below RX.o hb)
    replace HK:=Jh (HK.o.below hb)
    replace HI:=Jh (HI.o.below hb)
    replace BXi:=Jh (Blk.below BXi.o hb BXi.o.lt)
    replace HT:=Jh (HT.o.below hb)
    replace BXt:=Jh (Blk.below BXt.o hb BXt.o.lt)
    replace QA:=Jh (QA.o.below hb)
    replace QU:=Jh (QU.o.below hb)
    clear hb
    have hb:=(gr1 wh (.cells (xC u.ep u.A u.n u.c u.A1 u.n1 u.c1 u.A2 u.n2 u.c2) 25)).below
    have BXu:=Jh (Blk.new wh 25 (xC u.ep u.A u.n u.c u.A1 u.n1 u.c1 u.A2 u.n2 u.c2))
    replace BE:=Jh (below_next BE.o (Jn) hb)
    replace BXs:=Jh (Blk.below BXs.o hb BXs.o.lt)
    replace BB:=Jh (below_next BB.o (by have:=BB.o.size;omega) hb)
    replace BXd:=Jh (Blk.below BXd.o hb BXd.o.lt)
    replace RX:=Jh (RdK.below RX.o hb)
    replace HK:=Jh (HK.o.below hb)
    replace HI:=Jh (HI.o.below hb)
    replace BXi:=Jh (Blk.below BXi.o hb BXi.o.lt)
    replace HT:=Jh (HT.o.below hb)
    replace BXt:=Jh (Blk.below BXt.o hb BXt.o.lt)
    replace QA:=Jh (QA.o.below hb)
    replace QU:=Jh (QU.o.below hb)
    replace HU:=Jh (HU.o.below hb)
    clear hb
    have v0:(er1 == er1)=true:=beq_self_eq_true er1
    obtain⟨y0,y1,y2,y3,_⟩:=blk4 BXt.o
    have hly:=BXt.o.lt
    obtain⟨z0,z1,z2,z3,_⟩:=blk4 BXu.o
    have hlz:=BXu.o.lt
    go_wp2_with fail
    clear y0 y1 y2 y3 hly z0 z1 z2 z3 hlz
    generalize wh.alloc (.cells (xC u.ep u.A u.n u.c u.A1 u.n1 u.c1 u.A2 u.n2 u.c2) 25)=wi at *
    refine (rsame_st t u HT.o.len HU.o.len HT.o.few HU.o.few wi HT.o.rd HU.o.rd true (decide_eq_true HUE.o)).mono ?_
    rintro e wj ⟨rfl,hb⟩
    replace BE:=Jh (below_next BE.o (Jn) hb)
    replace BXs:=Jh (Blk.below BXs.o hb BXs.o.lt)
    replace BB:=Jh (below_next BB.o (by have:=BB.o.size;omega) hb)
    replace BXd:=Jh (Blk.below BXd.o hb BXd.o.lt)
    replace RX:=Jh (RdK.below RX.o hb)
    replace HK:=Jh (HK.o.below hb)
    replace HI:=Jh (HI.o.below hb)
    replace BXi:=Jh (Blk.below BXi.o hb BXi.o.lt)
    replace HT:=Jh (HT.o.below hb)
    replace BXt:=Jh (Blk.below BXt.o hb BXt.o.lt)
    replace QA:=Jh (QA.o.below hb)
    replace QU:=Jh (QU.o.below hb)
    replace HU:=Jh (HU.o.below hb)
    replace BXu:=Jh (Blk.below BXu.o hb BXu.o.lt)
    clear hb
    have hn2:=HT.o.n2
    have hn1:=HT.o.n
    go_wp2_with fail
    clear HK HI BXs BXi BB RX HT HU BXu HUE HPX HXN BXd v0
    obtain⟨te,tA,tn,tc,tls,tA1,tn1,tc1,tav,tA2,tn2,tc2,tsu⟩:=t
    dsimp only at hn1 hn2 BXt QA QU
    go_loopg [21] tn2 (fun gg s21 wr=>∃(k:Nat),k<=tn2/\tn2-k<=gg/\s21=.int .i64 (k:Int)/\Hid (Below we.heap.size we wr)/\Hid (Blk wr pt 25 (xC te tA tn tc tA1 tn1 tc1 tA2 tn2 tc2))/\Hid (RowB wr 44 tA2 pt we.heap.size (tn2*3))/\Hid (RowB wr 46 tA pt we.heap.size (tn*2)))
    case atStart=>exact⟨0,Nat.zero_le _,by omega,rfl,BE,BXt,QU,QA⟩
    case round=>
     clear BE BXt QU QA
     obtain⟨k,hk,hgg,rfl,BE,BXt,QU,QA⟩:=hrel
     obtain⟨y0,y1,y2,y3,_⟩:=blk4 BXt.o
     have hly:=BXt.o.lt
     by_cases hlt:k<tn2
     ·have w5:(k:Int)<(tn2:Int):=by omega
      obtain⟨g,off,hA,hgp,hge,hgl,hcs⟩:=RowB.at_ QU.o (j:=k*3) (by omega)
      subst hA
      obtain⟨⟨v0,c0⟩,f0⟩:=hcs (k*3) (by omega)
      obtain⟨⟨v1,c1⟩,f1⟩:=hcs (k*3+1) (by omega)
      obtain⟨⟨v2,c2⟩,f2⟩:=hcs (k*3+2) (by omega)
      rw[<-Nat.add_assoc] at c1 f1
      rw[<-Nat.add_assoc] at c2 f2
      have BE0:=BE
      have BXt0:=BXt
      have QU0:=QU
      have QA0:=QA
      clear hcs BE BXt QU QA
      go_wp2_with fail
      have BE:Hid (Below we.heap.size we (((wr.setCell ⟨g,off+k*3,none⟩ (.int .i64 0)).setCell ⟨g,off+k*3+1,none⟩ (.int .i64 0)).setCell ⟨g,off+k*3+2,none⟩ (.slice none 0 0))):=(below_set (below_set (below_set BE0.o hge) hge) hge)
      have BXt:Hid (Blk (((wr.setCell ⟨g,off+k*3,none⟩ (.int .i64 0)).setCell ⟨g,off+k*3+1,none⟩ (.int .i64 0)).setCell ⟨g,off+k*3+2,none⟩ (.slice none 0 0)) pt 25 (xC te tA tn tc tA1 tn1 tc1 (some ⟨g,off,none⟩) tn2 tc2)):=(Blk.far (Blk.far (Blk.far BXt0.o (p:=⟨g,off+k*3,none⟩) (fun h=>hgp h.symm) _) (p:=⟨g,off+k*3+1,none⟩) (fun h=>hgp h.symm) _) (p:=⟨g,off+k*3+2,none⟩) (fun h=>hgp h.symm) _)
      have QU:Hid (RowB (((wr.setCell ⟨g,off+k*3,none⟩ (.int .i64 0)).setCell ⟨g,off+k*3+1,none⟩ (.int .i64 0)).setCell ⟨g,off+k*3+2,none⟩ (.slice none 0 0)) 44 (some ⟨g,off,none⟩) pt we.heap.size (tn2*3)):=(RowB.set_ (RowB.set_ (RowB.set_ QU0.o g _ _) g _ _) g _ _)
      have QA:Hid (RowB (((wr.setCell ⟨g,off+k*3,none⟩ (.int .i64 0)).setCell ⟨g,off+k*3+1,none⟩ (.int .i64 0)).setCell ⟨g,off+k*3+2,none⟩ (.slice none 0 0)) 46 tA pt we.heap.size (tn*2)):=(RowB.set_ (RowB.set_ (RowB.set_ QA0.o g _ _) g _ _) g _ _)
      go_roundg (tn2-(k+1))
      case measure=>omega
      case rel=>exact⟨k+1,by omega,Jn,by go_num,BE,BXt,QU,QA⟩
     ·have hkn:k=tn2:=by omega
      clear hkn
      go_wp2_with fail
      clear y0 y1 y2 y3 hly QU
      go_loopg [22] tn (fun gg s22 wr=>∃(k:Nat),k<=tn/\tn-k<=gg/\s22=.int .i64 (k:Int)/\Hid (Below we.heap.size we wr)/\Hid (Blk wr pt 25 (xC te tA tn tc tA1 tn1 tc1 tA2 tn2 tc2))/\Hid (RowB wr 46 tA pt we.heap.size (tn*2)))
      case atStart=>exact⟨0,Nat.zero_le _,by omega,rfl,BE,BXt,QA⟩
      case round=>
       clear BE BXt QA
       obtain⟨k,hk,hgg,rfl,BE,BXt,QA⟩:=hrel
       obtain⟨y0,y1,y2,y3,_⟩:=blk4 BXt.o
       have hly:=BXt.o.lt
       by_cases hlt:k<tn
       ·have w5:(k:Int)<(tn:Int):=by omega
        obtain⟨g,off,hA,hgp,hge,hgl,hcs⟩:=RowB.at_ QA.o (j:=k*2) (by omega)
        subst hA
        obtain⟨⟨v0,c0⟩,f0⟩:=hcs (k*2) (by omega)
        obtain⟨⟨v1,c1⟩,f1⟩:=hcs (k*2+1) (by omega)
        rw[<-Nat.add_assoc] at c1 f1
        have BE0:=BE
        have BXt0:=BXt
        have QA0:=QA
        clear hcs BE BXt QA
        go_wp2_with fail
        have BE:Hid (Below we.heap.size we ((wr.setCell ⟨g,off+k*2,none⟩ (.int .i64 0)).setCell ⟨g,off+k*2+1,none⟩ (.string ⟨#[]⟩))):=(below_set (below_set BE0.o hge) hge)
        have BXt:Hid (Blk ((wr.setCell ⟨g,off+k*2,none⟩ (.int .i64 0)).setCell ⟨g,off+k*2+1,none⟩ (.string ⟨#[]⟩)) pt 25 (xC te (some ⟨g,off,none⟩) tn tc tA1 tn1 tc1 tA2 tn2 tc2)):=(Blk.far (Blk.far BXt0.o (p:=⟨g,off+k*2,none⟩) (fun h=>hgp h.symm) _) (p:=⟨g,off+k*2+1,none⟩) (fun h=>hgp h.symm) _)
        have QA:Hid (RowB ((wr.setCell ⟨g,off+k*2,none⟩ (.int .i64 0)).setCell ⟨g,off+k*2+1,none⟩ (.string ⟨#[]⟩)) 46 (some ⟨g,off,none⟩) pt we.heap.size (tn*2)):=(RowB.set_ (RowB.set_ QA0.o g _ _) g _ _)
        go_roundg (tn-(k+1))
        case measure=>omega
        case rel=>exact⟨k+1,by omega,Jn,by go_num,BE,BXt,QA⟩
       ·have hkn:k=tn:=by omega
        clear hkn
        have hb:=BE.o
        have BB:=Jh (below_next BBe.o (Jn) hb)
        have HK:=Jh (HKe.o.below hb)
        have HI:=Jh (HIe.o.below hb)
        obtain⟨x0,x1,x2,x3,_⟩:=blk4 (Blk.below BXse.o hb BXse.o.lt)
        obtain⟨z0,z1,z2,z3,_⟩:=blk4 (Blk.below BXie.o hb BXie.o.lt)
        clear hb QA
        go_wp2_with fail
        clear x0 x1 x2 x3 y0 y1 y2 y3 hly z0 z1 z2 z3
        refine (rsame_st ti s HI.o.len HK.o.len HI.o.few HK.o.few _ HI.o.rd HK.o.rd true (decide_eq_true HIE.o)).mono ?_
        rintro e wz ⟨rfl,hb⟩
        replace BB:=Jh (below_next BB.o (Jn) hb)
        go_wp2_with fail
        go_ret
        exact⟨rfl,BB.o⟩
/-! ### The row's step. -/
namespace deedDoes
theorem own:ownKnob Tryz.prog.godebug=none:=by kernel_rfl
theorem laidOut:laidOutB Tryz.prog=true:=by kernel_rfl
set_option linter.unusedVariables false in
theorem lifted (os:Os) (started:os.Started) (H:Type) (enc:TypeId × Value->H):
  ReturnsInHanded {} Tryz.checked os 3 .any (Rows.deedDoesSpec.pre6 enc Tryz.prog Tryz.f3 Rows.deedDoesRow.domain false) (Rows.deedDoesSpec.post enc Tryz.prog Tryz.f3 false true false false):=by
 refine returnsInHanded_of_change_sized (C:=Tryz.checked) own started (by kernel_rfl) Tryz.func3
  (ChangeSpec.witness6 (enc:=enc) (C:=Tryz.checked) false ⟨#[],#[.agg xZ,.agg (dC 0 0 0 #[] none 0 0),.slice none 0 0],[]⟩ 8 (by kernel_rfl) (by kernel_rfl) (by kernel_rfl) (by kernel_rfl)) ?_
 intro W base args ds gs before hval0 hW hcnd hsz0 _
 have hval:∀(j:Nat) t v,Tryz.f3.params[j]?=some t->args[j]?=some v->Value.okWide Tryz.prog W .any base t v:=hval0
 have hsz:(DataW.weightsEach Tryz.prog (Tryz.f3.params.toList++Rows.deedDoesSpec.plain.varTypes Tryz.prog) (ds++gs)).all (·<=reachBytes)=true:=hsz0
 have hW':=hW
 obtain⟨p,q,hA0,hV,rfl,hfz,hnd⟩:=hW
 have hA:DataW.TrodAll enc Tryz.prog W 0 (fun _=>true) true Tryz.f3.params.toList args.toList ds p:=hA0
 rw[Tryz.params3] at hA hval hsz
 obtain⟨v0,vs0,d0,ds0,p0,q0,hargs,rfl,rfl,h0,r0⟩:=trodAll_cons hA
 obtain⟨v1,vs1,d1,ds1,p1,q1,rfl,rfl,rfl,h1,r1⟩:=trodAll_cons r0
 obtain⟨v2,vs2,d2,ds2,p2,q2,rfl,rfl,rfl,h2,r2⟩:=trodAll_cons r1
 obtain⟨rfl,rfl,rfl⟩:=trodAll_nil r2
 obtain rfl:args=#[v0,v1,v2]:=by cases args;simp_all
 obtain⟨rfl,rfl⟩:=trodVars_none hV
 obtain⟨s0,rfl,ln0,rs0,we0,cp0,sz0,lb0,ab0,ub0⟩:=open_state (hval 0 25 v0 rfl rfl) h0 (fun n hn=>by simpa using List.all_eq_true.1 hsz n (DataW.weights_mem_each (j:=0) rfl rfl n hn))
 have k0:=h0
 have lt0:∀x∈p0,x.block<W.heap.size:=by obtain⟨m,hm⟩:=k0;exact DataW.trod_lt m _ _ _ hm
 obtain⟨x1,rfl,fx1,bx1⟩:=open_deed (hval 1 28 v1 rfl rfl) h1 (fun n hn=>by simpa using List.all_eq_true.1 hsz n (DataW.weights_mem_each (j:=1) rfl rfl n hn))
 have k1:=h1
 have lt1:∀x∈p1,x.block<W.heap.size:=by obtain⟨m,hm⟩:=k1;exact DataW.trod_lt m _ _ _ hm
 obtain⟨a2,len2,cap2,rfl⟩:=okWide_slice Tryz.underlying29 (hval 2 29 v2 rfl rfl)
 have k2:=h2
 have lt2:∀x∈p2,x.block<W.heap.size:=by obtain⟨m,hm⟩:=k2;exact DataW.trod_lt m _ _ _ hm
 obtain⟨bs2,hl2,hc2,hm2,rd2⟩:∃bs:LU,bs.length=len2/\len2<=cap2/\cap2<=140737488351232/\Rd W a2 bs:=by
  obtain⟨fuel,hf⟩:=h2
  rcases open_ints Tryz.underlying29 Tryz.underlying5 (by kernel_rfl) hf with ⟨hcs,_⟩|⟨x,l,c,zs,hcs,_,hl,hm,hz,hx,hcell,hwz⟩
  ·simp[Value.cells] at hcs
   obtain⟨rfl,rfl,rfl⟩:=hcs
   exact⟨[],rfl,by omega,by omega,.inl rfl⟩
  ·simp[Value.cells] at hcs
   obtain⟨rfl,rfl,rfl⟩:=hcs
   have hz':zs.length=cap2:=by simpa using hz
   have hd:d2=.slice (lits .u8 (zs.take len2)) (lits .u8 (zs.drop len2)):=congrArg Prod.fst hx
   have hb:=sized_slice hsz (j:=2) (t:=29) (elems:=lits .u8 (zs.take len2)) (spare:=lits .u8 (zs.drop len2)) rfl (by rw[hd];rfl) Tryz.underlying29
   have hb':cap2<=140737488351232:=by
    rw[show Tryz.prog.bytesOf 5=1 from by kernel_rfl] at hb
    simp[lits,reachBytes] at hb;omega
   obtain⟨bs,e1,e2⟩:=rd_of_ints hl hz' hcell hwz
   exact⟨bs,e1,hl,hb',e2⟩
 clear hA0 hval0
 refine (walk_DeedDoes W s0 ln0 rs0 we0 cp0 sz0 lb0 ab0 ub0 x1 fx1 bx1 a2 bs2 len2 cap2 hl2 hc2 hm2 rd2).mono fun e W' ⟨he,bel⟩=>?_
 subst he
 exact⟨_,rfl,_,_,_,[],_,[],hW',trodAll_mk1 (shut_bool Tryz.underlying4 _),(trodAll_cons_mk (Below.trod laidOut (by kernel_rfl) (of_decide_eq_true (by kernel_rfl)) k0 bel lt0) (trodAll_cons_mk (Below.trod laidOut (by kernel_rfl) (of_decide_eq_true (by kernel_rfl)) k1 bel lt1) (trodAll_cons_mk (Below.trod laidOut (by kernel_rfl) (of_decide_eq_true (by kernel_rfl)) k2 bel lt2) trodAll_mk0))),rfl,bel.frame _,fun h=>by cases h⟩
theorem over:Rows.deedDoesRow.holds Tryz.pinned (OpenSpec.ofChange Rows.deedDoesSpec):=
 OpenClaim.holds_of_wide 3 Tryz.f3 rfl rfl rfl rfl rfl rfl rfl ⟨rfl,rfl,rfl,rfl,rfl⟩ rfl rfl rfl rfl rfl (by kernel_rfl) Tryz.func3 (by kernel_rfl)
  (of_decide_eq_true (by kernel_rfl)) (by unfold Func.isWrapper;first | (rw[if_pos (by decide +kernel)];kernel_rfl) | (rw[if_neg (by decide +kernel)];exact⟨rfl,rfl⟩))
  (fun os started H enc _=>lifted os started H enc)
end deedDoes
theorem deedDoes_holds:Rows.DeedDoesSaid:=deedDoes.over
#print axioms deedDoes_holds
end Go.Proofs.YtnfigjggjmncdaaGreat
