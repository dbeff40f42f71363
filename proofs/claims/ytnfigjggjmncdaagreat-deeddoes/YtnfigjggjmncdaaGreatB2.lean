/- Contracts. -/
import Derived.Test.YtnfigjggjmncdaaGreatB1
set_option maxRecDepth 100000
set_option maxHeartbeats 4000000
namespace Go.Proofs.YtnfigjggjmncdaaGreat
section
open Go.RowKit Go.Sort Spans Op
theorem cell_of_block {w w':World} {p:Addr} (h:w'.heap[p.block]?=w.heap[p.block]?):w'.cell? p=w.cell? p:=by unfold World.cell?;rw[h]
theorem RdK.of_block {α:Type} {L:Lay α} {w w':World} {A:OA} {es:List α} (h:RdK L w A es) (hs:w.heap.size<=w'.heap.size) (hb:∀a,A=some a->w'.heap[a.block]?=w.heap[a.block]?):RdK L w' A es:=by
 rcases h with rfl|⟨g,off,rfl,hg,hc⟩
 ·exact .inl rfl
 ·exact .inr ⟨g,off,rfl,Nat.lt_of_lt_of_le hg hs,fun i hi j v hv=>(cell_of_block (p:=⟨g,off+i*L.k+j,none⟩) (hb ⟨g,off,none⟩ rfl)).trans (hc i hi j v hv)⟩
theorem RdK.set_ {α:Type} {L:Lay α} {w:World} {A:OA} {es:List α} (h:RdK L w A es) {b:Nat} (hA:∀a,A=some a->a.block<b) (i:Nat) (u:Value):RdK L (w.setCell ⟨b,i,none⟩ u) A es:=
 h.of_block (by simp) fun a ha=>heap_setCell_other w ⟨b,i,none⟩ a.block u (by have:=hA a ha;show a.block≠b;omega)
theorem RdK.put7 {α:Type} {L:Lay α} {w:World} {A:OA} {es:List α} (h:RdK L w A es) {b:Nat} (hA:∀a,A=some a->a.block<b) (u0 u1 u2 u3 u4 u5 u6:Value):
  RdK L (((((((w.setCell ⟨b,0,none⟩ u0).setCell ⟨b,1,none⟩ u1).setCell ⟨b,2,none⟩ u2).setCell ⟨b,3,none⟩ u3).setCell ⟨b,4,none⟩ u4).setCell ⟨b,5,none⟩ u5).setCell ⟨b,6,none⟩ u6) A es:=
 ((((((h.set_ hA 0 u0).set_ hA 1 u1).set_ hA 2 u2).set_ hA 3 u3).set_ hA 4 u4).set_ hA 5 u5).set_ hA 6 u6
theorem run_cutB {w:World} {A:OA} {es:List Val} {n cap:Nat} {B:Nat} (hr:RdW w A es) (hA:∀a,A=some a->a.block<B) (hn:es.length=n) (hk:1<=n) (hc:n<=cap):
  ∃A',(∀W,(Instr.slice 95 (.slice A n cap) (some (.int .i64 1)) none none).run Tryz.prog W=.ok (.slice A' (n-1) (cap-1)) W)/\RdW w A' (es.drop 1)/\∀a,A'=some a->a.block<B:=by
 rcases hr with rfl|⟨g,off,rfl,hg,hcell⟩
 ·simp at hn;omega
 ·by_cases hck:cap=1
  ·refine ⟨some ⟨g,off,none⟩,fun W=>?_,.inl (List.drop_eq_nil_of_le (by omega)),hA⟩
   have h1:(0:Int)<=(1:Int):=by omega
   have h2:(1:Int)<=(n:Int):=by omega
   subst hck
   go_simp
  ·refine ⟨some ⟨g,off+3,none⟩,fun W=>?_,.inr ⟨g,off+3,rfl,hg,fun i hi j v hv=>?_⟩,fun a ha=>?_⟩
   ·have h1:(0:Int)<=(1:Int):=by omega
    have h2:(1:Int)<=(n:Int):=by omega
    go_simp
   ·have hi':1+i<es.length:=by simp at hi;omega
    rw[List.getElem_drop] at hv
    have:=hcell (1+i) hi' j v hv
    rw[show off+(1+i)*layV.k+j=off+3+i*layV.k+j by show off+(1+i)*3+j=off+3+i*3+j;omega] at this
    exact this
   ·injection ha with ha
    subst ha
    exact hA ⟨g,off,none⟩ rfl
theorem Tch.cell {A:OA} {w w':World} {p:Addr} (h:Tch A w w') (hg:p.block<w.heap.size) (hne:∀a,A=some a->a.block<p.block):w'.cell? p=w.cell? p:=
 cell_of_block (World.grownBy.block h p.block hg (by
  cases A with
  | none=>simp
  | some a=>have:=hne a rfl;simp;omega))
theorem boxN_tch {A:OA} {G:Nat} {lo hi:Int} (hA:∀a,A=some a->a.block<G):∀W W',BoxN G lo hi W->Tch A W W'->BoxN G lo hi W':=
 fun _ _ ⟨h0,h1,h2⟩ hT=>⟨Nat.lt_of_lt_of_le h0 hT.size,(hT.cell (p:=⟨G,1,none⟩) h0 hA).trans h1,(hT.cell (p:=⟨G,2,none⟩) h0 hA).trans h2⟩
theorem tch_set {A:OA} {w w':World} {b i:Nat} {u:Value} (h:Tch A w w') (hb:w.heap.size<=b):Tch A w (w'.setCell ⟨b,i,none⟩ u):=
 ⟨h.os,h.tape,h.output,by simpa using h.size,fun k hk hne=>(heap_setCell_other w' ⟨b,i,none⟩ k u (by show k≠b;omega)).trans (World.grownBy.block h k hk hne)⟩
theorem tch_put7 {A:OA} {w0 w:World} {b:Nat} (h:Tch A w0 w) (hb:w0.heap.size<=b) (u0 u1 u2 u3 u4 u5 u6:Value):
  Tch A w0 (((((((w.setCell ⟨b,0,none⟩ u0).setCell ⟨b,1,none⟩ u1).setCell ⟨b,2,none⟩ u2).setCell ⟨b,3,none⟩ u3).setCell ⟨b,4,none⟩ u4).setCell ⟨b,5,none⟩ u5).setCell ⟨b,6,none⟩ u6):=
 tch_set (tch_set (tch_set (tch_set (tch_set (tch_set (tch_set h hb) hb) hb) hb) hb) hb) hb
def Trims (P:Sp->Prop) (A:OA) (n:Nat) (w:World) (e:Ending) (w':World):Prop:=
 ∃r A' n' c',e=.returned (spF r.kind r.lo r.hi r.frm r.to_ r.opn A' n' c')/\r.no.length=n'/\n'<=n/\RdW w' A' r.no/\Tch A w w'/\P r
theorem trimNum_at (K lo hi:Int) (A:OA) (n c:Nat) (w:World) (base:Nat) (l:List Val) (hk:K=1∨K=3) (hlow:lowest K<=lo) (hhigh:hi<=highest K) (hn:l.length=n) (hm:n<=100000)
  (hl:∀v∈l,v.k=K/\v.t=[]) (hr:RiseV l) (ho:OwnW w base (.slice A n c) l):
  Calls Tryz.prog 143 #[spF K lo hi [] [] false A n c] w (Trims (IsInts K lo hi l) A n w):=by
 have hlo64:-9223372036854775808<=lo:=by
  have h:-9223372036854775808<=lowest K:=by unfold lowest;split<;>omega
  omega
 have hhi64:hi<=9223372036854775807:=by
  have h:highest K<=9223372036854775807:=by unfold highest;split<;>omega
  omega
 have HN:=Jh hn
 have HK:=Jh hk
 have HLo:=Jh hlow
 have HHi:=Jh hhigh
 clear hn hk hlow hhigh
 by_cases hlh:hi<lo
 ·go_enter Tryz.func143,Tryz.ntmps143
  go_wp2_with fail
  refine bodyPost_ret (v:=spF 0 0 0 [] [] false none 0 0) (by simp[results,Tryz.results143,go_sem]) rfl ?_
  exact⟨none_,none,0,0,rfl,rfl,Nat.zero_le _,.inl rfl,Tch.of_below (gr2 _ _ _).below,ints_none HK.o fun x h1 h2=>by omega⟩
 have hlh':lo<=hi:=by omega
 have hgr:=gr2 w (.cells (sC K lo hi #[] #[] false A n c) 97) (.cells zC 97)
 have hbx:=(Blk.new w 97 (sC K lo hi #[] #[] false A n c)).alloc (.cells zC 97)
 have hrs:=Blk.new (w.alloc (.cells (sC K lo hi #[] #[] false A n c) 97)) 97 zC
 rw[show (w.alloc (.cells (sC K lo hi #[] #[] false A n c) 97)).heap.size=w.heap.size+1 by simp] at hrs
 have hA0:=fun a ha=>(own_addr ho a ha).2
 have ho2:=OwnK.below ho hgr.below
 have eg:∀args w,(callFunc 170 args).run Tryz.prog w=.ok (.enter 170 args) w:=enters_of Tryz.func170 (by kernel_rfl) rfl
 have hbN:BoxN w.heap.size lo hi ((w.alloc (.cells (sC K lo hi #[] #[] false A n c) 97)).alloc (.cells zC 97)):=⟨hbx.lt,hbx.cell 1,hbx.cell 2⟩
 have hsz:((w.alloc (.cells (sC K lo hi #[] #[] false A n c) 97)).alloc (.cells zC 97)).heap.size=w.heap.size+2:=by simp
 have hB2:Tch A w ((w.alloc (.cells (sC K lo hi #[] #[] false A n c) 97)).alloc (.cells zC 97)):=Tch.of_below hgr.below
 have hdel:=deleteV_own (BoxN w.heap.size lo hi) 170 #[.pointer (some ⟨w.heap.size,0,none⟩)] (outN lo hi) (predN_at w.heap.size lo hi) eg HN.o hm ho2 hbN (boxN_tch hA0)
 clear ho ho2 hbN eg
 go_enter Tryz.func143,Tryz.ntmps143
 go_wp2_with fail
 generalize hw2:(w.alloc (.cells (sC K lo hi #[] #[] false A n c) 97)).alloc (.cells zC 97)=w2 at *
 clear hw2
 refine hdel.mono ?_
 rintro e w3 ⟨n3,rfl,hl3,hn3,ho3,ht3⟩
 clear hdel
 have HTN:=Jh (TN.start hl hr hlh' (outN lo hi) (fun _=>rfl))
 have HB3:=Jh (hB2.trans ht3)
 have HX3:=Jh (ht3.blk hbx hA0)
 have HY3:=Jh (ht3.blk hrs fun a ha=>Nat.lt_succ_of_lt (hA0 a ha))
 have HR3:=Jh (Gives.rd ho3)
 have HL3:=Jh hl3
 have HA0:=Jh hA0
 have hc3:n3<=c:=by
  obtain⟨_,_,e,h,_⟩:=OwnK.rd ho3
  injection e with e1 e2 e3
  omega
 clear hl hr hgr hbx hrs hA0 hB2 ho3 ht3 hl3
 generalize (l.filter fun v=>!outN lo hi v)=m3 at *
 generalize hG:w.heap.size=G at *
 have HG:=Jh hG
 clear hG hsz
 go_wp2_with fail
 go_loopg [3] n3 (fun gg s3 wr=>∃(m:List Val) (lo':Int) (A':OA) (k c':Nat),s3=.slice A' k c'/\k<=c'/\k<=n3/\k<=gg/\lo<=lo'/\lo'<=hi/\Hid (m.length=k)/\Hid (TN K lo hi l lo' hi m)/\Hid (RdW wr A' m)/\Hid (∀a,A'=some a->a.block<G)/\Hid (Blk wr G 97 (sC K lo' hi #[] #[] false A n c))/\Hid (Blk wr (G+1) 97 zC)/\Hid (Tch A w wr))
 case atStart=>exact⟨m3,lo,A,n3,c,rfl,hc3,Jn,Jn,Int.le_refl _,hlh',HL3,HTN,HR3,HA0,HX3,HY3,HB3⟩
 case round=>
  obtain⟨m,lo',A',k,c',rfl,hkc,hkn,hkg,hll,hlr,HML,HT,HR,HA,HX,HY,HB⟩:=hrel
  clear HTN HB3 HX3 HY3 HR3 HL3 HA0
  have hltX:=HX.o.lt
  have hltY:=HY.o.lt
  have hne1:¬G=G+1:=by omega
  have hne2:¬G+1=G:=by omega
  have X1:=fun n os=>cell_grown (w:=wr) (a:=⟨G,1,none⟩) hltX (HX.o.cell 1) n os
  have X2:=fun n os=>cell_grown (w:=wr) (a:=⟨G,2,none⟩) hltX (HX.o.cell 2) n os
  simp at X1 X2
  by_cases hk0:k=0
  ·have HLO:Hid ((⟨K,lo',[]⟩:Val)∉l):=HT.o.low_out fun h0=>by have:=HML.o;omega
   have w5:decide (0<k)=false:=decide_eq_false (by omega)
   clear hk0
   go_wp2_with fail
   refine qgr (fun nq osq=>?_)
   have hgq:Grown wr (grow (wr.drewN nq) osq):=⟨nq,osq,rfl⟩
   generalize grow (wr.drewN nq) osq=wq at *
   have HR1:=Jh (HR.o.below hgq.below)
   have HX1:=Jh (Blk.below HX.o hgq.below HX.o.lt)
   have HY1:=Jh (Blk.below HY.o hgq.below HY.o.lt)
   have HB1:=Jh (HB.o.trans (Tch.of_below hgq.below))
   clear HR HX HY HB hgq X1 X2 hltX hltY w5
   go_wp2_with fail
   go_loopg [3] k (fun gg s3 wr=>∃(m:List Val) (hi':Int) (A':OA) (k':Nat),s3=.slice A' k' c'/\k'<=c'/\k'<=n3/\k'<=gg/\lo'<=hi'/\hi'<=hi/\Hid (m.length=k')/\Hid (TN K lo hi l lo' hi' m)/\Hid (RdW wr A' m)/\Hid (∀a,A'=some a->a.block<G)/\Hid (Blk wr G 97 (sC K lo' hi' #[] #[] false A n c))/\Hid (Blk wr (G+1) 97 zC)/\Hid (Tch A w wr))
   case atStart=>exact⟨m,hi,A',k,rfl,hkc,hkn,Jn,hlr,Int.le_refl _,HML,HT,HR1,HA,HX1,HY1,HB1⟩
   case round=>
    obtain⟨m,hi',A',k,rfl,hkc,hkn,hkg,hll2,hlr2,HML,HT,HR,HA,HX,HY,HB⟩:=hrel
    clear HR1 HX1 HY1 HB1
    have hltX:=HX.o.lt
    have hltY:=HY.o.lt
    have X1:=fun n os=>cell_grown (w:=wr) (a:=⟨G,1,none⟩) hltX (HX.o.cell 1) n os
    have X2:=fun n os=>cell_grown (w:=wr) (a:=⟨G,2,none⟩) hltX (HX.o.cell 2) n os
    simp at X1 X2
    by_cases hk0:k=0
    ·have HHO:Hid ((⟨K,hi',[]⟩:Val)∉l):=HT.o.high_out fun h0=>by have:=HML.o;omega
     have w5:decide (0<k)=false:=decide_eq_false (by omega)
     clear hk0
     go_wp2_with fail
     refine qgr (fun nq osq=>?_)
     have hgq:Grown wr (grow (wr.drewN nq) osq):=⟨nq,osq,rfl⟩
     generalize grow (wr.drewN nq) osq=wq at *
     have HR1:=Jh (HR.o.below hgq.below)
     have HX1:=Jh (Blk.below HX.o hgq.below HX.o.lt)
     have HY1:=Jh (Blk.below HY.o hgq.below HY.o.lt)
     have HB1:=Jh (HB.o.trans (Tch.of_below hgq.below))
     clear HR HX HY HB hgq X1 X2 hltX hltY w5
     have hltX:=HX1.o.lt
     have hltY:=HY1.o.lt
     obtain⟨x0,x1,x2,x3,x4,x5,x6,p0,p1,p2,p3,p4,p5,p6⟩:=blk7 HX1.o
     obtain⟨y0,y1,y2,y3,y4,y5,y6,q0,q1,q2,q3,q4,q5,q6⟩:=blk7 HY1.o
     go_wp2_with fail
     refine bodyPost_ret (v:=spF K lo' hi' [] [] false (A') k c') (by simp[results,Tryz.results143,go_sem,y0,y1,y2,y3,y4,y5,y6]) rfl ?_
     exact⟨⟨K,lo',hi',[],[],false,m⟩,A',k,c',rfl,HML.o,by omega,RdK.put7 (RdK.set_ HR1.o HA.o 6 _) (fun a ha=>Nat.lt_succ_of_lt (HA.o a ha)) _ _ _ _ _ _ _,tch_put7 (tch_set HB1.o (Nat.le_of_eq HG.o)) (by have:=HG.o;omega) _ _ _ _ _ _ _,HT.o.done HK.o HLo.o HHi.o HLO.o HHO.o⟩
    ·have hk1:k-1<m.length:=by rw[HML.o];omega
     obtain⟨g,off,rfl,hg,c0,c1,c2⟩:=RdW.at3 HR.o hk1
     have hgG:g<G:=HA.o _ rfl
     have hne3:¬g=G:=by omega
     obtain⟨x,hx⟩:∃x,m[k-1]=x:=⟨_,rfl⟩
     have HXX:=Jh hx
     rw[hx] at c0 c1 c2
     clear hx
     obtain⟨xk,xi,xt⟩:=x
     have C1:=fun n os=>cell_grown (w:=wr) (a:=⟨g,off+(k-1)*3+1,none⟩) hg c1 n os
     clear c0 c1 c2
     have w1:IntKind.i64.wrap ((k:Int)-1)=(k:Int)-1:=by rw[IntKind.wrap_i64];omega
     have w2':(0:Int)<=(k:Int)-1:=by omega
     have w3':(k:Int)-1<(k:Int):=by omega
     have w4:((k:Int)-1).toNat=k-1:=by omega
     have w7:(1:Int)<=(k:Int):=by omega
     have w8:0<k:=by omega
     have w5:decide (0<k)=true:=decide_eq_true (by omega)
     have hlast:∀h0:0<m.length,m[m.length-1]=⟨xk,xi,xt⟩:=fun h0=>by
      have e:m.length-1=k-1:=by rw[HML.o]
      simp only[e]
      exact HXX.o
     have HLA:=Jh hlast
     clear hlast
     by_cases hxi:xi=hi'
     ·subst hxi
      have HT2:Hid (TN K lo hi l lo' (xi-1) (m.take (k-1))):=by
       have h0:0<m.length:=by omega
       have:=HT.o.down HLO.o h0 (by rw[HLA.o h0])
       rw[HML.o] at this
       exact this
      have hlt3:lo'<=xi-1:=HT2.o.ord
      go_wp2_with fail
      refine qgr (fun nq osq=>?_)
      have hgq:Grown wr (grow (wr.drewN nq) osq):=⟨nq,osq,rfl⟩
      generalize grow (wr.drewN nq) osq=wq at *
      have HR1:=Jh (HR.o.below hgq.below)
      have HX1:=Jh (Blk.below HX.o hgq.below HX.o.lt)
      have HY1:=Jh (Blk.below HY.o hgq.below HY.o.lt)
      have HB1:=Jh (HB.o.trans (Tch.of_below hgq.below))
      clear HR HX HY HB hgq X1 X2 hltX hltY C1 w2' w3' w4 w5 w7 w8
      have hltX:=HX1.o.lt
      have hltY:=HY1.o.lt
      obtain⟨x0,x1,x2,x3,x4,x5,x6,p0,p1,p2,p3,p4,p5,p6⟩:=blk7 HX1.o
      obtain⟨y0,y1,y2,y3,y4,y5,y6,q0,q1,q2,q3,q4,q5,q6⟩:=blk7 HY1.o
      have w6:IntKind.i64.wrap (xi-1)=xi-1:=by rw[IntKind.wrap_i64];omega
      have hhd:∀W,(Instr.slice 95 (.slice (some ⟨g,off,none⟩) k c') none (some (.int .i64 ((k:Int)-1))) none).run Tryz.prog W=.ok (.slice (some ⟨g,off,none⟩) (k-1) c') W:=by
       intro W
       have:=run_headW (some ⟨g,off,none⟩) k c' (k-1) (by omega) hkc W
       rw[show ((k-1:Nat):Int)=(k:Int)-1 by omega] at this
       exact this
      go_wp2_with fail
      go_roundg (k-1)
      case measure=>omega
      case rel=>exact⟨m.take (k-1),xi-1,some ⟨g,off,none⟩,k-1,rfl,by omega,by omega,Jn,hlt3,by omega,by show _=_;simp[HML.o],HT2,RdK.set_ (RdK.take HR1.o _) HA.o _ _,HA,by show Blk _ _ _ _;simpa using Blk.put HX1.o 2 (.int .i64 (xi-1)),Blk.far HY1.o (by show G+1≠G;omega) _,tch_set HB1.o (Nat.le_of_eq HG.o)⟩
     ·have HHO:Hid ((⟨K,hi',[]⟩:Val)∉l):=HT.o.high_out fun h0=>by rw[HLA.o h0];exact hxi
      have w6:(xi == hi')=false:=beq_eq_false_iff_ne.2 hxi
      go_wp2_with fail
      refine qgr (fun nq osq=>?_)
      have hgq:Grown wr (grow (wr.drewN nq) osq):=⟨nq,osq,rfl⟩
      generalize grow (wr.drewN nq) osq=wq at *
      have HR1:=Jh (HR.o.below hgq.below)
      have HX1:=Jh (Blk.below HX.o hgq.below HX.o.lt)
      have HY1:=Jh (Blk.below HY.o hgq.below HY.o.lt)
      have HB1:=Jh (HB.o.trans (Tch.of_below hgq.below))
      clear HR HX HY HB hgq X1 X2 hltX hltY C1 w1 w2' w3' w4 w5 w6 w7 w8 hxi
      have hltX:=HX1.o.lt
      have hltY:=HY1.o.lt
      obtain⟨x0,x1,x2,x3,x4,x5,x6,p0,p1,p2,p3,p4,p5,p6⟩:=blk7 HX1.o
      obtain⟨y0,y1,y2,y3,y4,y5,y6,q0,q1,q2,q3,q4,q5,q6⟩:=blk7 HY1.o
      go_wp2_with fail
      refine bodyPost_ret (v:=spF K lo' hi' [] [] false (some ⟨g,off,none⟩) k c') (by simp[results,Tryz.results143,go_sem,y0,y1,y2,y3,y4,y5,y6]) rfl ?_
      exact⟨⟨K,lo',hi',[],[],false,m⟩,some ⟨g,off,none⟩,k,c',rfl,HML.o,by omega,RdK.put7 (RdK.set_ HR1.o HA.o 6 _) (fun a ha=>Nat.lt_succ_of_lt (HA.o a ha)) _ _ _ _ _ _ _,tch_put7 (tch_set HB1.o (Nat.le_of_eq HG.o)) (by have:=HG.o;omega) _ _ _ _ _ _ _,HT.o.done HK.o HLo.o HHi.o HLO.o HHO.o⟩
  ·have h0:0<m.length:=by rw[HML.o];omega
   obtain⟨g,off,rfl,hg,c0,c1,c2⟩:=RdW.at3 HR.o h0
   have hgG:g<G:=HA.o _ rfl
   have hne3:¬g=G:=by omega
   obtain⟨x,hx⟩:∃x,m[0]=x:=⟨_,rfl⟩
   have HXX:=Jh hx
   rw[hx] at c0 c1 c2
   clear hx
   obtain⟨xk,xi,xt⟩:=x
   rw[Nat.zero_mul,Nat.add_zero] at c1
   have C1:=fun n os=>cell_grown (w:=wr) (a:=⟨g,off+1,none⟩) hg c1 n os
   clear c0 c1 c2
   have w5:decide (0<k)=true:=decide_eq_true (by omega)
   have w6:(0:Int)<(k:Int):=by omega
   have w9:0<k:=by omega
   by_cases hxi:xi=lo'
   ·subst hxi
    by_cases hxh:xi=hi
    ·have HF:Hid (IsInts K lo hi l none_):=HT.o.full HK.o h0 (by rw[HXX.o]) hxh rfl
     subst hxh
     go_wp2_with fail
     refine qgr (fun nq osq=>?_)
     have hgq:Grown wr (grow (wr.drewN nq) osq):=⟨nq,osq,rfl⟩
     generalize grow (wr.drewN nq) osq=wq at *
     have HR1:=Jh (HR.o.below hgq.below)
     have HX1:=Jh (Blk.below HX.o hgq.below HX.o.lt)
     have HY1:=Jh (Blk.below HY.o hgq.below HY.o.lt)
     have HB1:=Jh (HB.o.trans (Tch.of_below hgq.below))
     clear HR HX HY HB hgq X1 X2 hltX hltY C1 w5 w6 w9
     have hltX:=HX1.o.lt
     have hltY:=HY1.o.lt
     obtain⟨x0,x1,x2,x3,x4,x5,x6,p0,p1,p2,p3,p4,p5,p6⟩:=blk7 HX1.o
     obtain⟨y0,y1,y2,y3,y4,y5,y6,q0,q1,q2,q3,q4,q5,q6⟩:=blk7 HY1.o
     go_wp2_with fail
     refine bodyPost_ret (v:=spF 0 0 0 [] [] false none 0 0) (by simp[results,Tryz.results143,go_sem,y0,y1,y2,y3,y4,y5,y6]) rfl ?_
     exact⟨none_,none,0,0,rfl,rfl,Nat.zero_le _,.inl rfl,tch_put7 HB1.o (by have:=HG.o;omega) _ _ _ _ _ _ _,HF.o⟩
    ·have HT2:Hid (TN K lo hi l (xi+1) hi (m.drop 1)):=HT.o.up h0 (by rw[HXX.o]) hxh
     have w7:(xi == hi)=false:=beq_eq_false_iff_ne.2 hxh
     have w8:IntKind.i64.wrap (xi+1)=xi+1:=by rw[IntKind.wrap_i64];omega
     go_wp2_with fail
     refine qgr (fun nq osq=>?_)
     have hgq:Grown wr (grow (wr.drewN nq) osq):=⟨nq,osq,rfl⟩
     generalize grow (wr.drewN nq) osq=wq at *
     have HR1:=Jh (HR.o.below hgq.below)
     have HX1:=Jh (Blk.below HX.o hgq.below HX.o.lt)
     have HY1:=Jh (Blk.below HY.o hgq.below HY.o.lt)
     have HB1:=Jh (HB.o.trans (Tch.of_below hgq.below))
     clear HR HX HY HB hgq X1 X2 hltX hltY C1 w5 w6 w9
     have hltX:=HX1.o.lt
     have hltY:=HY1.o.lt
     obtain⟨x0,x1,x2,x3,x4,x5,x6,p0,p1,p2,p3,p4,p5,p6⟩:=blk7 HX1.o
     obtain⟨y0,y1,y2,y3,y4,y5,y6,q0,q1,q2,q3,q4,q5,q6⟩:=blk7 HY1.o
     obtain⟨B',hcut,hrc,hBB⟩:=run_cutB HR1.o HA.o HML.o (by omega) hkc
     have HRC:=Jh hrc
     have HBB:=Jh hBB
     clear hrc hBB
     go_wp2_with fail
     go_roundg (k-1)
     case measure=>omega
     case rel=>exact⟨m.drop 1,xi+1,B',k-1,c'-1,rfl,by omega,by omega,Jn,by omega,by omega,by show _=_;simp[HML.o],HT2,RdK.set_ HRC.o HBB.o _ _,HBB,by show Blk _ _ _ _;simpa using Blk.put HX1.o 1 (.int .i64 (xi+1)),Blk.far HY1.o (by show G+1≠G;omega) _,tch_set HB1.o (Nat.le_of_eq HG.o)⟩
   ·have HLO:Hid ((⟨K,lo',[]⟩:Val)∉l):=HT.o.low_out fun h0=>by rw[HXX.o];exact hxi
    have w7:(xi == lo')=false:=beq_eq_false_iff_ne.2 hxi
    go_wp2_with fail
    refine qgr (fun nq osq=>?_)
    have hgq:Grown wr (grow (wr.drewN nq) osq):=⟨nq,osq,rfl⟩
    generalize grow (wr.drewN nq) osq=wq at *
    have HR1:=Jh (HR.o.below hgq.below)
    have HX1:=Jh (Blk.below HX.o hgq.below HX.o.lt)
    have HY1:=Jh (Blk.below HY.o hgq.below HY.o.lt)
    have HB1:=Jh (HB.o.trans (Tch.of_below hgq.below))
    clear HR HX HY HB hgq X1 X2 hltX hltY C1 w5 w6 w7 w9 hgG hg hne3 hxi HXX
    go_wp2_with fail
    go_loopg [3] k (fun gg s3 wr=>∃(m:List Val) (hi':Int) (A':OA) (k':Nat),s3=.slice A' k' c'/\k'<=c'/\k'<=n3/\k'<=gg/\lo'<=hi'/\hi'<=hi/\Hid (m.length=k')/\Hid (TN K lo hi l lo' hi' m)/\Hid (RdW wr A' m)/\Hid (∀a,A'=some a->a.block<G)/\Hid (Blk wr G 97 (sC K lo' hi' #[] #[] false A n c))/\Hid (Blk wr (G+1) 97 zC)/\Hid (Tch A w wr))
    case atStart=>exact⟨m,hi,some ⟨g,off,none⟩,k,rfl,hkc,hkn,Jn,hlr,Int.le_refl _,HML,HT,HR1,HA,HX1,HY1,HB1⟩
    case round=>
     obtain⟨m,hi',A',k,rfl,hkc,hkn,hkg,hll2,hlr2,HML,HT,HR,HA,HX,HY,HB⟩:=hrel
     clear HR1 HX1 HY1 HB1
     have hltX:=HX.o.lt
     have hltY:=HY.o.lt
     have X1:=fun n os=>cell_grown (w:=wr) (a:=⟨G,1,none⟩) hltX (HX.o.cell 1) n os
     have X2:=fun n os=>cell_grown (w:=wr) (a:=⟨G,2,none⟩) hltX (HX.o.cell 2) n os
     simp at X1 X2
     by_cases hk0:k=0
     ·have HHO:Hid ((⟨K,hi',[]⟩:Val)∉l):=HT.o.high_out fun h0=>by have:=HML.o;omega
      have w5:decide (0<k)=false:=decide_eq_false (by omega)
      clear hk0
      go_wp2_with fail
      refine qgr (fun nq osq=>?_)
      have hgq:Grown wr (grow (wr.drewN nq) osq):=⟨nq,osq,rfl⟩
      generalize grow (wr.drewN nq) osq=wq at *
      have HR1:=Jh (HR.o.below hgq.below)
      have HX1:=Jh (Blk.below HX.o hgq.below HX.o.lt)
      have HY1:=Jh (Blk.below HY.o hgq.below HY.o.lt)
      have HB1:=Jh (HB.o.trans (Tch.of_below hgq.below))
      clear HR HX HY HB hgq X1 X2 hltX hltY w5
      have hltX:=HX1.o.lt
      have hltY:=HY1.o.lt
      obtain⟨x0,x1,x2,x3,x4,x5,x6,p0,p1,p2,p3,p4,p5,p6⟩:=blk7 HX1.o
      obtain⟨y0,y1,y2,y3,y4,y5,y6,q0,q1,q2,q3,q4,q5,q6⟩:=blk7 HY1.o
      go_wp2_with fail
      refine bodyPost_ret (v:=spF K lo' hi' [] [] false (A') k c') (by simp[results,Tryz.results143,go_sem,y0,y1,y2,y3,y4,y5,y6]) rfl ?_
      exact⟨⟨K,lo',hi',[],[],false,m⟩,A',k,c',rfl,HML.o,by omega,RdK.put7 (RdK.set_ HR1.o HA.o 6 _) (fun a ha=>Nat.lt_succ_of_lt (HA.o a ha)) _ _ _ _ _ _ _,tch_put7 (tch_set HB1.o (Nat.le_of_eq HG.o)) (by have:=HG.o;omega) _ _ _ _ _ _ _,HT.o.done HK.o HLo.o HHi.o HLO.o HHO.o⟩
     ·have hk1:k-1<m.length:=by rw[HML.o];omega
      obtain⟨g,off,rfl,hg,c0,c1,c2⟩:=RdW.at3 HR.o hk1
      have hgG:g<G:=HA.o _ rfl
      have hne3:¬g=G:=by omega
      obtain⟨x,hx⟩:∃x,m[k-1]=x:=⟨_,rfl⟩
      have HXX:=Jh hx
      rw[hx] at c0 c1 c2
      clear hx
      obtain⟨xk,xi,xt⟩:=x
      have C1:=fun n os=>cell_grown (w:=wr) (a:=⟨g,off+(k-1)*3+1,none⟩) hg c1 n os
      clear c0 c1 c2
      have w1:IntKind.i64.wrap ((k:Int)-1)=(k:Int)-1:=by rw[IntKind.wrap_i64];omega
      have w2':(0:Int)<=(k:Int)-1:=by omega
      have w3':(k:Int)-1<(k:Int):=by omega
      have w4:((k:Int)-1).toNat=k-1:=by omega
      have w7:(1:Int)<=(k:Int):=by omega
      have w8:0<k:=by omega
      have w5:decide (0<k)=true:=decide_eq_true (by omega)
      have hlast:∀h0:0<m.length,m[m.length-1]=⟨xk,xi,xt⟩:=fun h0=>by
       have e:m.length-1=k-1:=by rw[HML.o]
       simp only[e]
       exact HXX.o
      have HLA:=Jh hlast
      clear hlast
      by_cases hxi:xi=hi'
      ·subst hxi
       have HT2:Hid (TN K lo hi l lo' (xi-1) (m.take (k-1))):=by
        have h0:0<m.length:=by omega
        have:=HT.o.down HLO.o h0 (by rw[HLA.o h0])
        rw[HML.o] at this
        exact this
       have hlt3:lo'<=xi-1:=HT2.o.ord
       go_wp2_with fail
       refine qgr (fun nq osq=>?_)
       have hgq:Grown wr (grow (wr.drewN nq) osq):=⟨nq,osq,rfl⟩
       generalize grow (wr.drewN nq) osq=wq at *
       have HR1:=Jh (HR.o.below hgq.below)
       have HX1:=Jh (Blk.below HX.o hgq.below HX.o.lt)
       have HY1:=Jh (Blk.below HY.o hgq.below HY.o.lt)
       have HB1:=Jh (HB.o.trans (Tch.of_below hgq.below))
       clear HR HX HY HB hgq X1 X2 hltX hltY C1 w2' w3' w4 w5 w7 w8
       have hltX:=HX1.o.lt
       have hltY:=HY1.o.lt
       obtain⟨x0,x1,x2,x3,x4,x5,x6,p0,p1,p2,p3,p4,p5,p6⟩:=blk7 HX1.o
       obtain⟨y0,y1,y2,y3,y4,y5,y6,q0,q1,q2,q3,q4,q5,q6⟩:=blk7 HY1.o
       have w6:IntKind.i64.wrap (xi-1)=xi-1:=by rw[IntKind.wrap_i64];omega
       have hhd:∀W,(Instr.slice 95 (.slice (some ⟨g,off,none⟩) k c') none (some (.int .i64 ((k:Int)-1))) none).run Tryz.prog W=.ok (.slice (some ⟨g,off,none⟩) (k-1) c') W:=by
        intro W
        have:=run_headW (some ⟨g,off,none⟩) k c' (k-1) (by omega) hkc W
        rw[show ((k-1:Nat):Int)=(k:Int)-1 by omega] at this
        exact this
       go_wp2_with fail
       go_roundg (k-1)
       case measure=>omega
       case rel=>exact⟨m.take (k-1),xi-1,some ⟨g,off,none⟩,k-1,rfl,by omega,by omega,Jn,hlt3,by omega,by show _=_;simp[HML.o],HT2,RdK.set_ (RdK.take HR1.o _) HA.o _ _,HA,by show Blk _ _ _ _;simpa using Blk.put HX1.o 2 (.int .i64 (xi-1)),Blk.far HY1.o (by show G+1≠G;omega) _,tch_set HB1.o (Nat.le_of_eq HG.o)⟩
      ·have HHO:Hid ((⟨K,hi',[]⟩:Val)∉l):=HT.o.high_out fun h0=>by rw[HLA.o h0];exact hxi
       have w6:(xi == hi')=false:=beq_eq_false_iff_ne.2 hxi
       go_wp2_with fail
       refine qgr (fun nq osq=>?_)
       have hgq:Grown wr (grow (wr.drewN nq) osq):=⟨nq,osq,rfl⟩
       generalize grow (wr.drewN nq) osq=wq at *
       have HR1:=Jh (HR.o.below hgq.below)
       have HX1:=Jh (Blk.below HX.o hgq.below HX.o.lt)
       have HY1:=Jh (Blk.below HY.o hgq.below HY.o.lt)
       have HB1:=Jh (HB.o.trans (Tch.of_below hgq.below))
       clear HR HX HY HB hgq X1 X2 hltX hltY C1 w1 w2' w3' w4 w5 w6 w7 w8 hxi
       have hltX:=HX1.o.lt
       have hltY:=HY1.o.lt
       obtain⟨x0,x1,x2,x3,x4,x5,x6,p0,p1,p2,p3,p4,p5,p6⟩:=blk7 HX1.o
       obtain⟨y0,y1,y2,y3,y4,y5,y6,q0,q1,q2,q3,q4,q5,q6⟩:=blk7 HY1.o
       go_wp2_with fail
       refine bodyPost_ret (v:=spF K lo' hi' [] [] false (some ⟨g,off,none⟩) k c') (by simp[results,Tryz.results143,go_sem,y0,y1,y2,y3,y4,y5,y6]) rfl ?_
       exact⟨⟨K,lo',hi',[],[],false,m⟩,some ⟨g,off,none⟩,k,c',rfl,HML.o,by omega,RdK.put7 (RdK.set_ HR1.o HA.o 6 _) (fun a ha=>Nat.lt_succ_of_lt (HA.o a ha)) _ _ _ _ _ _ _,tch_put7 (tch_set HB1.o (Nat.le_of_eq HG.o)) (by have:=HG.o;omega) _ _ _ _ _ _ _,HT.o.done HK.o HLo.o HHi.o HLO.o HHO.o⟩
theorem boxT_tch {A:OA} {G:Nat} {f t:LU} {o:Bool} (hA:∀a,A=some a->a.block<G):∀W W',BoxT G f t o W->Tch A W W'->BoxT G f t o W':=
 fun _ _ ⟨h0,h1,h2,h3⟩ hT=>⟨Nat.lt_of_lt_of_le h0 hT.size,(hT.cell (p:=⟨G,3,none⟩) h0 hA).trans h1,(hT.cell (p:=⟨G,4,none⟩) h0 hA).trans h2,(hT.cell (p:=⟨G,5,none⟩) h0 hA).trans h3⟩
theorem trimText_at (frm to:LU) (o:Bool) (A:OA) (n c:Nat) (w:World) (base:Nat) (l:List Val) (hfs:Short frm) (hot:o=true->to=[]) (hts:o=false->Short to) (hn:l.length=n) (hm:n<=100000)
  (hl:∀v∈l,v.k=2/\v.i=0/\v.t.length<=32) (hr:RiseV l) (ho:OwnW w base (.slice A n c) l):
  Calls Tryz.prog 144 #[spF 2 0 0 frm to o A n c] w (Trims (IsTexts frm to o l) A n w):=by
 have HN:=Jh hn
 have HFS:=Jh hfs
 have HOT:=Jh hot
 have HTS:=Jh hts
 have HLL:=Jh hl
 clear hn hfs hot hts
 have hgr:=gr2 w (.cells (sC 2 0 0 frm.toArray to.toArray o A n c) 97) (.cells zC 97)
 have hbx:=(Blk.new w 97 (sC 2 0 0 frm.toArray to.toArray o A n c)).alloc (.cells zC 97)
 have hrs:=Blk.new (w.alloc (.cells (sC 2 0 0 frm.toArray to.toArray o A n c) 97)) 97 zC
 rw[show (w.alloc (.cells (sC 2 0 0 frm.toArray to.toArray o A n c) 97)).heap.size=w.heap.size+1 by simp] at hrs
 have hA0:=fun a ha=>(own_addr ho a ha).2
 have ho2:=OwnK.below ho hgr.below
 have eg:∀args w,(callFunc 171 args).run Tryz.prog w=.ok (.enter 171 args) w:=enters_of Tryz.func171 (by kernel_rfl) rfl
 have hbN:BoxT w.heap.size frm to o ((w.alloc (.cells (sC 2 0 0 frm.toArray to.toArray o A n c) 97)).alloc (.cells zC 97)):=⟨hbx.lt,hbx.cell 3,hbx.cell 4,hbx.cell 5⟩
 have hsz:((w.alloc (.cells (sC 2 0 0 frm.toArray to.toArray o A n c) 97)).alloc (.cells zC 97)).heap.size=w.heap.size+2:=by simp
 have hB2:Tch A w ((w.alloc (.cells (sC 2 0 0 frm.toArray to.toArray o A n c) 97)).alloc (.cells zC 97)):=Tch.of_below hgr.below
 have hdel:=deleteV_own (BoxT w.heap.size frm to o) 171 #[.pointer (some ⟨w.heap.size,0,none⟩)] (outT frm to o) (predT_at w.heap.size frm to o) eg HN.o hm ho2 hbN (boxT_tch hA0)
 clear ho ho2 hbN eg
 go_enter Tryz.func144,Tryz.ntmps144
 go_wp2_with fail
 generalize hw2:((w.alloc (.cells (sC 2 0 0 frm.toArray to.toArray o A n c) 97)).alloc (.cells zC 97))=w2 at *
 clear hw2
 refine hdel.mono ?_
 rintro e w3 ⟨n3,rfl,hl3,hn3,ho3,ht3⟩
 clear hdel
 have HTN:=Jh (TT.start hl hr (outT frm to o) (fun _=>rfl))
 have HB3:=Jh (hB2.trans ht3)
 have HX3:=Jh (ht3.blk hbx hA0)
 have HY3:=Jh (ht3.blk hrs fun a ha=>Nat.lt_succ_of_lt (hA0 a ha))
 have HR3:=Jh (Gives.rd ho3)
 have HL3:=Jh hl3
 have HA0:=Jh hA0
 have hc3:n3<=c:=by
  obtain⟨_,_,e,h,_⟩:=OwnK.rd ho3
  injection e with e1 e2 e3
  omega
 clear hl hr hgr hbx hrs hA0 hB2 ho3 ht3 hl3
 generalize (l.filter fun v=>!outT frm to o v)=m3 at *
 generalize hG:w.heap.size=G at *
 have HG:=Jh hG
 clear hG hsz
 go_wp2_with fail
 go_loopg [3] n3 (fun gg s3 wr=>∃(m:List Val) (a:Nat) (f:LU) (A':OA) (k c':Nat),s3=.slice A' k c'/\k<=c'/\k<=n3/\k<=gg/\Hid (zs frm a=f)/\Hid (m.length=k)/\Hid (TT frm to o l a 0 to m)/\Hid (RdW wr A' m)/\Hid (∀a,A'=some a->a.block<G)/\Hid (Blk wr G 97 (sC 2 0 0 f.toArray to.toArray o A n c))/\Hid (Blk wr (G+1) 97 zC)/\Hid (Tch A w wr))
 case atStart=>exact⟨m3,0,frm,A,n3,c,rfl,hc3,Jn,Jn,zs_zero frm,HL3,HTN,HR3,HA0,HX3,HY3,HB3⟩
 case round=>
  obtain⟨m,a,f,A',k,c',rfl,hkc,hkn,hkg,HF,HML,HT,HR,HA,HX,HY,HB⟩:=hrel
  clear HTN HB3 HX3 HY3 HR3 HL3 HA0
  have hltX:=HX.o.lt
  have hltY:=HY.o.lt
  have hne1:¬G=G+1:=by omega
  have hne2:¬G+1=G:=by omega
  have hfl:f.length<=33:=by
   have:=(moved_short (fun v hv=>(HLL.o v hv).2.2) HFS.o HT.o.ga).len
   rw[HF.o] at this
   exact this
  have X3:=fun n os=>cell_grown (w:=wr) (a:=⟨G,3,none⟩) hltX (HX.o.cell 3) n os
  have X4:=fun n os=>cell_grown (w:=wr) (a:=⟨G,4,none⟩) hltX (HX.o.cell 4) n os
  have X5:=fun n os=>cell_grown (w:=wr) (a:=⟨G,5,none⟩) hltX (HX.o.cell 5) n os
  simp at X3 X4 X5
  by_cases hk0:k=0
  ·have HXO:Hid (∀h0:0<m.length,m[0].t≠zs frm a):=fun h0=>by have:=HML.o;omega
   have w5:decide (0<k)=false:=decide_eq_false (by omega)
   clear hk0
   go_wp2_with fail
   refine qgr (fun nq osq=>?_)
   have hgq:Grown wr (grow (wr.drewN nq) osq):=⟨nq,osq,rfl⟩
   generalize grow (wr.drewN nq) osq=wq at *
   have HR1:=Jh (HR.o.below hgq.below)
   have HX1:=Jh (Blk.below HX.o hgq.below HX.o.lt)
   have HY1:=Jh (Blk.below HY.o hgq.below HY.o.lt)
   have HB1:=Jh (HB.o.trans (Tch.of_below hgq.below))
   clear HR HX HY HB hgq X3 X4 X5 hltX hltY w5
   have hltX:=HX1.o.lt
   have hltY:=HY1.o.lt
   obtain⟨x0,x1,x2,x3,x4,x5,x6,p0,p1,p2,p3,p4,p5,p6⟩:=blk7 HX1.o
   obtain⟨y0,y1,y2,y3,y4,y5,y6,q0,q1,q2,q3,q4,q5,q6⟩:=blk7 HY1.o
   cases o with
   | true=>
    have HLO:Hid ((⟨2,0,zs frm a⟩:Val)∉l):=HT.o.low_out (.inl rfl) HXO.o
    have hto:=HOT.o rfl
    subst hto
    go_wp2_with fail
    clear x0 x1 x2 x3 x4 x5 x6 p0 p1 p2 p3 p4 p5 p6 y0 y1 y2 y3 y4 y5 y6 q0 q1 q2 q3 q4 q5 q6
    go_loopg [3] 0 (fun gg s3 wr=>s3=.slice (A') k c'/\Hid (RdW wr (A') m)/\Hid (Blk wr G 97 (sC 2 0 0 f.toArray (([]:LU).toArray) true A n c))/\Hid (Blk wr (G+1) 97 zC)/\Hid (Tch A w wr))
    case atStart=>exact⟨rfl,HR1,HX1,HY1,HB1⟩
    case round=>
     obtain⟨rfl,HR,HX,HY,HB⟩:=hrel
     clear HR1 HX1 HY1 HB1
     have hltX:=HX.o.lt
     have hltY:=HY.o.lt
     have X3:=fun n os=>cell_grown (w:=wr) (a:=⟨G,3,none⟩) hltX (HX.o.cell 3) n os
     have X4:=fun n os=>cell_grown (w:=wr) (a:=⟨G,4,none⟩) hltX (HX.o.cell 4) n os
     have X5:=fun n os=>cell_grown (w:=wr) (a:=⟨G,5,none⟩) hltX (HX.o.cell 5) n os
     simp at X3 X4 X5
     go_wp2_with fail
     refine qgr (fun nq osq=>?_)
     have hgq:Grown wr (grow (wr.drewN nq) osq):=⟨nq,osq,rfl⟩
     generalize grow (wr.drewN nq) osq=wq at *
     have HR1:=Jh (HR.o.below hgq.below)
     have HX1:=Jh (Blk.below HX.o hgq.below HX.o.lt)
     have HY1:=Jh (Blk.below HY.o hgq.below HY.o.lt)
     have HB1:=Jh (HB.o.trans (Tch.of_below hgq.below))
     clear HR HX HY HB hgq X3 X4 X5 hltX hltY
     have hltX:=HX1.o.lt
     have hltY:=HY1.o.lt
     obtain⟨x0,x1,x2,x3,x4,x5,x6,p0,p1,p2,p3,p4,p5,p6⟩:=blk7 HX1.o
     obtain⟨y0,y1,y2,y3,y4,y5,y6,q0,q1,q2,q3,q4,q5,q6⟩:=blk7 HY1.o
     go_wp2_with fail
     refine bodyPost_ret (v:=spF 2 0 0 f [] true (A') k c') (by simp[results,Tryz.results144,go_sem,y0,y1,y2,y3,y4,y5,y6]) rfl ?_
     refine ⟨⟨2,0,0,f,[],true,m⟩,A',k,c',rfl,HML.o,by omega,RdK.put7 (RdK.set_ HR1.o HA.o 6 _) (fun a ha=>Nat.lt_succ_of_lt (HA.o a ha)) _ _ _ _ _ _ _,tch_put7 (tch_set HB1.o (Nat.le_of_eq HG.o)) (by have:=HG.o;omega) _ _ _ _ _ _ _,?_⟩
     rw[<-HF.o]
     exact HT.o.done HFS.o (fun _=>rfl) (fun h=>by simp at h) HLO.o
   | false=>
    have HTS2:Hid (Short to):=HTS.o rfl
    clear HTS HOT
    cases hlt:bytesLess f to with
    | false=>
     have HNO:Hid (IsTexts frm to false l none_):=HT.o.none_ (by rw[HF.o];exact hlt)
     go_wp2_with fail
     refine bodyPost_ret (v:=spF 0 0 0 [] [] false none 0 0) (by simp[results,Tryz.results144,go_sem,y0,y1,y2,y3,y4,y5,y6]) rfl ?_
     exact⟨none_,none,0,0,rfl,rfl,Nat.zero_le _,.inl rfl,tch_put7 HB1.o (by have:=HG.o;omega) _ _ _ _ _ _ _,HNO.o⟩
    | true=>
     have HLO:Hid ((⟨2,0,zs frm a⟩:Val)∉l):=HT.o.low_out (.inr (by rw[HF.o];exact hlt)) HXO.o
     have HLT:Hid (bytesLess (zs frm a) to=true):=by show _=_;rw[HF.o];exact hlt
     go_wp2_with fail
     clear hlt x0 x1 x2 x3 x4 x5 x6 p0 p1 p2 p3 p4 p5 p6 y0 y1 y2 y3 y4 y5 y6 q0 q1 q2 q3 q4 q5 q6
     go_loopg [3] k (fun gg s3 wr=>∃(m:List Val) (b:Nat) (e:LU) (A':OA) (k':Nat),s3=.slice A' k' c'/\k'<=c'/\k'<=n3/\k'<=gg/\Hid (m.length=k')/\Hid (TT frm to false l a b e m)/\Hid (bytesLess (zs frm a) e=true)/\Hid (RdW wr A' m)/\Hid (∀a,A'=some a->a.block<G)/\Hid (Blk wr G 97 (sC 2 0 0 f.toArray e.toArray false A n c))/\Hid (Blk wr (G+1) 97 zC)/\Hid (Tch A w wr))
     case atStart=>exact⟨m,0,to,A',k,rfl,hkc,hkn,Jn,HML,HT,HLT,HR1,HA,HX1,HY1,HB1⟩
     case round=>
      obtain⟨m,b,e,A',k,rfl,hkc,hkn,hkg,HML,HT,HLT2,HR,HA,HX,HY,HB⟩:=hrel
      clear HR1 HX1 HY1 HB1
      have hltX:=HX.o.lt
      have hltY:=HY.o.lt
      have X3:=fun n os=>cell_grown (w:=wr) (a:=⟨G,3,none⟩) hltX (HX.o.cell 3) n os
      have X4:=fun n os=>cell_grown (w:=wr) (a:=⟨G,4,none⟩) hltX (HX.o.cell 4) n os
      have X5:=fun n os=>cell_grown (w:=wr) (a:=⟨G,5,none⟩) hltX (HX.o.cell 5) n os
      simp at X3 X4 X5
      by_cases hk0:k=0
      ·have HEO:Hid (∀u,e=u++[0]->(⟨2,0,u⟩:Val)∉l):=HT.o.end_out HLT2.o fun h0=>by have:=HML.o;omega
       have w5:decide (0<k)=false:=decide_eq_false (by omega)
       clear hk0
       go_wp2_with fail
       refine qgr (fun nq osq=>?_)
       have hgq:Grown wr (grow (wr.drewN nq) osq):=⟨nq,osq,rfl⟩
       generalize grow (wr.drewN nq) osq=wq at *
       have HR1:=Jh (HR.o.below hgq.below)
       have HX1:=Jh (Blk.below HX.o hgq.below HX.o.lt)
       have HY1:=Jh (Blk.below HY.o hgq.below HY.o.lt)
       have HB1:=Jh (HB.o.trans (Tch.of_below hgq.below))
       clear HR HX HY HB hgq X3 X4 X5 hltX hltY w5
       have hltX:=HX1.o.lt
       have hltY:=HY1.o.lt
       obtain⟨x0,x1,x2,x3,x4,x5,x6,p0,p1,p2,p3,p4,p5,p6⟩:=blk7 HX1.o
       obtain⟨y0,y1,y2,y3,y4,y5,y6,q0,q1,q2,q3,q4,q5,q6⟩:=blk7 HY1.o
       go_wp2_with fail
       refine bodyPost_ret (v:=spF 2 0 0 f e false (A') k c') (by simp[results,Tryz.results144,go_sem,y0,y1,y2,y3,y4,y5,y6]) rfl ?_
       refine ⟨⟨2,0,0,f,e,false,m⟩,A',k,c',rfl,HML.o,by omega,RdK.put7 (RdK.set_ HR1.o HA.o 6 _) (fun a ha=>Nat.lt_succ_of_lt (HA.o a ha)) _ _ _ _ _ _ _,tch_put7 (tch_set HB1.o (Nat.le_of_eq HG.o)) (by have:=HG.o;omega) _ _ _ _ _ _ _,?_⟩
       rw[<-HF.o]
       exact HT.o.done HFS.o (fun h=>by simp at h) (fun _=>⟨HTS2.o,HLT2.o,HEO.o⟩) HLO.o
      ·have hk1:k-1<m.length:=by rw[HML.o];omega
       obtain⟨g,off,rfl,hg,c0,c1,c2⟩:=RdW.at3 HR.o hk1
       have hgG:g<G:=HA.o _ rfl
       have hne3:¬g=G:=by omega
       have hxm:m[k-1]∈l:=((HT.o.mem _).1 (List.getElem_mem hk1)).1
       have hxl:=(HLL.o _ hxm).2.2
       obtain⟨x,hx⟩:∃x,m[k-1]=x:=⟨_,rfl⟩
       have HXX:=Jh hx
       rw[hx] at c0 c1 c2 hxl
       clear hx hxm
       obtain⟨xk,xi,xt⟩:=x
       have hxl2:xt.length<=32:=hxl
       clear hxl
       have hadd:=ba_app0 xt
       have wa:¬9223372036854775807<xt.length+1:=by omega
       have wb:xt.length+1<=9223372036854775807:=by omega
       have C2:=fun n os=>cell_grown (w:=wr) (a:=⟨g,off+(k-1)*3+2,none⟩) hg c2 n os
       clear c0 c1 c2
       have w1:IntKind.i64.wrap ((k:Int)-1)=(k:Int)-1:=by rw[IntKind.wrap_i64];omega
       have w2':(0:Int)<=(k:Int)-1:=by omega
       have w3':(k:Int)-1<(k:Int):=by omega
       have w4:((k:Int)-1).toNat=k-1:=by omega
       have w7:(1:Int)<=(k:Int):=by omega
       have w8:0<k:=by omega
       have w5:decide (0<k)=true:=decide_eq_true (by omega)
       have hlast:∀h0:0<m.length,m[m.length-1]=⟨xk,xi,xt⟩:=fun h0=>by
        have e:m.length-1=k-1:=by rw[HML.o]
        simp only[e]
        exact HXX.o
       have HLA:=Jh hlast
       clear hlast
       by_cases hxe:xt++[0]=e
       ·have HT2:Hid (TT frm to false l a (b+1) xt (m.take (k-1))):=by
         have h0:0<m.length:=by omega
         have:=HT.o.down h0 (by rw[HLA.o h0];exact hxe)
         rw[HLA.o h0,HML.o] at this
         exact this
        have HLT3:Hid (bytesLess (zs frm a) xt=true):=by
         have h0:0<m.length:=by omega
         have:=HT.o.lt_down HLO.o h0
         rw[HLA.o h0] at this
         exact this
        subst hxe
        go_wp2_with fail
        refine qgr (fun nq osq=>?_)
        have hgq:Grown wr (grow (wr.drewN nq) osq):=⟨nq,osq,rfl⟩
        generalize grow (wr.drewN nq) osq=wq at *
        have HR1:=Jh (HR.o.below hgq.below)
        have HX1:=Jh (Blk.below HX.o hgq.below HX.o.lt)
        have HY1:=Jh (Blk.below HY.o hgq.below HY.o.lt)
        have HB1:=Jh (HB.o.trans (Tch.of_below hgq.below))
        clear HR HX HY HB hgq X3 X4 X5 hltX hltY C2 w2' w3' w4 w5 w7 hadd wa wb
        have hltX:=HX1.o.lt
        have hltY:=HY1.o.lt
        obtain⟨x0,x1,x2,x3,x4,x5,x6,p0,p1,p2,p3,p4,p5,p6⟩:=blk7 HX1.o
        obtain⟨y0,y1,y2,y3,y4,y5,y6,q0,q1,q2,q3,q4,q5,q6⟩:=blk7 HY1.o
        have hc2:=(RdW.at3 HR1.o hk1)
        obtain⟨g',off',e',hg',d0,d1,d2⟩:=hc2
        injection e' with e'
        injection e' with e1 e2
        subst e1;subst e2
        rw[HXX.o] at d0 d1 d2
        have w2':(0:Int)<=(k:Int)-1:=by omega
        have w3':(k:Int)-1<(k:Int):=by omega
        have w4:((k:Int)-1).toNat=k-1:=by omega
        have w7:(1:Int)<=(k:Int):=by omega
        have hhd:∀W,(Instr.slice 95 (.slice (some ⟨g,off,none⟩) k c') none (some (.int .i64 ((k:Int)-1))) none).run Tryz.prog W=.ok (.slice (some ⟨g,off,none⟩) (k-1) c') W:=by
         intro W
         have:=run_headW (some ⟨g,off,none⟩) k c' (k-1) (by omega) hkc W
         rw[show ((k-1:Nat):Int)=(k:Int)-1 by omega] at this
         exact this
        go_wp2_with fail
        go_roundg (k-1)
        case measure=>omega
        case rel=>exact⟨m.take (k-1),b+1,xt,some ⟨g,off,none⟩,k-1,rfl,by omega,by omega,Jn,by show _=_;simp[HML.o],HT2,HLT3,RdK.set_ (RdK.take HR1.o _) HA.o _ _,HA,by show Blk _ _ _ _;simpa using Blk.put HX1.o 4 (.string ⟨xt.toArray⟩),Blk.far HY1.o (by show G+1≠G;omega) _,tch_set HB1.o (Nat.le_of_eq HG.o)⟩
       ·have HEO:Hid (∀u,e=u++[0]->(⟨2,0,u⟩:Val)∉l):=HT.o.end_out HLT2.o fun h0=>by rw[HLA.o h0];exact hxe
        have w6:(xt++[0] == e)=false:=beq_eq_false_iff_ne.2 hxe
        go_wp2_with fail
        refine qgr (fun nq osq=>?_)
        have hgq:Grown wr (grow (wr.drewN nq) osq):=⟨nq,osq,rfl⟩
        generalize grow (wr.drewN nq) osq=wq at *
        have HR1:=Jh (HR.o.below hgq.below)
        have HX1:=Jh (Blk.below HX.o hgq.below HX.o.lt)
        have HY1:=Jh (Blk.below HY.o hgq.below HY.o.lt)
        have HB1:=Jh (HB.o.trans (Tch.of_below hgq.below))
        clear HR HX HY HB hgq X3 X4 X5 hltX hltY C2 w1 w2' w3' w4 w5 w6 w7 w8 hadd wa wb
        have hltX:=HX1.o.lt
        have hltY:=HY1.o.lt
        obtain⟨x0,x1,x2,x3,x4,x5,x6,p0,p1,p2,p3,p4,p5,p6⟩:=blk7 HX1.o
        obtain⟨y0,y1,y2,y3,y4,y5,y6,q0,q1,q2,q3,q4,q5,q6⟩:=blk7 HY1.o
        go_wp2_with fail
        refine bodyPost_ret (v:=spF 2 0 0 f e false (some ⟨g,off,none⟩) k c') (by simp[results,Tryz.results144,go_sem,y0,y1,y2,y3,y4,y5,y6]) rfl ?_
        refine ⟨⟨2,0,0,f,e,false,m⟩,some ⟨g,off,none⟩,k,c',rfl,HML.o,by omega,RdK.put7 (RdK.set_ HR1.o HA.o 6 _) (fun a ha=>Nat.lt_succ_of_lt (HA.o a ha)) _ _ _ _ _ _ _,tch_put7 (tch_set HB1.o (Nat.le_of_eq HG.o)) (by have:=HG.o;omega) _ _ _ _ _ _ _,?_⟩
        rw[<-HF.o]
        exact HT.o.done HFS.o (fun h=>by simp at h) (fun _=>⟨HTS2.o,HLT2.o,HEO.o⟩) HLO.o
  ·have h0:0<m.length:=by rw[HML.o];omega
   obtain⟨g,off,rfl,hg,c0,c1,c2⟩:=RdW.at3 HR.o h0
   have hgG:g<G:=HA.o _ rfl
   have hne3:¬g=G:=by omega
   obtain⟨x,hx⟩:∃x,m[0]=x:=⟨_,rfl⟩
   have HXX:=Jh hx
   rw[hx] at c0 c1 c2
   clear hx
   obtain⟨xk,xi,xt⟩:=x
   rw[Nat.zero_mul,Nat.add_zero] at c2
   have C2:=fun n os=>cell_grown (w:=wr) (a:=⟨g,off+2,none⟩) hg c2 n os
   clear c0 c1 c2
   have w5:decide (0<k)=true:=decide_eq_true (by omega)
   have w6:(0:Int)<(k:Int):=by omega
   have w9:0<k:=by omega
   by_cases hxi:xt=f
   ·subst hxi
    have HT2:Hid (TT frm to o l (a+1) 0 to (m.drop 1)):=HT.o.up h0 (by rw[HXX.o,HF.o])
    have HF2:Hid (zs frm (a+1)=xt++[0]):=by show _=_;rw[zs_succ,HF.o]
    have hadd:=ba_app0 xt
    go_wp2_with fail
    refine qgr (fun nq osq=>?_)
    have hgq:Grown wr (grow (wr.drewN nq) osq):=⟨nq,osq,rfl⟩
    generalize grow (wr.drewN nq) osq=wq at *
    have HR1:=Jh (HR.o.below hgq.below)
    have HX1:=Jh (Blk.below HX.o hgq.below HX.o.lt)
    have HY1:=Jh (Blk.below HY.o hgq.below HY.o.lt)
    have HB1:=Jh (HB.o.trans (Tch.of_below hgq.below))
    clear HR HX HY HB hgq X3 X4 X5 hltX hltY C2 w5 w6 w9
    have hltX:=HX1.o.lt
    have hltY:=HY1.o.lt
    obtain⟨x0,x1,x2,x3,x4,x5,x6,p0,p1,p2,p3,p4,p5,p6⟩:=blk7 HX1.o
    obtain⟨y0,y1,y2,y3,y4,y5,y6,q0,q1,q2,q3,q4,q5,q6⟩:=blk7 HY1.o
    obtain⟨B',hcut,hrc,hBB⟩:=run_cutB HR1.o HA.o HML.o (by omega) hkc
    have HRC:=Jh hrc
    have HBB:=Jh hBB
    clear hrc hBB
    go_wp2_with fail
    go_roundg (k-1)
    case measure=>omega
    case rel=>exact⟨m.drop 1,a+1,xt++[0],B',k-1,c'-1,rfl,by omega,by omega,Jn,HF2,by show _=_;simp[HML.o],HT2,RdK.set_ HRC.o HBB.o _ _,HBB,by show Blk _ _ _ _;simpa using Blk.put HX1.o 3 (.string ⟨(xt++[0]).toArray⟩),Blk.far HY1.o (by show G+1≠G;omega) _,tch_set HB1.o (Nat.le_of_eq HG.o)⟩
   ·have HXO:Hid (∀h0:0<m.length,m[0].t≠zs frm a):=fun h0=>by rw[HXX.o,HF.o];exact hxi
    have w7:(xt == f)=false:=beq_eq_false_iff_ne.2 hxi
    go_wp2_with fail
    refine qgr (fun nq osq=>?_)
    have hgq:Grown wr (grow (wr.drewN nq) osq):=⟨nq,osq,rfl⟩
    generalize grow (wr.drewN nq) osq=wq at *
    have HR1:=Jh (HR.o.below hgq.below)
    have HX1:=Jh (Blk.below HX.o hgq.below HX.o.lt)
    have HY1:=Jh (Blk.below HY.o hgq.below HY.o.lt)
    have HB1:=Jh (HB.o.trans (Tch.of_below hgq.below))
    clear HR HX HY HB hgq X3 X4 X5 hltX hltY C2 w5 w6 w7 w9 hgG hg hne3 hxi HXX
    have hltX:=HX1.o.lt
    have hltY:=HY1.o.lt
    obtain⟨x0,x1,x2,x3,x4,x5,x6,p0,p1,p2,p3,p4,p5,p6⟩:=blk7 HX1.o
    obtain⟨y0,y1,y2,y3,y4,y5,y6,q0,q1,q2,q3,q4,q5,q6⟩:=blk7 HY1.o
    cases o with
    | true=>
     have HLO:Hid ((⟨2,0,zs frm a⟩:Val)∉l):=HT.o.low_out (.inl rfl) HXO.o
     have hto:=HOT.o rfl
     subst hto
     go_wp2_with fail
     clear x0 x1 x2 x3 x4 x5 x6 p0 p1 p2 p3 p4 p5 p6 y0 y1 y2 y3 y4 y5 y6 q0 q1 q2 q3 q4 q5 q6
     go_loopg [3] 0 (fun gg s3 wr=>s3=.slice (some ⟨g,off,none⟩) k c'/\Hid (RdW wr (some ⟨g,off,none⟩) m)/\Hid (Blk wr G 97 (sC 2 0 0 f.toArray (([]:LU).toArray) true A n c))/\Hid (Blk wr (G+1) 97 zC)/\Hid (Tch A w wr))
     case atStart=>exact⟨rfl,HR1,HX1,HY1,HB1⟩
     case round=>
      obtain⟨rfl,HR,HX,HY,HB⟩:=hrel
      clear HR1 HX1 HY1 HB1
      have hltX:=HX.o.lt
      have hltY:=HY.o.lt
      have X3:=fun n os=>cell_grown (w:=wr) (a:=⟨G,3,none⟩) hltX (HX.o.cell 3) n os
      have X4:=fun n os=>cell_grown (w:=wr) (a:=⟨G,4,none⟩) hltX (HX.o.cell 4) n os
      have X5:=fun n os=>cell_grown (w:=wr) (a:=⟨G,5,none⟩) hltX (HX.o.cell 5) n os
      simp at X3 X4 X5
      go_wp2_with fail
      refine qgr (fun nq osq=>?_)
      have hgq:Grown wr (grow (wr.drewN nq) osq):=⟨nq,osq,rfl⟩
      generalize grow (wr.drewN nq) osq=wq at *
      have HR1:=Jh (HR.o.below hgq.below)
      have HX1:=Jh (Blk.below HX.o hgq.below HX.o.lt)
      have HY1:=Jh (Blk.below HY.o hgq.below HY.o.lt)
      have HB1:=Jh (HB.o.trans (Tch.of_below hgq.below))
      clear HR HX HY HB hgq X3 X4 X5 hltX hltY
      have hltX:=HX1.o.lt
      have hltY:=HY1.o.lt
      obtain⟨x0,x1,x2,x3,x4,x5,x6,p0,p1,p2,p3,p4,p5,p6⟩:=blk7 HX1.o
      obtain⟨y0,y1,y2,y3,y4,y5,y6,q0,q1,q2,q3,q4,q5,q6⟩:=blk7 HY1.o
      go_wp2_with fail
      refine bodyPost_ret (v:=spF 2 0 0 f [] true (some ⟨g,off,none⟩) k c') (by simp[results,Tryz.results144,go_sem,y0,y1,y2,y3,y4,y5,y6]) rfl ?_
      refine ⟨⟨2,0,0,f,[],true,m⟩,some ⟨g,off,none⟩,k,c',rfl,HML.o,by omega,RdK.put7 (RdK.set_ HR1.o HA.o 6 _) (fun a ha=>Nat.lt_succ_of_lt (HA.o a ha)) _ _ _ _ _ _ _,tch_put7 (tch_set HB1.o (Nat.le_of_eq HG.o)) (by have:=HG.o;omega) _ _ _ _ _ _ _,?_⟩
      rw[<-HF.o]
      exact HT.o.done HFS.o (fun _=>rfl) (fun h=>by simp at h) HLO.o
    | false=>
     have HTS2:Hid (Short to):=HTS.o rfl
     clear HTS HOT
     cases hlt:bytesLess f to with
     | false=>
      have HNO:Hid (IsTexts frm to false l none_):=HT.o.none_ (by rw[HF.o];exact hlt)
      go_wp2_with fail
      refine bodyPost_ret (v:=spF 0 0 0 [] [] false none 0 0) (by simp[results,Tryz.results144,go_sem,y0,y1,y2,y3,y4,y5,y6]) rfl ?_
      exact⟨none_,none,0,0,rfl,rfl,Nat.zero_le _,.inl rfl,tch_put7 HB1.o (by have:=HG.o;omega) _ _ _ _ _ _ _,HNO.o⟩
     | true=>
      have HLO:Hid ((⟨2,0,zs frm a⟩:Val)∉l):=HT.o.low_out (.inr (by rw[HF.o];exact hlt)) HXO.o
      have HLT:Hid (bytesLess (zs frm a) to=true):=by show _=_;rw[HF.o];exact hlt
      go_wp2_with fail
      clear hlt x0 x1 x2 x3 x4 x5 x6 p0 p1 p2 p3 p4 p5 p6 y0 y1 y2 y3 y4 y5 y6 q0 q1 q2 q3 q4 q5 q6
      go_loopg [3] k (fun gg s3 wr=>∃(m:List Val) (b:Nat) (e:LU) (A':OA) (k':Nat),s3=.slice A' k' c'/\k'<=c'/\k'<=n3/\k'<=gg/\Hid (m.length=k')/\Hid (TT frm to false l a b e m)/\Hid (bytesLess (zs frm a) e=true)/\Hid (RdW wr A' m)/\Hid (∀a,A'=some a->a.block<G)/\Hid (Blk wr G 97 (sC 2 0 0 f.toArray e.toArray false A n c))/\Hid (Blk wr (G+1) 97 zC)/\Hid (Tch A w wr))
      case atStart=>exact⟨m,0,to,some ⟨g,off,none⟩,k,rfl,hkc,hkn,Jn,HML,HT,HLT,HR1,HA,HX1,HY1,HB1⟩
      case round=>
       obtain⟨m,b,e,A',k,rfl,hkc,hkn,hkg,HML,HT,HLT2,HR,HA,HX,HY,HB⟩:=hrel
       clear HR1 HX1 HY1 HB1
       have hltX:=HX.o.lt
       have hltY:=HY.o.lt
       have X3:=fun n os=>cell_grown (w:=wr) (a:=⟨G,3,none⟩) hltX (HX.o.cell 3) n os
       have X4:=fun n os=>cell_grown (w:=wr) (a:=⟨G,4,none⟩) hltX (HX.o.cell 4) n os
       have X5:=fun n os=>cell_grown (w:=wr) (a:=⟨G,5,none⟩) hltX (HX.o.cell 5) n os
       simp at X3 X4 X5
       by_cases hk0:k=0
       ·have HEO:Hid (∀u,e=u++[0]->(⟨2,0,u⟩:Val)∉l):=HT.o.end_out HLT2.o fun h0=>by have:=HML.o;omega
        have w5:decide (0<k)=false:=decide_eq_false (by omega)
        clear hk0
        go_wp2_with fail
        refine qgr (fun nq osq=>?_)
        have hgq:Grown wr (grow (wr.drewN nq) osq):=⟨nq,osq,rfl⟩
        generalize grow (wr.drewN nq) osq=wq at *
        have HR1:=Jh (HR.o.below hgq.below)
        have HX1:=Jh (Blk.below HX.o hgq.below HX.o.lt)
        have HY1:=Jh (Blk.below HY.o hgq.below HY.o.lt)
        have HB1:=Jh (HB.o.trans (Tch.of_below hgq.below))
        clear HR HX HY HB hgq X3 X4 X5 hltX hltY w5
        have hltX:=HX1.o.lt
        have hltY:=HY1.o.lt
        obtain⟨x0,x1,x2,x3,x4,x5,x6,p0,p1,p2,p3,p4,p5,p6⟩:=blk7 HX1.o
        obtain⟨y0,y1,y2,y3,y4,y5,y6,q0,q1,q2,q3,q4,q5,q6⟩:=blk7 HY1.o
        go_wp2_with fail
        refine bodyPost_ret (v:=spF 2 0 0 f e false (A') k c') (by simp[results,Tryz.results144,go_sem,y0,y1,y2,y3,y4,y5,y6]) rfl ?_
        refine ⟨⟨2,0,0,f,e,false,m⟩,A',k,c',rfl,HML.o,by omega,RdK.put7 (RdK.set_ HR1.o HA.o 6 _) (fun a ha=>Nat.lt_succ_of_lt (HA.o a ha)) _ _ _ _ _ _ _,tch_put7 (tch_set HB1.o (Nat.le_of_eq HG.o)) (by have:=HG.o;omega) _ _ _ _ _ _ _,?_⟩
        rw[<-HF.o]
        exact HT.o.done HFS.o (fun h=>by simp at h) (fun _=>⟨HTS2.o,HLT2.o,HEO.o⟩) HLO.o
       ·have hk1:k-1<m.length:=by rw[HML.o];omega
        obtain⟨g,off,rfl,hg,c0,c1,c2⟩:=RdW.at3 HR.o hk1
        have hgG:g<G:=HA.o _ rfl
        have hne3:¬g=G:=by omega
        have hxm:m[k-1]∈l:=((HT.o.mem _).1 (List.getElem_mem hk1)).1
        have hxl:=(HLL.o _ hxm).2.2
        obtain⟨x,hx⟩:∃x,m[k-1]=x:=⟨_,rfl⟩
        have HXX:=Jh hx
        rw[hx] at c0 c1 c2 hxl
        clear hx hxm
        obtain⟨xk,xi,xt⟩:=x
        have hxl2:xt.length<=32:=hxl
        clear hxl
        have hadd:=ba_app0 xt
        have wa:¬9223372036854775807<xt.length+1:=by omega
        have wb:xt.length+1<=9223372036854775807:=by omega
        have C2:=fun n os=>cell_grown (w:=wr) (a:=⟨g,off+(k-1)*3+2,none⟩) hg c2 n os
        clear c0 c1 c2
        have w1:IntKind.i64.wrap ((k:Int)-1)=(k:Int)-1:=by rw[IntKind.wrap_i64];omega
        have w2':(0:Int)<=(k:Int)-1:=by omega
        have w3':(k:Int)-1<(k:Int):=by omega
        have w4:((k:Int)-1).toNat=k-1:=by omega
        have w7:(1:Int)<=(k:Int):=by omega
        have w8:0<k:=by omega
        have w5:decide (0<k)=true:=decide_eq_true (by omega)
        have hlast:∀h0:0<m.length,m[m.length-1]=⟨xk,xi,xt⟩:=fun h0=>by
         have e:m.length-1=k-1:=by rw[HML.o]
         simp only[e]
         exact HXX.o
        have HLA:=Jh hlast
        clear hlast
        by_cases hxe:xt++[0]=e
        ·have HT2:Hid (TT frm to false l a (b+1) xt (m.take (k-1))):=by
          have h0:0<m.length:=by omega
          have:=HT.o.down h0 (by rw[HLA.o h0];exact hxe)
          rw[HLA.o h0,HML.o] at this
          exact this
         have HLT3:Hid (bytesLess (zs frm a) xt=true):=by
          have h0:0<m.length:=by omega
          have:=HT.o.lt_down HLO.o h0
          rw[HLA.o h0] at this
          exact this
         subst hxe
         go_wp2_with fail
         refine qgr (fun nq osq=>?_)
         have hgq:Grown wr (grow (wr.drewN nq) osq):=⟨nq,osq,rfl⟩
         generalize grow (wr.drewN nq) osq=wq at *
         have HR1:=Jh (HR.o.below hgq.below)
         have HX1:=Jh (Blk.below HX.o hgq.below HX.o.lt)
         have HY1:=Jh (Blk.below HY.o hgq.below HY.o.lt)
         have HB1:=Jh (HB.o.trans (Tch.of_below hgq.below))
         clear HR HX HY HB hgq X3 X4 X5 hltX hltY C2 w2' w3' w4 w5 w7 hadd wa wb
         have hltX:=HX1.o.lt
         have hltY:=HY1.o.lt
         obtain⟨x0,x1,x2,x3,x4,x5,x6,p0,p1,p2,p3,p4,p5,p6⟩:=blk7 HX1.o
         obtain⟨y0,y1,y2,y3,y4,y5,y6,q0,q1,q2,q3,q4,q5,q6⟩:=blk7 HY1.o
         have hc2:=(RdW.at3 HR1.o hk1)
         obtain⟨g',off',e',hg',d0,d1,d2⟩:=hc2
         injection e' with e'
         injection e' with e1 e2
         subst e1;subst e2
         rw[HXX.o] at d0 d1 d2
         have w2':(0:Int)<=(k:Int)-1:=by omega
         have w3':(k:Int)-1<(k:Int):=by omega
         have w4:((k:Int)-1).toNat=k-1:=by omega
         have w7:(1:Int)<=(k:Int):=by omega
         have hhd:∀W,(Instr.slice 95 (.slice (some ⟨g,off,none⟩) k c') none (some (.int .i64 ((k:Int)-1))) none).run Tryz.prog W=.ok (.slice (some ⟨g,off,none⟩) (k-1) c') W:=by
          intro W
          have:=run_headW (some ⟨g,off,none⟩) k c' (k-1) (by omega) hkc W
          rw[show ((k-1:Nat):Int)=(k:Int)-1 by omega] at this
          exact this
         go_wp2_with fail
         go_roundg (k-1)
         case measure=>omega
         case rel=>exact⟨m.take (k-1),b+1,xt,some ⟨g,off,none⟩,k-1,rfl,by omega,by omega,Jn,by show _=_;simp[HML.o],HT2,HLT3,RdK.set_ (RdK.take HR1.o _) HA.o _ _,HA,by show Blk _ _ _ _;simpa using Blk.put HX1.o 4 (.string ⟨xt.toArray⟩),Blk.far HY1.o (by show G+1≠G;omega) _,tch_set HB1.o (Nat.le_of_eq HG.o)⟩
        ·have HEO:Hid (∀u,e=u++[0]->(⟨2,0,u⟩:Val)∉l):=HT.o.end_out HLT2.o fun h0=>by rw[HLA.o h0];exact hxe
         have w6:(xt++[0] == e)=false:=beq_eq_false_iff_ne.2 hxe
         go_wp2_with fail
         refine qgr (fun nq osq=>?_)
         have hgq:Grown wr (grow (wr.drewN nq) osq):=⟨nq,osq,rfl⟩
         generalize grow (wr.drewN nq) osq=wq at *
         have HR1:=Jh (HR.o.below hgq.below)
         have HX1:=Jh (Blk.below HX.o hgq.below HX.o.lt)
         have HY1:=Jh (Blk.below HY.o hgq.below HY.o.lt)
         have HB1:=Jh (HB.o.trans (Tch.of_below hgq.below))
         clear HR HX HY HB hgq X3 X4 X5 hltX hltY C2 w1 w2' w3' w4 w5 w6 w7 w8 hadd wa wb
         have hltX:=HX1.o.lt
         have hltY:=HY1.o.lt
         obtain⟨x0,x1,x2,x3,x4,x5,x6,p0,p1,p2,p3,p4,p5,p6⟩:=blk7 HX1.o
         obtain⟨y0,y1,y2,y3,y4,y5,y6,q0,q1,q2,q3,q4,q5,q6⟩:=blk7 HY1.o
         go_wp2_with fail
         refine bodyPost_ret (v:=spF 2 0 0 f e false (some ⟨g,off,none⟩) k c') (by simp[results,Tryz.results144,go_sem,y0,y1,y2,y3,y4,y5,y6]) rfl ?_
         refine ⟨⟨2,0,0,f,e,false,m⟩,some ⟨g,off,none⟩,k,c',rfl,HML.o,by omega,RdK.put7 (RdK.set_ HR1.o HA.o 6 _) (fun a ha=>Nat.lt_succ_of_lt (HA.o a ha)) _ _ _ _ _ _ _,tch_put7 (tch_set HB1.o (Nat.le_of_eq HG.o)) (by have:=HG.o;omega) _ _ _ _ _ _ _,?_⟩
         rw[<-HF.o]
         exact HT.o.done HFS.o (fun h=>by simp at h) (fun _=>⟨HTS2.o,HLT2.o,HEO.o⟩) HLO.o
def TrimsO (P:Sp->Prop) (base n:Nat) (w:World) (e:Ending) (w':World):Prop:=
 ∃r A' n' c',e=.returned (spF r.kind r.lo r.hi r.frm r.to_ r.opn A' n' c')/\r.no.length=n'/\n'<=n/\OwnW w' base (.slice A' n' c') r.no/\Below base w w'/\P r
theorem ints_congr {K lo hi:Int} {l l':List Val} {r:Sp} (h:∀v,v∈l↔v∈l') (hh:IsInts K lo hi l r):IsInts K lo hi l' r:=⟨hh.1,fun v hv=>by rw[hh.2 v hv,h]⟩
theorem texts_congr {f t:LU} {o:Bool} {l l':List Val} {r:Sp} (h:∀v,v∈l↔v∈l') (hi:IsTexts f t o l r):IsTexts f t o l' r:=⟨hi.1,fun v hv=>by rw[hi.2 v hv,h]⟩
theorem trim1 (lo hi:Int) (A:OA) (n c:Nat) (w:World) (base:Nat) (l:List Val) (hlow:lowest 1<=lo) (hhigh:hi<=highest 1) (hl:∀v∈l,v.k=1/\v.t=[]) (hn:l.length=n) (hm:n<=100000) (ho:OwnW w base (.slice A n c) l) (hbase:base<=w.heap.size):
  Calls Tryz.prog 107 #[spF 1 lo hi [] [] false A n c] w (TrimsO (IsInts 1 lo hi l) base n w):=by
 have HN:=Jh hn
 have HLL:=Jh hl
 clear hn hl
 have hgr:=gr2 w (.cells (sC 1 lo hi #[] #[] false A n c) 97) (.cells zC 97)
 have hbx:=(Blk.new w 97 (sC 1 lo hi #[] #[] false A n c)).alloc (.cells zC 97)
 have hrs:=Blk.new (w.alloc (.cells (sC 1 lo hi #[] #[] false A n c) 97)) 97 zC
 rw[show (w.alloc (.cells (sC 1 lo hi #[] #[] false A n c) 97)).heap.size=w.heap.size+1 by simp] at hrs
 have hA0:=fun a ha=>(own_addr ho a ha).2
 have hA1:=fun a ha=>(own_addr ho a ha).1
 have ho2:=OwnK.below ho hgr.below
 have hsz:((w.alloc (.cells (sC 1 lo hi #[] #[] false A n c) 97)).alloc (.cells zC 97)).heap.size=w.heap.size+2:=by simp
 have hB2:Below base w ((w.alloc (.cells (sC 1 lo hi #[] #[] false A n c) 97)).alloc (.cells zC 97)):=hgr.below.mono hbase
 clear ho hgr
 go_enter Tryz.func107,Tryz.ntmps107
 go_wp2_with fail
 generalize hw2:((w.alloc (.cells (sC 1 lo hi #[] #[] false A n c) 97)).alloc (.cells zC 97))=w2 at *
 clear hw2
 refine (sortV_own HN.o hm ho2).mono ?_
 rintro e w3 ⟨rfl,out,hp,hS,ho3,ht3⟩
 have hX3:=ht3.blk hbx hA0
 have hY3:=ht3.blk hrs fun a ha=>Nat.lt_succ_of_lt (hA0 a ha)
 have hB3:=ht3.below hB2 (by omega) hA1
 have hs3:=ht3.size
 have HMEM:Hid (∀v,v∈out↔v∈l):=fun v=>hp.mem_iff
 have HN3:Hid (out.length=n):=hp.length_eq.trans HN.o
 clear ho2 hbx hrs hB2 ht3 hp
 obtain⟨x0,x1,x2,x3,x4,x5,x6,p0,p1,p2,p3,p4,p5,p6⟩:=blk7 hX3
 have hg3:w.heap.size<w3.heap.size:=by omega
 have hg4:w.heap.size+1<w3.heap.size:=by omega
 have HX3:=Jh hX3
 have HY3:=Jh hY3
 have HB3:=Jh hB3
 clear hX3 hY3 hB3
 go_wp2_with fail
 refine (compactV_own HN3.o hm hS ho3).mono ?_
 rintro e w4 ⟨out2,n2,rfl,hl4,hn4,hR4,hm4,ho4,ht4⟩
 have hX4:=ht4.blk HX3.o hA0
 have hY4:=ht4.blk HY3.o fun a ha=>Nat.lt_succ_of_lt (hA0 a ha)
 have hB4:=ht4.below HB3.o (by omega) hA1
 have hs4:=ht4.size
 have HMEM2:Hid (∀v,v∈out2↔v∈l):=fun v=>(hm4 v).trans (HMEM.o v)
 have HL4:=Jh hl4
 clear x0 x1 x2 x3 x4 x5 x6 p0 p1 p2 p3 p4 p5 p6 HX3 HY3 HB3 ho3 ht4 hm4 hl4 hS HN3 HMEM hg3 hg4
 obtain⟨x0,x1,x2,x3,x4,x5,x6,p0,p1,p2,p3,p4,p5,p6⟩:=blk7 hX4
 have hg3:w.heap.size<w4.heap.size:=by omega
 have hg4:w.heap.size+1<w4.heap.size:=by omega
 have hX5:Blk (w4.setCell ⟨w.heap.size,6,none⟩ (.slice A n2 c)) w.heap.size 97 (sC 1 lo hi #[] #[] false A n2 c):=by simpa using Blk.put hX4 6 (.slice A n2 c)
 have hY5:Blk (w4.setCell ⟨w.heap.size,6,none⟩ (.slice A n2 c)) (w.heap.size+1) 97 zC:=Blk.far hY4 (by show w.heap.size+1≠w.heap.size;omega) _
 have hB5:Below base w (w4.setCell ⟨w.heap.size,6,none⟩ (.slice A n2 c)):=below_set hB4 hbase
 have ho5:OwnW (w4.setCell ⟨w.heap.size,6,none⟩ (.slice A n2 c)) base (.slice A n2 c) out2:=by
  rcases lies_of_own ho4 with ⟨e,hl⟩|⟨g,cap,sp,e,hb,hc,hcm,hl,hs⟩
  ·injection e with e1 e2 e3
   subst e1;subst e2;subst e3;subst hl
   exact OwnK.none_ _ _
  ·injection e with e1 e2 e3
   have hgA:=hA0 _ e1
   rw[e1,e2,e3]
   exact own_of_lies (Blk.far hl (by show g≠w.heap.size;simp only at hgA;omega) _) hb hc hcm hs
 have HX5:=Jh hX5
 have HY5:=Jh hY5
 have HB5:=Jh hB5
 have HO5:=Jh ho5
 have hs5:w.heap.size+2<=(w4.setCell ⟨w.heap.size,6,none⟩ (.slice A n2 c)).heap.size:=by simp;omega
 clear hX4 hY4 hB4 hX5 hY5 hB5 ho5 ho4
 go_wp2_with fail
 generalize w4.setCell ⟨w.heap.size,6,none⟩ (.slice A n2 c)=w5 at *
 clear x0 x1 x2 x3 x4 x5 x6 p0 p1 p2 p3 p4 p5 p6 hg3 hg4 hs4
 refine (trimNum_at 1 lo hi A n2 c _ base out2 (by decide) hlow hhigh HL4.o (by omega) (fun v hv=>HLL.o v ((HMEM2.o v).1 hv)) hR4 HO5.o).mono ?_
 rintro e w6 ⟨⟨rK,rlo,rhi,rf,rt,ro,rno⟩,A6,n6,c6,rfl,hl6,hn6,hr6,ht6,hP6⟩
 dsimp only at hl6 hr6
 have hX6:=ht6.blk HX5.o hA0
 have hY6:=ht6.blk HY5.o fun a ha=>Nat.lt_succ_of_lt (hA0 a ha)
 have hB6:=ht6.below HB5.o (by omega) hA1
 have hs6:w.heap.size+2<=w6.heap.size:=Nat.le_trans hs5 ht6.size
 have HP6:=Jh (ints_congr HMEM2.o hP6)
 have hcp:Calls Tryz.prog 104 #[spF rK rlo rhi rf rt ro A6 n6 c6] w6 (Gives w6 ⟨rK,rlo,rhi,rf,rt,ro,rno⟩):=copied_at rK rlo rhi rf rt ro A6 n6 c6 w6 rno hl6 (by omega) hr6
 clear HX5 HY5 HB5 HO5 ht6 hP6 hr6 HMEM2 HL4 hR4
 go_wp2_with fail
 refine hcp.mono ?_
 rintro e w7 ⟨A7,n7,c7,rfl,hl7,hc7,ho7,hb7⟩
 have HL7:=Jh (hl7.symm.trans hl6)
 have HL8:=Jh hl7
 have hY7:=Blk.below hY6 hb7 (by omega)
 have hB7:=below_next hB6 hbase hb7
 have hs7:=hb7.size
 obtain⟨y0,y1,y2,y3,y4,y5,y6,q0,q1,q2,q3,q4,q5,q6⟩:=blk7 hY7
 have hg7:w.heap.size+1<w7.heap.size:=by omega
 clear hcp hX6 hY6 hB6 hb7 hY7 hl7 hl6
 dsimp only at ho7 HL7 HL8
 go_wp2_with fail
 refine bodyPost_ret (v:=spF rK rlo rhi rf rt ro A7 n7 c7) (by simp[results,Tryz.results107,go_sem,y0,y1,y2,y3,y4,y5,y6]) rfl ?_
 refine ⟨⟨rK,rlo,rhi,rf,rt,ro,rno⟩,A7,n7,c7,rfl,HL8.o,?_,(OwnK.put7 ho7 (by omega) _ _ _ _ _ _ _).less (by omega),below_put7 hB7 (by omega) _ _ _ _ _ _ _,HP6.o⟩
 have:=HL7.o
 omega
theorem trim3 (lo hi:Int) (A:OA) (n c:Nat) (w:World) (base:Nat) (l:List Val) (hlow:lowest 3<=lo) (hhigh:hi<=highest 3) (hl:∀v∈l,v.k=3/\v.t=[]) (hn:l.length=n) (hm:n<=100000) (ho:OwnW w base (.slice A n c) l) (hbase:base<=w.heap.size):
  Calls Tryz.prog 107 #[spF 3 lo hi [] [] false A n c] w (TrimsO (IsInts 3 lo hi l) base n w):=by
 have HN:=Jh hn
 have HLL:=Jh hl
 clear hn hl
 have hgr:=gr2 w (.cells (sC 3 lo hi #[] #[] false A n c) 97) (.cells zC 97)
 have hbx:=(Blk.new w 97 (sC 3 lo hi #[] #[] false A n c)).alloc (.cells zC 97)
 have hrs:=Blk.new (w.alloc (.cells (sC 3 lo hi #[] #[] false A n c) 97)) 97 zC
 rw[show (w.alloc (.cells (sC 3 lo hi #[] #[] false A n c) 97)).heap.size=w.heap.size+1 by simp] at hrs
 have hA0:=fun a ha=>(own_addr ho a ha).2
 have hA1:=fun a ha=>(own_addr ho a ha).1
 have ho2:=OwnK.below ho hgr.below
 have hsz:((w.alloc (.cells (sC 3 lo hi #[] #[] false A n c) 97)).alloc (.cells zC 97)).heap.size=w.heap.size+2:=by simp
 have hB2:Below base w ((w.alloc (.cells (sC 3 lo hi #[] #[] false A n c) 97)).alloc (.cells zC 97)):=hgr.below.mono hbase
 clear ho hgr
 go_enter Tryz.func107,Tryz.ntmps107
 go_wp2_with fail
 generalize hw2:((w.alloc (.cells (sC 3 lo hi #[] #[] false A n c) 97)).alloc (.cells zC 97))=w2 at *
 clear hw2
 refine (sortV_own HN.o hm ho2).mono ?_
 rintro e w3 ⟨rfl,out,hp,hS,ho3,ht3⟩
 have hX3:=ht3.blk hbx hA0
 have hY3:=ht3.blk hrs fun a ha=>Nat.lt_succ_of_lt (hA0 a ha)
 have hB3:=ht3.below hB2 (by omega) hA1
 have hs3:=ht3.size
 have HMEM:Hid (∀v,v∈out↔v∈l):=fun v=>hp.mem_iff
 have HN3:Hid (out.length=n):=hp.length_eq.trans HN.o
 clear ho2 hbx hrs hB2 ht3 hp
 obtain⟨x0,x1,x2,x3,x4,x5,x6,p0,p1,p2,p3,p4,p5,p6⟩:=blk7 hX3
 have hg3:w.heap.size<w3.heap.size:=by omega
 have hg4:w.heap.size+1<w3.heap.size:=by omega
 have HX3:=Jh hX3
 have HY3:=Jh hY3
 have HB3:=Jh hB3
 clear hX3 hY3 hB3
 go_wp2_with fail
 refine (compactV_own HN3.o hm hS ho3).mono ?_
 rintro e w4 ⟨out2,n2,rfl,hl4,hn4,hR4,hm4,ho4,ht4⟩
 have hX4:=ht4.blk HX3.o hA0
 have hY4:=ht4.blk HY3.o fun a ha=>Nat.lt_succ_of_lt (hA0 a ha)
 have hB4:=ht4.below HB3.o (by omega) hA1
 have hs4:=ht4.size
 have HMEM2:Hid (∀v,v∈out2↔v∈l):=fun v=>(hm4 v).trans (HMEM.o v)
 have HL4:=Jh hl4
 clear x0 x1 x2 x3 x4 x5 x6 p0 p1 p2 p3 p4 p5 p6 HX3 HY3 HB3 ho3 ht4 hm4 hl4 hS HN3 HMEM hg3 hg4
 obtain⟨x0,x1,x2,x3,x4,x5,x6,p0,p1,p2,p3,p4,p5,p6⟩:=blk7 hX4
 have hg3:w.heap.size<w4.heap.size:=by omega
 have hg4:w.heap.size+1<w4.heap.size:=by omega
 have hX5:Blk (w4.setCell ⟨w.heap.size,6,none⟩ (.slice A n2 c)) w.heap.size 97 (sC 3 lo hi #[] #[] false A n2 c):=by simpa using Blk.put hX4 6 (.slice A n2 c)
 have hY5:Blk (w4.setCell ⟨w.heap.size,6,none⟩ (.slice A n2 c)) (w.heap.size+1) 97 zC:=Blk.far hY4 (by show w.heap.size+1≠w.heap.size;omega) _
 have hB5:Below base w (w4.setCell ⟨w.heap.size,6,none⟩ (.slice A n2 c)):=below_set hB4 hbase
 have ho5:OwnW (w4.setCell ⟨w.heap.size,6,none⟩ (.slice A n2 c)) base (.slice A n2 c) out2:=by
  rcases lies_of_own ho4 with ⟨e,hl⟩|⟨g,cap,sp,e,hb,hc,hcm,hl,hs⟩
  ·injection e with e1 e2 e3
   subst e1;subst e2;subst e3;subst hl
   exact OwnK.none_ _ _
  ·injection e with e1 e2 e3
   have hgA:=hA0 _ e1
   rw[e1,e2,e3]
   exact own_of_lies (Blk.far hl (by show g≠w.heap.size;simp only at hgA;omega) _) hb hc hcm hs
 have HX5:=Jh hX5
 have HY5:=Jh hY5
 have HB5:=Jh hB5
 have HO5:=Jh ho5
 have hs5:w.heap.size+2<=(w4.setCell ⟨w.heap.size,6,none⟩ (.slice A n2 c)).heap.size:=by simp;omega
 clear hX4 hY4 hB4 hX5 hY5 hB5 ho5 ho4
 go_wp2_with fail
 generalize w4.setCell ⟨w.heap.size,6,none⟩ (.slice A n2 c)=w5 at *
 clear x0 x1 x2 x3 x4 x5 x6 p0 p1 p2 p3 p4 p5 p6 hg3 hg4 hs4
 refine (trimNum_at 3 lo hi A n2 c _ base out2 (by decide) hlow hhigh HL4.o (by omega) (fun v hv=>HLL.o v ((HMEM2.o v).1 hv)) hR4 HO5.o).mono ?_
 rintro e w6 ⟨⟨rK,rlo,rhi,rf,rt,ro,rno⟩,A6,n6,c6,rfl,hl6,hn6,hr6,ht6,hP6⟩
 dsimp only at hl6 hr6
 have hX6:=ht6.blk HX5.o hA0
 have hY6:=ht6.blk HY5.o fun a ha=>Nat.lt_succ_of_lt (hA0 a ha)
 have hB6:=ht6.below HB5.o (by omega) hA1
 have hs6:w.heap.size+2<=w6.heap.size:=Nat.le_trans hs5 ht6.size
 have HP6:=Jh (ints_congr HMEM2.o hP6)
 have hcp:Calls Tryz.prog 104 #[spF rK rlo rhi rf rt ro A6 n6 c6] w6 (Gives w6 ⟨rK,rlo,rhi,rf,rt,ro,rno⟩):=copied_at rK rlo rhi rf rt ro A6 n6 c6 w6 rno hl6 (by omega) hr6
 clear HX5 HY5 HB5 HO5 ht6 hP6 hr6 HMEM2 HL4 hR4
 go_wp2_with fail
 refine hcp.mono ?_
 rintro e w7 ⟨A7,n7,c7,rfl,hl7,hc7,ho7,hb7⟩
 have HL7:=Jh (hl7.symm.trans hl6)
 have HL8:=Jh hl7
 have hY7:=Blk.below hY6 hb7 (by omega)
 have hB7:=below_next hB6 hbase hb7
 have hs7:=hb7.size
 obtain⟨y0,y1,y2,y3,y4,y5,y6,q0,q1,q2,q3,q4,q5,q6⟩:=blk7 hY7
 have hg7:w.heap.size+1<w7.heap.size:=by omega
 clear hcp hX6 hY6 hB6 hb7 hY7 hl7 hl6
 dsimp only at ho7 HL7 HL8
 go_wp2_with fail
 refine bodyPost_ret (v:=spF rK rlo rhi rf rt ro A7 n7 c7) (by simp[results,Tryz.results107,go_sem,y0,y1,y2,y3,y4,y5,y6]) rfl ?_
 refine ⟨⟨rK,rlo,rhi,rf,rt,ro,rno⟩,A7,n7,c7,rfl,HL8.o,?_,(OwnK.put7 ho7 (by omega) _ _ _ _ _ _ _).less (by omega),below_put7 hB7 (by omega) _ _ _ _ _ _ _,HP6.o⟩
 have:=HL7.o
 omega
theorem trim2 (f t:LU) (o:Bool) (A:OA) (n c:Nat) (w:World) (base:Nat) (l:List Val) (hfs:Short f) (hot:o=true->t=[]) (hts:o=false->Short t) (hl:∀v∈l,v.k=2/\v.i=0/\v.t.length<=32) (hn:l.length=n) (hm:n<=100000) (ho:OwnW w base (.slice A n c) l) (hbase:base<=w.heap.size):
  Calls Tryz.prog 107 #[spF 2 0 0 f t o A n c] w (TrimsO (IsTexts f t o l) base n w):=by
 have HN:=Jh hn
 have HLL:=Jh hl
 clear hn hl
 have hgr:=gr2 w (.cells (sC 2 0 0 f.toArray t.toArray o A n c) 97) (.cells zC 97)
 have hbx:=(Blk.new w 97 (sC 2 0 0 f.toArray t.toArray o A n c)).alloc (.cells zC 97)
 have hrs:=Blk.new (w.alloc (.cells (sC 2 0 0 f.toArray t.toArray o A n c) 97)) 97 zC
 rw[show (w.alloc (.cells (sC 2 0 0 f.toArray t.toArray o A n c) 97)).heap.size=w.heap.size+1 by simp] at hrs
 have hA0:=fun a ha=>(own_addr ho a ha).2
 have hA1:=fun a ha=>(own_addr ho a ha).1
 have ho2:=OwnK.below ho hgr.below
 have hsz:((w.alloc (.cells (sC 2 0 0 f.toArray t.toArray o A n c) 97)).alloc (.cells zC 97)).heap.size=w.heap.size+2:=by simp
 have hB2:Below base w ((w.alloc (.cells (sC 2 0 0 f.toArray t.toArray o A n c) 97)).alloc (.cells zC 97)):=hgr.below.mono hbase
 clear ho hgr
 go_enter Tryz.func107,Tryz.ntmps107
 go_wp2_with fail
 generalize hw2:((w.alloc (.cells (sC 2 0 0 f.toArray t.toArray o A n c) 97)).alloc (.cells zC 97))=w2 at *
 clear hw2
 refine (sortV_own HN.o hm ho2).mono ?_
 rintro e w3 ⟨rfl,out,hp,hS,ho3,ht3⟩
 have hX3:=ht3.blk hbx hA0
 have hY3:=ht3.blk hrs fun a ha=>Nat.lt_succ_of_lt (hA0 a ha)
 have hB3:=ht3.below hB2 (by omega) hA1
 have hs3:=ht3.size
 have HMEM:Hid (∀v,v∈out↔v∈l):=fun v=>hp.mem_iff
 have HN3:Hid (out.length=n):=hp.length_eq.trans HN.o
 clear ho2 hbx hrs hB2 ht3 hp
 obtain⟨x0,x1,x2,x3,x4,x5,x6,p0,p1,p2,p3,p4,p5,p6⟩:=blk7 hX3
 have hg3:w.heap.size<w3.heap.size:=by omega
 have hg4:w.heap.size+1<w3.heap.size:=by omega
 have HX3:=Jh hX3
 have HY3:=Jh hY3
 have HB3:=Jh hB3
 clear hX3 hY3 hB3
 go_wp2_with fail
 refine (compactV_own HN3.o hm hS ho3).mono ?_
 rintro e w4 ⟨out2,n2,rfl,hl4,hn4,hR4,hm4,ho4,ht4⟩
 have hX4:=ht4.blk HX3.o hA0
 have hY4:=ht4.blk HY3.o fun a ha=>Nat.lt_succ_of_lt (hA0 a ha)
 have hB4:=ht4.below HB3.o (by omega) hA1
 have hs4:=ht4.size
 have HMEM2:Hid (∀v,v∈out2↔v∈l):=fun v=>(hm4 v).trans (HMEM.o v)
 have HL4:=Jh hl4
 clear x0 x1 x2 x3 x4 x5 x6 p0 p1 p2 p3 p4 p5 p6 HX3 HY3 HB3 ho3 ht4 hm4 hl4 hS HN3 HMEM hg3 hg4
 obtain⟨x0,x1,x2,x3,x4,x5,x6,p0,p1,p2,p3,p4,p5,p6⟩:=blk7 hX4
 have hg3:w.heap.size<w4.heap.size:=by omega
 have hg4:w.heap.size+1<w4.heap.size:=by omega
 have hX5:Blk (w4.setCell ⟨w.heap.size,6,none⟩ (.slice A n2 c)) w.heap.size 97 (sC 2 0 0 f.toArray t.toArray o A n2 c):=by simpa using Blk.put hX4 6 (.slice A n2 c)
 have hY5:Blk (w4.setCell ⟨w.heap.size,6,none⟩ (.slice A n2 c)) (w.heap.size+1) 97 zC:=Blk.far hY4 (by show w.heap.size+1≠w.heap.size;omega) _
 have hB5:Below base w (w4.setCell ⟨w.heap.size,6,none⟩ (.slice A n2 c)):=below_set hB4 hbase
 have ho5:OwnW (w4.setCell ⟨w.heap.size,6,none⟩ (.slice A n2 c)) base (.slice A n2 c) out2:=by
  rcases lies_of_own ho4 with ⟨e,hl⟩|⟨g,cap,sp,e,hb,hc,hcm,hl,hs⟩
  ·injection e with e1 e2 e3
   subst e1;subst e2;subst e3;subst hl
   exact OwnK.none_ _ _
  ·injection e with e1 e2 e3
   have hgA:=hA0 _ e1
   rw[e1,e2,e3]
   exact own_of_lies (Blk.far hl (by show g≠w.heap.size;simp only at hgA;omega) _) hb hc hcm hs
 have HX5:=Jh hX5
 have HY5:=Jh hY5
 have HB5:=Jh hB5
 have HO5:=Jh ho5
 have hs5:w.heap.size+2<=(w4.setCell ⟨w.heap.size,6,none⟩ (.slice A n2 c)).heap.size:=by simp;omega
 clear hX4 hY4 hB4 hX5 hY5 hB5 ho5 ho4
 go_wp2_with fail
 generalize w4.setCell ⟨w.heap.size,6,none⟩ (.slice A n2 c)=w5 at *
 clear x0 x1 x2 x3 x4 x5 x6 p0 p1 p2 p3 p4 p5 p6 hg3 hg4 hs4
 refine (trimText_at f t o A n2 c _ base out2 hfs hot hts HL4.o (by omega) (fun v hv=>HLL.o v ((HMEM2.o v).1 hv)) hR4 HO5.o).mono ?_
 rintro e w6 ⟨⟨rK,rlo,rhi,rf,rt,ro,rno⟩,A6,n6,c6,rfl,hl6,hn6,hr6,ht6,hP6⟩
 dsimp only at hl6 hr6
 have hX6:=ht6.blk HX5.o hA0
 have hY6:=ht6.blk HY5.o fun a ha=>Nat.lt_succ_of_lt (hA0 a ha)
 have hB6:=ht6.below HB5.o (by omega) hA1
 have hs6:w.heap.size+2<=w6.heap.size:=Nat.le_trans hs5 ht6.size
 have HP6:=Jh (texts_congr HMEM2.o hP6)
 have hcp:Calls Tryz.prog 104 #[spF rK rlo rhi rf rt ro A6 n6 c6] w6 (Gives w6 ⟨rK,rlo,rhi,rf,rt,ro,rno⟩):=copied_at rK rlo rhi rf rt ro A6 n6 c6 w6 rno hl6 (by omega) hr6
 clear HX5 HY5 HB5 HO5 ht6 hP6 hr6 HMEM2 HL4 hR4
 go_wp2_with fail
 refine hcp.mono ?_
 rintro e w7 ⟨A7,n7,c7,rfl,hl7,hc7,ho7,hb7⟩
 have HL7:=Jh (hl7.symm.trans hl6)
 have HL8:=Jh hl7
 have hY7:=Blk.below hY6 hb7 (by omega)
 have hB7:=below_next hB6 hbase hb7
 have hs7:=hb7.size
 obtain⟨y0,y1,y2,y3,y4,y5,y6,q0,q1,q2,q3,q4,q5,q6⟩:=blk7 hY7
 have hg7:w.heap.size+1<w7.heap.size:=by omega
 clear hcp hX6 hY6 hB6 hb7 hY7 hl7 hl6
 dsimp only at ho7 HL7 HL8
 go_wp2_with fail
 refine bodyPost_ret (v:=spF rK rlo rhi rf rt ro A7 n7 c7) (by simp[results,Tryz.results107,go_sem,y0,y1,y2,y3,y4,y5,y6]) rfl ?_
 refine ⟨⟨rK,rlo,rhi,rf,rt,ro,rno⟩,A7,n7,c7,rfl,HL8.o,?_,(OwnK.put7 ho7 (by omega) _ _ _ _ _ _ _).less (by omega),below_put7 hB7 (by omega) _ _ _ _ _ _ _,HP6.o⟩
 have:=HL7.o
 omega
theorem trim0 (lo hi:Int) (A:OA) (n c:Nat) (w:World) (base:Nat) (l:List Val)  (hn:l.length=n) (hm:n<=100000) (ho:OwnW w base (.slice A n c) l) (hbase:base<=w.heap.size):
  Calls Tryz.prog 107 #[spF 0 lo hi [] [] false A n c] w (TrimsO ((fun (_:List Val) r=>r=none_) l) base n w):=by
 have HN:=Jh hn
 clear hn
 have hgr:=gr2 w (.cells (sC 0 lo hi #[] #[] false A n c) 97) (.cells zC 97)
 have hbx:=(Blk.new w 97 (sC 0 lo hi #[] #[] false A n c)).alloc (.cells zC 97)
 have hrs:=Blk.new (w.alloc (.cells (sC 0 lo hi #[] #[] false A n c) 97)) 97 zC
 rw[show (w.alloc (.cells (sC 0 lo hi #[] #[] false A n c) 97)).heap.size=w.heap.size+1 by simp] at hrs
 have hA0:=fun a ha=>(own_addr ho a ha).2
 have hA1:=fun a ha=>(own_addr ho a ha).1
 have ho2:=OwnK.below ho hgr.below
 have hsz:((w.alloc (.cells (sC 0 lo hi #[] #[] false A n c) 97)).alloc (.cells zC 97)).heap.size=w.heap.size+2:=by simp
 have hB2:Below base w ((w.alloc (.cells (sC 0 lo hi #[] #[] false A n c) 97)).alloc (.cells zC 97)):=hgr.below.mono hbase
 clear ho hgr
 go_enter Tryz.func107,Tryz.ntmps107
 go_wp2_with fail
 generalize hw2:((w.alloc (.cells (sC 0 lo hi #[] #[] false A n c) 97)).alloc (.cells zC 97))=w2 at *
 clear hw2
 refine (sortV_own HN.o hm ho2).mono ?_
 rintro e w3 ⟨rfl,out,hp,hS,ho3,ht3⟩
 have hX3:=ht3.blk hbx hA0
 have hY3:=ht3.blk hrs fun a ha=>Nat.lt_succ_of_lt (hA0 a ha)
 have hB3:=ht3.below hB2 (by omega) hA1
 have hs3:=ht3.size
 have HMEM:Hid (∀v,v∈out↔v∈l):=fun v=>hp.mem_iff
 have HN3:Hid (out.length=n):=hp.length_eq.trans HN.o
 clear ho2 hbx hrs hB2 ht3 hp
 obtain⟨x0,x1,x2,x3,x4,x5,x6,p0,p1,p2,p3,p4,p5,p6⟩:=blk7 hX3
 have hg3:w.heap.size<w3.heap.size:=by omega
 have hg4:w.heap.size+1<w3.heap.size:=by omega
 have HX3:=Jh hX3
 have HY3:=Jh hY3
 have HB3:=Jh hB3
 clear hX3 hY3 hB3
 go_wp2_with fail
 refine (compactV_own HN3.o hm hS ho3).mono ?_
 rintro e w4 ⟨out2,n2,rfl,hl4,hn4,hR4,hm4,ho4,ht4⟩
 have hX4:=ht4.blk HX3.o hA0
 have hY4:=ht4.blk HY3.o fun a ha=>Nat.lt_succ_of_lt (hA0 a ha)
 have hB4:=ht4.below HB3.o (by omega) hA1
 have hs4:=ht4.size
 have HMEM2:Hid (∀v,v∈out2↔v∈l):=fun v=>(hm4 v).trans (HMEM.o v)
 have HL4:=Jh hl4
 clear x0 x1 x2 x3 x4 x5 x6 p0 p1 p2 p3 p4 p5 p6 HX3 HY3 HB3 ho3 ht4 hm4 hl4 hS HN3 HMEM hg3 hg4
 obtain⟨x0,x1,x2,x3,x4,x5,x6,p0,p1,p2,p3,p4,p5,p6⟩:=blk7 hX4
 have hg3:w.heap.size<w4.heap.size:=by omega
 have hg4:w.heap.size+1<w4.heap.size:=by omega
 have hX5:Blk (w4.setCell ⟨w.heap.size,6,none⟩ (.slice A n2 c)) w.heap.size 97 (sC 0 lo hi #[] #[] false A n2 c):=by simpa using Blk.put hX4 6 (.slice A n2 c)
 have HY4:=Jh hY4
 have hY5:Blk (w4.setCell ⟨w.heap.size,6,none⟩ (.slice A n2 c)) (w.heap.size+1) 97 zC:=Blk.far hY4 (by show w.heap.size+1≠w.heap.size;omega) _
 have hB5:Below base w (w4.setCell ⟨w.heap.size,6,none⟩ (.slice A n2 c)):=below_set hB4 hbase
 have ho5:OwnW (w4.setCell ⟨w.heap.size,6,none⟩ (.slice A n2 c)) base (.slice A n2 c) out2:=by
  rcases lies_of_own ho4 with ⟨e,hl⟩|⟨g,cap,sp,e,hb,hc,hcm,hl,hs⟩
  ·injection e with e1 e2 e3
   subst e1;subst e2;subst e3;subst hl
   exact OwnK.none_ _ _
  ·injection e with e1 e2 e3
   have hgA:=hA0 _ e1
   rw[e1,e2,e3]
   exact own_of_lies (Blk.far hl (by show g≠w.heap.size;simp only at hgA;omega) _) hb hc hcm hs
 have HX5:=Jh hX5
 have HY5:=Jh hY5
 have HB5:=Jh hB5
 have HO5:=Jh ho5
 have hs5:w.heap.size+2<=(w4.setCell ⟨w.heap.size,6,none⟩ (.slice A n2 c)).heap.size:=by simp;omega
 clear hX4 hY4 hB4 hX5 hY5 hB5 ho5 ho4
 obtain⟨r0,r1,r2,r3,r4,r5,r6,s0,s1,s2,s3,s4,s5,s6⟩:=blk7 HY4.o
 go_wp2_with fail
 generalize w4.setCell ⟨w.heap.size,6,none⟩ (.slice A n2 c)=w5 at *
 clear x0 x1 x2 x3 x4 x5 x6 p0 p1 p2 p3 p4 p5 p6 hg3 hg4 hs4
 obtain⟨y0,y1,y2,y3,y4,y5,y6,q0,q1,q2,q3,q4,q5,q6⟩:=blk7 HY5.o
 refine bodyPost_ret (v:=spF 0 0 0 [] [] false none 0 0) (by simp[results,Tryz.results107,go_sem,y0,y1,y2,y3,y4,y5,y6]) rfl ?_
 exact⟨none_,none,0,0,rfl,rfl,Nat.zero_le _,OwnK.none_ _ _,below_put7 HB5.o (by omega) _ _ _ _ _ _ _,rfl⟩
end
end Go.Proofs.YtnfigjggjmncdaaGreat
