/- Contracts. -/
import Derived.Deep.CutRange
import Derived.Deep.CutBlock
import Derived.Test.YtnfigjggjmncdaaGreatT2
import Derived.Test.YtnfigjggjmncdaaGreatK4
set_option maxRecDepth 100000
set_option maxHeartbeats 4000000
namespace Go.Proofs.YtnfigjggjmncdaaGreat
section
open Go.RowKit Go.ChangeShapes Go.WideShapes Go.Deep Go.Sort Spans Tb Dm
def FoldR (w:World) (b:Bk) (l:List Dd) (e:Ending) (w':World):Prop:=∃(t:Sx) (n:Nat) (er:Int),e=.returned (.tuple #[t.v,.int .i64 (n:Int),.int .i64 er])/\Dm.Folds b l t.bk n er/\t.Len/\t.Rd w'/\Below w.heap.size w w'
theorem rfold10_at (s:Sx) (ln:s.Len) (l:List Dx) (A:OA) (n c:Nat) (hn:l.length=n) (hm:n<=100000) (hsh:∀x∈l,x.n<=1000/\PBd x.f) (w:World) (hr:Tb.Right s.bk) (hs:s.Rd w) (hrd:RdDx w A l):
  Calls Tryz.prog 19 #[s.v,.slice A n c] w (FoldR w s.bk (l.map Dx.dd)):=by
 have hb0:=(gr2 w (.cells (xC s.ep s.A s.n s.c s.A1 s.n1 s.c1 s.A2 s.n2 s.c2) 25) (.cells xZ 25)).below
 have HB:=Jh hb0
 have HRDW:=Jh hrd
 have HS:=Jh ((Blk.new w 25 (xC s.ep s.A s.n s.c s.A1 s.n1 s.c1 s.A2 s.n2 s.c2)).alloc (.cells xZ 25))
 have hZ:=Blk.new (w.alloc (.cells (xC s.ep s.A s.n s.c s.A1 s.n1 s.c1 s.A2 s.n2 s.c2) 25)) 25 xZ
 rw[show (w.alloc (.cells (xC s.ep s.A s.n s.c s.A1 s.n1 s.c1 s.A2 s.n2 s.c2) 25)).heap.size=w.heap.size+1 by simp] at hZ
 have HZ:=Jh hZ
 have hs0:((w.alloc (.cells (xC s.ep s.A s.n s.c s.A1 s.n1 s.c1 s.A2 s.n2 s.c2) 25)).alloc (.cells xZ 25)).heap.size=w.heap.size+2:=by simp
 obtain⟨P,hP⟩:∃P:Nat->Prop,P=fun g=>g=w.heap.size∨g=w.heap.size+1:=⟨_,rfl⟩
 have HP1:Hid (P w.heap.size):=by show P _;rw[hP];exact .inl rfl
 have HP2:Hid (P (w.heap.size+1)):=by show P _;rw[hP];exact .inr rfl
 have HPL:Hid (∀g,P g->w.heap.size<=g/\g<w.heap.size+2):=fun g h=>by rw[hP] at h;omega
 clear hP
 have HFI:Hid (Firm ((w.alloc (.cells (xC s.ep s.A s.n s.c s.A1 s.n1 s.c1 s.A2 s.n2 s.c2) 25)).alloc (.cells xZ 25)) P s):=(Firm.of hs (Q:=P) fun g h=>(HPL.o g h).1).below hb0
 have HLN:=Jh ln
 have HRT:=Jh hr
 have HN:=Jh hn
 have HSH:=Jh hsh
 clear hb0 hZ hs hrd ln hr hn hsh
 go_enter Tryz.func19,Tryz.ntmps19
 go_wp2_with fail
 generalize ((w.alloc (.cells (xC s.ep s.A s.n s.c s.A1 s.n1 s.c1 s.A2 s.n2 s.c2) 25)).alloc (.cells xZ 25))=w0 at *
 go_loopg [7] n (fun gg s7 wr=>∃(k:Nat) (u:Sx),k<=n/\n-k<=gg/\s7=.int .i64 (k:Int)/\Hid (Blk wr w.heap.size 25 (xC u.ep u.A u.n u.c u.A1 u.n1 u.c1 u.A2 u.n2 u.c2))/\Hid u.Len/\Hid (Firm wr P u)/\Hid (Dm.Folds s.bk ((l.take k).map Dx.dd) u.bk k 0)/\Hid (Below w.heap.size w wr)/\Hid (Blk wr (w.heap.size+1) 25 xZ)/\w.heap.size+2<=wr.heap.size)
 case atStart=>exact⟨0,s,Nat.zero_le _,by omega,rfl,HS,HLN,HFI,by show Dm.Folds _ _ _ _ _;exact .nil _,HB,HZ,by omega⟩
 case round=>
  obtain⟨k,u,hk,hgg,rfl,HU,HUL,HFU,HF,HB,HZ,hsr⟩:=hrel
  clear HFI HS
  have HRD:=Jh (HRDW.o.below HB.o)
  have HRU:Hid (Tb.Right u.bk):=(HF.o.right HRT.o).1
  by_cases hlt:k<n
  ·have hk':k<l.length:=by rw[HN.o];exact hlt
   obtain⟨ga,off,hAe,hga,c0,c1,c2,c3,c4,hfl⟩:=HRD.o.at5 hk'
   subst hAe
   have hsx:=HSH.o _ (List.getElem_mem hk')
   obtain⟨x,hx⟩:∃x,l[k]=x:=⟨_,rfl⟩
   have HX:=Jh hx
   rw[hx] at c0 c1 c2 c3 c4 hfl hsx
   clear hx
   obtain⟨xk,xi,xr,xa,xA,xn,xc,xf⟩:=x
   obtain⟨hf1,hf2,hf3⟩:=hfl
   obtain⟨hx1,hx2⟩:=hsx
   dsimp only at c0 c1 c2 c3 c4 hf1 hf2 hf3 hx1 hx2
   have HF1:=Jh hf1
   have HF3:=Jh hf3
   have HX2:=Jh hx2
   have w5:(k:Int)<(n:Int):=by omega
   clear hf1 hf3 hx2
   go_upto_region 4 with fail
   go_cut [8,9] from 10 to 30 (fun s8 s9 wx=>∃(v:Sx) (er:Int) (b':Bk) (pe:Nat),s8=.pointer (some ⟨pe,0,none⟩)/\s9=.int .i64 er/\Hid (Does u.bk ⟨xk,xi,xr,xa,xf⟩ b' er)/\Hid (v.bk=(if er=0 then b' else zeroB))/\Hid v.Len/\Hid (Firm wx P v)/\Hid (Blk wx pe 25 (xC v.ep v.A v.n v.c v.A1 v.n1 v.c1 v.A2 v.n2 v.c2))/\Hid (wr.heap.size<=pe)/\Hid (Below wr.heap.size wr wx))
   case first=>
    have hd0:Below wr.heap.size wr wr.drew:=(Below.refl _ _).drew
    have KEEP:Hid (∀w',Below wr.heap.size wr w'->Blk w' w.heap.size 25 (xC u.ep u.A u.n u.c u.A1 u.n1 u.c1 u.A2 u.n2 u.c2)/\w'.cell? ⟨ga,off+k*5,none⟩=some (.int .i64 xk)/\w'.cell? ⟨ga,off+k*5+1,none⟩=some (.int .i64 xi)/\w'.cell? ⟨ga,off+k*5+2,none⟩=some (.int .i64 xr)/\w'.cell? ⟨ga,off+k*5+3,none⟩=some (.string ⟨xa.toArray⟩)/\w'.cell? ⟨ga,off+k*5+4,none⟩=some (.slice xA xn xc)):=fun w' h=>⟨Blk.below HU.o h HU.o.lt,(h.cell (p:=⟨ga,off+k*5,none⟩) hga).trans c0,(h.cell (p:=⟨ga,off+k*5+1,none⟩) hga).trans c1,(h.cell (p:=⟨ga,off+k*5+2,none⟩) hga).trans c2,(h.cell (p:=⟨ga,off+k*5+3,none⟩) hga).trans c3,(h.cell (p:=⟨ga,off+k*5+4,none⟩) hga).trans c4⟩
    have hS0:=KEEP.o wr.drew hd0
    refine wp_region_held_drew (S:=fun w'=>Blk w' w.heap.size 25 (xC u.ep u.A u.n u.c u.A1 u.n1 u.c1 u.A2 u.n2 u.c2)/\w'.cell? ⟨ga,off+k*5,none⟩=some (.int .i64 xk)/\w'.cell? ⟨ga,off+k*5+1,none⟩=some (.int .i64 xi)/\w'.cell? ⟨ga,off+k*5+2,none⟩=some (.int .i64 xr)/\w'.cell? ⟨ga,off+k*5+3,none⟩=some (.string ⟨xa.toArray⟩)/\w'.cell? ⟨ga,off+k*5+4,none⟩=some (.slice xA xn xc)) (by kernel_rfl) hS0 (fun _=>?_)
    refine Jz 0 hS0 ?_ (hv:=by intro w' hSw;obtain⟨hS1,k0,k1,k2,k3,k4⟩:=hSw;obtain⟨r0,r1,r2,r3,_⟩:=blk4 hS1;go_simp<;>with_reducible rfl)
    refine Jz 1 hS0 ?_ (hv:=by intro w' hSw;obtain⟨hS1,k0,k1,k2,k3,k4⟩:=hSw;obtain⟨r0,r1,r2,r3,_⟩:=blk4 hS1;go_simp<;>with_reducible rfl)
    refine Jz 2 hS0 ?_ (hv:=by intro w' hSw;obtain⟨hS1,k0,k1,k2,k3,k4⟩:=hSw;obtain⟨r0,r1,r2,r3,_⟩:=blk4 hS1;go_simp<;>with_reducible rfl)
    refine Jz 3 hS0 ?_ (hv:=by intro w' hSw;obtain⟨hS1,k0,k1,k2,k3,k4⟩:=hSw;obtain⟨r0,r1,r2,r3,_⟩:=blk4 hS1;go_simp<;>with_reducible rfl)
    refine Jz 4 hS0 ?_ (hv:=by intro w' hSw;obtain⟨hS1,k0,k1,k2,k3,k4⟩:=hSw;obtain⟨r0,r1,r2,r3,_⟩:=blk4 hS1;go_simp<;>with_reducible rfl)
    have HD0:Hid (Below wr.heap.size wr wr.drew):=hd0
    have HPw:Hid (∀g,P g->g<wr.heap.size):=fun g h=>by have:=(HPL.o g h).2;omega
    clear hS0 hd0 c0 c1 c2 c3 c4 hga HB HZ HU hsr
    have hszd:wr.heap.size<=wr.drew.heap.size:=HD0.o.size
    generalize wr.drew=wA at *
    refine wpAnyH_pr (i:=5) (j:=9) (by kernel_rfl) rfl rfl (by rfl) (by rfl) (fun K hK=>?_) (fun K hK=>?_)
    ·go_simp
     have hf1:=HF1.o
     with_reducible refine (rdo_at u HUL.o ⟨xk,xi,xr,xa,xf⟩ xA xn xc hf1 hx1 HX2.o wA HRU.o P (fun g h=>Nat.lt_of_lt_of_le (HPw.o g h) hszd) (HFU.o.below HD0.o) (RdK.below HF3.o HD0.o)).mono ?_
     rintro e w2 ⟨v,er,b',rfl,hdo,hbk,hvl,hvf,hb2⟩
     have HDO:=Jh hdo
     have HBK:=Jh hbk
     have HVL:=Jh hvl
     have HVF:=Jh hvf
     have HB2:=Jh (below_next HD0.o (Jn) hb2)
     clear hdo hbk hvl hvf hb2 hf1
     go_wp2_with fail
     refine hK.o _ _ (KEEP.o _ HB2.o) ?_
     clear hK
     refine Jz 6 (KEEP.o _ HB2.o) ?_ (hv:=by intro w' hSw;obtain⟨hS1,k0,k1,k2,k3,k4⟩:=hSw;obtain⟨r0,r1,r2,r3,_⟩:=blk4 hS1;go_simp<;>with_reducible rfl)
     refine Jz 7 (KEEP.o _ HB2.o) ?_ (hv:=by intro w' hSw;obtain⟨hS1,k0,k1,k2,k3,k4⟩:=hSw;obtain⟨r0,r1,r2,r3,_⟩:=blk4 hS1;go_simp<;>with_reducible rfl)
     refine Jz 8 (KEEP.o _ HB2.o) ?_ (hv:=by intro w' hSw;obtain⟨hS1,k0,k1,k2,k3,k4⟩:=hSw;obtain⟨r0,r1,r2,r3,_⟩:=blk4 hS1;go_simp<;>with_reducible rfl)
     refine Je 9 (fun K hK=>?_)
     go_simp
     have BXe:=Jh (Blk.new w2 25 xZ)
     have BP:=Jh (gr1 w2 (.cells xZ 25)).below
     have HB3:=Jh (below_next HB2.o (Jn) BP.o)
     have hpw:wr.heap.size<=w2.heap.size:=HB2.o.size
     generalize hpe:w2.alloc (.cells xZ 25)=w3 at *
     refine hK.o _ _ (KEEP.o _ HB3.o) ?_
     clear hK
     refine Je 10 (fun K hK=>?_)
     obtain⟨y0,y1,y2,y3,q0,q1,q2,q3⟩:=blk4 BXe.o
     have hly:=BXe.o.lt
     go_simp
     have HB4:=Jh (below_put4 HB3.o hpw (.int .i64 v.ep) (.slice v.A v.n v.c) (.slice v.A1 v.n1 v.c1) (.slice v.A2 v.n2 v.c2))
     refine hK.o _ _ (KEEP.o _ HB4.o) ?_
     clear hK y0 y1 y2 y3 q0 q1 q2 q3 hly
     have HVF2:=Jh (HVF.o.below (below_put4 BP.o (Jn) (.int .i64 v.ep) (.slice v.A v.n v.c) (.slice v.A1 v.n1 v.c1) (.slice v.A2 v.n2 v.c2)))
     have BX2:=Jh (Blk.put4 BXe.o (.int .i64 v.ep) (.slice v.A v.n v.c) (.slice v.A1 v.n1 v.c1) (.slice v.A2 v.n2 v.c2))
     refine Jz 11 (KEEP.o _ HB4.o) ?_ (hv:=by intro w' hSw;obtain⟨hS1,k0,k1,k2,k3,k4⟩:=hSw;obtain⟨r0,r1,r2,r3,_⟩:=blk4 hS1;go_simp<;>with_reducible rfl)
     refine Jd ?_
     go_wp2_with fail
     go_meet
     exact⟨v,er,b',w2.heap.size,rfl,rfl,HDO,HBK,HVL,HVF2,BX2,hpw,HB4⟩
    ·go_simp
     obtain⟨pe,hpe0⟩:∃pe,wA.heap.size=pe:=⟨_,rfl⟩
     have BXe:=Jh (Blk.new wA 25 xZ)
     have BP:=Jh (below_next HD0.o (Jn) (gr1 wA (.cells xZ 25)).below)
     have hpw:wr.heap.size<=wA.heap.size:=hszd
     have hszB:wA.heap.size<(wA.alloc (.cells xZ 25)).heap.size:=by simp
     have HFB:Hid (Firm (wA.alloc (.cells xZ 25)) (fun g=>P g∨g=wA.heap.size) u):=fun w9 ha=>(HFU.o.below HD0.o).old (gr1 wA (.cells xZ 25)).below (fun g hg h=>h.resolve_right (by omega)) ha
     rw[hpe0] at BXe HFB hszB hpw
     generalize wA.alloc (.cells xZ 25)=w1 at *
     clear hszd
     rw[hpe0]
     refine hK.o _ _ (KEEP.o _ BP.o) ?_
     clear hK
     refine Je 5 (fun K hK=>?_)
     go_simp
     have hf1:=HF1.o
     with_reducible refine (rdo_at u HUL.o ⟨xk,xi,xr,xa,xf⟩ xA xn xc hf1 hx1 HX2.o w1 HRU.o (fun g=>P g∨g=pe) (fun g h=>h.elim (fun h=>by have:=HPw.o g h;omega) (fun h=>by omega)) HFB.o (RdK.below HF3.o BP.o)).mono ?_
     rintro e w2 ⟨v,er,b',rfl,hdo,hbk,hvl,hvf,hb2⟩
     have HDO:=Jh hdo
     have HBK:=Jh hbk
     have HVL:=Jh hvl
     have HVF:=Jh hvf
     have HB2:=Jh (below_next BP.o (Jn) hb2)
     replace BXe:=Jh (Blk.below BXe.o hb2 BXe.o.lt)
     clear hdo hbk hvl hvf hb2 hf1
     go_wp2_with fail
     refine hK.o _ _ (KEEP.o _ HB2.o) ?_
     clear hK
     refine Jz 6 (KEEP.o _ HB2.o) ?_ (hv:=by intro w' hSw;obtain⟨hS1,k0,k1,k2,k3,k4⟩:=hSw;obtain⟨r0,r1,r2,r3,_⟩:=blk4 hS1;go_simp<;>with_reducible rfl)
     refine Jz 7 (KEEP.o _ HB2.o) ?_ (hv:=by intro w' hSw;obtain⟨hS1,k0,k1,k2,k3,k4⟩:=hSw;obtain⟨r0,r1,r2,r3,_⟩:=blk4 hS1;go_simp<;>with_reducible rfl)
     refine Jz 8 (KEEP.o _ HB2.o) ?_ (hv:=by intro w' hSw;obtain⟨hS1,k0,k1,k2,k3,k4⟩:=hSw;obtain⟨r0,r1,r2,r3,_⟩:=blk4 hS1;go_simp<;>with_reducible rfl)
     refine Je 10 (fun K hK=>?_)
     obtain⟨y0,y1,y2,y3,q0,q1,q2,q3⟩:=blk4 BXe.o
     have hly:=BXe.o.lt
     go_simp
     have HB4:=Jh (below_put4 HB2.o hpw (.int .i64 v.ep) (.slice v.A v.n v.c) (.slice v.A1 v.n1 v.c1) (.slice v.A2 v.n2 v.c2))
     refine hK.o _ _ (KEEP.o _ HB4.o) ?_
     clear hK y0 y1 y2 y3 q0 q1 q2 q3 hly
     have HVF2:=Jh (HVF.o.step (P:=P) ((Agree.refl _ w2).put4 (b:=pe) (.inr rfl) (.int .i64 v.ep) (.slice v.A v.n v.c) (.slice v.A1 v.n1 v.c1) (.slice v.A2 v.n2 v.c2)) fun g h=>.inl h)
     have BX2:=Jh (Blk.put4 BXe.o (.int .i64 v.ep) (.slice v.A v.n v.c) (.slice v.A1 v.n1 v.c1) (.slice v.A2 v.n2 v.c2))
     refine Jz 11 (KEEP.o _ HB4.o) ?_ (hv:=by intro w' hSw;obtain⟨hS1,k0,k1,k2,k3,k4⟩:=hSw;obtain⟨r0,r1,r2,r3,_⟩:=blk4 hS1;go_simp<;>with_reducible rfl)
     refine Jd ?_
     go_wp2_with fail
     go_meet
     exact⟨v,er,b',pe,rfl,rfl,HDO,HBK,HVL,HVF2,BX2,hpw,HB4⟩
   case rest=>
    obtain⟨v,er,b',pe,rfl,rfl,HDO,HBK,HVL,HVF,BXe,HPE,HBc⟩:=hcut
    clear c0 c1 c2 c3 c4 hga HF3 HF1
    replace HU:=Jh (Blk.below HU.o HBc.o HU.o.lt)
    replace HZ:=Jh (Blk.below HZ.o HBc.o HZ.o.lt)
    replace HFU:=Jh (HFU.o.below HBc.o)
    replace HB:=Jh (below_next HB.o (Jn) HBc.o)
    have hsr3:w.heap.size+2<=wc.heap.size:=Nat.le_trans hsr HBc.o.size
    have hpe:=HPE.o
    obtain⟨x0,x1,x2,x3,p0,p1,p2,p3⟩:=blk4 HU.o
    obtain⟨y0,y1,y2,y3,_⟩:=blk4 BXe.o
    have hlx:=HU.o.lt
    have hly:=BXe.o.lt
    by_cases he:er=0
    ·subst he
     have hb':v.bk=b':=by have:=HBK.o;rwa [if_pos rfl] at this
     have HF2:Hid (Dm.Folds s.bk ((l.take (k+1)).map Dx.dd) v.bk (k+1) 0):=by
      show Dm.Folds _ _ _ _ _
      rw[hb',map_snoc _ hk',HX.o]
      exact HF.o.snoc HDO.o
     have hnx:w.heap.size≠pe:=by omega
     go_wp2_with fail
     go_roundg (n-(k+1))
     case measure=>omega
     case rel=>exact⟨k+1,v,by omega,Jn,by go_num,Blk.put4 HU.o _ _ _ _,HVL,HVF.o.step ((Agree.refl P wc).put4 HP1.o _ _ _ _) (fun _=>id),HF2,below_put4 HB.o (Jn) _ _ _ _,Blk.far4 HZ.o (by omega) _ _ _ _,by simpa using hsr3⟩
    ·have v0:(er != 0)=true:=by simpa using he
     obtain⟨z0,z1,z2,z3,q0,q1,q2,q3⟩:=blk4 HZ.o
     have hsame:b'=u.bk:=(HDO.o.right HRU.o).2.1 he
     have HF2:Hid (Dm.Folds s.bk (l.map Dx.dd) u.bk k er):=by
      show Dm.Folds _ _ _ _ _
      have h1:=HDO.o
      rw[hsame] at h1
      have h2:=HF.o.stop h1 he ((l.drop (k+1)).map Dx.dd)
      have h3:l.map Dx.dd=(l.take k).map Dx.dd++(⟨xk,xi,xr,xa,xf⟩:Dd)::(l.drop (k+1)).map Dx.dd:=by
       conv=>lhs;rw[<-List.take_append_drop k l,List.drop_eq_getElem_cons hk',HX.o,List.map_append,List.map_cons]
      rw[h3];exact h2
     have HRU2:=Jh (HFU.o.step (((Agree.refl P wc).put4 HP2.o (.int .i64 u.ep) (.slice u.A u.n u.c) (.slice u.A1 u.n1 u.c1) (.slice u.A2 u.n2 u.c2))) (P:=P) fun _=>id).rd
     clear he hsame
     go_wp2_with fail
     refine bodyPost_ret (v:=.tuple #[Sx.v u,.int .i64 (k:Int),.int .i64 er]) (by simp[results,Tryz.results19,go_sem,z0,z1,z2,z3]) rfl ?_
     exact⟨u,k,er,rfl,HF2.o,HUL.o,HRU2.o,below_put4 HB.o (by omega) _ _ _ _⟩
  ·obtain rfl:k=n:=by omega
   have HF2:Hid (Dm.Folds s.bk (l.map Dx.dd) u.bk k 0):=by
    have h:=HF.o
    rwa [List.take_of_length_le (by rw[HN.o];exact Jn)] at h
   have HRU2:=Jh (HFU.o.step (((Agree.refl P wr).put4 HP2.o (.int .i64 u.ep) (.slice u.A u.n u.c) (.slice u.A1 u.n1 u.c1) (.slice u.A2 u.n2 u.c2))) (P:=P) fun _=>id).rd
   obtain⟨z0,z1,z2,z3,q0,q1,q2,q3⟩:=blk4 HZ.o
   obtain⟨y0,y1,y2,y3,_⟩:=blk4 HU.o
   have hlu:=HU.o.lt
   have hlz:=HZ.o.lt
   go_wp2_with fail
   refine bodyPost_ret (v:=.tuple #[Sx.v u,.int .i64 (k:Int),.int .i64 0]) (by simp[results,Tryz.results19,go_sem,z0,z1,z2,z3]) rfl ?_
   exact⟨u,k,0,rfl,HF2.o,HUL.o,HRU2.o,below_put4 HB.o (by omega) _ _ _ _⟩
end
end Go.Proofs.YtnfigjggjmncdaaGreat
