/- Contracts. -/
import Derived.Deep.CutRange
import Derived.Deep.CutBlock
import Derived.Test.YtnfigjggjmncdaaGreatX2
import Derived.Test.YtnfigjggjmncdaaGreatF3
import Derived.Test.YtnfigjggjmncdaaGreatK2
import Derived.Test.YtnfigjggjmncdaaGreatK3
set_option maxRecDepth 100000
set_option maxHeartbeats 4000000
namespace Go.Proofs.YtnfigjggjmncdaaGreat
section
open Go.RowKit Go.ChangeShapes Go.WideShapes Go.Deep Go.Sort Spans Tb Dm
theorem rnamed_at (d:Dd) (A:OA) (n c:Nat) (hn:d.f.length=n) (w:World) (q:Bool) (hq:q=true↔Fit d):
  Calls Tryz.prog 27 #[dV d A n c] w fun e w'=>e=.returned (.bool q)/\Below w.heap.size w w':=by
 obtain⟨dk,di,df,da,fl⟩:=d
 dsimp only at hn
 have HQ:=Jh hq
 have BX:=Jh (Blk.new w 28 (dC dk di df da.toArray A n c))
 have BB:=Jh (gr1 w (.cells (dC dk di df da.toArray A n c) 28)).below
 have HNN:Hid (fl.length=n):=hn
 obtain⟨eb,heb⟩:∃b,decide (Ent dk)=b:=⟨_,rfl⟩
 have HEB:=Jh heb
 have HNO:Hid (¬Fit ⟨dk,di,df,da,fl⟩->false=q):=fun h=>by
  cases q with
  | false=>rfl
  | true=>exact absurd (HQ.o.1 rfl) h
 clear hq hn heb
 go_enter Tryz.func27,Tryz.ntmps27
 obtain⟨d0,d1,d2,d3,d4,_⟩:=blk5 BX.o
 have hld:=BX.o.lt
 go_upto_region 1 with fail
 clear d0 d1 d2 d3 d4 hld
 generalize w.alloc (.cells (dC dk di df da.toArray A n c) 28)=w0 at *
 obtain⟨d0,d1,d2,d3,d4,_⟩:=blk5 BX.o
 have hld:=BX.o.lt
 go_cut [3] from 4 (fun s3 wx=>s3=.bool eb/\w0=wx)
 case first=>
  by_cases h3:dk=3
  ·have v3:(dk == 3)=true:=beq_iff_eq.2 h3
   obtain rfl:eb=true:=by rw[<-HEB.o,decide_eq_true_iff];exact .inl h3
   clear h3
   go_wp2_with fail
   go_meet
   exact⟨rfl,rfl⟩
  ·have v3:(dk == 3)=false:=beq_eq_false_iff_ne.2 h3
   have v5:(dk == 5)=eb:=by rw[<-HEB.o,Bool.eq_iff_iff,beq_iff_eq,decide_eq_true_iff];unfold Ent;exact⟨.inr,fun h=>h.resolve_left h3⟩
   clear h3
   go_wp2_with fail
   go_meet
   exact⟨rfl,rfl⟩
 case rest=>
  obtain⟨rfl,rfl⟩:=hcut
  by_cases t1:dk<1
  ·have v1:decide (dk<1)=true:=decide_eq_true t1
   have HF:=Jh (HNO.o fun h=>by have:=h.1;dsimp only at this;omega)
   clear t1
   go_wp2_with fail
   go_ret
   exact⟨ret_b HF.o,BB.o⟩
  have v1:decide (dk<1)=false:=decide_eq_false t1
  by_cases t2:6<dk
  ·have v2:decide (6<dk)=true:=decide_eq_true t2
   have HF:=Jh (HNO.o fun h=>by have:=h.2.1;dsimp only at this;omega)
   clear t1 t2
   go_wp2_with fail
   go_ret
   exact⟨ret_b HF.o,BB.o⟩
  have v2:decide (6<dk)=false:=decide_eq_false t2
  by_cases t3:di<1
  ·have v3:decide (di<1)=true:=decide_eq_true t3
   have HF:=Jh (HNO.o fun h=>by have:=h.2.2.1;dsimp only at this;omega)
   clear t1 t2 t3
   go_wp2_with fail
   go_ret
   exact⟨ret_b HF.o,BB.o⟩
  have v3:decide (di<1)=false:=decide_eq_false t3
  by_cases t4:1073741824<di
  ·have v4:decide (1073741824<di)=true:=decide_eq_true t4
   have HF:=Jh (HNO.o fun h=>by have:=h.2.2.2.1;dsimp only at this;omega)
   clear t1 t2 t3 t4
   go_wp2_with fail
   go_ret
   exact⟨ret_b HF.o,BB.o⟩
  have v4:decide (1073741824<di)=false:=decide_eq_false t4
  by_cases t5:dk≠1/\da≠[]
  ·have v5:(dk != 1)=true:=by simpa using t5.1
   have v6:da.isEmpty=false:=by simpa using t5.2
   have HF:=Jh (HNO.o fun h=>t5.2 (h.2.2.2.2.2.1 t5.1))
   clear t1 t2 t3 t4 t5
   go_wp2_with fail
   go_ret
   exact⟨ret_b HF.o,BB.o⟩
  obtain⟨b1,hb1⟩:∃b,(dk != 1)=b:=⟨_,rfl⟩
  have HB1:=Jh hb1
  have v6:b1=true->da=[]:=fun h=>by
   have h1:dk≠1:=by rw[h] at hb1;simpa using hb1
   exact Classical.byContradiction fun h3=>t5 ⟨h1,h3⟩
  have HV6:=Jh v6
  by_cases t6:32<da.length
  ·have v7:decide ((32:Int)<(da.length:Int))=true:=decide_eq_true (by omega)
   have HF:=Jh (HNO.o fun h=>by
    by_cases e:dk=1
    ·have:=h.2.2.2.2.1 e;dsimp only at this;omega
    ·have:=h.2.2.2.2.2.1 e;dsimp only at this;rw[this] at t6;simp at t6)
   clear t1 t2 t3 t4 t5 t6 v6
   cases b1 with
   | false=>
    have v5:=HB1.o
    go_wp2_with fail
    go_ret
    exact⟨ret_b HF.o,BB.o⟩
   | true=>
    have v5:=HB1.o
    obtain rfl:da=[]:=HV6.o rfl
    simp at v7
  have v7:decide ((32:Int)<(da.length:Int))=false:=decide_eq_false (by omega)
  have HFT:Hid (Fit ⟨dk,di,df,da,fl⟩↔(if eb=true then 1<=df/\df<=1073741824 else df=0/\fl=[])):=by
   have hE:=HEB.o
   show _↔_
   constructor
   ·rintro ⟨_,_,_,_,_,_,h1,h2⟩
    cases eb with
    | true=>exact h1 (of_decide_eq_true hE)
    | false=>exact h2 (of_decide_eq_false hE)
   ·intro h
    refine ⟨by show 1<=dk;omega,by show dk<=6;omega,by show 1<=di;omega,by show di<=1073741824;omega,fun _=>by show da.length<=32;omega,fun hk=>Classical.byContradiction fun h3=>t5 ⟨hk,h3⟩,fun he=>?_,fun he=>?_⟩
    ·have:eb=true:=by rw[<-hE];exact decide_eq_true he
     rw[if_pos this] at h;exact h
    ·have:¬eb=true:=by rw[<-hE];simpa using he
     rw[if_neg this] at h;exact h
  clear t1 t2 t3 t4 t5 t6 v6 hb1
  cases eb with
  | true=>
   by_cases t8:1<=df
   ·have v8:decide (1<=df)=true:=decide_eq_true t8
    have HF:Hid (decide (df<=1073741824)=q):=by
     show _=_
     rw[Bool.eq_iff_iff,HQ.o,HFT.o,if_pos rfl,decide_eq_true_iff]
     exact⟨fun h=>⟨t8,h⟩,fun h=>h.2⟩
    clear t8
    cases b1 with
    | false=>
     have v5:=HB1.o
     go_wp2_with fail
     go_ret
     exact⟨ret_b HF.o,BB.o⟩
    | true=>
     have v5:=HB1.o
     obtain rfl:da=[]:=HV6.o rfl
     go_wp2_with fail
     go_ret
     exact⟨ret_b HF.o,BB.o⟩
   ·have v8:decide (1<=df)=false:=decide_eq_false t8
    have HF:Hid (false=q):=HNO.o fun h=>t8 (by have:=HFT.o.1 h;rw[if_pos rfl] at this;exact this.1)
    clear t8
    cases b1 with
    | false=>
     have v5:=HB1.o
     go_wp2_with fail
     go_ret
     exact⟨ret_b HF.o,BB.o⟩
    | true=>
     have v5:=HB1.o
     obtain rfl:da=[]:=HV6.o rfl
     go_wp2_with fail
     go_ret
     exact⟨ret_b HF.o,BB.o⟩
  | false=>
   by_cases t8:df=0
   ·have v8:(df == 0)=true:=beq_iff_eq.2 t8
    have HF:Hid (((n:Int) == 0)=q):=by
     show _=_
     rw[Bool.eq_iff_iff,HQ.o,HFT.o,if_neg (by simp),beq_iff_eq]
     constructor
     ·intro h;exact⟨t8,List.length_eq_zero_iff.1 (by rw[HNN.o];omega)⟩
     ·rintro ⟨_,h⟩;rw[<-HNN.o,h];rfl
    clear t8
    cases b1 with
    | false=>
     have v5:=HB1.o
     go_wp2_with fail
     go_ret
     exact⟨ret_b HF.o,BB.o⟩
    | true=>
     have v5:=HB1.o
     obtain rfl:da=[]:=HV6.o rfl
     go_wp2_with fail
     go_ret
     exact⟨ret_b HF.o,BB.o⟩
   ·have v8:(df == 0)=false:=beq_eq_false_iff_ne.2 t8
    have HF:Hid (false=q):=HNO.o fun h=>t8 (by have:=HFT.o.1 h;rw[if_neg (by simp)] at this;exact this.1)
    clear t8
    cases b1 with
    | false=>
     have v5:=HB1.o
     go_wp2_with fail
     go_ret
     exact⟨ret_b HF.o,BB.o⟩
    | true=>
     have v5:=HB1.o
     obtain rfl:da=[]:=HV6.o rfl
     go_wp2_with fail
     go_ret
     exact⟨ret_b HF.o,BB.o⟩
theorem rnorm10_at (d:Dd) (A:OA) (n c:Nat) (hn:d.f.length=n) (hm:n<=1000) (hl:PBd d.f) (w:World) (hr:RdQ w A d.f):Calls Tryz.prog 9 #[dV d A n c] w (NormD w d):=by
 obtain⟨k,id,fr,ad,f⟩:=d
 dsimp only at *
 have HN:=Jh hn
 have HM:=Jh hm
 have HL:=Jh hl
 obtain⟨q,hq⟩:∃q,decide (Fit ⟨k,id,fr,ad,f⟩)=q:=⟨_,rfl⟩
 have HQ:=Jh hq
 have hb:=(gr2 w (.cells (dC k id fr ad.toArray A n c) 28) (.cells (dC 0 0 0 #[] none 0 0) 28)).below
 have hX:=(Blk.new w 28 (dC k id fr ad.toArray A n c)).alloc (.cells (dC 0 0 0 #[] none 0 0) 28)
 have hY:=Blk.new (w.alloc (.cells (dC k id fr ad.toArray A n c) 28)) 28 (dC 0 0 0 #[] none 0 0)
 rw[show (w.alloc (.cells (dC k id fr ad.toArray A n c) 28)).heap.size=w.heap.size+1 by simp] at hY
 have HB:=Jh hb
 have HX:=Jh hX
 have HY:=Jh hY
 have HR:=Jh (RdK.below hr hb)
 clear hn hm hl hq hb hX hY hr
 go_enter Tryz.func9,Tryz.ntmps9
 go_wp2_with fail
 generalize (w.alloc (.cells (dC k id fr ad.toArray A n c) 28)).alloc (.cells (dC 0 0 0 #[] none 0 0) 28)=w0 at *
 obtain⟨c0,c1,c2,c3,c4,_,_,_,_,_⟩:=blk5 HX.o
 go_wp2_with fail
 refine (rnamed_at ⟨k,id,fr,ad,f⟩ A n c HN.o w0 q (by rw[<-HQ.o,decide_eq_true_iff])).mono ?_
 rintro e w1 ⟨rfl,hb⟩
 clear c0 c1 c2 c3 c4
 replace HX:=Jh (HX.o.below hb HX.o.lt)
 replace HY:=Jh (HY.o.below hb HY.o.lt)
 replace HB:=Jh (below_next HB.o (Jn) hb)
 replace HR:=Jh (RdK.below HR.o hb)
 clear hb
 have hly:=HY.o.lt
 have hlx:=HX.o.lt
 obtain⟨c0,c1,c2,c3,c4,p0,p1,p2,p3,p4⟩:=blk5 HX.o
 obtain⟨y0,y1,y2,y3,y4,q0,q1,q2,q3,q4⟩:=blk5 HY.o
 cases q with
 | false=>
  have HF:Hid (¬Fit ⟨k,id,fr,ad,f⟩):=of_decide_eq_false HQ.o
  go_wp2_with fail
  refine bodyPost_ret (v:=.tuple #[dV zeroD none 0 0,.int .i64 1]) (by simp[zeroD,results,Tryz.results9,go_sem,y0,y1,y2,y3,y4]) rfl ?_
  exact⟨zeroD,1,none,0,0,rfl,.inl ⟨HF.o,rfl,rfl⟩,rfl,Jn,OwnK.none_ _ _,below_put5 HB.o (Nat.le_succ _) _ _ _ _ _⟩
 | true=>
  have HF:Hid (Fit ⟨k,id,fr,ad,f⟩):=by show Fit _;exact of_decide_eq_true HQ.o
  have HYL:=Jh hly
  clear y0 y1 y2 y3 y4 q0 q1 q2 q3 q4 hly
  go_wp2_with fail
  refine (rnorm_at A f n c HN.o HM.o HL.o _ HR.o).mono ?_
  rintro e w2 ⟨g,er,A2,n2,c2,rfl,hno,hl2,hc2,ho2,hb⟩
  clear c0 c1 c3 c4 p0 p1 p2 p3 p4 hlx
  replace HX:=Jh (HX.o.below hb HX.o.lt)
  replace HY:=Jh (HY.o.below hb HY.o.lt)
  have hsz:=HB.o.size
  replace HB:=Jh (below_next HB.o (Jn) hb)
  have HNO:=Jh hno
  have HL2:=Jh hl2
  have hly:=HY.o.lt
  have hlx:=HX.o.lt
  obtain⟨c0,c1,x2,c3,c4,p0,p1,p2,p3,p4⟩:=blk5 HX.o
  obtain⟨y0,y1,y2,y3,y4,q0,q1,q2,q3,q4⟩:=blk5 HY.o
  by_cases he:er=0
  ·subst he
   have HO2:Hid (OwnQ w2 w1.heap.size (.slice A2 n2 c2) g):=ho2
   have hxs:w.heap.size+1<w1.heap.size:=HYL.o
   clear hb hno hl2 ho2
   go_wp2_with fail
   refine bodyPost_ret (v:=.tuple #[dV ⟨k,id,fr,ad,g⟩ A2 n2 c2,.int .i64 0]) (by simp[results,Tryz.results9,go_sem,y0,y1,y2,y3,y4]) rfl ?_
   exact⟨⟨k,id,fr,ad,g⟩,0,A2,n2,c2,rfl,.inr ⟨HF.o,g,HNO.o,.inl ⟨rfl,rfl⟩⟩,HL2.o,hc2,(OwnK.put5 (OwnK.set_ HO2.o (by omega) 4 _) hxs _ _ _ _ _).less hsz,below_put5 (below_set HB.o (Jn)) (Nat.le_succ _) _ _ _ _ _⟩
  ·have v0:(er != 0)=true:=by simpa using he
   clear hb hno hl2 ho2
   go_wp2_with fail
   refine bodyPost_ret (v:=.tuple #[dV zeroD none 0 0,.int .i64 er]) (by simp[zeroD,results,Tryz.results9,go_sem,y0,y1,y2,y3,y4]) rfl ?_
   exact⟨zeroD,er,none,0,0,rfl,.inr ⟨HF.o,g,HNO.o,.inr ⟨he,rfl⟩⟩,rfl,Jn,OwnK.none_ _ _,below_put5 HB.o (Nat.le_succ _) _ _ _ _ _⟩
structure Agree (P:Nat->Prop) (w w':World):Prop where
 os:w'.os=w.os
 tape:w'.tape=w.tape
 output:w'.output=w.output
 size:w.heap.size<=w'.heap.size
 block:∀g,¬P g->g<w.heap.size->w'.heap[g]?=w.heap[g]?
theorem Agree.refl (P:Nat->Prop) (w:World):Agree P w w:=⟨rfl,rfl,rfl,Jn,fun _ _ _=>rfl⟩
theorem Agree.set_ {P:Nat->Prop} {w w':World} (h:Agree P w w') {b:Nat} (hb:P b) (i:Nat) (u:Value):Agree P w (w'.setCell ⟨b,i,none⟩ u):=
 ⟨h.os,h.tape,h.output,by simpa using h.size,fun g hg hlt=>(heap_setCell_other w' ⟨b,i,none⟩ g u (fun e=>hg (by rw[show g=b from e];exact hb))).trans (h.block g hg hlt)⟩
theorem Agree.put4 {P:Nat->Prop} {w w':World} (h:Agree P w w') {b:Nat} (hb:P b) (u0 u1 u2 u3:Value):Agree P w ((((w'.setCell ⟨b,0,none⟩ u0).setCell ⟨b,1,none⟩ u1).setCell ⟨b,2,none⟩ u2).setCell ⟨b,3,none⟩ u3):=(((h.set_ hb 0 u0).set_ hb 1 u1).set_ hb 2 u2).set_ hb 3 u3
theorem Agree.of {P:Nat->Prop} {w w':World} (h:Below w.heap.size w w'):Agree P w w':=⟨h.os,h.tape,h.output,h.size,fun g _ hlt=>h.block g hlt⟩
def Firm (w:World) (P:Nat->Prop) (t:Sx):Prop:=∀w',Agree P w w'->t.Rd w'
theorem Firm.rd {w:World} {P:Nat->Prop} {t:Sx} (h:Firm w P t):t.Rd w:=h w (.refl P w)
theorem Firm.old {w wx w2:World} {P Q:Nat->Prop} {s:Sx} (h:Firm w P s) (hb:Below w.heap.size w wx) (hq:∀g,g<w.heap.size->Q g->P g) (ha:Agree Q wx w2):s.Rd w2:=
 h w2 ⟨ha.os.trans hb.os,ha.tape.trans hb.tape,ha.output.trans hb.output,Nat.le_trans hb.size ha.size,fun g hg hlt=>(ha.block g (fun hQ=>hg (hq g hlt hQ)) (Nat.lt_of_lt_of_le hlt hb.size)).trans (hb.block g hlt)⟩
theorem Firm.step {w w':World} {P Q:Nat->Prop} {t:Sx} (h:Firm w Q t) (h1:Agree Q w w') (hpq:∀g,P g->Q g):Firm w' P t:=fun w2 ha=>
 h w2 ⟨ha.os.trans h1.os,ha.tape.trans h1.tape,ha.output.trans h1.output,Nat.le_trans h1.size ha.size,fun g hg hlt=>(ha.block g (fun hp=>hg (hpq g hp)) (Nat.lt_of_lt_of_le hlt h1.size)).trans (h1.block g hg hlt)⟩
theorem Firm.below {w w':World} {P:Nat->Prop} {t:Sx} (h:Firm w P t) (hb:Below w.heap.size w w'):Firm w' P t:=h.step (.of hb) fun _=>id
theorem Firm.of {w:World} {Q:Nat->Prop} {s:Sx} (h:s.Rd w) (hq:∀g,Q g->w.heap.size<=g):Firm w Q s:=fun w2 ha=>
 h.below ⟨ha.os,ha.tape,ha.output,ha.size,fun g hlt=>ha.block g (fun hQ=>absurd (hq g hQ) (by omega)) hlt⟩
theorem firm_zero (w:World) (P:Nat->Prop):Firm w P zeroS:=fun w2 _=>(zero_fresh w2 0).own.rd
theorem OwnK.agree {α:Type} {L:Lay α} {w w2:World} {base:Nat} {v:Value} {es:List α} {Q:Nat->Prop} (h:OwnK L w base v es) (hq:∀g,base<=g->¬Q g) (ha:Agree Q w w2):OwnK L w2 base v es:=by
 refine ⟨h.1,?_⟩
 rcases h.2 with h2|⟨g,cap,cur,hv,hbg,hg,r⟩
 ·exact .inl h2
 ·exact .inr ⟨g,cap,cur,hv,hbg,(ha.block g (hq g hbg) (Array.getElem?_eq_some_iff.1 hg).1).trans hg,r⟩
def DoR (w:World) (P:Nat->Prop) (b:Bk) (d:Dd) (e:Ending) (w':World):Prop:=∃(t:Sx) (er:Int) (b':Bk),e=.returned (.tuple #[t.v,.int .i64 er])/\Does b d b' er/\t.bk=(if er=0 then b' else zeroB)/\t.Len/\Firm w' P t/\Below w.heap.size w w'
theorem doR_bad {w w':World} {P:Nat->Prop} {b:Bk} {d:Dd} {er:Int} (h:Does b d b er) (h0:er≠0) (hb:Below w.heap.size w w'):DoR w P b d (.returned (.tuple #[zeroS.v,.int .i64 er])) w':=
 ⟨zeroS,er,b,rfl,h,by rw[if_neg h0];rfl,(zero_fresh w' 0).len,firm_zero w' P,hb⟩
theorem ex_pw {l:List Ex} (h:Rise ((l.map Ex.en).map En.id)):l.Pairwise fun a b=>a.id<b.id:=by have:=pw (g:=En.id) h;rw[List.pairwise_map] at this;exact this
theorem Blk.put5 {w:World} {b:Nat} {t:TypeId} {c0 c1 c2 c3 c4:Value} (h:Blk w b t #[c0,c1,c2,c3,c4]) (u0 u1 u2 u3 u4:Value):Blk (((((w.setCell ⟨b,0,none⟩ u0).setCell ⟨b,1,none⟩ u1).setCell ⟨b,2,none⟩ u2).setCell ⟨b,3,none⟩ u3).setCell ⟨b,4,none⟩ u4) b t #[u0,u1,u2,u3,u4]:=by
 have h3:=((((h.put 0 u0).put 1 u1).put 2 u2).put 3 u3).put 4 u4
 simpa using h3
theorem Blk.far5 {w:World} {g b:Nat} {t:TypeId} {cs:Array Value} (h:Blk w g t cs) (hb:g≠b) (u0 u1 u2 u3 u4:Value):Blk (((((w.setCell ⟨b,0,none⟩ u0).setCell ⟨b,1,none⟩ u1).setCell ⟨b,2,none⟩ u2).setCell ⟨b,3,none⟩ u3).setCell ⟨b,4,none⟩ u4) g t cs:=Blk.far (Blk.far4 h hb u0 u1 u2 u3) (p:=⟨b,4,none⟩) hb _
theorem rdo_at (s:Sx) (ln:s.Len) (d:Dd) (D:OA) (f c2:Nat) (hf:d.f.length=f) (hm:f<=1000) (hl:PBd d.f) (w:World) (hr:Tb.Right s.bk) (P:Nat->Prop) (hP:∀g,P g->g<w.heap.size) (hs0:Firm w P s) (hd:RdQ w D d.f):
  Calls Tryz.prog 16 #[s.v,dV d D f c2] w (DoR w P s.bk d):=by
 have hs:=hs0.rd
 have HFM:=Jh hs0
 clear hs0
 have hp:s.ls.Pairwise fun a b=>a.id<b.id:=pw (g:=Lk.id) hr.ls.2.1
 have hpa:=ex_pw hr.av.2.1
 have hpu:=ex_pw hr.su.2.1
 have hla:s.av.length<=64:=by have:=hr.av.1;simpa using this
 have hlu:s.su.length<=64:=by have:=hr.su.1;simpa using this
 have hll:s.ls.length<=16:=hr.ls.1
 have hep0:0<=s.ep:=hr.ep0
 have hep1:s.ep<=1099511627776:=hr.ep1
 obtain⟨ep,sA,sn,sc,ls,A1,n1,c1,av,A2,n2,k2,su⟩:=s
 obtain⟨dk,di,df,da,fl⟩:=d
 dsimp only at *
 have hb0:=(gr3 w (.cells (xC ep sA sn sc A1 n1 c1 A2 n2 k2) 25) (.cells (dC dk di df da.toArray D f c2) 28) (.cells xZ 25)).below
 have hS0:=((Blk.new w 25 (xC ep sA sn sc A1 n1 c1 A2 n2 k2)).alloc (.cells (dC dk di df da.toArray D f c2) 28)).alloc (.cells xZ 25)
 have hD0:=(Blk.new (w.alloc (.cells (xC ep sA sn sc A1 n1 c1 A2 n2 k2) 25)) 28 (dC dk di df da.toArray D f c2)).alloc (.cells xZ 25)
 have hZ0:=Blk.new ((w.alloc (.cells (xC ep sA sn sc A1 n1 c1 A2 n2 k2) 25)).alloc (.cells (dC dk di df da.toArray D f c2) 28)) 25 xZ
 rw[show ((w.alloc (.cells (xC ep sA sn sc A1 n1 c1 A2 n2 k2) 25)).alloc (.cells (dC dk di df da.toArray D f c2) 28)).heap.size=w.heap.size+2 by simp] at hZ0
 rw[show (w.alloc (.cells (xC ep sA sn sc A1 n1 c1 A2 n2 k2) 25)).heap.size=w.heap.size+1 by simp] at hD0
 have BX:=Jh hS0
 have BD:=Jh hD0
 have BZ:=Jh hZ0
 have BB:=Jh hb0
 have HW:=Jh hs
 have LN:=Jh ln
 have HP:=Jh hp
 have RL:=Jh (RdK.below hs.ls hb0)
 have hsz:w.heap.size+3<=(((w.alloc (.cells (xC ep sA sn sc A1 n1 c1 A2 n2 k2) 25)).alloc (.cells (dC dk di df da.toArray D f c2) 28)).alloc (.cells xZ 25)).heap.size:=by simp
 have hlen:ls.length=sn:=ln.n
 have HN:=Jh hlen
 have HPA:Hid (av.Pairwise fun a b=>a.id<b.id):=hpa
 have HPU:Hid (su.Pairwise fun a b=>a.id<b.id):=hpu
 have hn16:sn<=16:=by rw[<-hlen];exact hll
 have hn64:n1<=64:=by rw[<-show av.length=n1 from ln.n1];exact hla
 have hn65:n2<=64:=by rw[<-show su.length=n2 from ln.n2];exact hlu
 have HPB:=Jh hl
 have HF:=Jh hf
 have RD:=Jh (RdK.below hd hb0)
 clear hb0 hS0 hD0 hZ0 hs ln hp hlen hpa hpu hla hlu hll hl hf hd hr RL
 go_enter Tryz.func16,Tryz.ntmps16
 go_wp2_with fail
 generalize (((w.alloc (.cells (xC ep sA sn sc A1 n1 c1 A2 n2 k2) 25)).alloc (.cells (dC dk di df da.toArray D f c2) 28)).alloc (.cells xZ 25))=w0 at *
 obtain⟨d0,d1,d2,d3,d4,_⟩:=blk5 BD.o
 go_wp2_with fail
 clear d0 d1 d2 d3 d4
 refine (rnorm10_at ⟨dk,di,df,da,fl⟩ D f c2 HF.o hm HPB.o w0 RD.o).mono ?_
 rintro e w1 ⟨⟨ok,oi,of,oa,off⟩,er,B1,m1,d1,rfl,hno,hl1,hd1,hof,hb1⟩
 dsimp only at hl1 hof
 have HNO:=Jh hno
 have HL1:=Jh hl1
 have hsz1:=hb1.size
 have HOF0:=Jh hof
 replace BX:=Jh (Blk.below BX.o hb1 BX.o.lt)
 replace BD:=Jh (Blk.below BD.o hb1 BD.o.lt)
 replace BZ:=Jh (Blk.below BZ.o hb1 BZ.o.lt)
 replace BB:=Jh (below_next BB.o (Jn) hb1)
 clear hno hl1 hof hb1 RD HPB HF
 obtain⟨d0,d1',d2,d3,d4,q0,q1,q2,q3,q4⟩:=blk5 BD.o
 obtain⟨x0,x1,x2,x3,_⟩:=blk4 BX.o
 have hld:=BD.o.lt
 have hne:w.heap.size≠w.heap.size+1:=by omega
 by_cases he:er≠0
 ·have v0:(er != 0)=true:=by simpa using he
  obtain⟨z0,z1,z2,z3,_⟩:=blk4 BZ.o
  have hne2:w.heap.size+2≠w.heap.size+1:=by omega
  have HE:=Jh he
  clear he
  go_wp2_with fail
  refine bodyPost_ret (v:=.tuple #[Sx.v zeroS,.int .i64 er]) (by simp[zeroS,results,Tryz.results16,go_sem,z0,z1,z2,z3]) rfl ?_
  exact doR_bad ⟨_,er,HNO.o,.inl ⟨HE.o,rfl,rfl⟩⟩ HE.o (below_put4 (below_put5 BB.o (by omega) _ _ _ _ _) (by omega) _ _ _ _)
 obtain rfl:er=0:=Classical.byContradiction he
 clear he
 have HOW:=Jh HNO.o.good.1
 go_upto_region 4 with fail
 have BX':=Jh (Blk.far5 BX.o hne (.int .i64 ok) (.int .i64 oi) (.int .i64 of) (.string ⟨oa.toArray⟩) (.slice B1 m1 d1))
 have BZ':=Jh (Blk.far5 BZ.o (show w.heap.size+2≠w.heap.size+1 by omega) (.int .i64 ok) (.int .i64 oi) (.int .i64 of) (.string ⟨oa.toArray⟩) (.slice B1 m1 d1))
 have BD':=Jh (Blk.put5 BD.o (.int .i64 ok) (.int .i64 oi) (.int .i64 of) (.string ⟨oa.toArray⟩) (.slice B1 m1 d1))
 have BB':=Jh (below_put5 BB.o (show w.heap.size<=w.heap.size+1 by omega) (.int .i64 ok) (.int .i64 oi) (.int .i64 of) (.string ⟨oa.toArray⟩) (.slice B1 m1 d1))
 have HOF:=Jh (OwnK.put5 HOF0.o (show w.heap.size+1<w0.heap.size by omega) (.int .i64 ok) (.int .i64 oi) (.int .i64 of) (.string ⟨oa.toArray⟩) (.slice B1 m1 d1))
 have hsz2:w0.heap.size<=(((((w1.setCell ⟨w.heap.size+1,0,none⟩ (.int .i64 ok)).setCell ⟨w.heap.size+1,1,none⟩ (.int .i64 oi)).setCell ⟨w.heap.size+1,2,none⟩ (.int .i64 of)).setCell ⟨w.heap.size+1,3,none⟩ (.string ⟨oa.toArray⟩)).setCell ⟨w.heap.size+1,4,none⟩ (.slice B1 m1 d1)).heap.size:=by simpa using hsz1
 clear d0 d1' d2 d3 d4 q0 q1 q2 q3 q4 x0 x1 x2 x3 hld BX BD BZ BB HOF0
 generalize (((((w1.setCell ⟨w.heap.size+1,0,none⟩ (.int .i64 ok)).setCell ⟨w.heap.size+1,1,none⟩ (.int .i64 oi)).setCell ⟨w.heap.size+1,2,none⟩ (.int .i64 of)).setCell ⟨w.heap.size+1,3,none⟩ (.string ⟨oa.toArray⟩)).setCell ⟨w.heap.size+1,4,none⟩ (.slice B1 m1 d1))=w2 at *
 have BX:=BX'
 have BZ:=BZ'
 have BD:=BD'
 have BB:=BB'
 have RS:=Jh (HW.o.below BB.o)
 have HQP:Hid (∀g,g<w.heap.size->(P g∨(w.heap.size<=g/\g<w.heap.size+3))->P g):=fun g hg h=>h.resolve_right (by omega)
 have HQO:Hid (∀g,w.heap.size+3<=g->¬(P g∨(w.heap.size<=g/\g<w.heap.size+3))):=fun g hg h=>h.elim (fun hp=>by have:=hP g hp;omega) (by omega)
 clear BX' BZ' BD' BB' hsz1
 obtain⟨x0,x1,x2,x3,_⟩:=blk4 BX.o
 obtain⟨z0,z1,z2,z3,_⟩:=blk4 BZ.o
 by_cases h40:ep=1099511627776
 ·subst h40
  go_wp2_with fail
  refine bodyPost_ret (v:=.tuple #[Sx.v zeroS,.int .i64 4]) (by simp[zeroS,results,Tryz.results16,go_sem,z0,z1,z2,z3]) rfl ?_
  exact doR_bad ⟨_,0,HNO.o,.inr (.inl ⟨rfl,Int.le_refl _,rfl,rfl⟩)⟩ (by decide) (below_put4 BB.o (by omega) _ _ _ _)
 have v40:(ep == 1099511627776)=false:=beq_eq_false_iff_ne.2 h40
 have hlt40:ep<1099511627776:=by have:ep<=1099511627776:=hep1;omega
 obtain⟨d0,d1',d2,d3,d4,_⟩:=blk5 BD.o
 go_upto_block 0 with fail
 clear x0 x1 x2 x3 z0 z1 z2 z3 d0 d1' d2 d3 d4 v40 h40
 go_cut [6] from 22 (fun s6 wx=>∃(t:Sx) (e2:Int),s6=.int .i64 e2/\Hid (e2=(change ⟨ep,ls,av.map Ex.en,su.map Ex.en⟩ ⟨ok,oi,of,oa,off⟩).1)/\Hid (e2=0->t.bk=(change ⟨ep,ls,av.map Ex.en,su.map Ex.en⟩ ⟨ok,oi,of,oa,off⟩).2)/\Hid t.Len/\Hid (Firm wx (fun g=>P g∨(w.heap.size<=g/\g<w.heap.size+3)) t)/\Hid (Blk wx w.heap.size 25 (xC t.ep t.A t.n t.c t.A1 t.n1 t.c1 t.A2 t.n2 t.c2))/\Hid (Blk wx (w.heap.size+2) 25 xZ)/\Hid (Below w.heap.size w wx))
 case first=>
  have k1:1<=ok:=HOW.o.1.1
  have k6:ok<=6:=HOW.o.1.2.1
  by_cases h1:ok=1
  ·subst h1
   obtain⟨x0,x1,x2,x3,_⟩:=blk4 BX.o
   obtain⟨d0,d1',d2,d3,d4,_⟩:=blk5 BD.o
   have hlx:=BX.o.lt
   go_wp2_with fail
   clear x0 x1 x2 x3 d0 d1' d2 d3 d4 hlx
   refine (rlnk_at ⟨ep,sA,sn,sc,ls,A1,n1,c1,av,A2,n2,k2,su⟩ LN.o (by show sn<=_;omega) HP.o ⟨1,oi,of,oa,off⟩ B1 m1 d1 w2 RS.o).mono ?_
   rintro e w3 ⟨hres,hb3⟩
   replace BX:=Jh (Blk.below BX.o hb3 BX.o.lt)
   replace BZ:=Jh (Blk.below BZ.o hb3 BZ.o.lt)
   have hsz3:=hb3.size
   replace BB:=Jh (below_next BB.o (Jn) hb3)
   clear hb3
   obtain⟨rr,hrr⟩:∃rr,linkR ls ⟨1,oi,of,oa,off⟩=rr:=⟨_,rfl⟩
   rw[hrr] at hres
   have HC:Hid (change ⟨ep,ls,av.map Ex.en,su.map Ex.en⟩ ⟨1,oi,of,oa,off⟩=(rr.1,⟨ep,rr.2,av.map Ex.en,su.map Ex.en⟩)):=by
    show _=_
    rw[<-hrr];unfold change;rfl
   clear hrr
   obtain⟨x0,x1,x2,x3,y0,y1,y2,y3⟩:=blk4 BX.o
   have hlx:=BX.o.lt
   rcases hres with ⟨he2,rfl⟩|⟨he2,A9,m9,q9,rfl,hl9,hq9,ho9⟩
   ·have HE2:=Jh he2
    clear he2
    go_wp2_with fail
    go_meet
    exact⟨zeroS,rr.1,rfl,by show _=_;rw[HC.o],(fun h=>absurd h HE2.o),(zero_fresh w3 0).len,firm_zero _ _,Blk.put4 BX.o _ _ _ _,Blk.far4 BZ.o (by omega) _ _ _ _,below_put4 BB.o (Jn) _ _ _ _⟩
   ·have HL9:=Jh hl9
    have HO9:=Jh ho9
    have HE2:=Jh he2
    clear he2 hl9 ho9
    go_wp2_with fail
    go_meet
    refine ⟨⟨ep,A9,m9,q9,rr.2,A1,n1,c1,av,A2,n2,k2,su⟩,0,rfl,by show _=_;rw[HC.o,HE2.o],(fun _=>by rw[HC.o]),⟨HL9.o,hq9,LN.o.n1,LN.o.c1,LN.o.n2,LN.o.c2⟩,(fun w9 ha=>?_),Blk.put4 BX.o _ _ _ _,Blk.far4 BZ.o (by omega) _ _ _ _,below_put4 BB.o (Jn) _ _ _ _⟩
    have hold:=HFM.o.old (below_put4 BB.o (Nat.le_refl w.heap.size) _ _ _ _) HQP.o ha
    exact⟨rdk_own (OwnK.agree (OwnK.put4 HO9.o (by omega) _ _ _ _) (fun g hg=>HQO.o g (by omega)) ha),hold.av,hold.su⟩
  have v1:(ok == 1)=false:=beq_eq_false_iff_ne.2 h1
  by_cases h2:ok=2
  ·subst h2
   obtain⟨x0,x1,x2,x3,_⟩:=blk4 BX.o
   obtain⟨d0,d1',d2,d3,d4,_⟩:=blk5 BD.o
   have hlx:=BX.o.lt
   go_wp2_with fail
   clear x0 x1 x2 x3 d0 d1' d2 d3 d4 hlx
   refine (rulk_at ⟨ep,sA,sn,sc,ls,A1,n1,c1,av,A2,n2,k2,su⟩ LN.o (by show sn<=_;omega) (by show n1<=_;omega) (by show n2<=_;omega) HP.o ⟨2,oi,of,oa,off⟩ B1 m1 d1 w2 RS.o).mono ?_
   rintro e w3 ⟨hres,hb3⟩
   replace BX:=Jh (Blk.below BX.o hb3 BX.o.lt)
   replace BZ:=Jh (Blk.below BZ.o hb3 BZ.o.lt)
   have hsz3:=hb3.size
   replace BB:=Jh (below_next BB.o (Jn) hb3)
   clear hb3
   obtain⟨rr,hrr⟩:∃rr,unlinkR ⟨ep,ls,av.map Ex.en,su.map Ex.en⟩ ⟨2,oi,of,oa,off⟩=rr:=⟨_,rfl⟩
   rw[hrr] at hres
   have HC:Hid (change ⟨ep,ls,av.map Ex.en,su.map Ex.en⟩ ⟨2,oi,of,oa,off⟩=(rr.1,⟨ep,rr.2,av.map Ex.en,su.map Ex.en⟩)):=by
    show _=_
    rw[<-hrr];unfold change;rfl
   clear hrr
   obtain⟨x0,x1,x2,x3,y0,y1,y2,y3⟩:=blk4 BX.o
   have hlx:=BX.o.lt
   rcases hres with ⟨he2,rfl⟩|⟨he2,A9,m9,q9,rfl,hl9,hq9,ho9⟩
   ·have HE2:=Jh he2
    clear he2
    go_wp2_with fail
    go_meet
    exact⟨zeroS,rr.1,rfl,by show _=_;rw[HC.o],(fun h=>absurd h HE2.o),(zero_fresh w3 0).len,firm_zero _ _,Blk.put4 BX.o _ _ _ _,Blk.far4 BZ.o (by omega) _ _ _ _,below_put4 BB.o (Jn) _ _ _ _⟩
   ·have HL9:=Jh hl9
    have HO9:=Jh ho9
    have HE2:=Jh he2
    clear he2 hl9 ho9
    go_wp2_with fail
    go_meet
    refine ⟨⟨ep,A9,m9,q9,rr.2,A1,n1,c1,av,A2,n2,k2,su⟩,0,rfl,by show _=_;rw[HC.o,HE2.o],(fun _=>by rw[HC.o]),⟨HL9.o,hq9,LN.o.n1,LN.o.c1,LN.o.n2,LN.o.c2⟩,(fun w9 ha=>?_),Blk.put4 BX.o _ _ _ _,Blk.far4 BZ.o (by omega) _ _ _ _,below_put4 BB.o (Jn) _ _ _ _⟩
    have hold:=HFM.o.old (below_put4 BB.o (Nat.le_refl w.heap.size) _ _ _ _) HQP.o ha
    exact⟨rdk_own (OwnK.agree (OwnK.put4 HO9.o (by omega) _ _ _ _) (fun g hg=>HQO.o g (by omega)) ha),hold.av,hold.su⟩
  have v2:(ok == 2)=false:=beq_eq_false_iff_ne.2 h2
  by_cases h3:ok=3
  ·subst h3
   obtain⟨x0,x1,x2,x3,_⟩:=blk4 BX.o
   obtain⟨d0,d1',d2,d3,d4,_⟩:=blk5 BD.o
   have hlx:=BX.o.lt
   go_wp2_with fail
   clear x0 x1 x2 x3 d0 d1' d2 d3 d4 hlx
   refine (rentry_at ⟨ep,sA,sn,sc,ls,A1,n1,c1,av,A2,n2,k2,su⟩ HN.o (by show sn<=_;omega) A1 av n1 c1 LN.o.c1 LN.o.n1 (by omega) HPA.o ⟨3,oi,of,oa,off⟩ B1 m1 d1 HL1.o hd1 w2 (RS.o).ls (RS.o).av (rdk_own HOF.o)).mono ?_
   rintro e w3 ⟨ys,B,m,k,e2,rfl,hym,hmk,hoy,hsub,he2,hyy,hb3⟩
   replace BX:=Jh (Blk.below BX.o hb3 BX.o.lt)
   replace BZ:=Jh (Blk.below BZ.o hb3 BZ.o.lt)
   have hsz3:=hb3.size
   have HOF2:=Jh (OwnK.below HOF.o hb3)
   replace BB:=Jh (below_next BB.o (Jn) hb3)
   clear hb3
   obtain⟨rr,hrr⟩:∃rr,entR ls (av.map Ex.en) ⟨3,oi,of,oa,off⟩=rr:=⟨_,rfl⟩
   rw[hrr] at he2 hyy
   have HC:Hid (change ⟨ep,ls,av.map Ex.en,su.map Ex.en⟩ ⟨3,oi,of,oa,off⟩=(rr.1,⟨ep,ls,rr.2,su.map Ex.en⟩)):=by
    show _=_
    rw[<-hrr];unfold change entR;rfl
   have HYM:=Jh hym
   have HOY:=Jh hoy
   have HSUB:=Jh hsub
   have HE2:=Jh he2
   have HYY:=Jh hyy
   clear hrr hym hoy hsub he2 hyy
   obtain⟨x0,x1,x2,x3,y0,y1,y2,y3⟩:=blk4 BX.o
   have hlx:=BX.o.lt
   go_wp2_with fail
   go_meet
   refine ⟨⟨ep,sA,sn,sc,ls,B,m,k,ys,A2,n2,k2,su⟩,e2,rfl,by show _=_;rw[HC.o];exact HE2.o,(fun h=>by rw[HC.o,<-HYY.o h]),⟨LN.o.n,LN.o.c,HYM.o,hmk,LN.o.n2,LN.o.c2⟩,(fun w9 ha=>?_),?_,Blk.far BZ.o (p:=⟨w.heap.size,2,none⟩) (by show w.heap.size+2≠w.heap.size;omega) _,below_set BB.o (Jn)⟩
   ·have hold:=HFM.o.old (below_set BB.o (Nat.le_refl w.heap.size)) HQP.o ha
    have HNEW:RdEn w9 B ys:=⟨rdk_own (OwnK.agree (OwnK.set_ HOY.o (by omega) 2 _) (fun g hg=>HQO.o g (by omega)) ha),fun y hy=>by
     rcases HSUB.o y hy with h|rfl
     ·exact hold.av.2 y h
     ·exact⟨HL1.o,hd1,rdk_own (OwnK.agree (OwnK.set_ HOF2.o (by omega) 2 _) (fun g hg=>HQO.o g (by omega)) ha)⟩⟩
    exact⟨hold.ls,HNEW,hold.su⟩
   ·exact Blk.put BX.o 2 _
  have v3:(ok == 3)=false:=beq_eq_false_iff_ne.2 h3
  by_cases h4:ok=4
  ·subst h4
   obtain⟨x0,x1,x2,x3,_⟩:=blk4 BX.o
   obtain⟨d0,d1',d2,d3,d4,_⟩:=blk5 BD.o
   have hlx:=BX.o.lt
   go_wp2_with fail
   clear x0 x1 x2 x3 d0 d1' d2 d3 d4 hlx
   refine (rentry_at ⟨ep,sA,sn,sc,ls,A1,n1,c1,av,A2,n2,k2,su⟩ HN.o (by show sn<=_;omega) A1 av n1 c1 LN.o.c1 LN.o.n1 (by omega) HPA.o ⟨4,oi,of,oa,off⟩ B1 m1 d1 HL1.o hd1 w2 (RS.o).ls (RS.o).av (rdk_own HOF.o)).mono ?_
   rintro e w3 ⟨ys,B,m,k,e2,rfl,hym,hmk,hoy,hsub,he2,hyy,hb3⟩
   replace BX:=Jh (Blk.below BX.o hb3 BX.o.lt)
   replace BZ:=Jh (Blk.below BZ.o hb3 BZ.o.lt)
   have hsz3:=hb3.size
   have HOF2:=Jh (OwnK.below HOF.o hb3)
   replace BB:=Jh (below_next BB.o (Jn) hb3)
   clear hb3
   obtain⟨rr,hrr⟩:∃rr,entR ls (av.map Ex.en) ⟨4,oi,of,oa,off⟩=rr:=⟨_,rfl⟩
   rw[hrr] at he2 hyy
   have HC:Hid (change ⟨ep,ls,av.map Ex.en,su.map Ex.en⟩ ⟨4,oi,of,oa,off⟩=(rr.1,⟨ep,ls,rr.2,su.map Ex.en⟩)):=by
    show _=_
    rw[<-hrr];unfold change entR;rfl
   have HYM:=Jh hym
   have HOY:=Jh hoy
   have HSUB:=Jh hsub
   have HE2:=Jh he2
   have HYY:=Jh hyy
   clear hrr hym hoy hsub he2 hyy
   obtain⟨x0,x1,x2,x3,y0,y1,y2,y3⟩:=blk4 BX.o
   have hlx:=BX.o.lt
   go_wp2_with fail
   go_meet
   refine ⟨⟨ep,sA,sn,sc,ls,B,m,k,ys,A2,n2,k2,su⟩,e2,rfl,by show _=_;rw[HC.o];exact HE2.o,(fun h=>by rw[HC.o,<-HYY.o h]),⟨LN.o.n,LN.o.c,HYM.o,hmk,LN.o.n2,LN.o.c2⟩,(fun w9 ha=>?_),?_,Blk.far BZ.o (p:=⟨w.heap.size,2,none⟩) (by show w.heap.size+2≠w.heap.size;omega) _,below_set BB.o (Jn)⟩
   ·have hold:=HFM.o.old (below_set BB.o (Nat.le_refl w.heap.size)) HQP.o ha
    have HNEW:RdEn w9 B ys:=⟨rdk_own (OwnK.agree (OwnK.set_ HOY.o (by omega) 2 _) (fun g hg=>HQO.o g (by omega)) ha),fun y hy=>by
     rcases HSUB.o y hy with h|rfl
     ·exact hold.av.2 y h
     ·exact⟨HL1.o,hd1,rdk_own (OwnK.agree (OwnK.set_ HOF2.o (by omega) 2 _) (fun g hg=>HQO.o g (by omega)) ha)⟩⟩
    exact⟨hold.ls,HNEW,hold.su⟩
   ·exact Blk.put BX.o 2 _
  have v4:(ok == 4)=false:=beq_eq_false_iff_ne.2 h4
  have h56:ok=5∨ok=6:=by omega
  clear k1 k6
  obtain⟨x0,x1,x2,x3,_⟩:=blk4 BX.o
  obtain⟨d0,d1',d2,d3,d4,_⟩:=blk5 BD.o
  have hlx:=BX.o.lt
  go_wp2_with fail
  clear x0 x1 x2 x3 d0 d1' d2 d3 d4 hlx
  refine (rentry_at ⟨ep,sA,sn,sc,ls,A1,n1,c1,av,A2,n2,k2,su⟩ HN.o (by show sn<=_;omega) A2 su n2 k2 LN.o.c2 LN.o.n2 (by omega) HPU.o ⟨ok,oi,of,oa,off⟩ B1 m1 d1 HL1.o hd1 w2 (RS.o).ls (RS.o).su (rdk_own HOF.o)).mono ?_
  rintro e w3 ⟨ys,B,m,k,e2,rfl,hym,hmk,hoy,hsub,he2,hyy,hb3⟩
  replace BX:=Jh (Blk.below BX.o hb3 BX.o.lt)
  replace BZ:=Jh (Blk.below BZ.o hb3 BZ.o.lt)
  have hsz3:=hb3.size
  have HOF2:=Jh (OwnK.below HOF.o hb3)
  replace BB:=Jh (below_next BB.o (Jn) hb3)
  clear hb3
  obtain⟨rr,hrr⟩:∃rr,entR ls (su.map Ex.en) ⟨ok,oi,of,oa,off⟩=rr:=⟨_,rfl⟩
  rw[hrr] at he2 hyy
  have HC:Hid (change ⟨ep,ls,av.map Ex.en,su.map Ex.en⟩ ⟨ok,oi,of,oa,off⟩=(rr.1,⟨ep,ls,av.map Ex.en,rr.2⟩)):=by
   show _=_
   rw[<-hrr];unfold change entR;rcases h56 with rfl | rfl<;>rfl
  have HYM:=Jh hym
  have HOY:=Jh hoy
  have HSUB:=Jh hsub
  have HE2:=Jh he2
  have HYY:=Jh hyy
  clear hrr hym hoy hsub he2 hyy
  obtain⟨x0,x1,x2,x3,y0,y1,y2,y3⟩:=blk4 BX.o
  have hlx:=BX.o.lt
  go_wp2_with fail
  go_meet
  refine ⟨⟨ep,sA,sn,sc,ls,A1,n1,c1,av,B,m,k,ys⟩,e2,rfl,by show _=_;rw[HC.o];exact HE2.o,(fun h=>by rw[HC.o,<-HYY.o h]),⟨LN.o.n,LN.o.c,LN.o.n1,LN.o.c1,HYM.o,hmk⟩,(fun w9 ha=>?_),?_,Blk.far BZ.o (p:=⟨w.heap.size,3,none⟩) (by show w.heap.size+2≠w.heap.size;omega) _,below_set BB.o (Jn)⟩
  ·have hold:=HFM.o.old (below_set BB.o (Nat.le_refl w.heap.size)) HQP.o ha
   have HNEW:RdEn w9 B ys:=⟨rdk_own (OwnK.agree (OwnK.set_ HOY.o (by omega) 3 _) (fun g hg=>HQO.o g (by omega)) ha),fun y hy=>by
    rcases HSUB.o y hy with h|rfl
    ·exact hold.su.2 y h
    ·exact⟨HL1.o,hd1,rdk_own (OwnK.agree (OwnK.set_ HOF2.o (by omega) 3 _) (fun g hg=>HQO.o g (by omega)) ha)⟩⟩
   exact⟨hold.ls,hold.av,HNEW⟩
  ·exact Blk.put BX.o 3 _
 case rest=>
  obtain⟨t,e2,rfl,HE2,HTB,HTL,HTR,BX,BZ,BB⟩:=hcut
  obtain⟨x0,x1,x2,x3,y0,y1,y2,y3⟩:=blk4 BX.o
  obtain⟨z0,z1,z2,z3,_⟩:=blk4 BZ.o
  have hlx:=BX.o.lt
  have hlz:=BZ.o.lt
  by_cases h0:e2=0
  ·subst h0
   have HE0:Hid ((change ⟨ep,ls,av.map Ex.en,su.map Ex.en⟩ ⟨ok,oi,of,oa,off⟩).1=0):=HE2.o.symm
   have HTB0:Hid (t.bk=(change ⟨ep,ls,av.map Ex.en,su.map Ex.en⟩ ⟨ok,oi,of,oa,off⟩).2):=HTB.o rfl
   have hte:t.ep=ep:=by
    have:=congrArg Bk.ep HTB0.o
    rw[change_ep] at this
    exact this
   have hw1:IntKind.i64.wrap (ep+1)=ep+1:=by rw[IntKind.wrap_i64];omega
   go_wp2_with fail
   refine bodyPost_ret (v:=.tuple #[Sx.v { t with ep:=ep+1 },.int .i64 0]) (by simp[results,Tryz.results16,go_sem,z0,z1,z2,z3]) rfl ?_
   refine ⟨{ t with ep:=ep+1 },0,{ (change ⟨ep,ls,av.map Ex.en,su.map Ex.en⟩ ⟨ok,oi,of,oa,off⟩).2 with ep:=ep+1 },rfl,⟨_,0,HNO.o,.inr (.inr (.inr ⟨rfl,hlt40,HE0.o,rfl,rfl⟩))⟩,?_,⟨HTL.o.n,HTL.o.c,HTL.o.n1,HTL.o.c1,HTL.o.n2,HTL.o.c2⟩,?_,below_put4 (below_set BB.o (Jn)) (by omega) _ _ _ _⟩
   ·rw[if_pos rfl,<-HTB0.o]
   ·have h:=HTR.o.step (P:=P) (((Agree.refl _ wc).set_ (.inr ⟨Jn,by omega⟩) 0 (.int .i64 (ep+1))).put4 (b:=w.heap.size+2) (.inr ⟨by omega,by omega⟩) (.int .i64 (ep+1)) (.slice t.A t.n t.c) (.slice t.A1 t.n1 t.c1) (.slice t.A2 t.n2 t.c2)) fun g h=>.inl h
    exact fun w9 ha=>⟨(h w9 ha).ls,(h w9 ha).av,(h w9 ha).su⟩
  ·have v0:(e2 != 0)=true:=by simpa using h0
   have HN0:=Jh h0
   clear h0
   go_wp2_with fail
   refine bodyPost_ret (v:=.tuple #[Sx.v zeroS,.int .i64 e2]) (by simp[zeroS,results,Tryz.results16,go_sem,z0,z1,z2,z3]) rfl ?_
   exact doR_bad ⟨_,0,HNO.o,.inr (.inr (.inl ⟨rfl,hlt40,by rw[<-HE2.o];exact HN0.o,rfl,HE2.o⟩))⟩ HN0.o (below_put4 BB.o (by omega) _ _ _ _)
end
end Go.Proofs.YtnfigjggjmncdaaGreat
