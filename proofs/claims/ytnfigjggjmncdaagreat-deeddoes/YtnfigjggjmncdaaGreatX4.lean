/- Contracts. -/
import Derived.Test.YtnfigjggjmncdaaGreatT2
import Derived.Test.YtnfigjggjmncdaaGreatX1
import Derived.Test.YtnfigjggjmncdaaGreatX2
import Derived.Test.YtnfigjggjmncdaaGreatX3
set_option maxRecDepth 100000
set_option maxHeartbeats 4000000
namespace Go.Proofs.YtnfigjggjmncdaaGreat
section
open Go.RowKit Go.Sort Spans Tb Dm
def Sx.Sep (s:Sx):Prop:=∀k,(Value.slice s.A1 s.n1 s.c1).ownBlock=some k->(Value.slice s.A2 s.n2 s.c2).ownBlock≠some k
theorem gx5 {w:World} {g:Nat} {t:TypeId} {a b c d e:Value} (hB:Blk w g t #[a,b,c,d,e]):(∀n os,(gx w n os).cell? ⟨g,0,none⟩=some a)/\(∀n os,(gx w n os).cell? ⟨g,1,none⟩=some b)/\(∀n os,(gx w n os).cell? ⟨g,2,none⟩=some c)/\(∀n os,(gx w n os).cell? ⟨g,3,none⟩=some d)/\(∀n os,(gx w n os).cell? ⟨g,4,none⟩=some e):=
 ⟨gx_cell (hB.cell 0),gx_cell (hB.cell 1),gx_cell (hB.cell 2),gx_cell (hB.cell 3),gx_cell (hB.cell 4)⟩
structure EdS (w:World) (g base:Nat) (s:Sx):Prop where
 blk:Blk w g 75 (xC s.ep s.A s.n s.c s.A1 s.n1 s.c1 s.A2 s.n2 s.c2)
 own:s.Own w base
 len:s.Len
 sep:s.Sep
 le:base<=g
theorem EdS.below {w w':World} {g base:Nat} {s:Sx} (h:EdS w g base s) (hb:Below w.heap.size w w'):EdS w' g base s:=⟨h.blk.below hb h.blk.lt,h.own.below hb,h.len,h.sep,h.le⟩
theorem own_ne {α:Type} {L:Lay α} {w:World} {base g:Nat} {v:Value} {es:List α} {t:TypeId} {cs:Array Value} (h:OwnK L w base v es) (hB:Blk w g t cs) (ht:t≠L.T):v.ownBlock≠some g:=by
 rcases h.2 with ⟨rfl,_⟩|⟨g',cap,cur,rfl,_,hg,_⟩
 ·simp[Value.ownBlock]
 ·intro e
  simp[Value.ownBlock] at e
  subst e
  have:=hg.symm.trans hB
  injection this with this
  injection this with _ h2 _
  exact ht h2.symm
theorem OwnK.far {α:Type} {L:Lay α} {w:World} {base g:Nat} {v:Value} {es:List α} {t:TypeId} {cs:Array Value} (h:OwnK L w base v es) (hB:Blk w g t cs) (ht:t≠L.T) (j:Nat) (u:Value):OwnK L (w.setCell ⟨g,j,none⟩ u) base v es:=
 World.ownsRow.kept h ((Touch.refl g w).set_ j u).own (.inr (own_ne h hB ht))
theorem FltO.far {w:World} {base g:Nat} {x:Ex} {cs:Array Value} (h:FltO w base x) (hB:Blk w g 75 cs) (j:Nat) (u:Value):FltO (w.setCell ⟨g,j,none⟩ u) base x:=⟨h.1,h.2.1,h.2.2.far hB (by decide) j u⟩
theorem Sx.Own.far {w:World} {base g:Nat} {s:Sx} {cs:Array Value} (h:s.Own w base) (hB:Blk w g 75 cs) (j:Nat) (u:Value):s.Own (w.setCell ⟨g,j,none⟩ u) base:=
 ⟨h.ls.far hB (by decide) j u,⟨h.av.1.far hB (by decide) j u,fun x hx=>(h.av.2 x hx).far hB j u⟩,⟨h.su.1.far hB (by decide) j u,fun x hx=>(h.su.2 x hx).far hB j u⟩⟩
theorem own_apart {w w':World} {base:Nat} {v u:Value} {ys:List Ex} (h:OwnK layE w base u ys) (hs:∀k,v.ownBlock=some k->u.ownBlock≠some k) (hg:w.grownBy w' v.ownBlock):OwnK layE w' base u ys:=by
 refine World.ownsRow.kept h hg ?_
 cases hu:u.ownBlock with
 | none=>exact .inl rfl
 | some k=>exact .inr fun e=>hs k e.symm hu
theorem EdS.put_links {w w':World} {g base:Nat} {s:Sx} (h:EdS w g base s) (hg:w.grownBy w' (Value.slice s.A s.n s.c).ownBlock) {A:OA} {n c:Nat} {ls:List Lk} (ho:OwnK layL w' base (.slice A n c) ls) (hn:ls.length=n) (hc:n<=c):EdS (w'.setCell ⟨g,1,none⟩ (.slice A n c)) g base { s with A:=A,n:=n,c:=c,ls:=ls }:=by
 have hB:Blk w' g 75 (xC s.ep s.A s.n s.c s.A1 s.n1 s.c1 s.A2 s.n2 s.c2):=(hg.block g h.blk.lt (fun e=>own_ne h.own.ls h.blk (by decide) e.symm)).trans h.blk
 have h2:Sx.Own w' base { s with A:=A,n:=n,c:=c,ls:=ls }:=⟨ho,⟨own_other (by decide) h.own.av.1 h.own.ls hg,fun x hx=>⟨(h.own.av.2 x hx).1,(h.own.av.2 x hx).2.1,own_other (by decide) (h.own.av.2 x hx).2.2 h.own.ls hg⟩⟩,⟨own_other (by decide) h.own.su.1 h.own.ls hg,fun x hx=>⟨(h.own.su.2 x hx).1,(h.own.su.2 x hx).2.1,own_other (by decide) (h.own.su.2 x hx).2.2 h.own.ls hg⟩⟩⟩
 exact⟨hB.put 1 _,h2.far hB 1 _,⟨hn,hc,h.len.n1,h.len.c1,h.len.n2,h.len.c2⟩,h.sep,h.le⟩
theorem EdS.blk_row {α:Type} {L:Lay α} {w w':World} {g base b2:Nat} {s:Sx} {v:Value} {es:List α} (h:EdS w g base s) (ho:OwnK L w b2 v es) (ht:75≠L.T) (hg:w.grownBy w' v.ownBlock):Blk w' g 75 (xC s.ep s.A s.n s.c s.A1 s.n1 s.c1 s.A2 s.n2 s.c2):=(hg.block g h.blk.lt (fun e=>own_ne ho h.blk ht e.symm)).trans h.blk
theorem EdS.same_links {w w':World} {g base:Nat} {s:Sx} (h:EdS w g base s) (hg:w.grownBy w' (Value.slice s.A s.n s.c).ownBlock) {ls:List Lk} (ho:OwnK layL w' base (.slice s.A s.n s.c) ls) (hn:ls.length=s.n):EdS w' g base { s with ls:=ls }:=
 ⟨h.blk_row h.own.ls (by decide) hg,⟨ho,⟨own_other (by decide) h.own.av.1 h.own.ls hg,fun x hx=>⟨(h.own.av.2 x hx).1,(h.own.av.2 x hx).2.1,own_other (by decide) (h.own.av.2 x hx).2.2 h.own.ls hg⟩⟩,⟨own_other (by decide) h.own.su.1 h.own.ls hg,fun x hx=>⟨(h.own.su.2 x hx).1,(h.own.su.2 x hx).2.1,own_other (by decide) (h.own.su.2 x hx).2.2 h.own.ls hg⟩⟩⟩,⟨hn,h.len.c,h.len.n1,h.len.c1,h.len.n2,h.len.c2⟩,h.sep,h.le⟩
theorem own_old {α:Type} {L:Lay α} {w:World} {base:Nat} {A:OA} {n c:Nat} {es:List α} (h:OwnK L w base (.slice A n c) es):∀a,A=some a->a.block<w.heap.size:=by
 rintro a rfl
 rcases liek_of_own h with ⟨h1,_⟩|⟨g,cap,sp,h1,_,_,_,h5,_⟩
 ·injection h1 with h1;cases h1
 ·injection h1 with h1
  injection h1 with h1
  rw[h1];exact Blk.lt h5
theorem grown_blk {α:Type} {L:Lay α} {w w':World} {base g:Nat} {t:TypeId} {cs:Array Value} {v:Value} {es:List α} (hB:Blk w g t cs) (ho:OwnK L w base v es) (ht:t≠L.T) (hg:w.grownBy w' v.ownBlock):Blk w' g t cs:=(hg.block g hB.lt (fun e=>own_ne ho hB ht e.symm)).trans hB
def Row (s:Sx) (j:Nat) (A:OA) (n c:Nat) (xs:List Ex):Prop:=(j=2/\A=s.A1/\n=s.n1/\c=s.c1/\xs=s.av)∨(j=3/\A=s.A2/\n=s.n2/\c=s.c2/\xs=s.su)
theorem Row.own {w:World} {base:Nat} {s:Sx} {j:Nat} {A:OA} {n c:Nat} {xs:List Ex} (h:Row s j A n c xs) (ho:s.Own w base):OwnEn w base (.slice A n c) xs:=by
 rcases h with ⟨_,rfl,rfl,rfl,rfl⟩|⟨_,rfl,rfl,rfl,rfl⟩
 ·exact ho.av
 ·exact ho.su
theorem Row.len {s:Sx} {j:Nat} {A:OA} {n c:Nat} {xs:List Ex} (h:Row s j A n c xs) (hl:s.Len):xs.length=n/\n<=c:=by
 rcases h with ⟨_,rfl,rfl,rfl,rfl⟩|⟨_,rfl,rfl,rfl,rfl⟩
 ·exact⟨hl.n1,hl.c1⟩
 ·exact⟨hl.n2,hl.c2⟩
theorem Row.cell {w:World} {g:Nat} {s:Sx} {j:Nat} {A:OA} {n c:Nat} {xs:List Ex} (h:Row s j A n c xs) (hB:Blk w g 75 (xC s.ep s.A s.n s.c s.A1 s.n1 s.c1 s.A2 s.n2 s.c2)):w.cell? ⟨g,j,none⟩=some (.slice A n c):=by
 rcases h with ⟨rfl,rfl,rfl,rfl,rfl⟩|⟨rfl,rfl,rfl,rfl,rfl⟩
 ·exact hB.cell 2
 ·exact hB.cell 3
theorem EdS.put_row {w w':World} {g base:Nat} {s:Sx} (h:EdS w g base s) {j:Nat} {A:OA} {n c:Nat} {xs:List Ex} (hj:Row s j A n c xs) (hg:w.grownBy w' (Value.slice A n c).ownBlock) {A':OA} {n' c':Nat} {ys:List Ex} (ho:OwnK layE w' base (.slice A' n' c') ys) (hf:∀x∈ys,FltO w' base x) (hn:ys.length=n') (hc:n'<=c')
  (hs:(Value.slice A' n' c').ownBlock=(Value.slice A n c).ownBlock∨∃b,(Value.slice A' n' c').ownBlock=some b/\w.heap.size<=b):
  ∃s',EdS (w'.setCell ⟨g,j,none⟩ (.slice A' n' c')) g base s'/\s'.ep=s.ep/\s'.ls=s.ls/\((j=2/\s'.av=ys/\s'.su=s.su)∨(j=3/\s'.av=s.av/\s'.su=ys)):=by
 have hor:=hj.own h.own
 have hB:Blk w' g 75 (xC s.ep s.A s.n s.c s.A1 s.n1 s.c1 s.A2 s.n2 s.c2):=(hg.block g h.blk.lt (fun e=>own_ne hor.1 h.blk (by decide) e.symm)).trans h.blk
 have hls:=own_other (by decide) h.own.ls hor.1 hg
 rcases hj with ⟨rfl,rfl,rfl,rfl,rfl⟩|⟨rfl,rfl,rfl,rfl,rfl⟩
 ·refine ⟨{ s with A1:=A',n1:=n',c1:=c',av:=ys },⟨hB.put 2 _,Sx.Own.far (s:={ s with A1:=A',n1:=n',c1:=c',av:=ys }) ⟨hls,⟨ho,hf⟩,⟨own_apart h.own.su.1 h.sep hg,fun x hx=>flt_other (h.own.su.2 x hx) hor.1 hg⟩⟩ hB 2 _,⟨h.len.n,h.len.c,hn,hc,h.len.n2,h.len.c2⟩,?_,h.le⟩,rfl,rfl,.inl ⟨rfl,rfl,rfl⟩⟩
  intro k hk e
  rcases hs with hs|⟨b,hs,hb⟩
  ·exact h.sep k (by rw[<-hs];exact hk) e
  ·have:=(h.own.su.1.lt k e).2
   have hk2:some k=some b:=hk.symm.trans hs
   injection hk2 with hk2
   omega
 ·refine ⟨{ s with A2:=A',n2:=n',c2:=c',su:=ys },⟨hB.put 3 _,Sx.Own.far (s:={ s with A2:=A',n2:=n',c2:=c',su:=ys }) ⟨hls,⟨own_apart h.own.av.1 (fun k hk e=>h.sep k e hk) hg,fun x hx=>flt_other (h.own.av.2 x hx) hor.1 hg⟩,⟨ho,hf⟩⟩ hB 3 _,⟨h.len.n,h.len.c,h.len.n1,h.len.c1,hn,hc⟩,?_,h.le⟩,rfl,rfl,.inr ⟨rfl,rfl,rfl⟩⟩
  intro k hk e
  rcases hs with hs|⟨b,hs,hb⟩
  ·exact h.sep k hk (by rw[<-hs];exact e)
  ·have:=(h.own.av.1.lt k hk).2
   have hk2:some k=some b:=e.symm.trans hs
   injection hk2 with hk2
   omega
theorem below_row {w0 w w':World} {base:Nat} {L:Type} {M:Lay L} {v:Value} {es:List L} (hb:Below base w0 w) (hg:w.grownBy w' v.ownBlock) (ho:OwnK M w base v es) (hs:base<=w.heap.size):Below base w0 w':=hb.grown hg hs ho.base_le
def Changed (w:World) (g base:Nat) (r:Int × Bk) (e:Ending) (w':World):Prop:=∃s',EdS w' g base s'/\e=.returned (.int .i64 r.1)/\s'.bk=r.2/\Below base w w'
theorem entries_at (g:Nat) (k:Int) (w:World) (j:Nat) (hj:(if k=3∨k=4 then 2 else 3)=j):Calls Tryz.prog 132 #[.pointer (some ⟨g,0,none⟩),.int .i64 k] w fun e w'=>e=.returned (.pointer (some ⟨g,j,none⟩))/\w'=w:=by
 subst hj
 by_cases h3:k=3
 ·subst h3
  go_enter Tryz.func132,Tryz.ntmps132
  go_wp2_with fail
  go_ret
  exact⟨rfl,rfl⟩
 ·have d3:(k == 3)=false:=beq_eq_false_iff_ne.2 h3
  by_cases h4:k=4
  ·subst h4
   go_enter Tryz.func132,Tryz.ntmps132
   go_wp2_with fail
   go_ret
   exact⟨rfl,rfl⟩
  ·have d4:(k == 4)=false:=beq_eq_false_iff_ne.2 h4
   rw[if_neg (by omega)]
   go_enter Tryz.func132,Tryz.ntmps132
   go_wp2_with fail
   go_ret
   exact⟨rfl,rfl⟩
theorem flat_setL (ad:LU) (sp:List Value):∀(ls:List Lk) (i:Nat) (h:i<ls.length),(ls.flatMap layL.enc++sp).set (i*2+1) (.string ⟨ad.toArray⟩)=(ls.set i ⟨ls[i].id,ad⟩).flatMap layL.enc++sp
 | [],_,h=>by simp at h
 | y::r,0,_=>by simp[layL,cellsL]
 | y::r,i+1,h=>by
  have ih:=flat_setL ad sp r i (by simpa using h)
  rw[show (i+1)*2+1=i*2+1+1+1 by omega]
  simp only[List.flatMap_cons,layL,cellsL,List.cons_append,List.nil_append,List.set_cons_succ,List.getElem_cons_succ] at ih ⊢
  rw[ih]
theorem LieK.setL {w:World} {g:Nat} {ls:List Lk} {sp:List Value} (h:LieK layL w g ls sp) {i:Nat} (hi:i<ls.length) (ad:LU):LieK layL (w.setCell ⟨g,i*2+1,none⟩ (.string ⟨ad.toArray⟩)) g (ls.set i ⟨ls[i].id,ad⟩) sp:=by
 have h3:=Blk.put h (i*2+1) (.string ⟨ad.toArray⟩)
 unfold LieK
 rw[<-flat_setL ad sp ls i hi]
 simpa using h3
theorem right_links {s:Sx} (hr:Tb.Right s.bk) (hl:s.Len):s.n<=16/\s.ls.Pairwise (fun a b=>a.id<b.id):=⟨by rw[<-hl.n];exact hr.ls.1,pw hr.ls.2.1⟩
theorem right_row {s:Sx} {j:Nat} {A:OA} {n c:Nat} {xs:List Ex} (hj:Row s j A n c xs) (hr:Tb.Right s.bk) (hl:s.Len):n<=64/\xs.Pairwise (fun a b=>a.id<b.id):=by
 rcases hj with ⟨_,rfl,rfl,rfl,rfl⟩|⟨_,rfl,rfl,rfl,rfl⟩
 ·have h1:=hr.av.1
  have h2:=pw hr.av.2.1
  refine ⟨by rw[<-hl.n1];simpa using h1,?_⟩
  have h2':(s.av.map Ex.en).Pairwise _:=h2
  rwa [List.pairwise_map] at h2'
 ·have h1:=hr.su.1
  have h2:=pw hr.su.2.1
  refine ⟨by rw[<-hl.n2];simpa using h1,?_⟩
  have h2':(s.su.map Ex.en).Pairwise _:=h2
  rwa [List.pairwise_map] at h2'
theorem elink_at (g base:Nat) (s:Sx) (dk di df:Int) (da:LU) (f:List Pr) (A:OA) (n c:Nat) (w:World) (hE:EdS w g base s) (hr:Tb.Right s.bk) (hk:dk=1):
  Calls Tryz.prog 95 #[.pointer (some ⟨g,0,none⟩),.agg (dC dk di df da.toArray A n c)] w (Changed w g base (change s.bk ⟨dk,di,df,da,f⟩)):=by
 have hb0:=(gr1 w (.cells (dC dk di df da.toArray A n c) 28)).below
 have HE:=Jh (hE.below hb0)
 have hsz0:base<=w.heap.size:=Nat.le_trans hE.le (Nat.le_of_lt hE.blk.lt)
 have HB:=Jh (hb0.mono hsz0)
 have HX:=Jh (Blk.new w 28 (dC dk di df da.toArray A n c))
 have HRT:=Jh hr
 have HK:=Jh hk
 clear hk
 clear hb0 hE hr hsz0
 go_enter Tryz.func95,Tryz.ntmps95
 go_wp2_with fail
 generalize w.alloc (.cells (dC dk di df da.toArray A n c) 28)=w0 at *
 generalize w.heap.size=bx at *
 obtain⟨hn16,hpw⟩:=right_links HRT.o HE.o.len
 obtain⟨p,hp⟩:∃p,place (fun x:Lk=>x.id) s.ls di=p:=⟨_,rfl⟩
 obtain⟨q,hq⟩:∃q,decide (∃x∈s.ls,x.id=di)=q:=⟨_,rfl⟩
 have HP:=Jh hp
 have HPW:=Jh hpw
 have C1:=Jh (fun n os=>placeL_at s.A s.ls s.n s.c di HE.o.len.n (by omega) hpw (gx w0 n os) (rdk_own (HE.o.own.ls.below (below_gx w0 n os))) p hp q hq)
 have HQ1:Hid (q=true↔Linked s.ls di):=by
  show _↔_
  rw[<-hq,decide_eq_true_iff];rfl
 clear hp hq hpw
 obtain⟨e0,e1,e2,e3⟩:=gx4 HE.o.blk
 obtain⟨x0,x1,x2,x3,x4⟩:=gx5 HX.o
 refine qbr (fun nq osq=>?_) (hq:=by (repeat (refine hq_step (fun K hK=>?_);go_simp;first | (refine hK _ ?_;clear hK K) | (apply Exists.intro;refine ⟨fun _=>?_,hK _ ?_⟩;(go_at_call 128;with_reducible exact calls_gx (C1.o _ _));clear hK K)));exact hq_nil rfl)
 have hb:=below_gx w0 nq osq
 clear e0 e1 e2 e3 x0 x1 x2 x3 x4
 generalize gx w0 nq osq=w1 at *
 have hszq:base<=w0.heap.size:=Nat.le_trans HE.o.le (Nat.le_of_lt HE.o.blk.lt)
 replace HE:=Jh (HE.o.below hb)
 replace HX:=Jh (HX.o.below hb HX.o.lt)
 replace HB:=Jh (HB.o.trans (hb.mono hszq))
 clear hszq
 clear hb
 clear C1
 have HCH:Hid (∀r,linkR s.ls ⟨dk,di,df,da,f⟩=r->change s.bk ⟨dk,di,df,da,f⟩=(r.1,{ s.bk with ls:=r.2 })):=fun r h=>by unfold change;rw[if_pos HK.o];dsimp only;rw[h]
 cases q with
 | true=>
  have hb:Below w1.heap.size w1 w1.drew:=(Below.refl _ _).drew
  have hszq:base<=w1.heap.size:=Nat.le_trans HE.o.le (Nat.le_of_lt HE.o.blk.lt)
  replace HE:=Jh (HE.o.below hb)
  replace HX:=Jh (HX.o.below hb HX.o.lt)
  replace HB:=Jh (HB.o.trans (hb.mono hszq))
  clear hszq
  clear hb
  have HL:Hid (Linked s.ls di):=HQ1.o.1 rfl
  go_wp2_with fail
  have hS0:Blk w1.drew bx 28 (dC dk di df da.toArray A n c):=HX.o
  refine wp_region_held_drew (S:=fun w'=>Blk w' bx 28 (dC dk di df da.toArray A n c)) (by kernel_rfl) hS0 (fun _=>?_)
  generalize w1.drew=wd at *
  obtain⟨hpk,hpe⟩:=(place_has (g:=fun x:Lk=>x.id) HPW.o).1 HL.o
  simp only[HP.o] at hpk hpe
  have hpn:p<s.n:=by rw[<-HE.o.len.n];exact hpk
  obtain⟨gl,cap,sp,hv,hbg,hcc,hcm,hlie,hls⟩:∃g cap sp,Value.slice s.A s.n s.c=.slice (some ⟨g,0,none⟩) s.ls.length cap/\base<=g/\s.ls.length<=cap/\cap<=maxLen/\LieK layL wd g s.ls sp/\s.ls.length*layL.k+sp.length=cap*layL.k:=by
   rcases liek_of_own HE.o.own.ls with ⟨_,h2⟩|h
   ·rw[h2] at hpk;simp at hpk
   ·exact h
  injection hv with ev1 ev2 ev3
  have hset:=hlie.setL hpk da
  rw[show (⟨s.ls[p].id,da⟩:Lk)=⟨di,da⟩ by rw[hpe]] at hset
  have HOL:Hid (OwnK layL (wd.setCell ⟨gl,p*2+1,none⟩ (.string ⟨da.toArray⟩)) base (.slice s.A s.n s.c) (s.ls.set p ⟨di,da⟩)):=by
   show OwnK _ _ _ _ _
   rw[ev1,ev3]
   exact own_of_liek hset hbg (by rw[List.length_set];exact hcc) hcm (by rw[List.length_set];exact hls) (by rw[List.length_set];exact HE.o.len.n)
  have HGL:Hid (wd.grownBy (wd.setCell ⟨gl,p*2+1,none⟩ (.string ⟨da.toArray⟩)) (Value.slice s.A s.n s.c).ownBlock):=by show World.grownBy _ _ _;rw[ev1];exact ((Touch.refl gl wd).set_ _ _).own
  have hglne:gl≠g:=fun e=>own_ne HE.o.own.ls HE.o.blk (by decide) (by rw[ev1,e];rfl)
  have hbxl:bx≠gl:=fun e=>own_ne HE.o.own.ls HX.o (by decide) (by rw[ev1,e];rfl)
  have l1:wd.cell? ⟨gl,p*2+1,none⟩=some (.string ⟨s.ls[p].ad.toArray⟩):=by
   obtain⟨g2,off,hh,_,_,c1⟩:=RdLk.at2 (hlie.rd) hpk
   injection hh with hh
   injection hh with h1 h2
   subst h1 h2
   rw[Nat.zero_add] at c1
   exact c1
  have l2:=Blk.frozen hlie (p*2+1)
  obtain⟨_,e1,_⟩:=blk4 HE.o.blk
  rw[ev1] at e1
  have hpi:(p:Int)<(s.n:Int):=by omega
  have hp0:(0:Int)<=(p:Int):=by omega
  clear hlie hls hcc hcm hset ev2 ev3
  refine Jz 0 hS0 ?_
  refine Jz 1 hS0 ?_
  refine Jz 2 hS0 ?_
  refine Jz 3 hS0 ?_
  refine Jz 5 hS0 ?_
  refine Jz 6 hS0 ?_
  refine Jz 7 hS0 ?_
  refine Je 4 (fun Kc hKo=>?_)
  go_simp
  refine hKo.o _ _ hS0 ?_
  clear hKo
  refine Jz 8 hS0 ?_
  refine Jz 9 hS0 ?_
  refine Je 10 (fun Kc hKo=>?_)
  go_simp
  refine hKo.o _ _ (Blk.far hS0 (p:=⟨gl,p*2+1,none⟩) hbxl _) ?_
  clear hKo
  refine Jd ?_
  go_wp2_with fail
  go_ret
  have HR:linkR s.ls ⟨dk,di,df,da,f⟩=(0,s.ls.set p ⟨di,da⟩):=by unfold linkR;rw[if_pos HL.o,show place Lk.id s.ls di=p from HP.o]
  have hz:=HCH.o _ HR
  exact⟨{ s with ls:=s.ls.set p ⟨di,da⟩ },HE.o.same_links HGL.o HOL.o (by rw[List.length_set];exact HE.o.len.n),by rw[hz];rfl,by rw[hz],below_set HB.o hbg⟩
 | false=>
  have HL:Hid (¬Linked s.ls di):=fun h=>by have:=HQ1.o.2 h;cases this
  obtain⟨_,e1,_⟩:=blk4 HE.o.blk
  by_cases h16:16<=s.n
  ·have d16:decide ((16:Int)<=(s.n:Int))=true:=decide_eq_true (by omega)
   have HR0:linkR s.ls ⟨dk,di,df,da,f⟩=(4,s.ls):=by unfold linkR;rw[if_neg HL.o,if_pos (by rw[HE.o.len.n];exact h16)]
   have HR:Hid (change s.bk ⟨dk,di,df,da,f⟩=(4,s.bk)):=HCH.o _ HR0
   clear HR0
   go_wp2_with fail
   go_ret
   exact⟨s,HE.o,by rw[HR.o];rfl,by rw[HR.o],HB.o⟩
  ·have d16:decide ((16:Int)<=(s.n:Int))=false:=decide_eq_false (by omega)
   have HR:Hid (change s.bk ⟨dk,di,df,da,f⟩=(0,{ s.bk with ls:=ins s.ls p ⟨di,da⟩ })):=HCH.o (0,ins s.ls p ⟨di,da⟩) (by unfold linkR;rw[if_neg HL.o,if_neg (by rw[HE.o.len.n];exact h16),show place Lk.id s.ls di=p from HP.o])
   have hpl:p<=s.n:=by rw[<-HP.o,<-HE.o.len.n];exact place_le _ _ _
   have HNE:Hid (bx≠g):=fun e=>by
    have h1:=HX.o
    rw[e] at h1
    have h2:=h1.symm.trans HE.o.blk
    injection h2 with h2
    injection h2 with _ h3 _
    exact absurd h3 (by decide)
   have hb:Below w1.heap.size w1 w1.drew:=(Below.refl _ _).drew
   have hszq:base<=w1.heap.size:=Nat.le_trans HE.o.le (Nat.le_of_lt HE.o.blk.lt)
   replace HE:=Jh (HE.o.below hb)
   replace HX:=Jh (HX.o.below hb HX.o.lt)
   replace HB:=Jh (HB.o.trans (hb.mono hszq))
   clear hszq
   clear hb
   clear e1
   obtain⟨_,e1,_⟩:=blk4 (show Blk w1 g 75 (xC s.ep s.A s.n s.c s.A1 s.n1 s.c1 s.A2 s.n2 s.c2) from HE.o.blk)
   go_wp2_with fail
   clear e1 d16
   have hS0:Blk w1.drew bx 28 (dC dk di df da.toArray A n c):=HX.o
   refine wp_region_held_drew (S:=fun w'=>Blk w' bx 28 (dC dk di df da.toArray A n c)) (by kernel_rfl) hS0 (fun _=>?_)
   generalize w1.drew=wd at *
   refine Jz 0 hS0 ?_
   refine Jz 1 hS0 ?_
   refine Jz 2 hS0 ?_
   refine Jz 3 hS0 ?_
   refine Jz 4 hS0 ?_
   refine Jz 6 hS0 ?_
   refine Jz 7 hS0 ?_
   refine Jz 8 hS0 ?_
   refine Jz 9 hS0 ?_
   refine Jz 10 hS0 ?_
   refine Jz 11 hS0 ?_
   refine wpAnyH_pr (i:=5) (j:=12) (by kernel_rfl) rfl rfl (by rfl) (by rfl) (fun Ka hKa=>?_) (fun Kb hKb=>?_)
   ·skip
    have cj:=(blk4 HE.o.blk).2.1
    go_simp
    refine hKa.o _ _ hS0 ?_
    clear hKa cj
    refine Je 12 (fun Kc hKb=>?_)
    go_simp
    refine hKb.o _ _ (Blk.alloc hS0 _) ?_
    clear hKb
    have hb:=(gr1 wd (.cells #[.int .i64 di,.string ⟨da.toArray⟩] 46)).below
    have hBx:Blk (wd.alloc (.cells #[.int .i64 di,.string ⟨da.toArray⟩] 46)) wd.heap.size 46 (layL.enc ⟨di,da⟩).toArray:=Blk.new wd 46 #[.int .i64 di,.string ⟨da.toArray⟩]
    have hgbn:∀a,s.A=some a->a.block≠wd.heap.size:=fun a ha=>Nat.ne_of_lt (own_old HE.o.own.ls a ha)
    have hszw:base<=wd.heap.size:=Nat.le_trans HE.o.le (Nat.le_of_lt HE.o.blk.lt)
    replace HE:=Jh (HE.o.below hb)
    replace HX:=Jh (HX.o.below hb HX.o.lt)
    replace HB:=Jh (HB.o.trans (hb.mono hszw))
    have hszv:base<=(wd.alloc (.cells #[.int .i64 di,.string ⟨da.toArray⟩] 46)).heap.size:=Nat.le_trans hszw hb.size
    clear hb hS0
    generalize (wd.alloc (.cells #[.int .i64 di,.string ⟨da.toArray⟩] 46))=w2 at *
    generalize wd.heap.size=gb at *
    have hor1:=HE.o.own.ls
    refine Je 13 (fun Kc hKo=>?_)
    go_simp
    with_reducible refine (insertL_at base s.A s.n s.c s.ls p ⟨di,da⟩ gb w2 hor1 HE.o.len.n (by omega) (by omega) hBx hszv hgbn).mono ?_
    rintro e w3 ⟨A',c',rfl,hc',ho',hg',hs'⟩
    have hX3:=grown_blk HX.o hor1 (by decide) hg'
    have hE3:=HE.o.blk_row hor1 (by decide) hg'
    have HB3:=Jh (below_row HB.o hg' hor1 hszv)
    have HX3:=Jh hX3
    clear hBx hgbn hX3
    go_wp2_with fail
    refine hKo.o _ _ HX3.o ?_
    clear hKo
    refine Jz 14 HX3.o ?_
    refine Jz 15 HX3.o ?_
    refine Jz 16 HX3.o ?_
    refine Je 17 (fun Kc hKo=>?_)
    obtain⟨e0,e1,e2,e3,q0,q1,q2,q3⟩:=blk4 hE3
    go_simp
    refine hKo.o _ _ (Blk.far HX3.o (p:=⟨g,1,none⟩) HNE.o _) ?_
    clear hKo
    refine Jd ?_
    go_wp2_with fail
    go_ret
    exact⟨{ s with A:=A',n:=s.n+1,c:=c',ls:=ins s.ls p ⟨di,da⟩ },HE.o.put_links hg' ho' (by rw[ins_len _ (by rw[HE.o.len.n];exact hpl),HE.o.len.n]) hc',by rw[HR.o];rfl,by rw[HR.o],below_set HB3.o HE.o.le⟩
   ·skip
    go_simp
    refine hKb.o _ _ (Blk.alloc hS0 _) ?_
    clear hKb
    have hEa:=HE.o.below (gr1 wd (.cells #[.int .i64 di,.string ⟨da.toArray⟩] 46)).below
    have cj:=(blk4 hEa.blk).2.1
    refine Je 5 (fun Kc hKa=>?_)
    go_simp
    refine hKa.o _ _ (Blk.alloc hS0 _) ?_
    clear hKa cj hEa
    have hb:=(gr1 wd (.cells #[.int .i64 di,.string ⟨da.toArray⟩] 46)).below
    have hBx:Blk (wd.alloc (.cells #[.int .i64 di,.string ⟨da.toArray⟩] 46)) wd.heap.size 46 (layL.enc ⟨di,da⟩).toArray:=Blk.new wd 46 #[.int .i64 di,.string ⟨da.toArray⟩]
    have hgbn:∀a,s.A=some a->a.block≠wd.heap.size:=fun a ha=>Nat.ne_of_lt (own_old HE.o.own.ls a ha)
    have hszw:base<=wd.heap.size:=Nat.le_trans HE.o.le (Nat.le_of_lt HE.o.blk.lt)
    replace HE:=Jh (HE.o.below hb)
    replace HX:=Jh (HX.o.below hb HX.o.lt)
    replace HB:=Jh (HB.o.trans (hb.mono hszw))
    have hszv:base<=(wd.alloc (.cells #[.int .i64 di,.string ⟨da.toArray⟩] 46)).heap.size:=Nat.le_trans hszw hb.size
    clear hb hS0
    generalize (wd.alloc (.cells #[.int .i64 di,.string ⟨da.toArray⟩] 46))=w2 at *
    generalize wd.heap.size=gb at *
    have hor1:=HE.o.own.ls
    refine Je 13 (fun Kc hKo=>?_)
    go_simp
    with_reducible refine (insertL_at base s.A s.n s.c s.ls p ⟨di,da⟩ gb w2 hor1 HE.o.len.n (by omega) (by omega) hBx hszv hgbn).mono ?_
    rintro e w3 ⟨A',c',rfl,hc',ho',hg',hs'⟩
    have hX3:=grown_blk HX.o hor1 (by decide) hg'
    have hE3:=HE.o.blk_row hor1 (by decide) hg'
    have HB3:=Jh (below_row HB.o hg' hor1 hszv)
    have HX3:=Jh hX3
    clear hBx hgbn hX3
    go_wp2_with fail
    refine hKo.o _ _ HX3.o ?_
    clear hKo
    refine Jz 14 HX3.o ?_
    refine Jz 15 HX3.o ?_
    refine Jz 16 HX3.o ?_
    refine Je 17 (fun Kc hKo=>?_)
    obtain⟨e0,e1,e2,e3,q0,q1,q2,q3⟩:=blk4 hE3
    go_simp
    refine hKo.o _ _ (Blk.far HX3.o (p:=⟨g,1,none⟩) HNE.o _) ?_
    clear hKo
    refine Jd ?_
    go_wp2_with fail
    go_ret
    exact⟨{ s with A:=A',n:=s.n+1,c:=c',ls:=ins s.ls p ⟨di,da⟩ },HE.o.put_links hg' ho' (by rw[ins_len _ (by rw[HE.o.len.n];exact hpl),HE.o.len.n]) hc',by rw[HR.o];rfl,by rw[HR.o],below_set HB3.o HE.o.le⟩
theorem eunlink_at (g base:Nat) (s:Sx) (dk di df:Int) (da:LU) (f:List Pr) (A:OA) (n c:Nat) (w:World) (hE:EdS w g base s) (hr:Tb.Right s.bk) (hk:dk=2):
  Calls Tryz.prog 96 #[.pointer (some ⟨g,0,none⟩),.agg (dC dk di df da.toArray A n c)] w (Changed w g base (change s.bk ⟨dk,di,df,da,f⟩)):=by
 have hb0:=(gr1 w (.cells (dC dk di df da.toArray A n c) 28)).below
 have HE:=Jh (hE.below hb0)
 have hsz0:base<=w.heap.size:=Nat.le_trans hE.le (Nat.le_of_lt hE.blk.lt)
 have HB:=Jh (hb0.mono hsz0)
 have HX:=Jh (Blk.new w 28 (dC dk di df da.toArray A n c))
 have HRT:=Jh hr
 have HK:=Jh hk
 clear hk
 clear hb0 hE hr hsz0
 go_enter Tryz.func96,Tryz.ntmps96
 go_wp2_with fail
 generalize w.alloc (.cells (dC dk di df da.toArray A n c) 28)=w0 at *
 generalize w.heap.size=bx at *
 obtain⟨hn16,hpw⟩:=right_links HRT.o HE.o.len
 obtain⟨p,hp⟩:∃p,place (fun x:Lk=>x.id) s.ls di=p:=⟨_,rfl⟩
 obtain⟨q,hq⟩:∃q,decide (∃x∈s.ls,x.id=di)=q:=⟨_,rfl⟩
 have HP:=Jh hp
 have HPW:=Jh hpw
 have C1:=Jh (fun n os=>placeL_at s.A s.ls s.n s.c di HE.o.len.n (by omega) hpw (gx w0 n os) (rdk_own (HE.o.own.ls.below (below_gx w0 n os))) p hp q hq)
 have HQ1:Hid (q=true↔Linked s.ls di):=by
  show _↔_
  rw[<-hq,decide_eq_true_iff];rfl
 clear hp hq hpw
 obtain⟨e0,e1,e2,e3⟩:=gx4 HE.o.blk
 obtain⟨x0,x1,x2,x3,x4⟩:=gx5 HX.o
 refine qbr (fun nq osq=>?_) (hq:=by (repeat (refine hq_step (fun K hK=>?_);go_simp;first | (refine hK _ ?_;clear hK K) | (apply Exists.intro;refine ⟨fun _=>?_,hK _ ?_⟩;(go_at_call 128;with_reducible exact calls_gx (C1.o _ _));clear hK K)));exact hq_nil rfl)
 have hb:=below_gx w0 nq osq
 clear e0 e1 e2 e3 x0 x1 x2 x3 x4
 generalize gx w0 nq osq=w1 at *
 have hszq:base<=w0.heap.size:=Nat.le_trans HE.o.le (Nat.le_of_lt HE.o.blk.lt)
 replace HE:=Jh (HE.o.below hb)
 replace HX:=Jh (HX.o.below hb HX.o.lt)
 replace HB:=Jh (HB.o.trans (hb.mono hszq))
 clear hszq
 clear hb
 clear C1
 have HCH:Hid (∀r,unlinkR s.bk ⟨dk,di,df,da,f⟩=r->change s.bk ⟨dk,di,df,da,f⟩=(r.1,{ s.bk with ls:=r.2 })):=fun r h=>by unfold change;rw[if_neg (by show ¬dk=1;have:=HK.o;omega),if_pos HK.o];dsimp only;rw[h]
 cases q with
 | false=>
  have HR:Hid (change s.bk ⟨dk,di,df,da,f⟩=(7,s.bk)):=HCH.o (7,s.ls) (by unfold unlinkR;rw[if_neg (fun h=>by have:=HQ1.o.2 h;cases this)])
  go_wp2_with fail
  go_ret
  exact⟨s,HE.o,by rw[HR.o];rfl,by rw[HR.o],HB.o⟩
 | true=>
  have HL:Hid (Linked s.ls di):=HQ1.o.1 rfl
  obtain⟨a1,h1⟩:∃q,decide (From (s.av.map Ex.en) di)=q:=⟨_,rfl⟩
  obtain⟨a2,h2⟩:∃q,decide (From (s.su.map Ex.en) di)=q:=⟨_,rfl⟩
  have HA1:=Jh h1
  have HA2:=Jh h2
  have hav:=HRT.o.av.1
  have hsu:=HRT.o.su.1
  have C1:=Jh (fun n os=>anyFrom_at s.A1 s.av s.n1 s.c1 di HE.o.len.n1 (by have:=HE.o.len.n1;simp at hav;omega) (gx w1 n os) (HE.o.own.av.rd.below (below_gx w1 n os)) a1 h1)
  have C2:=Jh (fun n os=>anyFrom_at s.A2 s.su s.n2 s.c2 di HE.o.len.n2 (by have:=HE.o.len.n2;simp at hsu;omega) (gx w1 n os) (HE.o.own.su.rd.below (below_gx w1 n os)) a2 h2)
  clear h1 h2 hav hsu
  obtain⟨e0,e1,e2,e3⟩:=gx4 HE.o.blk
  obtain⟨x0,x1,x2,x3,x4⟩:=gx5 HX.o
  cases a1 with
  | true=>
   have HR:Hid (change s.bk ⟨dk,di,df,da,f⟩=(10,s.bk)):=HCH.o (10,s.ls) (by unfold unlinkR;rw[if_pos HL.o,if_pos (.inl (of_decide_eq_true HA1.o))])
   go_wp2_with fail
   refine qbr (fun nq osq=>?_) (hq:=by (repeat (refine hq_step (fun K hK=>?_);go_simp;first | (refine hK _ ?_;clear hK K) | (apply Exists.intro;refine ⟨fun _=>?_,hK _ ?_⟩;(first | (go_at_call 130;with_reducible exact calls_gx (C1.o _ _)) | (go_at_call 130;with_reducible exact calls_gx (C2.o _ _)));clear hK K)));exact hq_nil rfl)
   have hb:=below_gx w1 nq osq
   clear e0 e1 e2 e3 x0 x1 x2 x3 x4
   generalize gx w1 nq osq=w2 at *
   have hszq:base<=w1.heap.size:=Nat.le_trans HE.o.le (Nat.le_of_lt HE.o.blk.lt)
   replace HE:=Jh (HE.o.below hb)
   replace HX:=Jh (HX.o.below hb HX.o.lt)
   replace HB:=Jh (HB.o.trans (hb.mono hszq))
   clear hszq
   clear hb
   go_wp2_with fail
   go_ret
   exact⟨s,HE.o,by rw[HR.o];rfl,by rw[HR.o],HB.o⟩
  | false=>
   cases a2 with
   | true=>
    have HR:Hid (change s.bk ⟨dk,di,df,da,f⟩=(10,s.bk)):=HCH.o (10,s.ls) (by unfold unlinkR;rw[if_pos HL.o,if_pos (.inr (of_decide_eq_true HA2.o))])
    go_wp2_with fail
    refine qbr (fun nq osq=>?_) (hq:=by (repeat (refine hq_step (fun K hK=>?_);go_simp;first | (refine hK _ ?_;clear hK K) | (apply Exists.intro;refine ⟨fun _=>?_,hK _ ?_⟩;(first | (go_at_call 130;with_reducible exact calls_gx (C1.o _ _)) | (go_at_call 130;with_reducible exact calls_gx (C2.o _ _)));clear hK K)));exact hq_nil rfl)
    have hb:=below_gx w1 nq osq
    clear e0 e1 e2 e3 x0 x1 x2 x3 x4
    generalize gx w1 nq osq=w2 at *
    have hszq:base<=w1.heap.size:=Nat.le_trans HE.o.le (Nat.le_of_lt HE.o.blk.lt)
    replace HE:=Jh (HE.o.below hb)
    replace HX:=Jh (HX.o.below hb HX.o.lt)
    replace HB:=Jh (HB.o.trans (hb.mono hszq))
    clear hszq
    clear hb
    go_wp2_with fail
    go_ret
    exact⟨s,HE.o,by rw[HR.o];rfl,by rw[HR.o],HB.o⟩
   | false=>
    have HR:Hid (change s.bk ⟨dk,di,df,da,f⟩=(0,{ s.bk with ls:=cut s.ls p })):=HCH.o (0,cut s.ls p) (by unfold unlinkR;rw[if_pos HL.o,if_neg (fun h=>h.elim (of_decide_eq_false HA1.o) (of_decide_eq_false HA2.o)),show place Lk.id s.bk.ls di=p from HP.o])
    obtain⟨hpk,_⟩:=(place_has (g:=fun x:Lk=>x.id) HPW.o).1 HL.o
    simp only[HP.o] at hpk
    go_wp2_with fail
    refine qbr (fun nq osq=>?_) (hq:=by (repeat (refine hq_step (fun K hK=>?_);go_simp;first | (refine hK _ ?_;clear hK K) | (apply Exists.intro;refine ⟨fun _=>?_,hK _ ?_⟩;(first | (go_at_call 130;with_reducible exact calls_gx (C1.o _ _)) | (go_at_call 130;with_reducible exact calls_gx (C2.o _ _)));clear hK K)));exact hq_nil rfl)
    have hb:=below_gx w1 nq osq
    clear e0 e1 e2 e3 x0 x1 x2 x3 x4
    generalize gx w1 nq osq=w2 at *
    have hszq:base<=w1.heap.size:=Nat.le_trans HE.o.le (Nat.le_of_lt HE.o.blk.lt)
    replace HE:=Jh (HE.o.below hb)
    replace HX:=Jh (HX.o.below hb HX.o.lt)
    replace HB:=Jh (HB.o.trans (hb.mono hszq))
    clear hszq
    clear hb
    obtain⟨m,hm⟩:∃m,s.n=m+1:=⟨s.n-1,by have:=HE.o.len.n;omega⟩
    have HM:=Jh hm
    have ho:=HE.o.own.ls
    rw[hm] at ho
    have hlm:s.ls.length=m+1:=HE.o.len.n.trans hm
    have hg1:=ho
    obtain⟨_,e1,_⟩:=blk4 HE.o.blk
    rw[hm] at e1
    have hszv:base<=w2.heap.size:=Nat.le_trans HE.o.le (Nat.le_of_lt HE.o.blk.lt)
    go_wp2_with fail
    refine (deleteL_at base s.A m s.c s.ls p w2 ho hlm (by omega) (by omega)).mono ?_
    rintro e w3 ⟨rfl,ho',hg'⟩
    have hE3:=HE.o.blk_row ho (by decide) hg'
    have HB3:=Jh (below_row HB.o hg' ho hszv)
    obtain⟨e0,e1,e2,e3,q0,q1,q2,q3⟩:=blk4 hE3
    go_wp2_with fail
    go_ret
    exact⟨{ s with A:=s.A,n:=m,c:=s.c,ls:=cut s.ls p },HE.o.put_links (by rw[HM.o];exact hg') ho' (by have:=cut_len (l:=s.ls) (k:=p) hpk;omega) (by have:=HE.o.len.c;omega),by rw[HR.o];rfl,by rw[HR.o],below_set HB3.o HE.o.le⟩
end
end Go.Proofs.YtnfigjggjmncdaaGreat
