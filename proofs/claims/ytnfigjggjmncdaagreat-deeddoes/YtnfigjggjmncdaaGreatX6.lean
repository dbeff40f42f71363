/- Contracts. -/
import Derived.Test.YtnfigjggjmncdaaGreatX5
set_option maxRecDepth 100000
set_option maxHeartbeats 4000000
namespace Go.Proofs.YtnfigjggjmncdaaGreat
section
open Go.RowKit Go.Sort Spans Tb Dm
theorem change_err {s:Bk} {d:Dd} (h:(change s d).1≠0):(change s d).2=s:=by
 have e1:∀ls:List Lk,(linkR ls d).1≠0->(linkR ls d).2=ls:=fun ls h=>by
  unfold linkR at *
  split at h<;>(try split at h)<;>simp_all
 have e2:(unlinkR s d).1≠0->(unlinkR s d).2=s.ls:=fun h=>by
  unfold unlinkR at *
  split at h<;>(try split at h)<;>simp_all
 have e3:∀l:List En,(enterR s.ls l d).1≠0->(enterR s.ls l d).2=l:=fun l h=>by
  unfold enterR at *
  split at h<;>(try split at h)<;>(try split at h)<;>simp_all
 have e4:∀l:List En,(leaveR l d).1≠0->(leaveR l d).2=l:=fun l h=>by
  unfold leaveR at *
  split at h<;>simp_all
 unfold change at *
 by_cases h1:d.k=1
 ·rw[if_pos h1] at *;rw[e1 _ h]
 rw[if_neg h1] at *
 by_cases h2:d.k=2
 ·rw[if_pos h2] at *;rw[e2 h]
 rw[if_neg h2] at *
 by_cases h3:d.k=3
 ·rw[if_pos h3] at *;rw[e3 _ h]
 rw[if_neg h3] at *
 by_cases h4:d.k=4
 ·rw[if_pos h4] at *;rw[e4 _ h]
 rw[if_neg h4] at *
 by_cases h5:d.k=5
 ·rw[if_pos h5] at *;rw[e3 _ h]
 rw[if_neg h5] at *
 rw[e4 _ h]
theorem change_ep (s:Bk) (d:Dd):(change s d).2.ep=s.ep:=by
 unfold change
 repeat' split
 all_goals rfl
def fnOf (k:Int):FuncId:=if k=1 then 95 else if k=2 then 96 else if Ent k then 97 else 98
theorem changeOf_at (g:Nat) (k:Int) (w:World):Calls Tryz.prog 70 #[.pointer (some ⟨g,0,none⟩),.int .i64 k] w fun e w'=>e=.returned (.func (.func (fnOf k)) #[.pointer (some ⟨g,0,none⟩)] #[])/\w'=w:=by
 have hmf:∀(fn:Fn) (first cap:Array Value) (w:World),(Instr.makeFunc fn first cap).run Tryz.prog w=.ok (.func fn first cap) w:=fun _ _ _ _=>rfl
 unfold fnOf
 by_cases h1:k=1
 ·subst h1
  go_enter Tryz.func70,Tryz.ntmps70
  go_wp2_with fail
  go_ret
  exact⟨rfl,rfl⟩
 ·have d1:(k == 1)=false:=beq_eq_false_iff_ne.2 h1
  rw[if_neg h1]
  by_cases h2:k=2
  ·subst h2
   go_enter Tryz.func70,Tryz.ntmps70
   go_wp2_with fail
   go_ret
   exact⟨rfl,rfl⟩
  ·have d2:(k == 2)=false:=beq_eq_false_iff_ne.2 h2
   rw[if_neg h2]
   obtain⟨gf,hgf⟩:∃gf:FuncId,(if Ent k then 97 else 98)=gf:=⟨_,rfl⟩
   have HGF:=Jh hgf
   rw[hgf]
   clear hgf
   obtain⟨q,hq⟩:∃q,decide (Ent k)=q:=⟨_,rfl⟩
   have HQ:=Jh hq
   clear hq
   go_enter Tryz.func70,Tryz.ntmps70
   go_wp2_with fail
   refine (enters_at k w q HQ.o).mono ?_
   rintro e wz ⟨rfl,hwz⟩
   obtain rfl:=hwz.symm
   cases q with
   | true=>
    go_wp2_with fail
    go_ret
    exact⟨by rw[<-HGF.o,if_pos (of_decide_eq_true HQ.o)];rfl,rfl⟩
   | false=>
    go_wp2_with fail
    go_ret
    exact⟨by rw[<-HGF.o,if_neg (of_decide_eq_false HQ.o)];rfl,rfl⟩
theorem EdS.put_ep {w:World} {g base:Nat} {s:Sx} (h:EdS w g base s) (v:Int):EdS (w.setCell ⟨g,0,none⟩ (.int .i64 v)) g base { s with ep:=v }:=
 ⟨h.blk.put 0 _,Sx.Own.far (s:={ s with ep:=v }) ⟨h.own.ls,h.own.av,h.own.su⟩ h.blk 0 _,⟨h.len.n,h.len.c,h.len.n1,h.len.c1,h.len.n2,h.len.c2⟩,h.sep,h.le⟩
theorem fn_calls (g base:Nat) (s:Sx) (dk di df:Int) (da:LU) (f:List Pr) (A:OA) (n c:Nat) (w:World) (hE:EdS w g base s) (hr:Tb.Right s.bk) (ho:Dm.Own ⟨dk,di,df,da,f⟩) (hf:FltO w base ⟨di,df,A,n,c,f⟩) (gf:FuncId) (hg:fnOf dk=gf):
  (∀args w,(callFunc gf args).run Tryz.prog w=.ok (.enter gf args) w)/\Calls Tryz.prog gf #[.pointer (some ⟨g,0,none⟩),.agg (dC dk di df da.toArray A n c)] w (Changed w g base (change s.bk ⟨dk,di,df,da,f⟩)):=by
 subst hg
 unfold fnOf
 have h1:=ho.1.1
 have h6:=ho.1.2.1
 dsimp only at h1 h6
 by_cases k1:dk=1
 ·rw[if_pos k1];exact⟨enters_of Tryz.func95 (by kernel_rfl) rfl,elink_at g base s dk di df da f A n c w hE hr k1⟩
 rw[if_neg k1]
 by_cases k2:dk=2
 ·rw[if_pos k2];exact⟨enters_of Tryz.func96 (by kernel_rfl) rfl,eunlink_at g base s dk di df da f A n c w hE hr k2⟩
 rw[if_neg k2]
 by_cases k3:Ent dk
 ·rw[if_pos k3];exact⟨enters_of Tryz.func97 (by kernel_rfl) rfl,eenter_at g base s dk di df da f A n c w hE hr k3 hf⟩
 ·rw[if_neg k3]
  have k3':¬(dk=3∨dk=5):=k3
  exact⟨enters_of Tryz.func98 (by kernel_rfl) rfl,eleave_at g base s dk di df da f A n c w hE hr (by omega)⟩
theorem edo_at (g base:Nat) (s:Sx) (dk di df:Int) (da:LU) (f:List Pr) (A:OA) (n c:Nat) (hn:f.length=n) (hm:n<=100000) (hl:PBd f) (w:World) (hE:EdS w g base s) (hr:Tb.Right s.bk) (hrd:RdQ w A f):
  Calls Tryz.prog 38 #[.pointer (some ⟨g,0,none⟩),.agg (dC dk di df da.toArray A n c)] w fun e w'=>∃(s':Sx) (er:Int),EdS w' g base s'/\e=.returned (.int .i64 er)/\Does s.bk ⟨dk,di,df,da,f⟩ s'.bk er/\Below base w w':=by
 have hb0:=(gr1 w (.cells (dC dk di df da.toArray A n c) 28)).below
 have hsz0:base<=w.heap.size:=Nat.le_trans hE.le (Nat.le_of_lt hE.blk.lt)
 have HE:=Jh (hE.below hb0)
 have HB:=Jh (hb0.mono hsz0)
 have HRD:=Jh (RdK.below hrd hb0)
 have HX:=Jh (Blk.new w 28 (dC dk di df da.toArray A n c))
 have HRT:=Jh hr
 have HN:=Jh hn
 have HL:=Jh hl
 have hep0:=hr.ep0
 have hszb:base<=(w.alloc (.cells (dC dk di df da.toArray A n c) 28)).heap.size:=Nat.le_trans hsz0 hb0.size
 clear hb0 hE hr hsz0 hrd hn hl
 skip
 obtain⟨c0,c1,c2,c3,c4,_⟩:=blk5 HX.o
 go_enter Tryz.func38,Tryz.ntmps38
 go_wp2_with fail
 clear c0 c1 c2 c3 c4
 generalize w.alloc (.cells (dC dk di df da.toArray A n c) 28)=w0 at *
 refine (dnorm_at ⟨dk,di,df,da,f⟩ A n c HN.o hm HL.o w0 HRD.o).mono ?_
 rintro e w1 ⟨⟨ok,oi,of,oa,off⟩,er,A1,n1,c1,rfl,hdn,hl1,hc1,ho1,hb1⟩
 dsimp only at hl1 ho1
 have HDN:=Jh hdn
 replace HE:=Jh (HE.o.below hb1)
 replace HB:=Jh (HB.o.trans (hb1.mono hszb))
 have hsz1:base<=w1.heap.size:=Nat.le_trans hszb hb1.size
 have HFL:Hid (FltO w1 base ⟨oi,of,A1,n1,c1,off⟩):=⟨hl1,hc1,ho1.less hszb⟩
 clear hdn hl1 hc1 ho1 hb1 HX HRD HL hszb
 have hb2:=(gr1 w1 (.cells (dC ok oi of oa.toArray A1 n1 c1) 28)).below
 have HE2:=Jh (HE.o.below hb2)
 have HO2:=Jh (Blk.new w1 28 (dC ok oi of oa.toArray A1 n1 c1))
 have HFL2:=Jh (HFL.o.below hb2)
 have HB2:=Jh (HB.o.trans (hb2.mono hsz1))
 clear hb2 HE HFL HB
 by_cases he:er=0
 ·subst he
  obtain⟨e0,e1,e2,e3,_⟩:=blk4 HE2.o.blk
  obtain⟨c0,c1x,c2,c3,c4,_⟩:=blk5 HO2.o
  by_cases hep:1099511627776<=s.ep
  ·have d1:decide ((1099511627776:Int)<=s.ep)=true:=decide_eq_true hep
   go_wp2_with fail
   go_ret
   exact⟨s,4,HE2.o,rfl,⟨⟨ok,oi,of,oa,off⟩,0,HDN.o,.inr (.inl ⟨rfl,hep,rfl,rfl⟩)⟩,HB2.o⟩
  ·have d1:decide ((1099511627776:Int)<=s.ep)=false:=decide_eq_false hep
   go_wp2_with fail
   refine (changeOf_at g ok _).mono ?_
   rintro e wz ⟨rfl,hwz⟩
   obtain rfl:=hwz.symm
   clear hwz d1
   obtain⟨gf,hgf⟩:∃gf,fnOf ok=gf:=⟨_,rfl⟩
   have how:=HDN.o.good.1
   obtain⟨eg,hcall⟩:=fn_calls g base s ok oi of oa off A1 n1 c1 _ HE2.o HRT.o how HFL2.o gf hgf
   rw[hgf]
   have HCA:=Jh hcall
   obtain⟨r,hr⟩:∃r,change s.bk ⟨ok,oi,of,oa,off⟩=r:=⟨_,rfl⟩
   have HRR:=Jh hr
   rw[hr] at HCA
   clear hcall hgf how hr e0 e1 e2 e3
   obtain⟨z,b⟩:=r
   by_cases hz:z=0
   ·subst hz
    have vz:((0:Int) != 0)=false:=rfl
    have hep0:0<=s.ep:=HRT.o.ep0
    have hwe:IntKind.i64.wrap (s.ep+1)=s.ep+1:=by rw[IntKind.wrap_i64];omega
    have hpb:∀s2:Sx,s2.bk=b->s2.ep=s.ep:=fun s2 h=>by have h1:=congrArg Bk.ep h;have h2:=congrArg (fun x=>x.2.ep) HRR.o;rw[change_ep] at h2;exact h1.trans h2.symm
    go_wp2_with (go_at_fn gf;refine HCA.o.mono ?_;rintro e w3 ⟨s2,hE3,rfl,hbk,hb3⟩;obtain⟨y0,y1,y2,y3,q0,q1,q2,q3⟩:=blk4 hE3.blk;rw[hpb s2 hbk] at y0)
    go_ret
    have hE4:=hE3.put_ep (s.ep+1)
    have hB4:=below_set (i:=0) (u:=.int .i64 (s.ep+1)) (HB2.o.trans hb3) hE3.le
    refine ⟨{ s2 with ep:=s.ep+1 },0,hE4,rfl,⟨⟨ok,oi,of,oa,off⟩,0,HDN.o,.inr (.inr (.inr ⟨rfl,by omega,by rw[HRR.o],?_,rfl⟩))⟩,hB4⟩
    rw[HRR.o]
    have h1:=hbk
    try dsimp only at h1 ⊢
    rw[<-h1]
   ·have vz:(z != 0)=true:=by simpa using hz
    go_wp2_with (go_at_fn gf;refine HCA.o.mono ?_;rintro e w3 ⟨s2,hE3,rfl,hbk,hb3⟩)
    go_ret
    refine ⟨s2,z,hE3,rfl,⟨⟨ok,oi,of,oa,off⟩,0,HDN.o,.inr (.inr (.inl ⟨rfl,by omega,by rw[HRR.o];exact hz,?_,by rw[HRR.o]⟩))⟩,HB2.o.trans hb3⟩
    have h0:=change_err (s:=s.bk) (d:=⟨ok,oi,of,oa,off⟩) (by rw[HRR.o];exact hz)
    rw[HRR.o] at h0
    exact hbk.trans h0
 ·have v0:(er != 0)=true:=by simpa using he
  go_wp2_with fail
  go_ret
  exact⟨s,er,HE2.o,rfl,⟨⟨ok,oi,of,oa,off⟩,er,HDN.o,.inl ⟨he,rfl,rfl⟩⟩,HB2.o⟩
structure Fresh (w:World) (base:Nat) (t:Sx):Prop where
 len:t.Len
 own:t.Own w base
 sep:t.Sep
theorem Fresh.below {w w':World} {base:Nat} {t:Sx} (h:Fresh w base t) (hb:Below w.heap.size w w'):Fresh w' base t:=⟨h.len,h.own.below hb,h.sep⟩
theorem Fresh.less {w:World} {base b2:Nat} {t:Sx} (h:Fresh w base t) (hb:b2<=base):Fresh w b2 t:=⟨h.len,h.own.less hb,h.sep⟩
def zeroS:Sx:=⟨0,none,0,0,[],none,0,0,[],none,0,0,[]⟩
def zeroB:Bk:=⟨0,[],[],[]⟩
theorem zero_fresh (w:World) (base:Nat):Fresh w base zeroS:=⟨⟨rfl,Jn,rfl,Jn,rfl,Jn⟩,⟨OwnK.none_ _ _,⟨OwnK.none_ _ _,fun x hx=>by cases hx⟩,⟨OwnK.none_ _ _,fun x hx=>by cases hx⟩⟩,fun k h=>by simp[zeroS,Value.ownBlock] at h⟩
theorem EdS.fresh {w:World} {g base:Nat} {s:Sx} (h:EdS w g base s):Fresh w base s:=⟨h.len,h.own,h.sep⟩
theorem Sx.Own.put {w:World} {base p:Nat} {s:Sx} (h:s.Own w base) (hp:p<base) (u0 u1 u2 u3:Value):s.Own ((((w.setCell ⟨p,0,none⟩ u0).setCell ⟨p,1,none⟩ u1).setCell ⟨p,2,none⟩ u2).setCell ⟨p,3,none⟩ u3) base:=
 ⟨h.ls.put4 hp _ _ _ _,⟨h.av.1.put4 hp _ _ _ _,fun x hx=>⟨(h.av.2 x hx).1,(h.av.2 x hx).2.1,(h.av.2 x hx).2.2.put4 hp _ _ _ _⟩⟩,⟨h.su.1.put4 hp _ _ _ _,fun x hx=>⟨(h.su.2 x hx).1,(h.su.2 x hx).2.1,(h.su.2 x hx).2.2.put4 hp _ _ _ _⟩⟩⟩
theorem Fresh.put {w:World} {base p:Nat} {s:Sx} (h:Fresh w base s) (hp:p<base) (u0 u1 u2 u3:Value):Fresh ((((w.setCell ⟨p,0,none⟩ u0).setCell ⟨p,1,none⟩ u1).setCell ⟨p,2,none⟩ u2).setCell ⟨p,3,none⟩ u3) base s:=⟨h.len,h.own.put hp _ _ _ _,h.sep⟩
def DoD (w:World) (b:Bk) (d:Dd) (e:Ending) (w':World):Prop:=∃(t:Sx) (er:Int) (b':Bk),e=.returned (.tuple #[t.v,.int .i64 er])/\Does b d b' er/\t.bk=(if er=0 then b' else zeroB)/\Fresh w' w.heap.size t/\Below w.heap.size w w'
theorem ddo_at (s:Sx) (ln:s.Len) (fw:s.Few) (dk di df:Int) (da:LU) (f:List Pr) (A:OA) (n c:Nat) (hn:f.length=n) (hm:n<=100000) (hl:PBd f) (w:World) (hr:Tb.Right s.bk) (hs:s.Rd w) (hrd:RdQ w A f):
  Calls Tryz.prog 15 #[s.v,.agg (dC dk di df da.toArray A n c)] w (DoD w s.bk ⟨dk,di,df,da,f⟩):=by
 have hb0:=(gr3 w (.cells (xC s.ep s.A s.n s.c s.A1 s.n1 s.c1 s.A2 s.n2 s.c2) 25) (.cells (dC dk di df da.toArray A n c) 28) (.cells xZ 25)).below
 have HB:=Jh hb0
 have HR:=Jh (hs.below hb0)
 have HRD:=Jh (RdK.below hrd hb0)
 have HS:=Jh (((Blk.new w 25 (xC s.ep s.A s.n s.c s.A1 s.n1 s.c1 s.A2 s.n2 s.c2)).alloc (.cells (dC dk di df da.toArray A n c) 28)).alloc (.cells xZ 25))
 have hD:=(Blk.new (w.alloc (.cells (xC s.ep s.A s.n s.c s.A1 s.n1 s.c1 s.A2 s.n2 s.c2) 25)) 28 (dC dk di df da.toArray A n c)).alloc (.cells xZ 25)
 have hZ:=Blk.new ((w.alloc (.cells (xC s.ep s.A s.n s.c s.A1 s.n1 s.c1 s.A2 s.n2 s.c2) 25)).alloc (.cells (dC dk di df da.toArray A n c) 28)) 25 xZ
 rw[show ((w.alloc (.cells (xC s.ep s.A s.n s.c s.A1 s.n1 s.c1 s.A2 s.n2 s.c2) 25)).alloc (.cells (dC dk di df da.toArray A n c) 28)).heap.size=w.heap.size+2 by simp] at hZ
 rw[show (w.alloc (.cells (xC s.ep s.A s.n s.c s.A1 s.n1 s.c1 s.A2 s.n2 s.c2) 25)).heap.size=w.heap.size+1 by simp] at hD
 have HD:=Jh hD
 have HZ:=Jh hZ
 have hs0:(((w.alloc (.cells (xC s.ep s.A s.n s.c s.A1 s.n1 s.c1 s.A2 s.n2 s.c2) 25)).alloc (.cells (dC dk di df da.toArray A n c) 28)).alloc (.cells xZ 25)).heap.size=w.heap.size+3:=by simp
 have HLN:=Jh ln
 have HFW:=Jh fw
 have HRT:=Jh hr
 have HN:=Jh hn
 have HL:=Jh hl
 clear hb0 hD hZ hs hrd ln fw hr hn hl
 go_enter Tryz.func15,Tryz.ntmps15
 go_wp2_with fail
 generalize ((w.alloc (.cells (xC s.ep s.A s.n s.c s.A1 s.n1 s.c1 s.A2 s.n2 s.c2) 25)).alloc (.cells (dC dk di df da.toArray A n c) 28)).alloc (.cells xZ 25)=w0 at *
 obtain⟨a0,a1,a2,a3,_⟩:=blk4 HS.o
 go_wp2_with fail
 clear a0 a1 a2 a3
 refine (copySt2_at s HLN.o HFW.o w0 HR.o).mono ?_
 rintro e w1 ⟨t,rfl,hbk,hlen,hown,hb1,hsep⟩
 have HBK:=Jh hbk
 replace HB:=Jh (below_next HB.o (Jn) hb1)
 replace HD:=Jh (HD.o.below hb1 HD.o.lt)
 replace HZ:=Jh (HZ.o.below hb1 HZ.o.lt)
 replace HRD:=Jh (RdK.below HRD.o hb1)
 have hb2:=(gr1 w1 (.cells (xC t.ep t.A t.n t.c t.A1 t.n1 t.c1 t.A2 t.n2 t.c2) 75)).below
 have HE:=Jh (EdS.mk (g:=w1.heap.size) (base:=w0.heap.size) (s:=t) (Blk.new w1 75 (xC t.ep t.A t.n t.c t.A1 t.n1 t.c1 t.A2 t.n2 t.c2)) (hown.below hb2) hlen hsep hb1.size)
 replace HB:=Jh (below_next HB.o (Jn) hb2)
 replace HD:=Jh (HD.o.below hb2 HD.o.lt)
 replace HZ:=Jh (HZ.o.below hb2 HZ.o.lt)
 replace HRD:=Jh (RdK.below HRD.o hb2)
 obtain⟨c0,c1,c2,c3,c4,_⟩:=blk5 HD.o
 clear hbk hlen hown hsep hb1 hb2 HR HS
 go_wp2_with fail
 clear c0 c1 c2 c3 c4
 generalize w1.alloc (.cells (xC t.ep t.A t.n t.c t.A1 t.n1 t.c1 t.A2 t.n2 t.c2) 75)=w2 at *
 generalize w1.heap.size=g at *
 have HRT2:Hid (Tb.Right t.bk):=by show Tb.Right _;rw[HBK.o];exact HRT.o
 refine (edo_at g w0.heap.size t dk di df da f A n c HN.o hm HL.o w2 HE.o HRT2.o HRD.o).mono ?_
 rintro e w3 ⟨u,er,hE,rfl,hdo,hb3⟩
 rw[HBK.o] at hdo
 have HE3:=Jh hE
 have HDO:=Jh hdo
 have hsz:w.heap.size<=w0.heap.size:=by omega
 replace HB:=Jh (HB.o.trans (hb3.mono hsz))
 replace HZ:=Jh (HZ.o.below hb3 (by omega))
 clear hE hdo hb3 HE HD HRD HRT2
 obtain⟨z0,z1,z2,z3,q0,q1,q2,q3⟩:=blk4 HZ.o
 obtain⟨y0,y1,y2,y3,_⟩:=blk4 HE3.o.blk
 have hgz:g≠w.heap.size+2:=by have:=HE3.o.le;omega
 by_cases he:er=0
 ·subst he
  go_wp2_with fail
  refine bodyPost_ret (v:=.tuple #[Sx.v u,.int .i64 0]) (by simp[results,Tryz.results15,go_sem,z0,z1,z2,z3]) rfl ?_
  exact⟨u,0,u.bk,rfl,HDO.o,rfl,(HE3.o.fresh.put (by omega) _ _ _ _).less hsz,below_put4 HB.o (by omega) _ _ _ _⟩
 ·have v0:(er != 0)=true:=by simpa using he
  go_wp2_with fail
  refine bodyPost_ret (v:=.tuple #[Sx.v zeroS,.int .i64 er]) (by simp[zeroS,results,Tryz.results15,go_sem,z0,z1,z2,z3]) rfl ?_
  exact⟨zeroS,er,u.bk,rfl,HDO.o,by rw[if_neg he];rfl,zero_fresh _ _,below_put4 HB.o (by omega) _ _ _ _⟩
structure Dx where
 k:Int
 id:Int
 fr:Int
 ad:LU
 A:OA
 n:Nat
 c:Nat
 f:List Pr
instance:Inhabited Dx:=⟨⟨0,0,0,[],none,0,0,[]⟩⟩
abbrev Dx.dd (x:Dx):Dd:=⟨x.k,x.id,x.fr,x.ad,x.f⟩
def cellsD (x:Dx):List Value:=[.int .i64 x.k,.int .i64 x.id,.int .i64 x.fr,.string ⟨x.ad.toArray⟩,.slice x.A x.n x.c]
def layD:Lay Dx where
 enc:=cellsD
 k:=5
 T:=28
 zero:=(dC 0 0 0 #[] none 0 0)
 bytes:=64
 len:=fun _=>rfl
 one:=fun a v hv=>by simp[cellsD] at hv;rcases hv with rfl | rfl | rfl | rfl | rfl<;>rfl
 pos:=by decide
 zlen:=rfl
 info:=by kernel_rfl
def FltD (w:World) (x:Dx):Prop:=x.f.length=x.n/\x.n<=x.c/\RdQ w x.A x.f
theorem FltD.below {w w':World} {x:Dx} (h:FltD w x) (hb:Below w.heap.size w w'):FltD w' x:=⟨h.1,h.2.1,RdK.below h.2.2 hb⟩
def RdDx (w:World) (A:OA) (xs:List Dx):Prop:=RdK layD w A xs/\∀x∈xs,FltD w x
theorem RdDx.below {w w':World} {A:OA} {xs:List Dx} (h:RdDx w A xs) (hb:Below w.heap.size w w'):RdDx w' A xs:=⟨RdK.below h.1 hb,fun x hx=>(h.2 x hx).below hb⟩
theorem RdDx.at5 {w:World} {A:OA} {es:List Dx} (h:RdDx w A es) {k:Nat} (hk:k<es.length):∃g off,A=some ⟨g,off,none⟩/\g<w.heap.size /\
  w.cell? ⟨g,off+k*5,none⟩=some (.int .i64 es[k].k)/\w.cell? ⟨g,off+k*5+1,none⟩=some (.int .i64 es[k].id)/\w.cell? ⟨g,off+k*5+2,none⟩=some (.int .i64 es[k].fr)/\w.cell? ⟨g,off+k*5+3,none⟩=some (.string ⟨es[k].ad.toArray⟩)/\w.cell? ⟨g,off+k*5+4,none⟩=some (.slice es[k].A es[k].n es[k].c)/\FltD w es[k]:=by
 obtain⟨g,off,rfl,hg,hc⟩:=RdK.at_ h.1 hk
 exact⟨g,off,rfl,hg,hc 0 _ rfl,hc 1 _ rfl,hc 2 _ rfl,hc 3 _ rfl,hc 4 _ rfl,h.2 _ (List.getElem_mem hk)⟩
def ShortD (xs:List Dx):Prop:=∀x∈xs,x.n<=100000/\PBd x.f
theorem Dm.Folds.app {s t:Bk} {l:List Dd} {n:Nat} {z:Int} (h:Dm.Folds s l t n z):z=0->∀{m:List Dd} {u:Bk} {k:Nat} {e:Int},Dm.Folds t m u k e->Dm.Folds s (l++m) u (n+k) e:=by
 induction h with
 | nil s=>intro _ m u k e hm;simpa using hm
 | bad h he=>intro hz;exact absurd hz he
 | good h k ih=>
  intro hz m u j e hm
  have:=ih hz hm
  rw[show ∀a b:Nat,a+1+b=a+b+1 from fun a b=>by omega]
  exact .good h this
theorem Dm.Folds.snoc {s t u:Bk} {l:List Dd} {n:Nat} {d:Dd} (h:Dm.Folds s l t n 0) (k:Does t d u 0):Dm.Folds s (l++[d]) u (n+1) 0:=h.app rfl (.good k (.nil u))
theorem Dm.Folds.stop {s t:Bk} {l:List Dd} {n:Nat} {d:Dd} {e:Int} (h:Dm.Folds s l t n 0) (k:Does t d t e) (he:e≠0) (m:List Dd):Dm.Folds s (l++d::m) t n e:=h.app rfl (.bad k he)
def FoldD (w:World) (b:Bk) (l:List Dd) (e:Ending) (w':World):Prop:=∃(t:Sx) (n:Nat) (er:Int),e=.returned (.tuple #[t.v,.int .i64 (n:Int),.int .i64 er])/\Dm.Folds b l t.bk n er/\Fresh w' w.heap.size t/\Below w.heap.size w w'
theorem dfold_at (s:Sx) (ln:s.Len) (fw:s.Few) (l:List Dx) (A:OA) (n c:Nat) (hn:l.length=n) (hm:n<=100000) (hsh:ShortD l) (w:World) (hr:Tb.Right s.bk) (hs:s.Rd w) (hrd:RdDx w A l):
  Calls Tryz.prog 18 #[s.v,.slice A n c] w (FoldD w s.bk (l.map Dx.dd)):=by
 have hb0:=(gr2 w (.cells (xC s.ep s.A s.n s.c s.A1 s.n1 s.c1 s.A2 s.n2 s.c2) 25) (.cells xZ 25)).below
 have HB:=Jh hb0
 have HR:=Jh (hs.below hb0)
 have HRDW:=Jh hrd
 have HS:=Jh ((Blk.new w 25 (xC s.ep s.A s.n s.c s.A1 s.n1 s.c1 s.A2 s.n2 s.c2)).alloc (.cells xZ 25))
 have hZ:=Blk.new (w.alloc (.cells (xC s.ep s.A s.n s.c s.A1 s.n1 s.c1 s.A2 s.n2 s.c2) 25)) 25 xZ
 rw[show (w.alloc (.cells (xC s.ep s.A s.n s.c s.A1 s.n1 s.c1 s.A2 s.n2 s.c2) 25)).heap.size=w.heap.size+1 by simp] at hZ
 have HZ:=Jh hZ
 have hs0:((w.alloc (.cells (xC s.ep s.A s.n s.c s.A1 s.n1 s.c1 s.A2 s.n2 s.c2) 25)).alloc (.cells xZ 25)).heap.size=w.heap.size+2:=by simp
 have HLN:=Jh ln
 have HFW:=Jh fw
 have HRT:=Jh hr
 have HN:=Jh hn
 have HSH:=Jh hsh
 clear hb0 hZ hs hrd ln fw hr hn hsh
 go_enter Tryz.func18,Tryz.ntmps18
 go_wp2_with fail
 generalize ((w.alloc (.cells (xC s.ep s.A s.n s.c s.A1 s.n1 s.c1 s.A2 s.n2 s.c2) 25)).alloc (.cells xZ 25))=w0 at *
 obtain⟨a0,a1,a2,a3,_⟩:=blk4 HS.o
 go_wp2_with fail
 clear a0 a1 a2 a3
 refine (copySt2_at s HLN.o HFW.o w0 HR.o).mono ?_
 rintro e w1 ⟨t,rfl,hbk,hlen,hown,hb1,hsep⟩
 have HBK:=Jh hbk
 replace HB:=Jh (below_next HB.o (Jn) hb1)
 replace HZ:=Jh (HZ.o.below hb1 HZ.o.lt)
 have hb2:=(gr1 w1 (.cells (xC t.ep t.A t.n t.c t.A1 t.n1 t.c1 t.A2 t.n2 t.c2) 75)).below
 have HE0:=Jh (EdS.mk (g:=w1.heap.size) (base:=w0.heap.size) (s:=t) (Blk.new w1 75 (xC t.ep t.A t.n t.c t.A1 t.n1 t.c1 t.A2 t.n2 t.c2)) (hown.below hb2) hlen hsep hb1.size)
 replace HB:=Jh (below_next HB.o (Jn) hb2)
 replace HZ:=Jh (HZ.o.below hb2 HZ.o.lt)
 clear hbk hlen hown hsep hb1 hb2 HR HS
 go_wp2_with fail
 generalize w1.alloc (.cells (xC t.ep t.A t.n t.c t.A1 t.n1 t.c1 t.A2 t.n2 t.c2) 75)=w2 at *
 generalize w1.heap.size=g at *
 have hsz:w.heap.size<=w0.heap.size:=by omega
 go_loopg [16] n (fun gg s16 wr=>∃(k:Nat) (u:Sx),k<=n/\n-k<=gg/\s16=.int .i64 (k:Int)/\Hid (EdS wr g w0.heap.size u)/\Hid (Dm.Folds s.bk ((l.take k).map Dx.dd) u.bk k 0)/\Hid (Below w.heap.size w wr)/\Hid (Blk wr (w.heap.size+1) 25 xZ))
 case atStart=>exact⟨0,t,Nat.zero_le _,by omega,rfl,HE0,by show Dm.Folds _ _ _ _ _;rw[HBK.o];exact .nil _,HB,HZ⟩
 case round=>
  obtain⟨k,u,hk,hgg,rfl,HE,HF,HB,HZ⟩:=hrel
  clear HE0
  have HRD:=Jh (HRDW.o.below HB.o)
  have HRU:Hid (Tb.Right u.bk):=(HF.o.right HRT.o).1
  by_cases hlt:k<n
  ·have hk':k<l.length:=by rw[HN.o];exact hlt
   obtain⟨ga,off,hAe,hga,c0,c1,c2,c3,c4,hfl⟩:=HRD.o.at5 hk'
   subst hAe
   have hsx:=HSH.o _ (List.getElem_mem hk')
   obtain⟨x,hx⟩:∃x,l[k]=x:=⟨_,rfl⟩
   have HX:=Jh hx
   rw[hx] at c0 c1 c2 c3 c4 hfl hsx
   clear hx
   obtain⟨xk,xi,xr,xa,xA,xn,xc,xf⟩:=x
   obtain⟨hf1,hf2,hf3⟩:=hfl
   obtain⟨hx1,hx2⟩:=hsx
   dsimp only at c0 c1 c2 c3 c4 hf1 hf2 hf3 hx1 hx2
   have w5:(k:Int)<(n:Int):=by omega
   have hb2:=(gr1 wr (.cells (dC xk xi xr xa.toArray xA xn xc) 28)).below
   have HF1:=Jh hf1
   have HF3:=Jh (RdK.below hf3 hb2)
   have HX2:=Jh hx2
   replace HE:=Jh (HE.o.below hb2)
   replace HB:=Jh (HB.o.trans (hb2.mono HB.o.size))
   replace HZ:=Jh (HZ.o.below hb2 HZ.o.lt)
   clear hb2 hf1 hf3 hx2
   go_wp2_with fail
   clear c0 c1 c2 c3 c4
   generalize wr.alloc (.cells (dC xk xi xr xa.toArray xA xn xc) 28)=w3 at *
   refine (edo_at g w0.heap.size u xk xi xr xa xf xA xn xc HF1.o hx1 HX2.o w3 HE.o HRU.o HF3.o).mono ?_
   rintro e w4 ⟨u2,er,hE,rfl,hdo,hb3⟩
   have HE4:=Jh hE
   have HDO:=Jh hdo
   replace HB:=Jh (HB.o.trans (hb3.mono hsz))
   replace HZ:=Jh (HZ.o.below hb3 (by omega))
   clear hE hdo hb3 HE HF3 HRD
   by_cases he:er=0
   ·subst he
    have HF2:Hid (Dm.Folds s.bk ((l.take (k+1)).map Dx.dd) u2.bk (k+1) 0):=by
     show Dm.Folds _ _ _ _ _
     rw[List.take_succ_eq_append_getElem hk',HX.o,List.map_append]
     exact HF.o.snoc HDO.o
    go_wp2_with fail
    go_roundg (n-(k+1))
    case measure=>omega
    case rel=>exact⟨k+1,u2,by omega,Jn,by go_num,HE4,HF2,HB,HZ⟩
   ·have v0:(er != 0)=true:=by simpa using he
    obtain⟨z0,z1,z2,z3,q0,q1,q2,q3⟩:=blk4 HZ.o
    obtain⟨y0,y1,y2,y3,_⟩:=blk4 HE4.o.blk
    have hgz:g≠w.heap.size+1:=by have:=HE4.o.le;omega
    have hsame:u2.bk=u.bk:=(HDO.o.right HRU.o).2.1 he
    have HF2:Hid (Dm.Folds s.bk (l.map Dx.dd) u2.bk k er):=by
     show Dm.Folds _ _ _ _ _
     have h1:=HDO.o
     rw[hsame] at h1 ⊢
     have h2:=HF.o.stop h1 he ((l.drop (k+1)).map Dx.dd)
     have h3:l.map Dx.dd=(l.take k).map Dx.dd++(⟨xk,xi,xr,xa,xf⟩:Dd)::(l.drop (k+1)).map Dx.dd:=by
      conv=>lhs;rw[<-List.take_append_drop k l,List.drop_eq_getElem_cons hk',HX.o,List.map_append,List.map_cons]
     rw[h3];exact h2
    clear hsame
    go_wp2_with fail
    refine bodyPost_ret (v:=.tuple #[Sx.v u2,.int .i64 (k:Int),.int .i64 er]) (by simp[results,Tryz.results18,go_sem,z0,z1,z2,z3]) rfl ?_
    exact⟨u2,k,er,rfl,HF2.o,(HE4.o.fresh.put (by omega) _ _ _ _).less hsz,below_put4 HB.o (by omega) _ _ _ _⟩
  ·have hkn:k=n:=by omega
   subst hkn
   have HF2:Hid (Dm.Folds s.bk (l.map Dx.dd) u.bk k 0):=by
    have h:=HF.o
    rwa [List.take_of_length_le (by rw[HN.o];exact Jn)] at h
   obtain⟨z0,z1,z2,z3,q0,q1,q2,q3⟩:=blk4 HZ.o
   obtain⟨y0,y1,y2,y3,_⟩:=blk4 HE.o.blk
   have hgz:g≠w.heap.size+1:=by have:=HE.o.le;omega
   go_wp2_with fail
   refine bodyPost_ret (v:=.tuple #[Sx.v u,.int .i64 (k:Int),.int .i64 0]) (by simp[results,Tryz.results18,go_sem,z0,z1,z2,z3]) rfl ?_
   exact⟨u,k,0,rfl,HF2.o,(HE.o.fresh.put (by omega) _ _ _ _).less hsz,below_put4 HB.o (by omega) _ _ _ _⟩
end
end Go.Proofs.YtnfigjggjmncdaaGreat
