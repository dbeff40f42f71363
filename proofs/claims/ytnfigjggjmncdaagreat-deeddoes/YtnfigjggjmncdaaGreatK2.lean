/- Contracts. -/
import Derived.Deep.CutRange
import Derived.Deep.CutBlock
import Derived.Test.YtnfigjggjmncdaaGreatX6
import Derived.Test.YtnfigjggjmncdaaGreatK1
set_option maxRecDepth 100000
set_option maxHeartbeats 4000000
namespace Go.Proofs.YtnfigjggjmncdaaGreat
section
open Go.RowKit Go.ChangeShapes Go.WideShapes Go.Deep Go.Sort Spans Tb Dm
def GivesT (w:World) (s:Sx) (er:Int) (l:List Lk) (e:Ending) (w':World):Prop:=((er≠0/\e=.returned (.tuple #[zeroS.v,.int .i64 er]))∨(er=0/\∃(A:OA) (m q:Nat),e=.returned (.tuple #[.agg (xC s.ep A m q s.A1 s.n1 s.c1 s.A2 s.n2 s.c2),.int .i64 0])/\l.length=m/\m<=q/\OwnLk w' w.heap.size (.slice A m q) l))/\Below w.heap.size w w'
theorem givesT_bad {w w':World} {s:Sx} {er r:Int} {l:List Lk} (e:er=r) (h:er≠0) (hb:Below w.heap.size w w'):GivesT w s r l (.returned (.tuple #[zeroS.v,.int .i64 er])) w':=by
 subst e
 exact⟨.inl ⟨h,rfl⟩,hb⟩
def lnkP (i:Int) (new:Lk) (st:List Lk × Bool) (x:Lk):List Lk × Bool:=if st.2=false/\i<=x.id then (st.1++[new],true) else st
theorem lnkS_eq (i:Int) (new:Lk) (st:List Lk × Bool) (x:Lk):lnkS i new st x=if x.id=i then lnkP i new st x else ((lnkP i new st x).1++[x],(lnkP i new st x).2):=rfl
theorem rlnk_at (s:Sx) (ln:s.Len) (hsm:s.n<=100000) (hp:s.ls.Pairwise fun a b=>a.id<b.id) (d:Dd) (D:OA) (f c2:Nat) (w:World) (hs:s.Rd w):
  Calls Tryz.prog 39 #[s.v,dV d D f c2] w (GivesT w s (linkR s.ls d).1 (linkR s.ls d).2):=by
 obtain⟨ep,sA,sn,sc,ls,A1,n1,c1,av,A2,n2,k2,su⟩:=s
 obtain⟨dk,di,df,da,fl⟩:=d
 dsimp only at *
 have hb0:=(gr3 w (.cells (xC ep sA sn sc A1 n1 c1 A2 n2 k2) 25) (.cells (dC dk di df da.toArray D f c2) 28) (.cells xZ 25)).below
 have hS0:=((Blk.new w 25 (xC ep sA sn sc A1 n1 c1 A2 n2 k2)).alloc (.cells (dC dk di df da.toArray D f c2) 28)).alloc (.cells xZ 25)
 have hD0:=(Blk.new (w.alloc (.cells (xC ep sA sn sc A1 n1 c1 A2 n2 k2) 25)) 28 (dC dk di df da.toArray D f c2)).alloc (.cells xZ 25)
 have hZ0:=Blk.new ((w.alloc (.cells (xC ep sA sn sc A1 n1 c1 A2 n2 k2) 25)).alloc (.cells (dC dk di df da.toArray D f c2) 28)) 25 xZ
 rw[show ((w.alloc (.cells (xC ep sA sn sc A1 n1 c1 A2 n2 k2) 25)).alloc (.cells (dC dk di df da.toArray D f c2) 28)).heap.size=w.heap.size+2 by simp] at hZ0
 rw[show (w.alloc (.cells (xC ep sA sn sc A1 n1 c1 A2 n2 k2) 25)).heap.size=w.heap.size+1 by simp] at hD0
 have BX:=Jh hS0
 have BD:=Jh hD0
 have BZ:=Jh hZ0
 have BB:=Jh hb0
 have HW:=Jh hs
 have LN:=Jh ln
 have HP:=Jh hp
 have RL:=Jh (RdK.below hs.ls hb0)
 have hsz:w.heap.size+3<=(((w.alloc (.cells (xC ep sA sn sc A1 n1 c1 A2 n2 k2) 25)).alloc (.cells (dC dk di df da.toArray D f c2) 28)).alloc (.cells xZ 25)).heap.size:=by simp
 have hlen:ls.length=sn:=ln.n
 have HN:=Jh hlen
 obtain⟨r,hr⟩:∃r,findL ls di=r:=⟨_,rfl⟩
 have HFL:=Jh hr
 obtain⟨rr,hrr⟩:∃rr,linkR ls ⟨dk,di,df,da,fl⟩=rr:=⟨_,rfl⟩
 rw[hrr]
 have HRR:=Jh hrr
 clear hb0 hS0 hD0 hZ0 hs ln hp hlen hr hrr
 go_enter Tryz.func39,Tryz.ntmps39
 go_wp2_with fail
 generalize (((w.alloc (.cells (xC ep sA sn sc A1 n1 c1 A2 n2 k2) 25)).alloc (.cells (dC dk di df da.toArray D f c2) 28)).alloc (.cells xZ 25))=w0 at *
 obtain⟨x0,x1,x2,x3,_⟩:=blk4 BX.o
 obtain⟨d0,d1,d2,d3,d4,_⟩:=blk5 BD.o
 go_wp2_with fail
 clear x0 x1 x2 x3 d0 d1 d2 d3 d4
 refine (rlink_at ⟨ep,sA,sn,sc,ls,A1,n1,c1,av,A2,n2,k2,su⟩ di HN.o hsm w0 RL.o r HFL.o).mono ?_
 rintro e w1 ⟨rfl,hb⟩
 replace hb:=hb.trans ((gr1 w1 (.cells #[.int .i64 (r.getD ⟨0,[]⟩).id,.string ⟨(r.getD ⟨0,[]⟩).ad.toArray⟩] 46)).below.mono hb.size)
 replace BX:=Jh (Blk.below BX.o hb BX.o.lt)
 replace BD:=Jh (Blk.below BD.o hb BD.o.lt)
 replace BZ:=Jh (Blk.below BZ.o hb BZ.o.lt)
 replace RL:=Jh (RdK.below RL.o hb)
 replace BB:=Jh (below_next BB.o (Jn) hb)
 have hsz2:=hb.size
 clear hb
 obtain⟨is,his⟩:∃q,r.isSome=q:=⟨_,rfl⟩
 have HIS:Hid (is=true↔Linked ls di):=by show _↔_;rw[<-his,<-HFL.o];exact findL_some
 rw[his]
 clear his HFL
 have hsz3:w.heap.size+3<=(w1.alloc (.cells #[.int .i64 (r.getD ⟨0,[]⟩).id,.string ⟨(r.getD ⟨0,[]⟩).ad.toArray⟩] 46)).heap.size:=Nat.le_trans hsz hsz2
 clear hsz hsz2
 obtain⟨x0,x1,x2,x3,_⟩:=blk4 BX.o
 have hlx:=BX.o.lt
 by_cases hbad:is=false/\16<=sn
 ·obtain⟨rfl,h16⟩:=hbad
  have hd:decide ((16:Int)<=(sn:Int))=true:=decide_eq_true (by omega)
  have HF0:Hid ((4:Int)=rr.1):=by
   show _=_
   rw[<-HRR.o];unfold linkR;rw[if_neg (fun h=>by have:=HIS.o.2 h;cases this),if_pos (by rw[HN.o];exact h16)]
  obtain⟨z0,z1,z2,z3,q0,q1,q2,q3⟩:=blk4 BZ.o
  go_wp2_with fail
  refine bodyPost_ret (v:=.tuple #[Sx.v zeroS,.int .i64 4]) (by simp[zeroS,results,Tryz.results39,go_sem,z0,z1,z2,z3]) rfl ?_
  exact givesT_bad HF0.o (by decide) (below_put4 BB.o (by omega) _ _ _ _)
 have HOK:Hid (rr=(0,if Linked ls di then ls.set (place Lk.id ls di) ⟨di,da⟩ else ins ls (place Lk.id ls di) ⟨di,da⟩)):=by
  show _=_
  rw[<-HRR.o];unfold linkR
  by_cases hl:Linked ls di
  ·rw[if_pos hl,if_pos hl]
  ·rw[if_neg hl,if_neg hl,if_neg]
   intro h
   refine hbad ⟨?_,by rw[<-HN.o];exact h⟩
   cases hq:is with
   | false=>rfl
   | true=>exact absurd (HIS.o.1 hq) hl
 have hcs:is=true∨(is=false/\decide ((16:Int)<=(sn:Int))=false):=by
  cases hq:is with
  | true=>exact .inl rfl
  | false=>exact .inr ⟨rfl,decide_eq_false fun h=>hbad ⟨hq,by omega⟩⟩
 clear hbad HRR HIS
 rcases hcs with rfl|⟨rfl,hd16⟩
 all_goals
  go_wp2_with fail
  clear x0 x1 x2 x3 hlx
  generalize w1.alloc (.cells #[.int .i64 (r.getD ⟨0,[]⟩).id,.string ⟨(r.getD ⟨0,[]⟩).ad.toArray⟩] 46)=w2 at *
  go_loopg [8,9,10] sn (fun gg s8 s9 s10 wr=>∃(k m q:Nat) (B:OA) (b:Bool) (Y:List Lk),k<=sn/\sn-k<=gg/\s10=.int .i64 (k:Int)/\s8=.slice B m q/\s9=.bool b/\m<=q/\m<=2*k/\Hid (lnkT ls di ⟨di,da⟩ k=(Y,b))/\Hid (Y.length=m)/\Hid (OwnLk wr w2.heap.size (.slice B m q) Y)/\Hid (Below w2.heap.size w2 wr))
  case atStart=>exact⟨0,0,0,none,false,[],Nat.zero_le _,by omega,rfl,rfl,rfl,Jn,Jn,rfl,rfl,OwnK.none_ _ _,Below.refl _ _⟩
  case round=>
   obtain⟨k,m,q,B,b,Y,hk,hgg,rfl,rfl,rfl,hmq,hmk,HT,HM,HO,HB⟩:=hrel
   have BX2:=Jh (Blk.below BX.o HB.o BX.o.lt)
   have BD2:=Jh (Blk.below BD.o HB.o BD.o.lt)
   by_cases hlt:k<sn
   ·have hk':k<ls.length:=by rw[HN.o];exact hlt
    have RL2:=Jh (RdK.below RL.o HB.o)
    obtain⟨g,off,hAe,hg,c0,c1⟩:=RdLk.at2 RL2.o hk'
    subst hAe
    obtain⟨x,hx⟩:∃x,ls[k]=x:=⟨_,rfl⟩
    have HX:=Jh hx
    rw[hx] at c0 c1
    clear hx
    obtain⟨xi,xa⟩:=x
    dsimp only at c0 c1
    have HTS:Hid (lnkT ls di ⟨di,da⟩ (k+1)=lnkS di ⟨di,da⟩ (Y,b) ⟨xi,xa⟩):=by show _=_;rw[lnkT_succ hk',HX.o,HT.o]
    obtain⟨p,hp2⟩:∃p:Bool,(!b && decide (di<=xi))=p:=⟨_,rfl⟩
    have HP2:=Jh hp2
    have w5:(k:Int)<(sn:Int):=by omega
    obtain⟨x0,x1,x2,x3,_⟩:=blk4 BX2.o
    have hlx:=BX2.o.lt
    clear hp2
    go_upto_region 9 with fail
    clear x0 x1 x2 x3 hlx
    go_cut [46] from 27 to 71 (fun s46 wx=>s46=.bool p/\Hid (Below wr.heap.size wr wx))
    case first=>
     obtain⟨x0,x1,x2,x3⟩:=gx4 BX2.o
     obtain⟨d0,d1,d2,d3,d4⟩:=gx5 BD2.o
     have z0:=gx_cell c0
     clear c0 c1
     have hpp:=HP2.o
     cases b with
     | true=>
      obtain rfl:p=false:=by rw[<-hpp];rfl
      clear hpp
      refine qbr (fun nq osq=>?_)
      go_wp2_with fail
      go_meet
      exact⟨rfl,below_gx wr nq osq⟩
     | false=>
      have hd2:decide (di<=xi)=p:=by rw[<-hpp];rfl
      clear hpp
      refine qbr (fun nq osq=>?_)
      go_wp2_with fail
      go_meet
      exact⟨rfl,below_gx wr nq osq⟩
    case rest=>
     obtain⟨rfl,HBc⟩:=hcut
     replace BX2:=Jh (Blk.below BX2.o HBc.o BX2.o.lt)
     replace BD2:=Jh (Blk.below BD2.o HBc.o BD2.o.lt)
     replace RL2:=Jh (RdK.below RL2.o HBc.o)
     replace HO:=Jh (OwnK.below HO.o HBc.o)
     replace HB:=Jh (below_next HB.o (Jn) HBc.o)
     clear HBc c0 c1 hg
     go_upto_if 46 with fail
     go_cut [8,9] from 27 to 71 (fun s8 s9 wx=>∃(m2 q2:Nat) (B2:OA) (b2:Bool) (Y2:List Lk),s8=.slice B2 m2 q2/\s9=.bool b2/\m2<=q2/\m2<=2*k+1/\Hid (lnkP di ⟨di,da⟩ (Y,b) ⟨xi,xa⟩=(Y2,b2))/\Hid (Y2.length=m2)/\Hid (OwnLk wx w2.heap.size (.slice B2 m2 q2) Y2)/\Hid (Below w2.heap.size w2 wx))
     case first=>
      have hpp:=HP2.o
      cases p with
      | true=>
       have HPP:Hid (lnkP di ⟨di,da⟩ (Y,b) ⟨xi,xa⟩=(Y++[⟨di,da⟩],true)):=by
        rw[Bool.and_eq_true,decide_eq_true_iff] at hpp
        show (if _ then _ else _)=_
        rw[if_pos ⟨by simpa using hpp.1,hpp.2⟩]
       obtain⟨d0,d1,d2,d3,d4,_⟩:=blk5 BD2.o
       have hld:=BD2.o.lt
       have hrx:=rdk_one layL wc ⟨di,da⟩ 46 #[.int .i64 di,.string ⟨da.toArray⟩] rfl
       have hbq:Below wc.heap.size wc (wc.alloc (.cells #[.int .i64 di,.string ⟨da.toArray⟩] 46)):=(gr1 wc _).below
       have ho3:=OwnK.below HO.o hbq
       have hs3:w2.heap.size<=(wc.alloc (.cells #[.int .i64 di,.string ⟨da.toArray⟩] 46)).heap.size:=Nat.le_trans HB.o.size hbq.size
       have hb3:=below_next HB.o (Jn) hbq
       have hlm:=HM.o
       clear hpp
       go_wp2_with (at_builtin;refine wpList_append_k layL (by rfl) (.tmp 47) (.tmp 53) 22 underL rfl w2.heap.size _ Y (by rfl) ho3 _ [⟨di,da⟩] 1 1 (by rfl) hrx rfl (by rw[maxLen_num,hlm];omega) (by simp only[layL];rw[hlm];omega) hs3 ?_;intro v2 y2 o2 b2 _ _;have hl2:(Y++[(⟨di,da⟩:Lk)]).length=m+1:=(by rw[List.length_append,hlm];rfl);obtain⟨B2,q2,hv2,hd2,_⟩:=OwnK.form o2 hl2;subst hv2;have HB3:=Jh (b2 w2 hb3);have HO3:=Jh o2;have HM3:=Jh hl2;clear b2 o2 hl2 hb3 ho3 hrx hbq hs3 hlm d0 d1 d2 d3 d4 hld)
       go_meet
       exact⟨m+1,q2,B2,true,_,rfl,rfl,hd2,by omega,HPP,HM3,HO3,HB3⟩
      | false=>
       have HPP:Hid (lnkP di ⟨di,da⟩ (Y,b) ⟨xi,xa⟩=(Y,b)):=by
        show (if _ then _ else _)=_
        rw[if_neg]
        rintro ⟨h1,h2⟩
        rw[show b=false from h1,decide_eq_true (p:=di<=xi) h2] at hpp
        cases hpp
       clear hpp
       go_wp2_with fail
       go_meet
       exact⟨m,q,B,b,Y,rfl,rfl,hmq,by omega,HPP,HM,HO,HB⟩
     case rest=>
      obtain⟨m2,q2,B2,b2,Y2,rfl,rfl,hmq2,hmk2,HT2,HM2,HO2,HB2⟩:=hcut
      clear HM HO HT HB BX2 BD2 RL2
      have BX3:=Jh (Blk.below BX.o HB2.o BX.o.lt)
      have BD3:=Jh (Blk.below BD.o HB2.o BD.o.lt)
      obtain⟨g2,off2,hAe2,hg2,c0,c1⟩:=RdLk.at2 (RdK.below RL.o HB2.o) hk'
      injection hAe2 with hAe2
      injection hAe2 with hA1 hA2 hA3
      subst hA1 hA2
      rw[HX.o] at c0 c1
      dsimp only at c0 c1
      obtain⟨x0,x1,x2,x3⟩:=gx4 BX3.o
      obtain⟨d0,d1,d2,d3,d4⟩:=gx5 BD3.o
      have z0:=gx_cell c0
      have z1:=gx_cell c1
      go_upto_region 12 with fail
      refine qbr (fun nq osq=>?_)
      have f0:=z0 nq osq
      have f1:=z1 nq osq
      have f2:=x1 nq osq
      have hbg:=below_gx wc nq osq
      replace HO2:=Jh (OwnK.below HO2.o hbg)
      replace HB2:=Jh (below_next HB2.o (Jn) hbg)
      clear z0 z1 x0 x1 x2 x3 d0 d1 d2 d3 d4 c0 c1 hbg BX3 BD3
      generalize gx wc nq osq=wd at *
      by_cases hxi:xi=di
      ·have hd:(xi != di)=false:=by simpa using hxi
       have HTN:Hid (lnkT ls di ⟨di,da⟩ (k+1)=(Y2,b2)):=by show _=_;rw[HTS.o,lnkS_eq,if_pos hxi];exact HT2.o
       clear hxi
       go_wp2_with fail
       go_roundg (sn-(k+1))
       case measure=>omega
       case rel=>exact⟨k+1,m2,q2,B2,b2,Y2,by omega,Jn,by go_num,rfl,rfl,hmq2,by omega,HTN,HM2,HO2,HB2⟩
      ·have hd:(xi != di)=true:=by simpa using hxi
       have HTN:Hid (lnkT ls di ⟨di,da⟩ (k+1)=(Y2++[⟨xi,xa⟩],b2)):=by show _=_;rw[HTS.o,lnkS_eq,if_neg hxi,HT2.o]
       have hrx:=rdk_one layL wd ⟨xi,xa⟩ 46 #[.int .i64 xi,.string ⟨xa.toArray⟩] rfl
       clear hxi
       have hbq:Below wd.heap.size wd (wd.alloc (.cells #[.int .i64 xi,.string ⟨xa.toArray⟩] 46)):=(gr1 wd _).below
       have ho3:=OwnK.below HO2.o hbq
       have hs3:w2.heap.size<=(wd.alloc (.cells #[.int .i64 xi,.string ⟨xa.toArray⟩] 46)).heap.size:=Nat.le_trans HB2.o.size hbq.size
       have hb3:=below_next HB2.o (Jn) hbq
       have hlm:=HM2.o
       go_wp2_with (at_builtin;refine wpList_append_k layL (by rfl) (.tmp 64) (.tmp 70) 22 underL rfl w2.heap.size _ Y2 (by rfl) ho3 _ [⟨xi,xa⟩] 1 1 (by rfl) hrx rfl (by rw[maxLen_num,hlm];omega) (by simp only[layL];rw[hlm];omega) hs3 ?_;intro v2 y2 o2 b3 _ _;have hl2:(Y2++[(⟨xi,xa⟩:Lk)]).length=m2+1:=(by rw[List.length_append,hlm];rfl);obtain⟨B3,q3,hv3,hd3,_⟩:=OwnK.form o2 hl2;subst hv3;have HB3:=Jh (b3 w2 hb3);have HO3:=Jh o2;have HM3:=Jh hl2;clear b3 o2 hl2 hb3 ho3 hrx hbq hs3 hlm f0 f1 f2)
       go_roundg (sn-(k+1))
       case measure=>omega
       case rel=>exact⟨k+1,m2+1,q3,B3,b2,_,by omega,Jn,by go_num,rfl,rfl,hd3,by omega,HTN,HM3,HO3,HB3⟩
   ·obtain rfl:sn=k:=by omega
    have HFIN:Hid (rr=(0,lnkE (Y,b) ⟨di,da⟩)):=by
     show _=_
     have h1:=HT.o
     unfold lnkT at h1
     rw[List.take_of_length_le (by rw[HN.o];exact Jn)] at h1
     rw[HOK.o,<-h1,lnk_all ls [] HP.o,List.nil_append]
    have BZ2:=Jh (Blk.below BZ.o HB.o BZ.o.lt)
    have HBF:=Jh (below_next BB.o (Jn) HB.o)
    obtain⟨x0,x1,x2,x3,_⟩:=blk4 BX2.o
    obtain⟨d0,d1,d2,d3,d4,_⟩:=blk5 BD2.o
    have hld:=BD2.o.lt
    have hlx:=BX2.o.lt
    cases b with
    | true=>
     obtain⟨z0,z1,z2,z3,q0,q1,q2,q3⟩:=blk4 BZ2.o
     obtain⟨_,_,_,_,y0,y1,y2,y3⟩:=blk4 BX2.o
     go_wp2_with fail
     refine bodyPost_ret (v:=.tuple #[Sx.v ⟨ep,B,m,q,Y,A1,n1,c1,av,A2,n2,k2,su⟩,.int .i64 0]) (by simp[results,Tryz.results39,go_sem,z0,z1,z2,z3]) rfl ?_
     have hbf:=below_put4 (below_set HBF.o (Nat.le_refl w.heap.size) (i:=1) (u:=.slice B m q)) (show w.heap.size<=w.heap.size+2 by omega) (.int .i64 ep) (.slice B m q) (.slice A1 n1 c1) (.slice A2 n2 k2)
     rw[HFIN.o]
     exact⟨.inr ⟨rfl,B,m,q,rfl,HM.o,hmq,(OwnK.put4 (OwnK.set_ HO.o (by omega) 1 _) (by omega) _ _ _ _).less (by omega)⟩,hbf⟩
    | false=>
     have hrx:=rdk_one layL wr ⟨di,da⟩ 46 #[.int .i64 di,.string ⟨da.toArray⟩] rfl
     have hbq:Below wr.heap.size wr (wr.alloc (.cells #[.int .i64 di,.string ⟨da.toArray⟩] 46)):=(gr1 wr _).below
     have ho3:=OwnK.below HO.o hbq
     have hs3:w2.heap.size<=(wr.alloc (.cells #[.int .i64 di,.string ⟨da.toArray⟩] 46)).heap.size:=Nat.le_trans HB.o.size hbq.size
     have hb3:=below_next HB.o (Jn) hbq
     have hlm:=HM.o
     go_wp2_with (at_builtin;refine wpList_append_k layL (by rfl) (.tmp 74) (.tmp 80) 22 underL rfl w2.heap.size _ Y (by rfl) ho3 _ [⟨di,da⟩] 1 1 (by rfl) hrx rfl (by rw[maxLen_num,hlm];omega) (by simp only[layL];rw[hlm];omega) hs3 ?_;intro v2 y2 o2 b3 _ _;have hl2:(Y++[(⟨di,da⟩:Lk)]).length=m+1:=(by rw[List.length_append,hlm];rfl);obtain⟨B3,q4,hv3,hd3,_⟩:=OwnK.form o2 hl2;subst hv3;have HB3:=Jh (b3 w2 hb3);have HO3:=Jh o2;have HM3:=Jh hl2;clear b3 o2 hl2 hb3 ho3 hrx hbq hs3 hlm x0 x1 x2 x3 d0 d1 d2 d3 d4 hld hlx;replace BX2:=Jh (Blk.below BX.o HB3.o BX.o.lt);replace BZ2:=Jh (Blk.below BZ.o HB3.o BZ.o.lt);replace HBF:=Jh (below_next BB.o (Jn) HB3.o);obtain⟨x0,x1,x2,x3,y0,y1,y3,y4⟩:=blk4 BX2.o;obtain⟨z0,z1,z2,z3,q0,q1,q2,q3⟩:=blk4 BZ2.o;have hlx:=BX2.o.lt)
     refine bodyPost_ret (v:=.tuple #[Sx.v ⟨ep,B3,m+1,q4,Y++[⟨di,da⟩],A1,n1,c1,av,A2,n2,k2,su⟩,.int .i64 0]) (by simp[results,Tryz.results39,go_sem,z0,z1,z2,z3]) rfl ?_
     have hbf:=below_put4 (below_set HBF.o (Nat.le_refl w.heap.size) (i:=1) (u:=.slice B3 (m+1) q4)) (show w.heap.size<=w.heap.size+2 by omega) (.int .i64 ep) (.slice B3 (m+1) q4) (.slice A1 n1 c1) (.slice A2 n2 k2)
     rw[HFIN.o]
     exact⟨.inr ⟨rfl,B3,m+1,q4,rfl,HM3.o,hd3,(OwnK.put4 (OwnK.set_ HO3.o (by omega) 1 _) (by omega) _ _ _ _).less (by omega)⟩,hbf⟩
theorem from_ex {es:List Ex} {i:Int}:From (es.map Ex.en) i↔∃x∈es,x.fr=i:=by
 constructor
 ·rintro ⟨y,hy,e⟩;obtain⟨x,hx,rfl⟩:=List.mem_map.1 hy;exact⟨x,hx,e⟩
 ·rintro ⟨x,hx,e⟩;exact⟨_,List.mem_map.2 ⟨x,hx,rfl⟩,e⟩
theorem rulk_at (s:Sx) (ln:s.Len) (hsm:s.n<=100000) (hs1:s.n1<=100000) (hs2:s.n2<=100000) (hp:s.ls.Pairwise fun a b=>a.id<b.id) (d:Dd) (D:OA) (f c2:Nat) (w:World) (hs:s.Rd w):
  Calls Tryz.prog 40 #[s.v,dV d D f c2] w (GivesT w s (unlinkR s.bk d).1 (unlinkR s.bk d).2):=by
 obtain⟨ep,sA,sn,sc,ls,A1,n1,c1,av,A2,n2,k2,su⟩:=s
 obtain⟨dk,di,df,da,fl⟩:=d
 dsimp only at *
 have hb0:=(gr3 w (.cells (xC ep sA sn sc A1 n1 c1 A2 n2 k2) 25) (.cells (dC dk di df da.toArray D f c2) 28) (.cells xZ 25)).below
 have hS0:=((Blk.new w 25 (xC ep sA sn sc A1 n1 c1 A2 n2 k2)).alloc (.cells (dC dk di df da.toArray D f c2) 28)).alloc (.cells xZ 25)
 have hD0:=(Blk.new (w.alloc (.cells (xC ep sA sn sc A1 n1 c1 A2 n2 k2) 25)) 28 (dC dk di df da.toArray D f c2)).alloc (.cells xZ 25)
 have hZ0:=Blk.new ((w.alloc (.cells (xC ep sA sn sc A1 n1 c1 A2 n2 k2) 25)).alloc (.cells (dC dk di df da.toArray D f c2) 28)) 25 xZ
 rw[show ((w.alloc (.cells (xC ep sA sn sc A1 n1 c1 A2 n2 k2) 25)).alloc (.cells (dC dk di df da.toArray D f c2) 28)).heap.size=w.heap.size+2 by simp] at hZ0
 rw[show (w.alloc (.cells (xC ep sA sn sc A1 n1 c1 A2 n2 k2) 25)).heap.size=w.heap.size+1 by simp] at hD0
 have BX:=Jh hS0
 have BD:=Jh hD0
 have BZ:=Jh hZ0
 have BB:=Jh hb0
 have HW:=Jh hs
 have LN:=Jh ln
 have HP:=Jh hp
 have RL:=Jh (RdK.below hs.ls hb0)
 have hsz:w.heap.size+3<=(((w.alloc (.cells (xC ep sA sn sc A1 n1 c1 A2 n2 k2) 25)).alloc (.cells (dC dk di df da.toArray D f c2) 28)).alloc (.cells xZ 25)).heap.size:=by simp
 have hlen:ls.length=sn:=ln.n
 have HN:=Jh hlen
 have RA:=Jh (hs.av.below hb0)
 have RU:=Jh (hs.su.below hb0)
 have HN1:Hid (av.length=n1):=ln.n1
 have HN2:Hid (su.length=n2):=ln.n2
 obtain⟨r,hr⟩:∃r,findL ls di=r:=⟨_,rfl⟩
 have HFL:=Jh hr
 obtain⟨rr,hrr⟩:∃rr,unlinkR ⟨ep,ls,av.map Ex.en,su.map Ex.en⟩ ⟨dk,di,df,da,fl⟩=rr:=⟨_,rfl⟩
 rw[hrr]
 have HRR:=Jh hrr
 clear hb0 hS0 hD0 hZ0 hs ln hp hlen hr hrr
 go_enter Tryz.func40,Tryz.ntmps40
 go_wp2_with fail
 generalize (((w.alloc (.cells (xC ep sA sn sc A1 n1 c1 A2 n2 k2) 25)).alloc (.cells (dC dk di df da.toArray D f c2) 28)).alloc (.cells xZ 25))=w0 at *
 obtain⟨x0,x1,x2,x3,_⟩:=blk4 BX.o
 obtain⟨d0,d1,d2,d3,d4,_⟩:=blk5 BD.o
 go_wp2_with fail
 clear x0 x1 x2 x3 d0 d1 d2 d3 d4
 refine (rlink_at ⟨ep,sA,sn,sc,ls,A1,n1,c1,av,A2,n2,k2,su⟩ di HN.o hsm w0 RL.o r HFL.o).mono ?_
 rintro e w1 ⟨rfl,hb⟩
 replace hb:=hb.trans ((gr1 w1 (.cells #[.int .i64 (r.getD ⟨0,[]⟩).id,.string ⟨(r.getD ⟨0,[]⟩).ad.toArray⟩] 46)).below.mono hb.size)
 replace BX:=Jh (Blk.below BX.o hb BX.o.lt)
 replace BD:=Jh (Blk.below BD.o hb BD.o.lt)
 replace BZ:=Jh (Blk.below BZ.o hb BZ.o.lt)
 replace RL:=Jh (RdK.below RL.o hb)
 replace RA:=Jh (RA.o.below hb)
 replace RU:=Jh (RU.o.below hb)
 replace BB:=Jh (below_next BB.o (Jn) hb)
 have hsz2:=hb.size
 clear hb
 obtain⟨is,his⟩:∃q,r.isSome=q:=⟨_,rfl⟩
 have HIS:Hid (is=true↔Linked ls di):=by show _↔_;rw[<-his,<-HFL.o];exact findL_some
 rw[his]
 clear his HFL
 have hsz3:w.heap.size+3<=(w1.alloc (.cells #[.int .i64 (r.getD ⟨0,[]⟩).id,.string ⟨(r.getD ⟨0,[]⟩).ad.toArray⟩] 46)).heap.size:=Nat.le_trans hsz hsz2
 clear hsz hsz2
 cases is with
 | false=>
  have HF0:Hid ((7:Int)=rr.1):=by
   show _=_
   rw[<-HRR.o];unfold unlinkR;rw[if_neg (fun h=>by have:=HIS.o.2 h;cases this)]
  obtain⟨z0,z1,z2,z3,q0,q1,q2,q3⟩:=blk4 BZ.o
  go_wp2_with fail
  refine bodyPost_ret (v:=.tuple #[Sx.v zeroS,.int .i64 7]) (by simp[zeroS,results,Tryz.results40,go_sem,z0,z1,z2,z3]) rfl ?_
  exact givesT_bad HF0.o (by decide) (below_put4 BB.o (by omega) _ _ _ _)
 | true=>
  have HLK:Hid (Linked ls di):=HIS.o.1 rfl
  go_upto_region 4 with fail
  generalize w1.alloc (.cells #[.int .i64 (r.getD ⟨0,[]⟩).id,.string ⟨(r.getD ⟨0,[]⟩).ad.toArray⟩] 46)=w2 at *
  have hS0:Blk w2.drew w.heap.size 25 (xC ep sA sn sc A1 n1 c1 A2 n2 k2):=Blk.below BX.o (show Below w2.heap.size w2 w2.drew from (Below.refl _ _).drew) BX.o.lt
  refine wp_region_held_drew (S:=fun w'=>Blk w' w.heap.size 25 (xC ep sA sn sc A1 n1 c1 A2 n2 k2)) (by kernel_rfl) hS0 (fun _=>?_)
  refine Jz 1 hS0 ?_ (hv:=by intro w' hSw;obtain⟨r0,r1,r2,r3,_⟩:=blk4 hSw;go_simp<;>with_reducible rfl)
  refine Jz 2 hS0 ?_ (hv:=by intro w' hSw;obtain⟨r0,r1,r2,r3,_⟩:=blk4 hSw;go_simp<;>with_reducible rfl)
  refine Jz 4 hS0 ?_ (hv:=by intro w' hSw;obtain⟨r0,r1,r2,r3,_⟩:=blk4 hSw;go_simp<;>with_reducible rfl)
  refine Jz 5 hS0 ?_ (hv:=by intro w' hSw;obtain⟨r0,r1,r2,r3,_⟩:=blk4 hSw;go_simp<;>with_reducible rfl)
  have hbd:Below w2.heap.size w2 w2.drew:=(Below.refl _ _).drew
  replace BX:=Jh hS0
  replace BD:=Jh (Blk.below BD.o hbd BD.o.lt)
  replace BZ:=Jh (Blk.below BZ.o hbd BZ.o.lt)
  replace RL:=Jh (RdK.below RL.o hbd)
  replace RA:=Jh (RA.o.below hbd)
  replace RU:=Jh (RU.o.below hbd)
  replace BB:=Jh BB.o.drew
  have hsz4:w.heap.size+3<=w2.drew.heap.size:=Nat.le_trans hsz3 hbd.size
  clear hS0 hbd hsz3
  generalize w2.drew=wA at *
  have BXA:=BX
  have BDA:=BD
  have BZA:=BZ
  refine Je 0 (fun K hK=>?_)
  go_simp
  have hO0:OwnK layE (wA.alloc (.cells #[] 44)) wA.heap.size (.slice (some ⟨wA.heap.size,0,none⟩) 0 0) []:=OwnK.empty wA wA.heap.size (Jn)
  have hb:Below wA.heap.size wA (wA.alloc (.cells #[] 44)):=(gr1 wA _).below
  have hs6:=hb.size
  have hbA:=hb
  replace BX:=Jh (Blk.below BX.o hb BX.o.lt)
  replace BD:=Jh (Blk.below BD.o hb BD.o.lt)
  replace BZ:=Jh (Blk.below BZ.o hb BZ.o.lt)
  clear hb
  generalize wA.alloc (.cells #[] 44)=wB at *
  refine hK.o _ _ BX.o ?_
  clear hK
  have hra:=RdK.below RA.o.1 hbA
  refine Je 3 (fun K hK=>?_)
  refine op_append_k layE (.tmp 22) (.tmp 24) 23 underE (by rfl) wA.heap.size _ [] (by rfl) hO0 A1 av n1 c1 (by rfl) hra HN1.o (by rw[maxLen_num];simp;omega) (by simp only[layE];simp;omega) hs6 ?_
  intro v3 wC o7 hbx
  have hbC:=hbx wA hbA
  clear hbx
  rw[List.nil_append] at o7
  obtain⟨A7,c7,hv7,hc7,_⟩:=OwnK.form o7 HN1.o
  subst hv7
  have hxl:w.heap.size<wA.heap.size:=by omega
  have hdl:w.heap.size+1<wA.heap.size:=by omega
  have hzl:w.heap.size+2<wA.heap.size:=by omega
  refine hK.o _ _ (Blk.below BXA.o hbC hxl) ?_
  clear hK hO0 hra
  simp only[Act.put,zu0,zu1,zu2]
  have hsC:=hbC.size
  have hru:=RdK.below RU.o.1 hbC
  refine Je 6 (fun K hK=>?_)
  refine op_append_k layE (.tmp 25) (.tmp 27) 23 underE (by rfl) wA.heap.size _ av (by rfl) o7 A2 su n2 k2 (by rfl) hru HN2.o (by rw[maxLen_num,HN1.o];omega) (by simp only[layE];rw[HN1.o];omega) hsC ?_
  intro v6 wD o9 hbx
  have hbD:=hbx wA hbC
  clear hbx
  have hl9:(av++su).length=n1+n2:=by rw[List.length_append,HN1.o,HN2.o]
  obtain⟨A9,c9,hv9,hc9,_⟩:=OwnK.form o9 hl9
  subst hv9
  have HO9:=Jh (rdk_own o9)
  have HL9:=Jh hl9
  clear o9 o7 hru hl9 hsC hbC
  have BX9:=Jh (Blk.below BXA.o hbD hxl)
  refine hK.o _ _ BX9.o ?_
  clear hK
  simp only[Act.put,zu0,zu1,zu2]
  refine Jz 7 BX9.o ?_ (hv:=by intro w' hSw;obtain⟨r0,r1,r2,r3,_⟩:=blk4 hSw;go_simp<;>with_reducible rfl)
  refine Jd ?_
  replace BX:=BX9
  replace BD:=Jh (Blk.below BDA.o hbD hdl)
  replace BZ:=Jh (Blk.below BZA.o hbD hzl)
  replace RL:=Jh (RdK.below RL.o hbD)
  replace BB:=Jh (below_next BB.o (Jn) hbD)
  have hsD:w.heap.size+3<=wD.heap.size:=Nat.le_trans hsz4 hbD.size
  clear BX9 BXA BDA BZA hs6 hbA hbD hxl hdl hzl RA RU hsz4
  go_wp2_with fail
  go_loopg [9] (n1+n2) (fun gg s9 wr=>∃k:Nat,k<=n1+n2/\n1+n2-k<=gg/\s9=.int .i64 (k:Int)/\Hid (Below wD.heap.size wD wr)/\Hid (∀x∈(av++su).take k,x.fr≠di))
  case atStart=>exact⟨0,Nat.zero_le _,by omega,rfl,Below.refl _ _,by show ∀_,_;simp⟩
  case round=>
   obtain⟨k,hk,hgg,rfl,HB,HA⟩:=hrel
   have BX2:=Jh (Blk.below BX.o HB.o BX.o.lt)
   have BD2:=Jh (Blk.below BD.o HB.o BD.o.lt)
   have BZ2:=Jh (Blk.below BZ.o HB.o BZ.o.lt)
   have HBF:=Jh (below_next BB.o (Jn) HB.o)
   by_cases hlt:k<n1+n2
   ·have hk':k<(av++su).length:=by rw[HL9.o];exact hlt
    obtain⟨g,off,hAe,hg,hc⟩:=RdK.at_ (RdK.below HO9.o HB.o) hk'
    subst hAe
    have c1':=hc 1 _ rfl
    obtain⟨y,hy⟩:∃y,((av++su)[k]).fr=y:=⟨_,rfl⟩
    have HY:=Jh hy
    have c1':wr.cell? ⟨g,off+k*3+1,none⟩=some (.int .i64 y):=by rw[<-hy];exact c1'
    clear hy hc
    obtain⟨d0,d1,d2,d3,d4⟩:=gx5 BD2.o
    have z1:=gx_cell c1'
    have w5:(k:Int)<((n1+n2:Nat):Int):=by omega
    go_wp2_with fail
    refine qbr (fun nq osq=>?_)
    have hbg:=below_gx wr nq osq
    replace BZ2:=Jh (Blk.below BZ2.o hbg BZ2.o.lt)
    replace HBF:=Jh (below_next HBF.o (Jn) hbg)
    have HB2:=Jh (below_next HB.o (Jn) hbg)
    clear d0 d1 d2 d3 d4 z1 c1' hg hbg BX2 BD2
    generalize gx wr nq osq=wq at *
    by_cases he:y=di
    ·have hd:(y == di)=true:=beq_iff_eq.2 he
     have HF0:Hid ((10:Int)=rr.1):=by
      show _=_
      rw[<-HRR.o];unfold unlinkR;rw[if_pos HLK.o,if_pos]
      have hm:=List.getElem_mem hk'
      rcases List.mem_append.1 hm with h|h
      ·exact .inl (from_ex.2 ⟨_,h,HY.o.trans he⟩)
      ·exact .inr (from_ex.2 ⟨_,h,HY.o.trans he⟩)
     clear he
     obtain⟨z0,z1,z2,z3,q0,q1,q2,q3⟩:=blk4 BZ2.o
     go_wp2_with fail
     refine bodyPost_ret (v:=.tuple #[Sx.v zeroS,.int .i64 10]) (by simp[zeroS,results,Tryz.results40,go_sem,z0,z1,z2,z3]) rfl ?_
     exact givesT_bad HF0.o (by decide) (below_put4 HBF.o (by omega) _ _ _ _)
    ·have hd:(y == di)=false:=beq_eq_false_iff_ne.2 he
     have HA2:Hid (∀x∈(av++su).take (k+1),x.fr≠di):=by
      show ∀x∈_,_
      rw[List.take_succ_eq_append_getElem hk']
      intro x hx
      rcases List.mem_append.1 hx with h|h
      ·exact HA.o x h
      ·rw[List.mem_singleton.1 h,HY.o];exact he
     clear he
     go_wp2_with fail
     go_roundg (n1+n2-(k+1))
     case measure=>omega
     case rel=>exact⟨k+1,by omega,Jn,by go_num,HB2,HA2⟩
   ·obtain rfl:n1+n2=k:=by omega
    have HOK:Hid (rr=(0,cut ls (place Lk.id ls di))):=by
     show _=_
     have h:=HA.o
     rw[List.take_of_length_le (by rw[HL9.o];exact Jn)] at h
     rw[<-HRR.o];unfold unlinkR;rw[if_pos HLK.o,if_neg]
     rintro (h1|h1)
     ·obtain⟨x,hx,e⟩:=from_ex.1 h1;exact h x (List.mem_append_left _ hx) e
     ·obtain⟨x,hx,e⟩:=from_ex.1 h1;exact h x (List.mem_append_right _ hx) e
    replace RL:=Jh (RdK.below RL.o HB.o)
    have hsR:w.heap.size+3<=wr.heap.size:=Nat.le_trans hsD HB.o.size
    clear BX BD BZ BB HA HO9 hsD
    go_wp2_with fail
    clear HB
    obtain⟨wv,hwv⟩:∃x,x=wr:=⟨_,rfl⟩
    subst hwv
    go_loopg [10,11] sn (fun gg s10 s11 wr=>∃(k m q:Nat) (B:OA),k<=sn/\sn-k<=gg/\s11=.int .i64 (k:Int)/\s10=.slice B m q/\m<=q/\m<=k/\Hid (((ls.take k).filter fun x=>decide (x.id≠di)).length=m)/\Hid (OwnLk wr wv.heap.size (.slice B m q) ((ls.take k).filter fun x=>decide (x.id≠di)))/\Hid (Below wv.heap.size wv wr))
    case atStart=>exact⟨0,0,0,none,Nat.zero_le _,by omega,rfl,rfl,Jn,Jn,by show _=_;simp,by show OwnK _ _ _ _ _;simpa using OwnK.none_ _ _,Below.refl _ _⟩
    case round=>
     obtain⟨k,m,q,B,hk,hgg,rfl,rfl,hmq,hmk,HM,HO,HB⟩:=hrel
     have BX3:=Jh (Blk.below BX2.o HB.o BX2.o.lt)
     have BD3:=Jh (Blk.below BD2.o HB.o BD2.o.lt)
     by_cases hlt:k<sn
     ·have hk':k<ls.length:=by rw[HN.o];exact hlt
      obtain⟨g,off,hAe,hg,c0,c1'⟩:=RdLk.at2 (RdK.below RL.o HB.o) hk'
      subst hAe
      obtain⟨x,hx⟩:∃x,ls[k]=x:=⟨_,rfl⟩
      have HX:=Jh hx
      rw[hx] at c0 c1'
      clear hx
      obtain⟨xi,xa⟩:=x
      dsimp only at c0 c1'
      have w5:(k:Int)<(sn:Int):=by omega
      obtain⟨y0,y1,y2,y3,_⟩:=blk4 BX3.o
      have hlx:=BX3.o.lt
      go_upto_region 14 with fail
      clear y0 y1 y2 y3 hlx
      obtain⟨x0,x1,x2,x3⟩:=gx4 BX3.o
      obtain⟨d0,d1,d2,d3,d4⟩:=gx5 BD3.o
      have z0:=gx_cell c0
      have z1:=gx_cell c1'
      refine qbr (fun nq osq=>?_)
      have f0:=z0 nq osq
      have f1:=z1 nq osq
      have f2:=x1 nq osq
      have hbg:=below_gx wr nq osq
      replace HO:=Jh (OwnK.below HO.o hbg)
      replace HB:=Jh (below_next HB.o (Jn) hbg)
      clear z0 z1 x0 x1 x2 x3 d0 d1 d2 d3 d4 c0 c1' hbg BX3 BD3 hg
      generalize gx wr nq osq=wd at *
      have hsn:(ls.take (k+1)).filter (fun x=>decide (x.id≠di))=(ls.take k).filter (fun x=>decide (x.id≠di))++(if xi=di then [] else [⟨xi,xa⟩]):=by
       rw[List.take_succ_eq_append_getElem hk',List.filter_append,HX.o]
       by_cases e:xi=di<;>simp[e]
      by_cases hxi:xi=di
      ·have hd:(xi != di)=false:=by simpa using hxi
       rw[if_pos hxi,List.append_nil] at hsn
       have HM2:Hid (((ls.take (k+1)).filter fun x=>decide (x.id≠di)).length=m):=by rw[hsn];exact HM.o
       have HO2:Hid (OwnLk wd wv.heap.size (.slice B m q) ((ls.take (k+1)).filter fun x=>decide (x.id≠di))):=by rw[hsn];exact HO.o
       clear hsn hxi
       go_wp2_with fail
       go_roundg (sn-(k+1))
       case measure=>omega
       case rel=>exact⟨k+1,m,q,B,by omega,Jn,by go_num,rfl,hmq,by omega,HM2,HO2,HB⟩
      ·have hd:(xi != di)=true:=by simpa using hxi
       rw[if_neg hxi] at hsn
       have HSN:=Jh hsn
       have hrx:=rdk_one layL wd ⟨xi,xa⟩ 46 #[.int .i64 xi,.string ⟨xa.toArray⟩] rfl
       have hbq:Below wd.heap.size wd (wd.alloc (.cells #[.int .i64 xi,.string ⟨xa.toArray⟩] 46)):=(gr1 wd _).below
       have ho3:=OwnK.below HO.o hbq
       have hs3:wv.heap.size<=(wd.alloc (.cells #[.int .i64 xi,.string ⟨xa.toArray⟩] 46)).heap.size:=Nat.le_trans HB.o.size hbq.size
       have hb3:=below_next HB.o (Jn) hbq
       have hlm:=HM.o
       clear hsn hxi
       go_wp2_with (at_builtin;refine wpList_append_k layL (by rfl) (.tmp 60) (.tmp 66) 22 underL rfl wv.heap.size _ ((ls.take k).filter fun x=>decide (x.id≠di)) (by rfl) ho3 _ [⟨xi,xa⟩] 1 1 (by rfl) hrx rfl (by rw[maxLen_num,hlm];omega) (by simp only[layL];rw[hlm];omega) hs3 ?_;intro v2 y2 o2 b2 _ _;rw[<-HSN.o] at o2;have hl2:((ls.take (k+1)).filter fun x=>decide (x.id≠di)).length=m+1:=(by rw[HSN.o,List.length_append,hlm];rfl);obtain⟨B2,q2,hv2,hd2,_⟩:=OwnK.form o2 hl2;subst hv2;have HB3:=Jh (b2 wv hb3);have HO3:=Jh o2;have HM3:=Jh hl2;clear b2 o2 hl2 hb3 ho3 hrx hbq hs3 hlm f0 f1 f2)
       go_roundg (sn-(k+1))
       case measure=>omega
       case rel=>exact⟨k+1,m+1,q2,B2,by omega,Jn,by go_num,rfl,hd2,by omega,HM3,HO3,HB3⟩
     ·obtain rfl:sn=k:=by omega
      have hft:(ls.take sn).filter (fun x=>decide (x.id≠di))=cut ls (place Lk.id ls di):=by
       rw[List.take_of_length_le (by rw[HN.o];exact Jn)]
       exact filter_cut (g:=Lk.id) HP.o HLK.o
      have BZ3:=Jh (Blk.below BZ2.o HB.o BZ2.o.lt)
      have HBG:=Jh (below_next HBF.o (Jn) HB.o)
      have hmm:=HM.o
      have hoo:=HO.o
      rw[hft] at hmm hoo
      have HMM:=Jh hmm
      have HOO:=Jh hoo
      clear hft hmm hoo HM HO
      obtain⟨x0,x1,x2,x3,y0,y1,y2,y3⟩:=blk4 BX3.o
      obtain⟨z0,z1,z2,z3,q0,q1,q2,q3⟩:=blk4 BZ3.o
      have hlx:=BX3.o.lt
      go_wp2_with fail
      refine bodyPost_ret (v:=.tuple #[Sx.v ⟨ep,B,m,q,cut ls (place Lk.id ls di),A1,n1,c1,av,A2,n2,k2,su⟩,.int .i64 0]) (by simp[results,Tryz.results40,go_sem,z0,z1,z2,z3]) rfl ?_
      have hbf:=below_put4 (below_set HBG.o (Nat.le_refl w.heap.size) (i:=1) (u:=.slice B m q)) (show w.heap.size<=w.heap.size+2 by omega) (.int .i64 ep) (.slice B m q) (.slice A1 n1 c1) (.slice A2 n2 k2)
      rw[HOK.o]
      exact⟨.inr ⟨rfl,B,m,q,rfl,HMM.o,hmq,(OwnK.put4 (OwnK.set_ HOO.o (by omega) 1 _) (by omega) _ _ _ _).less (by omega)⟩,hbf⟩
end
end Go.Proofs.YtnfigjggjmncdaaGreat
