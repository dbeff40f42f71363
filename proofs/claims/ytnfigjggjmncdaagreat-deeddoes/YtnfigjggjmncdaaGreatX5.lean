/- Contracts. -/
import Derived.Test.YtnfigjggjmncdaaGreatX4
set_option maxRecDepth 100000
set_option maxHeartbeats 4000000
namespace Go.Proofs.YtnfigjggjmncdaaGreat
section
open Go.RowKit Go.Sort Spans Tb Dm
def rowBk (b:Bk) (j:Nat) (l:List En):Bk:=if j=2 then { b with av:=l } else { b with su:=l }
theorem bk_row {s s':Sx} {j:Nat} {ys:List Ex} (h1:s'.ep=s.ep) (h2:s'.ls=s.ls) (h3:(j=2/\s'.av=ys/\s'.su=s.su)∨(j=3/\s'.av=s.av/\s'.su=ys)):s'.bk=rowBk s.bk j (ys.map Ex.en):=by
 unfold rowBk Sx.bk
 rcases h3 with ⟨rfl,h3,h4⟩|⟨rfl,h3,h4⟩<;>simp[h1,h2,h3,h4]
theorem row_same {s:Sx} {j:Nat} {A:OA} {n c:Nat} {xs:List Ex} (h:Row s j A n c xs):rowBk s.bk j (xs.map Ex.en)=s.bk:=by
 rcases h with ⟨rfl,_,_,_,rfl⟩|⟨rfl,_,_,_,rfl⟩<;>rfl
theorem row_ex (s:Sx) (k:Int) (j:Nat) (hj:(if k=3∨k=4 then 2 else 3)=j):∃A n c xs,Row s j A n c xs:=by
 subst hj
 by_cases h:k=3∨k=4
 ·rw[if_pos h];exact⟨_,_,_,_,.inl ⟨rfl,rfl,rfl,rfl,rfl⟩⟩
 ·rw[if_neg h];exact⟨_,_,_,_,.inr ⟨rfl,rfl,rfl,rfl,rfl⟩⟩
theorem change_enter {s:Sx} {j:Nat} {A:OA} {n c:Nat} {xs:List Ex} {d:Dd} (h:Row s j A n c xs) (hk:Ent d.k) (hj:(if d.k=3∨d.k=4 then 2 else 3)=j) {r:Int × List En} (hr:enterR s.ls (xs.map Ex.en) d=r):change s.bk d=(r.1,rowBk s.bk j r.2):=by
 subst hr hj
 unfold change rowBk
 rcases hk with hk|hk
 ·rw[if_pos (.inl hk)] at h
  rcases h with ⟨_,_,_,_,rfl⟩|⟨h,_⟩
  ·simp[hk]
  ·cases h
 ·rw[if_neg (by omega)] at h
  rcases h with ⟨h,_⟩|⟨_,_,_,_,rfl⟩
  ·cases h
  ·simp[hk]
theorem change_leave {s:Sx} {j:Nat} {A:OA} {n c:Nat} {xs:List Ex} {d:Dd} (h:Row s j A n c xs) (hk:d.k=4∨d.k=6) (hj:(if d.k=3∨d.k=4 then 2 else 3)=j) {r:Int × List En} (hr:leaveR (xs.map Ex.en) d=r):change s.bk d=(r.1,rowBk s.bk j r.2):=by
 subst hr hj
 unfold change rowBk
 rcases hk with hk|hk
 ·rw[if_pos (.inr hk)] at h
  rcases h with ⟨_,_,_,_,rfl⟩|⟨h,_⟩
  ·simp[hk]
  ·cases h
 ·rw[if_neg (by omega)] at h
  rcases h with ⟨h,_⟩|⟨_,_,_,_,rfl⟩
  ·cases h
  ·simp[hk]
theorem has_en {xs:List Ex} {i:Int}:Has (xs.map Ex.en) i↔∃x∈xs,x.id=i:=by
 unfold Has
 simp only[List.mem_map]
 constructor
 ·rintro ⟨e,⟨a,ha,rfl⟩,h⟩;exact⟨a,ha,h⟩
 ·rintro ⟨x,hx,h⟩;exact⟨x.en,⟨x,hx,rfl⟩,h⟩
theorem place_en (xs:List Ex) (i:Int):place En.id (xs.map Ex.en) i=place (fun x:Ex=>x.id) xs i:=place_map Ex.en En.id xs i
theorem eleave_at (g base:Nat) (s:Sx) (dk di df:Int) (da:LU) (f:List Pr) (A:OA) (n c:Nat) (w:World) (hE:EdS w g base s) (hr:Tb.Right s.bk) (hk:dk=4∨dk=6):
  Calls Tryz.prog 98 #[.pointer (some ⟨g,0,none⟩),.agg (dC dk di df da.toArray A n c)] w (Changed w g base (change s.bk ⟨dk,di,df,da,f⟩)):=by
 have hb0:=(gr1 w (.cells (dC dk di df da.toArray A n c) 28)).below
 have HE:=Jh (hE.below hb0)
 have hsz0:base<=w.heap.size:=Nat.le_trans hE.le (Nat.le_of_lt hE.blk.lt)
 have HB:=Jh (hb0.mono hsz0)
 have HX:=Jh (Blk.new w 28 (dC dk di df da.toArray A n c))
 have HRT:=Jh hr
 have HK:=Jh hk
 clear hk
 clear hb0 hE hr hsz0
 go_enter Tryz.func98,Tryz.ntmps98
 obtain⟨c0,c1,c2,c3,c4,_⟩:=blk5 HX.o
 go_wp2_with fail
 clear c0 c1 c2 c3 c4
 generalize w.alloc (.cells (dC dk di df da.toArray A n c) 28)=w0 at *
 generalize w.heap.size=bx at *
 obtain⟨j,hj⟩:∃j,(if dk=3∨dk=4 then 2 else 3)=j:=⟨_,rfl⟩
 obtain⟨A9,n9,c9,xs,hrow⟩:=row_ex s dk j hj
 have HJ:=Jh hj
 have hno:=hrow.len HE.o.len
 have HN9:=Jh hno.1
 have HC9:=Jh hno.2
 obtain⟨h64,hpw⟩:=right_row hrow HRT.o HE.o.len
 have HPW:=Jh hpw
 clear hj hno hpw
 refine (entries_at g dk _ j HJ.o).mono ?_
 rintro e wz ⟨rfl,hwz⟩
 obtain rfl:=hwz.symm
 clear hwz
 go_wp2_with fail
 obtain⟨p,hp⟩:∃p,place (fun x:Ex=>x.id) xs di=p:=⟨_,rfl⟩
 obtain⟨q2,hq⟩:∃q,decide (∃x∈xs,x.id=di)=q:=⟨_,rfl⟩
 have HP:=Jh hp
 have C1:=Jh (fun n os=>placeE_at A9 xs n9 c9 di HN9.o (by omega) HPW.o (gx w0 n os) ((hrow.own HE.o.own).rd.below (below_gx w0 n os)) p hp q2 hq)
 have HQ2:Hid (q2=true↔Has (xs.map Ex.en) di):=by
  show _↔_
  rw[<-hq,decide_eq_true_iff,has_en]
 clear hp hq
 have cj:=gx_cell (hrow.cell HE.o.blk)
 obtain⟨x0,x1,x2,x3,x4⟩:=gx5 HX.o
 refine qbr (fun nq osq=>?_) (hq:=by (repeat (refine hq_step (fun K hK=>?_);go_simp;first | (refine hK _ ?_;clear hK K) | (apply Exists.intro;refine ⟨fun _=>?_,hK _ ?_⟩;(go_at_call 133;with_reducible exact calls_gx (C1.o _ _));clear hK K)));exact hq_nil rfl)
 have hb:=below_gx w0 nq osq
 clear cj x0 x1 x2 x3 x4 C1
 generalize gx w0 nq osq=w1 at *
 have hszq:base<=w0.heap.size:=Nat.le_trans HE.o.le (Nat.le_of_lt HE.o.blk.lt)
 replace HE:=Jh (HE.o.below hb)
 replace HX:=Jh (HX.o.below hb HX.o.lt)
 replace HB:=Jh (HB.o.trans (hb.mono hszq))
 clear hszq
 clear hb
 have HCH:Hid (∀r,leaveR (xs.map Ex.en) ⟨dk,di,df,da,f⟩=r->change s.bk ⟨dk,di,df,da,f⟩=(r.1,rowBk s.bk j r.2)):=fun r h=>change_leave hrow HK.o HJ.o h
 cases q2 with
 | false=>
  have HR:Hid (change s.bk ⟨dk,di,df,da,f⟩=(7,s.bk)):=by
   have h:=HCH.o (7,xs.map Ex.en) (by unfold leaveR;rw[if_neg (fun h=>by have:=HQ2.o.2 h;cases this)])
   rw[row_same hrow] at h
   exact h
  go_wp2_with fail
  go_ret
  exact⟨s,HE.o,by rw[HR.o];rfl,by rw[HR.o],HB.o⟩
 | true=>
  have HR:Hid (change s.bk ⟨dk,di,df,da,f⟩=(0,rowBk s.bk j ((cut xs p).map Ex.en))):=HCH.o (0,(cut xs p).map Ex.en) (by unfold leaveR;rw[if_pos (HQ2.o.1 rfl),cut_map,show place En.id (xs.map Ex.en) di=p from (place_en xs di).trans HP.o])
  obtain⟨hpk,_⟩:=(place_has (g:=fun x:Ex=>x.id) HPW.o).1 (has_en.1 (HQ2.o.1 rfl))
  simp only[HP.o] at hpk
  obtain⟨m,hm⟩:∃m,n9=m+1:=⟨n9-1,by have:=HN9.o;omega⟩
  subst hm
  have hpm:p<=m:=by have:=HN9.o;omega
  have hor:=hrow.own HE.o.own
  have cj:=hrow.cell HE.o.blk
  have hszv:base<=w1.heap.size:=Nat.le_trans HE.o.le (Nat.le_of_lt HE.o.blk.lt)
  go_wp2_with fail
  refine (deleteE_at base A9 m c9 xs p w1 hor.1 HN9.o (by omega) (by have:=HN9.o;omega)).mono ?_
  rintro e w3 ⟨rfl,ho',hg'⟩
  have hE3:=HE.o.blk_row hor.1 (by decide) hg'
  have HB3:=Jh (below_row HB.o hg' hor.1 hszv)
  clear cj
  have cj:=hrow.cell hE3
  have fj:w3.frozen? ⟨g,j,none⟩=false:=hE3.frozen j
  go_wp2_with fail
  go_ret
  obtain⟨s',hE',h1,h2,h3⟩:=HE.o.put_row hrow hg' ho' (fun x hx=>flt_other (hor.2 x ((cut_sub xs p).subset hx)) hor.1 hg') (by have:=cut_len (l:=xs) (k:=p) hpk;have:=HN9.o;omega) (by have:=HC9.o;omega) (.inl (by cases A9<;>rfl))
  exact⟨s',hE',by rw[HR.o];rfl,by rw[HR.o];exact bk_row h1 h2 h3,below_set HB3.o HE.o.le⟩
theorem eenter_at (g base:Nat) (s:Sx) (dk di df:Int) (da:LU) (f:List Pr) (A:OA) (n c:Nat) (w:World) (hE:EdS w g base s) (hr:Tb.Right s.bk) (hk:Ent dk) (hf:FltO w base ⟨di,df,A,n,c,f⟩):
  Calls Tryz.prog 97 #[.pointer (some ⟨g,0,none⟩),.agg (dC dk di df da.toArray A n c)] w (Changed w g base (change s.bk ⟨dk,di,df,da,f⟩)):=by
 have hb0:=(gr1 w (.cells (dC dk di df da.toArray A n c) 28)).below
 have HE:=Jh (hE.below hb0)
 have hsz0:base<=w.heap.size:=Nat.le_trans hE.le (Nat.le_of_lt hE.blk.lt)
 have HB:=Jh (hb0.mono hsz0)
 have HX:=Jh (Blk.new w 28 (dC dk di df da.toArray A n c))
 have HRT:=Jh hr
 have HK:=Jh hk
 have HF:=Jh (hf.below hb0)
 clear hk hf
 clear hb0 hE hr hsz0
 go_enter Tryz.func97,Tryz.ntmps97
 go_upto_region 1 with fail
 generalize w.alloc (.cells (dC dk di df da.toArray A n c) 28)=w0 at *
 generalize w.heap.size=bx at *
 obtain⟨j,hj⟩:∃j,(if dk=3∨dk=4 then 2 else 3)=j:=⟨_,rfl⟩
 obtain⟨A9,n9,c9,xs,hrow⟩:=row_ex s dk j hj
 have HJ:=Jh hj
 have hno:=hrow.len HE.o.len
 have HN9:=Jh hno.1
 have HC9:=Jh hno.2
 obtain⟨h64,hpw⟩:=right_row hrow HRT.o HE.o.len
 have HPW:=Jh hpw
 clear hj hno hpw
 obtain⟨hn16,_⟩:=right_links HRT.o HE.o.len
 obtain⟨rl,hrl⟩:∃r,findL s.ls df=r:=⟨_,rfl⟩
 obtain⟨q,hq⟩:∃q,rl.isSome=q:=⟨_,rfl⟩
 have HRL:=Jh hrl
 have HQ:=Jh hq
 have HQ1:Hid (q=true↔Linked s.ls df):=by
  show _↔_
  rw[<-hq,<-hrl];exact findL_some
 clear hrl hq
 go_cut [5,6] from 10 (fun s5 s6 wx=>s6=.bool q/\Hid (Below w0.heap.size w0 wx))
 case first=>
  have hS0:Below w0.heap.size w0 w0.drew:=(Below.refl _ _).drew
  refine wp_region_held_drew (S:=fun w'=>Below w0.heap.size w0 w') (by kernel_rfl) hS0 (fun _=>?_)
  have hrd:RdLk w0.drew s.A s.ls:=rdk_own (HE.o.own.ls.below hS0)
  refine Jz 0 hS0 ?_
  refine Jz 1 hS0 ?_
  refine Jz 2 hS0 ?_
  refine Jz 4 hS0 ?_
  refine Jz 3 hS0 ?_ (hv:=by intro w' hSw;obtain⟨e0,e1,e2,e3,_⟩:=blk4 (HE.o.below hSw).blk;obtain⟨x0,x1,x2,x3,x4,_⟩:=blk5 (HX.o.below hSw HX.o.lt);go_simp<;>with_reducible rfl)
  refine Jz 5 hS0 ?_ (hv:=by intro w' hSw;obtain⟨e0,e1,e2,e3,_⟩:=blk4 (HE.o.below hSw).blk;obtain⟨x0,x1,x2,x3,x4,_⟩:=blk5 (HX.o.below hSw HX.o.lt);go_simp<;>with_reducible rfl)
  generalize w0.drew=wd at *
  refine wpAnyH_pr (i:=6) (j:=10) (by kernel_rfl) rfl rfl (by rfl) (by rfl) (fun Ka hKa=>?_) (fun Kb hKb=>?_)
  ·skip
   go_simp
   with_reducible refine (link_at s df HE.o.len.n (by omega) wd hrd rl HRL.o).mono ?_
   rintro e wf ⟨rfl,hb⟩
   have hS1:=below_next hS0 (Jn) hb
   rw[HQ.o]
   clear hb
   go_wp2_with fail
   refine hKa.o _ _ hS1 ?_
   clear hKa
   refine Jz 7 hS1 ?_
   refine Jz 8 hS1 ?_
   refine Jz 9 hS1 ?_
   refine Je 10 (fun Kc hKo=>?_)
   go_simp
   have BXe:=Blk.new wf 46 #[.int .i64 0,.string ⟨#[]⟩]
   have hS2:=hS1.alloc hS1.size (.cells #[.int .i64 0,.string ⟨#[]⟩] 46)
   have hle:w0.heap.size<=wf.heap.size:=hS1.size
   generalize wf.alloc (.cells #[.int .i64 0,.string ⟨#[]⟩] 46)=w5 at *
   generalize wf.heap.size=pe at *
   refine hKo.o _ _ hS2 ?_
   clear hKo
   refine Je 11 (fun Kc hKo=>?_)
   obtain⟨y0,y1,q0,q1⟩:=blk2 BXe
   have hly:=BXe.lt
   go_simp
   have hS3:=below_put2 hS2 hle (.int .i64 (rl.getD ⟨0,[]⟩).id) (.string ⟨(rl.getD ⟨0,[]⟩).ad.toArray⟩)
   refine hKo.o _ _ hS3 ?_
   clear hKo
   refine Jz 12 hS3 ?_
   refine Jd ?_
   go_wp2_with fail
   go_meet
   case rel=>exact⟨rfl,hS3⟩
  ·skip
   go_simp
   have BXe:=Blk.new wd 46 #[.int .i64 0,.string ⟨#[]⟩]
   have hb0:=(gr1 wd (.cells #[.int .i64 0,.string ⟨#[]⟩] 46)).below
   have hrd2:=RdK.below hrd hb0
   have hle:w0.heap.size<=wd.heap.size:=hS0.size
   have hSa:=hS0.alloc hS0.size (.cells #[.int .i64 0,.string ⟨#[]⟩] 46)
   generalize wd.alloc (.cells #[.int .i64 0,.string ⟨#[]⟩] 46)=w4 at *
   generalize wd.heap.size=pe at *
   refine hKb.o _ _ hSa ?_
   clear hKb
   refine Je 6 (fun Kc hKa=>?_)
   go_simp
   with_reducible refine (link_at s df HE.o.len.n (by omega) w4 hrd2 rl HRL.o).mono ?_
   rintro e w5 ⟨rfl,hb⟩
   have hS1:=below_next hSa (Jn) hb
   rw[HQ.o]
   replace BXe:=Blk.below BXe hb BXe.lt
   have hS2:=hS1
   clear hb
   go_wp2_with fail
   refine hKa.o _ _ hS1 ?_
   clear hKa
   refine Jz 7 hS2 ?_
   refine Jz 8 hS2 ?_
   refine Jz 9 hS2 ?_
   refine Je 11 (fun Kc hKo=>?_)
   obtain⟨y0,y1,q0,q1⟩:=blk2 BXe
   have hly:=BXe.lt
   go_simp
   have hS3:=below_put2 hS2 hle (.int .i64 (rl.getD ⟨0,[]⟩).id) (.string ⟨(rl.getD ⟨0,[]⟩).ad.toArray⟩)
   refine hKo.o _ _ hS3 ?_
   clear hKo
   refine Jz 12 hS3 ?_
   refine Jd ?_
   go_wp2_with fail
   go_meet
   case rel=>exact⟨rfl,hS3⟩
 case rest=>
  obtain⟨rfl,hb⟩:=hcut
  have hszq:base<=w0.heap.size:=Nat.le_trans HE.o.le (Nat.le_of_lt HE.o.blk.lt)
  replace HE:=Jh (HE.o.below hb.o)
  replace HX:=Jh (HX.o.below hb.o HX.o.lt)
  replace HB:=Jh (HB.o.trans (hb.o.mono hszq))
  replace HF:=Jh (HF.o.below hb.o)
  clear hszq
  clear hb HQ HRL
  have HCH:Hid (∀r,enterR s.ls (xs.map Ex.en) ⟨dk,di,df,da,f⟩=r->change s.bk ⟨dk,di,df,da,f⟩=(r.1,rowBk s.bk j r.2)):=fun r h=>change_enter hrow HK.o HJ.o h
  cases q with
  | false=>
   have HR:Hid (change s.bk ⟨dk,di,df,da,f⟩=(7,s.bk)):=by
    have h:=HCH.o (7,xs.map Ex.en) (by unfold enterR;rw[if_neg (fun h=>by have:=HQ1.o.2 h;cases this)])
    rw[row_same hrow] at h
    exact h
   go_wp2_with fail
   go_ret
   exact⟨s,HE.o,by rw[HR.o];rfl,by rw[HR.o],HB.o⟩
  | true=>
   have HL:Hid (Linked s.ls df):=HQ1.o.1 rfl
   obtain⟨c0,c1,c2,c3,c4,_⟩:=blk5 HX.o
   go_wp2_with fail
   clear c0 c1 c2 c3 c4
   refine (entries_at g dk _ j HJ.o).mono ?_
   rintro e wz ⟨rfl,hwz⟩
   obtain rfl:=hwz.symm
   clear hwz
   go_wp2_with fail
   obtain⟨p,hp⟩:∃p,place (fun x:Ex=>x.id) xs di=p:=⟨_,rfl⟩
   obtain⟨q2,hq⟩:∃q,decide (∃x∈xs,x.id=di)=q:=⟨_,rfl⟩
   have HP:=Jh hp
   have C1:=Jh (fun n os=>placeE_at A9 xs n9 c9 di HN9.o (by omega) HPW.o (gx wc n os) ((hrow.own HE.o.own).rd.below (below_gx wc n os)) p hp q2 hq)
   have HQ2:Hid (q2=true↔Has (xs.map Ex.en) di):=by
    show _↔_
    rw[<-hq,decide_eq_true_iff,has_en]
   clear hp hq
   have cj:=gx_cell (hrow.cell HE.o.blk)
   obtain⟨x0,x1,x2,x3,x4⟩:=gx5 HX.o
   refine qbr (fun nq osq=>?_) (hq:=by (repeat (refine hq_step (fun K hK=>?_);go_simp;first | (refine hK _ ?_;clear hK K) | (apply Exists.intro;refine ⟨fun _=>?_,hK _ ?_⟩;(go_at_call 133;with_reducible exact calls_gx (C1.o _ _));clear hK K)));exact hq_nil rfl)
   have hb:=below_gx wc nq osq
   clear cj x0 x1 x2 x3 x4 C1
   generalize gx wc nq osq=w1 at *
   have hszq:base<=wc.heap.size:=Nat.le_trans HE.o.le (Nat.le_of_lt HE.o.blk.lt)
   replace HE:=Jh (HE.o.below hb)
   replace HX:=Jh (HX.o.below hb HX.o.lt)
   replace HB:=Jh (HB.o.trans (hb.mono hszq))
   replace HF:=Jh (HF.o.below hb)
   clear hszq
   clear hb
   cases q2 with
   | true=>
    have HR:Hid (change s.bk ⟨dk,di,df,da,f⟩=(8,s.bk)):=by
     have h:=HCH.o (8,xs.map Ex.en) (by unfold enterR;rw[if_pos HL.o,if_pos (HQ2.o.1 rfl)])
     rw[row_same hrow] at h
     exact h
    go_wp2_with fail
    go_ret
    exact⟨s,HE.o,by rw[HR.o];rfl,by rw[HR.o],HB.o⟩
   | false=>
    have HH:Hid (¬Has (xs.map Ex.en) di):=fun h=>by have:=HQ2.o.2 h;cases this
    have cj:=hrow.cell HE.o.blk
    have hlm:(xs.map Ex.en).length=n9:=(List.length_map _).trans HN9.o
    have HLM:=Jh hlm
    clear hlm
    by_cases h16:64<=n9
    ·have d16:decide ((64:Int)<=(n9:Int))=true:=decide_eq_true (by omega)
     have HR:Hid (change s.bk ⟨dk,di,df,da,f⟩=(4,s.bk)):=by
      have h:=HCH.o (4,xs.map Ex.en) (by unfold enterR;rw[if_pos HL.o,if_neg HH.o,if_pos (by rw[HLM.o];exact h16)])
      rw[row_same hrow] at h
      exact h
     go_wp2_with fail
     go_ret
     exact⟨s,HE.o,by rw[HR.o];rfl,by rw[HR.o],HB.o⟩
    ·have d16:decide ((64:Int)<=(n9:Int))=false:=decide_eq_false (by omega)
     have HR:Hid (change s.bk ⟨dk,di,df,da,f⟩=(0,rowBk s.bk j ((ins xs p ⟨di,df,A,n,c,f⟩).map Ex.en))):=HCH.o (0,(ins xs p ⟨di,df,A,n,c,f⟩).map Ex.en) (by unfold enterR;rw[if_pos HL.o,if_neg HH.o,if_neg (by rw[HLM.o];exact h16),ins_map,show place En.id (xs.map Ex.en) di=p from (place_en xs di).trans HP.o])
     have hpl:p<=n9:=by rw[<-HP.o,<-HN9.o];exact place_le _ _ _
     have HNE:Hid (bx≠g):=fun e=>by
      have h1:=HX.o
      rw[e] at h1
      have h2:=h1.symm.trans HE.o.blk
      injection h2 with h2
      injection h2 with _ h3 _
      exact absurd h3 (by decide)
     go_wp2_with fail
     clear cj d16
     have hb:Below w1.heap.size w1 w1.drew:=(Below.refl _ _).drew
     have hszq:base<=w1.heap.size:=Nat.le_trans HE.o.le (Nat.le_of_lt HE.o.blk.lt)
     replace HE:=Jh (HE.o.below hb)
     replace HX:=Jh (HX.o.below hb HX.o.lt)
     replace HB:=Jh (HB.o.trans (hb.mono hszq))
     replace HF:=Jh (HF.o.below hb)
     clear hszq
     clear hb
     have hS0:Blk w1.drew bx 28 (dC dk di df da.toArray A n c):=HX.o
     refine wp_region_held_drew (S:=fun w'=>Blk w' bx 28 (dC dk di df da.toArray A n c)) (by kernel_rfl) hS0 (fun _=>?_)
     generalize w1.drew=wd at *
     refine Jz 0 hS0 ?_
     refine Jz 1 hS0 ?_
     refine Jz 2 hS0 ?_
     refine Jz 4 hS0 ?_
     refine Jz 5 hS0 ?_
     refine Jz 6 hS0 ?_
     refine Jz 7 hS0 ?_
     refine Jz 8 hS0 ?_
     refine Jz 9 hS0 ?_
     refine Jz 10 hS0 ?_
     refine Jz 11 hS0 ?_
     refine wpAnyH_pr (i:=3) (j:=12) (by kernel_rfl) rfl rfl (by rfl) (by rfl) (fun Ka hKa=>?_) (fun Kb hKb=>?_)
     ·skip
      have cj:=hrow.cell HE.o.blk
      go_simp
      refine hKa.o _ _ hS0 ?_
      clear hKa cj
      refine Je 12 (fun Kc hKb=>?_)
      go_simp
      refine hKb.o _ _ (Blk.alloc hS0 _) ?_
      clear hKb
      have hb:=(gr1 wd (.cells (eC di df A n c) 44)).below
      have hBx:Blk (wd.alloc (.cells (eC di df A n c) 44)) wd.heap.size 44 (layE.enc ⟨di,df,A,n,c,f⟩).toArray:=Blk.new wd 44 (eC di df A n c)
      have hgbn:∀a,A9=some a->a.block≠wd.heap.size:=fun a ha=>Nat.ne_of_lt (own_old (hrow.own HE.o.own).1 a ha)
      have hszw:base<=wd.heap.size:=Nat.le_trans HE.o.le (Nat.le_of_lt HE.o.blk.lt)
      have HF9:=Jh (HF.o.below hb)
      replace HE:=Jh (HE.o.below hb)
      replace HX:=Jh (HX.o.below hb HX.o.lt)
      replace HB:=Jh (HB.o.trans (hb.mono hszw))
      have hszv:base<=(wd.alloc (.cells (eC di df A n c) 44)).heap.size:=Nat.le_trans hszw hb.size
      clear hb hS0
      generalize (wd.alloc (.cells (eC di df A n c) 44))=w2 at *
      generalize wd.heap.size=gb at *
      have hor1:=(hrow.own HE.o.own).1
      refine Je 13 (fun Kc hKo=>?_)
      go_simp
      with_reducible refine (insertE_at base A9 n9 c9 xs p ⟨di,df,A,n,c,f⟩ gb w2 hor1 HN9.o (by omega) (by omega) hBx hszv hgbn).mono ?_
      rintro e w3 ⟨A',c',rfl,hc',ho',hg',hs'⟩
      have hX3:=grown_blk HX.o hor1 (by decide) hg'
      have hE3:=HE.o.blk_row hor1 (by decide) hg'
      have HB3:=Jh (below_row HB.o hg' hor1 hszv)
      have HX3:=Jh hX3
      clear hBx hgbn hX3
      go_wp2_with fail
      refine hKo.o _ _ HX3.o ?_
      clear hKo
      refine Jz 14 HX3.o ?_
      refine Je 15 (fun Kc hKo=>?_)
      have cj:=hrow.cell hE3
      have fj:w3.frozen? ⟨g,j,none⟩=false:=hE3.frozen j
      go_simp
      refine hKo.o _ _ (Blk.far HX3.o (p:=⟨g,j,none⟩) HNE.o _) ?_
      clear hKo
      refine Jd ?_
      go_wp2_with fail
      go_ret
      have hor:=hrow.own HE.o.own
      obtain⟨s',hE',h1,h2,h3⟩:=HE.o.put_row hrow hg' ho' (fun x hx=>(ins_mem.1 hx).elim (fun h=>by subst h;exact flt_other HF9.o hor.1 hg') (fun h=>flt_other (hor.2 x h) hor.1 hg')) (by rw[ins_len _ (by rw[HN9.o];exact hpl),HN9.o]) hc' hs'
      exact⟨s',hE',by rw[HR.o];rfl,by rw[HR.o];exact bk_row h1 h2 h3,below_set HB3.o HE.o.le⟩
     ·skip
      go_simp
      refine hKb.o _ _ (Blk.alloc hS0 _) ?_
      clear hKb
      have hEa:=HE.o.below (gr1 wd (.cells (eC di df A n c) 44)).below
      have cj:=hrow.cell hEa.blk
      refine Je 3 (fun Kc hKa=>?_)
      go_simp
      refine hKa.o _ _ (Blk.alloc hS0 _) ?_
      clear hKa cj hEa
      have hb:=(gr1 wd (.cells (eC di df A n c) 44)).below
      have hBx:Blk (wd.alloc (.cells (eC di df A n c) 44)) wd.heap.size 44 (layE.enc ⟨di,df,A,n,c,f⟩).toArray:=Blk.new wd 44 (eC di df A n c)
      have hgbn:∀a,A9=some a->a.block≠wd.heap.size:=fun a ha=>Nat.ne_of_lt (own_old (hrow.own HE.o.own).1 a ha)
      have hszw:base<=wd.heap.size:=Nat.le_trans HE.o.le (Nat.le_of_lt HE.o.blk.lt)
      have HF9:=Jh (HF.o.below hb)
      replace HE:=Jh (HE.o.below hb)
      replace HX:=Jh (HX.o.below hb HX.o.lt)
      replace HB:=Jh (HB.o.trans (hb.mono hszw))
      have hszv:base<=(wd.alloc (.cells (eC di df A n c) 44)).heap.size:=Nat.le_trans hszw hb.size
      clear hb hS0
      generalize (wd.alloc (.cells (eC di df A n c) 44))=w2 at *
      generalize wd.heap.size=gb at *
      have hor1:=(hrow.own HE.o.own).1
      refine Je 13 (fun Kc hKo=>?_)
      go_simp
      with_reducible refine (insertE_at base A9 n9 c9 xs p ⟨di,df,A,n,c,f⟩ gb w2 hor1 HN9.o (by omega) (by omega) hBx hszv hgbn).mono ?_
      rintro e w3 ⟨A',c',rfl,hc',ho',hg',hs'⟩
      have hX3:=grown_blk HX.o hor1 (by decide) hg'
      have hE3:=HE.o.blk_row hor1 (by decide) hg'
      have HB3:=Jh (below_row HB.o hg' hor1 hszv)
      have HX3:=Jh hX3
      clear hBx hgbn hX3
      go_wp2_with fail
      refine hKo.o _ _ HX3.o ?_
      clear hKo
      refine Jz 14 HX3.o ?_
      refine Je 15 (fun Kc hKo=>?_)
      have cj:=hrow.cell hE3
      have fj:w3.frozen? ⟨g,j,none⟩=false:=hE3.frozen j
      go_simp
      refine hKo.o _ _ (Blk.far HX3.o (p:=⟨g,j,none⟩) HNE.o _) ?_
      clear hKo
      refine Jd ?_
      go_wp2_with fail
      go_ret
      have hor:=hrow.own HE.o.own
      obtain⟨s',hE',h1,h2,h3⟩:=HE.o.put_row hrow hg' ho' (fun x hx=>(ins_mem.1 hx).elim (fun h=>by subst h;exact flt_other HF9.o hor.1 hg') (fun h=>flt_other (hor.2 x h) hor.1 hg')) (by rw[ins_len _ (by rw[HN9.o];exact hpl),HN9.o]) hc' hs'
      exact⟨s',hE',by rw[HR.o];rfl,by rw[HR.o];exact bk_row h1 h2 h3,below_set HB3.o HE.o.le⟩
end
end Go.Proofs.YtnfigjggjmncdaaGreat
