/- Contracts. -/
import Derived.Test.YtnfigjggjmncdaaGreatA4
import Derived.Test.YtnfigjggjmncdaaGreatD3
import Derived.Test.YtnfigjggjmncdaaGreatT3
import Derived.Test.YtnfigjggjmncdaaGreatX6
import Derived.Test.YtnfigjggjmncdaaGreatX7
set_option maxRecDepth 100000
set_option maxHeartbeats 4000000
namespace Go.Proofs.YtnfigjggjmncdaaGreat
section
open Go.RowKit Go.Sort Spans Tb Dm
deriving instance DecidableEq for Dm.Dd
def shortD (x:Dx):Prop:=x.ad.length<=100/\∀p∈x.f,shortP p
instance (x:Dx):Decidable (shortD x):=inferInstanceAs (Decidable (_/\_))
def DBx (xs:List Dx):Prop:=∀x∈xs,x.n<=2600000000000/\x.ad.length<=9223372036854775807/\PBx x.f
def totalD (xs:List Dx):Nat:=(xs.map Dx.n).sum
def fewD (xs:List Dx):Bool:=decide (∀x∈xs,shortD x) && (decide (xs.length<=120) && decide (totalD xs<=400))
theorem totalD_le {xs:List Dx} {x:Dx} (h:x∈xs):x.n<=totalD xs:=by
 induction xs with
 | nil=>cases h
 | cons a r ih=>
  unfold totalD at *
  rw[List.map_cons,List.sum_cons]
  rcases List.mem_cons.1 h with rfl|h
  ·omega
  ·have:=ih h;omega
theorem totalD_snoc {xs:List Dx} {k:Nat} (h:k<xs.length):totalD (xs.take (k+1))=totalD (xs.take k)+(xs[k]).n:=by
 unfold totalD
 rw[map_snoc Dx.n h,List.sum_append];simp
theorem totalD_bd {R:Nat} {xs:List Dx} (hb:∀x∈xs,x.n<=R):∀k,totalD (xs.take k)<=k*R
 | 0=>by simp[totalD]
 | k+1=>by
  have h0:=totalD_bd hb k
  rw[Nat.succ_mul]
  by_cases h:k<xs.length
  ·rw[totalD_snoc h]
   exact Nat.add_le_add h0 (hb _ (List.getElem_mem h))
  ·rw[List.take_of_length_le (by omega)] at h0 ⊢
   exact Nat.le_trans h0 (Nat.le_add_right _ _)
theorem fewD_of {xs:List Dx} (h:fewD xs=true):(∀x∈xs,shortD x)/\xs.length<=120/\∀x∈xs,x.n<=400:=by
 unfold fewD at h
 simp only[Bool.and_eq_true,decide_eq_true_eq] at h
 exact⟨h.1,h.2.1,fun x hx=>Nat.le_trans (totalD_le hx) h.2.2⟩
def SumD (m:Nat) (t:Nat) (s:Int):Prop:=m<=120->s=(t:Int)
theorem dfew_at (B:OA) (es:List Dx) (m d:Nat) (hn:es.length=m) (hm:m<=9223372036854775807) (hb:DBx es) (w:World) (hr:RdDx w B es) (q:Bool) (hq:fewD es=q):
  Calls Tryz.prog 7 #[.slice B m d] w fun e w'=>e=.returned (.bool q)/\Below w.heap.size w w':=by
 have HN:=Jh hn
 have HQ:=Jh hq
 have HR:=Jh hr
 have HBX:=Jh hb
 have HTB:Hid (∀k,totalD (es.take k)<=k*2600000000000):=totalD_bd fun x hx=>(hb x hx).1
 clear hn hq hr hb
 go_enter Tryz.func7,Tryz.ntmps7
 go_wp2_with fail
 go_loopg [3,4] m (fun gg s3 s4 wr=>∃(k:Nat) (s:Int),k<=m/\m-k<=gg/\s4=.int .i64 (k:Int)/\s3=.int .i64 s/\Hid (Below w.heap.size w wr)/\Hid (SumD m (totalD (es.take k)) s)/\Hid (∀x∈es.take k,shortD x))
 case atStart=>exact⟨0,0,Nat.zero_le _,by omega,rfl,rfl,Below.refl _ _,fun _=>by simp[totalD],by show ∀_,_;simp⟩
 case round=>
  obtain⟨k,s,hk,hgg,rfl,rfl,HB,HS,HA⟩:=hrel
  by_cases hlt:k<m
  ·have hk':k<es.length:=by rw[HN.o];exact hlt
   obtain⟨g,off,rfl,hg,c0,c1,c2,c3,c4,hf⟩:=RdDx.at5 HR.o hk'
   have hbx:=HBX.o _ (List.getElem_mem hk')
   obtain⟨x,hx⟩:∃x,es[k]=x:=⟨_,rfl⟩
   have HE:=Jh hx
   rw[hx] at c0 c1 c2 c3 c4 hf hbx
   clear hx
   obtain⟨xk,xi,xr,xa,xA,xn,xc,xf⟩:=x
   obtain⟨hf1,hf2,hf3⟩:=hf
   obtain⟨hb1,hb0,hb4⟩:=hbx
   dsimp only at c0 c1 c2 c3 c4 hf1 hf2 hf3 hb1 hb0 hb4
   have HPB:=Jh hb4
   have HF1:=Jh hf1
   have HRX:=Jh hf3
   have w5:(k:Int)<(m:Int):=by omega
   obtain⟨s',hs'⟩:∃s',IntKind.i64.wrap (s+(xn:Int))=s':=⟨_,rfl⟩
   have HS2:Hid (SumD m (totalD (es.take (k+1))) s'):=fun h120=>by
    have h1:=HS.o h120
    have h2:=HTB.o k
    have h3:=totalD_snoc hk'
    rw[HE.o] at h3
    dsimp only at h3
    rw[<-hs',h3,h1,IntKind.wrap_i64]
    omega
   have HC4:=Jh c4
   have HC3:=Jh c3
   clear hb4 hf1 hf3 HS c0 c1 c2 c3 c4
   have c4:=(HB.o.cell (p:=⟨g,off+k*5+4,none⟩) hg).trans HC4.o
   have c3:=(HB.o.cell (p:=⟨g,off+k*5+3,none⟩) hg).trans HC3.o
   have hz3:(⟨xa.toArray⟩:ByteArray).size=xa.length:=by simp[ByteArray.size]
   by_cases ha:(100:Int)<(xa.length:Int)
   ·have d0:decide ((100:Int)<(xa.length:Int))=true:=decide_eq_true ha
    have HF:Hid (false=q):=by
     show _=_
     rw[<-HQ.o]
     unfold fewD
     rw[decide_eq_false (fun hall=>?_),Bool.false_and]
     have:=(hall _ (List.getElem_mem hk')).1
     rw[HE.o] at this
     dsimp only at this
     omega
    go_wp2_with fail
    go_ret
    exact⟨ret_b HF.o,HB.o⟩
   have d0:decide ((100:Int)<(xa.length:Int))=false:=decide_eq_false ha
   go_wp2_with fail
   clear hs' c4 c3 hz3 d0
   go_loopg [5] xn (fun g2 s5 wi=>∃j:Nat,j<=xn/\xn-j<=g2/\s5=.int .i64 (j:Int)/\Hid (Below w.heap.size w wi)/\Hid (∀p∈xf.take j,shortP p))
   case atStart=>exact⟨0,Nat.zero_le _,by omega,rfl,HB,by show ∀_,_;simp⟩
   case round=>
    obtain⟨j,hj,hgg2,rfl,HBi,HAi⟩:=hrel
    clear HB
    have c4:=(HBi.o.cell (p:=⟨g,off+k*5+4,none⟩) hg).trans HC4.o
    by_cases hjl:j<xn
    ·have hj':j<xf.length:=by rw[HF1.o];exact hjl
     obtain⟨g',off',rfl,hg',b0,b1,b2,b3,b4⟩:=RdQ.at5 (RdK.below HRX.o HBi.o) hj'
     have hbp:=HPB.o _ (List.getElem_mem hj')
     obtain⟨p,hp⟩:∃p,xf[j]=p:=⟨_,rfl⟩
     have HPE:=Jh hp
     rw[hp] at b0 b1 b2 b3 b4 hbp
     clear hp
     obtain⟨pn,po,pk,pi,pt⟩:=p
     obtain⟨hb5,hb6,_,_⟩:=hbp
     dsimp only at b0 b1 b2 b3 b4 hb5 hb6
     have w6:(j:Int)<(xn:Int):=by omega
     have HB2:=Jh (HBi.o.alloc HBi.o.size (.cells (pC pn.toArray po pk pi pt.toArray) 54))
     have hz1:(⟨pn.toArray⟩:ByteArray).size=pn.length:=by simp[ByteArray.size]
     have hz2:(⟨pt.toArray⟩:ByteArray).size=pt.length:=by simp[ByteArray.size]
     have hno:¬shortP ⟨pn,po,pk,pi,pt⟩->fewD es=false:=fun h=>by
      unfold fewD
      rw[decide_eq_false (fun hall=>h ?_),Bool.false_and]
      have:=(hall _ (List.getElem_mem hk')).2 xf[j] (by rw[HE.o];exact List.getElem_mem hj')
      rwa [HPE.o] at this
     have HNO:=Jh hno
     clear hno
     by_cases h1:(100:Int)<(pn.length:Int)
     ·have d1:decide ((100:Int)<(pn.length:Int))=true:=decide_eq_true h1
      have HF:Hid (false=q):=by
       show _=_
       rw[<-HQ.o,HNO.o (fun h=>by have:=h.1;dsimp only at this;omega)]
      go_wp2_with fail
      go_ret
      exact⟨ret_b HF.o,HB2.o⟩
     ·have d1:decide ((100:Int)<(pn.length:Int))=false:=decide_eq_false h1
      by_cases h2:(100:Int)<(pt.length:Int)
      ·have d2:decide ((100:Int)<(pt.length:Int))=true:=decide_eq_true h2
       have HF:Hid (false=q):=by
        show _=_
        rw[<-HQ.o,HNO.o (fun h=>by have:=h.2;dsimp only at this;omega)]
       go_wp2_with fail
       go_ret
       exact⟨ret_b HF.o,HB2.o⟩
      ·have d2:decide ((100:Int)<(pt.length:Int))=false:=decide_eq_false h2
       have HA3:Hid (∀p∈xf.take (j+1),shortP p):=fun p hp=>by
        rw[List.take_succ_eq_append_getElem hj',HPE.o] at hp
        rcases List.mem_append.1 hp with h|h
        ·exact HAi.o p h
        ·simp at h;subst h;exact⟨by dsimp only;omega,by dsimp only;omega⟩
       go_wp2_with fail
       go_roundg (xn-(j+1))
       case measure=>omega
       case rel=>exact⟨j+1,by omega,Jn,by go_num,HB2,HA3⟩
    ·have hjn:j=xn:=by omega
     have HA4:Hid (∀x∈es.take (k+1),shortD x):=fun x hx=>by
      rw[List.take_succ_eq_append_getElem hk',HE.o] at hx
      rcases List.mem_append.1 hx with h|h
      ·exact HA.o x h
      ·simp at h;subst h
       have:=HAi.o
       rw[hjn,List.take_of_length_le (by rw[HF1.o];exact Jn)] at this
       exact⟨by dsimp only;omega,this⟩
     go_wp2_with fail
     go_roundg (m-(k+1))
     case measure=>omega
     case rel=>exact⟨k+1,s',by omega,Jn,by go_num,rfl,HBi,HS2,HA4⟩
  ·have hkm:k=m:=by omega
   subst hkm
   have HALL:Hid (∀x∈es,shortD x):=by
    have:=HA.o
    rwa [List.take_of_length_le (by rw[HN.o];exact Jn)] at this
   have hST:k<=120->s=(totalD es:Int):=fun h=>by
    have:=HS.o h
    rwa [List.take_of_length_le (by rw[HN.o];exact Jn)] at this
   have HST:=Jh hST
   clear hST HS HA
   have hq2:q=(decide (k<=120) && decide (totalD es<=400)):=by
    rw[<-HQ.o]
    unfold fewD
    rw[decide_eq_true HALL.o,Bool.true_and,HN.o]
   have HQ2:=Jh hq2
   clear hq2
   by_cases h120:(k:Int)<=120
   ·have d120:decide ((k:Int)<=120)=true:=decide_eq_true h120
    have hs:s=(totalD es:Int):=HST.o (by omega)
    subst hs
    by_cases h400:(totalD es:Int)<=400
    ·have d3:decide ((totalD es:Int)<=400)=true:=decide_eq_true h400
     have HF:Hid (true=q):=by
      show _=_
      rw[HQ2.o,decide_eq_true (show k<=120 by omega),decide_eq_true (show totalD es<=400 by omega)];rfl
     clear h120 h400
     go_wp2_with fail
     go_ret
     exact⟨ret_b HF.o,HB.o⟩
    ·have d3:decide ((totalD es:Int)<=400)=false:=decide_eq_false h400
     have HF:Hid (false=q):=by
      show _=_
      rw[HQ2.o,decide_eq_false (show ¬totalD es<=400 by omega),Bool.and_false]
     clear h120 h400
     go_wp2_with fail
     go_ret
     exact⟨ret_b HF.o,HB.o⟩
   ·have d120:decide ((k:Int)<=120)=false:=decide_eq_false h120
    have HF:Hid (false=q):=by
     show _=_
     rw[HQ2.o,decide_eq_false (show ¬k<=120 by omega),Bool.false_and]
    clear h120
    go_wp2_with fail
    go_ret
    exact⟨ret_b HF.o,HB.o⟩
theorem dsame_at (xk xi xr:Int) (xa:LU) (xf:List Pr) (xA:OA) (xn xc:Nat) (hx:xf.length=xn) (hmx:xn<=100000) (yk yi yr:Int) (ya:LU) (yf:List Pr) (yA:OA) (yn yc:Nat) (hy:yf.length=yn) (hmy:yn<=100000) (w:World) (hr:RdQ w xA xf) (hr':RdQ w yA yf) (q:Bool) (hq:decide ((⟨xk,xi,xr,xa,xf⟩:Dd)=⟨yk,yi,yr,ya,yf⟩)=q):
  Calls Tryz.prog 10 #[.agg (dC xk xi xr xa.toArray xA xn xc),.agg (dC yk yi yr ya.toArray yA yn yc)] w fun e w'=>e=.returned (.bool q)/\Below w.heap.size w w':=by
 have hB0:=(gr2 w (.cells (dC xk xi xr xa.toArray xA xn xc) 28) (.cells (dC yk yi yr ya.toArray yA yn yc) 28)).below
 have hX0:=(Blk.new w 28 (dC xk xi xr xa.toArray xA xn xc)).alloc (.cells (dC yk yi yr ya.toArray yA yn yc) 28)
 have hY0:=Blk.new (w.alloc (.cells (dC xk xi xr xa.toArray xA xn xc) 28)) 28 (dC yk yi yr ya.toArray yA yn yc)
 rw[show (w.alloc (.cells (dC xk xi xr xa.toArray xA xn xc) 28)).heap.size=w.heap.size+1 by simp] at hY0
 have HX:=Jh hx
 have HY:=Jh hy
 have HQ:=Jh hq
 have HR0:=Jh (RdK.below hr hB0)
 have HR1:=Jh (RdK.below hr' hB0)
 have HB0:=Jh hB0
 obtain⟨x0,x1,x2,x3,x4,_⟩:=blk5 hX0
 obtain⟨y0,y1,y2,y3,y4,_⟩:=blk5 hY0
 have hl1:=hX0.lt
 have hl2:=hY0.lt
 clear hx hy hq hB0 hX0 hY0 hr hr'
 by_cases h0:xk=yk
 ·have d0:(xk == yk)=true:=beq_iff_eq.2 h0
  by_cases h1:xi=yi
  ·have d1:(xi == yi)=true:=beq_iff_eq.2 h1
   by_cases h2:xr=yr
   ·have d2:(xr == yr)=true:=beq_iff_eq.2 h2
    by_cases h3:xa=ya
    ·subst h3
     have HF:Hid (decide (xf=yf)=q):=by
      show _=_
      rw[<-HQ.o]
      simp[h0,h1,h2]
     clear h0 h1 h2
     go_enter Tryz.func10,Tryz.ntmps10
     go_wp2_with fail
     refine (samePs_at xA xf xn xc HX.o hmx yA yf yn yc HY.o hmy _ HR0.o HR1.o q HF.o).mono ?_
     rintro e w2 ⟨rfl,hg2⟩
     have HB2:=Jh (below_next HB0.o (by have:=HB0.o.size;omega) hg2.below)
     clear hg2 x0 x1 x2 x3 x4 y0 y1 y2 y3 y4
     go_wp2_with fail
     go_ret
     exact⟨rfl,HB2.o⟩
    ·have d3:((⟨xa.toArray⟩:ByteArray) == ⟨ya.toArray⟩)=false:=by show (xa.toArray == ya.toArray)=false;simpa using h3
     have HF:Hid (false=q):=by
      show _=_
      rw[<-HQ.o]
      simp[h3]
     clear h0 h1 h2
     go_enter Tryz.func10,Tryz.ntmps10
     go_wp2_with fail
     go_ret
     exact⟨ret_b HF.o,HB0.o⟩
   ·have d2:(xr == yr)=false:=beq_eq_false_iff_ne.2 h2
    have HF:Hid (false=q):=by
     show _=_
     rw[<-HQ.o]
     simp[h2]
    clear h0 h1 h2
    go_enter Tryz.func10,Tryz.ntmps10
    go_wp2_with fail
    go_ret
    exact⟨ret_b HF.o,HB0.o⟩
  ·have d1:(xi == yi)=false:=beq_eq_false_iff_ne.2 h1
   have HF:Hid (false=q):=by
    show _=_
    rw[<-HQ.o]
    simp[h1]
   clear h0 h1
   go_enter Tryz.func10,Tryz.ntmps10
   go_wp2_with fail
   go_ret
   exact⟨ret_b HF.o,HB0.o⟩
 ·have d0:(xk == yk)=false:=beq_eq_false_iff_ne.2 h0
  have HF:Hid (false=q):=by
   show _=_
   rw[<-HQ.o]
   simp[h0]
  clear h0
  go_enter Tryz.func10,Tryz.ntmps10
  go_wp2_with fail
  go_ret
  exact⟨ret_b HF.o,HB0.o⟩
end
section
open Go.RowKit Go.ChangeShapes Go.WideShapes Go.Deep Go.Joins Spans Tb Dm
abbrev dxV (x:Dx):Value:=.agg (dC x.k x.id x.fr x.ad.toArray x.A x.n x.c)
section
variable {H:Type} {enc:TypeId × Value->H} {w:World} {base:Nat} {spare:Nat->Bool} {held:Bool}
theorem open_deed {r:Reach} {b0:Nat} {v:Value} {d:DataW H} {p:List MemPlace} (hok:Value.okWide Tryz.prog w r b0 28 v) (h:DataW.Trod enc Tryz.prog w base spare held 28 v d p) (hw:∀n∈d.weights Tryz.prog 28,n<=reachBytes):
  ∃x:Dx,v=dxV x/\FltD w x/\DBx [x]:=by
 obtain⟨cs,rfl,hsz⟩:=okWide_struct Tryz.underlying28 hok
 rw[show Tryz.prog.cellsOf 28=5 from by kernel_rfl] at hsz
 obtain⟨cs⟩:=cs
 obtain⟨fuel,k2⟩:=h
 obtain⟨xs,n',_,hxx,_,hxl,hfs⟩:=DataW.trod_struct Tryz.underlying28 k2
 have hD:d=.agg (xs.map (·.1)):=congrArg Prod.fst hxx
 subst hD
 match cs,hsz with
 | [c0,c1,c2,c3,c4],_=>
  obtain⟨y0,_,g0⟩:=field_at (i:=0) (t:=3) (o:=0) (m:=1) hfs hxl rfl ⟨rfl,rfl,by kernel_rfl⟩
  obtain⟨y1,_,g1⟩:=field_at (i:=1) (t:=3) (o:=1) (m:=1) hfs hxl rfl ⟨rfl,rfl,by kernel_rfl⟩
  obtain⟨y2,_,g2⟩:=field_at (i:=2) (t:=3) (o:=2) (m:=1) hfs hxl rfl ⟨rfl,rfl,by kernel_rfl⟩
  obtain⟨y3,_,g3⟩:=field_at (i:=3) (t:=9) (o:=3) (m:=1) hfs hxl rfl ⟨rfl,rfl,by kernel_rfl⟩
  obtain⟨y4,e4,g4⟩:=field_at (i:=4) (t:=26) (o:=4) (m:=1) hfs hxl rfl ⟨rfl,rfl,by kernel_rfl⟩
  obtain⟨z0,q0,_,_⟩:=DataW.trod_int Tryz.underlying3 g0
  obtain⟨z1,q1,_,_⟩:=DataW.trod_int Tryz.underlying3 g1
  obtain⟨z2,q2,_,_⟩:=DataW.trod_int Tryz.underlying3 g2
  obtain⟨⟨⟨z3⟩⟩,q3,_,w3⟩:=DataW.trod_string Tryz.underlying9 g3
  obtain⟨A,n,c,f,q4,f1,f2,f3,f4,f5,f6⟩:=open_flt g4 (weights_struct Tryz.underlying28 hw (i:=4) rfl (by rw[List.getElem?_map,e4];rfl))
  simp[Value.cells] at q0 q1 q2 q3
  subst q0;subst q1;subst q2;subst q3;subst q4
  have w3':z3.length<=maxLen:=w3
  rw[maxLen_num] at w3'
  exact⟨⟨z0,z1,z2,z3,A,n,c,f⟩,rfl,⟨f1,f2,f5⟩,fun x hx=>by simp at hx;subst hx;exact⟨f4,w3',f6⟩⟩
theorem open_deeds_of {A:OA} {len cap:Nat} {d:DataW H} {p:List MemPlace} (h:DataW.Trod enc Tryz.prog w base spare held 33 (.slice A len cap) d p) (hw:∀n∈d.weights Tryz.prog 33,n<=reachBytes):
  ∃es:List Dx,es.length=len/\len<=cap/\cap<=maxLen/\len<=2200000000000/\RdDx w A es/\DBx es:=by
 obtain⟨fuel,h⟩:=h
 rcases open_slice Tryz.underlying33 h with ⟨hcs,_⟩|⟨a,l2,c2,m,n,D,Pl,hcs,_,hl,hm,hmm,hx1,hx⟩
 ·simp[Value.cells] at hcs
  obtain⟨rfl,rfl,rfl⟩:=hcs
  exact⟨[],rfl,by omega,by simp,by omega,⟨.inl rfl,fun x hx=>by cases hx⟩,fun k hk=>by cases hk⟩
 ·simp[Value.cells] at hcs
  obtain⟨rfl,rfl,rfl⟩:=hcs
  have hx1':d=_:=congrArg Prod.fst hx1
  subst hx1'
  obtain⟨hbd,hwe⟩:=weights_slice Tryz.underlying33 hw
  rw[show Tryz.prog.bytesOf 28=64 from by kernel_rfl,reach_num] at hbd
  simp at hbd
  have hlm:len<=m:=by rw[hmm];split<;>omega
  have each:∀i,i<len->∃z:Dx,(w.cell? ((a.add (i*5)).add 0)=some (.int .i64 z.k)/\w.cell? ((a.add (i*5)).add 1)=some (.int .i64 z.id)/\w.cell? ((a.add (i*5)).add 2)=some (.int .i64 z.fr)/\w.cell? ((a.add (i*5)).add 3)=some (.string ⟨z.ad.toArray⟩)/\w.cell? ((a.add (i*5)).add 4)=some (.slice z.A z.n z.c))/\FltD w z/\(z.n<=2600000000000/\z.ad.length<=9223372036854775807/\PBx z.f):=fun i hi=>by
   obtain⟨cs,k1,k2⟩:=hx i (by omega)
   rw[show Tryz.prog.cellsOf 28=5 from by kernel_rfl] at k1
   obtain⟨_,hlen,hat⟩:=World.cells?_some k1
   obtain⟨xs,n',_,hxx,_,hxl,hfs⟩:=DataW.trod_struct Tryz.underlying28 k2
   match cs,hlen with
   | [c0,c1,c2,c3,c4],_=>
    obtain⟨y0,_,g0⟩:=field_at (i:=0) (t:=3) (o:=0) (m:=1) hfs hxl rfl ⟨rfl,rfl,by kernel_rfl⟩
    obtain⟨y1,_,g1⟩:=field_at (i:=1) (t:=3) (o:=1) (m:=1) hfs hxl rfl ⟨rfl,rfl,by kernel_rfl⟩
    obtain⟨y2,_,g2⟩:=field_at (i:=2) (t:=3) (o:=2) (m:=1) hfs hxl rfl ⟨rfl,rfl,by kernel_rfl⟩
    obtain⟨y3,_,g3⟩:=field_at (i:=3) (t:=9) (o:=3) (m:=1) hfs hxl rfl ⟨rfl,rfl,by kernel_rfl⟩
    obtain⟨y4,e4,g4⟩:=field_at (i:=4) (t:=26) (o:=4) (m:=1) hfs hxl rfl ⟨rfl,rfl,by kernel_rfl⟩
    obtain⟨z0,q0,_,_⟩:=DataW.trod_int Tryz.underlying3 g0
    obtain⟨z1,q1,_,_⟩:=DataW.trod_int Tryz.underlying3 g1
    obtain⟨z2,q2,_,_⟩:=DataW.trod_int Tryz.underlying3 g2
    obtain⟨⟨⟨z3⟩⟩,q3,_,w3⟩:=DataW.trod_string Tryz.underlying9 g3
    have hD:D i=.agg (xs.map (·.1)):=congrArg Prod.fst hxx
    have hwi:=hwe (D i) (List.mem_map.2 ⟨i,List.mem_range.2 hi,rfl⟩)
    rw[hD] at hwi
    obtain⟨A,n0,c0',f,q4,f1,f2,f3,f4,f5,f6⟩:=open_flt g4 (weights_struct Tryz.underlying28 hwi (i:=4) rfl (by rw[List.getElem?_map,e4];rfl))
    have a0:=hat 0 (by omega)
    have a1:=hat 1 (by omega)
    have a2:=hat 2 (by omega)
    have a3:=hat 3 (by omega)
    have a4:=hat 4 (by omega)
    simp at q0 q1 q2 q3
    subst q0;subst q1;subst q2;subst q3;subst q4
    have w3':z3.length<=maxLen:=w3
    rw[maxLen_num] at w3'
    exact⟨⟨z0,z1,z2,z3,A,n0,c0',f⟩,⟨a0,a1,a2,a3,a4⟩,⟨f1,f2,f5⟩,f4,w3',f6⟩
  obtain⟨Z,hZ⟩:=choose_lt each
  refine ⟨(List.range len).map Z,by simp,hl,hm,by omega,⟨?_,?_⟩,?_⟩
  ·by_cases h0:len=0
   ·exact .inl (by simp[h0])
   ·obtain⟨b,off,rfl,hb⟩:=plain_atQ (a:=a) (by simpa[Addr.add] using (hZ 0 (by omega)).1.1)
    refine .inr ⟨b,off,rfl,hb,fun i hi j v hv=>?_⟩
    have hi':i<len:=by simpa using hi
    have:=(hZ i hi').1
    rw[add_lit,add_lit,add_lit,add_lit,add_lit,add_lit] at this
    obtain⟨q0,q1,q2,q3,q4⟩:=this
    have hz:((List.range len).map Z)[i]=Z i:=by simp
    rw[hz] at hv
    have hj:j<5:=by have:=(List.getElem?_eq_some_iff.1 hv).1;simpa[layD,cellsD] using this
    show w.cell? ⟨b,off+i*5+j,none⟩=some v
    match j,hj with
    | 0,_=>rw[<-hv];exact q0
    | 1,_=>rw[<-hv];exact q1
    | 2,_=>rw[<-hv];exact q2
    | 3,_=>rw[<-hv];exact q3
    | 4,_=>rw[<-hv];exact q4
  ·intro z hz
   simp only[List.mem_map,List.mem_range] at hz
   obtain⟨i,hi,rfl⟩:=hz
   exact (hZ i hi).2.1
  ·intro z hz
   simp only[List.mem_map,List.mem_range] at hz
   obtain⟨i,hi,rfl⟩:=hz
   exact (hZ i hi).2.2
end
end
section
open Go.RowKit Go.Sort Spans Tb Dm
def pE2:List Pr:=[⟨[97],8,0,0,[]⟩,⟨[97],8,0,0,[]⟩]
def pE1:List Pr:=[⟨[97],8,0,0,[]⟩]
theorem rZ0:Tb.Right ⟨0,[],[],[]⟩:=⟨by decide,by decide,⟨by decide,rise_nil,fun e he=>by cases he⟩,⟨by decide,rise_nil,fun e he=>by cases he⟩,⟨by decide,rise_nil,fun e he=>by cases he⟩⟩
theorem shZ:Short []:=fun x hx=>by cases hx
theorem nE2:Fil.NormIs pE2 pE1 0:=by
 have hp:predsOf [97] any_=pE1:=by decide
 have hc:Canon any_:=.inr (.inl rfl)
 have ha:IsAll pE1 any_:=by rw[<-hp];exact preds_all hc (by decide) (by decide) (by decide)
 have hb:IsAll pE2 any_:=⟨hc,fun v hv=>(ha.2 v hv).trans (by simp[pE1,pE2])⟩
 exact (good97 (f:=pE2) (a:=any_) ⟨by decide,by decide⟩ ⟨by decide,by decide⟩ hb (by decide) hp (by decide)).norm
theorem nS:DNorm ⟨5,8,5,[],pE2⟩ ⟨5,8,5,[],pE1⟩ 0:=.inr ⟨by unfold Fit Ent;decide,pE1,nE2,.inl ⟨rfl,rfl⟩⟩
theorem owN:Dm.Own ⟨5,8,5,[],pE1⟩:=nS.good.1
def bS:Bk:=⟨2,[⟨4,[120]⟩],[],[⟨7,4,pE1⟩]⟩
def l0:List Dd:=[⟨1,4,0,[120],[]⟩,⟨5,7,4,[],pE2⟩,⟨2,4,0,[],[]⟩]
theorem norm_of {d:Dd} (h:Fit d) (hf:d.f=[]):DNorm d d 0:=(show Dm.Own d from⟨h,by rw[hf];exact norm_nil⟩).norm
theorem foldS:Dm.Folds zeroB l0 bS 2 10:=by
 refine .good (t:=⟨1,[⟨4,[120]⟩],[],[]⟩) ⟨⟨1,4,0,[120],[]⟩,0,norm_of (by unfold Fit Ent;decide) rfl,.inr (.inr (.inr ⟨rfl,by decide,by decide,rfl,rfl⟩))⟩ ?_
 refine .good (t:=bS) ⟨⟨5,7,4,[],pE1⟩,0,.inr ⟨by unfold Fit Ent;decide,pE1,nE2,.inl ⟨rfl,rfl⟩⟩,.inr (.inr (.inr ⟨rfl,by decide,by decide,rfl,rfl⟩))⟩ ?_
 exact .bad ⟨⟨2,4,0,[],[]⟩,0,norm_of (by unfold Fit Ent;decide) rfl,.inr (.inr (.inl ⟨rfl,by decide,by decide,rfl,by decide⟩))⟩ (by decide)
theorem does1:Does bS ⟨5,8,5,[],pE2⟩ bS 7:=⟨_,0,nS,.inr (.inr (.inl ⟨rfl,by decide,by decide,rfl,by decide⟩))⟩
theorem does2:Does bS ⟨6,8,0,[],[]⟩ bS 7:=⟨_,0,norm_of (by unfold Fit Ent;decide) rfl,.inr (.inr (.inl ⟨rfl,by decide,by decide,rfl,by decide⟩))⟩
theorem does3:Does bS ⟨6,7,4,[],[]⟩ bS 1:=⟨zeroD,1,.inl ⟨by unfold Fit Ent;decide,rfl,rfl⟩,.inl ⟨by decide,rfl,rfl⟩⟩
theorem rS:Tb.Right bS:=(foldS.right rZ0).1
theorem dbN:dbytes ⟨5,8,5,[],pE1⟩=[5,8,5,1,1,97,8]:=by
 have e1:Wire.put 1=[1]:=Wire.put_lo 1 (by decide)
 have e8:Wire.put 8=[8]:=Wire.put_lo 8 (by decide)
 have e5:Wire.put 5=[5]:=Wire.put_lo 5 (by decide)
 have hr:Preds.right [97] 8 0 0 []=true:=by decide
 have hE:Ent 5:=.inr rfl
 simp only[dbytes,behindK,fbytes,pE1,layOf,List.flatMap_cons,List.flatMap_nil,List.length_cons,List.length_nil,Nat.zero_add,List.append_nil]
 unfold Preds.lay
 rw[if_pos hr,if_neg (by decide),if_pos hE]
 unfold Preds.bytes
 rw[if_pos rfl]
 unfold Wire.text
 simp[e1,e8,e5]
theorem pbX:PBd pE1:=by unfold PBd;decide
theorem pbE:PBd pE2:=by unfold PBd;decide
theorem pbN:PBd []:=fun p hp=>by cases hp
abbrev lX (b:Nat):List Dx:=[⟨1,4,0,[120],none,0,0,[]⟩,⟨5,7,4,[],some ⟨b,0,none⟩,2,2,pE2⟩,⟨2,4,0,[],none,0,0,[]⟩]
theorem shX (b:Nat):ShortD (lX b):=fun x hx=>by
 simp at hx
 rcases hx with rfl|rfl|rfl
 ·exact⟨by decide,pbN⟩
 ·exact⟨by show 2<=100000;decide,pbE⟩
 ·exact⟨by decide,pbN⟩
abbrev sT (A:OA) (c:Nat) (A1:OA) (c1:Nat) (A2:OA) (c2:Nat) (fA:OA) (fc:Nat):Sx:=⟨2,A,1,c,[⟨4,[120]⟩],A1,0,c1,[],A2,1,c2,[⟨7,4,fA,1,fc,pE1⟩]⟩
theorem st_form {w:World} {base:Nat} {t:Sx} (h:t.bk=bS) (hf:Fresh w base t):∃A c A1 c1 A2 c2 fA fc,t=sT A c A1 c1 A2 c2 fA fc:=by
 obtain⟨ep,A,n,c,ls,A1,n1,c1,av,A2,n2,c2,su⟩:=t
 obtain⟨hl,ho,_⟩:=hf
 injection h with h1 h2 h3 h4
 dsimp only at h1 h2 h3 h4
 subst h1 h2
 have e3:av=[]:=List.map_eq_nil_iff.1 h3
 subst e3
 match su,h4 with
 | [⟨xi,xr,xA,xn,xc,xf⟩],h4=>
  injection h4 with h4 _
  injection h4 with q1 q2 q3
  dsimp only at q1 q2 q3
  subst q1 q2 q3
  have hx:=(ho.su.2 _ (List.mem_singleton.2 rfl)).1
  obtain rfl:xn=1:=hx.symm
  obtain rfl:n=1:=hl.n.symm
  obtain rfl:n1=0:=hl.n1.symm
  obtain rfl:n2=1:=hl.n2.symm
  exact⟨A,c,A1,c1,A2,c2,xA,xc,rfl⟩
theorem get8:∀k,k<(someS (someS (someS (⟨[5,8,5,1,1,97,8],0⟩:Wire.St) 6) 1073741824) 1073741824).uptoV 24->Preds.rawO (rdsS k ((someS (someS (someS (⟨[5,8,5,1,1,97,8],0⟩:Wire.St) 6) 1073741824) 1073741824).uptoS 24))=8:=by
 have h1:(someS (someS (someS (⟨[5,8,5,1,1,97,8],0⟩:Wire.St) 6) 1073741824) 1073741824).uptoV 24=1:=by decide +kernel
 intro k hk
 rw[h1] at hk
 obtain rfl:k=0:=by omega
 decide +kernel
theorem dsmall_at (w:World):Calls Tryz.prog 5 #[] w fun e w'=>e=.returned (.bool true)/\Below w.heap.size w w':=by
 have hb0:=(gr2 w (.cells #[.string ⟨#[97]⟩,.int .i64 8,.int .i64 0,.int .i64 0,.string ⟨#[]⟩,.string ⟨#[97]⟩,.int .i64 8,.int .i64 0,.int .i64 0,.string ⟨#[]⟩] 54) (.cells #[.int .i64 1,.int .i64 4,.int .i64 0,.string ⟨#[120]⟩,.slice none 0 0,.int .i64 5,.int .i64 7,.int .i64 4,.string ⟨#[]⟩,.slice (some ⟨w.heap.size,0,none⟩) 2 2,.int .i64 2,.int .i64 4,.int .i64 0,.string ⟨#[]⟩,.slice none 0 0] 28)).below
 have BB:=Jh hb0
 have RP:Hid (RdQ ((w.alloc (.cells #[.string ⟨#[97]⟩,.int .i64 8,.int .i64 0,.int .i64 0,.string ⟨#[]⟩,.string ⟨#[97]⟩,.int .i64 8,.int .i64 0,.int .i64 0,.string ⟨#[]⟩] 54)).alloc (.cells #[.int .i64 1,.int .i64 4,.int .i64 0,.string ⟨#[120]⟩,.slice none 0 0,.int .i64 5,.int .i64 7,.int .i64 4,.string ⟨#[]⟩,.slice (some ⟨w.heap.size,0,none⟩) 2 2,.int .i64 2,.int .i64 4,.int .i64 0,.string ⟨#[]⟩,.slice none 0 0] 28)) (some ⟨w.heap.size,0,none⟩) pE2):=RdK.below (rdk_lit layP w pE2 54 #[.string ⟨#[97]⟩,.int .i64 8,.int .i64 0,.int .i64 0,.string ⟨#[]⟩,.string ⟨#[97]⟩,.int .i64 8,.int .i64 0,.int .i64 0,.string ⟨#[]⟩] rfl) (gr1 (w.alloc (.cells #[.string ⟨#[97]⟩,.int .i64 8,.int .i64 0,.int .i64 0,.string ⟨#[]⟩,.string ⟨#[97]⟩,.int .i64 8,.int .i64 0,.int .i64 0,.string ⟨#[]⟩] 54)) _).below
 have hrd:=rdk_lit layD (w.alloc (.cells #[.string ⟨#[97]⟩,.int .i64 8,.int .i64 0,.int .i64 0,.string ⟨#[]⟩,.string ⟨#[97]⟩,.int .i64 8,.int .i64 0,.int .i64 0,.string ⟨#[]⟩] 54)) (lX w.heap.size) 28 #[.int .i64 1,.int .i64 4,.int .i64 0,.string ⟨#[120]⟩,.slice none 0 0,.int .i64 5,.int .i64 7,.int .i64 4,.string ⟨#[]⟩,.slice (some ⟨w.heap.size,0,none⟩) 2 2,.int .i64 2,.int .i64 4,.int .i64 0,.string ⟨#[]⟩,.slice none 0 0] rfl
 rw[show (w.alloc (.cells #[.string ⟨#[97]⟩,.int .i64 8,.int .i64 0,.int .i64 0,.string ⟨#[]⟩,.string ⟨#[97]⟩,.int .i64 8,.int .i64 0,.int .i64 0,.string ⟨#[]⟩] 54)).heap.size=w.heap.size+1 by simp] at hrd
 have RD:Hid (RdDx ((w.alloc (.cells #[.string ⟨#[97]⟩,.int .i64 8,.int .i64 0,.int .i64 0,.string ⟨#[]⟩,.string ⟨#[97]⟩,.int .i64 8,.int .i64 0,.int .i64 0,.string ⟨#[]⟩] 54)).alloc (.cells #[.int .i64 1,.int .i64 4,.int .i64 0,.string ⟨#[120]⟩,.slice none 0 0,.int .i64 5,.int .i64 7,.int .i64 4,.string ⟨#[]⟩,.slice (some ⟨w.heap.size,0,none⟩) 2 2,.int .i64 2,.int .i64 4,.int .i64 0,.string ⟨#[]⟩,.slice none 0 0] 28)) (some ⟨w.heap.size+1,0,none⟩) (lX w.heap.size)):=⟨hrd,fun x hx=>by
  simp at hx
  rcases hx with rfl|rfl|rfl
  ·exact⟨rfl,Jn,.inl rfl⟩
  ·exact⟨rfl,Jn,RP.o⟩
  ·exact⟨rfl,Jn,.inl rfl⟩⟩
 clear hb0 hrd
 go_enter Tryz.func5,Tryz.ntmps5
 go_wp2_with fail
 generalize ((w.alloc (.cells #[.string ⟨#[97]⟩,.int .i64 8,.int .i64 0,.int .i64 0,.string ⟨#[]⟩,.string ⟨#[97]⟩,.int .i64 8,.int .i64 0,.int .i64 0,.string ⟨#[]⟩] 54)).alloc (.cells #[.int .i64 1,.int .i64 4,.int .i64 0,.string ⟨#[120]⟩,.slice none 0 0,.int .i64 5,.int .i64 7,.int .i64 4,.string ⟨#[]⟩,.slice (some ⟨w.heap.size,0,none⟩) 2 2,.int .i64 2,.int .i64 4,.int .i64 0,.string ⟨#[]⟩,.slice none 0 0] 28))=w0 at *
 refine (dfold_at zeroS ⟨rfl,Jn,rfl,Jn,rfl,Jn⟩ ⟨by decide,by decide,by decide,shZ,shZ⟩ (lX w.heap.size) (some ⟨w.heap.size+1,0,none⟩) 3 3 rfl (by decide) (shX _) w0 rZ0 ⟨.inl rfl,RdEn.nil _ _,RdEn.nil _ _⟩ RD.o).mono ?_
 rintro e w1 ⟨t,n,er,rfl,hf,hfr,hb⟩
 obtain⟨hbk,rfl,rfl⟩:=(show Dm.Folds zeroB l0 t.bk n er from hf).one foldS
 obtain⟨A,c,A1,c1,A2,c2,fA,fc,rfl⟩:=st_form hbk hfr
 have HC1:Hid (1<=c):=hfr.len.c
 have HC2:Hid (1<=c2):=hfr.len.c2
 have HFW:Hid ((sT A c A1 c1 A2 c2 fA fc).Few):=⟨by show 1<=100000;decide,by show 0<=100000;decide,by show 1<=100000;decide,shZ,fun x hx=>by simp at hx;subst hx;show 1<=100000;decide⟩
 have RS:=Jh hfr.own.rd
 clear hf hbk hfr RD
 replace BB:=Jh (below_next BB.o (Jn) hb)
 replace RP:=Jh (RdK.below RP.o hb)
 clear hb
 have hb:=(gr1 w1 (.cells (xC 2 A 1 c A1 0 c1 A2 1 c2) 25)).below
 have HX:=Jh (Blk.new w1 25 (xC 2 A 1 c A1 0 c1 A2 1 c2))
 replace BB:=Jh (below_next BB.o (Jn) hb)
 replace RP:=Jh (RdK.below RP.o hb)
 replace RS:=Jh (Sx.Rd.below RS.o hb)
 clear hb
 obtain⟨x0,x1,x2,x3,_⟩:=blk4 HX.o
 go_wp2_with fail
 clear x0 x1 x2 x3
 generalize w1.alloc (.cells (xC 2 A 1 c A1 0 c1 A2 1 c2) 25)=w2 at *
 generalize w1.heap.size=p at *
 refine (ddo_at (sT A c A1 c1 A2 c2 fA fc) ⟨rfl,HC1.o,rfl,Nat.zero_le _,rfl,HC2.o⟩ HFW.o 5 8 5 [] pE2 (some ⟨w.heap.size,0,none⟩) 2 2 rfl (by decide) pbE w2 rS RS.o RP.o).mono ?_
 rintro e w3 ⟨t,er,b,rfl,hdo,hbk,hfr,hb⟩
 obtain⟨_,rfl⟩:=(show Does bS ⟨5,8,5,[],pE2⟩ b er from hdo).one does1
 clear hdo hbk hfr
 replace BB:=Jh (below_next BB.o (Jn) hb)
 replace RP:=Jh (RdK.below RP.o hb)
 replace RS:=Jh (Sx.Rd.below RS.o hb)
 replace HX:=Jh (Blk.below HX.o hb HX.o.lt)
 clear hb
 have hb:=(gr1 w3 (.cells (xC t.ep t.A t.n t.c t.A1 t.n1 t.c1 t.A2 t.n2 t.c2) 25)).below
 replace BB:=Jh (below_next BB.o (Jn) hb)
 replace RP:=Jh (RdK.below RP.o hb)
 replace RS:=Jh (Sx.Rd.below RS.o hb)
 replace HX:=Jh (Blk.below HX.o hb HX.o.lt)
 clear hb
 obtain⟨x0,x1,x2,x3,_⟩:=blk4 HX.o
 go_wp2_with fail
 clear x0 x1 x2 x3
 generalize w3.alloc (.cells (xC t.ep t.A t.n t.c t.A1 t.n1 t.c1 t.A2 t.n2 t.c2) 25)=w4 at *
 refine (ddo_at (sT A c A1 c1 A2 c2 fA fc) ⟨rfl,HC1.o,rfl,Nat.zero_le _,rfl,HC2.o⟩ HFW.o 6 8 0 [] [] none 0 0 rfl (by decide) pbN w4 rS RS.o (.inl rfl)).mono ?_
 rintro e w5 ⟨t,er,b,rfl,hdo,hbk,hfr,hb⟩
 obtain⟨_,rfl⟩:=(show Does bS ⟨6,8,0,[],[]⟩ b er from hdo).one does2
 clear hdo hbk hfr
 replace BB:=Jh (below_next BB.o (Jn) hb)
 replace RP:=Jh (RdK.below RP.o hb)
 replace RS:=Jh (Sx.Rd.below RS.o hb)
 replace HX:=Jh (Blk.below HX.o hb HX.o.lt)
 clear hb
 have hb:=(gr1 w5 (.cells (xC t.ep t.A t.n t.c t.A1 t.n1 t.c1 t.A2 t.n2 t.c2) 25)).below
 replace BB:=Jh (below_next BB.o (Jn) hb)
 replace RP:=Jh (RdK.below RP.o hb)
 replace RS:=Jh (Sx.Rd.below RS.o hb)
 replace HX:=Jh (Blk.below HX.o hb HX.o.lt)
 clear hb
 obtain⟨x0,x1,x2,x3,_⟩:=blk4 HX.o
 go_wp2_with fail
 clear x0 x1 x2 x3
 generalize w5.alloc (.cells (xC t.ep t.A t.n t.c t.A1 t.n1 t.c1 t.A2 t.n2 t.c2) 25)=w6 at *
 refine (ddo_at (sT A c A1 c1 A2 c2 fA fc) ⟨rfl,HC1.o,rfl,Nat.zero_le _,rfl,HC2.o⟩ HFW.o 6 7 4 [] [] none 0 0 rfl (by decide) pbN w6 rS RS.o (.inl rfl)).mono ?_
 rintro e w7 ⟨t,er,b,rfl,hdo,hbk,hfr,hb⟩
 obtain⟨_,rfl⟩:=(show Does bS ⟨6,7,4,[],[]⟩ b er from hdo).one does3
 clear hdo hbk hfr
 replace BB:=Jh (below_next BB.o (Jn) hb)
 replace RP:=Jh (RdK.below RP.o hb)
 replace RS:=Jh (Sx.Rd.below RS.o hb)
 replace HX:=Jh (Blk.below HX.o hb HX.o.lt)
 clear hb
 have hb:=(gr1 w7 (.cells (xC t.ep t.A t.n t.c t.A1 t.n1 t.c1 t.A2 t.n2 t.c2) 25)).below
 replace BB:=Jh (below_next BB.o (Jn) hb)
 replace RP:=Jh (RdK.below RP.o hb)
 replace RS:=Jh (Sx.Rd.below RS.o hb)
 replace HX:=Jh (Blk.below HX.o hb HX.o.lt)
 clear hb
 obtain⟨x0,x1,x2,x3,_⟩:=blk4 HX.o
 go_wp2_with fail
 clear x0 x1 x2 x3
 generalize w7.alloc (.cells (xC t.ep t.A t.n t.c t.A1 t.n1 t.c1 t.A2 t.n2 t.c2) 25)=w8 at *
 refine (dnorm_at ⟨5,8,5,[],pE2⟩ (some ⟨w.heap.size,0,none⟩) 2 2 rfl (by decide) pbE w8 RP.o).mono ?_
 rintro e w9 ⟨⟨ok,oi,of,oa,off⟩,er,A6,n6,c6,rfl,hdn,hl6,hc6,ho6,hb⟩
 obtain⟨h,rfl⟩:=hdn.one nS
 injection h with h1 h2 h3 h4 h5
 subst h1 h2 h3 h4 h5
 obtain rfl:n6=1:=hl6.symm
 have RN:=Jh (own_rdq ho6)
 clear hdn hl6 ho6
 clear RP
 replace BB:=Jh (below_next BB.o (Jn) hb)
 replace RS:=Jh (Sx.Rd.below RS.o hb)
 replace HX:=Jh (Blk.below HX.o hb HX.o.lt)
 clear hb
 have hb:=(gr1 w9 (.cells (dC 5 8 5 #[] A6 1 c6) 28)).below
 have HN:=Jh (Blk.new w9 28 (dC 5 8 5 #[] A6 1 c6))
 replace BB:=Jh (below_next BB.o (Jn) hb)
 replace RS:=Jh (Sx.Rd.below RS.o hb)
 replace HX:=Jh (Blk.below HX.o hb HX.o.lt)
 replace RN:=Jh (RdK.below RN.o hb)
 clear hb
 obtain⟨d0,d1,d2,d3,d4,_⟩:=blk5 HN.o
 go_wp2_with fail
 clear d0 d1 d2 d3 d4
 generalize w9.alloc (.cells (dC 5 8 5 #[] A6 1 c6) 28)=w10 at *
 generalize w9.heap.size=p6 at *
 refine (dput_at none [] 0 0 rfl (by decide) 5 8 5 [] pE1 A6 1 c6 rfl (by decide) pbX w10 (.inl rfl) RN.o).mono ?_
 rintro e w11 ⟨fs,hfl,hf9,D,cc,he,hcc,hb,hrd⟩
 obtain rfl:fs=[5,8,5,1,1,97,8]:=hfl.one (.inl ⟨owN,dbN.symm⟩)
 obtain rfl:e=.returned (.slice D 7 cc):=he
 rw[List.nil_append] at hrd
 have RB:=Jh hrd
 clear hfl hf9 hrd
 replace BB:=Jh (below_next BB.o (Jn) hb)
 replace RS:=Jh (Sx.Rd.below RS.o hb)
 replace HX:=Jh (Blk.below HX.o hb HX.o.lt)
 replace RN:=Jh (RdK.below RN.o hb)
 replace HN:=Jh (Blk.below HN.o hb HN.o.lt)
 clear hb
 go_wp2_with fail
 refine (on_at D [5,8,5,1,1,97,8] 7 cc rfl (by decide) w11 RB.o).mono ?_
 rintro e w12 ⟨gs,rfl,hgs,hbo,hsc⟩
 have SS:=Jh hsc
 have HBO:=Jh hbo
 have hXn:=HX.o.below hbo HX.o.lt
 obtain⟨x0,x1,x2,x3,_⟩:=blk4 hXn
 clear hsc hbo
 go_wp2_with fail
 clear x0 x1 x2 x3 hXn
 refine (dgetX_at w12 gs _ SS.o get8).mono ?_
 rintro e w13 ⟨⟨xk,xi,xr,xa,xf⟩,s',A9,n9,c9,hg,rfl,hl9,h24,hc9,ho9,hs9,ht9⟩
 rw[show (⟨[5,8,5,1,1,97,8],0⟩:Wire.St)=⟨dbytes ⟨5,8,5,[],pE1⟩++[],0⟩ by rw[dbN];rfl] at hg
 obtain⟨h,rfl⟩:=Dm.get_lay owN [] hg
 injection h with h1 h2 h3 h4 h5
 subst h1 h2 h3 h4 h5
 obtain rfl:n9=1:=hl9.symm
 have RX:=Jh (own_rdq ho9)
 have hb:=ht9.below HBO.o HBO.o.size hgs
 replace SS:=Jh hs9
 clear hg hl9 ho9 hs9 ht9 HBO
 replace BB:=Jh (below_next BB.o (Jn) hb)
 replace RS:=Jh (Sx.Rd.below RS.o hb)
 replace HX:=Jh (Blk.below HX.o hb HX.o.lt)
 replace RN:=Jh (RdK.below RN.o hb)
 replace HN:=Jh (Blk.below HN.o hb HN.o.lt)
 replace RB:=Jh (Rd.below RB.o hb)
 clear hb
 have hb:=(gr1 w13 (.cells (dC 5 8 5 #[] A9 1 c9) 28)).below
 have HY:=Jh (Blk.new w13 28 (dC 5 8 5 #[] A9 1 c9))
 replace BB:=Jh (below_next BB.o (Jn) hb)
 replace RS:=Jh (Sx.Rd.below RS.o hb)
 replace HX:=Jh (Blk.below HX.o hb HX.o.lt)
 replace RN:=Jh (RdK.below RN.o hb)
 replace HN:=Jh (Blk.below HN.o hb HN.o.lt)
 replace RB:=Jh (Rd.below RB.o hb)
 replace SS:=Jh (Sc.below SS.o hb)
 replace RX:=Jh (RdK.below RX.o hb)
 clear hb
 obtain⟨x0,x1,x2,x3,_⟩:=blk4 HX.o
 obtain⟨d0,d1,d2,d3,d4,_⟩:=blk5 HN.o
 obtain⟨y0,y1,y2,y3,y4,_⟩:=blk5 HY.o
 obtain⟨ge,oe,hAe,hge,c0,c1x,c2x,_⟩:=RdEn.at3 RS.o.su (show 0<1 by decide)
 dsimp only at hAe
 subst hAe
 simp only[Nat.zero_mul,Nat.add_zero,List.getElem_cons_zero] at c0 c1x c2x
 go_wp2_with fail
 clear x0 x1 x2 x3 d0 d1 d2 d3 d4 y0 y1 y2 y3 y4 c0 c1x c2x
 generalize w13.alloc (.cells (dC 5 8 5 #[] A9 1 c9) 28)=w14 at *
 refine (dsame_at 5 8 5 [] pE1 A9 1 c9 rfl (by decide) 5 8 5 [] pE1 A6 1 c6 rfl (by decide) w14 RX.o RN.o true rfl).mono ?_
 rintro e w15 ⟨rfl,hb⟩
 replace BB:=Jh (below_next BB.o (Jn) hb)
 replace RS:=Jh (Sx.Rd.below RS.o hb)
 replace HX:=Jh (Blk.below HX.o hb HX.o.lt)
 replace RN:=Jh (RdK.below RN.o hb)
 replace HN:=Jh (Blk.below HN.o hb HN.o.lt)
 replace RB:=Jh (Rd.below RB.o hb)
 replace SS:=Jh (Sc.below SS.o hb)
 replace RX:=Jh (RdK.below RX.o hb)
 replace HY:=Jh (Blk.below HY.o hb HY.o.lt)
 clear hb
 go_wp2_with fail
 refine (end_at w15 gs _ SS.o 0 rfl).mono ?_
 rintro e wx ⟨rfl,rfl⟩
 have hst:=run_str (P:=Tryz.prog) w15 D [5,8,5,1,1,97,8] 7 cc RB.o rfl 29 5 9 Tryz.underlying29 Tryz.underlying5 Tryz.underlying9
 go_wp2_with fail
 go_ret
 exact⟨rfl,BB.o⟩
end
section
open Go.RowKit Go.Sort Spans Tb
def statesB (s:Sx):Bool:=decide (∀k∈s.ls,k.ad.length<=100) && ((fewE s.av && fewE s.su) && decide (s.ls.length<=30))
theorem pbs_of {xs:List Ex} (h:fewE xs=true) (hb:EBx xs):PBs xs:=fun x hx p hp=>by
 have h1:=(fewE_of h).1 x hx p hp
 have h2:=(hb x hx).2.2.2 p hp
 exact⟨h1.1,h1.2,h2.2.2.1,h2.2.2.2⟩
theorem short_of {xs:List Ex} (h:fewE xs=true):Short xs:=fun x hx=>Nat.le_trans ((fewE_of h).2.2 x hx) (by decide)
structure Sx.Ok (s:Sx):Prop where
 few:s.Few
 pa:PBs s.av
 pu:PBs s.su
 n:s.n<=30
 n1:s.n1<=80
 n2:s.n2<=80
 ad:∀k∈s.ls,k.ad.length<=100
 fa:∀x∈s.av,x.n<=300
 fu:∀x∈s.su,x.n<=300
theorem ok_of {s:Sx} (h:statesB s=true) (ln:s.Len) (ha:EBx s.av) (hu:EBx s.su):s.Ok:=by
 unfold statesB at h
 simp only[Bool.and_eq_true,decide_eq_true_eq] at h
 obtain⟨h1,⟨h2,h3⟩,h4⟩:=h
 have l1:=fewE_of h2
 have l2:=fewE_of h3
 have e0:=ln.n
 have e1:=ln.n1
 have e2:=ln.n2
 exact⟨⟨by omega,by omega,by omega,short_of h2,short_of h3⟩,pbs_of h2 ha,pbs_of h3 hu,by omega,by omega,by omega,h1,l1.2.2,l2.2.2⟩
theorem states_at (s:Sx) (ln:s.Len) (hz:s.n<=5900000000000/\s.n1<=3600000000000/\s.n2<=3600000000000) (lb:LBx s.ls) (ab:EBx s.av) (ub:EBx s.su) (w:World) (hr:s.Rd w) (q:Bool) (hq:statesB s=q):
  Calls Tryz.prog 6 #[s.v] w fun e w'=>e=.returned (.bool q)/\Below w.heap.size w w':=by
 obtain⟨ep,A,n,c,ls,A1,n1,c1,av,A2,n2,c2,su⟩:=s
 have LN:=Jh ln
 have HQ:=Jh hq
 have LB:=Jh lb
 have AB:=Jh ab
 have UB:=Jh ub
 obtain⟨hz0,hz1,hz2⟩:=hz
 dsimp only at hz0 hz1 hz2
 have hB0:=(gr1 w (.cells (xC ep A n c A1 n1 c1 A2 n2 c2) 25)).below
 have HX0:=Jh (Blk.new w 25 (xC ep A n c A1 n1 c1 A2 n2 c2))
 have HB0:=Jh hB0
 have HR0:=Jh (hr.below hB0)
 obtain⟨x0,x1,x2,x3,_⟩:=blk4 HX0.o
 have hl:=HX0.o.lt
 obtain⟨qa,hqa⟩:∃qa,fewE av=qa:=⟨_,rfl⟩
 obtain⟨qu,hqu⟩:∃qu,fewE su=qu:=⟨_,rfl⟩
 have HQA:=Jh hqa
 have HQU:=Jh hqu
 clear ln hq lb ab ub hr hB0 hqa hqu
 go_enter Tryz.func6,Tryz.ntmps6
 go_wp2_with fail
 refine (tfew_at A1 av n1 c1 LN.o.n1 (by omega) AB.o _ HR0.o.av qa HQA.o).mono ?_
 rintro e w1 ⟨rfl,hb⟩
 have HB1:=Jh (below_next HB0.o (by have:=HB0.o.size;omega) hb)
 have HX1:=Jh (Blk.below HX0.o hb HX0.o.lt)
 have HR1:=Jh (HR0.o.below hb)
 clear hb x0 x1 x2 x3 hl
 obtain⟨x0,x1,x2,x3,_⟩:=blk4 HX1.o
 have hl:=HX1.o.lt
 go_wp2_with fail
 refine (tfew_at A2 su n2 c2 LN.o.n2 (by omega) UB.o _ HR1.o.su qu HQU.o).mono ?_
 rintro e w2 ⟨rfl,hb⟩
 have HB2:=Jh (below_next HB1.o (by have:=HB1.o.size;omega) hb)
 have HX2:=Jh (Blk.below HX1.o hb HX1.o.lt)
 have HR2:=Jh (HR1.o.below hb)
 clear hb x0 x1 x2 x3 hl
 obtain⟨x0,x1,x2,x3,_⟩:=blk4 HX2.o
 have hl:=HX2.o.lt
 go_wp2_with fail
 clear x0 x1 x2 x3 hl
 go_loopg [5] n (fun gg s5 wr=>∃k:Nat,k<=n/\n-k<=gg/\s5=.int .i64 (k:Int)/\Hid (wr=w2)/\Hid (∀x∈ls.take k,x.ad.length<=100))
 case atStart=>exact⟨0,Nat.zero_le _,by omega,rfl,rfl,by show ∀_,_;simp⟩
 case round=>
  obtain⟨k,hk,hgg,rfl,HW,HA⟩:=hrel
  obtain rfl:=HW.o
  obtain⟨x0,x1,x2,x3,_⟩:=blk4 HX2.o
  have hl:=HX2.o.lt
  by_cases hlt:k<n
  ·have hk':k<ls.length:=by have:=LN.o.n;dsimp only at this;omega
   obtain⟨g,off,rfl,hg,c0,c1⟩:=RdLk.at2 HR2.o.ls hk'
   have hbx:=(LB.o _ (List.getElem_mem hk')).1
   obtain⟨x,hx⟩:∃x,ls[k]=x:=⟨_,rfl⟩
   have HE:=Jh hx
   dsimp only at c0 c1
   rw[hx] at c0 c1 hbx
   clear hx
   obtain⟨xi,xa⟩:=x
   dsimp only at c0 c1 hbx
   have w5:(k:Int)<(n:Int):=by omega
   have hsz:(⟨xa.toArray⟩:ByteArray).size=xa.length:=by simp[ByteArray.size]
   by_cases h1:(100:Int)<(xa.length:Int)
   ·have d1:decide ((100:Int)<(xa.length:Int))=true:=decide_eq_true h1
    have HF:Hid (false=q):=by
     show _=_
     rw[<-HQ.o]
     unfold statesB
     rw[decide_eq_false (fun hall=>?_),Bool.false_and]
     have:=hall _ (List.getElem_mem hk')
     rw[HE.o] at this
     dsimp only at this
     omega
    go_wp2_with fail
    go_ret
    exact⟨ret_b HF.o,HB2.o⟩
   ·have d1:decide ((100:Int)<(xa.length:Int))=false:=decide_eq_false h1
    have HA2:Hid (∀x∈ls.take (k+1),x.ad.length<=100):=fun y hy=>by
     rw[List.take_succ_eq_append_getElem hk',HE.o] at hy
     rcases List.mem_append.1 hy with h|h
     ·exact HA.o y h
     ·simp at h;subst h;dsimp only;omega
    go_wp2_with fail
    go_roundg (n-(k+1))
    case measure=>omega
    case rel=>exact⟨k+1,by omega,Jn,by go_num,rfl,HA2⟩
  ·have hkm:k=n:=by omega
   subst hkm
   have hq2:q=((qa && qu) && decide (k<=30)):=by
    rw[<-HQ.o,<-HQA.o,<-HQU.o]
    unfold statesB
    have h1:=HA.o
    have h2:=LN.o.n
    dsimp only at h1 h2
    rw[List.take_of_length_le (by omega)] at h1
    rw[decide_eq_true h1,Bool.true_and,h2]
   have HQ2:=Jh hq2
   clear hq2
   by_cases h30:(k:Int)<=30
   ·have d3:decide ((k:Int)<=30)=true:=decide_eq_true h30
    have HF:Hid ((qa && qu)=q):=by show _=_;rw[HQ2.o,decide_eq_true (show k<=30 by omega),Bool.and_true]
    clear h30
    cases qa<;>cases qu
    all_goals
     go_wp2_with fail
     go_ret
     exact⟨ret_b HF.o,HB2.o⟩
   ·have d3:decide ((k:Int)<=30)=false:=decide_eq_false h30
    have HF:Hid (false=q):=by show _=_;rw[HQ2.o,decide_eq_false (show ¬k<=30 by omega),Bool.and_false]
    clear h30
    cases qa<;>cases qu
    all_goals
     go_wp2_with fail
     go_ret
     exact⟨ret_b HF.o,HB2.o⟩
end
section
open Go.RowKit Go.Sort Spans Tb Dm
theorem pbd_own {f:List Pr} (h:Fil.NormIs f f 0):PBd f/\f.length<=24:=by
 obtain⟨S,L,hg⟩:=h.good
 refine ⟨fun p hp=>?_,hg.sound.1⟩
 obtain⟨h1,h2,h3⟩:=(rightP_iff p).1 (hg.sound.2 p hp)
 obtain⟨h4,h5,_⟩:=Preds.right_parts h1
 exact⟨by omega,by have:=(Preds.right_bd h1).2;omega,h2,h3⟩
structure Sok (s:Sx) (w:World):Prop where
 len:s.Len
 few:s.Few
 rd:s.Rd w
 right:Tb.Right s.bk
 pa:PBs s.av
 pu:PBs s.su
 n:s.n<=16
 n1:s.n1<=64
 n2:s.n2<=64
theorem sok_of {s:Sx} {w:World} (hl:s.Len) (hr:s.Rd w) (h:Tb.Right s.bk):Sok s w:=by
 have a0:s.ls.length<=16:=h.ls.1
 have a1:(s.av.map Ex.en).length<=64:=h.av.1
 have a2:(s.su.map Ex.en).length<=64:=h.su.1
 rw[List.length_map] at a1 a2
 have e0:=hl.n
 have e1:=hl.n1
 have e2:=hl.n2
 have fa:∀x∈s.av,PBd x.f/\x.f.length<=24:=fun x hx=>pbd_own (h.av.2.2 x.en (List.mem_map.2 ⟨x,hx,rfl⟩)).2
 have fu:∀x∈s.su,PBd x.f/\x.f.length<=24:=fun x hx=>pbd_own (h.su.2.2 x.en (List.mem_map.2 ⟨x,hx,rfl⟩)).2
 refine ⟨hl,⟨by omega,by omega,by omega,fun x hx=>?_,fun x hx=>?_⟩,hr,h,fun x hx=>(fa x hx).1,fun x hx=>(fu x hx).1,by omega,by omega,by omega⟩
 ·have h1:=(hr.av.2 x hx).1
  have h2:=(fa x hx).2
  omega
 ·have h1:=(hr.su.2 x hx).1
  have h2:=(fu x hx).2
  omega
theorem Sok.below {s:Sx} {w w':World} (h:Sok s w) (hb:Below w.heap.size w w'):Sok s w':=⟨h.len,h.few,h.rd.below hb,h.right,h.pa,h.pu,h.n,h.n1,h.n2⟩
end
end Go.Proofs.YtnfigjggjmncdaaGreat
