/- Contracts. -/
import Derived.Test.YtnfigjggjmncdaaGreatD2
import Derived.Test.YtnfigjggjmncdaaGreatT1
import Derived.Test.YtnfigjggjmncdaaGreatX1
set_option maxRecDepth 100000
set_option maxHeartbeats 4000000
namespace Go.Proofs.YtnfigjggjmncdaaGreat
section
open Go.RowKit Go.Sort Spans Tb Dm
theorem mayBe_at (i:Int) (w:World) (q:Bool) (hq:decide (1<=i/\i<=1073741824)=q):Calls Tryz.prog 48 #[.int .i64 i] w fun e w'=>e=.returned (.bool q)/\w'=w:=by
 obtain⟨a,ha⟩:∃a,decide (1<=i)=a:=⟨_,rfl⟩
 obtain⟨b,hb⟩:∃b,decide (i<=1073741824)=b:=⟨_,rfl⟩
 rw[Bool.decide_and,ha,hb] at hq
 subst hq
 cases a<;>cases b<;>(go_enter Tryz.func48,Tryz.ntmps48;go_wp2_with fail;go_ret;exact⟨ret_b (by simp[*]),rfl⟩)
theorem enters_at (k:Int) (w:World) (q:Bool) (hq:decide (Ent k)=q):Calls Tryz.prog 25 #[.int .i64 k] w fun e w'=>e=.returned (.bool q)/\w'=w:=by
 have h:(k == 3 || k == 5)=q:=by rw[<-hq];unfold Ent;by_cases h1:k=3<;>by_cases h2:k=5<;>simp[h1,h2]
 clear hq
 obtain⟨a,ha⟩:∃a,(k == 3)=a:=⟨_,rfl⟩
 obtain⟨b,hb⟩:∃b,(k == 5)=b:=⟨_,rfl⟩
 rw[ha,hb] at h
 subst h
 cases a<;>cases b<;>(go_enter Tryz.func25,Tryz.ntmps25;go_wp2_with fail;go_ret;exact⟨ret_b (by simp[*]),rfl⟩)
theorem takes_at (k:Int) (w:World) (q:Bool) (hq:decide (k=2∨k=4∨k=6)=q):Calls Tryz.prog 49 #[.int .i64 k] w fun e w'=>e=.returned (.bool q)/\w'=w:=by
 have h:(k == 2 || k == 4 || k == 6)=q:=by rw[<-hq];by_cases h1:k=2<;>by_cases h2:k=4<;>by_cases h3:k=6<;>simp[h1,h2,h3]
 clear hq
 obtain⟨a,ha⟩:∃a,(k == 2)=a:=⟨_,rfl⟩
 obtain⟨b,hb⟩:∃b,(k == 4)=b:=⟨_,rfl⟩
 obtain⟨c,hc⟩:∃c,(k == 6)=c:=⟨_,rfl⟩
 rw[ha,hb,hc] at h
 subst h
 cases a<;>cases b<;>cases c<;>(go_enter Tryz.func49,Tryz.ntmps49;go_wp2_with fail;go_ret;exact⟨ret_b (by simp[*]),rfl⟩)
abbrev dV (d:Dd) (A:OA) (n c:Nat):Value:=.agg (dC d.k d.id d.fr d.ad.toArray A n c)
abbrev dB (d:Dd) (A:OA) (n c:Nat):Array Value:=(dC d.k d.id d.fr d.ad.toArray A n c)
theorem fit_eq (d:Dd):decide (Fit d)=(decide (1<=d.id/\d.id<=1073741824) && (if d.k=1 then decide ((d.ad.length:Int)<=32) && (d.fr == 0) && decide (d.f.length=0) else if Ent d.k then decide (1<=d.fr/\d.fr<=1073741824) && decide (d.ad=[]) else if d.k=2∨d.k=4∨d.k=6 then (d.fr == 0) && decide (d.ad=[]) && decide (d.f.length=0) else false)):=by
 rw[Bool.eq_iff_iff,decide_eq_true_iff]
 unfold Fit
 obtain⟨k,id,fr,ad,f⟩:=d
 dsimp only
 by_cases h1:k=1
 ·rw[if_pos h1]
  have hne:¬Ent k:=by unfold Ent;omega
  simp only[Bool.and_eq_true,decide_eq_true_eq,beq_iff_eq,List.length_eq_zero_iff]
  constructor
  ·rintro ⟨_,_,a,b,c,_,_,d⟩;exact⟨⟨a,b⟩,⟨by have:=c h1;omega,(d hne).1⟩,(d hne).2⟩
  ·rintro ⟨⟨a,b⟩,⟨c,d⟩,e⟩;exact⟨by omega,by omega,a,b,fun _=>by omega,fun h=>absurd h1 h,fun h=>absurd h hne,fun _=>⟨d,e⟩⟩
 ·rw[if_neg h1]
  by_cases h2:Ent k
  ·rw[if_pos h2]
   have h2':k=3∨k=5:=h2
   simp only[Bool.and_eq_true,decide_eq_true_eq]
   constructor
   ·rintro ⟨_,_,a,b,_,c,d,_⟩;exact⟨⟨a,b⟩,d h2,c h1⟩
   ·rintro ⟨⟨a,b⟩,d,c⟩;exact⟨by omega,by omega,a,b,fun h=>absurd h h1,fun _=>c,fun _=>d,fun h=>absurd h2 h⟩
  ·rw[if_neg h2]
   by_cases h3:k=2∨k=4∨k=6
   ·rw[if_pos h3]
    simp only[Bool.and_eq_true,decide_eq_true_eq,beq_iff_eq,List.length_eq_zero_iff]
    constructor
    ·rintro ⟨_,_,a,b,_,c,_,d⟩;exact⟨⟨a,b⟩,⟨(d h2).1,c h1⟩,(d h2).2⟩
    ·rintro ⟨⟨a,b⟩,⟨d,c⟩,e⟩;exact⟨by omega,by omega,a,b,fun h=>absurd h h1,fun _=>c,fun h=>absurd h h2,fun _=>⟨d,e⟩⟩
   ·rw[if_neg h3]
    have h2':¬(k=3∨k=5):=h2
    simp only[Bool.and_false,Bool.false_eq_true,iff_false]
    rintro ⟨_,_,_⟩
    omega
theorem well_at (d:Dd) (A:OA) (n c:Nat) (hn:d.f.length=n) (w:World) (q:Bool) (hq:decide (Fit d)=q):Calls Tryz.prog 24 #[dV d A n c] w fun e w'=>e=.returned (.bool q)/\Below w.heap.size w w':=by
 rw[fit_eq,hn] at hq
 clear hn
 obtain⟨k,id,fr,ad,f⟩:=d
 dsimp only at *
 have HB:=Jh (gr1 w (.cells (dC k id fr ad.toArray A n c) 28)).below
 obtain⟨c0,c1,c2,c3,c4,_,_,_,_,_⟩:=blk5 (Blk.new w 28 (dC k id fr ad.toArray A n c))
 obtain⟨m,hm⟩:∃m,decide (1<=id/\id<=1073741824)=m:=⟨_,rfl⟩
 obtain⟨mf,hmf⟩:∃m,decide (1<=fr/\fr<=1073741824)=m:=⟨_,rfl⟩
 obtain⟨a32,ha⟩:∃m,decide ((ad.length:Int)<=32)=m:=⟨_,rfl⟩
 obtain⟨f0,hf⟩:∃m,(fr == 0)=m:=⟨_,rfl⟩
 obtain⟨l0,hl⟩:∃m,decide (n=0)=m:=⟨_,rfl⟩
 have hl':((n:Int) == 0)=l0:=by rw[<-hl];by_cases h:n=0<;>simp[h]
 rw[hm,hmf,ha,hf,hl] at hq
 have HM:=Jh hm
 have HMF:=Jh hmf
 have HQ:=Jh hq
 clear hm hmf hq hl
 go_enter Tryz.func24,Tryz.ntmps24
 go_wp2_with fail
 refine (mayBe_at id _ m HM.o).mono ?_
 rintro e w1 ⟨rfl,rfl⟩
 cases m with
 | false=>
  go_wp2_with fail
  go_ret
  exact⟨ret_b (by rw[<-HQ.o];rfl),HB.o⟩
 | true=>
  by_cases h1:k=1
  ·have d1:(k == 1)=true:=beq_iff_eq.2 h1
   have HR:Hid ((a32 && f0 && l0)=q):=by show _=_;rw[<-HQ.o,if_pos h1];rfl
   clear h1 HQ
   cases a32<;>cases f0<;>cases l0<;>(go_wp2_with fail;go_ret;exact⟨ret_b (by rw[<-HR.o];simp[*]),HB.o⟩)
  ·have d1:(k == 1)=false:=beq_eq_false_iff_ne.2 h1
   obtain⟨en,hen⟩:∃m,decide (Ent k)=m:=⟨_,rfl⟩
   have HEN:=Jh hen
   have HR:Hid ((if en then mf && decide (ad=[]) else if k=2∨k=4∨k=6 then f0 && decide (ad=[]) && l0 else false)=q):=by
    show _=_
    rw[<-HQ.o,if_neg h1,<-hen]
    simp
   clear h1 HQ hen
   go_wp2_with fail
   refine (enters_at k _ en HEN.o).mono ?_
   rintro e w1 ⟨rfl,rfl⟩
   cases en with
   | true=>
    go_wp2_with fail
    refine (mayBe_at fr _ mf HMF.o).mono ?_
    rintro e w1 ⟨rfl,rfl⟩
    by_cases hae:ad=[]
    ·subst hae
     cases mf<;>(go_wp2_with fail;go_ret;exact⟨ret_b (by rw[<-HR.o];simp[*]),HB.o⟩)
    ·cases mf<;>(go_wp2_with fail;go_ret;exact⟨ret_b (by rw[<-HR.o];simp[*]),HB.o⟩)
   | false=>
    obtain⟨tk,htk⟩:∃m,decide (k=2∨k=4∨k=6)=m:=⟨_,rfl⟩
    have HTK:=Jh htk
    have HR2:Hid ((if tk then f0 && decide (ad=[]) && l0 else false)=q):=by show _=_;rw[<-HR.o,<-htk];simp
    clear htk HR
    go_wp2_with fail
    refine (takes_at k _ tk HTK.o).mono ?_
    rintro e w1 ⟨rfl,rfl⟩
    cases tk with
    | false=>
     go_wp2_with fail
     go_ret
     exact⟨ret_b (by rw[<-HR2.o];rfl),HB.o⟩
    | true=>
     by_cases hae:ad=[]
     ·subst hae
      cases f0<;>cases l0<;>(go_wp2_with fail;go_ret;exact⟨ret_b (by rw[<-HR2.o];simp[*]),HB.o⟩)
     ·cases f0<;>cases l0<;>(go_wp2_with fail;go_ret;exact⟨ret_b (by rw[<-HR2.o];simp[*]),HB.o⟩)
theorem norm_q (A:OA) (f:List Pr) (n c:Nat) (hn:f.length=n) (hm:n<=100000) (hl:PBd f) (w:World) (hr:RdQ w A f):
  Calls Tryz.prog 26 #[.slice A n c] w (Normed w f):=by
 by_cases h24:n<=100
 ·exact norm_at A f n c hn h24 hl w hr
 ·have v1:(24:Int)<(n:Int):=by omega
  have HN:=Jh hn
  clear hn hr hl
  go_enter Tryz.func26,Tryz.ntmps26
  go_wp2_with fail
  go_ret2
  exact normed_none (.inl ⟨by rw[HN.o];omega,rfl,rfl⟩) (Below.refl _ _)
theorem below_put5 {B b:Nat} {w w':World} (h:Below B w w') (hb:B<=b) (u0 u1 u2 u3 u4:Value):Below B w (((((w'.setCell ⟨b,0,none⟩ u0).setCell ⟨b,1,none⟩ u1).setCell ⟨b,2,none⟩ u2).setCell ⟨b,3,none⟩ u3).setCell ⟨b,4,none⟩ u4):=
 below_set (below_set (below_set (below_set (below_set h hb) hb) hb) hb) hb
theorem OwnK.put5 {α:Type} {L:Lay α} {w:World} {base:Nat} {v:Value} {es:List α} (h:OwnK L w base v es) {b:Nat} (hb:b<base) (u0 u1 u2 u3 u4:Value):OwnK L (((((w.setCell ⟨b,0,none⟩ u0).setCell ⟨b,1,none⟩ u1).setCell ⟨b,2,none⟩ u2).setCell ⟨b,3,none⟩ u3).setCell ⟨b,4,none⟩ u4) base v es:=
 ((((h.set_ hb 0 u0).set_ hb 1 u1).set_ hb 2 u2).set_ hb 3 u3).set_ hb 4 u4
def NormD (w:World) (d:Dd) (e:Ending) (w':World):Prop:=∃(o:Dd) (er:Int) (A:OA) (n c:Nat),e=.returned (.tuple #[dV o A n c,.int .i64 er])/\DNorm d o er/\o.f.length=n/\n<=c/\OwnQ w' w.heap.size (.slice A n c) o.f/\Below w.heap.size w w'
theorem dnorm_at (d:Dd) (A:OA) (n c:Nat) (hn:d.f.length=n) (hm:n<=100000) (hl:PBd d.f) (w:World) (hr:RdQ w A d.f):Calls Tryz.prog 8 #[dV d A n c] w (NormD w d):=by
 obtain⟨k,id,fr,ad,f⟩:=d
 dsimp only at *
 have HN:=Jh hn
 have HL:=Jh hl
 obtain⟨q,hq⟩:∃q,decide (Fit ⟨k,id,fr,ad,f⟩)=q:=⟨_,rfl⟩
 have HQ:=Jh hq
 have hb:=(gr2 w (.cells (dC k id fr ad.toArray A n c) 28) (.cells (dC 0 0 0 #[] none 0 0) 28)).below
 have hX:=(Blk.new w 28 (dC k id fr ad.toArray A n c)).alloc (.cells (dC 0 0 0 #[] none 0 0) 28)
 have hY:=Blk.new (w.alloc (.cells (dC k id fr ad.toArray A n c) 28)) 28 (dC 0 0 0 #[] none 0 0)
 rw[show (w.alloc (.cells (dC k id fr ad.toArray A n c) 28)).heap.size=w.heap.size+1 by simp] at hY
 have HB:=Jh hb
 have HX:=Jh hX
 have HY:=Jh hY
 have HR:=Jh (RdK.below hr hb)
 clear hn hl hq hb hX hY hr
 go_enter Tryz.func8,Tryz.ntmps8
 go_wp2_with fail
 generalize (w.alloc (.cells (dC k id fr ad.toArray A n c) 28)).alloc (.cells (dC 0 0 0 #[] none 0 0) 28)=w0 at *
 obtain⟨c0,c1,c2,c3,c4,_,_,_,_,_⟩:=blk5 HX.o
 go_wp2_with fail
 refine (well_at ⟨k,id,fr,ad,f⟩ A n c HN.o w0 q HQ.o).mono ?_
 rintro e w1 ⟨rfl,hb⟩
 clear c0 c1 c2 c3 c4
 replace HX:=Jh (HX.o.below hb HX.o.lt)
 replace HY:=Jh (HY.o.below hb HY.o.lt)
 replace HB:=Jh (below_next HB.o (Jn) hb)
 replace HR:=Jh (RdK.below HR.o hb)
 clear hb
 have hly:=HY.o.lt
 have hlx:=HX.o.lt
 obtain⟨c0,c1,c2,c3,c4,p0,p1,p2,p3,p4⟩:=blk5 HX.o
 obtain⟨y0,y1,y2,y3,y4,q0,q1,q2,q3,q4⟩:=blk5 HY.o
 cases q with
 | false=>
  have HF:Hid (¬Fit ⟨k,id,fr,ad,f⟩):=of_decide_eq_false HQ.o
  go_wp2_with fail
  refine bodyPost_ret (v:=.tuple #[dV zeroD none 0 0,.int .i64 1]) (by simp[zeroD,results,Tryz.results8,go_sem,y0,y1,y2,y3,y4]) rfl ?_
  exact⟨zeroD,1,none,0,0,rfl,.inl ⟨HF.o,rfl,rfl⟩,rfl,Jn,OwnK.none_ _ _,below_put5 HB.o (Nat.le_succ _) _ _ _ _ _⟩
 | true=>
  have HF:Hid (Fit ⟨k,id,fr,ad,f⟩):=by show Fit _;exact of_decide_eq_true HQ.o
  obtain⟨en,hen⟩:∃m,decide (Ent k)=m:=⟨_,rfl⟩
  have HEN:=Jh hen
  clear hen
  go_wp2_with fail
  refine (enters_at k _ en HEN.o).mono ?_
  rintro e wz ⟨rfl,hwz⟩
  obtain rfl:=hwz.symm
  clear hwz
  cases en with
  | false=>
   go_wp2_with fail
   refine bodyPost_ret (v:=.tuple #[dV ⟨k,id,fr,ad,[]⟩ none 0 0,.int .i64 0]) (by simp[results,Tryz.results8,go_sem,y0,y1,y2,y3,y4]) rfl ?_
   have h0:f=[]:=(HF.o.2.2.2.2.2.2.2 (of_decide_eq_false HEN.o)).2
   subst h0
   exact⟨⟨k,id,fr,ad,[]⟩,0,none,0,0,rfl,.inr ⟨HF.o,[],norm_nil,.inl ⟨rfl,rfl⟩⟩,rfl,Jn,OwnK.none_ _ _,below_put5 (below_set HB.o (Jn)) (Nat.le_succ _) _ _ _ _ _⟩
  | true=>
   have HYL:=Jh hly
   clear y0 y1 y2 y3 y4 q0 q1 q2 q3 q4 hly
   go_wp2_with fail
   refine (norm_q A f n c HN.o hm HL.o _ HR.o).mono ?_
   rintro e w2 ⟨g,er,A2,n2,c2,rfl,hno,hl2,hc2,ho2,hb⟩
   clear c0 c1 c3 c4 p0 p1 p2 p3 p4 hlx
   replace HX:=Jh (HX.o.below hb HX.o.lt)
   replace HY:=Jh (HY.o.below hb HY.o.lt)
   have hsz:=HB.o.size
   replace HB:=Jh (below_next HB.o (Jn) hb)
   have HNO:=Jh hno
   have HL2:=Jh hl2
   have hly:=HY.o.lt
   have hlx:=HX.o.lt
   obtain⟨c0,c1,x2,c3,c4,p0,p1,p2,p3,p4⟩:=blk5 HX.o
   obtain⟨y0,y1,y2,y3,y4,q0,q1,q2,q3,q4⟩:=blk5 HY.o
   by_cases he:er=0
   ·subst he
    have HO2:Hid (OwnQ w2 w1.heap.size (.slice A2 n2 c2) g):=ho2
    have hxs:w.heap.size+1<w1.heap.size:=HYL.o
    clear hb hno hl2 ho2
    go_wp2_with fail
    refine bodyPost_ret (v:=.tuple #[dV ⟨k,id,fr,ad,g⟩ A2 n2 c2,.int .i64 0]) (by simp[results,Tryz.results8,go_sem,y0,y1,y2,y3,y4]) rfl ?_
    exact⟨⟨k,id,fr,ad,g⟩,0,A2,n2,c2,rfl,.inr ⟨HF.o,g,HNO.o,.inl ⟨rfl,rfl⟩⟩,HL2.o,hc2,(OwnK.put5 (OwnK.set_ HO2.o (by omega) 4 _) hxs _ _ _ _ _).less hsz,below_put5 (below_set HB.o (Jn)) (Nat.le_succ _) _ _ _ _ _⟩
   ·have v0:(er != 0)=true:=by simpa using he
    clear hb hno hl2 ho2
    go_wp2_with fail
    refine bodyPost_ret (v:=.tuple #[dV zeroD none 0 0,.int .i64 er]) (by simp[zeroD,results,Tryz.results8,go_sem,y0,y1,y2,y3,y4]) rfl ?_
    exact⟨zeroD,er,none,0,0,rfl,.inr ⟨HF.o,g,HNO.o,.inr ⟨he,rfl⟩⟩,rfl,Jn,OwnK.none_ _ _,below_put5 HB.o (Nat.le_succ _) _ _ _ _ _⟩
end
end Go.Proofs.YtnfigjggjmncdaaGreat
