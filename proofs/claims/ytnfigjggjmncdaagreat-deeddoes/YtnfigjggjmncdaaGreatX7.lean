/- Contracts. -/
import Derived.Test.YtnfigjggjmncdaaGreatD3
import Derived.Test.YtnfigjggjmncdaaGreatX1
import Derived.Test.YtnfigjggjmncdaaGreatX2
set_option maxRecDepth 100000
set_option maxHeartbeats 4000000
namespace Go.Proofs.YtnfigjggjmncdaaGreat
section
open Spans
theorem upto_put' (v:Nat) (m:Int) (hv:(v:Int)<=m) (hm:m<9223372036854775808) (r:LU):(Wire.St.mk (Wire.put v++r) 0).uptoV m=v/\(Wire.St.mk (Wire.put v++r) 0).uptoS m=⟨r,0⟩:=by
 have hn:=Wire.num_put v (by omega) r
 have hV:(Wire.St.mk (Wire.put v++r) 0).numV=v:=by unfold Wire.St.numV;rw[hn]
 have hS:(Wire.St.mk (Wire.put v++r) 0).numS=⟨r,0⟩:=by unfold Wire.St.numS;rw[hn];simp
 have ho:(Wire.St.mk (Wire.put v++r) 0).over m=false:=by unfold Wire.St.over;rw[hV];simp;omega
 unfold Wire.St.uptoV Wire.St.uptoS
 rw[ho,hV,hS];simp
theorem text_put' (t:LU) (m:Int) (ht:(t.length:Int)<=m) (hm:m<9223372036854775808) (r:LU):(Wire.St.mk (Wire.text t++r) 0).textV m=t/\(Wire.St.mk (Wire.text t++r) 0).textS m=⟨r,0⟩:=by
 unfold Wire.text
 rw[List.append_assoc]
 obtain⟨h1,h2⟩:=upto_put' t.length m ht hm (t++r)
 have hl:¬(t++r).length<t.length:=by rw[List.length_append];omega
 unfold Wire.St.textV Wire.St.textS
 rw[h1,h2,if_neg hl,if_neg hl,List.take_left',List.drop_left']<;>simp
/-! Filters. -/
theorem rds_lay {f:List Pr} (h:∀p∈f,rightP p=true) (r:LU):∀k,k<=f.length->rdsS k ⟨f.flatMap layOf++r,0⟩=⟨(f.drop k).flatMap layOf++r,0⟩/\rdsP k ⟨f.flatMap layOf++r,0⟩=f.take k
 | 0,_=>⟨by simp[rdsS],by simp[rdsP]⟩
 | k+1,hk=>by
  obtain⟨h1,h2⟩:=rds_lay h r k (by omega)
  have hk':k<f.length:=by omega
  have e:f.drop k=f[k]::f.drop (k+1):=List.drop_eq_getElem_cons hk'
  obtain⟨hr,hb1,hb2⟩:=(rightP_iff f[k]).1 (h _ (List.getElem_mem hk'))
  have hg:=Preds.get_lay f[k].n f[k].o f[k].k f[k].i f[k].t ((f.drop (k+1)).flatMap layOf++r) hr hb1 hb2
  have e2:(f.drop k).flatMap layOf++r=Preds.lay f[k].n f[k].o f[k].k f[k].i f[k].t++((f.drop (k+1)).flatMap layOf++r):=by rw[e,List.flatMap_cons,List.append_assoc];rfl
  obtain⟨g0,g1,g2,g3,g4,g5⟩:=hg
  refine ⟨by rw[rdsS,h1,e2,g0],?_⟩
  rw[rdsP,h2,h1,e2,List.take_succ_eq_append_getElem hk']
  congr 2
  unfold rdP
  rw[g1,g2,g3,g4,g5]
theorem rds_ok (b:LU):∀k,(rdsS k ⟨b,0⟩).err=0->∃j,j<=b.length/\rdsS k ⟨b,0⟩=⟨b.drop j,0⟩/\(rdsP k ⟨b,0⟩).flatMap layOf=b.take j
 | 0,_=>⟨0,by omega,by simp[rdsS],by simp[rdsP]⟩
 | k+1,h=>by
  obtain⟨j,hj,h1,h2⟩:=rds_ok b k (rd_err _ h)
  rw[rdsS,h1] at h
  obtain⟨i,hi,g1,_,g2⟩:=Preds.get_ok (b.drop j) h
  rw[List.length_drop] at hi
  refine ⟨j+i,by omega,by rw[rdsS,h1,g1,List.drop_drop],?_⟩
  rw[rdsP,List.flatMap_append,h2,h1,List.take_add]
  congr 1
  simp only[List.flatMap_cons,List.flatMap_nil,List.append_nil]
  exact g2
theorem rds_err:∀k s,(rdsS k s).err=0->s.err=0
 | 0,_,h=>h
 | k+1,s,h=>rds_err k s (rd_err _ h)
theorem fget_err {s t:Wire.St} {g:List Pr} (hg:GetIs s g t) (h:s.err≠0):t.err≠0:=by
 have h1:(GetR s).err≠0:=fun h0=>by
  have:=rds_err _ _ h0
  rw[Preds.uptoS_err h] at this
  exact h this
 rcases hg.1 with ⟨_,rfl⟩|⟨_,rfl⟩
 ·exact h1
 ·exact Preds.fail_err _ 3 (by decide)
theorem fget_lay {f:List Pr} (h:Fil.NormIs f f 0) (r:LU) {g:List Pr} {t:Wire.St} (hg:GetIs ⟨fbytes f++r,0⟩ g t):g=f/\t=⟨r,0⟩:=by
 obtain⟨S,L,hG⟩:=h.good
 have hl:=hG.len
 have ha:∀p∈f,rightP p=true:=hG.sound.2
 obtain⟨u1,u2⟩:=upto_put' f.length 24 (by omega) (by decide) (f.flatMap layOf++r)
 obtain⟨r1,r2⟩:=rds_lay ha r f.length (Jn)
 have hF:GetF ⟨fbytes f++r,0⟩=f:=by
  unfold GetF fbytes
  rw[List.append_assoc,u1,u2,r2,List.take_length]
 have hR:GetR ⟨fbytes f++r,0⟩=⟨r,0⟩:=by
  unfold GetR fbytes
  rw[List.append_assoc,u1,u2,r1];simp
 exact hg.one ⟨.inl ⟨by rw[hF];exact h,hR.symm⟩,by rw[hF];simp⟩
theorem fget_ok {b:LU} {g:List Pr} {t:Wire.St} (hg:GetIs ⟨b,0⟩ g t) (h0:t.err=0):Fil.NormIs g g 0/\fbytes g++t.rest=b:=by
 obtain⟨h1,h2⟩:=hg
 rw[if_pos h0] at h2
 subst h2
 rcases h1 with ⟨a,rfl⟩|⟨a,rfl⟩
 ·refine ⟨a,?_⟩
  have hu:((Wire.St.mk b 0).uptoS 24).err=0:=rds_err _ _ h0
  rcases Vals.upto_or b 24 (by omega) with ⟨e1,_,_⟩|⟨j,hj,e2,e3,e4⟩
  ·exact absurd hu e1
  ·unfold GetR GetF at *
   rw[e2] at h0 ⊢
   obtain⟨i,hi,g1,g2⟩:=rds_ok (b.drop j) _ h0
   rw[g1]
   unfold fbytes
   rw[rdsP_len,g2,e3,List.append_assoc,List.take_append_drop,List.take_append_drop]
 ·exact absurd h0 (Preds.fail_err _ 3 (by decide))
namespace Dm
open Tb
/-! Deeds. -/
def behindK (d:Dd):LU:=if d.k=1 then Wire.text d.ad else if Ent d.k then Wire.put d.fr.toNat++fbytes d.f else []
def dbytes (d:Dd):LU:=UInt8.ofNat d.k.toNat::(Wire.put d.id.toNat++behindK d)
def DLaid (d:Dd) (bs:LU):Prop:=(Own d/\bs=dbytes d)∨(¬Own d/\bs=[])
theorem DLaid.one {d:Dd} {bs bs':LU} (h:DLaid d bs) (k:DLaid d bs'):bs=bs':=by
 rcases h with ⟨h1,rfl⟩|⟨h1,rfl⟩<;>rcases k with ⟨k1,rfl⟩|⟨k1,rfl⟩
 ·rfl
 ·exact absurd h1 k1
 ·exact absurd k1 h1
 ·rfl
def someS (s:Wire.St) (m:Int):Wire.St:=if s.uptoV m=0 then (s.uptoS m).fail 3 else s.uptoS m
def s2 (s:Wire.St):Wire.St:=someS (someS s 6) 1073741824
def DRest (s:Wire.St) (o:Dd) (t:Wire.St):Prop:=o.k=(s.uptoV 6:Nat)/\o.id=((someS s 6).uptoV 1073741824:Nat) /\
 ((o.k=1/\o.fr=0/\o.f=[]/\o.ad=(s2 s).textV 32/\t=(s2 s).textS 32) ∨
  (Ent o.k/\o.ad=[]/\o.fr=((s2 s).uptoV 1073741824:Nat)/\GetIs (someS (s2 s) 1073741824) o.f t) ∨
  (o.k≠1/\¬Ent o.k/\o.ad=[]/\o.fr=0/\o.f=[]/\t=s2 s))
def DGet (s:Wire.St) (d:Dd) (t:Wire.St):Prop:=∃o,DRest s o t/\d=if t.err=0 then o else zeroD
theorem DRest.one {s t t':Wire.St} {o o':Dd} (h:DRest s o t) (k:DRest s o' t'):o=o'/\t=t':=by
 obtain⟨ok,oi,of,oa,off⟩:=o
 obtain⟨pk,pi,pf,pa,pff⟩:=o'
 obtain⟨h1,h2,h⟩:=h
 obtain⟨k1,k2,k⟩:=k
 dsimp only at h1 h2 k1 k2 h k
 subst h1 h2 k1 k2
 rcases h with ⟨a,rfl,rfl,rfl,rfl⟩|⟨a,rfl,rfl,hg⟩|⟨a,b,rfl,rfl,rfl,rfl⟩<;>rcases k with ⟨a',rfl,rfl,rfl,rfl⟩|⟨a',rfl,rfl,kg⟩|⟨a',b',rfl,rfl,rfl,rfl⟩
 ·exact⟨rfl,rfl⟩
 ·exfalso;unfold Ent at a';omega
 ·exact absurd a a'
 ·exfalso;unfold Ent at a;omega
 ·obtain⟨rfl,rfl⟩:=hg.one kg;exact⟨rfl,rfl⟩
 ·exact absurd a b'
 ·exact absurd a' a
 ·exact absurd a' b
 ·exact⟨rfl,rfl⟩
theorem DGet.one {s t t':Wire.St} {d d':Dd} (h:DGet s d t) (k:DGet s d' t'):d=d'/\t=t':=by
 obtain⟨o,h,rfl⟩:=h
 obtain⟨o',k,rfl⟩:=k
 obtain⟨rfl,rfl⟩:=h.one k
 exact⟨rfl,rfl⟩
theorem some_put (v:Nat) (m:Int) (h1:1<=v) (hv:(v:Int)<=m) (hm:m<9223372036854775808) (r:LU):(Wire.St.mk (Wire.put v++r) 0).uptoV m=v/\someS ⟨Wire.put v++r,0⟩ m=⟨r,0⟩:=by
 obtain⟨a,b⟩:=upto_put' v m hv hm r
 refine ⟨a,?_⟩
 unfold someS
 rw[a,b,if_neg (by omega)]
theorem get_lay {d:Dd} (h:Own d) (r:LU) {x:Dd} {t:Wire.St} (hg:DGet ⟨dbytes d++r,0⟩ x t):x=d/\t=⟨r,0⟩:=by
 obtain⟨⟨f1,f2,f3,f4,f5,f6,f7,f8⟩,hn⟩:=h
 have hk:Wire.put d.k.toNat=[UInt8.ofNat d.k.toNat]:=Wire.put_lo _ (by omega)
 have e0:dbytes d++r=Wire.put d.k.toNat++(Wire.put d.id.toNat++(behindK d++r)):=by unfold dbytes;rw[hk];simp
 obtain⟨a1,a2⟩:=some_put d.k.toNat 6 (by omega) (by omega) (by decide) (Wire.put d.id.toNat++(behindK d++r))
 obtain⟨b1,b2⟩:=some_put d.id.toNat 1073741824 (by omega) (by omega) (by decide) (behindK d++r)
 have hs2:s2 ⟨dbytes d++r,0⟩=⟨behindK d++r,0⟩:=by unfold s2;rw[e0,a2,b2]
 have hres:DRest ⟨dbytes d++r,0⟩ d ⟨r,0⟩:=by
  refine ⟨by rw[e0,a1];omega,by rw[e0,a2,b1];omega,?_⟩
  rw[hs2]
  unfold behindK
  by_cases h1:d.k=1
  ·rw[if_pos h1]
   obtain⟨c1,c2⟩:=text_put' d.ad 32 (by have:=f5 h1;omega) (by decide) r
   obtain⟨g1,g2⟩:=f8 (by unfold Ent;omega)
   exact .inl ⟨h1,g1,g2,c1.symm,c2.symm⟩
  ·rw[if_neg h1]
   by_cases h2:Ent d.k
   ·rw[if_pos h2]
    obtain⟨g1,g2⟩:=f7 h2
    obtain⟨c1,c2⟩:=some_put d.fr.toNat 1073741824 (by omega) (by omega) (by decide) (fbytes d.f++r)
    rw[List.append_assoc,c1,c2]
    refine .inr (.inl ⟨h2,f6 h1,by omega,?_⟩)
    have hx:∃g t,GetIs ⟨fbytes d.f++r,0⟩ g t:=by
     by_cases hq:Fil.NormIs (GetF ⟨fbytes d.f++r,0⟩) (GetF ⟨fbytes d.f++r,0⟩) 0
     ·exact⟨_,_,.inl ⟨hq,rfl⟩,rfl⟩
     ·exact⟨_,_,.inr ⟨hq,rfl⟩,rfl⟩
    obtain⟨g,t,hgi⟩:=hx
    obtain⟨rfl,rfl⟩:=fget_lay hn r hgi
    exact hgi
   ·rw[if_neg h2]
    obtain⟨g1,g2⟩:=f8 h2
    exact .inr (.inr ⟨h1,h2,f6 h1,g1,g2,rfl⟩)
 exact hg.one ⟨d,hres,by simp⟩
theorem some_ok {b:LU} {m:Int} (h0:0<=m) (h:(someS ⟨b,0⟩ m).err=0):∃j,j<=b.length/\someS ⟨b,0⟩ m=⟨b.drop j,0⟩/\Wire.put ((Wire.St.mk b 0).uptoV m)=b.take j/\1<=(Wire.St.mk b 0).uptoV m/\((Wire.St.mk b 0).uptoV m:Int)<=m:=by
 have hle:((Wire.St.mk b 0).uptoV m:Int)<=m:=by
  obtain⟨k,rfl⟩:=Int.eq_ofNat_of_zero_le h0
  have:=Preds.upto_le (Wire.St.mk b 0) k
  omega
 unfold someS at h ⊢
 by_cases h1:(Wire.St.mk b 0).uptoV m=0
 ·rw[if_pos h1] at h;exact absurd h (Preds.fail_err _ 3 (by decide))
 ·rw[if_neg h1] at h ⊢
  rcases Vals.upto_or b m h0 with ⟨e1,_,_⟩|⟨j,hj,e2,e3,e4⟩
  ·exact absurd h e1
  ·exact⟨j,hj,e2,e3,by omega,hle⟩
theorem some_err {s:Wire.St} {m:Int} (h:s.err≠0):(someS s m).err≠0:=by
 unfold someS
 split
 ·rw[Preds.fail_stuck _ _ (by rw[Preds.uptoS_err h];exact h),Preds.uptoS_err h];exact h
 ·rw[Preds.uptoS_err h];exact h
theorem some_zero {s:Wire.St} {m:Int} (h:(someS s m).err=0):s.err=0:=Classical.byContradiction fun k=>some_err k h
theorem textV_len (b:LU):((Wire.St.mk b 0).textV 32).length<=32:=by
 unfold Wire.St.textV
 have h:(Wire.St.mk b 0).uptoV 32<=32:=Preds.upto_le (Wire.St.mk b 0) 32
 split
 ·simp
 ·rw[List.length_take];omega
theorem get_ok {b:LU} {d:Dd} {t:Wire.St} (hg:DGet ⟨b,0⟩ d t) (h0:t.err=0):Own d/\dbytes d++t.rest=b:=by
 obtain⟨o,⟨hk,hi,hr⟩,hd⟩:=hg
 rw[if_pos h0] at hd
 subst hd
 have hs2:(s2 ⟨b,0⟩).err=0:=by
  refine Classical.byContradiction fun k=>?_
  rcases hr with ⟨_,_,_,_,rfl⟩|⟨_,_,_,hg⟩|⟨_,_,_,_,_,rfl⟩
  ·rw[Preds.textS_err k] at h0;exact k h0
  ·exact fget_err hg (some_err k) h0
  ·exact k h0
 obtain⟨i,hi1,e1,e2,e3,e4⟩:=some_ok (by decide) (some_zero hs2)
 unfold s2 at hs2 hr
 rw[e1] at hi hs2 hr
 obtain⟨j,hj1,f1,f2,f3,f4⟩:=some_ok (by decide) hs2
 rw[f1] at hr
 rw[List.length_drop] at hj1
 have hb:Wire.put d.k.toNat=b.take i:=by rw[hk,Int.toNat_natCast];exact e2
 have hb2:Wire.put d.id.toNat=(b.drop i).take j:=by rw[hi,Int.toNat_natCast];exact f2
 have hlo:Wire.put d.k.toNat=[UInt8.ofNat d.k.toNat]:=Wire.put_lo _ (by omega)
 have hall:∀x,(b.drop i).drop j=behindK d++x->dbytes d++x=b:=by
  intro x hx
  unfold dbytes
  rw[show UInt8.ofNat d.k.toNat::(Wire.put d.id.toNat++behindK d)++x=[UInt8.ofNat d.k.toNat]++(Wire.put d.id.toNat++(behindK d++x)) by simp,<-hlo,hb,hb2,<-hx,List.take_append_drop,List.take_append_drop]
 rcases hr with ⟨c,g1,g2,g3,rfl⟩|⟨c,g1,g2,hg⟩|⟨c,c',g1,g2,g3,rfl⟩
 ·rcases Wire.St.text_or ((b.drop i).drop j) 32 with ⟨k1,_,_⟩ | ⟨l,hl,k1,k2,_⟩
  ·exact absurd h0 k1
  ·have ht:=textV_len ((b.drop i).drop j)
   refine ⟨⟨⟨by omega,by omega,by omega,by omega,fun _=>by rw[g3];exact ht,fun h=>absurd c h,fun h=>?_,fun _=>⟨g1,g2⟩⟩,by rw[g2];exact norm_nil⟩,hall _ ?_⟩
   ·unfold Ent at h;omega
   ·unfold behindK
    rw[if_pos c,g3,k1,k2,List.take_append_drop]
 ·have h3:(someS ⟨(b.drop i).drop j,0⟩ 1073741824).err=0:=Classical.byContradiction fun k=>fget_err hg k h0
  obtain⟨l,hl,k1,k2,k3,k4⟩:=some_ok (by decide) h3
  rw[k1] at hg
  obtain⟨m1,m2⟩:=fget_ok hg h0
  have hn1:d.k≠1:=fun h=>by unfold Ent at c;omega
  refine ⟨⟨⟨by omega,by omega,by omega,by omega,fun h=>absurd h hn1,fun _=>g1,fun _=>by omega,fun h=>absurd c h⟩,m1⟩,hall _ ?_⟩
  unfold behindK
  rw[if_neg hn1,if_pos c,List.append_assoc,m2,g2,Int.toNat_natCast,k2,List.take_append_drop]
 ·exact⟨⟨⟨by omega,by omega,by omega,by omega,fun h=>absurd h c,fun _=>g1,fun h=>absurd h c',fun _=>⟨g2,g3⟩⟩,by rw[g3];exact norm_nil⟩,hall _ (by unfold behindK;rw[if_neg c,if_neg c',List.nil_append])⟩
end Dm
end
section
open Go.RowKit Go.Sort Spans Tb Dm
theorem own_of {d o:Dd} (h:DNorm d o 0) (hf:o.f=d.f):Dm.Own d:=by
 obtain⟨h1,h2,h3,h4,h5⟩:=h.good
 obtain⟨ok,oi,of,oa,off⟩:=o
 obtain⟨dk,di,df,da,f⟩:=d
 dsimp only at *
 subst h2 h3 h4 h5 hf
 exact h1
theorem not_own {d o:Dd} {e:Int} (h:DNorm d o e) (hx:e≠0∨o.f≠d.f):¬Dm.Own d:=fun k=>by
 obtain⟨h1,h2⟩:=h.one k.norm
 rcases hx with hx|hx
 ·exact hx h2
 ·exact hx (by rw[h1])
theorem own_rdq {w:World} {base:Nat} {A:OA} {n c:Nat} {f:List Pr} (h:OwnQ w base (.slice A n c) f):RdQ w A f:=by
 obtain⟨A',c',e,_,h⟩:=OwnK.rd h
 injection e with e1
 subst e1
 exact h
theorem Dm.Own.len {d:Dd} (h:Dm.Own d):d.f.length<=24:=by
 obtain⟨S,L,hg⟩:=h.2.good
 exact hg.sound.1
theorem Dm.DNorm.short {d o:Dd} {e:Int} (h:DNorm d o e) {n:Nat} (hl:o.f.length=n):n<=100000:=by
 by_cases he:e=0
 ·subst he
  have:=h.good.1.len
  omega
 ·have:=h.bad he
  subst this
  rw[<-hl];simp[zeroD]
theorem dbytesOf_at (dk di df:Int) (da:LU) (f:List Pr) (A:OA) (n c:Nat) (hn:f.length=n) (hm:n<=100000) (hl:PBd f) (w:World) (hr:RdQ w A f):
  Calls Tryz.prog 31 #[.agg (dC dk di df da.toArray A n c)] w fun e w'=>∃bs,DLaid ⟨dk,di,df,da,f⟩ bs/\bs.length<=9000/\Lays w bs bs.length e w':=by
 have HB:=Jh (gr1 w (.cells (dC dk di df da.toArray A n c) 28)).below
 have HRD:=Jh (RdK.below hr HB.o)
 have HX:=Jh (Blk.new w 28 (dC dk di df da.toArray A n c))
 have HN:=Jh hn
 have HL:=Jh hl
 clear hn hl hr
 obtain⟨c0,c1,c2,c3,c4,_⟩:=blk5 HX.o
 go_enter Tryz.func31,Tryz.ntmps31
 go_wp2_with fail
 clear c0 c1 c2 c3 c4
 generalize w.alloc (.cells (dC dk di df da.toArray A n c) 28)=w0 at *
 have hpp:w.heap.size<w0.heap.size:=HX.o.lt
 refine (dnorm_at ⟨dk,di,df,da,f⟩ A n c HN.o hm HL.o w0 HRD.o).mono ?_
 rintro e w1 ⟨⟨ok,oi,of,oa,off⟩,er,A1,n1,c1,rfl,hdn,hl1,hc1,ho1,hb1⟩
 dsimp only at hl1 ho1
 have HDN:=Jh hdn
 have HL1:=Jh hl1
 replace HB:=Jh (below_next HB.o (Jn) hb1)
 replace HRD:=Jh (RdK.below HRD.o hb1)
 replace HX:=Jh (HX.o.below hb1 HX.o.lt)
 skip
 have hb2:=(gr1 w1 (.cells (dC ok oi of oa.toArray A1 n1 c1) 28)).below
 have HO2:=Jh (Blk.new w1 28 (dC ok oi of oa.toArray A1 n1 c1))
 have HOR:Hid (RdQ (w1.alloc (.cells (dC ok oi of oa.toArray A1 n1 c1) 28)) A1 off):=RdK.below (own_rdq ho1) hb2
 replace HB:=Jh (below_next HB.o (Jn) hb2)
 replace HRD:=Jh (RdK.below HRD.o hb2)
 replace HX:=Jh (HX.o.below hb2 HX.o.lt)
 clear hdn hl1 ho1 hb1 hb2
 by_cases he:er=0
 ·subst he
  obtain⟨c0,c1x,c2,c3,c4,_⟩:=blk5 HX.o
  obtain⟨z0,z1,z2,z3,z4,_⟩:=blk5 HO2.o
  obtain⟨q,hq⟩:∃q,decide (off=f)=q:=⟨_,rfl⟩
  have HQ:=Jh hq
  clear hq
  skip
  have hn1:n1<=100000:=HDN.o.short HL1.o
  go_wp2_with fail
  refine (equalP_at A1 off n1 c1 HL1.o hn1 A f n c HN.o hm _ HOR.o HRD.o q HQ.o).mono ?_
  rintro e w3 ⟨rfl,hg3⟩
  have hb3:=hg3.below
  replace HB:=Jh (below_next HB.o (Jn) hb3)
  replace HRD:=Jh (RdK.below HRD.o hb3)
  replace HX:=Jh (HX.o.below hb3 HX.o.lt)
  clear hb3 hg3 HO2 HOR c0 c1x c2 c3 c4 z0 z1 z2 z3 z4
  cases q with
  | false=>
   go_wp2_with fail
   go_ret
   exact⟨[],.inr ⟨not_own HDN.o (.inr (of_decide_eq_false HQ.o)),rfl⟩,by simp,none,0,rfl,Jn,HB.o,.inl rfl⟩
  | true=>
   have how:=own_of HDN.o (of_decide_eq_true HQ.o)
   have HOW:=Jh how
   have h24:=how.len
   dsimp only at h24
   obtain⟨f1,f2,f3,f4,f5,f6,f7,f8⟩:=how.1
   dsimp only at f1 f2 f3 f4 f5 f6 f7 f8
   rw[HN.o] at h24
   have F5:=Jh f5
   have F7:=Jh f7
   clear how HQ HDN f5 f6 f7 f8
   obtain⟨k,rfl⟩:∃k:Nat,dk=(k:Int):=⟨dk.toNat,by omega⟩
   obtain⟨i,rfl⟩:∃i:Nat,di=(i:Int):=⟨di.toNat,by omega⟩
   obtain⟨c0,c1x,c2,c3,c4,_⟩:=blk5 HX.o
   have h8:IntKind.u8.wrap (k:Int)=(k:Int):=by rw[IntKind.wrap_u8];omega
   have h9:IntKind.u64.wrap (i:Int)=(i:Int):=by rw[IntKind.wrap_u64];omega
   have hb4:=(gr1 w3 (.cells #[.int .u8 (k:Int)] 5)).below
   obtain⟨y0,y1,y2,y3,y4,_⟩:=blk5 (HX.o.below hb4 HX.o.lt)
   go_wp2_with fail
   clear c0 c1x c2 c3 c4 y0 y1 y2 y3 y4
   have hB4:Blk (w3.alloc (.cells #[.int .u8 (k:Int)] 5)) w3.heap.size 5 (([UInt8.ofNat k].map Bv).toArray):=by
    have h:=Blk.new w3 5 #[.int .u8 (k:Int)]
    have hv:Bv (UInt8.ofNat k)=.int .u8 (k:Int):=by show Value.int _ ((UInt8.ofNat k).toNat:Int)=_;rw[show (UInt8.ofNat k).toNat=k from by simp;omega]
    simpa[hv] using h
   have HK4:=Jh hB4.rd
   replace HB:=Jh (below_next HB.o (Jn) hb4)
   replace HRD:=Jh (RdK.below HRD.o hb4)
   replace HX:=Jh (HX.o.below hb4 HX.o.lt)
   clear hb4 hB4
   generalize w3.alloc (.cells #[.int .u8 (k:Int)] 5)=w4 at *
   generalize w3.heap.size=g4 at *
   obtain⟨L5,hL5⟩:∃z,1+(Wire.put i).length=z:=⟨_,rfl⟩
   have hL5b:L5<=11:=by have:=Wire.put_len_le i (by omega);omega
   have HL5:=Jh hL5
   clear hL5
   refine (put_at (some ⟨g4,0,none⟩) [UInt8.ofNat k] 1 1 i L5 rfl HL5.o (by omega) (by omega) w4 HK4.o).mono ?_
   rintro e w5 ⟨g5,rfl,hg5,hb5,hB5⟩
   have HK5:=Jh hB5.rd
   replace HB:=Jh (below_next HB.o (Jn) hb5)
   replace HRD:=Jh (RdK.below HRD.o hb5)
   replace HX:=Jh (HX.o.below hb5 HX.o.lt)
   clear hb5 hB5 hg5 HK4
   have hL5n:([UInt8.ofNat k]++Wire.put i).length=L5:=by rw[<-HL5.o,List.length_append];rfl
   have HL5n:=Jh hL5n
   clear hL5n
   obtain⟨c0,c1x,c2,c3,c4,_⟩:=blk5 HX.o
   by_cases hk1:(k:Int)=1
   ·have h1:k=1:=by omega
    subst h1
    obtain⟨L6,hL6⟩:∃z,L5+(Wire.text da).length=z:=⟨_,rfl⟩
    have hda:=F5.o rfl
    have hL6b:L6<=60:=by
     have:=Wire.put_len_le da.length (by omega)
     have e:(Wire.text da).length=(Wire.put da.length).length+da.length:=by simp[Wire.text]
     omega
    have HL6:=Jh hL6
    clear hL6
    go_wp2_with fail
    refine (putText_at (some ⟨g5,0,none⟩) ([UInt8.ofNat 1]++Wire.put i) da L5 L5 da.length L6 HL5n.o rfl HL6.o (by omega) w5 HK5.o).mono ?_
    rintro e w6 ⟨g6,rfl,hg6,hb6,hB6⟩
    have HB6:=Jh (below_next HB.o (Jn) hb6)
    have HR6:=Jh hB6.rd
    clear hb6 hB6
    go_wp2_with fail
    go_ret
    have hE:[UInt8.ofNat 1]++Wire.put i++Wire.text da=dbytes ⟨((1:Nat):Int),(i:Int),df,da,f⟩:=by unfold dbytes behindK;simp
    have hlen:(dbytes ⟨((1:Nat):Int),(i:Int),df,da,f⟩).length=L6:=by rw[<-hE,List.length_append,HL5n.o,HL6.o]
    have h6:=HR6.o
    rw[hE] at h6
    exact⟨_,.inl ⟨HOW.o,rfl⟩,by rw[hlen];omega,_,_,by rw[hlen];rfl,by rw[hlen];exact Jn,HB6.o,h6⟩
   ·have d1:((k:Int) == 1)=false:=beq_eq_false_iff_ne.2 hk1
    obtain⟨q,hq⟩:∃q,decide (Ent (k:Int))=q:=⟨_,rfl⟩
    have HQ:=Jh hq
    clear hq
    go_wp2_with fail
    refine (enters_at (k:Int) w5 q HQ.o).mono ?_
    rintro e wz ⟨rfl,hwz⟩
    obtain rfl:=hwz.symm
    clear hwz
    cases q with
    | false=>
     go_wp2_with fail
     go_ret
     have hne:=of_decide_eq_false HQ.o
     have hE:[UInt8.ofNat k]++Wire.put i=dbytes ⟨(k:Int),(i:Int),df,da,f⟩:=by unfold dbytes behindK;rw[if_neg hk1,if_neg hne];simp
     have hlen:(dbytes ⟨(k:Int),(i:Int),df,da,f⟩).length=L5:=by rw[<-hE,HL5n.o]
     have h6:=HK5.o
     rw[hE] at h6
     exact⟨_,.inl ⟨HOW.o,rfl⟩,by rw[hlen];omega,_,_,by rw[hlen];rfl,by rw[hlen];exact Jn,HB.o,h6⟩
    | true=>
     have hen:=of_decide_eq_true HQ.o
     have hfr:=F7.o hen
     obtain⟨r,rfl⟩:∃r:Nat,df=(r:Int):=⟨df.toNat,by omega⟩
     obtain⟨L6,hL6⟩:∃z,L5+(Wire.put r).length=z:=⟨_,rfl⟩
     have hL6b:L6<=21:=by have:=Wire.put_len_le r (by omega);omega
     have HL6:=Jh hL6
     clear hL6
     go_wp2_with fail
     have hkeep:Hid (∀w',Below w5.heap.size w5 w'->Below w5.heap.size w5 w'/\w'.cell? ⟨w.heap.size,2,none⟩=some (.int .i64 (r:Int))/\w'.cell? ⟨w.heap.size,4,none⟩=some (.slice A n c)):=fun w' h=>⟨h,(HX.o.below h HX.o.lt).cell 2,(HX.o.below h HX.o.lt).cell 4⟩
     have hS0:=hkeep.o w5.drew (Below.refl _ _).drew
     refine wp_region_held_drew (S:=fun w'=>Below w5.heap.size w5 w'/\w'.cell? ⟨w.heap.size,2,none⟩=some (.int .i64 (r:Int))/\w'.cell? ⟨w.heap.size,4,none⟩=some (.slice A n c)) (by kernel_rfl) hS0 (fun _=>?_)
     refine Jz 0 hS0 ?_
     refine Jz 1 hS0 ?_
     refine Jz 2 hS0 ?_
     refine wpAnyH_yes (i:=3) (d:=45) (v:=.int .u64 (r:Int)) rfl rfl (by kernel_rfl) (by kernel_rfl) (by kernel_rfl) (fun _ _ _ h=>h) (by rfl) ?_ hS0 ?_
     ·intro w' hSw
      go_simp
      all_goals first | rfl | (rw[IntKind.wrap_u64];omega)
     simp only[Act.put,zu0,zu1,zu2]
     refine Jz 5 hS0 ?_
     refine Jz 6 hS0 ?_
     refine Je 4 (fun Kx hK1=>?_)
     go_simp
     with_reducible refine (put_at (some ⟨g5,0,none⟩) ([UInt8.ofNat k]++Wire.put i) L5 L5 r L6 HL5n.o HL6.o (by omega) (by omega) _ (HK5.o.below hS0.1)).mono ?_
     rintro e w6 ⟨g6,rfl,hg6,hb6,hB6⟩
     have hS1:=hkeep.o _ (below_next hS0.1 (Jn) hb6)
     have HR6:=Jh hB6.rd
     have hL6n:([UInt8.ofNat k]++Wire.put i++Wire.put r).length=L6:=by rw[List.length_append,HL5n.o,HL6.o]
     have HL6n:=Jh hL6n
     clear hL6n
     go_wp2_with fail
     refine hK1.o _ _ hS1 ?_
     refine Je 7 (fun Kx hK2=>?_)
     go_simp
     with_reducible refine (fput_at (some ⟨g6,0,none⟩) ([UInt8.ofNat k]++Wire.put i++Wire.put r) L6 L6 HL6n.o (by omega) A f n c HN.o (by omega) HL.o _ HR6.o (RdK.below HRD.o hS1.1)).mono ?_
     rintro e w7 ⟨fs,hfl,hf8,D7,c7,rfl,hc7,hb7,hr7⟩
     have hS2:=hkeep.o _ (below_next hS1.1 (Jn) hb7)
     have HF7:=Jh hfl
     have HR7:=Jh hr7
     have HB7:=Jh (below_next HB.o (Jn) hS2.1)
     clear hfl hr7 hb7 hb6
     go_wp2_with fail
     refine hK2.o _ _ hS2 ?_
     refine Jz 8 hS2 ?_
     refine Jd ?_
     clear hS0 hS1 hkeep
     go_wp2_with fail
     go_ret
     have hfs:fs=fbytes f:=by
      rcases HF7.o with ⟨_,h⟩|⟨h,_⟩
      ·exact h
      ·exact absurd HOW.o.2 h
     have hE:[UInt8.ofNat k]++Wire.put i++Wire.put r++fs=dbytes ⟨(k:Int),(i:Int),(r:Int),da,f⟩:=by unfold dbytes behindK;rw[if_neg hk1,if_pos hen,hfs];simp
     have hlen:(dbytes ⟨(k:Int),(i:Int),(r:Int),da,f⟩).length=L6+fs.length:=by rw[<-hE,List.length_append,HL6n.o]
     have h6:=HR7.o
     rw[hE] at h6
     exact⟨_,.inl ⟨HOW.o,rfl⟩,by rw[hlen];omega,_,_,by rw[hlen];rfl,by rw[hlen];exact hc7,HB7.o,h6⟩
 ·have v0:(er != 0)=true:=by simpa using he
  go_wp2_with fail
  go_ret
  exact⟨[],.inr ⟨not_own HDN.o (.inl he),rfl⟩,by simp,none,0,rfl,Jn,HB.o,.inl rfl⟩
theorem dput_at (B:OA) (bs:LU) (m d:Nat) (hbs:bs.length=m) (hmb:m<=1000) (dk di df:Int) (da:LU) (f:List Pr) (A:OA) (n c:Nat) (hn:f.length=n) (hm:n<=100000) (hl:PBd f) (w:World) (hrb:Rd w B bs) (hr:RdQ w A f):
  Calls Tryz.prog 11 #[.slice B m d,.agg (dC dk di df da.toArray A n c)] w fun e w'=>∃fs,DLaid ⟨dk,di,df,da,f⟩ fs/\fs.length<=9000/\Lays w (bs++fs) (m+fs.length) e w':=by
 have HBB:=Jh (gr1 w (.cells (dC dk di df da.toArray A n c) 28)).below
 have HRD:=Jh (RdK.below hr HBB.o)
 have HRB:=Jh (hrb.below HBB.o)
 have HX:=Jh (Blk.new w 28 (dC dk di df da.toArray A n c))
 have HN:=Jh hn
 have HL:=Jh hl
 have HM:=Jh hbs
 clear hn hl hr hrb hbs
 obtain⟨c0,c1,c2,c3,c4,_⟩:=blk5 HX.o
 go_enter Tryz.func11,Tryz.ntmps11
 go_wp2_with fail
 clear c0 c1 c2 c3 c4 HX
 generalize w.alloc (.cells (dC dk di df da.toArray A n c) 28)=w0 at *
 refine (dbytesOf_at dk di df da f A n c HN.o hm HL.o w0 HRD.o).mono ?_
 rintro e w1 ⟨fs,hfl,hfl8,D1,cc,rfl,hcc,hb1,hrd⟩
 have HFL:=Jh hfl
 have HB1:=Jh (below_next HBB.o (Jn) hb1)
 replace HRB:=Jh (HRB.o.below hb1)
 have HR1:=Jh hrd
 obtain⟨k,hk⟩:∃z,fs.length=z:=⟨_,rfl⟩
 have HK:=Jh hk
 rw[hk] at hfl8 hcc
 simp only[hk]
 have hBK:=Blk.new w1 29 #[.slice B m d,.slice D1 k cc]
 have HBK:=Jh hBK
 have hbb:Below w1.heap.size w1 (w1.alloc (.cells #[.slice B m d,.slice D1 k cc] 29)):=(Below.refl _ _).alloc (Jn) _
 have HB2:=Jh (below_next HB1.o (Jn) hbb)
 replace HR1:=Jh (HR1.o.below hbb)
 replace HRB:=Jh (HRB.o.below hbb)
 clear hfl hb1 hrd hk hBK hbb
 go_wp2_with fail
 refine (concatB_at w1.heap.size B m d D1 k cc _ bs fs HM.o (by omega) HK.o (by omega) HRB.o HR1.o HBK.o.lt (HBK.o.cell 0) (HBK.o.cell 1)).mono ?_
 generalize w1.alloc (.cells #[.slice B m d,.slice D1 k cc] 29)=w3 at *
 rintro e w4 ⟨v,rfl,ho4,hb4⟩
 obtain⟨D4,c4,rfl,hc4,hr4⟩:=Own.rd ho4
 have HB4:=Jh (below_next HB2.o (Jn) hb4)
 have HR4:=Jh hr4
 have HC4:=Jh hc4
 have hlen:(bs++fs).length=m+k:=by rw[List.length_append,HM.o,HK.o]
 have HLN:=Jh hlen
 rw[hlen] at hc4
 simp only[hlen]
 clear ho4 hb4 hr4 hlen
 go_wp2_with fail
 go_ret
 exact⟨fs,HFL.o,by rw[HK.o];exact hfl8,D4,c4,by rw[HK.o];rfl,by rw[HK.o];exact hc4,HB4.o,HR4.o⟩
theorem noByteD (a:ByteArray) (x y z:Int) (A:OA) (n c:Nat):NoByte #[.int .i64 x,.int .i64 y,.int .i64 z,.string a,.slice A n c]:=by
 intro off v
 rcases off with _|_|_|_|_|off<;>simp
theorem Sc.put5 {w:World} {g b:Nat} {t t':TypeId} {s:Wire.St} {cs:Array Value} (h:Sc w g t s) (hB:Blk w b t' cs) (hn:NoByte cs) (hne:g≠b) (x y z:Int) (a:ByteArray) (A:OA) (n c:Nat):
  Sc (((((w.setCell ⟨b,0,none⟩ (.int .i64 x)).setCell ⟨b,1,none⟩ (.int .i64 y)).setCell ⟨b,2,none⟩ (.int .i64 z)).setCell ⟨b,3,none⟩ (.string a)).setCell ⟨b,4,none⟩ (.slice A n c)) g t s:=by
 have n1:=hn.put 0 (u:=.int .i64 x) (by simp)
 have n2:=n1.put 1 (u:=.int .i64 y) (by simp)
 have n3:=n2.put 2 (u:=.int .i64 z) (by simp)
 have n4:=n3.put 3 (u:=.string a) (by simp)
 have b1:=hB.put 0 (.int .i64 x)
 have b2:=b1.put 1 (.int .i64 y)
 have b3:=b2.put 2 (.int .i64 z)
 have b4:=b3.put 3 (.string a)
 exact ((((h.farN hB hn hne 0 _).farN b1 n1 hne 1 _).farN b2 n2 hne 2 _).farN b3 n3 hne 3 _).farN b4 n4 hne 4 _
structure DG (w wx:World) (g q:Nat) (st:Wire.St) (k i r:Int) (t:LU) (A:OA) (n c:Nat) (f:List Pr):Prop where
 sc:Sc wx g 82 st
 z:Blk wx w.heap.size 28 (dC 0 0 0 #[] none 0 0)
 b:Blk wx q 28 (dC k i r t.toArray A n c)
 ow:OwnQ wx (q+1) (.slice A n c) f
 tc:Touch g w wx
 h1:g<w.heap.size
 h2:w.heap.size<q
theorem DG.step {w wx:World} {g q:Nat} {st:Wire.St} {k i r:Int} {t:LU} {A:OA} {n c:Nat} {f:List Pr} (h:DG w wx g q st k i r t A n c f) {w':World} {st':Wire.St} (hs:Sc w' g 82 st') (ht:Touch g wx w'):DG w w' g q st' k i r t A n c f:=
 have:=h.h1;have:=h.h2
 ⟨hs,ht.blk h.z (by omega),ht.blk h.b (by omega),OwnK.touch h.ow ht (by omega),h.tc.trans ht,h.h1,h.h2⟩
theorem DG.set_ {w wx:World} {g q:Nat} {st:Wire.St} {k i r:Int} {t:LU} {A:OA} {n c:Nat} {f:List Pr} (h:DG w wx g q st k i r t A n c f) (j:Nat) (u:Value) (k' i' r':Int) (t':LU) (A':OA) (n' c':Nat) (f':List Pr)
  (hc:(dC k i r t.toArray A n c).setIfInBounds j u=(dC k' i' r' t'.toArray A' n' c')) (ho:OwnQ wx (q+1) (.slice A' n' c') f'):DG w (wx.setCell ⟨q,j,none⟩ u) g q st k' i' r' t' A' n' c' f':=
 have:=h.h1;have:=h.h2
 ⟨h.sc.farN h.b (noByteD _ _ _ _ _ _ _) (by omega) j u,h.z.far (p:=⟨q,j,none⟩) (by show w.heap.size≠q;omega) u,by have hb:=h.b.put j u;rwa [hc] at hb,ho.set_ (by omega) j u,h.tc.new_ (by omega),h.h1,h.h2⟩
theorem some_is (w:World) (g:Nat) (s s':Wire.St) (v:Nat) (h:Sc w g 82 s) (m:Int) (hm1:-9223372036854775808<=m) (hm2:m<=9223372036854775807) (hv:s.uptoV m=v) (hs:someS s m=s'):
  Calls Tryz.prog 44 #[.pointer (some ⟨g,0,none⟩),.int .i64 m] w (Reads w g 82 (.int .i64 (v:Int)) s'):=by
 have HS:=Jh hs
 have HV:=Jh hv
 clear hs hv
 go_enter Tryz.func44,Tryz.ntmps44
 go_wp2_with fail
 refine (upto_is w g s _ v h m hm1 hm2 HV.o rfl).mono ?_
 rintro e w1 ⟨rfl,h1,hT1⟩
 have H1:=Jh h1
 have HT1:=Jh hT1
 clear h1 hT1
 by_cases h0:v=0
 ·subst h0
  have hE:Hid ((s.uptoS m).fail 3=s'):=by show _=_;rw[<-HS.o];unfold someS;rw[if_pos HV.o]
  go_wp2_with fail
  refine (fail_at w1 g _ H1.o 3).mono ?_
  rintro e w2 ⟨rfl,h2,hT2⟩
  have H2:=Jh h2
  have HT2:=Jh (HT1.o.trans hT2)
  clear h2 hT2
  go_wp2_with fail
  go_ret
  exact⟨rfl,hE.o ▸ H2.o,HT2.o⟩
 ·have hE:Hid (s.uptoS m=s'):=by show _=_;rw[<-HS.o];unfold someS;rw[if_neg (by rw[HV.o];exact h0)]
  have hd:((v:Int) == 0)=false:=beq_eq_false_iff_ne.2 (by omega)
  go_wp2_with fail
  go_ret
  exact⟨rfl,hE.o ▸ H1.o,HT1.o⟩
def GetD (w:World) (g:Nat) (s:Wire.St) (e:Ending) (w':World):Prop:=∃(d:Dd) (s':Wire.St) (A:OA) (n c:Nat),DGet s d s'/\e=.returned (dV d A n c)/\d.f.length=n/\n<=24/\n<=c/\OwnQ w' w.heap.size (.slice A n c) d.f/\Sc w' g 82 s'/\Touch g w w'
theorem dgetX_at (w:World) (g:Nat) (s:Wire.St) (h:Sc w g 82 s) (h8:∀k,k<(someS (someS (someS s 6) 1073741824) 1073741824).uptoV 24->Preds.rawO (rdsS k ((someS (someS (someS s 6) 1073741824) 1073741824).uptoS 24))=8):
  Calls Tryz.prog 21 #[.pointer (some ⟨g,0,none⟩)] w (GetD w g s):=by
 have hgl:=h.lt
 have hb0:=(gr1 w (.cells (dC 0 0 0 #[] none 0 0) 28)).below
 have H0:=Jh (h.below hb0)
 have HZ:=Jh (Blk.new w 28 (dC 0 0 0 #[] none 0 0))
 have HT0:Hid (Touch g w (w.alloc (.cells (dC 0 0 0 #[] none 0 0) 28))):=Touch.of_below hb0
 obtain⟨k,hk⟩:∃x,Hid (s.uptoV 6=x):=⟨_,rfl⟩
 obtain⟨s1,es1⟩:∃x,Hid (someS s 6=x):=⟨_,rfl⟩
 obtain⟨i,hi⟩:∃x,Hid (s1.uptoV 1073741824=x):=⟨_,rfl⟩
 obtain⟨t2,es2⟩:∃x,Hid (someS s1 1073741824=x):=⟨_,rfl⟩
 have HS2:Hid (s2 s=t2):=by show _=_;unfold s2;rw[es1.o,es2.o]
 have H82:Hid (∀k,k<(someS t2 1073741824).uptoV 24->Preds.rawO (rdsS k ((someS t2 1073741824).uptoS 24))=8):=by
  show ∀k,k<(someS t2 1073741824).uptoV 24->Preds.rawO (rdsS k ((someS t2 1073741824).uptoS 24))=8
  rw[<-es2.o,<-es1.o]
  exact h8
 clear h8
 have HI:Hid ((someS s 6).uptoV 1073741824=i):=by show _=_;rw[es1.o,hi.o]
 clear h hb0
 go_enter Tryz.func21,Tryz.ntmps21
 go_wp2_with fail
 generalize w.alloc (.cells (dC 0 0 0 #[] none 0 0) 28)=w0 at *
 refine (some_is w0 g s s1 k H0.o 6 (by decide) (by decide) hk.o es1.o).mono ?_
 rintro e w1 ⟨rfl,h1,hT1⟩
 have hb2:=(gr1 w1 (.cells (dC (k:Int) 0 0 #[] none 0 0) 28)).below
 have hZ1:=hT1.blk HZ.o (by omega)
 have P:=Jh (DG.mk (w:=w) (t:=[]) (h1.below hb2) (hZ1.below hb2 hZ1.lt) (Blk.new w1 28 (dC (k:Int) 0 0 #[] none 0 0)) (OwnK.none_ _ _) ((HT0.o.trans hT1).trans (Touch.of_below hb2)) hgl hZ1.lt)
 clear h1 hT1 hb2 hZ1 H0 HZ HT0
 go_wp2_with fail
 generalize w1.heap.size=q at *
 generalize w1.alloc (.cells (dC (k:Int) 0 0 #[] none 0 0) 28)=w2 at *
 refine (some_is w2 g s1 t2 i P.o.sc 1073741824 (by decide) (by decide) hi.o es2.o).mono ?_
 rintro e w3 ⟨rfl,h3,hT3⟩
 have P3:=Jh (P.o.step h3 hT3)
 clear h3 hT3 P es1 es2 hi
 have hqg:q≠g:=by have:=P3.o.h1;have:=P3.o.h2;omega
 obtain⟨d0,d1,d2,d3,d4,c0,c1,c2,c3,c4⟩:=blk5 P3.o.b
 have P4:=Jh (P3.o.set_ 1 (.int .i64 (i:Int)) k i 0 [] none 0 0 [] rfl P3.o.ow)
 clear P3
 go_upto_block 0 with fail
 clear d0 d1 d2 d3 d4 c0 c1 c2 c3 c4
 generalize w3.setCell ⟨q,1,none⟩ (.int .i64 (i:Int))=w4 at *
 go_cut [] from 4 (fun wx=>∃(r:Int) (t:LU) (A:OA) (n c:Nat) (f:List Pr) (s':Wire.St),n<=24/\n<=c/\Hid (f.length=n)/\Hid (DG w wx g q s' k i r t A n c f)/\Hid (DRest s ⟨k,i,r,t,f⟩ s'))
 case first=>
  obtain⟨d0,d1,d2,d3,d4,c0,c1,c2,c3,c4⟩:=blk5 P4.o.b
  by_cases hk1:k=1
  ·subst hk1
   obtain⟨t,ht⟩:∃x,Hid (t2.textV 32=x):=⟨_,rfl⟩
   obtain⟨t3,es3⟩:∃x,Hid (t2.textS 32=x):=⟨_,rfl⟩
   go_wp2_with fail
   refine (text_is w4 g t2 t3 t P4.o.sc 32 (by decide) (by decide) ht.o es3.o).mono ?_
   rintro e w5 ⟨rfl,h5,hT5⟩
   have P5:=Jh (P4.o.step h5 hT5)
   clear h5 hT5 P4 d0 d1 d2 d3 d4 c0 c1 c2 c3 c4
   obtain⟨d0,d1,d2,d3,d4,c0,c1,c2,c3,c4⟩:=blk5 P5.o.b
   have P6:=Jh (P5.o.set_ 3 (.string ⟨t.toArray⟩) (1:Nat) i 0 t none 0 0 [] rfl P5.o.ow)
   clear P5
   go_wp2_with fail
   go_meet
   case rel=>exact⟨0,t,none,0,0,[],t3,by omega,Jn,rfl,P6,by rw[hk.o],by rw[HI.o],.inl ⟨rfl,rfl,rfl,by rw[HS2.o];exact ht.o.symm,by rw[HS2.o];exact es3.o.symm⟩⟩
  ·have hkd:((k:Int) == 1)=false:=beq_eq_false_iff_ne.2 (by omega)
   obtain⟨z,hz⟩:∃z,decide (Ent (k:Int))=z:=⟨_,rfl⟩
   have HE:=Jh hz
   clear hz
   go_wp2_with fail
   refine (enters_at (k:Int) w4 z HE.o).mono ?_
   rintro e wz ⟨rfl,hwz⟩
   obtain rfl:=hwz.symm
   clear hwz
   cases z with
   | false=>
    go_wp2_with fail
    go_meet
    case rel=>exact⟨0,[],none,0,0,[],t2,by omega,Jn,rfl,P4,by rw[hk.o],by rw[HI.o],.inr (.inr ⟨by show (k:Int)≠1;omega,of_decide_eq_false HE.o,rfl,rfl,rfl,HS2.o.symm⟩)⟩
   | true=>
    obtain⟨r,hr⟩:∃x,Hid (t2.uptoV 1073741824=x):=⟨_,rfl⟩
    obtain⟨t3,es3⟩:∃x,Hid (someS t2 1073741824=x):=⟨_,rfl⟩
    go_wp2_with fail
    refine (some_is w4 g t2 t3 r P4.o.sc 1073741824 (by decide) (by decide) hr.o es3.o).mono ?_
    rintro e w5 ⟨rfl,h5,hT5⟩
    have P5:=Jh (P4.o.step h5 hT5)
    clear h5 hT5 P4 d0 d1 d2 d3 d4 c0 c1 c2 c3 c4
    obtain⟨d0,d1,d2,d3,d4,c0,c1,c2,c3,c4⟩:=blk5 P5.o.b
    have P6:=Jh (P5.o.set_ 2 (.int .i64 (r:Int)) k i r [] none 0 0 [] rfl P5.o.ow)
    clear P5
    go_wp2_with fail
    clear d0 d1 d2 d3 d4 c0 c1 c2 c3 c4
    generalize w5.setCell ⟨q,2,none⟩ (.int .i64 (r:Int))=w6 at *
    refine (fgetX_at w6 g t3 P6.o.sc (by rw[<-es3.o];exact H82.o)).mono ?_
    rintro e w7 ⟨f,s',A,n,c,hgi,rfl,hfn,hn24,hnc,hof,h7,hT7⟩
    have P7:=Jh (P6.o.step h7 hT7)
    have HGI:=Jh hgi
    have HFN:=Jh hfn
    have hq6:q+1<=w6.heap.size:=P6.o.b.lt
    clear h7 hT7 P6 hgi hfn
    obtain⟨d0,d1,d2,d3,d4,c0,c1,c2,c3,c4⟩:=blk5 P7.o.b
    have P8:=Jh (P7.o.set_ 4 (.slice A n c) k i r [] A n c f rfl (hof.less hq6))
    clear P7 hof
    go_wp2_with fail
    go_meet
    case rel=>exact⟨r,[],A,n,c,f,s',hn24,hnc,HFN,P8,by rw[hk.o],by rw[HI.o],.inr (.inl ⟨of_decide_eq_true HE.o,rfl,by rw[HS2.o,hr.o],by rw[HS2.o,es3.o];exact HGI.o⟩)⟩
 case rest=>
  obtain⟨r,t,A,n,c,f,s',hn24,hnc,HFN,P,HR⟩:=hcut
  clear P4 HS2 HI hk
  obtain⟨z,hz⟩:∃x,Hid (s'.err=x):=⟨_,rfl⟩
  go_wp2_with fail
  refine (err_at wc g s' P.o.sc z hz.o).mono ?_
  rintro e wz ⟨rfl,hwz⟩
  obtain rfl:=hwz
  obtain⟨d0,d1,d2,d3,d4,c0,c1,c2,c3,c4⟩:=blk5 P.o.b
  obtain⟨z0,z1,z2,z3,z4,q0,q1,q2,q3,q4⟩:=blk5 P.o.z
  have hqp:q≠w.heap.size:=by have:=P.o.h2;omega
  by_cases he:z=0
  ·subst he
   have hlo:=P.o.h2
   have hgp:g≠w.heap.size:=by have:=P.o.h1;omega
   go_wp2_with fail
   refine bodyPost_ret (v:=dV ⟨k,i,r,t,f⟩ A n c) (by simp[dV,results,Tryz.results21,go_sem,z0,z1,z2,z3,z4]) rfl ?_
   exact⟨⟨k,i,r,t,f⟩,s',A,n,c,⟨_,HR.o,by rw[if_pos hz.o]⟩,rfl,HFN.o,hn24,hnc,(P.o.ow.put5 (by omega) _ _ _ _ _).less (by omega),P.o.sc.put5 P.o.z (noByteD _ _ _ _ _ _ _) hgp _ _ _ _ _ _ _,(((((P.o.tc.new_ (Jn)).new_ (Jn)).new_ (Jn)).new_ (Jn)).new_ (Jn))⟩
  ·have v0:(z != 0)=true:=by simpa using he
   have hgp:g≠w.heap.size:=by have:=P.o.h1;omega
   go_wp2_with fail
   refine bodyPost_ret (v:=dV zeroD none 0 0) (by simp[dV,zeroD,results,Tryz.results21,go_sem,z0,z1,z2,z3,z4]) rfl ?_
   exact⟨zeroD,s',none,0,0,⟨_,HR.o,by rw[if_neg (by rw[hz.o];exact he)]⟩,rfl,rfl,by omega,Jn,OwnK.none_ _ _,P.o.sc.put5 P.o.z (noByteD _ _ _ _ _ _ _) hgp _ _ _ _ _ _ _,(((((P.o.tc.new_ (Jn)).new_ (Jn)).new_ (Jn)).new_ (Jn)).new_ (Jn))⟩
end
end Go.Proofs.YtnfigjggjmncdaaGreat
