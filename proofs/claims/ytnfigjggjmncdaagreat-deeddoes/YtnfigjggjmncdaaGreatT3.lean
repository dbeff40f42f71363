/- Contracts. -/
import Derived.Deep.LoopGhost
import Derived.Test.YtnfigjggjmncdaaGreatM1
import Derived.Test.YtnfigjggjmncdaaGreatD2
import Derived.Test.YtnfigjggjmncdaaGreatT1
import Derived.Test.YtnfigjggjmncdaaGreatT2
set_option maxRecDepth 100000
set_option maxHeartbeats 4000000
namespace Go.Proofs.YtnfigjggjmncdaaGreat
section
open Go.RowKit Go.Sort Spans Tb
theorem rise_iff {A:Type} (g:A->Int) (l:List A):Rise (l.map g)↔∀k (h:k<l.length),(decide (last ((l.take k).map g)<g l[k]) && decide (g l[k]<=1073741824))=true:=by
 have key:∀k,k<=l.length->(Rise ((l.take k).map g)↔∀j (h:j<l.length),j<k->(decide (last ((l.take j).map g)<g l[j]) && decide (g l[j]<=1073741824))=true):=by
  intro k
  induction k with
  | zero=>intro _;simp[rise_nil]
  | succ k ih=>
   intro hk
   rw[map_snoc g (show k<l.length by omega),rise_snoc,ih (by omega)]
   constructor
   ·rintro ⟨h1,h2,h3⟩ j hj hjk
    rcases Nat.lt_or_ge j k with h|h
    ·exact h1 j hj h
    ·obtain rfl:j=k:=by omega
     simp only[Bool.and_eq_true,decide_eq_true_eq]
     exact⟨h2,h3⟩
   ·intro h
    have:=h k (by omega) (by omega)
    simp only[Bool.and_eq_true,decide_eq_true_eq] at this
    exact⟨fun j hj hjk=>h j hj (by omega),this⟩
 have hk:=key l.length (Jn)
 rw[List.take_length] at hk
 exact hk.trans ⟨fun h k hk=>h k hk hk,fun h j hj _=>h j hj⟩
theorem links_iff {ls:List Lk}:LinksOk ls↔ls.length<=16/\∀k (h:k<ls.length),(decide (last ((ls.take k).map Lk.id)<ls[k].id) && decide (ls[k].id<=1073741824))=true/\ls[k].ad.length<=32:=by
 unfold LinksOk
 rw[rise_iff]
 constructor
 ·rintro ⟨h1,h2,h3⟩
  exact⟨h1,fun k h=>⟨h2 k h,h3 _ (List.getElem_mem h)⟩⟩
 ·rintro ⟨h1,h2⟩
  refine ⟨h1,fun j hj=>(h2 j hj).1,fun x hx=>?_⟩
  obtain⟨i,hi,rfl⟩:=List.mem_iff_getElem.1 hx
  exact (h2 i hi).2
theorem rightLinks_at (A:OA) (ls:List Lk) (n c:Nat) (hn:ls.length=n) (hm:n<=100000) (w:World) (hr:RdLk w A ls) (q:Bool) (hq:q=true↔LinksOk ls):
  Calls Tryz.prog 35 #[.slice A n c] w fun e w'=>e=.returned (.bool q)/\Below w.heap.size w w':=by
 have HN:=Jh hn
 have HQ:Hid (q=true↔_):=hq.trans links_iff
 have HR:=Jh hr
 have hno:∀h:Hid (¬(ls.length<=16/\∀k (h:k<ls.length),(decide (last ((ls.take k).map Lk.id)<ls[k].id) && decide (ls[k].id<=1073741824))=true/\ls[k].ad.length<=32)),false=q:=fun h=>by
  cases q with
  | false=>rfl
  | true=>exact absurd (HQ.o.1 rfl) h.o
 have HNO:=Jh hno
 clear hn hq hr hno
 by_cases h16:(16:Int)<(n:Int)
 ·have HF:=Jh (HNO.o (fun h=>by have:=h.1;rw[HN.o] at this;omega))
  go_enter Tryz.func35,Tryz.ntmps35
  go_wp2_with fail
  go_ret
  exact⟨ret_b HF.o,Below.refl _ _⟩
 ·have d16:decide ((16:Int)<(n:Int))=false:=decide_eq_false h16
  have HL:Hid (ls.length<=16):=by show _<=_;rw[HN.o];omega
  go_enter Tryz.func35,Tryz.ntmps35
  go_wp2_with fail
  go_loopg [3,11] n (fun gg s3 s11 wr=>∃(k:Nat) (l:Int),k<=n/\n-k<=gg/\s11=.int .i64 (k:Int)/\s3=.int .i64 l/\Hid (Below w.heap.size w wr)/\Hid (last ((ls.take k).map Lk.id)=l)/\Hid (∀j (h:j<ls.length),j<k->(decide (last ((ls.take j).map Lk.id)<ls[j].id) && decide (ls[j].id<=1073741824))=true/\ls[j].ad.length<=32))
  case atStart=>exact⟨0,0,Nat.zero_le _,by omega,rfl,rfl,Below.refl _ _,by show _=_;simp[last_nil],fun j _ h=>absurd h (by omega)⟩
  case round=>
   obtain⟨k,l,hk,hgg,rfl,rfl,HB,HLA,HA⟩:=hrel
   clear d16 h16
   by_cases hlt:k<n
   ·have hk':k<ls.length:=by rw[HN.o];exact hlt
    obtain⟨g,off,rfl,hg,c0,c1⟩:=RdLk.at2 (RdK.below HR.o HB.o) hk'
    obtain⟨x,hx⟩:∃x,ls[k]=x:=⟨_,rfl⟩
    have HX:=Jh hx
    rw[hx] at c0 c1
    clear hx
    obtain⟨xi,xa⟩:=x
    dsimp only at c0 c1
    have w5:(k:Int)<(n:Int):=by omega
    have HB1:=Jh (HB.o.alloc HB.o.size (.cells #[.int .i64 xi,.string ⟨xa.toArray⟩] 46))
    have hsz:(⟨xa.toArray⟩:ByteArray).size=xa.length:=by simp[ByteArray.size]
    by_cases hfo:(decide (l<xi) && decide (xi<=1073741824))=true
    ·have HFO:=Jh hfo
     clear hfo
     by_cases h32:(32:Int)<(xa.length:Int)
     ·have d32:decide ((32:Int)<(xa.length:Int))=true:=decide_eq_true h32
      have HF:=Jh (HNO.o (fun h=>by have:=(h.2 k hk').2;rw[HX.o] at this;dsimp only at this;omega))
      go_wp2_with fail
      refine (follows_at l xi _ true HFO.o).mono ?_
      rintro e w2 ⟨rfl,rfl⟩
      go_wp2_with fail
      go_ret
      exact⟨ret_b HF.o,HB1.o⟩
     ·have d32:decide ((32:Int)<(xa.length:Int))=false:=decide_eq_false h32
      have HA2:Hid (∀j (h:j<ls.length),j<k+1->(decide (last ((ls.take j).map Lk.id)<ls[j].id) && decide (ls[j].id<=1073741824))=true/\ls[j].ad.length<=32):=fun j hj hjk=>by
       rcases Nat.lt_or_ge j k with h|h
       ·exact HA.o j hj h
       ·obtain rfl:j=k:=by omega
        rw[HX.o,HLA.o]
        exact⟨HFO.o,by dsimp only;omega⟩
      have HLA2:Hid (last ((ls.take (k+1)).map Lk.id)=xi):=by
       show _=_
       rw[map_snoc Lk.id hk',HX.o,last_snoc]
      go_wp2_with fail
      refine (follows_at l xi _ true HFO.o).mono ?_
      rintro e w2 ⟨rfl,rfl⟩
      go_wp2_with fail
      go_roundg (n-(k+1))
      case measure=>omega
      case rel=>exact⟨k+1,xi,by omega,Jn,by go_num,rfl,HB1,HLA2,HA2⟩
    ·have HF:=Jh (HNO.o (fun h=>by have:=(h.2 k hk').1;rw[HX.o,HLA.o] at this;exact hfo this))
     have HFO:Hid ((decide (l<xi) && decide (xi<=1073741824))=false):=by show _=_;simpa using hfo
     clear hfo
     go_wp2_with fail
     refine (follows_at l xi _ false HFO.o).mono ?_
     rintro e w2 ⟨rfl,rfl⟩
     go_wp2_with fail
     go_ret
     exact⟨ret_b HF.o,HB1.o⟩
   ·have HF:Hid (true=q):=(HQ.o.2 ⟨HL.o,fun j hj=>HA.o j hj (by have:=HN.o;omega)⟩).symm
    go_wp2_with fail
    go_ret
    exact⟨ret_b HF.o,HB.o⟩
theorem not_big {f:List Pr} (h:24<f.length):¬Fil.NormIs f f 0:=by
 rintro (⟨_,_,e⟩|⟨h2,_⟩|⟨h2,_⟩)
 ·cases e
 ·omega
 ·have:=h2.1;omega
theorem norm_big (A:OA) (n c:Nat) (hn:24<n) (w:World):
  Calls Tryz.prog 26 #[.slice A n c] w fun e w'=>e=.returned (.tuple #[.slice none 0 0,.int .i64 4])/\w'=w:=by
 have v1:(24:Int)<(n:Int):=by omega
 go_enter Tryz.func26,Tryz.ntmps26
 go_wp2_with fail
 go_ret2
 exact⟨rfl,rfl⟩
theorem fright_q (A:OA) (f:List Pr) (n c:Nat) (hn:f.length=n) (hl:PBd f) (w:World) (hr:RdQ w A f) (q:Bool) (hq:q=true↔Fil.NormIs f f 0):
  Calls Tryz.prog 68 #[.slice A n c] w fun e w'=>e=.returned (.bool q)/\Below w.heap.size w w':=by
 by_cases h:n<=100
 ·refine (fright_at A f n c hn h hl w hr).mono ?_
  rintro e w' ⟨q',rfl,hq',hb⟩
  have:q'=q:=Bool.eq_iff_iff.2 (hq'.trans hq.symm)
  exact⟨by rw[this],hb⟩
 ·have HF:Hid (false=q):=by
   show _=_
   cases q with
   | false=>rfl
   | true=>exact absurd (hq.1 rfl) (not_big (by omega))
  have hbig:24<n:=by omega
  clear h hn hq hl hr
  go_enter Tryz.func68,Tryz.ntmps68
  go_wp2_with fail
  refine (norm_big A n c hbig w).mono ?_
  rintro e w' ⟨rfl,rfl⟩
  go_wp2_with fail
  go_ret
  exact⟨ret_b HF.o,Below.refl _ _⟩
theorem ents_iff {ls:List Lk} {es:List Ex}:EntsOk ls (es.map Ex.en)↔es.length<=64/\∀k (h:k<es.length),(decide (last ((es.take k).map Ex.id)<es[k].id) && decide (es[k].id<=1073741824))=true/\Linked ls es[k].fr/\Fil.NormIs es[k].f es[k].f 0:=by
 have hm:(es.map Ex.en).map En.id=es.map Ex.id:=by rw[List.map_map];rfl
 unfold EntsOk
 rw[hm,rise_iff,List.length_map]
 constructor
 ·rintro ⟨h1,h2,h3⟩
  exact⟨h1,fun k h=>⟨h2 k h,h3 _ (List.mem_map.2 ⟨_,List.getElem_mem h,rfl⟩)⟩⟩
 ·rintro ⟨h1,h2⟩
  refine ⟨h1,fun j hj=>(h2 j hj).1,fun x hx=>?_⟩
  obtain⟨y,hy,rfl⟩:=List.mem_map.1 hx
  obtain⟨i,hi,rfl⟩:=List.mem_iff_getElem.1 hy
  exact (h2 i hi).2
def PBs (es:List Ex):Prop:=∀x∈es,PBd x.f
theorem rightEnts_at (ep:Int) (A:OA) (n c:Nat) (ls:List Lk) (A1:OA) (n1 c1:Nat) (A2:OA) (n2 c2:Nat) (hls:ls.length=n) (hln:n<=100000) (B:OA) (es:List Ex) (m d:Nat) (hn:es.length=m) (hm:m<=100000) (hp:PBs es) (w:World) (hrl:RdLk w A ls) (hr:RdEn w B es) (q:Bool) (hq:q=true↔EntsOk ls (es.map Ex.en)):
  Calls Tryz.prog 36 #[.agg (xC ep A n c A1 n1 c1 A2 n2 c2),.slice B m d] w fun e w'=>e=.returned (.bool q)/\Below w.heap.size w w':=by
 have HN:=Jh hn
 have HLS:=Jh hls
 have HQ:Hid (q=true↔_):=hq.trans ents_iff
 have HR:=Jh hr
 have HRL:=Jh hrl
 have HP:=Jh hp
 have hno:∀h:Hid (¬(es.length<=64/\∀k (h:k<es.length),(decide (last ((es.take k).map Ex.id)<es[k].id) && decide (es[k].id<=1073741824))=true/\Linked ls es[k].fr/\Fil.NormIs es[k].f es[k].f 0)),false=q:=fun h=>by
  cases q with
  | false=>rfl
  | true=>exact absurd (HQ.o.1 rfl) h.o
 have HNO:=Jh hno
 have HB0:=Jh (gr1 w (.cells (xC ep A n c A1 n1 c1 A2 n2 c2) 25)).below
 have HX0:=Jh (Blk.new w 25 (xC ep A n c A1 n1 c1 A2 n2 c2))
 clear hn hls hq hr hrl hp hno
 by_cases h64:(64:Int)<(m:Int)
 ·have HF:=Jh (HNO.o (fun h=>by have:=h.1;rw[HN.o] at this;omega))
  go_enter Tryz.func36,Tryz.ntmps36
  go_wp2_with fail
  go_ret
  exact⟨ret_b HF.o,HB0.o⟩
 ·have d64:decide ((64:Int)<(m:Int))=false:=decide_eq_false h64
  have HL:Hid (es.length<=64):=by show _<=_;rw[HN.o];omega
  go_enter Tryz.func36,Tryz.ntmps36
  go_wp2_with fail
  generalize w.alloc (.cells (xC ep A n c A1 n1 c1 A2 n2 c2) 25)=w0 at *
  go_loopg [5,15] m (fun gg s3 s11 wr=>∃(k:Nat) (l:Int),k<=m/\m-k<=gg/\s11=.int .i64 (k:Int)/\s3=.int .i64 l/\Hid (Below w.heap.size w wr)/\Hid (Blk wr w.heap.size 25 (xC ep A n c A1 n1 c1 A2 n2 c2))/\Hid (last ((es.take k).map Ex.id)=l)/\Hid (∀j (h:j<es.length),j<k->(decide (last ((es.take j).map Ex.id)<es[j].id) && decide (es[j].id<=1073741824))=true/\Linked ls es[j].fr/\Fil.NormIs es[j].f es[j].f 0))
  case atStart=>exact⟨0,0,Nat.zero_le _,by omega,rfl,rfl,HB0,HX0,by show _=_;simp[last_nil],fun j _ h=>absurd h (by omega)⟩
  case round=>
   obtain⟨k,l,hk,hgg,rfl,rfl,HB,HX,HLA,HA⟩:=hrel
   clear d64 h64 HB0 HX0
   by_cases hlt:k<m
   ·have hk':k<es.length:=by rw[HN.o];exact hlt
    obtain⟨g,off,rfl,hg,c0,c1,c2,hf⟩:=RdEn.at3 (HR.o.below HB.o) hk'
    have hpx:=HP.o _ (List.getElem_mem hk')
    obtain⟨x,hx⟩:∃x,es[k]=x:=⟨_,rfl⟩
    have HE:=Jh hx
    rw[hx] at c0 c1 c2 hf hpx
    clear hx
    obtain⟨xi,xr,xA,xn,xc,xf⟩:=x
    obtain⟨hf1,hf2,hf3⟩:=hf
    dsimp only at c0 c1 c2 hf1 hf2 hf3 hpx
    have HPX:=Jh hpx
    have HF1:=Jh hf1
    have w5:(k:Int)<(m:Int):=by omega
    have hbA:Below wr.heap.size wr (wr.alloc (.cells (eC xi xr xA xn xc) 44)):=(gr1 wr (.cells (eC xi xr xA xn xc) 44)).below
    have HB1:=Jh (below_next HB.o (Jn) hbA)
    have HX1:=Jh (Blk.below HX.o hbA HX.o.lt)
    have HE1:=Jh (Blk.new wr 44 (eC xi xr xA xn xc))
    have HRX:=Jh (RdK.below hf3 hbA)
    obtain⟨x0,x1,x2,x3,_⟩:=blk4 HX.o
    have hlx:=HX.o.lt
    have hw:w.heap.size<=wr.heap.size:=HB.o.size
    obtain⟨r,hr⟩:∃r,findL ls xr=r:=⟨_,rfl⟩
    have HRR:=Jh hr
    clear hf1 hf3 hpx hr
    go_wp2_with fail
    clear c0 c1 c2 x0 x1 x2 x3 hlx
    generalize hW1:wr.alloc (.cells (eC xi xr xA xn xc) 44)=w1 at *
    have hwr:wr.heap.size<w1.heap.size:=HE1.o.lt
    refine (link_at ⟨ep,A,n,c,ls,A1,n1,c1,[],A2,n2,c2,[]⟩ xr HLS.o hln w1 (RdK.below HRL.o HB1.o) r HRR.o).mono ?_
    rintro e w2 ⟨rfl,hb2⟩
    have HB2:=Jh (below_next HB1.o (by omega) hb2)
    have HX2:=Jh (Blk.below HX1.o hb2 HX1.o.lt)
    have HE2:=Jh (Blk.below HE1.o hb2 HE1.o.lt)
    have HRX2:=Jh (RdK.below HRX.o hb2)
    have hs2:=hb2.size
    clear hb2 HX1 HE1 HRX HB1 hW1 hbA
    obtain⟨lk,hlk⟩:∃lk,r.getD ⟨0,[]⟩=lk:=⟨_,rfl⟩
    rw[hlk]
    obtain⟨li,la⟩:=lk
    have HLK:=Jh hlk
    clear hlk
    have hb3:Below w2.heap.size w2 (w2.alloc (.cells #[.int .i64 li,.string ⟨la.toArray⟩] 46)):=(gr1 w2 (.cells #[.int .i64 li,.string ⟨la.toArray⟩] 46)).below
    have HB3:=Jh (below_next HB2.o (by omega) hb3)
    have HX3:=Jh (Blk.below HX2.o hb3 HX2.o.lt)
    have HE3:=Jh (Blk.below HE2.o hb3 HE2.o.lt)
    have HRX3:=Jh (RdK.below HRX2.o hb3)
    clear hb3
    obtain⟨e0,e1,e2,_⟩:=blk3 HE2.o
    have hle:=HE2.o.lt
    by_cases hfo:(decide (l<xi) && decide (xi<=1073741824))=true
    ·have HFO:=Jh hfo
     clear hfo
     cases r with
     | none=>
      have HF:=Jh (HNO.o (fun h=>by have:=(h.2 k hk').2.1;rw[HE.o] at this;exact findL_none.1 HRR.o this))
      go_wp2_with fail
      refine (follows_at l xi _ true HFO.o).mono ?_
      rintro e w4 ⟨rfl,rfl⟩
      go_wp2_with fail
      go_ret
      exact⟨ret_b HF.o,HB3.o⟩
     | some lk=>
      have HLI:Hid (Linked ls xr):=findL_some.1 (by rw[HRR.o];rfl)
      go_wp2_with fail
      refine (follows_at l xi _ true HFO.o).mono ?_
      rintro e w4 ⟨rfl,rfl⟩
      obtain⟨f0,f1,f2,_⟩:=blk3 HE3.o
      have hle3:=HE3.o.lt
      obtain⟨q2,hq2⟩:∃q2:Bool,q2=true↔Fil.NormIs xf xf 0:=by
       by_cases h:Fil.NormIs xf xf 0
       ·exact⟨true,by simp[h]⟩
       ·exact⟨false,by simp[h]⟩
      have HQ2:=Jh hq2
      clear hq2
      go_wp2_with fail
      refine (fright_q xA xf xn xc HF1.o HPX.o _ HRX3.o q2 HQ2.o).mono ?_
      rintro e w5' ⟨rfl,hb5⟩
      have HB5:=Jh (below_next HB3.o (by have:=HB3.o.size;omega) hb5)
      have HX5:=Jh (Blk.below HX3.o hb5 HX3.o.lt)
      have HE5:=Jh (Blk.below HE3.o hb5 HE3.o.lt)
      clear hb5 e0 e1 e2 f0 f1 f2
      obtain⟨e0,e1,e2,_⟩:=blk3 HE5.o
      have hle5:=HE5.o.lt
      cases q2 with
      | false=>
       have HF:=Jh (HNO.o (fun h=>by
        have:=(h.2 k hk').2.2;rw[HE.o] at this
        have:=HQ2.o.2 this;cases this))
       go_wp2_with fail
       go_ret
       exact⟨ret_b HF.o,HB5.o⟩
      | true=>
       have HA2:Hid (∀j (h:j<es.length),j<k+1->(decide (last ((es.take j).map Ex.id)<es[j].id) && decide (es[j].id<=1073741824))=true/\Linked ls es[j].fr/\Fil.NormIs es[j].f es[j].f 0):=fun j hj hjk=>by
        rcases Nat.lt_or_ge j k with h|h
        ·exact HA.o j hj h
        ·obtain rfl:j=k:=by omega
         rw[HE.o,HLA.o]
         exact⟨HFO.o,HLI.o,HQ2.o.1 rfl⟩
       have HLA2:Hid (last ((es.take (k+1)).map Ex.id)=xi):=by
        show _=_
        rw[map_snoc Ex.id hk',HE.o,last_snoc]
       go_wp2_with fail
       go_roundg (m-(k+1))
       case measure=>omega
       case rel=>exact⟨k+1,xi,by omega,Jn,by go_num,rfl,HB5,HX5,HLA2,HA2⟩
    ·have HF:=Jh (HNO.o (fun h=>by have:=(h.2 k hk').1;rw[HE.o,HLA.o] at this;exact hfo this))
     have HFO:Hid ((decide (l<xi) && decide (xi<=1073741824))=false):=by show _=_;simpa using hfo
     clear hfo
     go_wp2_with fail
     refine (follows_at l xi _ false HFO.o).mono ?_
     rintro e w4 ⟨rfl,rfl⟩
     go_wp2_with fail
     go_ret
     exact⟨ret_b HF.o,HB3.o⟩
   ·have HF:Hid (true=q):=(HQ.o.2 ⟨HL.o,fun j hj=>HA.o j hj (by have:=HN.o;omega)⟩).symm
    go_wp2_with fail
    go_ret
    exact⟨ret_b HF.o,HB.o⟩
theorem right_st (s:Sx) (ln:s.Len) (fw:s.Few) (pa:PBs s.av) (pu:PBs s.su) (w:World) (hr:s.Rd w) (q:Bool) (hq:q=true↔Tb.Right s.bk):
  Calls Tryz.prog 13 #[s.v] w fun e w'=>e=.returned (.bool q)/\Below w.heap.size w w':=by
 obtain⟨ep,A,n,c,ls,A1,n1,c1,av,A2,n2,c2,su⟩:=s
 have LN:=Jh ln
 have FW:=Jh fw
 have PA:=Jh pa
 have PU:=Jh pu
 have HQ:=Jh hq
 have hB0:=(gr1 w (.cells (xC ep A n c A1 n1 c1 A2 n2 c2) 25)).below
 have HX0:=Jh (Blk.new w 25 (xC ep A n c A1 n1 c1 A2 n2 c2))
 have HB0:=Jh hB0
 have HR0:=Jh (hr.below hB0)
 obtain⟨x0,x1,x2,x3,_⟩:=blk4 HX0.o
 have hl:=HX0.o.lt
 clear ln fw pa pu hq hr hB0
 by_cases h1:0<=ep
 ·have d1:decide (0<=ep)=true:=decide_eq_true h1
  by_cases h2:ep<=1099511627776
  ·have d2:decide (ep<=1099511627776)=true:=decide_eq_true h2
   obtain⟨q1,hq1⟩:∃q1:Bool,q1=true↔LinksOk ls:=by
    by_cases h:LinksOk ls
    ·exact⟨true,by simp[h]⟩
    ·exact⟨false,by simp[h]⟩
   have Hq1:=Jh hq1
   clear hq1
   obtain⟨q2,hq2⟩:∃q2:Bool,q2=true↔EntsOk ls (av.map Ex.en):=by
    by_cases h:EntsOk ls (av.map Ex.en)
    ·exact⟨true,by simp[h]⟩
    ·exact⟨false,by simp[h]⟩
   have Hq2:=Jh hq2
   clear hq2
   obtain⟨q3,hq3⟩:∃q3:Bool,q3=true↔EntsOk ls (su.map Ex.en):=by
    by_cases h:EntsOk ls (su.map Ex.en)
    ·exact⟨true,by simp[h]⟩
    ·exact⟨false,by simp[h]⟩
   have Hq3:=Jh hq3
   clear hq3
   have HE0:=Jh h1
   have HE1:=Jh h2
   clear h1 h2
   go_enter Tryz.func13,Tryz.ntmps13
   go_wp2_with fail
   cases q1 with
   | false=>
    have HF:Hid (false=q):=by
     show _=_
     cases q with
     | false=>rfl
     | true=>exact absurd (HQ.o.1 rfl) (fun h=>by have:=Hq1.o.2 h.ls;cases this)
    refine (rightLinks_at A ls n c LN.o.n FW.o.n _ HR0.o.ls false Hq1.o).mono ?_
    rintro e w1 ⟨rfl,hb⟩
    have HB1:=Jh (below_next HB0.o (by have:=HB0.o.size;omega) hb)
    have HX1:=Jh (Blk.below HX0.o hb HX0.o.lt)
    have HR1:=Jh (HR0.o.below hb)
    clear hb x0 x1 x2 x3 hl
    obtain⟨x0,x1,x2,x3,_⟩:=blk4 HX1.o
    have hl:=HX1.o.lt
    go_wp2_with fail
    go_ret
    exact⟨ret_b HF.o,HB1.o⟩
   | true=>
    refine (rightLinks_at A ls n c LN.o.n FW.o.n _ HR0.o.ls true Hq1.o).mono ?_
    rintro e w1 ⟨rfl,hb⟩
    have HB1:=Jh (below_next HB0.o (by have:=HB0.o.size;omega) hb)
    have HX1:=Jh (Blk.below HX0.o hb HX0.o.lt)
    have HR1:=Jh (HR0.o.below hb)
    clear hb x0 x1 x2 x3 hl
    obtain⟨x0,x1,x2,x3,_⟩:=blk4 HX1.o
    have hl:=HX1.o.lt
    go_wp2_with fail
    cases q2 with
    | false=>
     have HF:Hid (false=q):=by
      show _=_
      cases q with
      | false=>rfl
      | true=>exact absurd (HQ.o.1 rfl) (fun h=>by have:=Hq2.o.2 h.av;cases this)
     refine (rightEnts_at ep A n c ls A1 n1 c1 A2 n2 c2 LN.o.n FW.o.n A1 av n1 c1 LN.o.n1 FW.o.n1 PA.o _ HR1.o.ls HR1.o.av false Hq2.o).mono ?_
     rintro e w2 ⟨rfl,hb⟩
     have HB2:=Jh (below_next HB1.o (by have:=HB1.o.size;omega) hb)
     have HX2:=Jh (Blk.below HX1.o hb HX1.o.lt)
     have HR2:=Jh (HR1.o.below hb)
     clear hb x0 x1 x2 x3 hl
     obtain⟨x0,x1,x2,x3,_⟩:=blk4 HX2.o
     have hl:=HX2.o.lt
     go_wp2_with fail
     go_ret
     exact⟨ret_b HF.o,HB2.o⟩
    | true=>
     refine (rightEnts_at ep A n c ls A1 n1 c1 A2 n2 c2 LN.o.n FW.o.n A1 av n1 c1 LN.o.n1 FW.o.n1 PA.o _ HR1.o.ls HR1.o.av true Hq2.o).mono ?_
     rintro e w2 ⟨rfl,hb⟩
     have HB2:=Jh (below_next HB1.o (by have:=HB1.o.size;omega) hb)
     have HX2:=Jh (Blk.below HX1.o hb HX1.o.lt)
     have HR2:=Jh (HR1.o.below hb)
     clear hb x0 x1 x2 x3 hl
     obtain⟨x0,x1,x2,x3,_⟩:=blk4 HX2.o
     have hl:=HX2.o.lt
     go_wp2_with fail
     have HF:Hid (q3=q):=by
      show _=_
      refine Bool.eq_iff_iff.2 (Iff.trans ?_ HQ.o.symm)
      exact⟨fun h=>⟨HE0.o,HE1.o,Hq1.o.1 (by simp),Hq2.o.1 (by simp),Hq3.o.1 h⟩,fun h=>Hq3.o.2 h.su⟩
     refine (rightEnts_at ep A n c ls A1 n1 c1 A2 n2 c2 LN.o.n FW.o.n A2 su n2 c2 LN.o.n2 FW.o.n2 PU.o _ HR2.o.ls HR2.o.su q3 Hq3.o).mono ?_
     rintro e w3 ⟨rfl,hb⟩
     have HB3:=Jh (below_next HB2.o (by have:=HB2.o.size;omega) hb)
     have HX3:=Jh (Blk.below HX2.o hb HX2.o.lt)
     have HR3:=Jh (HR2.o.below hb)
     clear hb x0 x1 x2 x3 hl
     obtain⟨x0,x1,x2,x3,_⟩:=blk4 HX3.o
     have hl:=HX3.o.lt
     go_wp2_with fail
     go_ret
     exact⟨ret_b HF.o,HB3.o⟩
  ·have d2:decide (ep<=1099511627776)=false:=decide_eq_false h2
   have HF:Hid (false=q):=by
    show _=_
    cases q with
    | false=>rfl
    | true=>exact absurd (HQ.o.1 rfl) (fun h=>h2 h.ep1)
   clear h1 h2
   go_enter Tryz.func13,Tryz.ntmps13
   go_wp2_with fail
   go_ret
   exact⟨ret_b HF.o,HB0.o⟩
 ·have d1:decide (0<=ep)=false:=decide_eq_false h1
  have HF:Hid (false=q):=by
   show _=_
   cases q with
   | false=>rfl
   | true=>exact absurd (HQ.o.1 rfl) (fun h=>h1 h.ep0)
  clear h1
  go_enter Tryz.func13,Tryz.ntmps13
  go_wp2_with fail
  go_ret
  exact⟨ret_b HF.o,HB0.o⟩
def shortP (p:Pr):Prop:=p.n.length<=100/\p.t.length<=100
instance (p:Pr):Decidable (shortP p):=inferInstanceAs (Decidable (_/\_))
def total (xs:List Ex):Nat:=(xs.map Ex.n).sum
def fewE (xs:List Ex):Bool:=decide (∀x∈xs,∀p∈x.f,shortP p) && (decide (xs.length<=80) && decide (total xs<=300))
theorem total_le {xs:List Ex} {x:Ex} (h:x∈xs):x.n<=total xs:=by
 induction xs with
 | nil=>cases h
 | cons a r ih=>
  unfold total at *
  rw[List.map_cons,List.sum_cons]
  rcases List.mem_cons.1 h with rfl|h
  ·omega
  ·have:=ih h;omega
theorem total_snoc {xs:List Ex} {k:Nat} (h:k<xs.length):total (xs.take (k+1))=total (xs.take k)+(xs[k]).n:=by
 unfold total
 rw[map_snoc Ex.n h,List.sum_append];simp
theorem total_bd {R:Nat} {xs:List Ex} (hb:∀x∈xs,x.n<=R):∀k,total (xs.take k)<=k*R
 | 0=>by simp[total]
 | k+1=>by
  have h0:=total_bd hb k
  rw[Nat.succ_mul]
  by_cases h:k<xs.length
  ·rw[total_snoc h]
   exact Nat.add_le_add h0 (hb _ (List.getElem_mem h))
  ·rw[List.take_of_length_le (by omega)] at h0 ⊢
   exact Nat.le_trans h0 (Nat.le_add_right _ _)
theorem fewE_of {xs:List Ex} (h:fewE xs=true):(∀x∈xs,∀p∈x.f,shortP p)/\xs.length<=80/\∀x∈xs,x.n<=300:=by
 unfold fewE at h
 simp only[Bool.and_eq_true,decide_eq_true_eq] at h
 exact⟨h.1,h.2.1,fun x hx=>Nat.le_trans (total_le hx) h.2.2⟩
def SumIs (m:Nat) (t:Nat) (s:Int):Prop:=m<=80->s=(t:Int)
theorem tfew_at (B:OA) (es:List Ex) (m d:Nat) (hn:es.length=m) (hm:m<=9223372036854775807) (hb:EBx es) (w:World) (hr:RdEn w B es) (q:Bool) (hq:fewE es=q):
  Calls Tryz.prog 23 #[.slice B m d] w fun e w'=>e=.returned (.bool q)/\Below w.heap.size w w':=by
 have HN:=Jh hn
 have HQ:=Jh hq
 have HR:=Jh hr
 have HBX:=Jh hb
 have HTB:Hid (∀k,total (es.take k)<=k*2600000000000):=total_bd fun x hx=>(hb x hx).1
 clear hn hq hr hb
 go_enter Tryz.func23,Tryz.ntmps23
 go_wp2_with fail
 go_loopg [3,4] m (fun gg s3 s4 wr=>∃(k:Nat) (s:Int),k<=m/\m-k<=gg/\s4=.int .i64 (k:Int)/\s3=.int .i64 s/\Hid (Below w.heap.size w wr)/\Hid (SumIs m (total (es.take k)) s)/\Hid (∀x∈es.take k,∀p∈x.f,shortP p))
 case atStart=>exact⟨0,0,Nat.zero_le _,by omega,rfl,rfl,Below.refl _ _,fun _=>by simp[total],by show ∀_,_;simp⟩
 case round=>
  obtain⟨k,s,hk,hgg,rfl,rfl,HB,HS,HA⟩:=hrel
  by_cases hlt:k<m
  ·have hk':k<es.length:=by rw[HN.o];exact hlt
   obtain⟨g,off,rfl,hg,c0,c1,c2,hf⟩:=RdEn.at3 HR.o hk'
   have hbx:=HBX.o _ (List.getElem_mem hk')
   obtain⟨x,hx⟩:∃x,es[k]=x:=⟨_,rfl⟩
   have HE:=Jh hx
   rw[hx] at c0 c1 c2 hf hbx
   clear hx
   obtain⟨xi,xr,xA,xn,xc,xf⟩:=x
   obtain⟨hf1,hf2,hf3⟩:=hf
   obtain⟨hb1,_,_,hb4⟩:=hbx
   dsimp only at c0 c1 c2 hf1 hf2 hf3 hb1 hb4
   have HPB:=Jh hb4
   have HF1:=Jh hf1
   have HRX:=Jh hf3
   have w5:(k:Int)<(m:Int):=by omega
   obtain⟨s',hs'⟩:∃s',IntKind.i64.wrap (s+(xn:Int))=s':=⟨_,rfl⟩
   have HS2:Hid (SumIs m (total (es.take (k+1))) s'):=fun h80=>by
    have h1:=HS.o h80
    have h2:=HTB.o k
    have h3:=total_snoc hk'
    rw[HE.o] at h3
    dsimp only at h3
    rw[<-hs',h3,h1,IntKind.wrap_i64]
    omega
   have HC2:=Jh c2
   clear hb4 hf1 hf3 HS c0 c1 c2
   have c2:=(HB.o.cell (p:=⟨g,off+k*3+2,none⟩) hg).trans HC2.o
   go_wp2_with fail
   clear hs' c2
   go_loopg [5] xn (fun g2 s5 wi=>∃j:Nat,j<=xn/\xn-j<=g2/\s5=.int .i64 (j:Int)/\Hid (Below w.heap.size w wi)/\Hid (∀p∈xf.take j,shortP p))
   case atStart=>exact⟨0,Nat.zero_le _,by omega,rfl,HB,by show ∀_,_;simp⟩
   case round=>
    obtain⟨j,hj,hgg2,rfl,HBi,HAi⟩:=hrel
    clear HB
    have c2:=(HBi.o.cell (p:=⟨g,off+k*3+2,none⟩) hg).trans HC2.o
    by_cases hjl:j<xn
    ·have hj':j<xf.length:=by rw[HF1.o];exact hjl
     obtain⟨g',off',rfl,hg',b0,b1,b2,b3,b4⟩:=RdQ.at5 (RdK.below HRX.o HBi.o) hj'
     have hbp:=HPB.o _ (List.getElem_mem hj')
     obtain⟨p,hp⟩:∃p,xf[j]=p:=⟨_,rfl⟩
     have HPE:=Jh hp
     rw[hp] at b0 b1 b2 b3 b4 hbp
     clear hp
     obtain⟨pn,po,pk,pi,pt⟩:=p
     obtain⟨hb5,hb6,_,_⟩:=hbp
     dsimp only at b0 b1 b2 b3 b4 hb5 hb6
     have w6:(j:Int)<(xn:Int):=by omega
     have HB2:=Jh (HBi.o.alloc HBi.o.size (.cells (pC pn.toArray po pk pi pt.toArray) 54))
     have hz1:(⟨pn.toArray⟩:ByteArray).size=pn.length:=by simp[ByteArray.size]
     have hz2:(⟨pt.toArray⟩:ByteArray).size=pt.length:=by simp[ByteArray.size]
     have hno:¬shortP ⟨pn,po,pk,pi,pt⟩->fewE es=false:=fun h=>by
      unfold fewE
      rw[decide_eq_false (fun hall=>h ?_),Bool.false_and]
      have:=hall _ (List.getElem_mem hk') xf[j] (by rw[HE.o];exact List.getElem_mem hj')
      rwa [HPE.o] at this
     have HNO:=Jh hno
     clear hno
     by_cases h1:(100:Int)<(pn.length:Int)
     ·have d1:decide ((100:Int)<(pn.length:Int))=true:=decide_eq_true h1
      have HF:Hid (false=q):=by
       show _=_
       rw[<-HQ.o,HNO.o (fun h=>by have:=h.1;dsimp only at this;omega)]
      go_wp2_with fail
      go_ret
      exact⟨ret_b HF.o,HB2.o⟩
     ·have d1:decide ((100:Int)<(pn.length:Int))=false:=decide_eq_false h1
      by_cases h2:(100:Int)<(pt.length:Int)
      ·have d2:decide ((100:Int)<(pt.length:Int))=true:=decide_eq_true h2
       have HF:Hid (false=q):=by
        show _=_
        rw[<-HQ.o,HNO.o (fun h=>by have:=h.2;dsimp only at this;omega)]
       go_wp2_with fail
       go_ret
       exact⟨ret_b HF.o,HB2.o⟩
      ·have d2:decide ((100:Int)<(pt.length:Int))=false:=decide_eq_false h2
       have HA3:Hid (∀p∈xf.take (j+1),shortP p):=fun p hp=>by
        rw[List.take_succ_eq_append_getElem hj',HPE.o] at hp
        rcases List.mem_append.1 hp with h|h
        ·exact HAi.o p h
        ·simp at h;subst h;exact⟨by dsimp only;omega,by dsimp only;omega⟩
       go_wp2_with fail
       go_roundg (xn-(j+1))
       case measure=>omega
       case rel=>exact⟨j+1,by omega,Jn,by go_num,HB2,HA3⟩
    ·have hjn:j=xn:=by omega
     have HA4:Hid (∀x∈es.take (k+1),∀p∈x.f,shortP p):=fun x hx=>by
      rw[List.take_succ_eq_append_getElem hk',HE.o] at hx
      rcases List.mem_append.1 hx with h|h
      ·exact HA.o x h
      ·simp at h;subst h
       have:=HAi.o
       rwa [hjn,List.take_of_length_le (by rw[HF1.o];exact Jn)] at this
     go_wp2_with fail
     go_roundg (m-(k+1))
     case measure=>omega
     case rel=>exact⟨k+1,s',by omega,Jn,by go_num,rfl,HBi,HS2,HA4⟩
  ·have hkm:k=m:=by omega
   subst hkm
   have HALL:Hid (∀x∈es,∀p∈x.f,shortP p):=by
    have:=HA.o
    rwa [List.take_of_length_le (by rw[HN.o];exact Jn)] at this
   have hST:k<=80->s=(total es:Int):=fun h=>by
    have:=HS.o h
    rwa [List.take_of_length_le (by rw[HN.o];exact Jn)] at this
   have HST:=Jh hST
   clear hST HS HA
   have hq2:q=(decide (k<=80) && decide (total es<=300)):=by
    rw[<-HQ.o]
    unfold fewE
    rw[decide_eq_true HALL.o,Bool.true_and,HN.o]
   have HQ2:=Jh hq2
   clear hq2
   by_cases h80:(k:Int)<=80
   ·have d80:decide ((k:Int)<=80)=true:=decide_eq_true h80
    have hs:s=(total es:Int):=HST.o (by omega)
    subst hs
    by_cases h300:(total es:Int)<=300
    ·have d3:decide ((total es:Int)<=300)=true:=decide_eq_true h300
     have HF:Hid (true=q):=by
      show _=_
      rw[HQ2.o,decide_eq_true (show k<=80 by omega),decide_eq_true (show total es<=300 by omega)];rfl
     clear h80 h300
     go_wp2_with fail
     go_ret
     exact⟨ret_b HF.o,HB.o⟩
    ·have d3:decide ((total es:Int)<=300)=false:=decide_eq_false h300
     have HF:Hid (false=q):=by
      show _=_
      rw[HQ2.o,decide_eq_false (show ¬total es<=300 by omega),Bool.and_false]
     clear h80 h300
     go_wp2_with fail
     go_ret
     exact⟨ret_b HF.o,HB.o⟩
   ·have d80:decide ((k:Int)<=80)=false:=decide_eq_false h80
    have HF:Hid (false=q):=by
     show _=_
     rw[HQ2.o,decide_eq_false (show ¬k<=80 by omega),Bool.false_and]
    clear h80
    go_wp2_with fail
    go_ret
    exact⟨ret_b HF.o,HB.o⟩
end
section
open Go.RowKit Go.ChangeShapes Go.WideShapes Go.Deep Go.Joins Spans Tb
section
variable {H:Type} {enc:TypeId × Value->H} {w:World} {base:Nat} {spare:Nat->Bool} {held:Bool}
theorem field_at {P:Program} {fs:Array Field} {cs:List Value} {xs:List (DataW H × List MemPlace)} {n i o m:Nat} {t:TypeId} {f:Field}
  (hfs:∀(i:Nat) (f:Field),fs[i]?=some f->DataW.trod enc P w base spare held n f.type ((cs.drop f.offset).take (P.cellsOf f.type))=xs[i]?) (hl:xs.length=fs.size)
  (hf:fs[i]?=some f) (ht:f.type=t/\f.offset=o/\P.cellsOf t=m):∃y,xs[i]?=some y/\DataW.trod enc P w base spare held n t ((cs.drop o).take m)=some y:=by
 obtain⟨rfl,rfl,rfl⟩:=ht
 have hi:i<xs.length:=by rw[hl];exact (Array.getElem?_eq_some_iff.1 hf).1
 exact⟨xs[i],List.getElem?_eq_getElem hi,(hfs i f hf).trans (List.getElem?_eq_getElem hi)⟩
theorem weights_all {P:Program} {e:TypeId} {R:Nat}:∀{l:List (DataW H)},(∀n∈DataW.weightsAll P e l,n<=R)->∀d∈l,∀n∈d.weights P e,n<=R
 | [],_,d,hd,_,_=>by cases hd
 | a::r,h,d,hd,n,hn=>by
  simp only[DataW.weightsAll,List.mem_append] at h
  rcases List.mem_cons.1 hd with rfl|hd
  ·exact h n (.inl hn)
  ·exact weights_all (fun m hm=>h m (.inr hm)) d hd n hn
theorem weights_slice {P:Program} {t e:TypeId} {R:Nat} {elems spare:List (DataW H)} (ht:P.underlying t=some (.slice e)) (hw:∀n∈(DataW.slice elems spare).weights P t,n<=R):
  (elems.length+spare.length)*P.bytesOf e<=R/\∀d∈elems,∀n∈d.weights P e,n<=R:=by
 simp only[DataW.weights,ht] at hw
 exact⟨hw _ (List.mem_cons_self ..),weights_all fun n hn=>hw n (List.mem_cons_of_mem _ (List.mem_append_left _ hn))⟩
theorem weights_struct {P:Program} {t:TypeId} {R:Nat} {parts:List (DataW H)} {fs:Array Field} (ht:P.underlying t=some (.struct fs)) (hw:∀n∈(DataW.agg parts).weights P t,n<=R)
  {i:Nat} {f:Field} {d:DataW H} (hf:fs[i]?=some f) (hd:parts[i]?=some d):∀n∈d.weights P f.type,n<=R:=fun n hn=>by
 simp only[DataW.weights,ht] at hw
 exact hw n (DataW.weights_mem_each (j:=i) (by rw[List.getElem?_map];simp[hf]) hd n hn)
theorem reach_num:reachBytes=140737488351232:=rfl
theorem bounds_of {i:Int} (h:(Lit.int .i64 i).wf=true):-9223372036854775808<=i/\i<=9223372036854775807:=bounds_i64 h
theorem open_flt {fuel:Nat} {v:Value} {x:DataW H × List MemPlace} (h:DataW.trod enc Tryz.prog w base spare held fuel 26 [v]=some x) (hw:∀n∈x.1.weights Tryz.prog 26,n<=reachBytes):
  ∃A n c f,v=.slice A n c/\f.length=n/\n<=c/\c<=maxLen/\n<=2600000000000/\RdQ w A f/\PBx f:=by
 have hv:∃A n c,v=.slice A n c/\n<=2600000000000:=by
  rcases open_slice Tryz.underlying26 h with ⟨hcs,_⟩|⟨a,l,c,m,n,D,Pl,hcs,_,hl,hm,hmm,hx1,hx⟩
  ·exact⟨none,0,0,by simpa using hcs,by omega⟩
  ·refine ⟨some a,l,c,by simpa using hcs,?_⟩
   subst hx1
   have:=(weights_slice Tryz.underlying26 hw).1
   rw[show Tryz.prog.bytesOf 54=56 from by kernel_rfl,reach_num] at this
   simp at this
   omega
 obtain⟨A,n,c,rfl,hn⟩:=hv
 have TR:∀{a b:Nat},a=b->a=b:=id
 obtain⟨es,h1,h2,h3,h4,h5⟩:=open_preds_of (enc:=enc) (P:=Tryz.prog) (w:=w) (base:=base) (spare:=spare) (held:=held) (d:=x.1) (p:=x.2) Tryz.underlying26 Tryz.underlying54 (by kernel_rfl) ⟨rfl,rfl,by kernel_rfl⟩ ⟨rfl,rfl,by kernel_rfl⟩ ⟨rfl,rfl,by kernel_rfl⟩ Tryz.underlying9 Tryz.underlying3 Tryz.underlying52 ⟨rfl,rfl,by kernel_rfl⟩ ⟨rfl,rfl,by kernel_rfl⟩ ⟨rfl,rfl,by kernel_rfl⟩ Tryz.underlying3 Tryz.underlying3 Tryz.underlying9 ⟨fuel,h⟩
 exact⟨A,n,c,es,rfl,h1,h2,h3,hn,h4,fun p hp=>by
  obtain⟨q1,q2,q3⟩:=h5 p hp
  rw[maxLen_num] at q1 q2
  exact⟨q1,q2,bounds_of q3⟩⟩
theorem open_links {fuel:Nat} {v:Value} {x:DataW H × List MemPlace} (h:DataW.trod enc Tryz.prog w base spare held fuel 22 [v]=some x) (hw:∀n∈x.1.weights Tryz.prog 22,n<=reachBytes):
  ∃A n c es,v=.slice A n c/\es.length=n/\n<=c/\c<=maxLen/\n<=5900000000000/\RdLk w A es/\LBx es:=by
 rcases open_slice Tryz.underlying22 h with ⟨hcs,_⟩|⟨a,len,cap,m,n,D,Pl,hcs,_,hl,hm,hmm,hx1,hx⟩
 ·exact⟨none,0,0,[],by simpa using hcs,rfl,by omega,by simp,by omega,.inl rfl,fun k hk=>by cases hk⟩
 ·subst hx1
  have hbd:len<=5900000000000:=by
   have:=(weights_slice Tryz.underlying22 hw).1
   rw[show Tryz.prog.bytesOf 46=24 from by kernel_rfl,reach_num] at this
   simp at this
   omega
  have hlm:len<=m:=by rw[hmm];split<;>omega
  have each:∀i,i<len->∃z:Lk,(w.cell? ((a.add (i*2)).add 0)=some (.int .i64 z.id)/\w.cell? ((a.add (i*2)).add 1)=some (.string ⟨z.ad.toArray⟩))/\(z.ad.length<=9223372036854775807 /\ -9223372036854775808<=z.id/\z.id<=9223372036854775807):=fun i hi=>by
   obtain⟨cs,k1,k2⟩:=hx i (by omega)
   rw[show Tryz.prog.cellsOf 46=2 from by kernel_rfl] at k1
   obtain⟨_,hlen,hat⟩:=World.cells?_some k1
   obtain⟨xs,n',_,_,_,hxl,hfs⟩:=DataW.trod_struct Tryz.underlying46 k2
   match cs,hlen with
   | [c0,c1],_=>
    obtain⟨y0,_,g0⟩:=field_at (i:=0) (t:=3) (o:=0) (m:=1) hfs hxl rfl ⟨rfl,rfl,by kernel_rfl⟩
    obtain⟨y1,_,g1⟩:=field_at (i:=1) (t:=9) (o:=1) (m:=1) hfs hxl rfl ⟨rfl,rfl,by kernel_rfl⟩
    obtain⟨z0,q0,_,w0⟩:=DataW.trod_int Tryz.underlying3 g0
    obtain⟨⟨⟨z1⟩⟩,q1,_,w1⟩:=DataW.trod_string Tryz.underlying9 g1
    have a0:=hat 0 (by omega)
    have a1:=hat 1 (by omega)
    simp at q0 q1
    subst q0;subst q1
    have w1':z1.length<=maxLen:=w1
    rw[maxLen_num] at w1'
    exact⟨⟨z0,z1⟩,⟨a0,a1⟩,w1',bounds_of w0⟩
  obtain⟨Z,hZ⟩:=choose_lt each
  refine ⟨some a,len,cap,(List.range len).map Z,by simpa using hcs,by simp,hl,hm,hbd,?_,?_⟩
  ·by_cases h0:len=0
   ·exact .inl (by simp[h0])
   ·obtain⟨b,off,rfl,hb⟩:=plain_atQ (a:=a) (by simpa[Addr.add] using (hZ 0 (by omega)).1.1)
    refine .inr ⟨b,off,rfl,hb,fun i hi j v hv=>?_⟩
    have hi':i<len:=by simpa using hi
    have:=(hZ i hi').1
    rw[add_lit,add_lit,add_lit] at this
    obtain⟨q0,q1⟩:=this
    have hz:((List.range len).map Z)[i]=Z i:=by simp
    rw[hz] at hv
    have hj:j<2:=by have:=(List.getElem?_eq_some_iff.1 hv).1;simpa[layL,cellsL] using this
    show w.cell? ⟨b,off+i*2+j,none⟩=some v
    match j,hj with
    | 0,_=>rw[<-hv];exact q0
    | 1,_=>rw[<-hv];exact q1
  ·intro z hz
   simp only[List.mem_map,List.mem_range] at hz
   obtain⟨i,hi,rfl⟩:=hz
   exact (hZ i hi).2
theorem open_ents {fuel:Nat} {v:Value} {x:DataW H × List MemPlace} (h:DataW.trod enc Tryz.prog w base spare held fuel 23 [v]=some x) (hw:∀n∈x.1.weights Tryz.prog 23,n<=reachBytes):
  ∃A n c es,v=.slice A n c/\es.length=n/\n<=c/\c<=maxLen/\n<=3600000000000/\RdEn w A es/\EBx es:=by
 rcases open_slice Tryz.underlying23 h with ⟨hcs,_⟩|⟨a,len,cap,m,n,D,Pl,hcs,_,hl,hm,hmm,hx1,hx⟩
 ·exact⟨none,0,0,[],by simpa using hcs,rfl,by omega,by simp,by omega,RdEn.nil _ _,fun k hk=>by cases hk⟩
 ·subst hx1
  obtain⟨hbd,hwe⟩:=weights_slice Tryz.underlying23 hw
  rw[show Tryz.prog.bytesOf 44=40 from by kernel_rfl,reach_num] at hbd
  simp at hbd
  have hlm:len<=m:=by rw[hmm];split<;>omega
  have each:∀i,i<len->∃z:Ex,(w.cell? ((a.add (i*3)).add 0)=some (.int .i64 z.id)/\w.cell? ((a.add (i*3)).add 1)=some (.int .i64 z.fr)/\w.cell? ((a.add (i*3)).add 2)=some (.slice z.A z.n z.c))/\Flt w z/\(z.n<=2600000000000 /\ -9223372036854775808<=z.id/\z.id<=9223372036854775807/\PBx z.f):=fun i hi=>by
   obtain⟨cs,k1,k2⟩:=hx i (by omega)
   rw[show Tryz.prog.cellsOf 44=3 from by kernel_rfl] at k1
   obtain⟨_,hlen,hat⟩:=World.cells?_some k1
   obtain⟨xs,n',_,hxx,_,hxl,hfs⟩:=DataW.trod_struct Tryz.underlying44 k2
   match cs,hlen with
   | [c0,c1,c2],_=>
    obtain⟨y0,_,g0⟩:=field_at (i:=0) (t:=3) (o:=0) (m:=1) hfs hxl rfl ⟨rfl,rfl,by kernel_rfl⟩
    obtain⟨y1,_,g1⟩:=field_at (i:=1) (t:=3) (o:=1) (m:=1) hfs hxl rfl ⟨rfl,rfl,by kernel_rfl⟩
    obtain⟨y2,e2,g2⟩:=field_at (i:=2) (t:=26) (o:=2) (m:=1) hfs hxl rfl ⟨rfl,rfl,by kernel_rfl⟩
    obtain⟨z0,q0,_,w0⟩:=DataW.trod_int Tryz.underlying3 g0
    obtain⟨z1,q1,_,w1⟩:=DataW.trod_int Tryz.underlying3 g1
    have hD:D i=.agg (xs.map (·.1)):=congrArg Prod.fst hxx
    have hwi:=hwe (D i) (List.mem_map.2 ⟨i,List.mem_range.2 hi,rfl⟩)
    rw[hD] at hwi
    obtain⟨A,n0,c0',f,q2,f1,f2,f3,f4,f5,f6⟩:=open_flt g2 (weights_struct Tryz.underlying44 hwi (i:=2) rfl (by rw[List.getElem?_map,e2];rfl))
    have a0:=hat 0 (by omega)
    have a1:=hat 1 (by omega)
    have a2:=hat 2 (by omega)
    simp at q0 q1
    subst q0;subst q1;subst q2
    have hb:=bounds_of w0
    exact⟨⟨z0,z1,A,n0,c0',f⟩,⟨a0,a1,a2⟩,⟨f1,f2,f5⟩,f4,hb.1,hb.2,f6⟩
  obtain⟨Z,hZ⟩:=choose_lt each
  refine ⟨some a,len,cap,(List.range len).map Z,by simpa using hcs,by simp,hl,hm,by omega,⟨?_,?_⟩,?_⟩
  ·by_cases h0:len=0
   ·exact .inl (by simp[h0])
   ·obtain⟨b,off,rfl,hb⟩:=plain_atQ (a:=a) (by simpa[Addr.add] using (hZ 0 (by omega)).1.1)
    refine .inr ⟨b,off,rfl,hb,fun i hi j v hv=>?_⟩
    have hi':i<len:=by simpa using hi
    have:=(hZ i hi').1
    rw[add_lit,add_lit,add_lit,add_lit] at this
    obtain⟨q0,q1,q2⟩:=this
    have hz:((List.range len).map Z)[i]=Z i:=by simp
    rw[hz] at hv
    have hj:j<3:=by have:=(List.getElem?_eq_some_iff.1 hv).1;simpa[layE,cellsE] using this
    show w.cell? ⟨b,off+i*3+j,none⟩=some v
    match j,hj with
    | 0,_=>rw[<-hv];exact q0
    | 1,_=>rw[<-hv];exact q1
    | 2,_=>rw[<-hv];exact q2
  ·intro z hz
   simp only[List.mem_map,List.mem_range] at hz
   obtain⟨i,hi,rfl⟩:=hz
   exact (hZ i hi).2.1
  ·intro z hz
   simp only[List.mem_map,List.mem_range] at hz
   obtain⟨i,hi,rfl⟩:=hz
   exact (hZ i hi).2.2
theorem open_state {r:Reach} {b0:Nat} {v:Value} {d:DataW H} {p:List MemPlace} (hok:Value.okWide Tryz.prog w r b0 25 v) (h:DataW.Trod enc Tryz.prog w base spare held 25 v d p) (hw:∀n∈d.weights Tryz.prog 25,n<=reachBytes):
  ∃s:Sx,v=s.v/\s.Len/\s.Rd w/\(-9223372036854775808<=s.ep/\s.ep<=9223372036854775807)/\(s.c<=maxLen/\s.c1<=maxLen/\s.c2<=maxLen)/\(s.n<=5900000000000/\s.n1<=3600000000000/\s.n2<=3600000000000)/\LBx s.ls/\EBx s.av/\EBx s.su:=by
 obtain⟨cs,rfl,hsz⟩:=okWide_struct Tryz.underlying25 hok
 rw[show Tryz.prog.cellsOf 25=4 from by kernel_rfl] at hsz
 obtain⟨cs⟩:=cs
 obtain⟨fuel,k2⟩:=h
 obtain⟨xs,n',_,hxx,_,hxl,hfs⟩:=DataW.trod_struct Tryz.underlying25 k2
 have hD:d=.agg (xs.map (·.1)):=congrArg Prod.fst hxx
 subst hD
 match cs,hsz with
 | [c0,c1,c2,c3],_=>
  obtain⟨y0,_,g0⟩:=field_at (i:=0) (t:=3) (o:=0) (m:=1) hfs hxl rfl ⟨rfl,rfl,by kernel_rfl⟩
  obtain⟨y1,e1,g1⟩:=field_at (i:=1) (t:=22) (o:=1) (m:=1) hfs hxl rfl ⟨rfl,rfl,by kernel_rfl⟩
  obtain⟨y2,e2,g2⟩:=field_at (i:=2) (t:=23) (o:=2) (m:=1) hfs hxl rfl ⟨rfl,rfl,by kernel_rfl⟩
  obtain⟨y3,e3,g3⟩:=field_at (i:=3) (t:=23) (o:=3) (m:=1) hfs hxl rfl ⟨rfl,rfl,by kernel_rfl⟩
  obtain⟨z0,q0,_,w0⟩:=DataW.trod_int Tryz.underlying3 g0
  obtain⟨A,n,c,ls,q1,f1,f2,f3,f4,f5,f6⟩:=open_links g1 (weights_struct Tryz.underlying25 hw (i:=1) rfl (by rw[List.getElem?_map,e1];rfl))
  obtain⟨A1,n1,c1',av,q2,h1,h2,h3,h4,h5,h6⟩:=open_ents g2 (weights_struct Tryz.underlying25 hw (i:=2) rfl (by rw[List.getElem?_map,e2];rfl))
  obtain⟨A2,n2,c2',su,q3,j1,j2,j3,j4,j5,j6⟩:=open_ents g3 (weights_struct Tryz.underlying25 hw (i:=3) rfl (by rw[List.getElem?_map,e3];rfl))
  simp[Value.cells] at q0
  subst q0;subst q1;subst q2;subst q3
  exact⟨⟨z0,A,n,c,ls,A1,n1,c1',av,A2,n2,c2',su⟩,rfl,⟨f1,f2,h1,h2,j1,j2⟩,⟨f5,h5,j5⟩,bounds_of w0,⟨f3,h3,j3⟩,⟨f4,h4,j4⟩,f6,h6,j6⟩
end
end
end Go.Proofs.YtnfigjggjmncdaaGreat
