/- Contracts. -/
import Derived.Test.YtnfigjggjmncdaaGreatA4
import Derived.Test.YtnfigjggjmncdaaGreatD2
import Derived.Test.YtnfigjggjmncdaaGreatT1
import Derived.Test.YtnfigjggjmncdaaGreatE1
import Derived.Test.YtnfigjggjmncdaaGreatE8
import Derived.Test.YtnfigjggjmncdaaGreatF1
import Derived.Test.YtnfigjggjmncdaaGreatF2
set_option maxRecDepth 100000
set_option maxHeartbeats 4000000
namespace Go.Proofs.YtnfigjggjmncdaaGreat
section
open Go.RowKit Go.Sort Spans Op
theorem text_insert {out:List (LU)} {x:LU} {k:Nat} (h:out.Pairwise (fun a b=>bytesLess a b=true)) (hk:k<=out.length) (h1:∀j (hj:j<out.length),j<k->bytesLess out[j] x=true) (h2:∀(hj:k<out.length),bytesLess x out[k]=true):(out.take k++x::out.drop k).Pairwise (fun a b=>bytesLess a b=true):=by
 have hp:=List.pairwise_iff_getElem.1 h
 rw[List.pairwise_append]
 refine ⟨h.sublist (List.take_sublist _ _),?_,?_⟩
 ·rw[List.pairwise_cons]
  refine ⟨fun a ha=>?_,h.sublist (List.drop_sublist _ _)⟩
  obtain⟨m,hm,rfl⟩:=List.getElem_of_mem ha
  rw[List.length_drop] at hm
  rw[List.getElem_drop]
  have h0:=h2 (by omega)
  rcases Nat.eq_zero_or_pos m with e|e
  ·subst e;exact h0
  ·exact Vals.less_trans _ _ _ h0 (hp k (k+m) (by omega) (by omega) (by omega))
 ·intro a ha b hb
  obtain⟨m,hm,rfl⟩:=List.getElem_of_mem ha
  rw[List.length_take] at hm
  rw[List.getElem_take]
  have h0:=h1 m (by omega) (by omega)
  rcases List.mem_cons.1 hb with rfl|hb
  ·exact h0
  ·obtain⟨q,hq,rfl⟩:=List.getElem_of_mem hb
   rw[List.length_drop] at hq
   rw[List.getElem_drop]
   exact hp m (k+q) (by omega) (by omega) (by omega)
theorem names_put {f:List Pr} {p:Pr} {out:List (LU)} {k:Nat} (h:Fil.IsNames f out) (hk:k<=out.length) (h1:∀j (hj:j<out.length),j<k->bytesLess out[j] p.n=true) (h2:∀(hj:k<out.length),bytesLess p.n out[k]=true):Fil.IsNames (f++[p]) (out.take k++p.n::out.drop k):=by
 refine ⟨text_insert h.1 hk h1 h2,fun n=>?_⟩
 rw[Fil.asked_app,<-h.2 n,List.mem_append,List.mem_cons]
 have h3:n∈out↔n∈out.take k∨n∈out.drop k:=by rw[<-List.mem_append,List.take_append_drop]
 have h4:Fil.Asked [p] n↔n=p.n:=by
  unfold Fil.Asked
  constructor
  ·rintro ⟨q,hq,rfl⟩;simp at hq;rw[hq]
  ·rintro rfl;exact⟨p,by simp,rfl⟩
 rw[h3,h4]
 constructor
 ·rintro (h | h | h)
  ·exact .inl (.inl h)
  ·exact .inr h
  ·exact .inl (.inr h)
 ·rintro ((h | h) | h)
  ·exact .inl h
  ·exact .inr (.inr h)
  ·exact .inr (.inl h)
theorem names_same {f:List Pr} {p:Pr} {out:List (LU)} (h:Fil.IsNames f out) (hp:p.n∈out):Fil.IsNames (f++[p]) out:=by
 refine ⟨h.1,fun n=>?_⟩
 rw[Fil.asked_app,<-h.2 n]
 constructor
 ·exact .inl
 ·rintro (h1 | ⟨q,hq,rfl⟩)
  ·exact h1
  ·simp at hq;rw[hq];exact hp
theorem rnames_at (A:OA) (f:List Pr) (n c:Nat) (hn:f.length=n) (hm:n<=1000) (hl:∀p∈f,p.n.length<=1000) (w:World) (hr:RdQ w A f):
  Calls Tryz.prog 56 #[.slice A n c] w fun e w'=>∃L B m d,e=.returned (.slice B m d)/\Fil.IsNames f L/\L.length=m/\m<=n/\m<=d/\OwnTx w' w.heap.size (.slice B m d) L/\Below w.heap.size w w':=by
 have HN:=Jh hn
 have HLL:=Jh hl
 have HR:=Jh hr
 clear hn hl hr
 go_enter Tryz.func56,Tryz.ntmps56
 go_wp2_with fail
 go_loopg [3,4] n (fun gg s3 s4 wr=>∃(i:Nat) (out:List (LU)) (B:OA) (m d:Nat),i<=n/\n-i<=gg/\s4=.int .i64 (i:Int)/\s3=.slice B m d/\m<=i/\m<=d/\Hid (Fil.IsNames (f.take i) out)/\Hid (out.length=m)/\Hid (OwnTx wr w.heap.size (.slice B m d) out)/\Hid (Below w.heap.size w wr))
 case atStart=>exact⟨0,[],none,0,0,Nat.zero_le _,by omega,rfl,rfl,Jn,Jn,by show Fil.IsNames _ _;exact Fil.IsNames.nil,rfl,OwnZ.none_ _ _,Below.refl _ _⟩
 case round=>
  obtain⟨i,out,B,m,d,hi,hgg,rfl,rfl,hmi,hmd,HRS,HM,HO,HB⟩:=hrel
  by_cases hlt:i<n
  ·have hi':i<f.length:=by rw[HN.o];exact hlt
   obtain⟨g,off,rfl,hg,c0,_,_,_,_⟩:=RdQ.at5 HR.o hi'
   have hxl:=HLL.o _ (List.getElem_mem hi')
   obtain⟨x,hx⟩:∃x,f[i]=x:=⟨_,rfl⟩
   have HX:=Jh hx
   rw[hx] at c0 hxl
   obtain⟨xn,xo,xk,xi,xt⟩:=x
   dsimp only at c0 hxl
   have hi1:(i:Int)<(n:Int):=by omega
   have HC:=Jh c0
   have HG0:Hid (g<w.heap.size):=hg
   clear hx c0 hg
   have HTL:Hid (∀v∈out,v.length<=1000):=fun v hv=>by
    obtain⟨p,hp,rfl⟩:=(HRS.o.2 v).1 hv
    exact HLL.o p (List.mem_of_mem_take hp)
   obtain⟨wo,rfl⟩:∃wo:World,wo=wr:=⟨_,rfl⟩
   go_wp2_with fail
   go_loopg [5] m (fun g2 kv wy=>∃k:Nat,k+g2=m/\kv=.int .i64 (k:Int)/\Hid (Below wo.heap.size wo wy)/\Hid (∀j (hj:j<out.length),j<k->Go.Op.bytesLess out[j] xn=true))
   case atStart=>exact⟨0,by omega,rfl,Below.refl _ _,fun j hj h=>absurd h (by omega)⟩
   case round=>
    obtain⟨k,hkg,rfl,HG,HL⟩:=hrel
    have O:=Jh (OwnZ.below HO.o HG.o)
    have BB:=Jh (below_next HB.o (Jn) HG.o)
    have z0:=gx_cell ((BB.o.cell (p:=⟨g,off+i*5,none⟩) HG0.o).trans HC.o)
    cases gk with
    | zero=>
     obtain rfl:k=m:=by omega
     go_wp2_with fail
     refine qbr (fun nq osq=>?_)
     have hb:=below_gx wr nq osq
     generalize gx wr nq osq=w1 at *
     replace O:=Jh (OwnZ.below O.o hb)
     replace BB:=Jh (below_next BB.o (Jn) hb)
     clear hb z0
     have z0:=gx_cell ((BB.o.cell (p:=⟨g,off+i*5,none⟩) HG0.o).trans HC.o)
     have hkk:((k:Int) == (k:Int))=true:=by simp
     go_wp2_with fail
     refine qbr (fun nq osq=>?_)
     have hb:=below_gx w1 nq osq
     generalize gx w1 nq osq=w2 at *
     replace O:=Jh (OwnZ.below O.o hb)
     replace BB:=Jh (below_next BB.o (Jn) hb)
     clear hb z0 hkk
     have HR9:Hid (Fil.IsNames (f.take (i+1)) (out.take k++xn::out.drop k)):=by
      show Fil.IsNames _ _
      rw[List.take_succ_eq_append_getElem hi',HX.o]
      exact names_put HRS.o (by rw[HM.o];exact Jn) HL.o (fun hj=>absurd hj (by rw[HM.o];omega))
     have hro:=rdz_own O.o
     have hdw:=O.o
     obtain⟨Bc,hcut,hRc⟩:=run_cutTx (k:=k) hro HM.o (by omega) hmd
     rw[Nat.sub_self] at hcut
     have hhead:=run_headTx (B) k d k (by omega) hmd
     have hRh:RdTx w2 (B) (out.take k):=RdZ.take hro k
     have hb0:Below w2.heap.size w2 (w2.alloc (.cells #[] 9)):=(gr1 w2 _).below
     have hO0:OwnTx (w2.alloc (.cells #[] 9)) w2.heap.size (.slice (some ⟨w2.heap.size,0,none⟩) 0 0) []:=OwnZ.empty w2 w2.heap.size (Jn)
     have hR0:=RdZ.below hRh hb0
     have hs0:w2.heap.size<=(w2.alloc (.cells #[] 9)).heap.size:=hb0.size
     have hlk:(out.take k).length=k:=by rw[List.length_take,HM.o];omega
     have hld:(out.drop k).length=0:=by have h1:=HM.o;rw[List.length_drop];omega
     have hl9:(out.take k++xn::out.drop k).length=k+1:=by have h1:=hlk;have h2:=hld;rw[List.length_append,List.length_cons];omega
     have HL9:=Jh hl9
     have q0:=(BB.o.cell (p:=⟨g,off+i*5,none⟩) HG0.o).trans HC.o
     have hg3:g<w2.heap.size:=Nat.lt_of_lt_of_le HG0.o BB.o.size
     go_wp2_with (first
      | (at_builtin;refine wpList_append_z layT (by rfl) (.tmp 48) (.tmp 51) 92 underT rfl w2.heap.size _ [] (by rfl) hO0 (B) (out.take k) k d (by rfl) hR0 hlk (by rw[maxLen_num];simp only[List.length_nil];omega) (by simp only[layT,List.length_nil];omega) hs0 ?_;intro v1 x1 o1 b1 g1 l1;rw[List.nil_append] at o1;have hB1:=b1 w2 hb0;have d0:=(hB1.cell (p:=⟨g,off+i*5,none⟩) hg3).trans q0;have hrx:=rdz_one layT x1 xn 9 #[.string ⟨xn.toArray⟩] rfl;have hbx:Below x1.heap.size x1 (x1.alloc (.cells #[.string ⟨xn.toArray⟩] 9)):=(gr1 x1 _).below;have oo1:=OwnZ.below o1 hbx;have hBx:=below_next hB1 (Jn) hbx;have hs1:w2.heap.size<=(x1.alloc (.cells #[.string ⟨xn.toArray⟩] 9)).heap.size:=hBx.size;have hgx:g<x1.heap.size:=Nat.lt_of_lt_of_le hg3 hB1.size;clear b1 g1 l1 hb0 hO0 hR0 hs0 hbx o1 hhead hRh)
      | (at_builtin;refine wpList_append_z layT (by rfl) (.tmp 53) (.tmp 59) 92 underT rfl w2.heap.size _ (out.take k) (by rfl) oo1 _ [xn] 1 1 (by rfl) hrx rfl (by rw[maxLen_num,hlk];omega) (by simp only[layT];rw[hlk];omega) hs1 ?_;intro v2 x2 o2 b2 g2 l2;have hB2:=b2 w2 hBx;have hR2:=RdZ.below hRc hB2;have hs2:w2.heap.size<=x2.heap.size:=hB2.size;clear b2 g2 l2 oo1 hrx hs1 d0 hgx)
      | (at_builtin;refine wpList_append_z layT (by rfl) (.tmp 61) (.tmp 64) 92 underT rfl w2.heap.size _ (out.take k++[xn]) (by rfl) o2 Bc (out.drop k) (0) (d-k) (by rfl) hR2 hld (by rw[maxLen_num,List.length_append,hlk];simp only[List.length_cons,List.length_nil];omega) (by simp only[layT];rw[List.length_append,hlk];simp only[List.length_cons,List.length_nil];omega) hs2 ?_;intro v3 x3 o3 b3 g3 l3;have hB9:=b3 w2 hB2;rw[List.append_assoc,List.singleton_append] at o3;obtain⟨A9,c9,hv9,hc9,hr9⟩:=OwnZ.form o3 HL9.o;subst hv9;clear b3 g3 l3 o2 hR2 hs2))
     have HB9:=Jh (below_next BB.o (Jn) hB9)
     have HO9:Hid (OwnTx x3 w.heap.size (.slice A9 (k+1) c9) (out.take k++xn::out.drop k)):=OwnZ.less o3 BB.o.size
     clear hB9 o3 hr9 hro hdw hcut hRc hlk hld hl9 q0 hg3 hB1 hB2 hBx
     go_wp2_with fail
     go_roundg (n-(i+1))
     case measure=>omega
     case rel=>exact⟨i+1,_,A9,k+1,c9,by omega,Jn,by go_num,rfl,by omega,hc9,HR9,HL9,HO9,HB9⟩
    | succ gk=>
     have hkm:k<m:=by omega
     have hkm':k<out.length:=by rw[HM.o];exact hkm
     obtain⟨gb,ob,hBa,hgb,b0⟩:=RdTx.at1 (rdz_own O.o) hkm'
     obtain⟨p,hp⟩:∃p,out[k]=p:=⟨_,rfl⟩
     have hpl:=HTL.o _ (List.getElem_mem hkm')
     have HP:=Jh hp
     rw[hp] at b0 hpl
     clear hp
     subst hBa
     have f0:=gx_cell b0
     have hk1:(k:Int)<(m:Int):=by omega
     obtain⟨z,hz⟩:∃z,Vals.cmpT p xn=z:=⟨_,rfl⟩
     have HZ:=Jh hz
     clear hz
     have C1:Hid (∀n os,Calls Tryz.prog 87 #[.string ⟨p.toArray⟩,.string ⟨xn.toArray⟩] (gx wr n os) fun e w'=>e=.returned (.int .i64 z)/\Grown (gx wr n os) w'):=fun n os=>by rw[<-HZ.o];exact textG_at p xn (by omega) (by omega) _
     by_cases hneg:z<0
     ·have hd:decide (z<0)=true:=decide_eq_true hneg
      have HL2:Hid (∀j (hj:j<out.length),j<k+1->Go.Op.bytesLess out[j] xn=true):=fun j hj h=>by
       rcases Nat.lt_or_ge j k with e|e
       ·exact HL.o j hj e
       ·obtain rfl:j=k:=by omega
        rw[HP.o]
        exact (cmpT_neg_iff p xn).1 (by rw[HZ.o];exact hneg)
      clear b0 hneg
      go_wp2_with fail
      refine qbr (fun nq osq=>?_) (hq:=by (repeat (refine hq_step (fun K hK=>?_);go_simp;first | (refine hK _ ?_;clear hK K) | (apply Exists.intro;refine ⟨fun _=>?_,hK _ ?_⟩;(go_at_call 87;with_reducible exact calls_gr (C1.o _ _));clear hK K)));exact hq_nil rfl)
      have hb:=below_gx wr nq osq
      generalize gx wr nq osq=w2 at *
      have HG2:=Jh (below_next HG.o (Jn) hb)
      clear f0 z0 C1 hd HG O BB hb
      go_wp2_with fail
      go_roundg gk
      case measure=>omega
      case rel=>exact⟨k+1,by omega,by go_num,HG2,HL2⟩
     ·have hd:decide (z<0)=false:=decide_eq_false hneg
      have HZ0:=Jh hneg
      clear hneg
      go_wp2_with fail
      refine qbr (fun nq osq=>?_) (hq:=by (repeat (refine hq_step (fun K hK=>?_);go_simp;first | (refine hK _ ?_;clear hK K) | (apply Exists.intro;refine ⟨fun _=>?_,hK _ ?_⟩;(go_at_call 87;with_reducible exact calls_gr (C1.o _ _));clear hK K)));exact hq_nil rfl)
      have hb:=below_gx wr nq osq
      generalize gx wr nq osq=w1 at *
      have b1:=(hb.cell (p:=⟨gb,ob+k,none⟩) hgb).trans b0
      have hgb1:=Nat.lt_of_lt_of_le hgb hb.size
      replace O:=Jh (OwnZ.below O.o hb)
      replace BB:=Jh (below_next BB.o (Jn) hb)
      clear hb z0 f0 C1 hd b0
      have z0:=gx_cell ((BB.o.cell (p:=⟨g,off+i*5,none⟩) HG0.o).trans HC.o)
      have f0:=gx_cell b1
      have hkk:((k:Int) == (m:Int))=false:=by simp;omega
      by_cases heq:p=xn
      ·subst heq
       go_wp2_with fail
       refine qbr (fun nq osq=>?_)
       have hb:=below_gx w1 nq osq
       generalize gx w1 nq osq=w2 at *
       replace O:=Jh (OwnZ.below O.o hb)
       replace BB:=Jh (below_next BB.o (Jn) hb)
       clear hb z0 f0 b1 hkk
       have HR9:Hid (Fil.IsNames (f.take (i+1)) out):=by
        show Fil.IsNames _ _
        rw[List.take_succ_eq_append_getElem hi',HX.o]
        exact names_same HRS.o (by show p∈out;rw[<-HP.o];exact List.getElem_mem hkm')
       go_wp2_with fail
       go_roundg (n-(i+1))
       case measure=>omega
       case rel=>exact⟨i+1,out,_,m,d,by omega,Jn,by go_num,rfl,by omega,hmd,HR9,HM,O,BB⟩
      ·have hne:(p == xn)=false:=by simpa using heq
       have HNE:=Jh heq
       clear heq
       go_wp2_with fail
       refine qbr (fun nq osq=>?_)
       have hb:=below_gx w1 nq osq
       generalize gx w1 nq osq=w2 at *
       replace O:=Jh (OwnZ.below O.o hb)
       replace BB:=Jh (below_next BB.o (Jn) hb)
       clear hb z0 f0 b1 hkk hne
       have HR9:Hid (Fil.IsNames (f.take (i+1)) (out.take k++xn::out.drop k)):=by
        show Fil.IsNames _ _
        rw[List.take_succ_eq_append_getElem hi',HX.o]
        refine names_put HRS.o (by rw[HM.o];omega) HL.o (fun hj=>?_)
        show Go.Op.bytesLess xn out[k]=true
        rw[HP.o]
        rcases less_or p xn with h|h|h
        ·exact absurd ((cmpT_neg_iff p xn).2 h) (by have h1:=HZ0.o;rw[HZ.o];omega)
        ·exact absurd h HNE.o
        ·exact h
       have hro:=rdz_own O.o
       have hdw:=O.o
       obtain⟨Bc,hcut,hRc⟩:=run_cutTx (k:=k) hro HM.o (by omega) hmd
       have hhead:=run_headTx (some ⟨gb,ob,none⟩) m d k (by omega) hmd
       have hRh:RdTx w2 (some ⟨gb,ob,none⟩) (out.take k):=RdZ.take hro k
       have hb0:Below w2.heap.size w2 (w2.alloc (.cells #[] 9)):=(gr1 w2 _).below
       have hO0:OwnTx (w2.alloc (.cells #[] 9)) w2.heap.size (.slice (some ⟨w2.heap.size,0,none⟩) 0 0) []:=OwnZ.empty w2 w2.heap.size (Jn)
       have hR0:=RdZ.below hRh hb0
       have hs0:w2.heap.size<=(w2.alloc (.cells #[] 9)).heap.size:=hb0.size
       have hlk:(out.take k).length=k:=by rw[List.length_take,HM.o];omega
       have hld:(out.drop k).length=m-k:=by have h1:=HM.o;rw[List.length_drop];omega
       have hl9:(out.take k++xn::out.drop k).length=m+1:=by have h1:=hlk;have h2:=hld;rw[List.length_append,List.length_cons];omega
       have HL9:=Jh hl9
       have q0:=(BB.o.cell (p:=⟨g,off+i*5,none⟩) HG0.o).trans HC.o
       have hg3:g<w2.heap.size:=Nat.lt_of_lt_of_le HG0.o BB.o.size
       go_wp2_with (first
        | (at_builtin;refine wpList_append_z layT (by rfl) (.tmp 48) (.tmp 51) 92 underT rfl w2.heap.size _ [] (by rfl) hO0 (some ⟨gb,ob,none⟩) (out.take k) k d (by rfl) hR0 hlk (by rw[maxLen_num];simp only[List.length_nil];omega) (by simp only[layT,List.length_nil];omega) hs0 ?_;intro v1 x1 o1 b1 g1 l1;rw[List.nil_append] at o1;have hB1:=b1 w2 hb0;have d0:=(hB1.cell (p:=⟨g,off+i*5,none⟩) hg3).trans q0;have hrx:=rdz_one layT x1 xn 9 #[.string ⟨xn.toArray⟩] rfl;have hbx:Below x1.heap.size x1 (x1.alloc (.cells #[.string ⟨xn.toArray⟩] 9)):=(gr1 x1 _).below;have oo1:=OwnZ.below o1 hbx;have hBx:=below_next hB1 (Jn) hbx;have hs1:w2.heap.size<=(x1.alloc (.cells #[.string ⟨xn.toArray⟩] 9)).heap.size:=hBx.size;have hgx:g<x1.heap.size:=Nat.lt_of_lt_of_le hg3 hB1.size;clear b1 g1 l1 hb0 hO0 hR0 hs0 hbx o1 hhead hRh)
        | (at_builtin;refine wpList_append_z layT (by rfl) (.tmp 53) (.tmp 59) 92 underT rfl w2.heap.size _ (out.take k) (by rfl) oo1 _ [xn] 1 1 (by rfl) hrx rfl (by rw[maxLen_num,hlk];omega) (by simp only[layT];rw[hlk];omega) hs1 ?_;intro v2 x2 o2 b2 g2 l2;have hB2:=b2 w2 hBx;have hR2:=RdZ.below hRc hB2;have hs2:w2.heap.size<=x2.heap.size:=hB2.size;clear b2 g2 l2 oo1 hrx hs1 d0 hgx)
        | (at_builtin;refine wpList_append_z layT (by rfl) (.tmp 61) (.tmp 64) 92 underT rfl w2.heap.size _ (out.take k++[xn]) (by rfl) o2 Bc (out.drop k) (m-k) (d-k) (by rfl) hR2 hld (by rw[maxLen_num,List.length_append,hlk];simp only[List.length_cons,List.length_nil];omega) (by simp only[layT];rw[List.length_append,hlk];simp only[List.length_cons,List.length_nil];omega) hs2 ?_;intro v3 x3 o3 b3 g3 l3;have hB9:=b3 w2 hB2;rw[List.append_assoc,List.singleton_append] at o3;obtain⟨A9,c9,hv9,hc9,hr9⟩:=OwnZ.form o3 HL9.o;subst hv9;clear b3 g3 l3 o2 hR2 hs2))
       have HB9:=Jh (below_next BB.o (Jn) hB9)
       have HO9:Hid (OwnTx x3 w.heap.size (.slice A9 (m+1) c9) (out.take k++xn::out.drop k)):=OwnZ.less o3 BB.o.size
       clear hB9 o3 hr9 hro hdw hcut hRc hlk hld hl9 q0 hg3 hB1 hB2 hBx
       go_wp2_with fail
       go_roundg (n-(i+1))
       case measure=>omega
       case rel=>exact⟨i+1,_,A9,m+1,c9,by omega,Jn,by go_num,rfl,by omega,hc9,HR9,HL9,HO9,HB9⟩
  ·have hin:i=n:=by omega
   subst hin
   have hRS:=HRS.o
   rw[List.take_of_length_le (by rw[HN.o];exact Jn)] at hRS
   go_wp2_with fail
   go_ret
   exact⟨out,B,m,d,rfl,hRS,HM.o,hmi,hmd,HO.o,HB.o⟩
def mayE (f:List Pr):Int:=if 24<f.length then 4 else if Fil.AllRight f then 0 else 1
theorem pbd_bd {f:List Pr} (h:PBd f):Bd f:=fun p hp=>(h p hp).2.2
theorem names_mem {f:List Pr} {L:List (LU)} (h:Fil.IsNames f L) {k:Nat} (hk:k<L.length):Fil.Asked f L[k]:=(h.2 _).1 (List.getElem_mem hk)
theorem void_iff {f:List Pr} {S:LU->Sp} {L:List (LU)} (hL:Fil.IsNames f L):Fil.Void f S↔∃n∈L,(S n).kind=0:=by
 constructor
 ·rintro ⟨p,hp,h⟩;exact⟨p.n,(hL.2 _).2 ⟨p,hp,rfl⟩,h⟩
 ·rintro ⟨n,hn,h⟩
  obtain⟨p,hp,rfl⟩:=(hL.2 _).1 hn
  exact⟨p,hp,h⟩
theorem rmay_at (A:OA) (f:List Pr) (n c:Nat) (hn:f.length=n) (hm:n<=1000) (hl:PBd f) (w:World) (hr:RdQ w A f) (er:Int) (he:mayE f=er):
  Calls Tryz.prog 54 #[.slice A n c] w fun e w'=>e=.returned (.int .i64 er)/\Below w.heap.size w w':=by
 have HN:=Jh hn
 have HLL:=Jh hl
 have HR:=Jh hr
 have HE:=Jh he
 clear hn hl hr he
 by_cases h24:24<n
 ·have d1:decide ((24:Int)<(n:Int))=true:=decide_eq_true (by omega)
  have HX:Hid (er=4):=by show _=_;rw[<-HE.o];unfold mayE;rw[if_pos (by rw[HN.o];exact h24)]
  clear h24
  go_enter Tryz.func54,Tryz.ntmps54
  go_wp2_with fail
  go_ret
  exact⟨by rw[HX.o];rfl,Below.refl _ _⟩
 ·have d1:decide ((24:Int)<(n:Int))=false:=decide_eq_false (by omega)
  have HX:Hid (er=if Fil.AllRight f then 0 else 1):=by show _=_;rw[<-HE.o];unfold mayE;rw[if_neg (by rw[HN.o];exact h24)]
  clear h24
  go_enter Tryz.func54,Tryz.ntmps54
  go_wp2_with fail
  go_loopg [3] n (fun gg s3 wr=>∃k:Nat,k<=n/\n-k<=gg/\s3=.int .i64 (k:Int)/\Hid (Below w.heap.size w wr)/\Hid (∀p∈f.take k,rightP p=true))
  case atStart=>exact⟨0,Nat.zero_le _,by omega,rfl,Below.refl _ _,fun p hp=>by simp at hp⟩
  case round=>
   obtain⟨k,hk,hgg,rfl,HB,HA⟩:=hrel
   by_cases hlt:k<n
   ·have hk':k<f.length:=by rw[HN.o];exact hlt
    have hpl:=HLL.o _ (List.getElem_mem hk')
    have hpr:=HLL.o.right (List.getElem_mem hk')
    obtain⟨g,off,rfl,hg,c0,c1,c2,c3,c4⟩:=RdQ.at5 (RdK.below HR.o HB.o) hk'
    obtain⟨x,hx⟩:∃x,f[k]=x:=⟨_,rfl⟩
    have HX2:=Jh hx
    rw[hx] at c0 c1 c2 c3 c4 hpl hpr
    clear hx
    obtain⟨xn,xo,xk,xi,xt⟩:=x
    obtain⟨hp1,hp2,hp3,hp4⟩:=hpl
    dsimp only at hp1 hp2 hp3 hp4 hpr c0 c1 c2 c3 c4
    have HPR:=Jh hpr
    clear hpr
    have w5:(k:Int)<(n:Int):=by omega
    cases hq:Preds.right xn xo xk xi xt with
    | true=>
     have HQ:=Jh hq
     clear hq
     go_wp2_with fail
     refine (rpright_is xn xo xk xi xt _ (by omega) (by omega) true HQ.o).mono ?_
     rintro e w2 ⟨rfl,hb2⟩
     have HB2:=Jh (below_next HB.o (Jn) hb2)
     clear hb2 c0 c1 c2 c3 c4
     have HA2:Hid (∀p∈f.take (k+1),rightP p=true):=by
      show ∀p∈_,_
      rw[List.take_succ_eq_append_getElem hk',HX2.o]
      intro p hp
      rcases List.mem_append.1 hp with hp|hp
      ·exact HA.o p hp
      ·simp at hp;subst hp;rw[HPR.o];exact HQ.o
     go_wp2_with fail
     go_roundg (n-(k+1))
     case measure=>omega
     case rel=>exact⟨k+1,by omega,Jn,by go_num,HB2,HA2⟩
    | false=>
     have HQ:=Jh hq
     clear hq
     go_wp2_with fail
     refine (rpright_is xn xo xk xi xt _ (by omega) (by omega) false HQ.o).mono ?_
     rintro e w2 ⟨rfl,hb2⟩
     have HB2:=Jh (below_next HB.o (Jn) hb2)
     clear hb2 c0 c1 c2 c3 c4
     have HF:Hid (er=1):=by
      show _=_
      rw[HX.o,if_neg]
      intro h
      have:=h _ (List.getElem_mem hk')
      rw[HX2.o,HPR.o,HQ.o] at this
      cases this
     go_wp2_with fail
     go_ret
     exact⟨by rw[HF.o];rfl,HB2.o⟩
   ·have hkn:k=n:=by omega
    have HF:Hid (er=0):=by
     show _=_
     rw[HX.o,if_pos]
     have:=HA.o
     rw[hkn,List.take_of_length_le (by rw[HN.o];exact Jn)] at this
     exact this
    clear hkn
    go_wp2_with fail
    go_ret
    exact⟨by rw[HF.o];rfl,HB.o⟩
theorem rvoid_at (A:OA) (f:List Pr) (n c:Nat) (hn:f.length=n) (hm:n<=100) (hl:PBd f) (w:World) (hr:RdQ w A f) (S:LU->Sp) (hS:Fil.IsSpans f S) (q:Bool) (hq:decide (Fil.Void f S)=q):
  Calls Tryz.prog 55 #[.slice A n c] w fun e w'=>e=.returned (.bool q)/\Below w.heap.size w w':=by
 have HN:=Jh hn
 have HLL:=Jh hl
 have HR:=Jh hr
 have HS:=Jh hS
 have HQ:=Jh hq
 clear hn hl hr hS hq
 go_enter Tryz.func55,Tryz.ntmps55
 go_wp2_with fail
 refine (rnames_at A f n c HN.o (by omega) (fun p hp=>by have:=(HLL.o p hp).1;omega) w HR.o).mono ?_
 rintro e w1 ⟨L,B,m,d,rfl,hL,hlm,hmn,hmd,hoL,hb1⟩
 have HL:=Jh hL
 have HM:=Jh hlm
 have RL:=Jh (rdz_own hoL)
 have B1:=Jh hb1
 clear hL hlm hoL hb1
 go_wp2_with fail
 go_loopg [4] m (fun gg s4 wr=>∃k:Nat,k<=m/\m-k<=gg/\s4=.int .i64 (k:Int)/\Hid (Below w1.heap.size w1 wr)/\Hid (∀j (hj:j<L.length),j<k->(S L[j]).kind≠0))
 case atStart=>exact⟨0,Nat.zero_le _,by omega,rfl,Below.refl _ _,fun j hj h=>absurd h (by omega)⟩
 case round=>
  obtain⟨k,hk,hgg,rfl,HB,HA⟩:=hrel
  have BB:=Jh (below_next B1.o (Jn) HB.o)
  by_cases hlt:k<m
  ·have hk':k<L.length:=by rw[HM.o];exact hlt
   obtain⟨gb,ob,hB,hgb,b0⟩:=RdTx.at1 (RdZ.below RL.o HB.o) hk'
   subst hB
   obtain⟨nm,hnm⟩:∃x,L[k]=x:=⟨_,rfl⟩
   have HNM:=Jh hnm
   rw[hnm] at b0
   clear hnm
   have w5:(k:Int)<(m:Int):=by omega
   go_wp2_with fail
   refine (rspanOf_at A f n c nm HN.o hm HLL.o _ (RdK.below HR.o BB.o)).mono ?_
   rintro e w2 ⟨⟨rK,rlo,rhi,rf,rt,ro,rno⟩,hall,hrl,A7,n7,c7,rfl,_,_,_,hb2⟩
   have HSK:Hid ((S nm).kind=rK):=by show _=_;rw[(HS.o nm (HNM.o ▸ names_mem HL.o hk')).one hall]
   have HB2:=Jh (below_next HB.o (Jn) hb2)
   clear hall hrl hb2 b0
   have HB3:=Jh (HB2.o.trans ((gr1 w2 (.cells (sC rK rlo rhi rf.toArray rt.toArray ro A7 n7 c7) 97)).below.mono HB2.o.size))
   by_cases hz:rK=0
   ·subst hz
    have HV:Hid (Fil.Void f S):=(void_iff HL.o).2 ⟨nm,HNM.o ▸ List.getElem_mem hk',HSK.o⟩
    obtain rfl:q=true:=by rw[<-HQ.o];exact decide_eq_true HV.o
    go_wp2_with fail
    go_ret
    exact⟨rfl,below_next B1.o (Jn) HB3.o⟩
   ·have v0:(rK == 0)=false:=beq_eq_false_iff_ne.2 hz
    have HA2:Hid (∀j (hj:j<L.length),j<k+1->(S L[j]).kind≠0):=fun j hj h=>by
     rcases Nat.lt_or_ge j k with e|e
     ·exact HA.o j hj e
     ·obtain rfl:j=k:=by omega
      rw[HNM.o,HSK.o];exact hz
    clear hz
    go_wp2_with fail
    go_roundg (m-(k+1))
    case measure=>omega
    case rel=>exact⟨k+1,by omega,Jn,by go_num,HB3,HA2⟩
  ·have hkm:k=m:=by omega
   have HV:Hid (¬Fil.Void f S):=fun h=>by
    obtain⟨x,hx,h0⟩:=(void_iff HL.o).1 h
    obtain⟨j,hj,rfl⟩:=List.getElem_of_mem hx
    exact HA.o j hj (by rw[HM.o] at hj;omega) h0
   obtain rfl:q=false:=by rw[<-HQ.o];exact decide_eq_false HV.o
   clear hkm
   go_wp2_with fail
   go_ret
   exact⟨rfl,BB.o⟩
theorem rnorm_at (A:OA) (f:List Pr) (n c:Nat) (hn:f.length=n) (hm:n<=1000) (hl:PBd f) (w:World) (hr:RdQ w A f):
  Calls Tryz.prog 28 #[.slice A n c] w (Normed w f):=by
 have HN:=Jh hn
 have HLL:=Jh hl
 have HR:=Jh hr
 obtain⟨er,her⟩:∃er,mayE f=er:=⟨_,rfl⟩
 have HER:=Jh her
 obtain⟨S,hS⟩:=Fil.spans_ex (pbd_bd hl)
 have HS:=Jh hS
 obtain⟨q,hq⟩:∃q,decide (Fil.Void f S)=q:=⟨_,rfl⟩
 have HQ:=Jh hq
 clear hn hl hr her hS hq
 go_enter Tryz.func28,Tryz.ntmps28
 go_wp2_with fail
 have HM9:=Jh hm
 clear hm
 refine (rmay_at A f n c HN.o HM9.o HLL.o w HR.o er HER.o).mono ?_
 rintro e w1 ⟨rfl,hb⟩
 have BB:=Jh hb
 clear hb
 by_cases he:er=0
 ·subst he
  have HSO:Hid (Fil.Sound f):=by
   have h:=HER.o
   unfold mayE at h
   by_cases h1:24<f.length
   ·rw[if_pos h1] at h;cases h
   ·rw[if_neg h1] at h
    by_cases h2:Fil.AllRight f
    ·exact⟨by omega,h2⟩
    ·rw[if_neg h2] at h;cases h
  have hm:n<=100:=by have:=HSO.o.1;rw[HN.o] at this;omega
  go_wp2_with fail
  refine (rvoid_at A f n c HN.o hm HLL.o _ (RdK.below HR.o BB.o) S HS.o q HQ.o).mono ?_
  rintro e w2 ⟨rfl,hb⟩
  replace BB:=Jh (below_next BB.o (Jn) hb)
  clear hb
  cases q with
  | true=>
   have HNO:Hid (Fil.NormIs f [] 9):=by
    obtain⟨L,hL⟩:=Fil.names_ex f
    exact .inr (.inr ⟨HSO.o,S,L,HS.o,hL,.inl ⟨of_decide_eq_true HQ.o,rfl,rfl⟩⟩)
   go_wp2_with fail
   go_ret2
   exact normed_none HNO.o BB.o
  | false=>
   have HNV:Hid (¬Fil.Void f S):=of_decide_eq_false HQ.o
   go_wp2_with fail
   refine (rnames_at A f n c HN.o (by omega) (fun p hp=>by have:=(HLL.o p hp).1;omega) _ (RdK.below HR.o BB.o)).mono ?_
   rintro e w3 ⟨L,B,m,d,rfl,hL,hlm,hmn,hmd,hoL,hb⟩
   have HL:=Jh hL
   have HM:=Jh hlm
   have RL:=Jh (rdz_own hoL)
   replace BB:=Jh (below_next BB.o (Jn) hb)
   clear hL hlm hoL hb
   go_wp2_with fail
   go_loopg [6,7] m (fun gg s6 s7 wr=>∃(k u d2:Nat) (B2:OA) (out:List Pr),k<=m/\m-k<=gg/\s7=.int .i64 (k:Int)/\s6=.slice B2 u d2/\u<=k*110/\u<=d2/\Hid (out=(L.take k).flatMap fun x=>prs x (S x))/\Hid (out.length=u)/\Hid (OwnQ wr w3.heap.size (.slice B2 u d2) out)/\Hid (Below w3.heap.size w3 wr))
   case atStart=>exact⟨0,0,0,none,[],Nat.zero_le _,by omega,rfl,rfl,by omega,Jn,by show _=_;simp,rfl,OwnK.none_ _ _,Below.refl _ _⟩
   case round=>
    obtain⟨k,u,d2,B2,out,hk,hgg,rfl,rfl,hub,hud,HOUT,HU,O,HB⟩:=hrel
    by_cases hlt:k<m
    ·have hk':k<L.length:=by rw[HM.o];exact hlt
     obtain⟨gb,ob,hB,hgb,b0⟩:=RdTx.at1 RL.o hk'
     subst hB
     obtain⟨nm,hnm⟩:∃x,L[k]=x:=⟨_,rfl⟩
     have HNM:=Jh hnm
     rw[hnm] at b0
     clear hnm
     have w5:(k:Int)<(m:Int):=by omega
     have HK0:Hid (∀w',Below w3.heap.size w3 w'->w'.cell? ⟨gb,ob+k,none⟩=some (.string ⟨nm.toArray⟩)/\True):=fun w' hb=>⟨(hb.cell (p:=⟨gb,ob+k,none⟩) hgb).trans b0,trivial⟩
     clear b0 hgb
     have hS0:=HK0.o wr.drew HB.o.drew
     go_wp2_with fail
     refine wp_region_held_drew (S:=fun w'=>w'.cell? ⟨gb,ob+k,none⟩=some (.string ⟨nm.toArray⟩)/\True) (by kernel_rfl) hS0 (fun _=>?_)
     refine Jz 0 hS0 ?_
     refine Jz 1 hS0 ?_
     refine Jz 2 hS0 ?_
     refine Jz 3 hS0 ?_
     refine Jz 4 hS0 ?_
     refine Jz 5 hS0 ?_
     refine Jz 6 hS0 ?_
     refine Jz 7 hS0 ?_
     refine Jz 8 hS0 ?_
     refine Jz 9 hS0 ?_
     have O1:Hid (OwnQ wr.drew w3.heap.size (.slice B2 u d2) out):=OwnK.below O.o (Below.refl _ _).drew
     have HB1:=Jh HB.o.drew
     clear O HB hS0
     generalize wr.drew=w4 at *
     refine Je 10 (fun K hK=>?_)
     go_simp
     have hlx:∀p∈f,p.n.length<=100/\p.t.length<=100 /\ -9223372036854775808<=p.i/\p.i<=9223372036854775807:=HLL.o
     have hnx:=HN.o
     with_reducible refine (rspanOf_at A f n c nm hnx hm hlx w4 (RdK.below HR.o (below_next BB.o (Jn) HB1.o))).mono ?_
     rintro e w5 ⟨⟨rK,rlo,rhi,rf,rt,ro,rno⟩,hall,hrl,A7,n7,c7,rfl,hl7,hc7,ho7,hb7⟩
     dsimp only at hrl hl7 ho7
     have HSK:Hid (S nm=⟨rK,rlo,rhi,rf,rt,ro,rno⟩):=(HS.o nm (HNM.o ▸ names_mem HL.o hk')).one hall
     have HC:=Jh hall.1
     have HL7:=Jh hl7
     have hr7:=rdk_own' ho7
     have R7:=Jh hr7
     have hn7:n7<=100:=by omega
     replace O1:=Jh (OwnK.below O1.o hb7)
     replace HB1:=Jh (below_next HB1.o (Jn) hb7)
     clear hall hl7 ho7 hb7 hr7 hlx hnx
     go_wp2_with fail
     refine hK.o _ _ (HK0.o _ HB1.o) ?_
     clear hK
     refine Je 11 (fun K hK=>?_)
     go_simp
     have hl7:=HL7.o
     with_reducible refine (rprs_at nm ⟨rK,rlo,rhi,rf,rt,ro,rno⟩ HC.o A7 n7 c7 hl7 (by omega) w5 R7.o).mono ?_
     rintro e w6 ⟨v6,rfl,ho6,hb6⟩
     have hpl:=prs_len nm ⟨rK,rlo,rhi,rf,rt,ro,rno⟩
     dsimp only at hpl
     obtain⟨A8,c8,hv8,hc8,hr8⟩:=OwnK.form ho6 rfl
     subst hv8
     have R8:=Jh hr8
     replace O1:=Jh (OwnK.below O1.o hb6)
     replace HB1:=Jh (below_next HB1.o (Jn) hb6)
     clear ho6 hb6 hr8
     go_wp2_with fail
     refine hK.o _ _ (HK0.o _ HB1.o) ?_
     clear hK
     obtain⟨y,hy⟩:∃y,prs nm ⟨rK,rlo,rhi,rf,rt,ro,rno⟩=y:=⟨_,rfl⟩
     have HY:=Jh hy
     rw[hy] at R8 hpl hc8
     rw[hy]
     clear hy
     obtain⟨y9,hy9⟩:∃y9,y.length=y9:=⟨_,rfl⟩
     have HY9:=Jh hy9
     rw[hy9]
     rw[hy9] at hpl hc8
     clear hy9
     refine Je 12 (fun K hK=>?_)
     have hbz:w3.heap.size<=w6.heap.size:=HB1.o.size
     refine op_append_k layP (.tmp 23) (.tmp 34) 26 underQ (by rfl) w3.heap.size _ out (by rfl) O1.o A8 y y9 c8 (by rfl) R8.o HY9.o (by rw[maxLen_num,HU.o];omega) (by simp only[layP];rw[HU.o];omega) hbz ?_
     intro v9 w9 o9 hbx
     have HB9:=Jh (hbx _ HB1.o)
     have hl9:(out++y).length=u+y9:=by rw[List.length_append,HU.o,HY9.o]
     obtain⟨A9,c9,hv9,hc9,_⟩:=OwnK.form o9 hl9
     subst hv9
     have O9:=Jh o9
     have HL9:=Jh hl9
     clear hbx o9 hl9 hbz
     refine hK.o _ _ (HK0.o _ HB9.o) ?_
     clear hK
     simp only[Act.put,zu0,zu1,zu2]
     refine Jz 13 (HK0.o _ HB9.o) ?_
     have HO2:Hid (out++y=(L.take (k+1)).flatMap fun x=>prs x (S x)):=by
      show _=_
      rw[List.take_succ_eq_append_getElem hk',HNM.o,List.flatMap_append,HOUT.o,<-HY.o,<-HSK.o]
      simp
     refine Jd ?_
     clear O1 HB1 R8 R7
     go_wp2_with fail
     go_roundg (m-(k+1))
     case measure=>omega
     case rel=>exact⟨k+1,u+y9,c9,A9,_,by omega,Jn,by go_num,rfl,by omega,hc9,HO2,HL9,O9,HB9⟩
    ·have hkm:k=m:=by omega
     have HO2:Hid (out=Fil.outOf L S):=by
      show _=_
      rw[HOUT.o,hkm,List.take_of_length_le (by rw[HM.o];exact Jn)]
      exact prs_out HL.o HSO.o.2
     clear hkm HOUT
     have B9:=Jh (below_next BB.o (Jn) HB.o)
     by_cases h24:24<u
     ·have d1:decide ((24:Int)<(u:Int))=true:=decide_eq_true (by omega)
      have HNO:Hid (Fil.NormIs f [] 4):=.inr (.inr ⟨HSO.o,S,L,HS.o,HL.o,.inr (.inl ⟨HNV.o,by rw[<-HO2.o,HU.o];exact h24,rfl,rfl⟩)⟩)
      clear h24
      go_wp2_with fail
      go_ret2
      exact normed_none HNO.o B9.o
     ·have d1:decide ((24:Int)<(u:Int))=false:=decide_eq_false (by omega)
      have HNO:Hid (Fil.NormIs f out 0):=.inr (.inr ⟨HSO.o,S,L,HS.o,HL.o,.inr (.inr ⟨HNV.o,by rw[<-HO2.o,HU.o];omega,HO2.o,rfl⟩)⟩)
      clear h24
      go_wp2_with fail
      go_ret2
      exact⟨out,0,B2,u,d2,rfl,HNO.o,HU.o,hud,O.o.less (by have:=BB.o.size;omega),B9.o⟩
 ·have v0:(er != 0)=true:=by simpa using he
  have HNO:Hid (Fil.NormIs f [] er):=by
   have h:=HER.o
   unfold mayE at h
   by_cases h1:24<f.length
   ·rw[if_pos h1] at h;exact .inl ⟨h1,rfl,h.symm⟩
   ·rw[if_neg h1] at h
    by_cases h2:Fil.AllRight f
    ·rw[if_pos h2] at h;exact absurd h.symm he
    ·rw[if_neg h2] at h;exact .inr (.inl ⟨by omega,h2,rfl,h.symm⟩)
  clear he
  go_wp2_with fail
  go_ret2
  exact normed_none HNO.o BB.o
theorem rfright_at (A:OA) (f:List Pr) (n c:Nat) (hn:f.length=n) (hm:n<=100) (hl:PBd f) (w:World) (hr:RdQ w A f) (q:Bool) (hq:q=true↔Fil.NormIs f f 0):
  Calls Tryz.prog 64 #[.slice A n c] w fun e w'=>e=.returned (.bool q)/\Below w.heap.size w w':=by
 have HN:=Jh hn
 have HLL:=Jh hl
 have HR:=Jh hr
 have HQ:=Jh hq
 clear hn hl hr hq
 go_enter Tryz.func64,Tryz.ntmps64
 go_wp2_with fail
 refine (rnorm_at A f n c HN.o (by omega) HLL.o w HR.o).mono ?_
 rintro e w1 ⟨out,er,A1,n1,c1,rfl,hno,hl1,hc1,ho1,hb1⟩
 have HNO:=Jh hno
 have HL1:=Jh hl1
 have R1:=Jh (rdk_own' ho1)
 have BB:=Jh hb1
 clear hno hl1 ho1 hb1
 by_cases he:er=0
 ·subst he
  have hn24:n1<=24:=by obtain⟨S,L,hg⟩:=HNO.o.good;rw[<-HL1.o];exact hg.len
  have HQ2:Hid (decide (f=out)=q):=by
   show _=_
   by_cases h:f=out
   ·rw[decide_eq_true h]
    have h1:Fil.NormIs f f 0:=by
     have h2:=HNO.o
     rw[<-h] at h2
     exact h2
    exact (HQ.o.2 h1).symm
   ·rw[decide_eq_false h]
    cases q with
    | false=>rfl
    | true=>exact absurd ((HQ.o.1 rfl).one HNO.o).1 h
  go_wp2_with fail
  refine (samePs_at A f n c HN.o (by omega) A1 out n1 c1 HL1.o (by omega) w1 (RdK.below HR.o BB.o) R1.o q HQ2.o).mono ?_
  rintro e w2 ⟨rfl,hg2⟩
  go_wp2_with fail
  go_ret
  exact⟨rfl,below_next BB.o (Jn) hg2.below⟩
 ·have v0:(er == 0)=false:=by simpa using he
  have HQ2:Hid (q=false):=by
   cases q with
   | false=>rfl
   | true=>exact absurd ((HQ.o.1 rfl).one HNO.o).2.symm he
  obtain rfl:q=false:=HQ2.o
  go_wp2_with fail
  go_ret
  exact⟨rfl,BB.o⟩
end
end Go.Proofs.YtnfigjggjmncdaaGreat
