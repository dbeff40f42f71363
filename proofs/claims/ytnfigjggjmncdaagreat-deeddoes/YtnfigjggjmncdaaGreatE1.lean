/- Contracts. -/
import Derived.Test.YtnfigjggjmncdaaGreatM1
import Derived.Test.YtnfigjggjmncdaaGreatA1
import Derived.Test.YtnfigjggjmncdaaGreatA4
import Derived.Test.YtnfigjggjmncdaaGreatB1
set_option maxRecDepth 100000
set_option maxHeartbeats 4000000
namespace Go.Proofs.YtnfigjggjmncdaaGreat
section
open Go.RowKit Spans Op
theorem refHas_at (A:OA) (es:List Val) (n cap:Nat) (hn:es.length=n) (hm:n<=100000) (yk yi:Int) (yt:LU) (w:World) (hr:RdW w A es) (b:Bool) (hb:decide ((⟨yk,yi,yt⟩:Val)∈es)=b):
  Calls Tryz.prog 149 #[.slice A n cap,.agg (vC yk yi yt.toArray)] w fun e w'=>e=.returned (.bool b)/\Grown w w':=by
 subst hb
 have HN:=Jh hn
 have hB:=Blk.new w 52 (vC yk yi yt.toArray)
 have HG0:=Jh (gr1 w (.cells (vC yk yi yt.toArray) 52))
 have hr1:=hr.below HG0.o.below
 clear hn hr
 go_enter Tryz.func149,Tryz.ntmps149
 go_wp2_with fail
 generalize w.heap.size=g0 at *
 generalize w.alloc (.cells (vC yk yi yt.toArray) 52)=w1 at *
 go_loopg [5] n (fun gg s8 wr=>∃k:Nat,k<=n/\n-k<=gg/\s8=.int .i64 (k:Int)/\Hid (Grown w1 wr)/\Hid ((⟨yk,yi,yt⟩:Val)∉es.take k))
 case atStart=>exact⟨0,Nat.zero_le _,by omega,rfl,Grown.refl w1,by show _∉_;simp⟩
 case round=>
  obtain⟨k,hk,hgg,rfl,HG,HA⟩:=hrel
  by_cases hlt:k<n
  ·have hk':k<es.length:=by rw[HN.o];exact hlt
   obtain⟨g,off,rfl,hg,c0,c1,c2⟩:=RdW.at3 (hr1.below HG.o.below) hk'
   obtain⟨b0,b1,b2,_⟩:=blk3 (Blk.below hB HG.o.below hB.lt)
   obtain⟨x,hx⟩:∃x,es[k]=x:=⟨_,rfl⟩
   have HX:=Jh hx
   rw[hx] at c0 c1 c2
   clear hx hr1 hB
   obtain⟨xk,xi,xt⟩:=x
   have w5:(k:Int)<(n:Int):=by omega
   go_wp2_with fail
   refine wp_region_held_drew (S:=fun w'=>w'=wr.drew) (by kernel_rfl) rfl (fun _=>?_)
   refine Jz 0 rfl ?_
   refine Jz 1 rfl ?_
   refine Jz 2 rfl ?_
   refine Jz 3 rfl ?_
   refine Jz 4 rfl ?_
   refine wpAnyH_yes (i:=5) (d:=17) (v:=.bool (decide ((⟨xk,xi,xt⟩:Val)=(⟨yk,yi,yt⟩:Val)))) rfl rfl (by kernel_rfl) (by kernel_rfl) (by kernel_rfl) (fun _ _ _ h=>h) (by rfl) ?_ rfl ?_
   ·intro w' hSw;subst hSw;go_simp
    by_cases a1:xk=yk<;>by_cases a2:xi=yi<;>by_cases a3:xt=yt<;>simp[a1,a2,a3]
   simp only[Act.put,zu0,zu1,zu2]
   refine Jd ?_
   clear c0 c1 c2 b0 b1 b2 w5
   by_cases hxy:(⟨xk,xi,xt⟩:Val)=(⟨yk,yi,yt⟩:Val)
   ·have hd:decide ((⟨xk,xi,xt⟩:Val)=(⟨yk,yi,yt⟩:Val))=true:=decide_eq_true hxy
    rw[hd]
    have HM:Hid ((⟨yk,yi,yt⟩:Val)∈es):=by show _∈es;rw[<-hxy,<-HX.o];exact List.getElem_mem hk'
    clear hd hxy HX
    go_wp2_with fail
    go_ret
    exact⟨ret_b (decide_eq_true HM.o).symm,HG0.o.trans HG.o.drew⟩
   ·have hd:decide ((⟨xk,xi,xt⟩:Val)=(⟨yk,yi,yt⟩:Val))=false:=decide_eq_false hxy
    rw[hd]
    have HQ:Hid ((⟨yk,yi,yt⟩:Val)∉es.take (k+1)):=by
     show _∉_
     rw[takeS hk',HX.o]
     intro hv
     rcases List.mem_append.1 hv with hv|hv
     ·exact HA.o hv
     ·simp only[List.mem_singleton] at hv;exact hxy hv.symm
    clear hd hxy HX
    go_wp2_with fail
    go_roundg (n-(k+1))
    case measure=>omega
    case rel=>exact⟨k+1,by omega,Jn,by go_num,HG.o.drew,HQ⟩
  ·have hkn:Hid (k=n):=by show k=n;omega
   go_wp2_with fail
   go_ret
   refine ⟨ret_b (decide_eq_false fun h=>?_).symm,HG0.o.trans HG.o⟩
   have:=HA.o
   rw[hkn.o,List.take_of_length_le (by rw[HN.o];exact Jn)] at this
   exact this h
end
section
open Go.RowKit Go.Sort Spans Op
theorem textG_at (a b:LU) (hl:a.length<=9223372036854775807) (hl2:b.length<=9223372036854775807) (w:World):
  Calls Tryz.prog 87 #[.string ⟨a.toArray⟩,.string ⟨b.toArray⟩] w fun e w'=>e=.returned (.int .i64 (Vals.cmpT a b))/\Grown w w':=
 (refCmpText_dn a b hl hl2 w).mono fun _ _ ⟨h,n,k⟩=>⟨h,n,#[],by rw[grow_empty];exact k⟩
theorem refCompare_gr (k i:Int) (t:LU) (k' i':Int) (t':LU) (hl:t.length<=9223372036854775807) (hl2:t'.length<=9223372036854775807) (w:World):
  Calls Tryz.prog 183 #[.agg (vC k i t.toArray),.agg (vC k' i' t'.toArray)] w fun e w'=>e=.returned (.int .i64 (Vals.cmp k i t k' i' t'))/\Grown w w':=by
 have hb2:Grown w ((w.alloc (.cells (vC k i t.toArray) 52)).alloc (.cells (vC k' i' t'.toArray) 52)):=gr2 _ _ _
 rcases Int.lt_trichotomy k k' with h|rfl|h
 ·have HC:=Jh (cmp_lt1 k i t k' i' t' h)
  go_enter Tryz.func183,Tryz.ntmps183
  go_wp2_with fail
  go_ret
  exact⟨ret_int HC.o.symm,hb2⟩
 ·rcases Int.lt_trichotomy i i' with h | rfl | h
  ·have HC:=Jh (cmp_lt2 k i t i' t' h)
   go_enter Tryz.func183,Tryz.ntmps183
   go_wp2_with fail
   go_ret
   exact⟨ret_int HC.o.symm,hb2⟩
  ·have HC:=Jh (cmp_eq2 k i t t')
   go_enter Tryz.func183,Tryz.ntmps183
   go_wp2_with fail
   refine (textG_at t t' hl hl2 _).mono ?_
   rintro e w1 ⟨rfl,hb1⟩
   go_wp2_with fail
   go_ret
   exact⟨ret_int HC.o.symm,hb2.trans hb1⟩
  ·have HC:=Jh (cmp_gt2 k i t i' t' h)
   have h2:¬i<i':=by omega
   have h3:decide (i<i')=false:=by simpa using h2
   go_enter Tryz.func183,Tryz.ntmps183
   go_wp2_with fail
   go_ret
   exact⟨ret_int HC.o.symm,hb2⟩
 ·have HC:=Jh (cmp_gt1 k i t k' i' t' h)
  have h2:¬k<k':=by omega
  have h3:decide (k<k')=false:=by simpa using h2
  have h4:(k == k')=false:=by simp;omega
  go_enter Tryz.func183,Tryz.ntmps183
  go_wp2_with fail
  go_ret
  exact⟨ret_int HC.o.symm,hb2⟩
theorem cell_gr {w:World} {p:Addr} {v:Value} (hp:p.block<w.heap.size) (h:w.cell? p=some v) (n:Nat) (os:Array Obj):(grow (w.drewN n) os).cell? p=some v:=((((Grown.refl w).more n os).below.cell (p:=p) hp).trans h)
def cmpV (a b:Val):Int:=Vals.cmp a.k a.i a.t b.k b.i b.t
theorem cmpV_zero {a b:Val}:cmpV a b=0↔a=b:=by
 unfold cmpV
 rw[Vals.cmp_zero]
 constructor
 ·rintro ⟨h1,h2,h3⟩;exact Val.ext_ h1 h2 h3
 ·rintro rfl;exact⟨rfl,rfl,rfl⟩
theorem cmpV_neg (a b:Val):cmpV b a = - cmpV a b:=Vals.cmp_neg _ _ _ _ _ _
theorem cmpV_trans {a b c:Val} (h1:cmpV a b<0) (h2:cmpV b c<0):cmpV a c<0:=by
 have h3:cmpV a c<=0:=Vals.cmp_trans _ _ _ _ _ _ _ _ _ (Int.le_of_lt h1) (Int.le_of_lt h2)
 have h4:cmpV a c≠0:=fun h=>by
  rw[cmpV_zero] at h
  subst h
  have:=cmpV_neg a b
  omega
 omega
theorem rise_insert {out:List Val} {v:Val} {k:Nat} (h:RiseV out) (hk:k<=out.length) (h1:∀j (hj:j<out.length),j<k->cmpV out[j] v<0) (h2:∀(hj:k<out.length),cmpV v out[k]<0):RiseV (out.take k++v::out.drop k):=by
 have hp:=List.pairwise_iff_getElem.1 h
 unfold RiseV at *
 rw[List.pairwise_append]
 refine ⟨h.sublist (List.take_sublist _ _),?_,?_⟩
 ·rw[List.pairwise_cons]
  refine ⟨fun a ha=>?_,h.sublist (List.drop_sublist _ _)⟩
  obtain⟨m,hm,rfl⟩:=List.getElem_of_mem ha
  rw[List.length_drop] at hm
  rw[List.getElem_drop]
  have h0:=h2 (by omega)
  rcases Nat.eq_zero_or_pos m with e|e
  ·subst e;exact h0
  ·exact cmpV_trans h0 (hp k (k+m) (by omega) (by omega) (by omega))
 ·intro a ha b hb
  obtain⟨m,hm,rfl⟩:=List.getElem_of_mem ha
  rw[List.length_take] at hm
  rw[List.getElem_take]
  have h0:=h1 m (by omega) (by omega)
  rcases List.mem_cons.1 hb with rfl|hb
  ·exact h0
  ·obtain⟨q,hq,rfl⟩:=List.getElem_of_mem hb
   rw[List.length_drop] at hq
   rw[List.getElem_drop]
   exact hp m (k+q) (by omega) (by omega) (by omega)
def Risen (l out:List Val):Prop:=RiseV out/\∀v,v∈out↔v∈l
theorem rise_at (A:OA) (l:List Val) (n c:Nat) (hn:l.length=n) (hm:n<=1000) (hl:∀v∈l,v.t.length<=1000) (w:World) (hr:RdW w A l):
  Calls Tryz.prog 150 #[.slice A n c] w fun e w'=>∃out B m d,e=.returned (.slice B m d)/\Risen l out/\out.length=m/\m<=n/\m<=d/\OwnW w' w.heap.size (.slice B m d) out/\Below w.heap.size w w':=by
 have HN:=Jh hn
 have HLL:=Jh hl
 have HR:=Jh hr
 clear hn hl hr
 go_enter Tryz.func150,Tryz.ntmps150
 go_wp2_with fail
 go_loopg [3,4] n (fun gg s3 s4 wr=>∃(i:Nat) (out:List Val) (B:OA) (m d:Nat),i<=n/\n-i<=gg/\s4=.int .i64 (i:Int)/\s3=.slice B m d/\m<=i/\m<=d/\Hid (Risen (l.take i) out)/\Hid (out.length=m)/\Hid (OwnW wr w.heap.size (.slice B m d) out)/\Hid (Below w.heap.size w wr))
 case atStart=>exact⟨0,[],none,0,0,Nat.zero_le _,by omega,rfl,rfl,Jn,Jn,⟨List.Pairwise.nil,by simp⟩,rfl,OwnK.none_ _ _,Below.refl _ _⟩
 case round=>
  obtain⟨i,out,B,m,d,hi,hgg,rfl,rfl,hmi,hmd,HRS,HM,HO,HB⟩:=hrel
  by_cases hlt:i<n
  ·have hi':i<l.length:=by rw[HN.o];exact hlt
   obtain⟨g,off,rfl,hg,c0,c1,c2⟩:=RdW.at3 (RdK.below HR.o HB.o) hi'
   have hxl:=HLL.o _ (List.getElem_mem hi')
   obtain⟨x,hx⟩:∃x,l[i]=x:=⟨_,rfl⟩
   have HX:=Jh hx
   rw[hx] at c0 c1 c2 hxl
   obtain⟨xk,xi,xt⟩:=x
   dsimp only at c0 c1 c2 hxl
   have hi1:(i:Int)<(n:Int):=by omega
   have HC:Hid (wr.cell? ⟨g,off+i*3,none⟩=some (.int .i64 xk)/\wr.cell? ⟨g,off+i*3+1,none⟩=some (.int .i64 xi)/\wr.cell? ⟨g,off+i*3+2,none⟩=some (.string ⟨xt.toArray⟩)):=⟨c0,c1,c2⟩
   have HG0:Hid (g<wr.heap.size):=hg
   obtain⟨_,_,e1,_,hrd⟩:=OwnK.rd HO.o
   injection e1 with e1 e2 e3
   subst e1
   have HRO:=Jh hrd
   have HTL:Hid (∀v∈out,v.t.length<=1000):=fun v hv=>HLL.o v (List.mem_of_mem_take ((HRS.o.2 v).1 hv))
   clear hx c0 c1 c2 hrd e2 e3 hg
   obtain⟨wo,rfl⟩:∃wo:World,wo=wr:=⟨_,rfl⟩
   go_wp2_with fail
   go_loopg [5] m (fun g2 kv wy=>∃k:Nat,k+g2=m/\kv=.int .i64 (k:Int)/\Hid (Grown wo wy)/\Hid (∀j (hj:j<out.length),j<k->cmpV out[j] ⟨xk,xi,xt⟩<0))
   case atStart=>exact⟨0,by omega,rfl,Grown.refl _,fun j hj h=>absurd h (by omega)⟩
   case round=>
    obtain⟨k,hkg,rfl,HG,HL⟩:=hrel
    have hg1:g<wr.heap.size:=Nat.lt_of_lt_of_le HG0.o HG.o.below.size
    have hx0:=(HG.o.below.cell (p:=⟨g,off+i*3,none⟩) HG0.o).trans HC.o.1
    have hx1:=(HG.o.below.cell (p:=⟨g,off+i*3+1,none⟩) HG0.o).trans HC.o.2.1
    have hx2:=(HG.o.below.cell (p:=⟨g,off+i*3+2,none⟩) HG0.o).trans HC.o.2.2
    have z0:=fun n os=>cell_gr (w:=wr) (p:=⟨g,off+i*3,none⟩) hg1 hx0 n os
    have z1:=fun n os=>cell_gr (w:=wr) (p:=⟨g,off+i*3+1,none⟩) hg1 hx1 n os
    have z2:=fun n os=>cell_gr (w:=wr) (p:=⟨g,off+i*3+2,none⟩) hg1 hx2 n os
    have hro:=RdK.below HRO.o HG.o.below
    have HB1:=Jh (below_next HB.o (Jn) HG.o.below)
    have HO1:=Jh (OwnK.below HO.o HG.o.below)
    clear hx0 hx1 hx2
    cases gk with
    | zero=>
     obtain rfl:k=m:=by omega
     go_wp2_with fail
     refine qgr (fun nq osq=>?_)
     have hgr1:Grown wr (grow (wr.drewN nq) osq):=(Grown.refl _).more _ _
     clear z0 z1 z2
     have z0:=cell_gr (w:=wr) (p:=⟨g,off+i*3,none⟩) hg1 ((HG.o.below.cell (p:=⟨g,off+i*3,none⟩) HG0.o).trans HC.o.1) nq osq
     have z1:=cell_gr (w:=wr) (p:=⟨g,off+i*3+1,none⟩) hg1 ((HG.o.below.cell (p:=⟨g,off+i*3+1,none⟩) HG0.o).trans HC.o.2.1) nq osq
     have z2:=cell_gr (w:=wr) (p:=⟨g,off+i*3+2,none⟩) hg1 ((HG.o.below.cell (p:=⟨g,off+i*3+2,none⟩) HG0.o).trans HC.o.2.2) nq osq
     have hg2:g<(grow (wr.drewN nq) osq).heap.size:=Nat.lt_of_lt_of_le hg1 hgr1.below.size
     generalize grow (wr.drewN nq) osq=w2 at *
     have hkk:((k:Int) == (k:Int))=true:=by simp
     go_wp2_with fail
     refine qgr (fun nq osq=>?_)
     have hgr2:Grown wr (grow (w2.drewN nq) osq):=hgr1.more _ _
     have hgA:Grown wr (grow (w2.drewN nq) osq):=hgr2
     have hg3:g<(grow (w2.drewN nq) osq).heap.size:=Nat.lt_of_lt_of_le hg1 hgA.below.size
     have q0:=(hgA.below.cell (p:=⟨g,off+i*3,none⟩) hg1).trans ((HG.o.below.cell (p:=⟨g,off+i*3,none⟩) HG0.o).trans HC.o.1)
     have q1:=(hgA.below.cell (p:=⟨g,off+i*3+1,none⟩) hg1).trans ((HG.o.below.cell (p:=⟨g,off+i*3+1,none⟩) HG0.o).trans HC.o.2.1)
     have q2:=(hgA.below.cell (p:=⟨g,off+i*3+2,none⟩) hg1).trans ((HG.o.below.cell (p:=⟨g,off+i*3+2,none⟩) HG0.o).trans HC.o.2.2)
     have hB3:=below_next HB1.o (Jn) hgA.below
     have hR3:=RdK.below hro hgA.below
     have HR9:Hid (Risen (l.take (i+1)) (out.take k++⟨xk,xi,xt⟩::out.drop k)):=by
      have hkl:k<=out.length:=by rw[HM.o];omega
      refine ⟨rise_insert HRS.o.1 hkl HL.o (fun hj=>absurd hj (by rw[HM.o];omega)),fun v=>?_⟩
      rw[List.take_succ_eq_append_getElem hi',HX.o,List.mem_append,List.mem_append,List.mem_cons,<-HRS.o.2 v,List.mem_singleton]
      have:v∈out↔v∈out.take k∨v∈out.drop k:=by rw[<-List.mem_append,List.take_append_drop]
      rw[this]
      constructor
      ·rintro (h | h | h)
       ·exact .inl (.inl h)
       ·exact .inr h
       ·exact .inl (.inr h)
      ·rintro ((h | h) | h)
       ·exact .inl h
       ·exact .inr (.inr h)
       ·exact .inr (.inl h)
     have hlk:(out.take k).length=k:=by rw[List.length_take,HM.o];omega
     have hld:(out.drop k).length=0:=by have h1:=HM.o;rw[List.length_drop];omega
     have hl9:(out.take k++(⟨xk,xi,xt⟩:Val)::out.drop k).length=k+1:=by have h1:=hlk;have h2:=hld;rw[List.length_append,List.length_cons];omega
     have HL9:=Jh hl9
     clear z0 z1 z2 hgr1 hgr2 hg2 hkk hro
     generalize grow (w2.drewN nq) osq=w3 at *
     obtain⟨Bc,hcut,hRc⟩:=run_cutW (k:=k) hR3 HM.o (by omega) hmd
     rw[Nat.sub_self] at hcut
     have hhead:=run_headW (B) k d k (by omega) hmd
     have hRh:RdW w3 (B) (out.take k):=RdK.take hR3 k
     have hb0:Below w3.heap.size w3 (w3.alloc (.cells #[] 52)):=(Below.refl _ _).alloc (Jn) _
     have hO0:OwnW (w3.alloc (.cells #[] 52)) w3.heap.size (.slice (some ⟨w3.heap.size,0,none⟩) 0 0) []:=OwnK.empty (L:=layV) w3 w3.heap.size (Jn)
     have hR0:=RdK.below hRh hb0
     have hs0:w3.heap.size<=(w3.alloc (.cells #[] 52)).heap.size:=hb0.size
     go_wp2_with (first
      | (at_builtin;refine wpList_append_k layV (by rfl) (.tmp 46) (.tmp 49) 95 underV rfl w3.heap.size _ [] (by rfl) hO0 (B) (out.take k) k d (by rfl) hR0 hlk (by rw[maxLen_num];simp;omega) (by show (0+k)*32<=_;omega) hs0 ?_;intro v1 x1 o1 b1 g1 l1;rw[List.nil_append] at o1;have hB1:=b1 w3 hb0;have d0:=(hB1.cell (p:=⟨g,off+i*3,none⟩) hg3).trans q0;have d1:=(hB1.cell (p:=⟨g,off+i*3+1,none⟩) hg3).trans q1;have d2:=(hB1.cell (p:=⟨g,off+i*3+2,none⟩) hg3).trans q2;have hrx:=rdk_one layV x1 ⟨xk,xi,xt⟩ 52 (vC xk xi xt.toArray) rfl;have hbx:Below x1.heap.size x1 (x1.alloc (.cells (vC xk xi xt.toArray) 52)):=(Below.refl _ _).alloc (Jn) _;have oo1:=OwnK.below o1 hbx;have hBx:=below_next hB1 (Jn) hbx;have hs1:w3.heap.size<=(x1.alloc (.cells (vC xk xi xt.toArray) 52)).heap.size:=hBx.size;clear b1 g1 l1 hb0 hO0 hR0 hs0 hbx o1 hhead hRh)
      | (at_builtin;refine wpList_append_k layV (by rfl) (.tmp 51) (.tmp 56) 95 underV rfl w3.heap.size _ (out.take k) (by rfl) oo1 _ [⟨xk,xi,xt⟩] 1 1 (by rfl) hrx rfl (by rw[maxLen_num,hlk];omega) (by show ((out.take k).length+1)*32<=_;rw[hlk];omega) hs1 ?_;intro v2 x2 o2 b2 g2 l2;have hB2:=b2 w3 hBx;have hR2:=RdK.below hRc hB2;have hs2:w3.heap.size<=x2.heap.size:=hB2.size;clear b2 g2 l2 oo1 hrx hs1 d0 d1 d2)
      | (at_builtin;refine wpList_append_k layV (by rfl) (.tmp 58) (.tmp 61) 95 underV rfl w3.heap.size _ (out.take k++[⟨xk,xi,xt⟩]) (by rfl) o2 Bc (out.drop k) 0 (d-k) (by rfl) hR2 hld (by rw[maxLen_num,List.length_append,hlk];show k+1+0<=_;omega) (by show ((out.take k++[(⟨xk,xi,xt⟩:Val)]).length+0)*32<=_;rw[List.length_append,hlk];show (k+1+0)*32<=_;omega) hs2 ?_;intro v3 x3 o3 b3 g3 l3;have hB9:=b3 w3 hB2;rw[List.append_assoc,List.singleton_append] at o3;obtain⟨A9,c9,hv9,hc9,hr9⟩:=OwnK.form o3 HL9.o;subst hv9;clear b3 g3 l3 o2 hR2 hs2))
     have HB9:=Jh (hB3.trans (hB9.mono hB3.size))
     have HO9:=Jh (OwnK.less o3 hB3.size)
     clear hB9 o3 hr9 hB3 hR3 q0 q1 q2 hcut hRc hlk hld hl9 hgA hB1 hB2 hBx
     go_wp2_with fail
     go_roundg (n-(i+1))
     case measure=>omega
     case rel=>exact⟨i+1,_,A9,k+1,c9,by omega,Jn,by go_num,rfl,by omega,hc9,HR9,HL9,HO9,HB9⟩
    | succ gk=>
     have hkm:k<m:=by omega
     have hkm':k<out.length:=by rw[HM.o];exact hkm
     obtain⟨gb,ob,rfl,hgb,b0,b1,b2⟩:=RdW.at3 hro hkm'
     obtain⟨p,hp⟩:∃p,out[k]=p:=⟨_,rfl⟩
     have hpl:=HTL.o _ (List.getElem_mem hkm')
     have HP:=Jh hp
     rw[hp] at b0 b1 b2 hpl
     clear hp
     obtain⟨pk,pi,pt⟩:=p
     dsimp only at b0 b1 b2 hpl
     have f0:=fun n os=>cell_gr (w:=wr) (p:=⟨gb,ob+k*3,none⟩) hgb b0 n os
     have f1:=fun n os=>cell_gr (w:=wr) (p:=⟨gb,ob+k*3+1,none⟩) hgb b1 n os
     have f2:=fun n os=>cell_gr (w:=wr) (p:=⟨gb,ob+k*3+2,none⟩) hgb b2 n os
     have hk1:(k:Int)<(m:Int):=by omega
     have hcall:∀n' os',Calls Tryz.prog 183 #[.agg (vC pk pi pt.toArray),.agg (vC xk xi xt.toArray)] (grow (wr.drewN n') os') fun e w'=>e=.returned (.int .i64 (cmpV ⟨pk,pi,pt⟩ ⟨xk,xi,xt⟩))/\∃q os'',w'=grow ((grow (wr.drewN n') os').drewN q) os'':=fun n' os'=>refCompare_gr pk pi pt xk xi xt (by omega) (by omega) _
     obtain⟨z,hz⟩:∃z,cmpV ⟨pk,pi,pt⟩ ⟨xk,xi,xt⟩=z:=⟨_,rfl⟩
     have HZ:=Jh hz
     rw[hz] at hcall
     clear hz
     by_cases hneg:z<0
     ·have hd:decide (z<0)=true:=decide_eq_true hneg
      have HL2:Hid (∀j (hj:j<out.length),j<k+1->cmpV out[j] ⟨xk,xi,xt⟩<0):=fun j hj h=>by
       rcases Nat.lt_or_ge j k with e|e
       ·exact HL.o j hj e
       ·obtain rfl:j=k:=by omega
        rw[HP.o,HZ.o]
        exact hneg
      clear b0 b1 b2 hneg
      go_wp2_with fail
      refine qgr (fun nq osq=>?_) (hq:=by (repeat (refine hq_step (fun K hK=>?_);go_simp;first | (refine hK _ ?_;clear hK K) | (apply Exists.intro;refine ⟨fun _=>?_,hK _ ?_⟩;(go_at_call 183;refine Calls.grown_of (hcall _ _));clear hK K)));exact hq_nil rfl)
      have HG2:=Jh (HG.o.more nq osq)
      clear f0 f1 f2 z0 z1 z2 hcall hd HG hro HB1 HO1
      generalize grow (wr.drewN nq) osq=w2 at *
      go_wp2_with fail
      go_roundg gk
      case measure=>omega
      case rel=>exact⟨k+1,by omega,by go_num,HG2,HL2⟩
     ·have hd:decide (z<0)=false:=decide_eq_false hneg
      have HZ0:=Jh hneg
      clear hneg
      go_wp2_with fail
      refine qgr (fun nq osq=>?_) (hq:=by (repeat (refine hq_step (fun K hK=>?_);go_simp;first | (refine hK _ ?_;clear hK K) | (apply Exists.intro;refine ⟨fun _=>?_,hK _ ?_⟩;(go_at_call 183;refine Calls.grown_of (hcall _ _));clear hK K)));exact hq_nil rfl)
      have hgr1:Grown wr (grow (wr.drewN nq) osq):=(Grown.refl _).more _ _
      clear f0 f1 f2 z0 z1 z2 hcall hd
      have hg2:g<(grow (wr.drewN nq) osq).heap.size:=Nat.lt_of_lt_of_le hg1 hgr1.below.size
      have hx0:=(hgr1.below.cell (p:=⟨g,off+i*3,none⟩) hg1).trans ((HG.o.below.cell (p:=⟨g,off+i*3,none⟩) HG0.o).trans HC.o.1)
      have hx1:=(hgr1.below.cell (p:=⟨g,off+i*3+1,none⟩) hg1).trans ((HG.o.below.cell (p:=⟨g,off+i*3+1,none⟩) HG0.o).trans HC.o.2.1)
      have hx2:=(hgr1.below.cell (p:=⟨g,off+i*3+2,none⟩) hg1).trans ((HG.o.below.cell (p:=⟨g,off+i*3+2,none⟩) HG0.o).trans HC.o.2.2)
      have hp0:=(hgr1.below.cell (p:=⟨gb,ob+k*3,none⟩) hgb).trans b0
      have hp1:=(hgr1.below.cell (p:=⟨gb,ob+k*3+1,none⟩) hgb).trans b1
      have hp2:=(hgr1.below.cell (p:=⟨gb,ob+k*3+2,none⟩) hgb).trans b2
      have hgb2:gb<(grow (wr.drewN nq) osq).heap.size:=Nat.lt_of_lt_of_le hgb hgr1.below.size
      clear b0 b1 b2
      generalize grow (wr.drewN nq) osq=w2 at *
      have f0:=fun n os=>cell_gr (w:=w2) (p:=⟨gb,ob+k*3,none⟩) hgb2 hp0 n os
      have f1:=fun n os=>cell_gr (w:=w2) (p:=⟨gb,ob+k*3+1,none⟩) hgb2 hp1 n os
      have f2:=fun n os=>cell_gr (w:=w2) (p:=⟨gb,ob+k*3+2,none⟩) hgb2 hp2 n os
      have z0:=fun n os=>cell_gr (w:=w2) (p:=⟨g,off+i*3,none⟩) hg2 hx0 n os
      have z1:=fun n os=>cell_gr (w:=w2) (p:=⟨g,off+i*3+1,none⟩) hg2 hx1 n os
      have z2:=fun n os=>cell_gr (w:=w2) (p:=⟨g,off+i*3+2,none⟩) hg2 hx2 n os
      have hkk:((k:Int) == (m:Int))=false:=by simp;omega
      clear hp0 hp1 hp2 hx0 hx1 hx2
      by_cases heq:(⟨pk,pi,pt⟩:Val)=⟨xk,xi,xt⟩
      ·have HEQ:=Jh heq
       injection heq with h1 h2 h3
       subst h1
       subst h2
       subst h3
       go_wp2_with fail
       refine qgr (fun nq osq=>?_)
       have hgr2:Grown wr (grow (w2.drewN nq) osq):=hgr1.more _ _
       have HB3:=Jh (below_next HB1.o (Jn) hgr2.below)
       have HO3:=Jh (OwnK.below HO1.o hgr2.below)
       have HRS3:Hid (Risen (l.take (i+1)) out):=by
        refine ⟨HRS.o.1,fun v=>?_⟩
        rw[List.take_succ_eq_append_getElem hi',HX.o,List.mem_append,HRS.o.2 v]
        constructor
        ·exact .inl
        ·rintro (h | h)
         ·exact h
         ·simp only[List.mem_singleton] at h
          rw[h,<-HRS.o.2,<-HP.o]
          exact List.getElem_mem hkm'
       clear f0 f1 f2 z0 z1 z2
       generalize grow (w2.drewN nq) osq=w3 at *
       go_wp2_with fail
       go_roundg (n-(i+1))
       case measure=>omega
       case rel=>exact⟨i+1,out,_,m,d,by omega,Jn,by go_num,rfl,by omega,hmd,HRS3,HM,HO3,HB3⟩
      ·have hne3:¬(pk=xk/\pi=xi/\pt=xt):=fun h=>heq (by obtain⟨rfl,rfl,rfl⟩:=h;rfl)
       have HNE:=Jh heq
       clear heq
       by_cases hw1:pk=xk
       ·obtain rfl:xk=pk:=hw1.symm
        clear hw1
        by_cases hw2:pi=xi
        ·obtain rfl:xi=pi:=hw2.symm
         clear hw2
         have hw3:¬pt=xt:=fun e=>hne3 ⟨rfl,rfl,e⟩
         have hw4:(pt == xt)=false:=by simpa using hw3
         go_wp2_with fail
         refine qgr (fun nq osq=>?_)
         have hgr2:Grown wr (grow (w2.drewN nq) osq):=hgr1.more _ _
         have hgA:Grown wr (grow (w2.drewN nq) osq):=hgr2
         have hg3:g<(grow (w2.drewN nq) osq).heap.size:=Nat.lt_of_lt_of_le hg1 hgA.below.size
         have q0:=(hgA.below.cell (p:=⟨g,off+i*3,none⟩) hg1).trans ((HG.o.below.cell (p:=⟨g,off+i*3,none⟩) HG0.o).trans HC.o.1)
         have q1:=(hgA.below.cell (p:=⟨g,off+i*3+1,none⟩) hg1).trans ((HG.o.below.cell (p:=⟨g,off+i*3+1,none⟩) HG0.o).trans HC.o.2.1)
         have q2:=(hgA.below.cell (p:=⟨g,off+i*3+2,none⟩) hg1).trans ((HG.o.below.cell (p:=⟨g,off+i*3+2,none⟩) HG0.o).trans HC.o.2.2)
         have hB3:=below_next HB1.o (Jn) hgA.below
         have hR3:=RdK.below hro hgA.below
         have HR9:Hid (Risen (l.take (i+1)) (out.take k++⟨xk,xi,xt⟩::out.drop k)):=by
          have hkl:k<=out.length:=by rw[HM.o];omega
          refine ⟨rise_insert HRS.o.1 hkl HL.o (fun hj=>by rw[cmpV_neg,HP.o,HZ.o];have h1:=HZ0.o;have h2:z≠0:=fun e=>HNE.o (cmpV_zero.1 (HZ.o.trans e));omega),fun v=>?_⟩
          rw[List.take_succ_eq_append_getElem hi',HX.o,List.mem_append,List.mem_append,List.mem_cons,<-HRS.o.2 v,List.mem_singleton]
          have:v∈out↔v∈out.take k∨v∈out.drop k:=by rw[<-List.mem_append,List.take_append_drop]
          rw[this]
          constructor
          ·rintro (h | h | h)
           ·exact .inl (.inl h)
           ·exact .inr h
           ·exact .inl (.inr h)
          ·rintro ((h | h) | h)
           ·exact .inl h
           ·exact .inr (.inr h)
           ·exact .inr (.inl h)
         have hlk:(out.take k).length=k:=by rw[List.length_take,HM.o];omega
         have hld:(out.drop k).length=(m-k):=by have h1:=HM.o;rw[List.length_drop];omega
         have hl9:(out.take k++(⟨xk,xi,xt⟩:Val)::out.drop k).length=m+1:=by have h1:=hlk;have h2:=hld;rw[List.length_append,List.length_cons];omega
         have HL9:=Jh hl9
         clear f0 f1 f2 z0 z1 z2 hgr1 hgr2 hg2 hgb2 hkk hro hw3 hw4 hne3
         generalize grow (w2.drewN nq) osq=w3 at *
         obtain⟨Bc,hcut,hRc⟩:=run_cutW (k:=k) hR3 HM.o (by omega) hmd
         skip
         have hhead:=run_headW (some ⟨gb,ob,none⟩) m d k (by omega) hmd
         have hRh:RdW w3 (some ⟨gb,ob,none⟩) (out.take k):=RdK.take hR3 k
         have hb0:Below w3.heap.size w3 (w3.alloc (.cells #[] 52)):=(Below.refl _ _).alloc (Jn) _
         have hO0:OwnW (w3.alloc (.cells #[] 52)) w3.heap.size (.slice (some ⟨w3.heap.size,0,none⟩) 0 0) []:=OwnK.empty (L:=layV) w3 w3.heap.size (Jn)
         have hR0:=RdK.below hRh hb0
         have hs0:w3.heap.size<=(w3.alloc (.cells #[] 52)).heap.size:=hb0.size
         go_wp2_with (first
          | (at_builtin;refine wpList_append_k layV (by rfl) (.tmp 46) (.tmp 49) 95 underV rfl w3.heap.size _ [] (by rfl) hO0 (some ⟨gb,ob,none⟩) (out.take k) k d (by rfl) hR0 hlk (by rw[maxLen_num];simp;omega) (by show (0+k)*32<=_;omega) hs0 ?_;intro v1 x1 o1 b1 g1 l1;rw[List.nil_append] at o1;have hB1:=b1 w3 hb0;have d0:=(hB1.cell (p:=⟨g,off+i*3,none⟩) hg3).trans q0;have d1:=(hB1.cell (p:=⟨g,off+i*3+1,none⟩) hg3).trans q1;have d2:=(hB1.cell (p:=⟨g,off+i*3+2,none⟩) hg3).trans q2;have hrx:=rdk_one layV x1 ⟨xk,xi,xt⟩ 52 (vC xk xi xt.toArray) rfl;have hbx:Below x1.heap.size x1 (x1.alloc (.cells (vC xk xi xt.toArray) 52)):=(Below.refl _ _).alloc (Jn) _;have oo1:=OwnK.below o1 hbx;have hBx:=below_next hB1 (Jn) hbx;have hs1:w3.heap.size<=(x1.alloc (.cells (vC xk xi xt.toArray) 52)).heap.size:=hBx.size;clear b1 g1 l1 hb0 hO0 hR0 hs0 hbx o1 hhead hRh)
          | (at_builtin;refine wpList_append_k layV (by rfl) (.tmp 51) (.tmp 56) 95 underV rfl w3.heap.size _ (out.take k) (by rfl) oo1 _ [⟨xk,xi,xt⟩] 1 1 (by rfl) hrx rfl (by rw[maxLen_num,hlk];omega) (by show ((out.take k).length+1)*32<=_;rw[hlk];omega) hs1 ?_;intro v2 x2 o2 b2 g2 l2;have hB2:=b2 w3 hBx;have hR2:=RdK.below hRc hB2;have hs2:w3.heap.size<=x2.heap.size:=hB2.size;clear b2 g2 l2 oo1 hrx hs1 d0 d1 d2)
          | (at_builtin;refine wpList_append_k layV (by rfl) (.tmp 58) (.tmp 61) 95 underV rfl w3.heap.size _ (out.take k++[⟨xk,xi,xt⟩]) (by rfl) o2 Bc (out.drop k) (m-k) (d-k) (by rfl) hR2 hld (by rw[maxLen_num,List.length_append,hlk];show k+1+(m-k)<=_;omega) (by show ((out.take k++[(⟨xk,xi,xt⟩:Val)]).length+(m-k))*32<=_;rw[List.length_append,hlk];show (k+1+(m-k))*32<=_;omega) hs2 ?_;intro v3 x3 o3 b3 g3 l3;have hB9:=b3 w3 hB2;rw[List.append_assoc,List.singleton_append] at o3;obtain⟨A9,c9,hv9,hc9,hr9⟩:=OwnK.form o3 HL9.o;subst hv9;clear b3 g3 l3 o2 hR2 hs2))
         have HB9:=Jh (hB3.trans (hB9.mono hB3.size))
         have HO9:=Jh (OwnK.less o3 hB3.size)
         clear hB9 o3 hr9 hB3 hR3 q0 q1 q2 hcut hRc hlk hld hl9 hgA hB1 hB2 hBx
         go_wp2_with fail
         go_roundg (n-(i+1))
         case measure=>omega
         case rel=>exact⟨i+1,_,A9,m+1,c9,by omega,Jn,by go_num,rfl,by omega,hc9,HR9,HL9,HO9,HB9⟩
        ·have hw4:(pi == xi)=false:=by simpa using hw2
         go_wp2_with fail
         refine qgr (fun nq osq=>?_)
         have hgr2:Grown wr (grow (w2.drewN nq) osq):=hgr1.more _ _
         have hgA:Grown wr (grow (w2.drewN nq) osq):=hgr2
         have hg3:g<(grow (w2.drewN nq) osq).heap.size:=Nat.lt_of_lt_of_le hg1 hgA.below.size
         have q0:=(hgA.below.cell (p:=⟨g,off+i*3,none⟩) hg1).trans ((HG.o.below.cell (p:=⟨g,off+i*3,none⟩) HG0.o).trans HC.o.1)
         have q1:=(hgA.below.cell (p:=⟨g,off+i*3+1,none⟩) hg1).trans ((HG.o.below.cell (p:=⟨g,off+i*3+1,none⟩) HG0.o).trans HC.o.2.1)
         have q2:=(hgA.below.cell (p:=⟨g,off+i*3+2,none⟩) hg1).trans ((HG.o.below.cell (p:=⟨g,off+i*3+2,none⟩) HG0.o).trans HC.o.2.2)
         have hB3:=below_next HB1.o (Jn) hgA.below
         have hR3:=RdK.below hro hgA.below
         have HR9:Hid (Risen (l.take (i+1)) (out.take k++⟨xk,xi,xt⟩::out.drop k)):=by
          have hkl:k<=out.length:=by rw[HM.o];omega
          refine ⟨rise_insert HRS.o.1 hkl HL.o (fun hj=>by rw[cmpV_neg,HP.o,HZ.o];have h1:=HZ0.o;have h2:z≠0:=fun e=>HNE.o (cmpV_zero.1 (HZ.o.trans e));omega),fun v=>?_⟩
          rw[List.take_succ_eq_append_getElem hi',HX.o,List.mem_append,List.mem_append,List.mem_cons,<-HRS.o.2 v,List.mem_singleton]
          have:v∈out↔v∈out.take k∨v∈out.drop k:=by rw[<-List.mem_append,List.take_append_drop]
          rw[this]
          constructor
          ·rintro (h | h | h)
           ·exact .inl (.inl h)
           ·exact .inr h
           ·exact .inl (.inr h)
          ·rintro ((h | h) | h)
           ·exact .inl h
           ·exact .inr (.inr h)
           ·exact .inr (.inl h)
         have hlk:(out.take k).length=k:=by rw[List.length_take,HM.o];omega
         have hld:(out.drop k).length=(m-k):=by have h1:=HM.o;rw[List.length_drop];omega
         have hl9:(out.take k++(⟨xk,xi,xt⟩:Val)::out.drop k).length=m+1:=by have h1:=hlk;have h2:=hld;rw[List.length_append,List.length_cons];omega
         have HL9:=Jh hl9
         clear f0 f1 f2 z0 z1 z2 hgr1 hgr2 hg2 hgb2 hkk hro hw2 hw4 hne3
         generalize grow (w2.drewN nq) osq=w3 at *
         obtain⟨Bc,hcut,hRc⟩:=run_cutW (k:=k) hR3 HM.o (by omega) hmd
         skip
         have hhead:=run_headW (some ⟨gb,ob,none⟩) m d k (by omega) hmd
         have hRh:RdW w3 (some ⟨gb,ob,none⟩) (out.take k):=RdK.take hR3 k
         have hb0:Below w3.heap.size w3 (w3.alloc (.cells #[] 52)):=(Below.refl _ _).alloc (Jn) _
         have hO0:OwnW (w3.alloc (.cells #[] 52)) w3.heap.size (.slice (some ⟨w3.heap.size,0,none⟩) 0 0) []:=OwnK.empty (L:=layV) w3 w3.heap.size (Jn)
         have hR0:=RdK.below hRh hb0
         have hs0:w3.heap.size<=(w3.alloc (.cells #[] 52)).heap.size:=hb0.size
         go_wp2_with (first
          | (at_builtin;refine wpList_append_k layV (by rfl) (.tmp 46) (.tmp 49) 95 underV rfl w3.heap.size _ [] (by rfl) hO0 (some ⟨gb,ob,none⟩) (out.take k) k d (by rfl) hR0 hlk (by rw[maxLen_num];simp;omega) (by show (0+k)*32<=_;omega) hs0 ?_;intro v1 x1 o1 b1 g1 l1;rw[List.nil_append] at o1;have hB1:=b1 w3 hb0;have d0:=(hB1.cell (p:=⟨g,off+i*3,none⟩) hg3).trans q0;have d1:=(hB1.cell (p:=⟨g,off+i*3+1,none⟩) hg3).trans q1;have d2:=(hB1.cell (p:=⟨g,off+i*3+2,none⟩) hg3).trans q2;have hrx:=rdk_one layV x1 ⟨xk,xi,xt⟩ 52 (vC xk xi xt.toArray) rfl;have hbx:Below x1.heap.size x1 (x1.alloc (.cells (vC xk xi xt.toArray) 52)):=(Below.refl _ _).alloc (Jn) _;have oo1:=OwnK.below o1 hbx;have hBx:=below_next hB1 (Jn) hbx;have hs1:w3.heap.size<=(x1.alloc (.cells (vC xk xi xt.toArray) 52)).heap.size:=hBx.size;clear b1 g1 l1 hb0 hO0 hR0 hs0 hbx o1 hhead hRh)
          | (at_builtin;refine wpList_append_k layV (by rfl) (.tmp 51) (.tmp 56) 95 underV rfl w3.heap.size _ (out.take k) (by rfl) oo1 _ [⟨xk,xi,xt⟩] 1 1 (by rfl) hrx rfl (by rw[maxLen_num,hlk];omega) (by show ((out.take k).length+1)*32<=_;rw[hlk];omega) hs1 ?_;intro v2 x2 o2 b2 g2 l2;have hB2:=b2 w3 hBx;have hR2:=RdK.below hRc hB2;have hs2:w3.heap.size<=x2.heap.size:=hB2.size;clear b2 g2 l2 oo1 hrx hs1 d0 d1 d2)
          | (at_builtin;refine wpList_append_k layV (by rfl) (.tmp 58) (.tmp 61) 95 underV rfl w3.heap.size _ (out.take k++[⟨xk,xi,xt⟩]) (by rfl) o2 Bc (out.drop k) (m-k) (d-k) (by rfl) hR2 hld (by rw[maxLen_num,List.length_append,hlk];show k+1+(m-k)<=_;omega) (by show ((out.take k++[(⟨xk,xi,xt⟩:Val)]).length+(m-k))*32<=_;rw[List.length_append,hlk];show (k+1+(m-k))*32<=_;omega) hs2 ?_;intro v3 x3 o3 b3 g3 l3;have hB9:=b3 w3 hB2;rw[List.append_assoc,List.singleton_append] at o3;obtain⟨A9,c9,hv9,hc9,hr9⟩:=OwnK.form o3 HL9.o;subst hv9;clear b3 g3 l3 o2 hR2 hs2))
         have HB9:=Jh (hB3.trans (hB9.mono hB3.size))
         have HO9:=Jh (OwnK.less o3 hB3.size)
         clear hB9 o3 hr9 hB3 hR3 q0 q1 q2 hcut hRc hlk hld hl9 hgA hB1 hB2 hBx
         go_wp2_with fail
         go_roundg (n-(i+1))
         case measure=>omega
         case rel=>exact⟨i+1,_,A9,m+1,c9,by omega,Jn,by go_num,rfl,by omega,hc9,HR9,HL9,HO9,HB9⟩
       ·have hw4:(pk == xk)=false:=by simpa using hw1
        go_wp2_with fail
        refine qgr (fun nq osq=>?_)
        have hgr2:Grown wr (grow (w2.drewN nq) osq):=hgr1.more _ _
        have hgA:Grown wr (grow (w2.drewN nq) osq):=hgr2
        have hg3:g<(grow (w2.drewN nq) osq).heap.size:=Nat.lt_of_lt_of_le hg1 hgA.below.size
        have q0:=(hgA.below.cell (p:=⟨g,off+i*3,none⟩) hg1).trans ((HG.o.below.cell (p:=⟨g,off+i*3,none⟩) HG0.o).trans HC.o.1)
        have q1:=(hgA.below.cell (p:=⟨g,off+i*3+1,none⟩) hg1).trans ((HG.o.below.cell (p:=⟨g,off+i*3+1,none⟩) HG0.o).trans HC.o.2.1)
        have q2:=(hgA.below.cell (p:=⟨g,off+i*3+2,none⟩) hg1).trans ((HG.o.below.cell (p:=⟨g,off+i*3+2,none⟩) HG0.o).trans HC.o.2.2)
        have hB3:=below_next HB1.o (Jn) hgA.below
        have hR3:=RdK.below hro hgA.below
        have HR9:Hid (Risen (l.take (i+1)) (out.take k++⟨xk,xi,xt⟩::out.drop k)):=by
         have hkl:k<=out.length:=by rw[HM.o];omega
         refine ⟨rise_insert HRS.o.1 hkl HL.o (fun hj=>by rw[cmpV_neg,HP.o,HZ.o];have h1:=HZ0.o;have h2:z≠0:=fun e=>HNE.o (cmpV_zero.1 (HZ.o.trans e));omega),fun v=>?_⟩
         rw[List.take_succ_eq_append_getElem hi',HX.o,List.mem_append,List.mem_append,List.mem_cons,<-HRS.o.2 v,List.mem_singleton]
         have:v∈out↔v∈out.take k∨v∈out.drop k:=by rw[<-List.mem_append,List.take_append_drop]
         rw[this]
         constructor
         ·rintro (h | h | h)
          ·exact .inl (.inl h)
          ·exact .inr h
          ·exact .inl (.inr h)
         ·rintro ((h | h) | h)
          ·exact .inl h
          ·exact .inr (.inr h)
          ·exact .inr (.inl h)
        have hlk:(out.take k).length=k:=by rw[List.length_take,HM.o];omega
        have hld:(out.drop k).length=(m-k):=by have h1:=HM.o;rw[List.length_drop];omega
        have hl9:(out.take k++(⟨xk,xi,xt⟩:Val)::out.drop k).length=m+1:=by have h1:=hlk;have h2:=hld;rw[List.length_append,List.length_cons];omega
        have HL9:=Jh hl9
        clear f0 f1 f2 z0 z1 z2 hgr1 hgr2 hg2 hgb2 hkk hro hw1 hw4 hne3
        generalize grow (w2.drewN nq) osq=w3 at *
        obtain⟨Bc,hcut,hRc⟩:=run_cutW (k:=k) hR3 HM.o (by omega) hmd
        skip
        have hhead:=run_headW (some ⟨gb,ob,none⟩) m d k (by omega) hmd
        have hRh:RdW w3 (some ⟨gb,ob,none⟩) (out.take k):=RdK.take hR3 k
        have hb0:Below w3.heap.size w3 (w3.alloc (.cells #[] 52)):=(Below.refl _ _).alloc (Jn) _
        have hO0:OwnW (w3.alloc (.cells #[] 52)) w3.heap.size (.slice (some ⟨w3.heap.size,0,none⟩) 0 0) []:=OwnK.empty (L:=layV) w3 w3.heap.size (Jn)
        have hR0:=RdK.below hRh hb0
        have hs0:w3.heap.size<=(w3.alloc (.cells #[] 52)).heap.size:=hb0.size
        go_wp2_with (first
         | (at_builtin;refine wpList_append_k layV (by rfl) (.tmp 46) (.tmp 49) 95 underV rfl w3.heap.size _ [] (by rfl) hO0 (some ⟨gb,ob,none⟩) (out.take k) k d (by rfl) hR0 hlk (by rw[maxLen_num];simp;omega) (by show (0+k)*32<=_;omega) hs0 ?_;intro v1 x1 o1 b1 g1 l1;rw[List.nil_append] at o1;have hB1:=b1 w3 hb0;have d0:=(hB1.cell (p:=⟨g,off+i*3,none⟩) hg3).trans q0;have d1:=(hB1.cell (p:=⟨g,off+i*3+1,none⟩) hg3).trans q1;have d2:=(hB1.cell (p:=⟨g,off+i*3+2,none⟩) hg3).trans q2;have hrx:=rdk_one layV x1 ⟨xk,xi,xt⟩ 52 (vC xk xi xt.toArray) rfl;have hbx:Below x1.heap.size x1 (x1.alloc (.cells (vC xk xi xt.toArray) 52)):=(Below.refl _ _).alloc (Jn) _;have oo1:=OwnK.below o1 hbx;have hBx:=below_next hB1 (Jn) hbx;have hs1:w3.heap.size<=(x1.alloc (.cells (vC xk xi xt.toArray) 52)).heap.size:=hBx.size;clear b1 g1 l1 hb0 hO0 hR0 hs0 hbx o1 hhead hRh)
         | (at_builtin;refine wpList_append_k layV (by rfl) (.tmp 51) (.tmp 56) 95 underV rfl w3.heap.size _ (out.take k) (by rfl) oo1 _ [⟨xk,xi,xt⟩] 1 1 (by rfl) hrx rfl (by rw[maxLen_num,hlk];omega) (by show ((out.take k).length+1)*32<=_;rw[hlk];omega) hs1 ?_;intro v2 x2 o2 b2 g2 l2;have hB2:=b2 w3 hBx;have hR2:=RdK.below hRc hB2;have hs2:w3.heap.size<=x2.heap.size:=hB2.size;clear b2 g2 l2 oo1 hrx hs1 d0 d1 d2)
         | (at_builtin;refine wpList_append_k layV (by rfl) (.tmp 58) (.tmp 61) 95 underV rfl w3.heap.size _ (out.take k++[⟨xk,xi,xt⟩]) (by rfl) o2 Bc (out.drop k) (m-k) (d-k) (by rfl) hR2 hld (by rw[maxLen_num,List.length_append,hlk];show k+1+(m-k)<=_;omega) (by show ((out.take k++[(⟨xk,xi,xt⟩:Val)]).length+(m-k))*32<=_;rw[List.length_append,hlk];show (k+1+(m-k))*32<=_;omega) hs2 ?_;intro v3 x3 o3 b3 g3 l3;have hB9:=b3 w3 hB2;rw[List.append_assoc,List.singleton_append] at o3;obtain⟨A9,c9,hv9,hc9,hr9⟩:=OwnK.form o3 HL9.o;subst hv9;clear b3 g3 l3 o2 hR2 hs2))
        have HB9:=Jh (hB3.trans (hB9.mono hB3.size))
        have HO9:=Jh (OwnK.less o3 hB3.size)
        clear hB9 o3 hr9 hB3 hR3 q0 q1 q2 hcut hRc hlk hld hl9 hgA hB1 hB2 hBx
        go_wp2_with fail
        go_roundg (n-(i+1))
        case measure=>omega
        case rel=>exact⟨i+1,_,A9,m+1,c9,by omega,Jn,by go_num,rfl,by omega,hc9,HR9,HL9,HO9,HB9⟩
  ·have hin:i=n:=by omega
   subst hin
   have hRS:=HRS.o
   rw[List.take_of_length_le (by rw[HN.o];exact Jn)] at hRS
   go_wp2_with fail
   go_ret
   exact⟨out,B,m,d,rfl,hRS,HM.o,hmi,hmd,HO.o,HB.o⟩
end
end Go.Proofs.YtnfigjggjmncdaaGreat
