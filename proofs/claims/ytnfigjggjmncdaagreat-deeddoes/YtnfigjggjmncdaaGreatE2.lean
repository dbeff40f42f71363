/- Contracts. -/
import Derived.Test.YtnfigjggjmncdaaGreatB5
import Derived.Test.YtnfigjggjmncdaaGreatE1
set_option maxRecDepth 100000
set_option maxHeartbeats 4000000
namespace Go.Proofs.YtnfigjggjmncdaaGreat
section
open Go.RowKit Go.Sort Spans Op
theorem len_subV:∀(L M:List Val),L.Nodup->L ⊆ M->L.length<=M.length
 | [],_,_,_=>by simp
 | x::L,M,hd,hs=>by
  have hx:x∈M:=hs (by simp)
  have h1:=(List.nodup_cons.1 hd)
  have h2:=len_subV L (M.erase x) h1.2 fun y hy=>(List.mem_erase_of_ne (fun e=>h1.1 (by rw[<-e];exact hy))).2 (hs (List.mem_cons_of_mem _ hy))
  have h3:=List.length_erase_of_mem hx
  have h4:=List.length_pos_of_mem hx
  rw[List.length_cons]
  omega
theorem many {f:Nat->Val} (hf:∀a b,f a=f b->a=b) {l:List Val} {j:Nat} (h:∀t,t<j->f t∈l):j<=l.length:=by
 have h1:((List.range j).map f).Nodup:=by
  rw[List.nodup_iff_pairwise_ne,List.pairwise_map]
  exact (List.nodup_iff_pairwise_ne.1 List.nodup_range).imp fun hne e=>hne (hf _ _ e)
 have:=len_subV _ l h1 fun v hv=>by
  obtain⟨t,ht,rfl⟩:=List.mem_map.1 hv
  exact h t (List.mem_range.1 ht)
 simpa using this
theorem many_up {K lo:Int} {l:List Val} {j:Nat} (h:∀t:Nat,t<j->(⟨K,lo+t,[]⟩:Val)∈l):j<=l.length:=
 many (f:=fun t:Nat=>⟨K,lo+t,[]⟩) (fun a b e=>by injection e with _ e _;omega) h
theorem many_down {K hi:Int} {l:List Val} {j:Nat} (h:∀t:Nat,t<j->(⟨K,hi-t,[]⟩:Val)∈l):j<=l.length:=
 many (f:=fun t:Nat=>⟨K,hi-t,[]⟩) (fun a b e=>by injection e with _ e _;omega) h
def GivesS (w:World) (P:Sp->Prop) (n:Nat) (e:Ending) (w':World):Prop:=∃r,P r/\r.no.length<=n/\Gives w r e w'
theorem bd_num {K x:Int} (hK:K=1∨K=3) (h1:lowest K<=x) (h2:x<=highest K):-9223372036854775808<=x/\x<=9223372036854775807:=by
 rcases hK with rfl|rfl<;>simp[lowest,highest] at h1 h2<;>omega
theorem rints_more (K lo hi:Int) (A:OA) (l:List Val) (n c:Nat) (hK:K=1∨K=3) (hlo:lowest K<=lo) (hhi:hi<=highest K) (hn:l.length=n) (hm:n<=1000) (hl:∀v∈l,v.k=K/\v.t=[]) (hle:lo<=hi) (w:World) (hr:RdW w A l):
  Calls Tryz.prog 121 #[.int .i64 K,.int .i64 lo,.int .i64 hi,.slice A n c] w (GivesS w (IsInts K lo hi l) n):=by
 have hbl:=bd_num hK hlo (Int.le_trans hle hhi)
 have hbh:=bd_num hK (Int.le_trans hlo hle) hhi
 obtain⟨hb1,hb2⟩:=hbl
 obtain⟨hb3,hb4⟩:=hbh
 have HK:=Jh hK
 have HLO:=Jh hlo
 have HHI:=Jh hhi
 have HN:=Jh hn
 have HLL:=Jh hl
 have HR:=Jh hr
 have hY0:=Blk.new w 97 zC
 have hB0:Below w.heap.size w (w.alloc (.cells zC 97)):=(Below.refl _ _).alloc (Jn) _
 have HY0:=Jh hY0
 have HB0:=Jh hB0
 clear hK hlo hhi hn hl hr hY0 hB0
 go_enter Tryz.func121,Tryz.ntmps121
 go_wp2_with fail
 generalize w.alloc (.cells zC 97)=w0 at *
 go_loopg [1] n (fun gg s1 wr=>∃(j:Nat) (a:Int),n-j<=gg/\s1=.int .i64 a/\lo<=a/\a<=hi/\Hid (a=lo+j)/\Hid (∀t:Nat,t<j->(⟨K,lo+t,[]⟩:Val)∈l)/\Hid (Blk wr w.heap.size 97 zC)/\Hid (Below w.heap.size w wr))
 case atStart=>exact⟨0,lo,by omega,rfl,Int.le_refl _,hle,by show lo=lo+((0:Nat):Int);omega,fun t ht=>absurd ht (by omega),HY0,HB0⟩
 case round=>
  obtain⟨j,a,hgg,rfl,ha1,ha2,HJ,HA,HY,HB⟩:=hrel
  clear HY0 HB0
  have v1:decide (a<=hi)=true:=decide_eq_true ha2
  by_cases hin:(⟨K,a,[]⟩:Val)∈l
  ·have HIN:=Jh hin
   clear hin
   have HA2:Hid (∀t:Nat,t<j+1->(⟨K,lo+t,[]⟩:Val)∈l):=fun t ht=>by
    rcases Nat.lt_or_ge t j with h|h
    ·exact HA.o t h
    ·obtain rfl:t=j:=by omega
     rw[<-HJ.o];exact HIN.o
   have hjn:j+1<=n:=by rw[<-HN.o];exact many_up HA2.o
   go_wp2_with fail
   refine (refHas_at A l n c HN.o (by omega) K a [] wr (RdK.below HR.o HB.o) true (decide_eq_true HIN.o)).mono ?_
   rintro e w2 ⟨rfl,hg2⟩
   have hY2:=Blk.below HY.o hg2.below HY.o.lt
   have hB2:=below_next HB.o (Jn) hg2.below
   by_cases hah:a=hi
   ·have v2:(a == hi)=true:=by simpa using hah
    have HF:Hid (IsInts K lo hi l none_):=ints_none HK.o fun x h1 h2=>by
     have:=HA2.o (x-lo).toNat (by have:=HJ.o;omega)
     rwa [show lo+(((x-lo).toNat:Nat):Int)=x by omega] at this
    clear hah hg2
    obtain⟨u0,u1,u2,u3,u4,u5,u6,q0,q1,q2,q3,q4,q5,q6⟩:=blk7 hY2
    have hlY:=hY2.lt
    go_wp2_with fail
    refine bodyPost_ret (v:=spF 0 0 0 [] [] false none 0 0) (by simp[results,Tryz.results121,go_sem,u0,u1,u2,u3,u4,u5,u6]) rfl ?_
    exact⟨none_,HF.o,Nat.zero_le _,none,0,0,rfl,rfl,Jn,OwnK.none_ _ _,below_put7 hB2 (Jn) _ _ _ _ _ _ _⟩
   ·have v2:(a == hi)=false:=by simpa using hah
    have HY2:=Jh hY2
    have HB2:=Jh hB2
    have hw1:a+1<=9223372036854775807:=by omega
    have HJ2:Hid (a+1=lo+((j+1:Nat):Int)):=by show _=_;rw[HJ.o];omega
    have hlt:a+1<=hi:=by omega
    clear hah hg2 hY2 hB2
    go_wp2_with fail
    go_roundg (n-(j+1))
    case measure=>omega
    case rel=>exact⟨j+1,a+1,Jn,by go_num,by omega,hlt,HJ2,HA2,HY2,HB2⟩
  ·have HIN:=Jh hin
   clear hin
   go_wp2_with fail
   refine (refHas_at A l n c HN.o (by omega) K a [] wr (RdK.below HR.o HB.o) false (decide_eq_false HIN.o)).mono ?_
   rintro e w2 ⟨rfl,hg2⟩
   have HY2:=Jh (Blk.below HY.o hg2.below HY.o.lt)
   have HB2:=Jh (below_next HB.o (Jn) hg2.below)
   clear hg2 HY HB v1
   go_wp2_with fail
   go_loopg [2] n (fun gg s2 wy=>∃(j2:Nat) (b:Int),n-j2<=gg/\s2=.int .i64 b/\a<=b/\b<=hi/\Hid (b=hi-j2)/\Hid (∀t:Nat,t<j2->(⟨K,hi-t,[]⟩:Val)∈l)/\Hid (Blk wy w.heap.size 97 zC)/\Hid (Below w.heap.size w wy))
   case atStart=>exact⟨0,hi,by omega,rfl,ha2,Int.le_refl _,by show hi=hi-((0:Nat):Int);omega,fun t ht=>absurd ht (by omega),HY2,HB2⟩
   case round=>
    obtain⟨j2,b,hgg2,rfl,hb5,hb6,HJ2,HA2,HY,HB⟩:=hrel
    clear HY2 HB2
    have v1:decide (a<=b)=true:=decide_eq_true hb5
    by_cases hin2:(⟨K,b,[]⟩:Val)∈l
    ·have HIN2:=Jh hin2
     have hab:a≠b:=fun e=>HIN.o (by rw[e];exact hin2)
     clear hin2
     have HA3:Hid (∀t:Nat,t<j2+1->(⟨K,hi-t,[]⟩:Val)∈l):=fun t ht=>by
      rcases Nat.lt_or_ge t j2 with h|h
      ·exact HA2.o t h
      ·obtain rfl:t=j2:=by omega
       rw[<-HJ2.o];exact HIN2.o
     have hjn:j2+1<=n:=by rw[<-HN.o];exact many_down HA3.o
     go_wp2_with fail
     refine (refHas_at A l n c HN.o (by omega) K b [] wr (RdK.below HR.o HB.o) true (decide_eq_true HIN2.o)).mono ?_
     rintro e w3 ⟨rfl,hg3⟩
     have HY3:=Jh (Blk.below HY.o hg3.below HY.o.lt)
     have HB3:=Jh (below_next HB.o (Jn) hg3.below)
     have hw1:-9223372036854775808<=b-1:=by omega
     have HJ3:Hid (b-1=hi-((j2+1:Nat):Int)):=by show _=_;rw[HJ2.o];omega
     have hlt:a<=b-1:=by omega
     clear hg3 hab
     go_wp2_with fail
     go_roundg (n-(j2+1))
     case measure=>omega
     case rel=>exact⟨j2+1,b-1,Jn,by go_num,hlt,by omega,HJ3,HA3,HY3,HB3⟩
    ·have HIN2:=Jh hin2
     clear hin2
     go_wp2_with fail
     refine (refHas_at A l n c HN.o (by omega) K b [] wr (RdK.below HR.o HB.o) false (decide_eq_false HIN2.o)).mono ?_
     rintro e w3 ⟨rfl,hg3⟩
     have HY3:=Jh (Blk.below HY.o hg3.below HY.o.lt)
     have HB3:=Jh (below_next HB.o (Jn) hg3.below)
     have v2:decide (b<a)=false:=decide_eq_false (by omega)
     clear hg3 HY HB v1
     go_wp2_with fail
     have hs3:w.heap.size<w3.heap.size:=HY3.o.lt
     go_loopg [9,10] n (fun gg s9 s10 wz=>∃(i:Nat) (B:OA) (m d:Nat),i<=n/\n-i<=gg/\s10=.int .i64 (i:Int)/\s9=.slice B m d/\m<=i/\m<=d/\Hid (((l.take i).filter fun v=>decide (a<v.i) && decide (v.i<b)).length=m)/\Hid (OwnW wz w3.heap.size (.slice B m d) ((l.take i).filter fun v=>decide (a<v.i) && decide (v.i<b)))/\Hid (Below w3.heap.size w3 wz))
     case atStart=>exact⟨0,none,0,0,Nat.zero_le _,by omega,rfl,rfl,Jn,Jn,by show _=_;simp,by show OwnK _ _ _ _ _;simpa using OwnK.none_ (L:=layV) _ _,Below.refl _ _⟩
     case round=>
      obtain⟨i,B,m,d,hi1,hgg3,rfl,rfl,hmi,hmd,HM,HO,HBz⟩:=hrel
      have HBw:=Jh (below_next HB3.o (Jn) HBz.o)
      by_cases hlt:i<n
      ·have hi':i<l.length:=by rw[HN.o];exact hlt
       obtain⟨g,off,rfl,hg,c0,c1,c2⟩:=RdW.at3 (RdK.below HR.o HBw.o) hi'
       obtain⟨x,hx⟩:∃x,l[i]=x:=⟨_,rfl⟩
       have HX:=Jh hx
       rw[hx] at c0 c1 c2
       clear hx
       obtain⟨xk,xi,xt⟩:=x
       dsimp only at c0 c1 c2
       have hw5:(i:Int)<(n:Int):=by omega
       have hsn:Hid (((l.take (i+1)).filter fun v=>decide (a<v.i) && decide (v.i<b))=if a<xi/\xi<b then ((l.take i).filter fun v=>decide (a<v.i) && decide (v.i<b))++[⟨xk,xi,xt⟩] else ((l.take i).filter fun v=>decide (a<v.i) && decide (v.i<b))):=by
        show _=_
        rw[List.take_succ_eq_append_getElem hi',HX.o,List.filter_append]
        by_cases h1:a<xi<;>by_cases h2:xi<b<;>simp[h1,h2]
       by_cases hbt:a<xi/\xi<b
       ·have v3:decide (a<xi)=true:=decide_eq_true hbt.1
        have v4:decide (xi<b)=true:=decide_eq_true hbt.2
        have HBT:=Jh hbt
        have hrx:=rdk_one layV wr ⟨xk,xi,xt⟩ 52 (vC xk xi xt.toArray) rfl
        have hbb:Below wr.heap.size wr (wr.alloc (.cells (vC xk xi xt.toArray) 52)):=(Below.refl _ _).alloc (Jn) _
        have hO1:=OwnK.below HO.o hbb
        have hB1:=below_next HBz.o (Jn) hbb
        have hs1:=hB1.size
        obtain⟨lk,hlk⟩:∃lk,((l.take i).filter fun v=>decide (a<v.i) && decide (v.i<b))=lk:=⟨_,rfl⟩
        have HLK:=Jh hlk
        rw[hlk] at hO1 HM
        clear hlk hbt hbb
        go_wp2_with (at_builtin;refine wpList_append_k layV (by rfl) (.tmp 65) (.tmp 70) 95 underV rfl w3.heap.size _ lk (by rfl) hO1 _ [⟨xk,xi,xt⟩] 1 1 (by rfl) hrx rfl (by rw[maxLen_num,HM.o];omega) (by show (lk.length+1)*32<=_;rw[HM.o];omega) hs1 ?_;intro v6 w6 ho6 hB6' hg6' hl6';have hlen:(lk++[(⟨xk,xi,xt⟩:Val)]).length=m+1:=(by rw[List.length_append,HM.o];rfl);obtain⟨A9,c9,hv9,hc9,hr9⟩:=OwnK.form ho6 hlen;subst hv9)
        have HB6:=Jh (hB6' w3 hB1)
        have HO6:Hid (OwnW w6 w3.heap.size (.slice A9 (m+1) c9) ((l.take (i+1)).filter fun v=>decide (a<v.i) && decide (v.i<b))):=by
         show OwnK _ _ _ _ _
         rw[hsn.o,if_pos HBT.o,HLK.o]
         exact ho6
        have HM6:Hid (((l.take (i+1)).filter fun v=>decide (a<v.i) && decide (v.i<b)).length=m+1):=by
         show _=_
         rw[hsn.o,if_pos HBT.o,HLK.o]
         exact hlen
        clear hB6' hg6' hl6' ho6 hlen hr9 hrx hO1 hB1 hs1 c0 c1 c2 hsn v3 v4 HO HM HBz HBw
        go_wp2_with fail
        go_roundg (n-(i+1))
        case measure=>omega
        case rel=>exact⟨i+1,A9,m+1,c9,by omega,Jn,by go_num,rfl,by omega,hc9,HM6,HO6,HB6⟩
       ·have HO6:Hid (OwnW wr w3.heap.size (.slice B m d) ((l.take (i+1)).filter fun v=>decide (a<v.i) && decide (v.i<b))):=by
         show OwnK _ _ _ _ _
         rw[hsn.o,if_neg hbt]
         exact HO.o
        have HM6:Hid (((l.take (i+1)).filter fun v=>decide (a<v.i) && decide (v.i<b)).length=m):=by
         show _=_
         rw[hsn.o,if_neg hbt]
         exact HM.o
        clear hsn HO HM
        by_cases h1:a<xi
        ·have v3:decide (a<xi)=true:=decide_eq_true h1
         have v4:decide (xi<b)=false:=decide_eq_false fun h=>hbt ⟨h1,h⟩
         clear hbt
         go_wp2_with fail
         go_roundg (n-(i+1))
         case measure=>omega
         case rel=>exact⟨i+1,B,m,d,by omega,Jn,by go_num,rfl,by omega,hmd,HM6,HO6,HBz⟩
        ·have v3:decide (a<xi)=false:=decide_eq_false h1
         clear hbt
         go_wp2_with fail
         go_roundg (n-(i+1))
         case measure=>omega
         case rel=>exact⟨i+1,B,m,d,by omega,Jn,by go_num,rfl,by omega,hmd,HM6,HO6,HBz⟩
      ·have hin3:i=n:=by omega
       subst hin3
       have hO:=HO.o
       have hMM:=HM.o
       rw[List.take_of_length_le (by rw[HN.o];exact Jn)] at hO hMM
       obtain⟨_,_,e1,_,hrd⟩:=OwnK.rd hO
       injection e1 with e1 e2 e3
       subst e1
       have HRD:=Jh hrd
       have HMM:=Jh hMM
       have HTL:Hid (∀v∈(l.filter fun v=>decide (a<v.i) && decide (v.i<b)),v.t.length<=1000):=fun v hv=>by
        rw[(HLL.o v (List.mem_filter.1 hv).1).2];simp
       have HY4:=Jh (Blk.below HY3.o HBz.o hs3)
       clear hO hMM hrd e2 e3 HO HM HBz
       go_wp2_with fail
       refine (rise_at B (l.filter fun v=>decide (a<v.i) && decide (v.i<b)) m d HMM.o (by omega) HTL.o wr HRD.o).mono ?_
       rintro e w5 ⟨out,A7,n7,c7,rfl,hrs,hl7,hnm,hc7,ho7,hb7⟩
       have HP:Hid (IsInts K lo hi l ⟨K,a,b,[],[],false,out⟩):=by
        refine ints_mk HK.o (Int.le_trans HLO.o ha1) (Int.le_trans hb6 HHI.o) hb5 ha1 hb6 (fun x h1 h2=>?_) (fun x h1 h2=>?_) HIN.o HIN2.o (fun v=>?_) ?_
        ·have:=HA.o (x-lo).toNat (by have:=HJ.o;omega)
         rwa [show lo+(((x-lo).toNat:Nat):Int)=x by omega] at this
        ·have:=HA2.o (hi-x).toNat (by have:=HJ2.o;omega)
         rwa [show hi-(((hi-x).toNat:Nat):Int)=x by omega] at this
        ·rw[hrs.2 v,List.mem_filter]
         simp only[Bool.and_eq_true,decide_eq_true_eq]
         exact⟨fun ⟨h1,h2,h3⟩=>⟨h1,(HLL.o v h1).1,(HLL.o v h1).2,h2,h3⟩,fun ⟨h1,_,_,h2,h3⟩=>⟨h1,h2,h3⟩⟩
        ·exact riseN_of (K:=K) hrs.1 fun v hv=>HLL.o v (List.mem_filter.1 ((hrs.2 v).1 hv)).1
       have hY5:=Blk.below HY4.o hb7 HY4.o.lt
       have hB5:=below_next HBw.o (Jn) hb7
       have hwr:w.heap.size<wr.heap.size:=HY4.o.lt
       obtain⟨u0,u1,u2,u3,u4,u5,u6,q0,q1,q2,q3,q4,q5,q6⟩:=blk7 hY5
       have hlY:=hY5.lt
       have HL7:=Jh hl7
       clear hrs hb7 hl7 v2
       go_wp2_with fail
       refine bodyPost_ret (v:=spF K a b [] [] false A7 n7 c7) (by simp[results,Tryz.results121,go_sem,u0,u1,u2,u3,u4,u5,u6]) rfl ?_
       exact⟨⟨K,a,b,[],[],false,out⟩,HP.o,by show out.length<=_;have:=HL7.o;omega,A7,n7,c7,rfl,HL7.o,hc7,(OwnK.put7 ho7 (by omega) _ _ _ _ _ _ _).less (by omega),below_put7 hB5 (Jn) _ _ _ _ _ _ _⟩
theorem rints_none (K lo hi:Int) (A:OA) (l:List Val) (n c:Nat) (hK:K=1∨K=3) (hle:¬lo<=hi) (w:World):
  Calls Tryz.prog 121 #[.int .i64 K,.int .i64 lo,.int .i64 hi,.slice A n c] w (GivesS w (IsInts K lo hi l) n):=by
 have HF:Hid (IsInts K lo hi l none_):=ints_none hK fun x h1 h2=>absurd (Int.le_trans h1 h2) hle
 have hY0:=Blk.new w 97 zC
 have hB0:Below w.heap.size w (w.alloc (.cells zC 97)):=(Below.refl _ _).alloc (Jn) _
 have HY0:=Jh hY0
 have HB0:=Jh hB0
 have v1:decide (lo<=hi)=false:=decide_eq_false hle
 have v2:decide (hi<lo)=true:=decide_eq_true (by omega)
 clear hK hY0 hB0 hle
 go_enter Tryz.func121,Tryz.ntmps121
 go_wp2_with fail
 generalize w.alloc (.cells zC 97)=w0 at *
 go_loopg [1] 1 (fun _ s1 wr=>s1=.int .i64 lo/\Hid (Blk wr w.heap.size 97 zC)/\Hid (Below w.heap.size w wr))
 case atStart=>exact⟨rfl,HY0,HB0⟩
 case round=>
  obtain⟨rfl,HY,HB⟩:=hrel
  clear HY0 HB0
  go_wp2_with fail
  go_loopg [2] 1 (fun _ s2 wy=>s2=.int .i64 hi/\Hid (Blk wy w.heap.size 97 zC)/\Hid (Below w.heap.size w wy))
  case atStart=>exact⟨rfl,HY,HB⟩
  case round=>
   obtain⟨rfl,HY,HB⟩:=hrel
   obtain⟨u0,u1,u2,u3,u4,u5,u6,q0,q1,q2,q3,q4,q5,q6⟩:=blk7 HY.o
   have hlY:=HY.o.lt
   go_wp2_with fail
   refine bodyPost_ret (v:=spF 0 0 0 [] [] false none 0 0) (by simp[results,Tryz.results121,go_sem,u0,u1,u2,u3,u4,u5,u6]) rfl ?_
   exact⟨none_,HF.o,Nat.zero_le _,none,0,0,rfl,rfl,Jn,OwnK.none_ _ _,below_put7 HB.o (Jn) _ _ _ _ _ _ _⟩
theorem rints_at (K lo hi:Int) (A:OA) (l:List Val) (n c:Nat) (hK:K=1∨K=3) (hlo:lowest K<=lo) (hhi:hi<=highest K) (hn:l.length=n) (hm:n<=1000) (hl:∀v∈l,v.k=K/\v.t=[]) (w:World) (hr:RdW w A l):
  Calls Tryz.prog 121 #[.int .i64 K,.int .i64 lo,.int .i64 hi,.slice A n c] w (GivesS w (IsInts K lo hi l) n):=by
 by_cases hle:lo<=hi
 ·exact rints_more K lo hi A l n c hK hlo hhi hn hm hl hle w hr
 ·exact rints_none K lo hi A l n c hK hle w
end
end Go.Proofs.YtnfigjggjmncdaaGreat
