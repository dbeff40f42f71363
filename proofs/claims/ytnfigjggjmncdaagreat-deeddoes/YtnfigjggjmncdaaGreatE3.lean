/- Contracts. -/
import Derived.Test.YtnfigjggjmncdaaGreatC2
import Derived.Test.YtnfigjggjmncdaaGreatE2
set_option maxRecDepth 100000
set_option maxHeartbeats 4000000
namespace Go.Proofs.YtnfigjggjmncdaaGreat
section
open Go.RowKit Go.Sort Spans Op
theorem many_zs {u:LU} {l:List Val} {j:Nat} (h:∀t,t<j->(⟨2,0,zs u t⟩:Val)∈l):j<=l.length:=
 many (f:=fun t:Nat=>⟨2,0,zs u t⟩) (fun a b e=>by injection e with _ _ e;have:=congrArg List.length e;rw[zs_len,zs_len] at this;omega) h
theorem rtexts_open (frm:LU) (A:OA) (l:List Val) (n c:Nat) (hf:Short frm) (hn:l.length=n) (hm:n<=1000) (hl:∀v∈l,v.k=2/\v.i=0/\v.t.length<=32) (w:World) (hr:RdW w A l):
  Calls Tryz.prog 122 #[.string ⟨frm.toArray⟩,.string ⟨#[]⟩,.bool true,.slice A n c] w (GivesS w (IsTexts frm [] true l) n):=by
 have HSF:=Jh hf
 have hfl:=hf.len
 have HN:=Jh hn
 have HLL:=Jh hl
 have HR:=Jh hr
 have hY0:=Blk.new w 97 zC
 have hB0:Below w.heap.size w (w.alloc (.cells zC 97)):=(Below.refl _ _).alloc (Jn) _
 have HY0:=Jh hY0
 have HB0:=Jh hB0
 clear hf hn hl hr hY0 hB0
 go_enter Tryz.func122,Tryz.ntmps122
 go_wp2_with fail
 generalize w.alloc (.cells zC 97)=w0 at *
 go_loopg [0] n (fun gg s0 wr=>∃(a:Nat) (F:LU),n-a<=gg/\s0=.string ⟨F.toArray⟩/\F.length<=33+a/\a<=n/\Hid (zs frm a=F)/\Hid (∀j,j<a->(⟨2,0,zs frm j⟩:Val)∈l)/\Hid (Blk wr w.heap.size 97 zC)/\Hid (Below w.heap.size w wr))
 case atStart=>exact⟨0,frm,by omega,rfl,by omega,Nat.zero_le _,zs_zero frm,fun t ht=>absurd ht (by omega),HY0,HB0⟩
 case round=>
  obtain⟨a,F,hgg,rfl,hFl,han,HF,HA,HY,HB⟩:=hrel
  clear HY0 HB0
  by_cases hin:(⟨2,0,F⟩:Val)∈l
  ·have HIN:=Jh hin
   have HA2:Hid (∀j,j<a+1->(⟨2,0,zs frm j⟩:Val)∈l):=fun t ht=>by
    rcases Nat.lt_or_ge t a with h|h
    ·exact HA.o t h
    ·obtain rfl:t=a:=by omega
     rw[HF.o];exact HIN.o
   have hjn:a+1<=n:=by rw[<-HN.o];exact many_zs HA2.o
   have HF2:Hid (zs frm (a+1)=F++[0]):=by show _=_;rw[zs_succ,HF.o]
   have hap:=ba_app0 F
   have hsz:¬9223372036854775807<F.length+1:=by omega
   clear hin
   go_wp2_with fail
   refine (refHas_at A l n c HN.o (by omega) 2 0 F wr (RdK.below HR.o HB.o) true (decide_eq_true HIN.o)).mono ?_
   rintro e w2 ⟨rfl,hg2⟩
   have HY2:=Jh (Blk.below HY.o hg2.below HY.o.lt)
   have HB2:=Jh (below_next HB.o (Jn) hg2.below)
   clear hg2
   go_wp2_with fail
   go_roundg (n-(a+1))
   case measure=>omega
   case rel=>exact⟨a+1,F++[0],Jn,by first | rfl | simp,by rw[List.length_append];show F.length+1<=_;omega,hjn,HF2,HA2,HY2,HB2⟩
  ·have HIN:=Jh hin
   clear hin
   go_wp2_with fail
   refine (refHas_at A l n c HN.o (by omega) 2 0 F wr (RdK.below HR.o HB.o) false (decide_eq_false HIN.o)).mono ?_
   rintro e w2 ⟨rfl,hg2⟩
   have HY2:=Jh (Blk.below HY.o hg2.below HY.o.lt)
   have HB2:=Jh (below_next HB.o (Jn) hg2.below)
   clear hg2 HY HB
   go_wp2_with fail
   go_loopg [1] 1 (fun _ s1 wy=>s1=.string ⟨#[]⟩/\Hid (Blk wy w.heap.size 97 zC)/\Hid (Below w.heap.size w wy))
   case atStart=>exact⟨rfl,HY2,HB2⟩
   case round=>
    obtain⟨rfl,HY,HB⟩:=hrel
    go_wp2_with fail
    have HY3:=HY
    have HB3:=HB
    obtain⟨w3,rfl⟩:∃w3:World,w3=wr:=⟨_,rfl⟩
    have hs3:w.heap.size<w3.heap.size:=HY3.o.lt
    go_loopg [9,10] n (fun gg s9 s10 wz=>∃(i:Nat) (B:OA) (m d:Nat),i<=n/\n-i<=gg/\s10=.int .i64 (i:Int)/\s9=.slice B m d/\m<=i/\m<=d/\Hid (((l.take i).filter fun v=>inT F [] true v.t).length=m)/\Hid (OwnW wz w3.heap.size (.slice B m d) ((l.take i).filter fun v=>inT F [] true v.t))/\Hid (Below w3.heap.size w3 wz))
    case atStart=>exact⟨0,none,0,0,Nat.zero_le _,by omega,rfl,rfl,Jn,Jn,by show _=_;simp,by show OwnK _ _ _ _ _;simpa using OwnK.none_ (L:=layV) _ _,Below.refl _ _⟩
    case round=>
     obtain⟨i,B,m,d,hi1,hgg3,rfl,rfl,hmi,hmd,HM,HO,HBz⟩:=hrel
     have HBw:=Jh (below_next HB3.o (Jn) HBz.o)
     by_cases hlt:i<n
     ·have hi':i<l.length:=by rw[HN.o];exact hlt
      obtain⟨g,off,rfl,hgx,c0,c1,c2⟩:=RdW.at3 (RdK.below HR.o HBw.o) hi'
      have hxl:=(HLL.o _ (List.getElem_mem hi')).2.2
      obtain⟨x,hx⟩:∃x,l[i]=x:=⟨_,rfl⟩
      have HX:=Jh hx
      rw[hx] at c0 c1 c2 hxl
      clear hx
      obtain⟨xk,xi,xt⟩:=x
      dsimp only at c0 c1 c2 hxl
      have hw5:(i:Int)<(n:Int):=by omega
      have hsn:Hid (((l.take (i+1)).filter fun v=>inT F [] true v.t)=if inT F [] true xt=true then ((l.take i).filter fun v=>inT F [] true v.t)++[⟨xk,xi,xt⟩] else ((l.take i).filter fun v=>inT F [] true v.t)):=by
       show _=_
       rw[List.take_succ_eq_append_getElem hi',HX.o,List.filter_append]
       by_cases h1:inT F [] true xt=true<;>simp[h1]
      obtain⟨z1,hz1⟩:∃z,Vals.cmpT xt F=z:=⟨_,rfl⟩
      have HZ1:=Jh hz1
      clear hz1
      go_wp2_with fail
      refine (textG_at xt F (by omega) (by omega) wr).mono ?_
      rintro e w7 ⟨rfl,hg7⟩
      rw[HZ1.o]
      have HO7:=Jh (OwnK.below HO.o hg7.below)
      have HB7:=Jh (below_next HBz.o (Jn) hg7.below)
      replace c0:=(hg7.below.cell (p:=⟨g,off+i*3,none⟩) hgx).trans c0
      replace c1:=(hg7.below.cell (p:=⟨g,off+i*3+1,none⟩) hgx).trans c1
      replace c2:=(hg7.below.cell (p:=⟨g,off+i*3+2,none⟩) hgx).trans c2
      have hgx7:g<w7.heap.size:=Nat.lt_of_lt_of_le hgx hg7.below.size
      clear hg7 HO HBz HBw
      cases hlf:bytesLess xt F with
      | true=>
       have v5:decide (0<=z1)=false:=decide_eq_false (by rw[<-HZ1.o];have:=(cmpT_neg_iff xt F).2 hlf;omega)
       have HT:Hid (¬inT F [] true xt=true):=by show ¬_;unfold inT;rw[hlf];simp
       clear hlf
       have HO8:=HO7
       have HB8:=HB7
       obtain⟨w8,rfl⟩:∃w8:World,w8=w7:=⟨_,rfl⟩
       have HO6:Hid (OwnW w8 w3.heap.size (.slice B m d) ((l.take (i+1)).filter fun v=>inT F [] true v.t)):=by
        show OwnK _ _ _ _ _
        rw[hsn.o,if_neg HT.o]
        exact HO8.o
       have HM6:Hid (((l.take (i+1)).filter fun v=>inT F [] true v.t).length=m):=by
        show _=_
        rw[hsn.o,if_neg HT.o]
        exact HM.o
       clear hsn HM c0 c1 c2
       go_wp2_with fail
       go_roundg (n-(i+1))
       case measure=>omega
       case rel=>exact⟨i+1,B,m,d,by omega,Jn,by go_num,rfl,by omega,hmd,HM6,HO6,HB8⟩
      | false=>
       have v5:decide (0<=z1)=true:=decide_eq_true (by rw[<-HZ1.o];have:¬Vals.cmpT xt F<0:=(fun h=>by have:=(cmpT_neg_iff xt F).1 h;rw[hlf] at this;cases this);omega)
       have HLF:=Jh hlf
       clear hlf
       have HT:Hid (inT F [] true xt=true):=by show _=_;unfold inT;rw[HLF.o];rfl
       have HO8:=HO7
       have HB8:=HB7
       obtain⟨w8,rfl⟩:∃w8:World,w8=w7:=⟨_,rfl⟩
       have hrx:=rdk_one layV w8 ⟨xk,xi,xt⟩ 52 (vC xk xi xt.toArray) rfl
       have hbb:Below w8.heap.size w8 (w8.alloc (.cells (vC xk xi xt.toArray) 52)):=(Below.refl _ _).alloc (Jn) _
       have hO1:=OwnK.below HO8.o hbb
       have hB1:=below_next HB8.o (Jn) hbb
       have hs1:=hB1.size
       obtain⟨lk,hlk⟩:∃lk,((l.take i).filter fun v=>inT F [] true v.t)=lk:=⟨_,rfl⟩
       have HLK:=Jh hlk
       rw[hlk] at hO1 HM
       clear hlk hbb
       go_wp2_with (at_builtin;refine wpList_append_k layV (by rfl) (.tmp 83) (.tmp 88) 95 underV rfl w3.heap.size _ lk (by rfl) hO1 _ [⟨xk,xi,xt⟩] 1 1 (by rfl) hrx rfl (by rw[maxLen_num,HM.o];omega) (by show (lk.length+1)*32<=_;rw[HM.o];omega) hs1 ?_;intro v6 w6 ho6 hB6' hg6' hl6';have hlen:(lk++[(⟨xk,xi,xt⟩:Val)]).length=m+1:=(by rw[List.length_append,HM.o];rfl);obtain⟨A9,c9,hv9,hc9,hr9⟩:=OwnK.form ho6 hlen;subst hv9)
       have HB6:=Jh (hB6' w3 hB1)
       have HO6:Hid (OwnW w6 w3.heap.size (.slice A9 (m+1) c9) ((l.take (i+1)).filter fun v=>inT F [] true v.t)):=by
        show OwnK _ _ _ _ _
        rw[hsn.o,if_pos HT.o,HLK.o]
        exact ho6
       have HM6:Hid (((l.take (i+1)).filter fun v=>inT F [] true v.t).length=m+1):=by
        show _=_
        rw[hsn.o,if_pos HT.o,HLK.o]
        exact hlen
       clear hB6' hg6' hl6' ho6 hlen hr9 hrx hO1 hB1 hs1 c0 c1 c2 hsn HM
       go_wp2_with fail
       go_roundg (n-(i+1))
       case measure=>omega
       case rel=>exact⟨i+1,A9,m+1,c9,by omega,Jn,by go_num,rfl,by omega,hc9,HM6,HO6,HB6⟩
     ·have hin3:i=n:=by omega
      subst hin3
      have hO:=HO.o
      have hMM:=HM.o
      rw[List.take_of_length_le (by rw[HN.o];exact Jn)] at hO hMM
      obtain⟨_,_,e1,_,hrd⟩:=OwnK.rd hO
      injection e1 with e1 e2 e3
      subst e1
      have HRD:=Jh hrd
      have HMM:=Jh hMM
      have HTL:Hid (∀v∈(l.filter fun v=>inT F [] true v.t),v.t.length<=1000):=fun v hv=>by
       have:=(HLL.o v (List.mem_filter.1 hv).1).2.2
       omega
      have HY4:=Jh (Blk.below HY3.o HBz.o hs3)
      clear hO hMM hrd e2 e3 HO HM HBz
      go_wp2_with fail
      refine (rise_at B (l.filter fun v=>inT F [] true v.t) m d HMM.o (by omega) HTL.o wr HRD.o).mono ?_
      rintro e w5 ⟨out,A7,n7,c7,rfl,hrs,hl7,hnm,hc7,ho7,hb7⟩
      have HP:Hid (IsTexts frm [] true l ⟨2,0,0,F,[],true,out⟩):=by
       show IsTexts _ _ _ _ _
       rw[<-HF.o]
       refine texts_mk (b:=0) HA.o (by rw[HF.o];exact HIN.o) (fun h=>by cases h) (moved_short (fun v hv=>(HLL.o v hv).2.2) HSF.o HA.o) (fun h=>rfl) (fun h=>by cases h) HLL.o (fun v=>?_) ?_
       ·rw[hrs.2 v,List.mem_filter,HF.o]
        unfold inT
        simp only[Bool.and_eq_true,Bool.or_eq_true,Bool.not_eq_true']
       ·exact riseT_of hrs.1 fun v hv=>by
         have:=HLL.o v (List.mem_filter.1 ((hrs.2 v).1 hv)).1
         exact⟨this.1,this.2.1⟩
      have hY5:=Blk.below HY4.o hb7 HY4.o.lt
      have hB5:=below_next HBw.o (Jn) hb7
      have hwr:w.heap.size<wr.heap.size:=HY4.o.lt
      obtain⟨u0,u1,u2,u3,u4,u5,u6,q0,q1,q2,q3,q4,q5,q6⟩:=blk7 hY5
      have hlY:=hY5.lt
      have HL7:=Jh hl7
      clear hrs hb7 hl7
      go_wp2_with fail
      refine bodyPost_ret (v:=spF 2 0 0 F [] true A7 n7 c7) (by simp[results,Tryz.results122,go_sem,u0,u1,u2,u3,u4,u5,u6]) rfl ?_
      exact⟨⟨2,0,0,F,[],true,out⟩,HP.o,by show out.length<=_;have:=HL7.o;omega,A7,n7,c7,rfl,HL7.o,hc7,(OwnK.put7 ho7 (by omega) _ _ _ _ _ _ _).less (by omega),below_put7 hB5 (Jn) _ _ _ _ _ _ _⟩
theorem rtexts_shut (frm to_:LU) (A:OA) (l:List Val) (n c:Nat) (hf:Short frm) (ht:Short to_) (hn:l.length=n) (hm:n<=1000) (hl:∀v∈l,v.k=2/\v.i=0/\v.t.length<=32) (w:World) (hr:RdW w A l):
  Calls Tryz.prog 122 #[.string ⟨frm.toArray⟩,.string ⟨to_.toArray⟩,.bool false,.slice A n c] w (GivesS w (IsTexts frm to_ false l) n):=by
 have HSF:=Jh hf
 have hfl:=hf.len
 have HST:=Jh ht
 have htl:=ht.len
 have HN:=Jh hn
 have HLL:=Jh hl
 have HR:=Jh hr
 have hY0:=Blk.new w 97 zC
 have hB0:Below w.heap.size w (w.alloc (.cells zC 97)):=(Below.refl _ _).alloc (Jn) _
 have HY0:=Jh hY0
 have HB0:=Jh hB0
 clear hf ht hn hl hr hY0 hB0
 go_enter Tryz.func122,Tryz.ntmps122
 go_wp2_with fail
 generalize w.alloc (.cells zC 97)=w0 at *
 go_loopg [0] n (fun gg s0 wr=>∃(a:Nat) (F:LU),n-a<=gg/\s0=.string ⟨F.toArray⟩/\F.length<=33+a/\a<=n/\Hid (zs frm a=F)/\Hid (∀j,j<a->(⟨2,0,zs frm j⟩:Val)∈l)/\Hid (Blk wr w.heap.size 97 zC)/\Hid (Below w.heap.size w wr))
 case atStart=>exact⟨0,frm,by omega,rfl,by omega,Nat.zero_le _,zs_zero frm,fun t ht=>absurd ht (by omega),HY0,HB0⟩
 case round=>
  obtain⟨a,F,hgg,rfl,hFl,han,HF,HA,HY,HB⟩:=hrel
  clear HY0 HB0
  by_cases hin:(⟨2,0,F⟩:Val)∈l
  ·have HIN:=Jh hin
   have HA2:Hid (∀j,j<a+1->(⟨2,0,zs frm j⟩:Val)∈l):=fun t ht=>by
    rcases Nat.lt_or_ge t a with h|h
    ·exact HA.o t h
    ·obtain rfl:t=a:=by omega
     rw[HF.o];exact HIN.o
   have hjn:a+1<=n:=by rw[<-HN.o];exact many_zs HA2.o
   have HF2:Hid (zs frm (a+1)=F++[0]):=by show _=_;rw[zs_succ,HF.o]
   have hap:=ba_app0 F
   have hsz:¬9223372036854775807<F.length+1:=by omega
   clear hin
   go_wp2_with fail
   refine (refHas_at A l n c HN.o (by omega) 2 0 F wr (RdK.below HR.o HB.o) true (decide_eq_true HIN.o)).mono ?_
   rintro e w2 ⟨rfl,hg2⟩
   have HY2:=Jh (Blk.below HY.o hg2.below HY.o.lt)
   have HB2:=Jh (below_next HB.o (Jn) hg2.below)
   clear hg2
   go_wp2_with fail
   go_roundg (n-(a+1))
   case measure=>omega
   case rel=>exact⟨a+1,F++[0],Jn,by first | rfl | simp,by rw[List.length_append];show F.length+1<=_;omega,hjn,HF2,HA2,HY2,HB2⟩
  ·have HIN:=Jh hin
   clear hin
   go_wp2_with fail
   refine (refHas_at A l n c HN.o (by omega) 2 0 F wr (RdK.below HR.o HB.o) false (decide_eq_false HIN.o)).mono ?_
   rintro e w2 ⟨rfl,hg2⟩
   have HY2:=Jh (Blk.below HY.o hg2.below HY.o.lt)
   have HB2:=Jh (below_next HB.o (Jn) hg2.below)
   clear hg2 HY HB
   go_upto_block 2 with fail
   go_cut [1] from 11 (fun s1 wx=>∃(b:Nat) (E:LU),s1=.string ⟨E.toArray⟩/\E.length<=33/\Hid (to_=zs E b)/\Hid (∀j,j<b->(⟨2,0,zs E j⟩:Val)∈l)/\Hid (∀u,E=u++[0]->(⟨2,0,u⟩:Val)∉l)/\Hid (Blk wx w.heap.size 97 zC)/\Hid (Below w.heap.size w wx))
   case rest=>
    obtain⟨b,E,rfl,hEl,HE,HEB,HC,HY,HB⟩:=hcut
    clear HY2 HB2
    obtain⟨wy,rfl⟩:∃wy:World,wy=wc:=⟨_,rfl⟩
    obtain⟨z0,hz0⟩:∃z,Vals.cmpT F E=z:=⟨_,rfl⟩
    have HZ0:=Jh hz0
    clear hz0
    go_wp2_with fail
    refine (textG_at F E (by omega) (by omega) wy).mono ?_
    rintro e w3 ⟨rfl,hg3⟩
    rw[HZ0.o]
    have HY3:=Jh (Blk.below HY.o hg3.below HY.o.lt)
    have HB3:=Jh (below_next HB.o (Jn) hg3.below)
    clear hg3 HY HB
    cases hlf:bytesLess F E with
    | false=>
     have v5:decide (0<=z0)=true:=decide_eq_true (by rw[<-HZ0.o];have:¬Vals.cmpT F E<0:=(fun h=>by have:=(cmpT_neg_iff F E).1 h;rw[hlf] at this;cases this);omega)
     have HFN:Hid (IsTexts frm to_ false l none_):=by
      show IsTexts _ _ _ _ _
      rw[HE.o]
      exact texts_none HA.o HEB.o (by rw[HF.o];exact hlf)
     clear hlf
     obtain⟨u0,u1,u2,u3,u4,u5,u6,q0,q1,q2,q3,q4,q5,q6⟩:=blk7 HY3.o
     have hlY:=HY3.o.lt
     go_wp2_with fail
     refine bodyPost_ret (v:=spF 0 0 0 [] [] false none 0 0) (by simp[results,Tryz.results122,go_sem,u0,u1,u2,u3,u4,u5,u6]) rfl ?_
     exact⟨none_,HFN.o,Nat.zero_le _,none,0,0,rfl,rfl,Jn,OwnK.none_ _ _,below_put7 HB3.o (Jn) _ _ _ _ _ _ _⟩
    | true=>
     have v5:decide (0<=z0)=false:=decide_eq_false (by rw[<-HZ0.o];have:=(cmpT_neg_iff F E).2 hlf;omega)
     have HLE:=Jh hlf
     clear hlf
     go_wp2_with fail
     clear v5
     have hs3:w.heap.size<w3.heap.size:=HY3.o.lt
     go_loopg [9,10] n (fun gg s9 s10 wz=>∃(i:Nat) (B:OA) (m d:Nat),i<=n/\n-i<=gg/\s10=.int .i64 (i:Int)/\s9=.slice B m d/\m<=i/\m<=d/\Hid (((l.take i).filter fun v=>inT F E false v.t).length=m)/\Hid (OwnW wz w3.heap.size (.slice B m d) ((l.take i).filter fun v=>inT F E false v.t))/\Hid (Below w3.heap.size w3 wz))
     case atStart=>exact⟨0,none,0,0,Nat.zero_le _,by omega,rfl,rfl,Jn,Jn,by show _=_;simp,by show OwnK _ _ _ _ _;simpa using OwnK.none_ (L:=layV) _ _,Below.refl _ _⟩
     case round=>
      obtain⟨i,B,m,d,hi1,hgg3,rfl,rfl,hmi,hmd,HM,HO,HBz⟩:=hrel
      have HBw:=Jh (below_next HB3.o (Jn) HBz.o)
      by_cases hlt:i<n
      ·have hi':i<l.length:=by rw[HN.o];exact hlt
       obtain⟨g,off,rfl,hgx,c0,c1,c2⟩:=RdW.at3 (RdK.below HR.o HBw.o) hi'
       have hxl:=(HLL.o _ (List.getElem_mem hi')).2.2
       obtain⟨x,hx⟩:∃x,l[i]=x:=⟨_,rfl⟩
       have HX:=Jh hx
       rw[hx] at c0 c1 c2 hxl
       clear hx
       obtain⟨xk,xi,xt⟩:=x
       dsimp only at c0 c1 c2 hxl
       have hw5:(i:Int)<(n:Int):=by omega
       have hsn:Hid (((l.take (i+1)).filter fun v=>inT F E false v.t)=if inT F E false xt=true then ((l.take i).filter fun v=>inT F E false v.t)++[⟨xk,xi,xt⟩] else ((l.take i).filter fun v=>inT F E false v.t)):=by
        show _=_
        rw[List.take_succ_eq_append_getElem hi',HX.o,List.filter_append]
        by_cases h1:inT F E false xt=true<;>simp[h1]
       obtain⟨z1,hz1⟩:∃z,Vals.cmpT xt F=z:=⟨_,rfl⟩
       have HZ1:=Jh hz1
       clear hz1
       go_wp2_with fail
       refine (textG_at xt F (by omega) (by omega) wr).mono ?_
       rintro e w7 ⟨rfl,hg7⟩
       rw[HZ1.o]
       have HO7:=Jh (OwnK.below HO.o hg7.below)
       have HB7:=Jh (below_next HBz.o (Jn) hg7.below)
       replace c0:=(hg7.below.cell (p:=⟨g,off+i*3,none⟩) hgx).trans c0
       replace c1:=(hg7.below.cell (p:=⟨g,off+i*3+1,none⟩) hgx).trans c1
       replace c2:=(hg7.below.cell (p:=⟨g,off+i*3+2,none⟩) hgx).trans c2
       have hgx7:g<w7.heap.size:=Nat.lt_of_lt_of_le hgx hg7.below.size
       clear hg7 HO HBz HBw
       cases hlf:bytesLess xt F with
       | true=>
        have v5:decide (0<=z1)=false:=decide_eq_false (by rw[<-HZ1.o];have:=(cmpT_neg_iff xt F).2 hlf;omega)
        have HT:Hid (¬inT F E false xt=true):=by show ¬_;unfold inT;rw[hlf];simp
        clear hlf
        have HO8:=HO7
        have HB8:=HB7
        obtain⟨w8,rfl⟩:∃w8:World,w8=w7:=⟨_,rfl⟩
        have HO6:Hid (OwnW w8 w3.heap.size (.slice B m d) ((l.take (i+1)).filter fun v=>inT F E false v.t)):=by
         show OwnK _ _ _ _ _
         rw[hsn.o,if_neg HT.o]
         exact HO8.o
        have HM6:Hid (((l.take (i+1)).filter fun v=>inT F E false v.t).length=m):=by
         show _=_
         rw[hsn.o,if_neg HT.o]
         exact HM.o
        clear hsn HM c0 c1 c2
        go_wp2_with fail
        go_roundg (n-(i+1))
        case measure=>omega
        case rel=>exact⟨i+1,B,m,d,by omega,Jn,by go_num,rfl,by omega,hmd,HM6,HO6,HB8⟩
       | false=>
        have v5:decide (0<=z1)=true:=decide_eq_true (by rw[<-HZ1.o];have:¬Vals.cmpT xt F<0:=(fun h=>by have:=(cmpT_neg_iff xt F).1 h;rw[hlf] at this;cases this);omega)
        have HLF:=Jh hlf
        clear hlf
        obtain⟨z2,hz2⟩:∃z,Vals.cmpT xt E=z:=⟨_,rfl⟩
        have HZ2:=Jh hz2
        clear hz2
        go_wp2_with fail
        refine (textG_at xt E (by omega) (by omega) w7).mono ?_
        rintro e w8 ⟨rfl,hg8⟩
        rw[HZ2.o]
        have hgb:=hg8.below
        have HO8:=Jh (OwnK.below HO7.o hgb)
        have HB8:=Jh (below_next HB7.o (Jn) hgb)
        replace c0:=(hgb.cell (p:=⟨g,off+i*3,none⟩) hgx7).trans c0
        replace c1:=(hgb.cell (p:=⟨g,off+i*3+1,none⟩) hgx7).trans c1
        replace c2:=(hgb.cell (p:=⟨g,off+i*3+2,none⟩) hgx7).trans c2
        have hgx8:g<w8.heap.size:=Nat.lt_of_lt_of_le hgx7 hgb.size
        clear hgb hg8
        by_cases hlt2:bytesLess xt E=true
        ·have v6:decide (z2<0)=true:=decide_eq_true (by rw[<-HZ2.o];exact (cmpT_neg_iff _ _).2 hlt2)
         have HT:Hid (inT F E false xt=true):=by show _=_;unfold inT;rw[HLF.o,hlt2];rfl
         clear hlt2 v5
         have hrx:=rdk_one layV w8 ⟨xk,xi,xt⟩ 52 (vC xk xi xt.toArray) rfl
         have hbb:Below w8.heap.size w8 (w8.alloc (.cells (vC xk xi xt.toArray) 52)):=(Below.refl _ _).alloc (Jn) _
         have hO1:=OwnK.below HO8.o hbb
         have hB1:=below_next HB8.o (Jn) hbb
         have hs1:=hB1.size
         obtain⟨lk,hlk⟩:∃lk,((l.take i).filter fun v=>inT F E false v.t)=lk:=⟨_,rfl⟩
         have HLK:=Jh hlk
         rw[hlk] at hO1 HM
         clear hlk hbb
         go_wp2_with (at_builtin;refine wpList_append_k layV (by rfl) (.tmp 83) (.tmp 88) 95 underV rfl w3.heap.size _ lk (by rfl) hO1 _ [⟨xk,xi,xt⟩] 1 1 (by rfl) hrx rfl (by rw[maxLen_num,HM.o];omega) (by show (lk.length+1)*32<=_;rw[HM.o];omega) hs1 ?_;intro v6 w6 ho6 hB6' hg6' hl6';have hlen:(lk++[(⟨xk,xi,xt⟩:Val)]).length=m+1:=(by rw[List.length_append,HM.o];rfl);obtain⟨A9,c9,hv9,hc9,hr9⟩:=OwnK.form ho6 hlen;subst hv9)
         have HB6:=Jh (hB6' w3 hB1)
         have HO6:Hid (OwnW w6 w3.heap.size (.slice A9 (m+1) c9) ((l.take (i+1)).filter fun v=>inT F E false v.t)):=by
          show OwnK _ _ _ _ _
          rw[hsn.o,if_pos HT.o,HLK.o]
          exact ho6
         have HM6:Hid (((l.take (i+1)).filter fun v=>inT F E false v.t).length=m+1):=by
          show _=_
          rw[hsn.o,if_pos HT.o,HLK.o]
          exact hlen
         clear hB6' hg6' hl6' ho6 hlen hr9 hrx hO1 hB1 hs1 c0 c1 c2 hsn HM
         go_wp2_with fail
         go_roundg (n-(i+1))
         case measure=>omega
         case rel=>exact⟨i+1,A9,m+1,c9,by omega,Jn,by go_num,rfl,by omega,hc9,HM6,HO6,HB6⟩
        ·have v6:decide (z2<0)=false:=decide_eq_false (by rw[<-HZ2.o];exact fun h=>hlt2 ((cmpT_neg_iff _ _).1 h))
         have HT:Hid (¬inT F E false xt=true):=fun h=>hlt2 (by unfold inT at h;rw[HLF.o] at h;simpa using h)
         clear hlt2 v5
         have HO6:Hid (OwnW w8 w3.heap.size (.slice B m d) ((l.take (i+1)).filter fun v=>inT F E false v.t)):=by
          show OwnK _ _ _ _ _
          rw[hsn.o,if_neg HT.o]
          exact HO8.o
         have HM6:Hid (((l.take (i+1)).filter fun v=>inT F E false v.t).length=m):=by
          show _=_
          rw[hsn.o,if_neg HT.o]
          exact HM.o
         clear hsn HM c0 c1 c2
         go_wp2_with fail
         go_roundg (n-(i+1))
         case measure=>omega
         case rel=>exact⟨i+1,B,m,d,by omega,Jn,by go_num,rfl,by omega,hmd,HM6,HO6,HB8⟩
      ·have hin3:i=n:=by omega
       subst hin3
       have hO:=HO.o
       have hMM:=HM.o
       rw[List.take_of_length_le (by rw[HN.o];exact Jn)] at hO hMM
       obtain⟨_,_,e1,_,hrd⟩:=OwnK.rd hO
       injection e1 with e1 e2 e3
       subst e1
       have HRD:=Jh hrd
       have HMM:=Jh hMM
       have HTL:Hid (∀v∈(l.filter fun v=>inT F E false v.t),v.t.length<=1000):=fun v hv=>by
        have:=(HLL.o v (List.mem_filter.1 hv).1).2.2
        omega
       have HY4:=Jh (Blk.below HY3.o HBz.o hs3)
       clear hO hMM hrd e2 e3 HO HM HBz
       go_wp2_with fail
       refine (rise_at B (l.filter fun v=>inT F E false v.t) m d HMM.o (by omega) HTL.o wr HRD.o).mono ?_
       rintro e w5 ⟨out,A7,n7,c7,rfl,hrs,hl7,hnm,hc7,ho7,hb7⟩
       have HP:Hid (IsTexts frm to_ false l ⟨2,0,0,F,E,false,out⟩):=by
        show IsTexts _ _ _ _ _
        rw[<-HF.o]
        refine texts_mk HA.o (by rw[HF.o];exact HIN.o) (fun h=>⟨HE.o,HEB.o⟩) (moved_short (fun v hv=>(HLL.o v hv).2.2) HSF.o HA.o) (fun h=>by cases h) (fun h=>⟨moved_short' (fun v hv=>(HLL.o v hv).2.2) (by rw[<-HE.o];exact HST.o) HEB.o,by rw[HF.o];exact HLE.o,HC.o⟩) HLL.o (fun v=>?_) ?_
        ·rw[hrs.2 v,List.mem_filter,HF.o]
         unfold inT
         simp only[Bool.and_eq_true,Bool.or_eq_true,Bool.not_eq_true']
        ·exact riseT_of hrs.1 fun v hv=>by
          have:=HLL.o v (List.mem_filter.1 ((hrs.2 v).1 hv)).1
          exact⟨this.1,this.2.1⟩
       have hY5:=Blk.below HY4.o hb7 HY4.o.lt
       have hB5:=below_next HBw.o (Jn) hb7
       have hwr:w.heap.size<wr.heap.size:=HY4.o.lt
       obtain⟨u0,u1,u2,u3,u4,u5,u6,q0,q1,q2,q3,q4,q5,q6⟩:=blk7 hY5
       have hlY:=hY5.lt
       have HL7:=Jh hl7
       clear hrs hb7 hl7
       go_wp2_with fail
       refine bodyPost_ret (v:=spF 2 0 0 F E false A7 n7 c7) (by simp[results,Tryz.results122,go_sem,u0,u1,u2,u3,u4,u5,u6]) rfl ?_
       exact⟨⟨2,0,0,F,E,false,out⟩,HP.o,by show out.length<=_;have:=HL7.o;omega,A7,n7,c7,rfl,HL7.o,hc7,(OwnK.put7 ho7 (by omega) _ _ _ _ _ _ _).less (by omega),below_put7 hB5 (Jn) _ _ _ _ _ _ _⟩
   case first=>
   go_wp2_with fail
   go_loopg [1] n (fun gg s1 wy=>∃(b:Nat) (E:LU),n-b<=gg/\s1=.string ⟨E.toArray⟩/\E.length<=33/\b<=n/\Hid (to_=zs E b)/\Hid (∀j,j<b->(⟨2,0,zs E j⟩:Val)∈l)/\Hid (Blk wy w.heap.size 97 zC)/\Hid (Below w.heap.size w wy))
   case atStart=>exact⟨0,to_,by omega,rfl,by omega,Nat.zero_le _,(zs_zero to_).symm,fun t ht=>absurd ht (by omega),HY2,HB2⟩
   case round=>
    obtain⟨b,E,hgg2,rfl,hEl,hbn,HE,HEB,HY,HB⟩:=hrel
    clear HY2 HB2
    obtain⟨wy,rfl⟩:∃wy:World,wy=wr:=⟨_,rfl⟩
    rcases List.eq_nil_or_concat E with hE0|⟨u,x,hE0⟩
    ·subst hE0
     have HC:Hid (∀u,([]:LU)=u++[0]->(⟨2,0,u⟩:Val)∉l):=fun u h=>absurd h (by simp)
     go_wp2_with fail
     go_meet
     case rel=>exact⟨b,[],rfl,hEl,HE,HEB,HC,HY,HB⟩
    ·rw[List.concat_eq_append] at hE0
     subst hE0
     have hul:u.length+1<=33:=by rw[List.length_append] at hEl;exact hEl
     have hz1:(⟨(u++[x]).toArray⟩:ByteArray).size=u.length+1:=by simp[ByteArray.size]
     have hz2:∀h,(⟨(u++[x]).toArray⟩:ByteArray)[u.length]'h=x:=fun _=>by show (u++[x]).toArray[u.length]=x;simp
     have hz3:=ext_init u x
     have hwu:IntKind.i64.wrap (u.length:Int)=(u.length:Int):=by rw[IntKind.wrap_i64];omega
     by_cases hx0:x=0
     ·subst hx0
      by_cases hin2:(⟨2,0,u⟩:Val)∈l
      ·have HIN2:=Jh hin2
       have HE2:Hid (to_=zs u (b+1)):=by
        show _=_
        rw[HE.o,show u++[0]=zs u 1 by rw[zs_succ,zs_zero],zs_add,Nat.add_comm]
       have HEB2:Hid (∀j,j<b+1->(⟨2,0,zs u j⟩:Val)∈l):=fun j hj=>by
        cases j with
        | zero=>rw[zs_zero];exact HIN2.o
        | succ j=>
         have:=HEB.o j (by omega)
         rwa [show u++[0]=zs u 1 by rw[zs_succ,zs_zero],zs_add,Nat.add_comm] at this
       have hjn:b+1<=n:=by rw[<-HN.o];exact many_zs HEB2.o
       clear hin2
       go_wp2_with fail
       refine (refHas_at A l n c HN.o (by omega) 2 0 u wy (RdK.below HR.o HB.o) true (decide_eq_true HIN2.o)).mono ?_
       rintro e w3 ⟨rfl,hg3⟩
       have HY3:=Jh (Blk.below HY.o hg3.below HY.o.lt)
       have HB3:=Jh (below_next HB.o (Jn) hg3.below)
       clear hg3
       go_wp2_with fail
       go_roundg (n-(b+1))
       case measure=>omega
       case rel=>exact⟨b+1,u,Jn,by first | rfl | simp,by omega,hjn,HE2,HEB2,HY3,HB3⟩
      ·have HC:Hid (∀v,u++[0]=v++[0]->(⟨2,0,v⟩:Val)∉l):=fun v h=>by
        have:=List.append_inj_left' h rfl
        subst this
        exact hin2
       have HIN2:=Jh hin2
       clear hin2
       go_wp2_with fail
       refine (refHas_at A l n c HN.o (by omega) 2 0 u wy (RdK.below HR.o HB.o) false (decide_eq_false HIN2.o)).mono ?_
       rintro e w2 ⟨rfl,hg2⟩
       replace HY:=Jh (Blk.below HY.o hg2.below HY.o.lt)
       replace HB:=Jh (below_next HB.o (Jn) hg2.below)
       clear hg2 hz2 hz3 hwu
       generalize w2=wy at *
       go_wp2_with fail
       go_meet
       case rel=>exact⟨b,(u++[0]),rfl,hEl,HE,HEB,HC,HY,HB⟩
     ·have HC:Hid (∀v,u++[x]=v++[0]->(⟨2,0,v⟩:Val)∉l):=fun v h=>by
       have:=List.append_inj_right' h rfl
       simp at this
       exact absurd this hx0
      have hxz:(((x.toNat:Nat):Int) == 0)=false:=by
       have:x.toNat≠0:=fun e=>hx0 (UInt8.toNat_inj.1 (by simpa using e))
       simpa using this
      clear hx0
      go_wp2_with fail
      go_meet
      case rel=>exact⟨b,(u++[x]),rfl,hEl,HE,HEB,HC,HY,HB⟩
end
end Go.Proofs.YtnfigjggjmncdaaGreat
