/- Contracts. -/
import Derived.Deep.LoopGhost
import Derived.Test.YtnfigjggjmncdaaGreatM1
import Derived.Test.YtnfigjggjmncdaaGreatA2
import Derived.Test.YtnfigjggjmncdaaGreatA4
import Derived.Test.YtnfigjggjmncdaaGreatD0
import Derived.Test.YtnfigjggjmncdaaGreatD1
set_option maxRecDepth 100000
set_option maxHeartbeats 4000000
namespace Go.Proofs.YtnfigjggjmncdaaGreat
section
open Go.RowKit Go.Maps Spans Op
theorem prs_out {f:List Pr} {S:LU->Sp} {L:List (LU)} (hL:Fil.IsNames f L) (hr:Fil.AllRight f):(L.flatMap fun n=>prs n (S n))=Fil.outOf L S:=by
 unfold Fil.outOf
 rw[List.flatMap_def,List.flatMap_def]
 refine congrArg _ (List.map_congr_left fun n hn=>?_)
 unfold prs
 rw[if_pos (Fil.name_len hr ((hL.2 n).1 hn))]
def Normed (w:World) (f:List Pr) (e:Ending) (w':World):Prop:=
 ∃(out:List Pr) (er:Int) (A:OA) (n c:Nat),e=.returned (.tuple #[.slice A n c,.int .i64 er])/\Fil.NormIs f out er/\out.length=n/\n<=c/\OwnQ w' w.heap.size (.slice A n c) out/\Below w.heap.size w w'
theorem normed_none {w w':World} {f:List Pr} {er:Int} (h:Fil.NormIs f [] er) (hb:Below w.heap.size w w'):Normed w f (.returned (.tuple #[.slice none 0 0,.int .i64 er])) w':=
 ⟨[],er,none,0,0,rfl,h,rfl,Jn,OwnK.none_ _ _,hb⟩
theorem norm_at (A:OA) (f:List Pr) (n c:Nat) (hn:f.length=n) (hm:n<=100) (hl:PBd f) (w:World) (hr:RdQ w A f):
  Calls Tryz.prog 26 #[.slice A n c] w (Normed w f):=by
 have HN:=Jh hn
 have HLL:=Jh hl
 have HR:=Jh hr
 clear hn hl hr
 by_cases h24:n<=24
 ·have v1:¬(24:Int)<(n:Int):=by omega
  go_enter Tryz.func26,Tryz.ntmps26
  go_wp2_with fail
  by_cases hA:Fil.AllRight f
  ·refine (allRight_at A f n c HN.o (by omega) HLL.o w HR.o true (decide_eq_true hA)).mono ?_
   rintro e w1 ⟨rfl,hb1⟩
   have HA:=Jh hA
   have HB1:=Jh hb1
   clear hA hb1
   go_wp2_with fail
   refine (spansOf_at A f n c HN.o hm HLL.o w1 (RdK.below HR.o HB1.o)).mono ?_
   rintro e w2 ⟨b,S,rfl,hsp,_,hb2⟩
   have HB2:=Jh (below_next HB1.o (Jn) hb2)
   have HSP:=Jh hsp
   have HIS:Hid (Fil.IsSpans f S):=by obtain⟨_,_,_,_,h⟩:=hsp;exact h.spans
   clear hb2 hsp HB1
   go_wp2_with fail
   by_cases hV:Fil.Void f S
   ·refine (anyEmpty_at b f S w2 HSP.o true (decide_eq_true hV)).mono ?_
    rintro e w3 ⟨rfl,hb3⟩
    have HV:=Jh hV
    have HB3:=Jh (below_next HB2.o (Jn) hb3)
    obtain⟨m,D,ho,_,hs⟩:=HSP.o
    have HL:=Jh (names_of ho hs (List.Perm.refl _))
    clear hV hb3 ho hs
    go_wp2_with fail
    go_ret2
    exact normed_none (.inr (.inr ⟨⟨by rw[HN.o];exact h24,HA.o⟩,S,_,HIS.o,HL.o,.inl ⟨HV.o,rfl,rfl⟩⟩)) HB3.o
   ·refine (anyEmpty_at b f S w2 HSP.o false (decide_eq_false hV)).mono ?_
    rintro e w3 ⟨rfl,hb3⟩
    have HV:=Jh hV
    have HB3:=Jh (below_next HB2.o (Jn) hb3)
    have HSP3:=Jh (HSP.o.below hb3)
    clear hV hb3
    go_wp2_with fail
    refine (predsOf_at b f S w3 HSP3.o (by rw[HN.o];exact hm) HLL.o).mono ?_
    rintro e w4 ⟨L,A4,n4,c4,rfl,hL,hl4,hc4,h11,ho4,hb4⟩
    rw[prs_out hL HA.o] at hl4 ho4
    have HB4:=Jh (below_next HB3.o (Jn) hb4)
    have HL:=Jh hL
    have HL4:=Jh hl4
    have HO4:=Jh (ho4.less (by have:=HB3.o.size;omega:w.heap.size<=w3.heap.size))
    clear hL hl4 ho4 hb4
    by_cases hbig:24<n4
    ·have v2:(24:Int)<(n4:Int):=by omega
     have HBG:=Jh hbig
     clear hbig
     go_wp2_with fail
     go_ret2
     exact normed_none (.inr (.inr ⟨⟨by rw[HN.o];exact h24,HA.o⟩,S,L,HIS.o,HL.o,.inr (.inl ⟨HV.o,by rw[HL4.o];exact HBG.o,rfl,rfl⟩)⟩)) HB4.o
    ·have v2:¬(24:Int)<(n4:Int):=by omega
     have HBG:=Jh hbig
     clear hbig
     go_wp2_with fail
     go_ret2
     exact⟨_,0,A4,n4,c4,rfl,.inr (.inr ⟨⟨by rw[HN.o];exact h24,HA.o⟩,S,L,HIS.o,HL.o,.inr (.inr ⟨HV.o,by rw[HL4.o];have:=HBG.o;omega,rfl,rfl⟩)⟩),HL4.o,hc4,HO4.o,HB4.o⟩
  ·refine (allRight_at A f n c HN.o (by omega) HLL.o w HR.o false (decide_eq_false hA)).mono ?_
   rintro e w1 ⟨rfl,hb1⟩
   have HA:=Jh hA
   have HB1:=Jh hb1
   clear hA hb1
   go_wp2_with fail
   go_ret2
   exact normed_none (.inr (.inl ⟨by rw[HN.o];exact h24,HA.o,rfl,rfl⟩)) HB1.o
 ·have v1:(24:Int)<(n:Int):=by omega
  go_enter Tryz.func26,Tryz.ntmps26
  go_wp2_with fail
  go_ret2
  exact normed_none (.inl ⟨by rw[HN.o];omega,rfl,rfl⟩) (Below.refl _ _)
def Tells (w:World) (P:Prop) (e:Ending) (w':World):Prop:=∃q:Bool,e=.returned (.bool q)/\(q=true↔P)/\Below w.heap.size w w'
theorem fright_at (A:OA) (f:List Pr) (n c:Nat) (hn:f.length=n) (hm:n<=100) (hl:PBd f) (w:World) (hr:RdQ w A f):
  Calls Tryz.prog 68 #[.slice A n c] w (Tells w (Fil.NormIs f f 0)):=by
 have HN:=Jh hn
 have HLL:=Jh hl
 have HR:=Jh hr
 clear hn hl hr
 go_enter Tryz.func68,Tryz.ntmps68
 go_wp2_with fail
 refine (norm_at A f n c HN.o hm HLL.o w HR.o).mono ?_
 rintro e w1 ⟨out,er,A1,n1,c1,rfl,hno,hl1,hc1,ho1,hb1⟩
 have HNO:=Jh hno
 have HL1:=Jh hl1
 have HO1:=Jh ho1
 have HB1:=Jh hb1
 clear hno hl1 ho1 hb1
 by_cases he:er=0
 ·subst he
  have hlen:n1<=100000:=by
   rw[<-HL1.o]
   obtain⟨S,L,hg⟩:=HNO.o.good
   have:=hg.len
   omega
  go_wp2_with fail
  obtain⟨_,_,hr1,_,hrd⟩:=OwnK.rd HO1.o
  injection hr1 with e1 e2 e3
  subst e1
  refine (equalP_at A1 out n1 c1 HL1.o hlen A f n c HN.o (by omega) w1 hrd (RdK.below HR.o HB1.o) _ rfl).mono ?_
  rintro e w2 ⟨rfl,hg2⟩
  have HB2:=Jh (below_next HB1.o (Jn) hg2.below)
  clear hg2 hrd e2 e3
  go_wp2_with fail
  go_ret
  refine ⟨_,rfl,?_,HB2.o⟩
  rw[decide_eq_true_iff]
  exact⟨fun h=>by have:=HNO.o;rwa [h] at this,fun h=>(HNO.o.one h).1⟩
 ·have v1:(er == 0)=false:=beq_eq_false_iff_ne.2 he
  have HE:=Jh he
  clear he
  go_wp2_with fail
  go_ret
  exact⟨false,rfl,⟨fun h=>(by cases h),fun h=>absurd (HNO.o.one h).2 HE.o⟩,HB1.o⟩
end
end Go.Proofs.YtnfigjggjmncdaaGreat
