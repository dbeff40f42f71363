/- Contracts. -/
import Derived.Test.YtnfigjggjmncdaaGreatB1
import Derived.Test.YtnfigjggjmncdaaGreatC1
import Derived.Test.YtnfigjggjmncdaaGreatC3
import Derived.Test.YtnfigjggjmncdaaGreatD0
set_option maxRecDepth 100000
set_option maxHeartbeats 4000000
namespace Go.Proofs.YtnfigjggjmncdaaGreat
section
open Go.RowKit Go.Maps Spans Op
theorem RdK.kept {α:Type} {L:Lay α} {w w':World} {A:OA} {es:List α} {b m:Nat} {D:DataW Rw} (h:RdK L w A es) (ho:OwnM w b m D) (hg:w.grownBy w' (some b)):RdK L w' A es:=by
 rcases h with h|⟨g,off,rfl,hgl,hc⟩
 ·exact .inl h
 ·by_cases e:g=b
  ·subst e
   obtain⟨es',clock,hb,_⟩:=ho
   cases es with
   | nil=>exact .inl rfl
   | cons x xs=>
    exfalso
    have hlen:=L.len x
    have hpos:=L.pos
    have h0:(L.enc x)[0]?=some ((L.enc x)[0]'(by omega)):=List.getElem?_eq_getElem (by omega)
    have:=hc 0 (by simp) 0 _ h0
    simp[World.cell?,hb] at this
  ·refine .inr ⟨g,off,rfl,Nat.lt_of_lt_of_le hgl hg.size,fun i hi j v hv=>?_⟩
   exact hg.cell (hc i hi j v hv) (fun k=>e (Option.some.inj k))
theorem Spm.kept {w w':World} {D D':DataW Rw} {f:List Pr} {S:LU->Sp} {b m:Nat} (h:Spm w D f S) (ho:OwnM w b m D') (hg:w.grownBy w' (some b)):Spm w' D f S:=
 ⟨h.map,h.has,fun n hn=>by
  obtain⟨h1,h2,A,c,h3,h4,h5⟩:=h.all n hn
  exact⟨h1,h2,A,c,h3,h4,RdK.kept h5 ho hg⟩⟩
theorem grown7 (b:Nat) (w:World) (u0 u1 u2 u3 u4 u5 u6:Value):w.grownBy (((((((w.setCell ⟨b,0,none⟩ u0).setCell ⟨b,1,none⟩ u1).setCell ⟨b,2,none⟩ u2).setCell ⟨b,3,none⟩ u3).setCell ⟨b,4,none⟩ u4).setCell ⟨b,5,none⟩ u5).setCell ⟨b,6,none⟩ u6) (some b):=by
 have h:∀(w:World) (i:Nat) (u:Value),w.grownBy (w.setCell ⟨b,i,none⟩ u) (some b):=fun w i u=>(Touch.refl b w).set_ i u
 exact ((((((h _ _ _).trans (h _ _ _)).trans (h _ _ _)).trans (h _ _ _)).trans (h _ _ _)).trans (h _ _ _)).trans (h _ _ _)
def Spanned (w:World) (f:List Pr) (e:Ending) (w':World):Prop:=∃b S,e=.returned (.map (some b))/\SpMap w' b f S/\w.heap.size<=b/\Below w.heap.size w w'
theorem spansOf_at (A:OA) (f:List Pr) (n c:Nat) (hn:f.length=n) (hm:n<=100) (hl:∀p∈f,p.n.length<=100/\p.t.length<=100 /\ -9223372036854775808<=p.i/\p.i<=9223372036854775807) (w:World) (hr:RdQ w A f):
  Calls Tryz.prog 51 #[.slice A n c] w (Spanned w f):=by
 have HN:=Jh hn
 have HLL:=Jh hl
 have HR:=Jh hr
 clear hn hl hr
 have hmm:∀(m:Nat) (W:World),(Instr.makeMap 87 (some (.int .i64 (m:Int)))).run Tryz.prog W=.ok (.map (some W.heap.size)) (W.alloc (.map #[] 0)):=fun m W=>by
  simp[Instr.makeMap,run_underlying Tryz.underlying87,asInt,asIntOf]
 have hown0:Hid (OwnM (w.alloc (.map #[] 0)) w.heap.size 0 (.map [])):=World.ownsMap_made (H:=Rw) w Tryz.prog 9 elemR
 have hb0:Hid (Below w.heap.size w (w.alloc (.map #[] 0))):=(Below.refl _ _).alloc (Jn) _
 have hs0:Hid (Spm (w.alloc (.map #[] 0)) (.map []) (f.take 0) (fun _=>none_)):=⟨isMap_empty,fun n=>by simp[Maps.has,Fil.Asked],fun n ⟨p,hp,_⟩=>by simp at hp⟩
 go_enter Tryz.func51,Tryz.ntmps51
 go_wp2_with fail
 clear hmm
 go_loopg [13] n (fun gg s13 wr=>∃(k:Nat) (D:DataW Rw) (S:LU->Sp),k<=n/\n-k<=gg/\s13=.int .i64 (k:Int)/\Hid (OwnM wr w.heap.size k D)/\Hid (Spm wr D (f.take k) S)/\Hid (Below w.heap.size w wr))
 case atStart=>exact⟨0,_,_,Nat.zero_le _,by omega,rfl,hown0,hs0,hb0⟩
 case round=>
  obtain⟨k,D,S,hk,hgg,rfl,HO,HS,HB⟩:=hrel
  clear hown0 hb0 hs0
  by_cases hlt:k<n
  ·have hk':k<f.length:=by rw[HN.o];exact hlt
   have hpl:=HLL.o _ (List.getElem_mem hk')
   obtain⟨g,off,rfl,hg,c0,c1,c2,c3,c4⟩:=RdQ.at5 (RdK.below HR.o HB.o) hk'
   obtain⟨x,hx⟩:∃x,f[k]=x:=⟨_,rfl⟩
   have HX:=Jh hx
   rw[hx] at c0 c1 c2 c3 c4 hpl
   clear hx HLL
   obtain⟨xn,xo,xk,xi,xt⟩:=x
   obtain⟨hp1,hp2,hp3,hp4⟩:=hpl
   dsimp only at hp1 hp2 hp3 hp4 c0 c1 c2 c3 c4
   have w5:(k:Int)<(n:Int):=by omega
   have hP0:=Blk.new wr 54 (pC xn.toArray xo xk xi xt.toArray)
   have hPl:w.heap.size<wr.heap.size:=World.ownsMap.lt HO.o
   have hO1:=World.ownsMap.alloc HO.o (.cells (pC xn.toArray xo xk xi xt.toArray) 54)
   by_cases hask:Fil.Asked (f.take k) xn
   ·obtain⟨ha1,ha2,B,d,ha3,ha4,ha5⟩:=HS.o.all xn hask
    obtain⟨a,hSa⟩:∃a,S xn=a:=⟨_,rfl⟩
    rw[hSa] at ha1 ha2 ha3 ha4 ha5
    clear hSa hask
    obtain⟨K,lo,hi,g1,t1,o1,es⟩:=a
    dsimp only[rw_] at ha2 ha3 ha4 ha5
    obtain⟨m,hml⟩:∃m,es.length=m:=⟨_,rfl⟩
    rw[hml] at ha2 ha3 ha4
    have hmk:m<=k:=by rw[List.length_take] at ha2;omega
    have hlook:(Instr.lookup 87 (.map (some w.heap.size)) (.string ⟨xn.toArray⟩) true).run Tryz.prog (wr.alloc (.cells (pC xn.toArray xo xk xi xt.toArray) 54))=.ok (.tuple #[.agg (sC K lo hi g1.toArray t1.toArray o1 B m d),.bool true]) (wr.alloc (.cells (pC xn.toArray xo xk xi xt.toArray) 54)):=(look_yes hO1 (by omega) ha3).1
    have hV:Blk ((wr.alloc (.cells (pC xn.toArray xo xk xi xt.toArray) 54)).alloc (.cells (sC K lo hi g1.toArray t1.toArray o1 B m d) 97)) (wr.heap.size+1) 97 (sC K lo hi g1.toArray t1.toArray o1 B m d):=by
     have:=Blk.new (wr.alloc (.cells (pC xn.toArray xo xk xi xt.toArray) 54)) 97 (sC K lo hi g1.toArray t1.toArray o1 B m d)
     rwa [show (wr.alloc (.cells (pC xn.toArray xo xk xi xt.toArray) 54)).heap.size=wr.heap.size+1 by simp] at this
    have hP:=Blk.alloc hP0 (.cells (sC K lo hi g1.toArray t1.toArray o1 B m d) 97)
    have HBW:=Jh ((HB.o.alloc (by have:=HB.o.size;omega) (.cells (pC xn.toArray xo xk xi xt.toArray) 54)).alloc (by have:=HB.o.size;simp;omega) (.cells (sC K lo hi g1.toArray t1.toArray o1 B m d) 97))
    have HOW:Hid (OwnM _ _ _ _):=Jh (World.ownsMap.alloc hO1 (.cells (sC K lo hi g1.toArray t1.toArray o1 B m d) 97))
    have hbl:Below wr.heap.size wr ((wr.alloc (.cells (pC xn.toArray xo xk xi xt.toArray) 54)).alloc (.cells (sC K lo hi g1.toArray t1.toArray o1 B m d) 97)):=((Below.refl _ _).alloc (Jn) _).alloc (by simp) _
    have HSW:=Jh (HS.o.below hbl)
    have hrB:=RdK.below ha5 hbl
    have HI:=Jh ha1
    clear ha1 ha2 ha3 ha4 ha5 hbl hO1 hP0 HO HS HB
    go_wp2_with fail
    clear hlook c0 c1 c2 c3 c4 hg
    generalize (wr.alloc (.cells (pC xn.toArray xo xk xi xt.toArray) 54)).alloc (.cells (sC K lo hi g1.toArray t1.toArray o1 B m d) 97)=W at *
    generalize wr.heap.size=P at *
    have hS0:Blk W.drew P 54 (pC xn.toArray xo xk xi xt.toArray)/\Blk W.drew (P+1) 97 (sC K lo hi g1.toArray t1.toArray o1 B m d):=⟨hP,hV⟩
    refine wp_region_held_drew (S:=fun w'=>Blk w' P 54 (pC xn.toArray xo xk xi xt.toArray)/\Blk w' (P+1) 97 (sC K lo hi g1.toArray t1.toArray o1 B m d)) (by kernel_rfl) hS0 (fun _=>?_)
    refine Jz 0 hS0 ?_
    refine Jz 1 hS0 ?_
    refine Jz 2 hS0 ?_
    refine Jz 3 hS0 ?_
    refine Jz 4 hS0 ?_
    have hB3:=HBW.o.drew
    have hM3:OwnM W.drew w.heap.size k D:=HOW.o
    have hSp3:Spm W.drew D (f.take k) S:=HSW.o.below (Below.refl _ _).drew
    have hr3:RdW W.drew B es:=RdK.below hrB (Below.refl _ _).drew
    clear HBW HOW HSW hrB hP hV
    generalize W.drew=w4 at *
    refine Je 5 (fun Ka hKa=>?_)
    go_simp
    with_reducible refine (of_at ⟨xn,xo,xk,xi,xt⟩ w4 (by show xn.length<=_;omega) (by show xt.length<=_;omega) hp3 hp4).mono ?_
    rintro e w5 ⟨⟨uK,ulo,uhi,uf,ut,uo,uno⟩,hof,hul,A5,n5,c5,rfl,hl5,hc5,ho5,hb5⟩
    dsimp only at hul hl5 ho5
    have hS1:Blk w5 P 54 (pC xn.toArray xo xk xi xt.toArray)/\Blk w5 (P+1) 97 (sC K lo hi g1.toArray t1.toArray o1 B m d):=⟨Blk.below hS0.1 hb5 hS0.1.lt,Blk.below hS0.2 hb5 hS0.2.lt⟩
    have hB5:=below_next hB3 (by have:=hB3.size;omega) hb5
    have hM5:=OwnM.below hM3 hb5
    have hSp5:=hSp3.below hb5
    have hr5:=RdK.below hr3 hb5
    go_wp2_with fail
    refine hKa.o _ _ hS1 ?_
    clear hKa Ka hB3 hM3 hSp3 hr3 hb5 hS0
    refine Je 6 (fun Ka hKa=>?_)
    go_simp
    have hcA:Canon ⟨K,lo,hi,g1,t1,o1,es⟩:=HI.o.1
    have hcB:Canon ⟨uK,ulo,uhi,uf,ut,uo,uno⟩:=hof.1
    have hrB:=Gives.rd ho5
    with_reducible refine (meet_at ⟨K,lo,hi,g1,t1,o1,es⟩ ⟨uK,ulo,uhi,uf,ut,uo,uno⟩ hcA hcB B m d A5 n5 c5 w5 hml (by omega) hl5 (by omega) hr5 hrB).mono ?_
    rintro e w6 ⟨⟨rK,rlo,rhi,rf,rt,ro,rno⟩,him,hrl,A7,n7,c7,rfl,hl7,hc7,ho7,hb7⟩
    dsimp only at hrl hl7 ho7
    have hS2:Blk w6 P 54 (pC xn.toArray xo xk xi xt.toArray)/\Blk w6 (P+1) 97 (sC K lo hi g1.toArray t1.toArray o1 B m d):=⟨Blk.below hS1.1 hb7 hS1.1.lt,Blk.below hS1.2 hb7 hS1.2.lt⟩
    have hB6:=below_next hB5 (by have:=hB5.size;omega) hb7
    have hM6:=OwnM.below hM5 hb7
    have hSp6:=hSp5.below hb7
    have hr7:=Gives.rd ho7
    have HA7:Hid (IsAll (Fil.of (f.take k) xn++[⟨xn,xo,xk,xi,xt⟩]) ⟨rK,rlo,rhi,rf,rt,ro,rno⟩):=all_snoc HI.o hof him
    go_wp2_with fail
    refine hKa.o _ _ hS2 ?_
    clear hKa Ka hB5 hM5 hSp5 hr5 hS1 hrB hb7 ho7 ho5 hof him hcA hcB
    refine Je 7 (fun Ka hKa=>?_)
    obtain⟨w7,hrun7,hM7,hg7⟩:=World.ownsMap.update hM6 lawS Tryz.underlying87 (show k<maxLen by rw[maxLen_num];omega) (keyN (n:=xn) (by omega)) (elemR_mk ⟨rK,rlo,rhi,rf,rt,ro,A7,n7,c7⟩)
    have hrun8:(Instr.mapUpdate 87 (.map (some w.heap.size)) (.string ⟨xn.toArray⟩) (.agg (sC rK rlo rhi rf.toArray rt.toArray ro A7 n7 c7))).run Tryz.prog w6=.ok () w7:=hrun7
    have hne1:P≠w.heap.size:=by omega
    have hne2:P+1≠w.heap.size:=by omega
    have hS3:Blk w7 P 54 (pC xn.toArray xo xk xi xt.toArray)/\Blk w7 (P+1) 97 (sC K lo hi g1.toArray t1.toArray o1 B m d):=⟨(hg7.block _ hS2.1.lt (fun e=>hne1 (Option.some.inj e))).trans hS2.1,(hg7.block _ hS2.2.lt (fun e=>hne2 (Option.some.inj e))).trans hS2.2⟩
    have HB7:Hid (Below w.heap.size w w7):=hB6.grown hg7 hB6.size (fun j hj=>by cases hj;exact Jn)
    have HSp7:Hid (Spm w7 (D.put (.string xn) (.held ⟨rK,rlo,rhi,rf,rt,ro,A7,n7,c7⟩)) (f.take (k+1)) (fun n=>if n=xn then ⟨rK,rlo,rhi,rf,rt,ro,rno⟩ else S n)):=by
     show Spm _ _ _ _
     rw[List.take_succ_eq_append_getElem hk',HX.o]
     have hlen:(f.take k).length=k:=by rw[List.length_take,HN.o];omega
     have:=Spm.snoc (p:=⟨xn,xo,xk,xi,xt⟩) (A:=A7) (c:=c7) (hSp6.kept hM6 hg7) HA7.o (by show rno.length<=_;rw[hlen];omega) (by show rno.length<=c7;omega) (RdK.kept hr7 hM6 hg7)
     unfold rw_ at this
     dsimp only at this
     rw[hl7] at this
     exact this
    have HM7:=Jh hM7
    clear hM7 hM6 hSp6 hr7 hB6 hrun7 hg7
    go_simp
    refine hKa.o _ _ hS3 ?_
    clear hKa Ka hS2 hS3 hrun8 HA7
    refine Jd ?_
    clear HI HX HR hml hrl hul hl5 hl7
    go_wp2_with fail
    go_roundg (n-(k+1))
    case measure=>omega
    case rel=>exact⟨k+1,_,_,by omega,Jn,by go_num,HM7,HSp7,HB7⟩
   ·have hno:Maps.has D (.string xn)=false:=by
     cases h:Maps.has D (.string xn) with
     | false=>rfl
     | true=>exact absurd ((HS.o.has xn).1 h) hask
    have hlook:(Instr.lookup 87 (.map (some w.heap.size)) (.string ⟨xn.toArray⟩) true).run Tryz.prog (wr.alloc (.cells (pC xn.toArray xo xk xi xt.toArray) 54))=.ok (.tuple #[.agg zC,.bool false]) (wr.alloc (.cells (pC xn.toArray xo xk xi xt.toArray) 54)):=look_no hO1 (by omega) hno
    have hV0:Blk ((wr.alloc (.cells (pC xn.toArray xo xk xi xt.toArray) 54)).alloc (.cells zC 97)) (wr.heap.size+1) 97 zC:=by
     have:=Blk.new (wr.alloc (.cells (pC xn.toArray xo xk xi xt.toArray) 54)) 97 zC
     rwa [show (wr.alloc (.cells (pC xn.toArray xo xk xi xt.toArray) 54)).heap.size=wr.heap.size+1 by simp] at this
    have hP:=Blk.alloc hP0 (.cells zC 97)
    have HBW:=(HB.o.alloc (by have:=HB.o.size;omega) (.cells (pC xn.toArray xo xk xi xt.toArray) 54)).alloc (by have:=HB.o.size;simp;omega) (.cells zC 97)
    have HOW:=World.ownsMap.alloc hO1 (.cells zC 97)
    have hbl:Below wr.heap.size wr ((wr.alloc (.cells (pC xn.toArray xo xk xi xt.toArray) 54)).alloc (.cells zC 97)):=((Below.refl _ _).alloc (Jn) _).alloc (by simp) _
    have HSK:Hid (∀w',Below wr.heap.size wr w'->Spm w' D (f.take k) S):=fun w' h=>HS.o.below h
    have HBL:=Jh hbl
    have HI:Hid (IsAll (Fil.of (f.take k) xn) ⟨4,0,0,[],[],false,[]⟩):=by
     show IsAll _ _
     rw[of_none hask]
     exact all_nil
    clear hbl hO1 hP0 HO HS HB hno hask
    have HP:=Jh hP
    have HV0:=Jh hV0
    have HBW0:=Jh HBW
    have HOW0:Hid (OwnM _ _ _ _):=Jh HOW
    clear hP hV0 HBW HOW
    go_wp2_with fail
    clear hlook c0 c1 c2 c3 c4 hg
    generalize (wr.alloc (.cells (pC xn.toArray xo xk xi xt.toArray) 54)).alloc (.cells zC 97)=W0 at *
    generalize wr.heap.size=P at *
    refine (all_at W0).mono ?_
    rintro e W1 ⟨rfl,hg1⟩
    have hV1:=Blk.below HV0.o hg1.below HV0.o.lt
    have hP1:=Blk.below HP.o hg1.below HP.o.lt
    obtain⟨z0,z1,z2,z3,z4,z5,z6,y0,y1,y2,y3,y4,y5,y6⟩:=blk7 hV1
    have hlV:=hV1.lt
    have hV:=Blk.put7 hV1 (.int .i64 4) (.int .i64 0) (.int .i64 0) (.string ⟨#[]⟩) (.string ⟨#[]⟩) (.bool false) (.slice none 0 0)
    have hP:=Blk.far7 hP1 (b:=P+1) (by omega) (.int .i64 4) (.int .i64 0) (.int .i64 0) (.string ⟨#[]⟩) (.string ⟨#[]⟩) (.bool false) (.slice none 0 0)
    have hBW1:=below_next HBW0.o (by have:=HBW0.o.size;omega) hg1.below
    have HBW:=Jh (below_put7 hBW1 (show w.heap.size<=P+1 by omega) (.int .i64 4) (.int .i64 0) (.int .i64 0) (.string ⟨#[]⟩) (.string ⟨#[]⟩) (.bool false) (.slice none 0 0))
    have hgt:=grown7 (P+1) W1 (.int .i64 4) (.int .i64 0) (.int .i64 0) (.string ⟨#[]⟩) (.string ⟨#[]⟩) (.bool false) (.slice none 0 0)
    have HOW:Hid (OwnM _ _ _ _):=Jh (World.ownsMap.kept (OwnM.below HOW0.o hg1.below) hgt (fun e=>by have:=Option.some.inj e;omega))
    have hbl1:=HBL.o.trans (hg1.below.mono (by have:=HV0.o.lt;omega))
    have HSW:=Jh (HSK.o _ (below_put7 hbl1 (show P<=P+1 by omega) (.int .i64 4) (.int .i64 0) (.int .i64 0) (.string ⟨#[]⟩) (.string ⟨#[]⟩) (.bool false) (.slice none 0 0)))
    clear hBW1 hgt hP1 HP HV0 HBW0 HOW0 HSK HBL hbl1 hg1
    go_wp2_with fail
    clear z0 z1 z2 z3 z4 z5 z6 y0 y1 y2 y3 y4 y5 y6 hlV hV1
    generalize (((((((W1.setCell ⟨P+1,0,none⟩ (.int .i64 4)).setCell ⟨P+1,1,none⟩ (.int .i64 0)).setCell ⟨P+1,2,none⟩ (.int .i64 0)).setCell ⟨P+1,3,none⟩ (.string ⟨#[]⟩)).setCell ⟨P+1,4,none⟩ (.string ⟨#[]⟩)).setCell ⟨P+1,5,none⟩ (.bool false)).setCell ⟨P+1,6,none⟩ (.slice none 0 0))=W at *
    have hrB:RdW W none []:=.inl rfl
    have hml:([]:List Val).length=0:=rfl
    have hmk:0<=k:=Nat.zero_le _
    have hS0:Blk W.drew P 54 (pC xn.toArray xo xk xi xt.toArray)/\Blk W.drew (P+1) 97 (sC 4 0 0 #[] #[] false none 0 0):=⟨hP,hV⟩
    refine wp_region_held_drew (S:=fun w'=>Blk w' P 54 (pC xn.toArray xo xk xi xt.toArray)/\Blk w' (P+1) 97 (sC 4 0 0 #[] #[] false none 0 0)) (by kernel_rfl) hS0 (fun _=>?_)
    refine Jz 0 hS0 ?_
    refine Jz 1 hS0 ?_
    refine Jz 2 hS0 ?_
    refine Jz 3 hS0 ?_
    refine Jz 4 hS0 ?_
    have hB3:=HBW.o.drew
    have hM3:OwnM W.drew w.heap.size k D:=HOW.o
    have hSp3:Spm W.drew D (f.take k) S:=HSW.o.below (Below.refl _ _).drew
    have hr3:RdW W.drew none []:=RdK.below hrB (Below.refl _ _).drew
    clear HBW HOW HSW hrB hP hV
    generalize W.drew=w4 at *
    refine Je 5 (fun Ka hKa=>?_)
    go_simp
    with_reducible refine (of_at ⟨xn,xo,xk,xi,xt⟩ w4 (by show xn.length<=_;omega) (by show xt.length<=_;omega) hp3 hp4).mono ?_
    rintro e w5 ⟨⟨uK,ulo,uhi,uf,ut,uo,uno⟩,hof,hul,A5,n5,c5,rfl,hl5,hc5,ho5,hb5⟩
    dsimp only at hul hl5 ho5
    have hS1:Blk w5 P 54 (pC xn.toArray xo xk xi xt.toArray)/\Blk w5 (P+1) 97 (sC 4 0 0 #[] #[] false none 0 0):=⟨Blk.below hS0.1 hb5 hS0.1.lt,Blk.below hS0.2 hb5 hS0.2.lt⟩
    have hB5:=below_next hB3 (by have:=hB3.size;omega) hb5
    have hM5:=OwnM.below hM3 hb5
    have hSp5:=hSp3.below hb5
    have hr5:=RdK.below hr3 hb5
    go_wp2_with fail
    refine hKa.o _ _ hS1 ?_
    clear hKa Ka hB3 hM3 hSp3 hr3 hb5 hS0
    refine Je 6 (fun Ka hKa=>?_)
    go_simp
    have hcA:Canon ⟨4,0,0,[],[],false,[]⟩:=HI.o.1
    have hcB:Canon ⟨uK,ulo,uhi,uf,ut,uo,uno⟩:=hof.1
    have hrB:=Gives.rd ho5
    with_reducible refine (meet_at ⟨4,0,0,[],[],false,[]⟩ ⟨uK,ulo,uhi,uf,ut,uo,uno⟩ hcA hcB none 0 0 A5 n5 c5 w5 hml (by omega) hl5 (by omega) hr5 hrB).mono ?_
    rintro e w6 ⟨⟨rK,rlo,rhi,rf,rt,ro,rno⟩,him,hrl,A7,n7,c7,rfl,hl7,hc7,ho7,hb7⟩
    dsimp only at hrl hl7 ho7
    have hS2:Blk w6 P 54 (pC xn.toArray xo xk xi xt.toArray)/\Blk w6 (P+1) 97 (sC 4 0 0 #[] #[] false none 0 0):=⟨Blk.below hS1.1 hb7 hS1.1.lt,Blk.below hS1.2 hb7 hS1.2.lt⟩
    have hB6:=below_next hB5 (by have:=hB5.size;omega) hb7
    have hM6:=OwnM.below hM5 hb7
    have hSp6:=hSp5.below hb7
    have hr7:=Gives.rd ho7
    have HA7:Hid (IsAll (Fil.of (f.take k) xn++[⟨xn,xo,xk,xi,xt⟩]) ⟨rK,rlo,rhi,rf,rt,ro,rno⟩):=all_snoc HI.o hof him
    go_wp2_with fail
    refine hKa.o _ _ hS2 ?_
    clear hKa Ka hB5 hM5 hSp5 hr5 hS1 hrB hb7 ho7 ho5 hof him hcA hcB
    refine Je 7 (fun Ka hKa=>?_)
    obtain⟨w7,hrun7,hM7,hg7⟩:=World.ownsMap.update hM6 lawS Tryz.underlying87 (show k<maxLen by rw[maxLen_num];omega) (keyN (n:=xn) (by omega)) (elemR_mk ⟨rK,rlo,rhi,rf,rt,ro,A7,n7,c7⟩)
    have hrun8:(Instr.mapUpdate 87 (.map (some w.heap.size)) (.string ⟨xn.toArray⟩) (.agg (sC rK rlo rhi rf.toArray rt.toArray ro A7 n7 c7))).run Tryz.prog w6=.ok () w7:=hrun7
    have hne1:P≠w.heap.size:=by omega
    have hne2:P+1≠w.heap.size:=by omega
    have hS3:Blk w7 P 54 (pC xn.toArray xo xk xi xt.toArray)/\Blk w7 (P+1) 97 (sC 4 0 0 #[] #[] false none 0 0):=⟨(hg7.block _ hS2.1.lt (fun e=>hne1 (Option.some.inj e))).trans hS2.1,(hg7.block _ hS2.2.lt (fun e=>hne2 (Option.some.inj e))).trans hS2.2⟩
    have HB7:Hid (Below w.heap.size w w7):=hB6.grown hg7 hB6.size (fun j hj=>by cases hj;exact Jn)
    have HSp7:Hid (Spm w7 (D.put (.string xn) (.held ⟨rK,rlo,rhi,rf,rt,ro,A7,n7,c7⟩)) (f.take (k+1)) (fun n=>if n=xn then ⟨rK,rlo,rhi,rf,rt,ro,rno⟩ else S n)):=by
     show Spm _ _ _ _
     rw[List.take_succ_eq_append_getElem hk',HX.o]
     have hlen:(f.take k).length=k:=by rw[List.length_take,HN.o];omega
     have:=Spm.snoc (p:=⟨xn,xo,xk,xi,xt⟩) (A:=A7) (c:=c7) (hSp6.kept hM6 hg7) HA7.o (by show rno.length<=_;rw[hlen];omega) (by show rno.length<=c7;omega) (RdK.kept hr7 hM6 hg7)
     unfold rw_ at this
     dsimp only at this
     rw[hl7] at this
     exact this
    have HM7:=Jh hM7
    clear hM7 hM6 hSp6 hr7 hB6 hrun7 hg7
    go_simp
    refine hKa.o _ _ hS3 ?_
    clear hKa Ka hS2 hS3 hrun8 HA7
    refine Jd ?_
    clear HI HX HR hml hrl hul hl5 hl7
    go_wp2_with fail
    go_roundg (n-(k+1))
    case measure=>omega
    case rel=>exact⟨k+1,_,_,by omega,Jn,by go_num,HM7,HSp7,HB7⟩
  ·have hkn:Hid (k=n):=by show k=n;omega
   go_wp2_with fail
   go_ret
   have hS:=HS.o
   rw[hkn.o,List.take_of_length_le (by rw[HN.o];exact Jn)] at hS
   exact⟨w.heap.size,S,rfl,⟨k,D,HO.o,by rw[HN.o];exact hk,hS⟩,Jn,HB.o⟩
theorem keys_at (b:Nat) (W:World):Calls Tryz.prog 84 #[.map (some b)] W fun e w'=>e=.returned (.func (.func 115) #[] #[.pointer (some ⟨W.heap.size,0,none⟩)])/\w'=W.alloc (.cells #[.map (some b)] 87):=
 callsIn_wide.1 (Tryz.maps_Keys_84 (some b) W)
def RdS (lo hi:Nat) (w:World) (A:OA) (L:List (LU)):Prop:=hi<=w.heap.size/\(L=[]∨∃g,A=some ⟨g,0,none⟩/\lo<=g/\g<hi/\∀i (h:i<L.length),w.cell? ⟨g,i,none⟩=some (.string ⟨L[i].toArray⟩))
theorem RdS.grown {lo hi:Nat} {w w':World} {A:OA} {L:List (LU)} {j:Option Nat} (h:RdS lo hi w A L) (hg:w.grownBy w' j) (hj:∀i,j=some i->i<lo∨hi<=i):RdS lo hi w' A L:=by
 refine ⟨Nat.le_trans h.1 hg.size,?_⟩
 rcases h.2 with h2|⟨g,rfl,h2,h3,hc⟩
 ·exact .inl h2
 ·exact .inr ⟨g,rfl,h2,h3,fun i hi=>hg.cell (hc i hi) (fun e=>by have:=hj g e.symm;omega)⟩
theorem RdS.below {lo hi:Nat} {w w':World} {A:OA} {L:List (LU)} (h:RdS lo hi w A L) (hb:Below w.heap.size w w'):RdS lo hi w' A L:=
 h.grown (j:=none) ⟨hb.os,hb.tape,hb.output,hb.size,fun k hk _=>hb.block k hk⟩ (fun i hi=>by cases hi)
theorem RdS.at_ {lo hi:Nat} {w:World} {A:OA} {L:List (LU)} (h:RdS lo hi w A L) {k:Nat} (hk:k<L.length):∃g,A=some ⟨g,0,none⟩/\g<w.heap.size/\w.cell? ⟨g,k,none⟩=some (.string ⟨L[k].toArray⟩):=by
 rcases h.2 with rfl|⟨g,rfl,_,hg,hc⟩
 ·simp at hk
 ·exact⟨g,rfl,Nat.lt_of_lt_of_le hg h.1,hc k hk⟩
theorem rds_of {w:World} {base:Nat} {v:Value} {n:Nat} {L:List (LU)} (h:w.ownsRow base 9 1 v n (L.map encStr)) (hn:L.length=n):∃A c,v=.slice A n c/\n<=c/\RdS base w.heap.size w A L:=by
 subst hn
 rcases h.2 with ⟨rfl,h0⟩|⟨g,cap,cur,rfl,hbase,hb,h1,h2,h3,h4⟩
 ·have h0':L.length=0:=h0
  exact⟨none,0,by rw[h0'],by omega,Jn,.inl (List.length_eq_zero_iff.1 h0')⟩
 ·refine ⟨_,cap,rfl,h1,Jn,.inr ⟨g,rfl,hbase,(Array.getElem?_eq_some_iff.1 hb).1,fun i hi=>?_⟩⟩
  have hB:Blk w g 9 cur:=hb
  rw[hB.cell i]
  have e1:(cur.toList.take (L.length*1))[i]?=(L.map encStr)[i]?:=by rw[h4]
  rw[List.getElem?_take_of_lt (by omega)] at e1
  rw[<-Array.getElem?_toList,e1]
  simp[hi,encStr]
theorem sorted_at (b m:Nat) (D:DataW Rw) (f:List Pr) (S:LU->Sp) (w:World) (ho:OwnM w b m D) (hS:Spm w D f S) (hm:m<=100000) (z:Nat) (hz:w.heap.size=z):
  Calls Tryz.prog 83 #[.func (.func 115) #[] #[.pointer (some ⟨z,0,none⟩)]] (w.alloc (.cells #[.map (some b)] 87)) fun e w'=>∃L A n c,e=.returned (.slice A n c)/\L.length=n/\n<=c/\n<=m/\Fil.IsNames f L/\RdS (z+1) w'.heap.size w' A L/\Below (z+1) (w.alloc (.cells #[.map (some b)] 87)) w':=by
 subst hz
 have hsz:=World.ownsMap.size_le ho
 refine (callsIn_wide.1 (Tryz.slices_Sorted_keys_83_84 b m D elemR w ho (by rw[maxLen_num];omega) (by omega))).mono ?_
 rintro e w' ⟨v,ss,rfl,hp,hrow,_,hb⟩
 have hl:=(List.mergeSort_perm ss (fun x y=>decide (x<=y))).length_eq
 obtain⟨A,c,rfl,hc,hr⟩:=rds_of hrow hl
 rw[show (w.alloc (.cells #[.map (some b)] 87)).heap.size=w.heap.size+1 by simp] at hb hr
 have hk:(strKeys D).length=Maps.size D:=by
  obtain⟨es,rfl⟩:=hS.map
  simp[strKeys,Maps.size]
 exact⟨_,A,ss.length,c,rfl,hl,hc,by rw[hp.length_eq,hk];exact hsz,names_of ho hS hp,hr,hb⟩
theorem orP_len (l:List Pr) (d:Pr):(orP l d).length<=l.length+1:=by
 unfold orP
 split
 ·simp
 ·omega
theorem prs_len (n:LU) (a:Sp):(prs n a).length<=a.no.length+3:=by
 have h1:(frmP n a).length<=1:=by
  unfold frmP
  repeat' split
  all_goals simp
 have h2:(toP n a).length<=1:=by
  unfold toP
  repeat' split
  all_goals simp
 have h3:(loP n a).length<=1:=by unfold loP;split<;>simp
 have h4:(hiP n a).length<=1:=by unfold hiP;split<;>simp
 have h5:(noP n a).length=a.no.length:=by simp[noP]
 unfold prs predsOf
 repeat' split
 all_goals first
  | (simp;done)
  | (refine Nat.le_trans (orP_len _ _) ?_;simp only[List.length_append];omega)
  | (simp only[List.length_append,List.length_cons,List.length_nil];omega)
def Toldq (w:World) (f:List Pr) (S:LU->Sp) (e:Ending) (w':World):Prop:=∃L A n c,e=.returned (.slice A n c)/\Fil.IsNames f L/\(L.flatMap fun n=>prs n (S n)).length=n/\n<=c/\n<=11000/\OwnQ w' w.heap.size (.slice A n c) (L.flatMap fun n=>prs n (S n))/\Below w.heap.size w w'
theorem flat_len {S:LU->Sp}:∀(L:List (LU)),(∀n∈L,(S n).no.length<=100)->(L.flatMap fun n=>prs n (S n)).length<=L.length*103
 | [],_=>by simp
 | x::L,h=>by
  have h1:=flat_len L fun n hn=>h n (List.mem_cons_of_mem _ hn)
  have h2:=prs_len x (S x)
  have h3:=h x (by simp)
  rw[List.flatMap_cons,List.length_append,List.length_cons]
  omega
theorem predsOf_at (b:Nat) (f:List Pr) (S:LU->Sp) (w:World) (h:SpMap w b f S) (hm:f.length<=100) (hl:PBd f):
  Calls Tryz.prog 53 #[.map (some b)] w (Toldq w f S):=by
 obtain⟨m,D,hown,hmf,hS⟩:=h
 have hb0:Below w.heap.size w (w.alloc (.cells #[] 54)):=(Below.refl _ _).alloc (Jn) _
 have HO1:Hid (OwnM _ _ _ _):=Jh (World.ownsMap.alloc hown (.cells #[] 54))
 have HS1:=Jh (hS.below hb0)
 have HB1:=Jh hb0
 have HW1:Hid (OwnQ (w.alloc (.cells #[] 54)) w.heap.size (.slice (some ⟨w.heap.size,0,none⟩) 0 0) []):=OwnK.empty (L:=layP) w w.heap.size (Jn)
 have HLL:=Jh hl
 have HO:Hid (OwnM w b m D):=hown
 have HSw:=Jh hS
 clear hS hown hl hb0
 go_enter Tryz.func53,Tryz.ntmps53
 go_wp2_with fail
 refine (keys_at b _).mono ?_
 rintro e w2 ⟨rfl,hw2⟩
 have hs1:(w.alloc (.cells #[] 54)).heap.size=w.heap.size+1:=by simp
 generalize w.alloc (.cells #[] 54)=w1 at *
 subst hw2
 go_wp2_with fail
 refine (sorted_at b m D f S w1 HO1.o HS1.o (by omega) (w.heap.size+1) hs1).mono ?_
 rintro e w3 ⟨L,A,n,c,rfl,hL,hnc,hnm,hnm2,hrd,hb3⟩
 have hb2:Below w1.heap.size w1 (w1.alloc (.cells #[.map (some b)] 87)):=(Below.refl _ _).alloc (Jn) _
 have hb4:Below w1.heap.size w1 w3:=hb2.trans (hb3.mono (by omega))
 have HN:=Jh hL
 have HNM:=Jh hnm2
 have HB3:=Jh (below_next HB1.o (by omega) hb4)
 have HW3:=Jh (OwnK.below HW1.o hb4)
 have HR3:=Jh hrd
 have hs3:w.heap.size+1<w3.heap.size:=by have:=hb4.size;have:=hb3.size;simp at this;omega
 obtain⟨T3,hT3⟩:∃T3,w3.heap.size=T3:=⟨_,rfl⟩
 rw[hT3] at HR3 hs3
 clear HO1 HS1 HB1 HW1 hb2 hb3 hb4 hrd hL hnm2 hT3
 go_wp2_with fail
 clear hs1
 go_loopg [3,11] n (fun gg s3 s11 wr=>∃(k:Nat),k<=n/\n-k<=gg/\s11=.int .i64 (k:Int)/\Hid (RdS (w.heap.size+1+1) T3 wr A L)/\Hid (Below w.heap.size w wr)/\Hid (OwnQ wr w.heap.size s3 ((L.take k).flatMap fun n=>prs n (S n)))/\Hid (∀j,s3.ownBlock=some j->j=w.heap.size∨T3<=j))
 case atStart=>exact⟨0,Nat.zero_le _,by omega,rfl,HR3,HB3,HW3,fun j hj=>.inl (by simpa[Value.ownBlock] using hj.symm)⟩
 case round=>
  obtain⟨k,hk,hgg,rfl,HR,HB,HW,HJ⟩:=hrel
  clear HR3 HB3 HW3
  by_cases hlt:k<n
  ·have hk':k<L.length:=by rw[HN.o];exact hlt
   obtain⟨g,rfl,hg,c0⟩:=HR.o.at_ hk'
   obtain⟨x,hx⟩:∃x,L[k]=x:=⟨_,rfl⟩
   have hax:Fil.Asked f x:=(HNM.o.2 x).1 (by rw[<-hx];exact List.getElem_mem hk')
   have HX:=Jh hx
   rw[hx] at c0
   clear hx
   have hxl:x.length<=100:=by obtain⟨p,hp,e⟩:=hax;rw[<-e];exact (HLL.o p hp).1
   have hbw:Below w.heap.size w wr:=HB.o
   obtain⟨hal,hnl,Ax,cx,hat,hcx,hrx⟩:=(HSw.o.below hbw).all x hax
   have hlook:(Instr.lookup 87 (.map (some b)) (.string ⟨x.toArray⟩) false).run Tryz.prog wr=.ok (.agg (sC ((S x).kind) ((S x).lo) ((S x).hi) ((S x).frm.toArray) ((S x).to_.toArray) ((S x).opn) Ax (S x).no.length cx)) wr:=(look_yes (OwnM.below HO.o hbw) (by omega) hat).2
   have w5:(k:Int)<(n:Int):=by omega
   have HC:=Jh hal.1
   have hnl':(S x).no.length<=100:=by omega
   have HFL:Hid (((L.take k).flatMap fun n=>prs n (S n)).length<=10300):=by
    have h1:=flat_len (S:=S) (L.take k) fun y hy=>by
     have hy':Fil.Asked f y:=(HNM.o.2 y).1 (List.mem_of_mem_take hy)
     have:=(HSw.o.all y hy').2.1
     omega
    have h2:(L.take k).length<=100:=by rw[List.length_take];omega
    show _<=_
    omega
   have HPL:=Jh (prs_len x (S x))
   have hsz:w.heap.size<=wr.heap.size:=hbw.size
   clear hal hnl hat hbw
   go_wp2_with fail
   refine (preds_at x (S x) HC.o Ax _ cx wr rfl (by omega) hrx (by omega) _ rfl).mono ?_
   rintro e w4 ⟨v4,rfl,ho4,hb4⟩
   obtain⟨A4,c4,rfl,hc4,hr4⟩:=OwnK.rd ho4
   have hW4:=OwnK.below HW.o hb4
   have HB4:=Jh (below_next HB.o (by have:=HB.o.size;omega) hb4)
   have HR4:=Jh (HR.o.below hb4)
   have hz4:T3<=w4.heap.size:=HR4.o.1
   have hb4s:=hb4.size
   clear ho4 hb4 hlook c0 hrx HR HB HW
   obtain⟨lk,hlk⟩:∃l,((L.take k).flatMap fun n=>prs n (S n))=l:=⟨_,rfl⟩
   have HLK:=Jh hlk
   rw[hlk] at hW4 HFL
   clear hlk
   obtain⟨l4,hl4⟩:∃l,prs x (S x)=l:=⟨_,rfl⟩
   have HL4:=Jh hl4
   rw[hl4] at hr4 hc4 HPL
   clear hl4
   go_wp2_with (at_builtin;refine wpList_append_k layP (by rfl) (.tmp 15) (.tmp 20) 26 underQ rfl w.heap.size _ lk (by rfl) hW4 A4 l4 l4.length c4 (by rw[<-HL4.o];rfl) hr4 rfl (by rw[maxLen_num];have:=HFL.o;have:=HPL.o;omega) (by show (lk.length+l4.length)*56<=_;have:=HFL.o;have:=HPL.o;omega) (by omega) ?_;intro v6 w6 ho6 hB6 hg6 hl6)
   have HB6:=Jh (hB6 w HB4.o)
   have HR6:=Jh (HR4.o.grown hg6 (fun i hi=>by rcases HJ.o i hi with e | e<;>omega))
   have HJ6:Hid (∀j,v6.ownBlock=some j->j=w.heap.size∨T3<=j):=fun j hj=>by
    rcases hl6 with e|e
    ·exact HJ.o j (by rw[<-e];exact hj)
    ·rw[e] at hj;injection hj with hj;right;omega
   have HW6:Hid (OwnQ w6 w.heap.size v6 ((L.take (k+1)).flatMap fun n=>prs n (S n))):=by
    show OwnK _ _ _ _ _
    rw[List.take_succ_eq_append_getElem hk',HX.o,List.flatMap_append,HLK.o,List.flatMap_singleton,HL4.o]
    exact ho6
   clear hB6 hg6 hl6 ho6 HR4 HB4 hr4 hW4
   go_wp2_with fail
   go_roundg (n-(k+1))
   case measure=>omega
   case rel=>exact⟨k+1,by omega,Jn,by go_num,HR6,HB6,HW6,HJ6⟩
  ·have hkn:Hid (k=n):=by show k=n;omega
   have hw:=HW.o
   rw[hkn.o,List.take_of_length_le (by rw[HN.o];exact Jn)] at hw
   obtain⟨A9,c9,hv9,hc9,_⟩:=OwnK.rd hw
   subst hv9
   have HW9:=Jh hw
   clear hw HW
   go_wp2_with fail
   go_ret
   have h1:=flat_len (S:=S) L fun y hy=>by
    have:=(HSw.o.all y ((HNM.o.2 y).1 hy)).2.1
    omega
   have h2:=HN.o
   exact⟨L,A9,_,c9,rfl,HNM.o,rfl,hc9,by omega,HW9.o,HB.o⟩
end
section
open Go.RowKit Go.Sort Spans Op
theorem growB_pos (n:Nat) (hn:0<n) (hm:n<=100000) (w:World):Calls Tryz.prog 59 #[.slice none 0 0,.int .i64 (n:Int)] w fun e w'=>∃v,e=.returned v/\Own w' w.heap.size 5 v []/\Below w.heap.size w w':=by
 have hf:=growslice_fits (need:=n) (old:=0) (bytes:=1) hn (by omega)
 have hby:Tryz.t5.bytes=1:=rfl
 go_enter Tryz.func59,Tryz.ntmps59
 go_wp2_with fail
 all_goals try (exfalso;omega)
 go_ret
 have hge:=grownCap_ge w n 0 5
 have hcm:grownCap w n 0 5<=maxLen:=grownCap_le_maxLen w n 0 _ (by rw[maxLen_num];omega)
 refine ⟨_,rfl,⟨rfl,.inr ⟨w.heap.size,grownCap w n 0 5,_,rfl,Jn,heap_alloc_new w _,Nat.zero_le _,hcm,?_,rfl⟩⟩,?_⟩
 ·simp only[Array.size_append,size_zeroCells]
  show n*1+(grownCap w n 0 5-n)*1=grownCap w n 0 5*1
  omega
 ·exact (gr1 w _).drew.below
theorem growB_at (n:Nat) (hm:n<=100000) (w:World):Calls Tryz.prog 59 #[.slice none 0 0,.int .i64 (n:Int)] w fun e w'=>∃v,e=.returned v/\Own w' w.heap.size 5 v []/\Below w.heap.size w w':=by
 by_cases hn:0<n
 ·exact growB_pos n hn hm w
 ·have e:n=0:=by omega
  subst e
  go_enter Tryz.func59,Tryz.ntmps59
  go_wp2_with fail
  go_ret
  exact⟨_,rfl,Own.none_ _ _ _,Below.refl _ _⟩
theorem concatB_at (g0:Nat) (A:OA) (n c:Nat) (A':OA) (n' c':Nat) (w:World) (es fs:LU) (hn:es.length=n) (hm:n<=10000) (hn':fs.length=n') (hm':n'<=10000) (hr:Rd w A es) (hr':Rd w A' fs) (hg:g0<w.heap.size)
  (h0:w.cell? ⟨g0,0,none⟩=some (.slice A n c)) (h1:w.cell? ⟨g0,1,none⟩=some (.slice A' n' c')):
  Calls Tryz.prog 30 #[.slice (some ⟨g0,0,none⟩) 2 2] w fun e w'=>∃v,e=.returned v/\Own w' w.heap.size 5 v (es++fs)/\Below w.heap.size w w':=by
 have HN:=Jh hn
 have HN':=Jh hn'
 have HR:=Jh hr
 have HR':=Jh hr'
 clear hn hn' hr hr'
 obtain⟨i0,hi0,hz0,hz1,hz2⟩:=info_parts byte_info
 go_enter Tryz.func30,Tryz.ntmps30
 go_wp2_with fail
 go_loopg [3,11] 2 (fun gg s3 s11 wr=>w=wr/\((s11=.int .i64 0/\s3=.int .i64 0/\2<=gg)∨(s11=.int .i64 1/\s3=.int .i64 (n:Int)/\1<=gg)∨(s11=.int .i64 2/\s3=.int .i64 ((n+n':Nat):Int))))
 case atStart=>exact⟨rfl,.inl ⟨rfl,rfl,Jn⟩⟩
 case round=>
  obtain⟨rfl,⟨rfl,rfl,hgg⟩|⟨rfl,rfl,hgg⟩|⟨rfl,rfl⟩⟩:=hrel
  ·go_wp2_with fail
   go_roundg 1
   case measure=>omega
   case rel=>exact⟨rfl,.inr (.inl ⟨rfl,rfl,Jn⟩)⟩
  ·go_wp2_with fail
   go_roundg 0
   case measure=>omega
   case rel=>exact⟨rfl,.inr (.inr ⟨rfl,by go_num⟩)⟩
  ·go_wp2_with fail
   refine (growB_at (n+n') (by omega) _).mono ?_
   rintro e w1 ⟨v,rfl,ho,hb⟩
   have HO:=Jh ho
   have HB:=Jh hb
   have HH0:=Jh h0
   have HH1:=Jh h1
   clear h0 h1 ho hb
   go_wp2_with fail
   go_loopg [6,27] 2 (fun gg s6 s27 wr=>Hid (Below w.heap.size w wr)/\((s27=.int .i64 0/\Hid (Own wr w.heap.size 5 s6 [])/\2<=gg)∨(s27=.int .i64 1/\Hid (Own wr w.heap.size 5 s6 es)/\1<=gg)∨(s27=.int .i64 2/\Hid (Own wr w.heap.size 5 s6 (es++fs)))))
   case atStart=>exact⟨HB,.inl ⟨rfl,HO,Jn⟩⟩
   case round=>
    obtain⟨HB2,⟨rfl,HO2,hgg⟩|⟨rfl,HO2,hgg⟩|⟨rfl,HO2⟩⟩:=hrel
    ·have d0:=(HB2.o.cell (p:=⟨g0,0,none⟩) hg).trans HH0.o
     have hlb:w.heap.size<=wr.heap.size:=HB2.o.size
     have hr2:=HR.o.below HB2.o
     clear HO HB
     go_wp2_with (at_builtin;refine wpList_append_rd rfl (.tmp 31) (.tmp 32) 29 rfl w.heap.size 5 i0 Tryz.underlying29 hi0 hz0 hz1 hz2 _ [] (by rfl) HO2.o A es n c (by rfl) hr2 HN.o (by simp;omega) hlb ?_;intro v1 w3 o1 b1 _ _;rw[List.nil_append] at o1;have HO3:=Jh o1;have HB3:=Jh (b1 _ HB2.o);clear b1 o1 d0)
     go_roundg 1
     case measure=>omega
     case rel=>exact⟨HB3,.inr (.inl ⟨rfl,HO3,Jn⟩)⟩
    ·have d0:=(HB2.o.cell (p:=⟨g0,1,none⟩) hg).trans HH1.o
     have hlb:w.heap.size<=wr.heap.size:=HB2.o.size
     have hr2:=HR'.o.below HB2.o
     clear HO HB
     go_wp2_with (at_builtin;refine wpList_append_rd rfl (.tmp 31) (.tmp 32) 29 rfl w.heap.size 5 i0 Tryz.underlying29 hi0 hz0 hz1 hz2 _ es (by rfl) HO2.o A' fs n' c' (by rfl) hr2 HN'.o (by rw[HN.o];omega) hlb ?_;intro v1 w3 o1 b1 _ _;have HO3:=Jh o1;have HB3:=Jh (b1 _ HB2.o);clear b1 o1 d0)
     go_roundg 0
     case measure=>omega
     case rel=>exact⟨HB3,.inr (.inr ⟨rfl,HO3⟩)⟩
    ·go_wp2_with fail
     go_ret
     exact⟨_,rfl,HO2.o,HB2.o⟩
end
end Go.Proofs.YtnfigjggjmncdaaGreat
