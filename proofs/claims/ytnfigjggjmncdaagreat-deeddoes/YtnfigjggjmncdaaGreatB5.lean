/- Contracts. -/
import Derived.Lib.ConvBytes
import Derived.Deep.CutRange
import Derived.Deep.CutBlock
import Derived.Test.YtnfigjggjmncdaaGreatB3
set_option maxRecDepth 100000
set_option maxHeartbeats 4000000
namespace Go.Proofs.YtnfigjggjmncdaaGreat
section
open Go.RowKit Go.Sort Spans Op
theorem Blk.far7 {w:World} {g b:Nat} {t:TypeId} {cs:Array Value} (h:Blk w g t cs) (hb:g≠b) (u0 u1 u2 u3 u4 u5 u6:Value):Blk (((((((w.setCell ⟨b,0,none⟩ u0).setCell ⟨b,1,none⟩ u1).setCell ⟨b,2,none⟩ u2).setCell ⟨b,3,none⟩ u3).setCell ⟨b,4,none⟩ u4).setCell ⟨b,5,none⟩ u5).setCell ⟨b,6,none⟩ u6) g t cs:=
 Blk.far (Blk.far (Blk.far (Blk.far (Blk.far (Blk.far (Blk.far h (p:=⟨b,0,none⟩) hb u0) (p:=⟨b,1,none⟩) hb u1) (p:=⟨b,2,none⟩) hb u2) (p:=⟨b,3,none⟩) hb u3) (p:=⟨b,4,none⟩) hb u4) (p:=⟨b,5,none⟩) hb u5) (p:=⟨b,6,none⟩) hb u6
theorem Blk.put7 {w:World} {b:Nat} {t:TypeId} {c0 c1 c2 c3 c4 c5 c6:Value} (h:Blk w b t #[c0,c1,c2,c3,c4,c5,c6]) (u0 u1 u2 u3 u4 u5 u6:Value):Blk (((((((w.setCell ⟨b,0,none⟩ u0).setCell ⟨b,1,none⟩ u1).setCell ⟨b,2,none⟩ u2).setCell ⟨b,3,none⟩ u3).setCell ⟨b,4,none⟩ u4).setCell ⟨b,5,none⟩ u5).setCell ⟨b,6,none⟩ u6) b t #[u0,u1,u2,u3,u4,u5,u6]:=by
 have h7:=((((((h.put 0 u0).put 1 u1).put 2 u2).put 3 u3).put 4 u4).put 5 u5).put 6 u6
 simp at h7
 exact h7
theorem wholeN_at (k:Int) (w:World) (hk:k=1∨k=3):Calls Tryz.prog 108 #[.int .i64 k] w fun e w'=>e=.returned (spF k (lowest k) (highest k) [] [] false none 0 0)/\Grown w w':=by
 rcases hk with rfl|rfl
 ·exact whole_at 1 w (by decide)
 ·exact whole_at 3 w (by decide)
theorem wholeT_at (w:World):Calls Tryz.prog 108 #[.int .i64 2] w fun e w'=>e=.returned (spF 2 0 0 [] [] true none 0 0)/\Grown w w':=whole_at 2 w (by decide)
theorem trimN_at (K lo hi:Int) (A:OA) (n c:Nat) (w:World) (base:Nat) (l:List Val) (hk:K=1∨K=3) (hlow:lowest K<=lo) (hhigh:hi<=highest K) (hl:∀v∈l,v.k=K/\v.t=[]) (hn:l.length=n) (hm:n<=100000) (ho:OwnW w base (.slice A n c) l) (hbase:base<=w.heap.size):
  Calls Tryz.prog 107 #[spF K lo hi [] [] false A n c] w (TrimsO (IsInts K lo hi l) base n w):=by
 rcases hk with rfl|rfl
 ·exact trim1 lo hi A n c w base l hlow hhigh hl hn hm ho hbase
 ·exact trim3 lo hi A n c w base l hlow hhigh hl hn hm ho hbase
theorem own_lit (w:World) (base:Nat) (hb:base<=w.heap.size) (v:Val) {cs:Array Value} (h:cs=(cellsV v).toArray):OwnW (w.alloc (.cells cs 52)) base (.slice (some ⟨w.heap.size,0,none⟩) 1 1) [v]:=by
 subst h
 have hB:Lies (w.alloc (.cells (cellsV v).toArray 52)) w.heap.size [v] []:=by
  unfold Lies
  simpa using Blk.new w 52 (cellsV v).toArray
 exact own_of_lies (cap:=1) hB hb (by simp) (by rw[maxLen_num];omega) (by simp)
theorem upLen {t tt:LU} (h:(Spans.up t).getD []=tt):tt.length<=t.length:=by
 subst h
 cases hu:Spans.up t with
 | none=>simp
 | some u=>exact up_len t u hu
theorem upOpn {t tt:LU} {oo:Bool} (h:(Spans.up t).getD []=tt) (ho:(Spans.up t).isNone=oo):oo=true->tt=[]:=by
 subst h;subst ho
 cases hu:Spans.up t with
 | none=>simp
 | some u=>simp
end
end Go.Proofs.YtnfigjggjmncdaaGreat
namespace Spans
theorem up_ff:∀p:LU,up (p++[255])=up p
 | []=>rfl
 | x::p=>by rw[List.cons_append,up_cons,up_cons,up_ff p]
theorem up_last:∀(p:LU) (x:UInt8),x≠255->up (p++[x])=some (p++[x+1])
 | [],x,h=>by rw[List.nil_append,up_cons];simp[up,h]
 | y::p,x,h=>by rw[List.cons_append,up_cons,up_last p x h];simp
end Spans
namespace Go.Proofs.YtnfigjggjmncdaaGreat
section
open Go.RowKit Go.Sort Spans Op
theorem conv_at (w:World) (p:LU):∃cap w',(convert 9 29 (.string ⟨p.toArray⟩)).run Tryz.prog w=.ok (.slice (some ⟨w.heap.size,0,none⟩) p.length cap) w'/\p.length<=cap/\Rd w' (some ⟨w.heap.size,0,none⟩) p/\(∀j,j<p.length->w'.frozen? ⟨w.heap.size,j,none⟩=false)/\Below w.heap.size w w'/\w'.heap.size=w.heap.size+1:=by
 have h:=Lib.run_convert_string_bytes (P:=Tryz.prog) w 9 29 5 ⟨p.toArray⟩ Tryz.underlying9 Tryz.underlying29 Tryz.underlying5
 have hs:(⟨p.toArray⟩:ByteArray).size=p.length:=by simp[ByteArray.size]
 rw[hs] at h
 have hnew:=Lib.bytesWorld_at_new w 5 ⟨p.toArray⟩
 have hcs:p.length<=(Lib.bytesCells w 5 ⟨p.toArray⟩).size:=by simp[Lib.bytesCells]
 refine ⟨_,_,h,grownCap_ge w p.length 0 _,.inr ⟨w.heap.size,0,rfl,by rw[Lib.bytesWorld_size];omega,fun i hi=>?_⟩,fun j hj=>?_,⟨rfl,rfl,rfl,by rw[Lib.bytesWorld_size];omega,fun k hk=>Lib.bytesWorld_at_old w _ _ k hk⟩,Lib.bytesWorld_size _ _ _⟩
 ·rw[Nat.zero_add,Lib.bytesWorld_cell w _ _ i (by rw[hs];exact hi)]
  simp[hi]
 ·unfold World.frozen?
  simp only[hnew]
  simp;omega
theorem rd_put {w:World} {g k:Nat} {q:LU} (hr:Rd w (some ⟨g,0,none⟩) q) (hk:q.length=k) (h0:0<k) (x:UInt8):Rd (w.setCell ⟨g,k-1,none⟩ (.int .u8 (x.toNat:Int))) (some ⟨g,0,none⟩) (q.take (k-1)++[x]):=by
 have hg:g<w.heap.size:=by
  rcases hr with rfl|⟨g',off,e,h,_⟩
  ·simp at hk;omega
  ·injection e with e;injection e with e1 e2;subst e1;exact h
 refine .inr ⟨g,0,rfl,by simpa using hg,fun i hi=>?_⟩
 rw[Nat.zero_add]
 have hlast:=hr.at_ (k:=k-1) (by omega)
 obtain⟨g1,o1,e1,hc1⟩:=hlast
 injection e1 with e1;injection e1 with e1 e2;subst e1;subst e2
 rw[Nat.zero_add] at hc1
 by_cases hik:i=k-1
 ·subst hik
  have e:(q.take (k-1)++[x])[k-1]=x:=by
   rw[List.getElem_append_right (by simp;omega)];simp
  rw[e]
  go_simp
 ·have hi':i<k-1:=by simp at hi;omega
  have e:(q.take (k-1)++[x])[i]=q[i]:=by
   rw[List.getElem_append_left (by simp;omega),List.getElem_take]
  rw[e]
  obtain⟨g2,o2,e2,hc2⟩:=hr.at_ (k:=i) (by omega)
  injection e2 with e2;injection e2 with e2 e3;subst e2;subst e3
  rw[Nat.zero_add] at hc2
  have hne:¬k-1=i:=by omega
  go_simp
theorem endPre_at (lo hi:Int) (f p:LU) (A:OA) (n c:Nat) (tt:LU) (oo:Bool) (htt:(Spans.up p).getD []=tt) (hoo:(Spans.up p).isNone=oo) (hp:p.length<=1000) (w:World):
  Calls Tryz.prog 111 #[spF 2 lo hi f [] true A n c,.string ⟨p.toArray⟩] w fun e w'=>e=.returned (spF 2 lo hi f tt oo A n c)/\Below w.heap.size w w':=by
 have HTT:=Jh htt
 have HOO:=Jh hoo
 clear htt hoo
 have hB0:Below w.heap.size w ((w.alloc (.cells (sC 2 lo hi f.toArray #[] true A n c) 97)).alloc (.cells zC 97)):=(gr2 w (.cells (sC 2 lo hi f.toArray #[] true A n c) 97) (.cells zC 97)).below
 have hX0:=(Blk.new w 97 (sC 2 lo hi f.toArray #[] true A n c)).alloc (.cells zC 97)
 have hY0:=Blk.new (w.alloc (.cells (sC 2 lo hi f.toArray #[] true A n c) 97)) 97 zC
 rw[show (w.alloc (.cells (sC 2 lo hi f.toArray #[] true A n c) 97)).heap.size=w.heap.size+1 by simp] at hY0
 have hs0:((w.alloc (.cells (sC 2 lo hi f.toArray #[] true A n c) 97)).alloc (.cells zC 97)).heap.size=w.heap.size+2:=by simp
 obtain⟨cap,w1,hcv,hcc,hrd,hfz,hb1,hs1⟩:=conv_at ((w.alloc (.cells (sC 2 lo hi f.toArray #[] true A n c) 97)).alloc (.cells zC 97)) p
 rw[hs0] at hcv hrd hfz
 have hX1:=Blk.below hX0 hb1 hX0.lt
 have hY1:=Blk.below hY0 hb1 hY0.lt
 have hB1:=below_next hB0 (Jn) hb1
 have HR:=Jh hrd
 have HF:=Jh hfz
 clear hX0 hY0 hB0 hb1 hrd hfz
 go_enter Tryz.func111,Tryz.ntmps111
 go_wp2_with fail
 clear hcv hs0
 have hsz1:w.heap.size+2<w1.heap.size:=by rw[hs1];simp
 clear hs1
 go_loopg [5] p.length (fun gg s5 wr=>w1=wr/\∃k:Nat,s5=.slice (some ⟨w.heap.size+2,0,none⟩) k cap/\k<=p.length/\k<=gg/\Hid (Spans.up (p.take k)=Spans.up p))
 case atStart=>exact⟨rfl,p.length,rfl,Jn,Jn,by show _=_;rw[List.take_of_length_le (Jn)]⟩
 case round=>
  obtain⟨rfl,k,rfl,hkp,hkg,HU⟩:=hrel
  obtain⟨x0,x1,x2,x3,x4,x5,x6,p0,p1,p2,p3,p4,p5,p6⟩:=blk7 hX1
  obtain⟨y0,y1,y2,y3,y4,y5,y6,q0,q1,q2,q3,q4,q5,q6⟩:=blk7 hY1
  have hg1:w.heap.size<w1.heap.size:=hX1.lt
  have hg2:w.heap.size+1<w1.heap.size:=hY1.lt
  by_cases hk0:k=0
  ·have hu:Spans.up p=none:=by rw[<-HU.o,hk0];rfl
   have htt:tt=[]:=by rw[<-HTT.o,hu];rfl
   have hoo:oo=true:=by rw[<-HOO.o,hu];rfl
   subst htt;subst hoo;subst hk0
   clear hu
   go_wp2_with fail
   refine bodyPost_ret (v:=spF 2 lo hi f [] true A n c) (by simp[results,Tryz.results111,go_sem,y0,y1,y2,y3,y4,y5,y6]) rfl ?_
   exact⟨rfl,below_put7 hB1 (by omega) _ _ _ _ _ _ _⟩
  ·have hk1:k-1<p.length:=by omega
   obtain⟨g1,o1,e1,hc1⟩:=HR.o.at_ hk1
   injection e1 with e1;injection e1 with e1 e2;subst e1;subst e2
   rw[Nat.zero_add] at hc1
   obtain⟨x,hx⟩:∃x,p[k-1]=x:=⟨_,rfl⟩
   have HX:=Jh hx
   rw[hx] at hc1
   clear hx
   have hxb:=x.toNat_lt
   have hsp:Hid (p.take k=p.take (k-1)++[x]):=by
    show _=_
    have:=List.take_succ_eq_append_getElem (l:=p) (i:=k-1) hk1
    rw[show k-1+1=k by omega,HX.o] at this
    exact this
   have hfz:=HF.o (k-1) hk1
   have w1':IntKind.i64.wrap ((k:Int)-1)=(k:Int)-1:=by rw[IntKind.wrap_i64];omega
   have w2':(0:Int)<=(k:Int)-1:=by omega
   have w3':(k:Int)-1<(k:Int):=by omega
   have w4:((k:Int)-1).toNat=k-1:=by omega
   have w7:(1:Int)<=(k:Int):=by omega
   have w8:0<k:=by omega
   have w9:(0:Int)<(k:Int):=by omega
   by_cases hff:x=255
   ·subst hff
    have HU2:Hid (Spans.up (p.take (k-1))=Spans.up p):=by show _=_;rw[<-HU.o,hsp.o,up_ff]
    have hhd:∀W,(Instr.slice 29 (.slice (some ⟨w.heap.size+2,0,none⟩) k cap) none (some (.int .i64 ((k:Int)-1))) none).run Tryz.prog W=.ok (.slice (some ⟨w.heap.size+2,0,none⟩) (k-1) cap) W:=by
     intro W
     have:=run_head (some ⟨w.heap.size+2,0,none⟩) k cap (k-1) (by omega) (by omega) W
     rw[show ((k-1:Nat):Int)=(k:Int)-1 by omega] at this
     exact this
    go_wp2_with fail
    go_roundg (k-1)
    case measure=>omega
    case rel=>exact⟨rfl,k-1,rfl,by omega,Jn,HU2⟩
   ·have hxn:x.toNat≠255:=fun h=>hff (UInt8.toNat_inj.1 h)
    have hu:Spans.up p=some (p.take (k-1)++[x+1]):=by rw[<-HU.o,hsp.o,up_last _ _ hff]
    have htt:p.take (k-1)++[x+1]=tt:=by rw[<-HTT.o,hu];rfl
    have hoo:oo=false:=by rw[<-HOO.o,hu];rfl
    have hx1:((x+1).toNat:Int)=(x.toNat:Int)+1:=by
     rw[UInt8.toNat_add];simp;omega
    have HP:=Jh (rd_put (HR.o.take k) (by simp;omega) w8 (x+1))
    rw[hx1] at HP
    have htk:(p.take k).take (k-1)=p.take (k-1):=by rw[List.take_take];congr 1;omega
    rw[htk,htt] at HP
    have HTL:Hid (tt.length=k):=by show _=_;rw[<-htt];simp;omega
    subst hoo
    have wx:(x.toNat:Int)≠255:=by omega
    have wy:((x.toNat:Int) == 255)=false:=beq_eq_false_iff_ne.2 wx
    have wz:(x.toNat:Int)+1<=255:=by omega
    clear htk htt hu
    have hstr:=run_str (P:=Tryz.prog) _ _ _ k cap HP.o HTL.o 29 5 9 Tryz.underlying29 Tryz.underlying5 Tryz.underlying9
    go_wp2_with fail
    refine bodyPost_ret (v:=spF 2 lo hi f tt false A n c) (by simp[results,Tryz.results111,go_sem,y0,y1,y2,y3,y4,y5,y6]) rfl ?_
    exact⟨rfl,below_put7 (below_set (below_set (below_set hB1 (by omega)) (by omega)) (by omega)) (by omega) _ _ _ _ _ _ _⟩
abbrev Rt (f:Nat) (args:Array Value) (v:Value):Prop:=∀w,Calls Tryz.prog f args w fun e w'=>e=.returned v/\Below w.heap.size w w'
abbrev sF (a:Sp):Value:=spF a.kind a.lo a.hi a.frm a.to_ a.opn none 0 0
abbrev cS (a:Sp) (A:OA) (n c:Nat):Array Value:=(sC a.kind a.lo a.hi a.frm.toArray a.to_.toArray a.opn A n c)
structure OG (w wx:World) (V:Nat) (pb:Array Value) (a:Sp):Prop where
 p:Blk wx w.heap.size 54 pb
 y:Blk wx (w.heap.size+1) 97 zC
 v:Blk wx V 97 (cS a none 0 0)
 b:Below w.heap.size w wx
 s:w.heap.size+2<=V
theorem OG.below {w wx wy:World} {V:Nat} {pb:Array Value} {a:Sp} (h:OG w wx V pb a) (hb:Below wx.heap.size wx wy):OG w wy V pb a:=
 ⟨Blk.below h.p hb h.p.lt,Blk.below h.y hb h.y.lt,Blk.below h.v hb h.v.lt,below_next h.b (Jn) hb,h.s⟩
def putS (w:World) (V:Nat) (a:Sp):World:=(((((((w.setCell ⟨V,0,none⟩ (.int .i64 a.kind)).setCell ⟨V,1,none⟩ (.int .i64 a.lo)).setCell ⟨V,2,none⟩ (.int .i64 a.hi)).setCell ⟨V,3,none⟩ (.string ⟨a.frm.toArray⟩)).setCell ⟨V,4,none⟩ (.string ⟨a.to_.toArray⟩)).setCell ⟨V,5,none⟩ (.bool a.opn)).setCell ⟨V,6,none⟩ (.slice none 0 0))
theorem OG.put {w wx:World} {V:Nat} {pb:Array Value} {a:Sp} (h:OG w wx V pb a) (a':Sp):OG w (putS wx V a') V pb a':=
 ⟨Blk.far7 h.p (by have:=h.s;omega) _ _ _ _ _ _ _,Blk.far7 h.y (by have:=h.s;omega) _ _ _ _ _ _ _,Blk.put7 h.v _ _ _ _ _ _ _,below_put7 h.b (by have:=h.s;omega) _ _ _ _ _ _ _,h.s⟩
theorem OG.drew {w wx:World} {V:Nat} {pb:Array Value} {a:Sp} (h:OG w wx V pb a):OG w wx.drew V pb a:=⟨h.p,h.y,h.v,h.b.drew,h.s⟩
structure OI (w wx:World) (V:Nat) (a:Sp) (l:List Val) (A:OA) (m c:Nat):Prop where
 y:Blk wx (w.heap.size+1) 97 zC
 v:Blk wx V 97 (cS a A m c)
 b:Below w.heap.size w wx
 s:w.heap.size+2<=wx.heap.size
 n:l.length=m
 own:OwnW wx (w.heap.size+2) (.slice A m c) l
 n1:l.length<=1
def OH (w wx:World) (V:Nat) (a:Sp) (l:List Val):Prop:=∃A m c,OI w wx V a l A m c
theorem of_core (n:LU) (o k i:Int) (t:LU) (w:World) (hn:n.length<=9223372036854775807) (hlt:t.length<=9223372036854775807) (hr:Preds.right n o k i t=true) (ho1:1<=o) (ho2:o<=7) (a0 aB aE aX aP a:Sp) (l:List Val)
  (hW:Rt 108 #[.int .i64 k] (sF a0)) (hB:Rt 110 #[sF a0,.agg (vC k i t.toArray)] (sF aB)) (hE:Rt 109 #[sF a0,.agg (vC k i t.toArray)] (sF aE))
  (hX:Rt 109 #[sF aB,.agg (vC k i t.toArray)] (sF aX)) (hP:o=7->Rt 111 #[sF aB,.string ⟨t.toArray⟩] (sF aP))
  (ha:(if o=1 then aX else if o=3∨o=4 then aE else if o=5∨o=6 then aB else if o=7 then aP else a0)=a) (hl:(if o=2∨o=3∨o=5 then [(⟨k,i,t⟩:Val)] else [])=l) (Q:Sp->Prop)
  (hT:∀(A:OA) (m c:Nat) (wx:World) (base:Nat),l.length=m->OwnW wx base (.slice A m c) l->base<=wx.heap.size->Calls Tryz.prog 107 #[spF a.kind a.lo a.hi a.frm a.to_ a.opn A m c] wx (TrimsO Q base m wx)):
  Calls Tryz.prog 82 #[.agg (pC n.toArray o k i t.toArray)] w (fun e w'=>∃r,Q r/\r.no.length<=1/\Gives w r e w'):=by
 have HRR:=Jh hr
 have HA:=Jh ha
 have HL:=Jh hl
 have HT:=Jh hT
 have HP:=Jh hP
 have h8:(o == 8)=false:=by simp;omega
 clear hr ha hl hT hP
 have hB0:=(gr2 w (.cells (pC n.toArray o k i t.toArray) 54) (.cells zC 97)).below
 have hP0:=(Blk.new w 54 (pC n.toArray o k i t.toArray)).alloc (.cells zC 97)
 have hY0:=Blk.new (w.alloc (.cells (pC n.toArray o k i t.toArray) 54)) 97 zC
 rw[show (w.alloc (.cells (pC n.toArray o k i t.toArray) 54)).heap.size=w.heap.size+1 by simp] at hY0
 go_enter Tryz.func82,Tryz.ntmps82
 go_wp2_with fail
 generalize (w.alloc (.cells (pC n.toArray o k i t.toArray) 54)).alloc (.cells zC 97)=w0 at *
 refine (pright_is n o k i t w0 hn hlt true HRR.o).mono ?_
 rintro e w1 ⟨rfl,hb1⟩
 have hP1:=Blk.below hP0 hb1 hP0.lt
 have hY1:=Blk.below hY0 hb1 hY0.lt
 have hB1:=below_next hB0 (Jn) hb1
 clear hP0 hY0 hB0
 obtain⟨p0,p1,p2,p3,p4,_⟩:=blk5 hP1
 have hl:=hP1.lt
 go_wp2_with fail
 clear p0 p1 p2 p3 p4 hl hb1
 refine (hW w1).mono ?_
 rintro e w2 ⟨rfl,hb2⟩
 have hP2:=Blk.below hP1 hb2 hP1.lt
 have hY2:=Blk.below hY1 hb2 hY1.lt
 have hB2:=below_next hB1 (Jn) hb2
 clear hP1 hY1 hB1 hb2
 have hb3:Below w2.heap.size w2 (w2.alloc (.cells (cS a0 none 0 0) 97)):=(Below.refl _ _).alloc (Jn) _
 have G3:Hid (OG w (w2.alloc (.cells (cS a0 none 0 0) 97)) w2.heap.size (pC n.toArray o k i t.toArray) a0):=
  ⟨Blk.below hP2 hb3 hP2.lt,Blk.below hY2 hb3 hY2.lt,Blk.new _ _ _,below_next hB2 (Jn) hb3,hY2.lt⟩
 obtain⟨p0,p1,p2,p3,p4,_⟩:=blk5 hP2
 have hl:=hP2.lt
 clear hY2 hB2 hb3
 go_upto_block 0 with fail
 clear p0 p1 p2 p3 p4 hl hP2
 generalize w2.alloc (.cells (cS a0 none 0 0) 97)=w3 at *
 generalize w2.heap.size=V at *
 go_cut [] from 4 (fun wx=>Hid (OG w wx V (pC n.toArray o k i t.toArray) a))
 case first=>
  clear hW HRR HL
  have hoo:o=1∨o=2∨o=3∨o=4∨o=5∨o=6∨o=7:=by omega
  clear ho1 ho2 h8
  rcases hoo with rfl|rfl|rfl|rfl|rfl|rfl|rfl
  ·obtain rfl:aX=a:=by have:=HA.o;simpa using this
   clear HA HT
   have G4:Hid (OG w w3.drew V (pC n.toArray 1 k i t.toArray) a0):=G3.o.drew
   clear G3
   go_wp2_with fail
   refine wp_region_held_drew (S:=fun w'=>Blk w' w.heap.size 54 (pC n.toArray 1 k i t.toArray)) (by kernel_rfl) G4.o.p (fun _=>?_)
   refine Jz 1 G4.o.p ?_
   refine Jz 2 G4.o.p ?_
   refine Jz 4 G4.o.p ?_
   refine Jz 5 G4.o.p ?_
   obtain⟨z0,z1,z2,z3,z4,z5,z6,m0,m1,m2,m3,m4,m5,m6⟩:=blk7 G4.o.v
   refine Je 0 (fun Ka hKa=>?_)
   go_simp
   refine hKa.o _ _ G4.o.p ?_
   clear hKa Ka z0 z1 z2 z3 z4 z5 z6 m0 m1 m2 m3 m4 m5 m6
   generalize w3.drew=w4 at *
   refine Je 3 (fun Ka hKa=>?_)
   go_simp
   with_reducible refine (hB _).mono ?_
   rintro e w6 ⟨rfl,hb6⟩
   have G6:=Jh (G4.o.below hb6)
   clear G4
   go_wp2_with fail
   refine hKa.o _ _ G6.o.p ?_
   clear hKa Ka hb6
   refine Je 6 (fun Ka hKa=>?_)
   go_simp
   with_reducible refine (hX _).mono ?_
   rintro e w7 ⟨rfl,hb7⟩
   have G7:=Jh (G6.o.below hb7)
   clear G6
   go_wp2_with fail
   refine hKa.o _ _ G7.o.p ?_
   clear hKa Ka hb7
   refine Je 7 (fun Ka hKa=>?_)
   obtain⟨z0,z1,z2,z3,z4,z5,z6,m0,m1,m2,m3,m4,m5,m6⟩:=blk7 G7.o.v
   have hl:=G7.o.v.lt
   go_simp
   have G8:=Jh (G7.o.put aX)
   clear G7
   refine hKa.o _ _ G8.o.p ?_
   clear hKa Ka z0 z1 z2 z3 z4 z5 z6 m0 m1 m2 m3 m4 m5 m6 hl
   refine Jd ?_
   go_wp2_with fail
   go_meet
   case rel=>exact G8.o
  ·obtain rfl:a0=a:=by have:=HA.o;simpa using this
   go_wp2_with fail
   go_meet
   case rel=>exact G3.o
  ·obtain rfl:aE=a:=by have:=HA.o;simpa using this
   clear HA HP HT
   have hlv:=G3.o.v.lt
   obtain⟨z0,z1,z2,z3,z4,z5,z6,m0,m1,m2,m3,m4,m5,m6⟩:=blk7 G3.o.v
   obtain⟨p0,p1,p2,p3,p4,_⟩:=blk5 G3.o.p
   go_wp2_with fail
   clear z0 z1 z2 z3 z4 z5 z6 m0 m1 m2 m3 m4 m5 m6 p0 p1 p2 p3 p4 hlv
   refine (hE w3).mono ?_
   rintro e w4 ⟨rfl,hb4⟩
   have G4:=Jh (G3.o.below hb4)
   clear G3 hb4
   obtain⟨z0,z1,z2,z3,z4,z5,z6,m0,m1,m2,m3,m4,m5,m6⟩:=blk7 G4.o.v
   obtain⟨p0,p1,p2,p3,p4,_⟩:=blk5 G4.o.p
   have hl:=G4.o.v.lt
   have hs:=G4.o.s
   have hne1:¬w.heap.size=V:=by omega
   have hne2:¬V=w.heap.size:=by omega
   go_wp2_with fail
   go_meet
   case rel=>exact G4.o.put aE
  ·obtain rfl:aE=a:=by have:=HA.o;simpa using this
   clear HA HP HT
   have hlv:=G3.o.v.lt
   obtain⟨z0,z1,z2,z3,z4,z5,z6,m0,m1,m2,m3,m4,m5,m6⟩:=blk7 G3.o.v
   obtain⟨p0,p1,p2,p3,p4,_⟩:=blk5 G3.o.p
   go_wp2_with fail
   clear z0 z1 z2 z3 z4 z5 z6 m0 m1 m2 m3 m4 m5 m6 p0 p1 p2 p3 p4 hlv
   refine (hE w3).mono ?_
   rintro e w4 ⟨rfl,hb4⟩
   have G4:=Jh (G3.o.below hb4)
   clear G3 hb4
   obtain⟨z0,z1,z2,z3,z4,z5,z6,m0,m1,m2,m3,m4,m5,m6⟩:=blk7 G4.o.v
   obtain⟨p0,p1,p2,p3,p4,_⟩:=blk5 G4.o.p
   have hl:=G4.o.v.lt
   have hs:=G4.o.s
   have hne1:¬w.heap.size=V:=by omega
   have hne2:¬V=w.heap.size:=by omega
   go_wp2_with fail
   go_meet
   case rel=>exact G4.o.put aE
  ·obtain rfl:aB=a:=by have:=HA.o;simpa using this
   clear HA HP HT
   have hlv:=G3.o.v.lt
   obtain⟨z0,z1,z2,z3,z4,z5,z6,m0,m1,m2,m3,m4,m5,m6⟩:=blk7 G3.o.v
   obtain⟨p0,p1,p2,p3,p4,_⟩:=blk5 G3.o.p
   go_wp2_with fail
   clear z0 z1 z2 z3 z4 z5 z6 m0 m1 m2 m3 m4 m5 m6 p0 p1 p2 p3 p4 hlv
   refine (hB w3).mono ?_
   rintro e w4 ⟨rfl,hb4⟩
   have G4:=Jh (G3.o.below hb4)
   clear G3 hb4
   obtain⟨z0,z1,z2,z3,z4,z5,z6,m0,m1,m2,m3,m4,m5,m6⟩:=blk7 G4.o.v
   obtain⟨p0,p1,p2,p3,p4,_⟩:=blk5 G4.o.p
   have hl:=G4.o.v.lt
   have hs:=G4.o.s
   have hne1:¬w.heap.size=V:=by omega
   have hne2:¬V=w.heap.size:=by omega
   go_wp2_with fail
   go_meet
   case rel=>exact G4.o.put aB
  ·obtain rfl:aB=a:=by have:=HA.o;simpa using this
   clear HA HP HT
   have hlv:=G3.o.v.lt
   obtain⟨z0,z1,z2,z3,z4,z5,z6,m0,m1,m2,m3,m4,m5,m6⟩:=blk7 G3.o.v
   obtain⟨p0,p1,p2,p3,p4,_⟩:=blk5 G3.o.p
   go_wp2_with fail
   clear z0 z1 z2 z3 z4 z5 z6 m0 m1 m2 m3 m4 m5 m6 p0 p1 p2 p3 p4 hlv
   refine (hB w3).mono ?_
   rintro e w4 ⟨rfl,hb4⟩
   have G4:=Jh (G3.o.below hb4)
   clear G3 hb4
   obtain⟨z0,z1,z2,z3,z4,z5,z6,m0,m1,m2,m3,m4,m5,m6⟩:=blk7 G4.o.v
   obtain⟨p0,p1,p2,p3,p4,_⟩:=blk5 G4.o.p
   have hl:=G4.o.v.lt
   have hs:=G4.o.s
   have hne1:¬w.heap.size=V:=by omega
   have hne2:¬V=w.heap.size:=by omega
   go_wp2_with fail
   go_meet
   case rel=>exact G4.o.put aB
  ·obtain rfl:aP=a:=by have:=HA.o;simpa using this
   have hP7:=HP.o rfl
   clear HA HT HP
   have G4:Hid (OG w w3.drew V (pC n.toArray 7 k i t.toArray) a0):=G3.o.drew
   clear G3
   go_wp2_with fail
   refine wp_region_held_drew (S:=fun w'=>Blk w' w.heap.size 54 (pC n.toArray 7 k i t.toArray)) (by kernel_rfl) G4.o.p (fun _=>?_)
   refine Jz 1 G4.o.p ?_
   refine Jz 2 G4.o.p ?_
   refine Jz 4 G4.o.p ?_
   refine Jz 5 G4.o.p ?_
   refine Jz 6 G4.o.p ?_
   obtain⟨z0,z1,z2,z3,z4,z5,z6,m0,m1,m2,m3,m4,m5,m6⟩:=blk7 G4.o.v
   refine Je 0 (fun Ka hKa=>?_)
   go_simp
   refine hKa.o _ _ G4.o.p ?_
   clear hKa Ka z0 z1 z2 z3 z4 z5 z6 m0 m1 m2 m3 m4 m5 m6
   generalize w3.drew=w4 at *
   refine Je 3 (fun Ka hKa=>?_)
   go_simp
   with_reducible refine (hB _).mono ?_
   rintro e w6 ⟨rfl,hb6⟩
   have G6:=Jh (G4.o.below hb6)
   clear G4
   go_wp2_with fail
   refine hKa.o _ _ G6.o.p ?_
   clear hKa Ka hb6
   refine Je 7 (fun Ka hKa=>?_)
   go_simp
   with_reducible refine (hP7 _).mono ?_
   rintro e w7 ⟨rfl,hb7⟩
   have G7:=Jh (G6.o.below hb7)
   clear G6
   go_wp2_with fail
   refine hKa.o _ _ G7.o.p ?_
   clear hKa Ka hb7
   refine Je 8 (fun Ka hKa=>?_)
   obtain⟨z0,z1,z2,z3,z4,z5,z6,m0,m1,m2,m3,m4,m5,m6⟩:=blk7 G7.o.v
   have hl:=G7.o.v.lt
   go_simp
   have G8:=Jh (G7.o.put aP)
   clear G7
   refine hKa.o _ _ G8.o.p ?_
   clear hKa Ka z0 z1 z2 z3 z4 z5 z6 m0 m1 m2 m3 m4 m5 m6 hl
   refine Jd ?_
   go_wp2_with fail
   go_meet
   case rel=>exact G8.o
 case rest=>
  clear G3 hW hB hE hX HP HA h8 HRR ho1 ho2
  have G3:=hcut
  clear hcut
  generalize wc=w3 at *
  obtain⟨b,hb⟩:∃b,Hid ((o == 2 || o == 3 || o == 5)=b):=⟨_,rfl⟩
  obtain⟨p0,p1,p2,p3,p4,_⟩:=blk5 G3.o.p
  have hl:=G3.o.p.lt
  go_wp2_with fail
  refine (shutsOut_at o w3 b hb.o).mono ?_
  rintro e wz ⟨rfl,rfl⟩
  go_upto_if 53 with fail
  clear p0 p1 p2 p3 p4
  go_cut [] from 4 (fun wx=>Hid (OH w wx V a l))
  case first=>
   cases b
   ·have e:[]=l:=by rw[<-HL.o,if_neg (by have:=hb.o;simp at this;omega)]
    clear hb HL HT
    go_wp2_with fail
    go_meet
    case rel=>exact⟨none,0,0,⟨G3.o.y,G3.o.v,G3.o.b,by have:=G3.o.s;have:=G3.o.v.lt;omega,by rw[<-e];rfl,by rw[<-e];exact OwnK.none_ _ _,by rw[<-e];simp⟩⟩
   ·have e:[(⟨k,i,t⟩:Val)]=l:=by rw[<-HL.o,if_pos (by have:=hb.o;simp at this;omega)]
    clear hb HL HT
    obtain⟨z0,z1,z2,z3,z4,z5,z6,m0,m1,m2,m3,m4,m5,m6⟩:=blk7 G3.o.v
    obtain⟨p0,p1,p2,p3,p4,_⟩:=blk5 G3.o.p
    have hlV:=G3.o.v.lt
    have hs:=G3.o.s
    have hsc:(wz.setCell ⟨V,6,none⟩ (.slice (some ⟨wz.heap.size,0,none⟩) 1 1)).heap.size=wz.heap.size:=by simp
    have H:Hid (OH w ((wz.setCell ⟨V,6,none⟩ (.slice (some ⟨wz.heap.size,0,none⟩) 1 1)).alloc (.cells (vC k i t.toArray) 52)) V a l):=by
     refine ⟨some ⟨wz.heap.size,0,none⟩,1,1,⟨(Blk.far G3.o.y (p:=⟨V,6,none⟩) (by show w.heap.size+1≠V;omega) _).alloc _,?_,(below_set G3.o.b (by omega)).alloc (by rw[hsc];omega) _,by simp;omega,by rw[<-e];rfl,?_,by rw[<-e];simp⟩⟩
     ·have h:=Blk.put G3.o.v 6 (.slice (some ⟨wz.heap.size,0,none⟩) 1 1)
      simp at h
      exact h.alloc _
     ·have h:=own_lit (wz.setCell ⟨V,6,none⟩ (.slice (some ⟨wz.heap.size,0,none⟩) 1 1)) (w.heap.size+2) (by rw[hsc];omega) (⟨k,i,t⟩:Val) rfl
      rw[hsc] at h
      rw[<-e]
      exact h
    clear G3 e hsc
    go_wp2_with fail
    go_meet
    case rel=>exact H.o
  case rest=>
   clear G3 HL hb hl
   obtain⟨A,m,c,H⟩:=hcut.o
   clear hcut
   generalize wc=wa at *
   have HH:=Jh H
   clear H
   obtain⟨z0,z1,z2,z3,z4,z5,z6,m0,m1,m2,m3,m4,m5,m6⟩:=blk7 HH.o.v
   have hlV:=HH.o.v.lt
   go_wp2_with fail
   clear z0 z1 z2 z3 z4 z5 z6 m0 m1 m2 m3 m4 m5 m6
   refine (HT.o A m c wa (w.heap.size+2) HH.o.n HH.o.own HH.o.s).mono ?_
   rintro e wb ⟨⟨rK,rlo,rhi,rf,rt,ro,rno⟩,A7,n7,c7,rfl,hl7,hn7,ho7,hb7,hP7⟩
   dsimp only at hl7 ho7
   have HL7:=Jh hl7
   have HP7:=Jh hP7
   have hs:=HH.o.s
   have hYb:=Blk.below HH.o.y hb7 (by omega)
   have hBb:Below w.heap.size w wb:=HH.o.b.trans (hb7.mono (by omega))
   have hm1:m<=1:=by have:=HH.o.n1;have:=HH.o.n;omega
   have hc7:n7<=c7:=by
    obtain⟨_,_,e,h,_⟩:=OwnK.rd ho7
    injection e with e1 e2 e3
    omega
   obtain⟨u0,u1,u2,u3,u4,u5,u6,q0,q1,q2,q3,q4,q5,q6⟩:=blk7 hYb
   have hg7:w.heap.size+1<wb.heap.size:=hYb.lt
   clear hb7 hYb hl7 hP7 HT HH
   go_wp2_with fail
   refine bodyPost_ret (v:=spF rK rlo rhi rf rt ro A7 n7 c7) (by simp[results,Tryz.results82,go_sem,u0,u1,u2,u3,u4,u5,u6]) rfl ?_
   exact⟨⟨rK,rlo,rhi,rf,rt,ro,rno⟩,HP7.o,by show rno.length<=_;have:=HL7.o;omega,A7,n7,c7,rfl,HL7.o,hc7,(OwnK.put7 ho7 (by omega) _ _ _ _ _ _ _).less (by omega),below_put7 hBb (by omega) _ _ _ _ _ _ _⟩
theorem rtG {f:Nat} {args:Array Value} {v:Value} {w:World} (h:Calls Tryz.prog f args w fun e w'=>e=.returned v/\Grown w w'):Calls Tryz.prog f args w fun e w'=>e=.returned v/\Below w.heap.size w w':=h.mono fun _ _ h=>⟨h.1,h.2.below⟩
theorem ofNum_at (n:LU) (o k i:Int) (ho1:1<=o) (ho2:o<=6) (hk:k=1∨k=3) (hl1:lowest k<=i) (hl2:i<=highest k) (lo hi:Int) (l:List Val) (hlo:(if o=1∨o=5∨o=6 then i else lowest k)=lo) (hhi:(if o=1∨o=3∨o=4 then i else highest k)=hi)
  (hl:(if o=2∨o=3∨o=5 then [(⟨k,i,[]⟩:Val)] else [])=l) (w:World) (hn:n.length<=9223372036854775807) (hr:Preds.right n o k i []=true):
  Calls Tryz.prog 82 #[.agg (pC n.toArray o k i #[])] w (fun e w'=>∃r,IsInts k lo hi l r/\r.no.length<=1/\Gives w r e w'):=by
 have hk2:k≠2:=by omega
 have hx1:lowest k<=lo:=by rw[<-hlo];split<;>omega
 have hx2:hi<=highest k:=by rw[<-hhi];split<;>omega
 have hl3:∀v∈l,v.k=k/\v.t=[]:=by rw[<-hl];split<;>simp
 have hl4:l.length<=1:=by rw[<-hl];split<;>simp
 refine of_core n o k i [] w hn (by simp) hr ho1 (by omega) ⟨k,lowest k,highest k,[],[],false,[]⟩ ⟨k,i,highest k,[],[],false,[]⟩ ⟨k,lowest k,i,[],[],false,[]⟩ ⟨k,i,i,[],[],false,[]⟩ ⟨k,i,i,[],[],false,[]⟩ ⟨k,lo,hi,[],[],false,[]⟩ l
  (fun w=>rtG (wholeN_at k w hk)) (fun w=>rtG (begin_num k _ _ [] [] false none 0 0 k i [] w hk2)) (fun w=>rtG (end_num k _ _ [] [] false none 0 0 k i [] w hk2)) (fun w=>rtG (end_num k _ _ [] [] false none 0 0 k i [] w hk2)) (fun h=>by omega) ?_ hl (IsInts k lo hi l)
  (fun A m c wx base hm ho hb=>trimN_at k lo hi A m c wx base l hk hx1 hx2 hl3 hm (by omega) ho hb)
 have hoo:o=1∨o=2∨o=3∨o=4∨o=5∨o=6:=by omega
 subst hlo hhi
 rcases hoo with rfl|rfl|rfl|rfl|rfl|rfl<;>simp
theorem ofTxt_at (n:LU) (o:Int) (t:LU) (ho1:1<=o) (ho2:o<=7) (ht:t.length<=32) (a:Sp) (l:List Val)
  (ha:(if o=1 then ⟨2,0,0,t,t++[0],false,[]⟩ else if o=3∨o=4 then ⟨2,0,0,[],t++[0],false,[]⟩ else if o=5∨o=6 then ⟨2,0,0,t,[],true,[]⟩ else if o=7 then ⟨2,0,0,t,(Spans.up t).getD [],(Spans.up t).isNone,[]⟩ else ⟨2,0,0,[],[],true,[]⟩:Sp)=a)
  (hl:(if o=2∨o=3∨o=5 then [(⟨2,0,t⟩:Val)] else [])=l) (w:World) (hn:n.length<=9223372036854775807) (hr:Preds.right n o 2 0 t=true):
  Calls Tryz.prog 82 #[.agg (pC n.toArray o 2 0 t.toArray)] w (fun e w'=>∃r,IsTexts a.frm a.to_ a.opn l r/\r.no.length<=1/\Gives w r e w'):=by
 have hl3:∀v∈l,v.k=2/\v.i=0/\v.t.length<=32:=by rw[<-hl];split<;>simp[ht]
 have hl4:l.length<=1:=by rw[<-hl];split<;>simp
 have hS:a.kind=2/\a.lo=0/\a.hi=0/\Short a.frm/\(a.opn=true->a.to_=[])/\(a.opn=false->Short a.to_):=by
  rw[<-ha]
  split
  ·exact⟨rfl,rfl,rfl,.inl ht,fun h=>by simp at h,fun _=>.inr ⟨t,rfl,ht⟩⟩
  ·split
   ·exact⟨rfl,rfl,rfl,.inl (by simp),fun h=>by simp at h,fun _=>.inr ⟨t,rfl,ht⟩⟩
   ·split
    ·exact⟨rfl,rfl,rfl,.inl ht,fun _=>rfl,fun h=>by simp at h⟩
    ·split
     ·exact⟨rfl,rfl,rfl,.inl ht,upOpn rfl rfl,fun _=>.inl (Nat.le_trans (upLen rfl) ht)⟩
     ·exact⟨rfl,rfl,rfl,.inl (by simp),fun _=>rfl,fun h=>by simp at h⟩
 refine of_core n o 2 0 t w hn (by omega) hr ho1 ho2 ⟨2,0,0,[],[],true,[]⟩ ⟨2,0,0,t,[],true,[]⟩ ⟨2,0,0,[],t++[0],false,[]⟩ ⟨2,0,0,t,t++[0],false,[]⟩ ⟨2,0,0,t,(Spans.up t).getD [],(Spans.up t).isNone,[]⟩ a l
  (fun w=>rtG (wholeT_at w)) (fun w=>rtG (begin_text 0 0 [] [] true none 0 0 2 0 t w)) (fun w=>rtG (end_text 0 0 [] [] true none 0 0 2 0 t w (by omega))) (fun w=>rtG (end_text 0 0 t [] true none 0 0 2 0 t w (by omega))) (fun _ w=>endPre_at 0 0 t t none 0 0 _ _ rfl rfl (by omega) w) ha hl (IsTexts a.frm a.to_ a.opn l) ?_
 obtain⟨ak,alo,ahi,f,tt,oo,no⟩:=a
 obtain⟨h1,h2,h3,h4,h5,h6⟩:=hS
 dsimp only at h1 h2 h3
 subst h1 h2 h3
 exact fun A m c wx base hm ho hb=>trim2 f tt oo A m c wx base l h4 h5 h6 hl3 hm (by omega) ho hb
theorem of_no (n:LU) (o k i:Int) (t:LU) (w:World) (hn:n.length<=9223372036854775807) (hl:t.length<=9223372036854775807) (hr:Preds.right n o k i t=false):
  Calls Tryz.prog 82 #[.agg (pC n.toArray o k i t.toArray)] w (Gives w none_):=by
 have HRR:=Jh hr
 clear hr
 have hgr:=gr2 w (.cells (pC n.toArray o k i t.toArray) 54) (.cells zC 97)
 have hY:=Blk.new (w.alloc (.cells (pC n.toArray o k i t.toArray) 54)) 97 zC
 rw[show (w.alloc (.cells (pC n.toArray o k i t.toArray) 54)).heap.size=w.heap.size+1 by simp] at hY
 go_enter Tryz.func82,Tryz.ntmps82
 go_wp2_with fail
 generalize (w.alloc (.cells (pC n.toArray o k i t.toArray) 54)).alloc (.cells zC 97)=w0 at *
 refine (pright_is n o k i t w0 hn hl false HRR.o).mono ?_
 rintro e w1 ⟨rfl,hb1⟩
 have hY1:=Blk.below hY hb1 hY.lt
 have hB1:=below_next hgr.below (Jn) hb1
 obtain⟨y0,y1,y2,y3,y4,y5,y6,q0,q1,q2,q3,q4,q5,q6⟩:=blk7 hY1
 have hl1:=hY1.lt
 clear hgr hY hb1
 go_wp2_with fail
 refine bodyPost_ret (v:=spF 0 0 0 [] [] false none 0 0) (by simp[results,Tryz.results82,go_sem,y0,y1,y2,y3,y4,y5,y6]) rfl ?_
 exact⟨none,0,0,rfl,rfl,Jn,OwnK.none_ _ _,below_put7 hB1 (by omega) _ _ _ _ _ _ _⟩
theorem of_any (n:LU) (k i:Int) (t:LU) (w:World) (hn:n.length<=9223372036854775807) (hl:t.length<=9223372036854775807) (hr:Preds.right n 8 k i t=true):
  Calls Tryz.prog 82 #[.agg (pC n.toArray 8 k i t.toArray)] w (Gives w any_):=by
 have HRR:=Jh hr
 clear hr
 have hgr:=gr2 w (.cells (pC n.toArray 8 k i t.toArray) 54) (.cells zC 97)
 have hP:=(Blk.new w 54 (pC n.toArray 8 k i t.toArray)).alloc (.cells zC 97)
 have hY:=Blk.new (w.alloc (.cells (pC n.toArray 8 k i t.toArray) 54)) 97 zC
 rw[show (w.alloc (.cells (pC n.toArray 8 k i t.toArray) 54)).heap.size=w.heap.size+1 by simp] at hY
 go_enter Tryz.func82,Tryz.ntmps82
 go_wp2_with fail
 generalize (w.alloc (.cells (pC n.toArray 8 k i t.toArray) 54)).alloc (.cells zC 97)=w0 at *
 refine (pright_is n 8 k i t w0 hn hl true HRR.o).mono ?_
 rintro e w1 ⟨rfl,hb1⟩
 have hP1:=Blk.below hP hb1 hP.lt
 have hY1:=Blk.below hY hb1 hY.lt
 have hB1:=below_next hgr.below (Jn) hb1
 obtain⟨p0,p1,p2,p3,p4,_⟩:=blk5 hP1
 have hl1:=hP1.lt
 clear hgr hY hb1 hP
 go_wp2_with fail
 refine (all_at w1).mono ?_
 rintro e w2 ⟨rfl,hg2⟩
 have hY2:=Blk.below hY1 hg2.below hY1.lt
 have hB2:=below_next hB1 (Jn) hg2.below
 obtain⟨y0,y1,y2,y3,y4,y5,y6,q0,q1,q2,q3,q4,q5,q6⟩:=blk7 hY2
 have hl2:=hY2.lt
 clear p0 p1 p2 p3 p4 hP1 hY1 hB1 hg2
 go_wp2_with fail
 refine bodyPost_ret (v:=spF 4 0 0 [] [] false none 0 0) (by simp[results,Tryz.results82,go_sem,y0,y1,y2,y3,y4,y5,y6]) rfl ?_
 exact⟨none,0,0,rfl,rfl,Jn,OwnK.none_ _ _,below_put7 hB2 (by omega) _ _ _ _ _ _ _⟩
end
end Go.Proofs.YtnfigjggjmncdaaGreat
namespace Spans
open Go.Op (bytesLess)
theorem ofN_of {p:Pr} {r:Sp} (h:rightP p=true) (hk:p.k=1∨p.k=3) {lo hi:Int} {no:List Val} (hi':IsInts p.k lo hi no r)
  (he:∀v,rightV v=true->v.k=p.k->((lo<=v.i/\v.i<=hi/\v∉no)↔(ofLo p<=v.i/\v.i<=ofHi p/\v∉ofNo p))):IsOf p r:=
 ⟨hi'.1,fun v hv=>by
  rw[hi'.2 v hv,holds_N h hk hv]
  constructor
  ·rintro ⟨a,b⟩;exact⟨a,(he v hv a).1 b⟩
  ·rintro ⟨a,b⟩;exact⟨a,(he v hv a).2 b⟩⟩
theorem ofT_of {p:Pr} {r:Sp} (h:rightP p=true) (hk:p.k=2) {f t:LU} {o:Bool} {no:List Val} (hi':IsTexts f t o no r)
  (he:∀v,rightV v=true->v.k=2->((bytesLess v.t f=false/\(o=true∨bytesLess v.t t=true)/\v∉no)↔(bytesLess v.t (ofFrm p)=false/\(ofOpn p=true∨bytesLess v.t (ofTo p)=true)/\v∉ofNo p))):IsOf p r:=
 ⟨hi'.1,fun v hv=>by
  rw[hi'.2 v hv,holds_T h hk hv]
  constructor
  ·rintro ⟨a,b⟩;exact⟨a,(he v hv a).1 b⟩
  ·rintro ⟨a,b⟩;exact⟨a,(he v hv a).2 b⟩⟩
theorem notN {k i:Int} {v:Val} (hv:rightV v=true) (hk:k=1∨k=3) (hvk:v.k=k):v∉[(⟨k,i,[]⟩:Val)]↔v.i≠i:=by
 rw[List.mem_singleton]
 have ht:=right_numT hv (hvk ▸ hk)
 exact⟨fun h e=>h (Val.ext_ hvk e ht),fun h e=>h (by rw[e])⟩
theorem notT {t:LU} {v:Val} (hv:rightV v=true) (hvk:v.k=2):v∉[(⟨2,0,t⟩:Val)]↔v.t≠t:=by
 rw[List.mem_singleton]
 have hi:=(right_textI hv hvk).1
 exact⟨fun h e=>h (Val.ext_ hvk hi e),fun h e=>h (by rw[e])⟩
theorem lt_iff_next {a t:LU}:(bytesLess a (t++[0])=true/\a≠t)↔bytesLess a t=true:=by
 rw[lt_next]
 constructor
 ·rintro ⟨h1,h2⟩
  rcases less_or a t with h|h|h
  ·exact h
  ·exact absurd h h2
  ·rw[h] at h1;simp at h1
 ·intro h
  exact⟨le_of_lt h,fun e=>by rw[e,Vals.less_irr] at h;simp at h⟩
theorem ge_iff_next {a t:LU}:(bytesLess a t=false/\a≠t)↔bytesLess a (t++[0])=false:=by
 have h:=lt_next a t
 constructor
 ·rintro ⟨h1,h2⟩
  rcases less_or a t with g|g|g
  ·rw[g] at h1;simp at h1
  ·exact absurd g h2
  ·cases hq:bytesLess a (t++[0]) with
   | false=>rfl
   | true=>rw[h.1 hq] at g;simp at g
 ·intro g
  have h3:bytesLess t a=true:=by
   cases hq:bytesLess t a with
   | true=>rfl
   | false=>rw[h.2 hq] at g;simp at g
  exact⟨le_of_lt h3,fun e=>by rw[e,Vals.less_irr] at h3;simp at h3⟩
end Spans
namespace Go.Proofs.YtnfigjggjmncdaaGreat
section
open Go.RowKit Go.Sort Spans Op
def Ofs (w:World) (p:Pr) (e:Ending) (w':World):Prop:=∃r,IsOf p r/\r.no.length<=1/\Gives w r e w'
theorem of_at (p:Pr) (w:World) (hn:p.n.length<=9223372036854775807) (hl:p.t.length<=9223372036854775807) (hi1:-9223372036854775808<=p.i) (hi2:p.i<=9223372036854775807):
  Calls Tryz.prog 82 #[.agg (pC p.n.toArray p.o p.k p.i p.t.toArray)] w (Ofs w p):=by
 obtain⟨n,o,k,i,t⟩:=p
 dsimp only at *
 cases hr:Preds.right n o k i t with
 | false=>exact (of_no n o k i t w hn hl hr).mono fun e w' h=>⟨none_,of_wrong hr,by simp[none_],h⟩
 | true=>
  have hP:rightP ⟨n,o,k,i,t⟩=true:=(rightP_iff _).2 ⟨hr,hi1,hi2⟩
  rcases rightP_cases hP with ⟨h8,h1,h2,h3⟩|⟨h8,h1,h2,hv,hlt,h7⟩
  ·dsimp only at h8 h1 h2 h3
   subst h8
   exact (of_any n k i t w hn hl hr).mono fun e w' h=>⟨any_,of_E hP rfl,by simp[any_],h⟩
  ·dsimp only at h8 h1 h2 hv hlt h7
   by_cases hk2:k=2
   ·subst hk2
    have hi0:i=0:=by rcases Vals.right_cases hv with ⟨h,_⟩ | ⟨_,h,_⟩ | ⟨h,_⟩<;>omega
    subst hi0
    have hoo:o=1∨o=2∨o=3∨o=4∨o=5∨o=6∨o=7:=by omega
    rcases hoo with rfl|rfl|rfl|rfl|rfl|rfl|rfl
    ·exact (ofTxt_at n 1 t (by decide) (by decide) hlt ⟨2,0,0,t,t++[0],false,[]⟩ [] (by simp) (by simp) w hn hr).mono fun e w' ⟨r,hi,hl,h⟩=>⟨r,ofT_of hP rfl hi (fun v _ _=>by simp[ofFrm,ofTo,ofOpn,ofNo]),hl,h⟩
    ·exact (ofTxt_at n 2 t (by decide) (by decide) hlt ⟨2,0,0,[],[],true,[]⟩ [⟨2,0,t⟩] (by simp) (by simp) w hn hr).mono fun e w' ⟨r,hi,hl,h⟩=>⟨r,ofT_of hP rfl hi (fun v _ _=>by simp[ofFrm,ofTo,ofOpn,ofNo,sideV]),hl,h⟩
    ·exact (ofTxt_at n 3 t (by decide) (by decide) hlt ⟨2,0,0,[],t++[0],false,[]⟩ [⟨2,0,t⟩] (by simp) (by simp) w hn hr).mono fun e w' ⟨r,hi,hl,h⟩=>⟨r,ofT_of hP rfl hi (fun v hv hk=>by rw[notT hv hk];simp only[Bool.false_eq_true,false_or,lt_iff_next];simp[ofFrm,ofTo,ofOpn,ofNo]),hl,h⟩
    ·exact (ofTxt_at n 4 t (by decide) (by decide) hlt ⟨2,0,0,[],t++[0],false,[]⟩ [] (by simp) (by simp) w hn hr).mono fun e w' ⟨r,hi,hl,h⟩=>⟨r,ofT_of hP rfl hi (fun v _ _=>by simp[ofFrm,ofTo,ofOpn,ofNo]),hl,h⟩
    ·exact (ofTxt_at n 5 t (by decide) (by decide) hlt ⟨2,0,0,t,[],true,[]⟩ [⟨2,0,t⟩] (by simp) (by simp) w hn hr).mono fun e w' ⟨r,hi,hl,h⟩=>⟨r,ofT_of hP rfl hi (fun v hv hk=>by rw[notT hv hk];simp only[true_or,true_and,ge_iff_next];simp[ofFrm,ofOpn,ofNo]),hl,h⟩
    ·exact (ofTxt_at n 6 t (by decide) (by decide) hlt ⟨2,0,0,t,[],true,[]⟩ [] (by simp) (by simp) w hn hr).mono fun e w' ⟨r,hi,hl,h⟩=>⟨r,ofT_of hP rfl hi (fun v _ _=>by simp[ofFrm,ofOpn,ofNo]),hl,h⟩
    ·exact (ofTxt_at n 7 t (by decide) (by decide) hlt ⟨2,0,0,t,(Spans.up t).getD [],(Spans.up t).isNone,[]⟩ [] (by simp) (by simp) w hn hr).mono fun e w' ⟨r,hi,hl,h⟩=>⟨r,ofT_of hP rfl hi (fun v _ _=>by simp[ofFrm,ofTo,ofOpn,ofNo]),hl,h⟩
   ·have hk:k=1∨k=3:=by rcases Vals.right_cases hv with ⟨h,_⟩ | ⟨h,_⟩ | ⟨h,_⟩<;>omega
    have ht:t=[]:=by rcases Vals.right_cases hv with ⟨_,h⟩ | ⟨h,_⟩ | ⟨_,h,_⟩<;>first | exact h | omega
    subst ht
    have hb:=num_bd (rightP_side hP h8) hk
    have hb1:lowest k<=i:=hb.1
    have hb2:i<=highest k:=hb.2
    have hoo:o=1∨o=2∨o=3∨o=4∨o=5∨o=6:=by
     rcases (show o=7∨o≠7 by omega) with h|h
     ·exact absurd (h7 h) hk2
     ·omega
    rcases hoo with rfl|rfl|rfl|rfl|rfl|rfl
    ·exact (ofNum_at n 1 k i (by decide) (by decide) hk hb1 hb2 i i [] (by simp) (by simp) (by simp) w hn hr).mono fun e w' ⟨r,hi,hl,h⟩=>⟨r,ofN_of hP hk hi (fun v _ _=>by simp[ofLo,ofHi,ofNo]),hl,h⟩
    ·exact (ofNum_at n 2 k i (by decide) (by decide) hk hb1 hb2 (lowest k) (highest k) [⟨k,i,[]⟩] (by simp) (by simp) (by simp) w hn hr).mono fun e w' ⟨r,hi,hl,h⟩=>⟨r,ofN_of hP hk hi (fun v _ _=>by simp[ofLo,ofHi,ofNo,sideV]),hl,h⟩
    ·exact (ofNum_at n 3 k i (by decide) (by decide) hk hb1 hb2 (lowest k) i [⟨k,i,[]⟩] (by simp) (by simp) (by simp) w hn hr).mono fun e w' ⟨r,hi,hl,h⟩=>⟨r,ofN_of hP hk hi (fun v hv hvk=>by rw[notN hv hk hvk];simp[ofLo,ofHi,ofNo];omega),hl,h⟩
    ·exact (ofNum_at n 4 k i (by decide) (by decide) hk hb1 hb2 (lowest k) i [] (by simp) (by simp) (by simp) w hn hr).mono fun e w' ⟨r,hi,hl,h⟩=>⟨r,ofN_of hP hk hi (fun v _ _=>by simp[ofLo,ofHi,ofNo]),hl,h⟩
    ·exact (ofNum_at n 5 k i (by decide) (by decide) hk hb1 hb2 i (highest k) [⟨k,i,[]⟩] (by simp) (by simp) (by simp) w hn hr).mono fun e w' ⟨r,hi,hl,h⟩=>⟨r,ofN_of hP hk hi (fun v hv hvk=>by rw[notN hv hk hvk];simp[ofLo,ofHi,ofNo];omega),hl,h⟩
    ·exact (ofNum_at n 6 k i (by decide) (by decide) hk hb1 hb2 i (highest k) [] (by simp) (by simp) (by simp) w hn hr).mono fun e w' ⟨r,hi,hl,h⟩=>⟨r,ofN_of hP hk hi (fun v _ _=>by simp[ofLo,ofHi,ofNo]),hl,h⟩
end
end Go.Proofs.YtnfigjggjmncdaaGreat
