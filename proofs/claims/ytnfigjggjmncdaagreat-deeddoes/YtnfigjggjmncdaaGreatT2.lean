/- Contracts. -/
import Derived.Test.YtnfigjggjmncdaaGreatA4
import Derived.Test.YtnfigjggjmncdaaGreatT1
set_option maxRecDepth 100000
set_option maxHeartbeats 4000000
namespace Go.Proofs.YtnfigjggjmncdaaGreat
section
open Go.RowKit Go.Sort Spans Tb
abbrev exV (x:Ex):Value:=.agg (eC x.id x.fr x.A x.n x.c)
def GivesE (w:World) (e:En) (en:Ending) (w':World):Prop:=∃y:Ex,en=.returned (exV y)/\y.en=e/\FltO w' w.heap.size y/\Below w.heap.size w w'
theorem copyEntry_at (id fr:Int) (A:OA) (n c:Nat) (f:List Pr) (hn:f.length=n) (hm:n<=100000) (w:World) (hr:RdQ w A f):
  Calls Tryz.prog 69 #[.agg (eC id fr A n c)] w (GivesE w ⟨id,fr,f⟩):=by
 have HN:=Jh hn
 have HR:=Jh hr
 have hB0:=(gr2 w (.cells (eC id fr A n c) 44) (.cells (eC 0 0 none 0 0) 44)).below
 have hX0:=(Blk.new w 44 (eC id fr A n c)).alloc (.cells (eC 0 0 none 0 0) 44)
 have hY0:=Blk.new (w.alloc (.cells (eC id fr A n c) 44)) 44 (eC 0 0 none 0 0)
 rw[show (w.alloc (.cells (eC id fr A n c) 44)).heap.size=w.heap.size+1 by simp] at hY0
 have hR0:=RdK.below HR.o hB0
 have hs0:((w.alloc (.cells (eC id fr A n c) 44)).alloc (.cells (eC 0 0 none 0 0) 44)).heap.size=w.heap.size+2:=by simp
 clear hn hr
 go_enter Tryz.func69,Tryz.ntmps69
 go_wp2_with fail
 generalize (w.alloc (.cells (eC id fr A n c) 44)).alloc (.cells (eC 0 0 none 0 0) 44)=w0 at *
 have hS0:Blk w0.drew w.heap.size 44 (eC id fr A n c):=hX0
 refine wp_region_held_drew (S:=fun w'=>Blk w' w.heap.size 44 (eC id fr A n c)) (by kernel_rfl) hS0 (fun _=>?_)
 refine Jz 0 hS0 ?_ (hv:=by intro w' hSw;obtain⟨r0,r1,r2⟩:=cells3 hSw;go_simp<;>with_reducible rfl)
 refine Jz 1 hS0 ?_ (hv:=by intro w' hSw;obtain⟨r0,r1,r2⟩:=cells3 hSw;go_simp<;>with_reducible rfl)
 refine Jz 2 hS0 ?_ (hv:=by intro w' hSw;obtain⟨r0,r1,r2⟩:=cells3 hSw;go_simp<;>with_reducible rfl)
 refine Jz 3 hS0 ?_ (hv:=by intro w' hSw;obtain⟨r0,r1,r2⟩:=cells3 hSw;go_simp<;>with_reducible rfl)
 refine Jz 4 hS0 ?_ (hv:=by intro w' hSw;obtain⟨r0,r1,r2⟩:=cells3 hSw;go_simp<;>with_reducible rfl)
 refine Jz 5 hS0 ?_ (hv:=by intro w' hSw;obtain⟨r0,r1,r2⟩:=cells3 hSw;go_simp<;>with_reducible rfl)
 refine Je 6 (fun K hK=>?_)
 have hR1:RdQ w0.drew A f:=hR0
 have hY1:Blk w0.drew (w.heap.size+1) 44 (eC 0 0 none 0 0):=hY0
 have hB1:Below w.heap.size w w0.drew:=hB0.drew
 have hs1:w0.drew.heap.size=w.heap.size+2:=hs0
 clear hR0 hY0 hB0 hX0 hs0
 have hO0:OwnQ w0.drew (w.heap.size+2) (.slice none 0 0) []:=OwnK.none_ _ _
 generalize w0.drew=w1 at *
 refine op_append_k layP (.const (.slice none 0 0)) (.tmp 8) 26 underQ (by rfl) (w.heap.size+2) (.slice none 0 0) [] (by rfl) hO0 A f n c (by rfl) hR1 HN.o (by rw[maxLen_num];simp;omega) (by show (0+n)*56<=_;omega) (by omega) ?_
 intro v2 w2 ho2 hb2
 rw[List.nil_append] at ho2
 have hBB:Below (w.heap.size+2) w1 w2:=hb2 w1 (Below.refl _ _)
 have hX2:Blk w2 w.heap.size 44 (eC id fr A n c):=Blk.below hS0 (hBB.mono (by omega)) (Nat.lt_succ_self _)
 have hY2:Blk w2 (w.heap.size+1) 44 (eC 0 0 none 0 0):=Blk.below hY1 (hBB.mono (by omega)) (Nat.lt_succ_self _)
 have hB2:Below w.heap.size w w2:=hB1.trans (hBB.mono (by omega))
 obtain⟨A2,c2,hv2,hc2,hr2⟩:=OwnK.form ho2 HN.o
 subst hv2
 have HO2:=Jh ho2
 have hs2:=hBB.size
 clear hb2 hR1 hO0 hBB hr2 ho2 hS0 hY1 hB1
 refine hK.o _ _ hX2 ?_
 clear hK K
 simp only[Act.put,zu0,zu1,zu2]
 refine Jz 7 hX2 ?_ (hv:=by intro w' hSw;obtain⟨r0,r1,r2⟩:=cells3 hSw;go_simp<;>with_reducible rfl)
 refine Je 8 (fun K hK=>?_)
 obtain⟨y0,y1,y2,q0,q1,q2⟩:=blk3 hY2
 have hly:=hY2.lt
 go_simp
 have hX3:Blk (((w2.setCell ⟨w.heap.size+1,0,none⟩ (.int .i64 id)).setCell ⟨w.heap.size+1,1,none⟩ (.int .i64 fr)).setCell ⟨w.heap.size+1,2,none⟩ (.slice A2 n c2)) w.heap.size 44 (eC id fr A n c):=Blk.far3 hX2 (by omega) _ _ _
 refine hK.o _ _ hX3 ?_
 clear hK K
 refine Jd ?_
 go_wp2_with fail
 refine bodyPost_ret (v:=exV ⟨id,fr,A2,n,c2,f⟩) (by simp[results,Tryz.results69,go_sem,y0,y1,y2]) rfl ?_
 exact⟨⟨id,fr,A2,n,c2,f⟩,rfl,rfl,⟨HN.o,hc2,(OwnK.put3 HO2.o (by omega) _ _ _).less (by omega)⟩,below_put3 hB2 (Nat.le_succ w.heap.size) _ _ _⟩
theorem one_at (x y:Ex) (hx:x.f.length=x.n) (hmx:x.n<=100000) (hy:y.f.length=y.n) (hmy:y.n<=100000) (w:World) (hr:RdQ w x.A x.f) (hr':RdQ w y.A y.f) (q:Bool) (hq:decide (x.en=y.en)=q):
  Calls Tryz.prog 75 #[exV x,exV y] w fun e w'=>e=.returned (.bool q)/\Below w.heap.size w w':=by
 obtain⟨xi,xr,xA,xn,xc,xf⟩:=x
 obtain⟨yi,yr,yA,yn,yc,yf⟩:=y
 dsimp only at *
 have HX:=Jh hx
 have HY:=Jh hy
 have HQ:=Jh hq
 have hB0:=(gr2 w (.cells (eC xi xr xA xn xc) 44) (.cells (eC yi yr yA yn yc) 44)).below
 have hX0:=(Blk.new w 44 (eC xi xr xA xn xc)).alloc (.cells (eC yi yr yA yn yc) 44)
 have hY0:=Blk.new (w.alloc (.cells (eC xi xr xA xn xc) 44)) 44 (eC yi yr yA yn yc)
 rw[show (w.alloc (.cells (eC xi xr xA xn xc) 44)).heap.size=w.heap.size+1 by simp] at hY0
 have HR0:=Jh (RdK.below hr hB0)
 have HR0':=Jh (RdK.below hr' hB0)
 have HB0:=Jh hB0
 obtain⟨x0,x1,x2⟩:=cells3 hX0
 obtain⟨y0,y1,y2⟩:=cells3 hY0
 have hl1:=hX0.lt
 have hl2:=hY0.lt
 clear hx hy hq hB0 hX0 hY0 hr hr'
 by_cases h1:xi=yi
 ·have d1:(xi == yi)=true:=beq_iff_eq.2 h1
  by_cases h2:xr=yr
  ·have d2:(xr == yr)=true:=beq_iff_eq.2 h2
   have HF:Hid (decide (xf=yf)=q):=by
    show _=_
    rw[<-HQ.o]
    simp[h1,h2]
   clear h1 h2
   go_enter Tryz.func75,Tryz.ntmps75
   go_wp2_with fail
   refine (samePs_at xA xf xn xc HX.o hmx yA yf yn yc HY.o hmy _ HR0.o HR0'.o q HF.o).mono ?_
   rintro e w2 ⟨rfl,hg2⟩
   have HB2:=Jh (below_next HB0.o (by have:=HB0.o.size;omega) hg2.below)
   clear hg2 x0 x1 x2 y0 y1 y2
   go_wp2_with fail
   go_ret
   exact⟨rfl,HB2.o⟩
  ·have d2:(xr == yr)=false:=beq_eq_false_iff_ne.2 h2
   have HF:Hid (false=q):=by
    show _=_
    rw[<-HQ.o]
    simp[h2]
   clear h1 h2
   go_enter Tryz.func75,Tryz.ntmps75
   go_wp2_with fail
   go_ret
   exact⟨ret_b HF.o,HB0.o⟩
 ·have d1:(xi == yi)=false:=beq_eq_false_iff_ne.2 h1
  have HF:Hid (false=q):=by
   show _=_
   rw[<-HQ.o]
   simp[h1]
  clear h1
  go_enter Tryz.func75,Tryz.ntmps75
  go_wp2_with fail
  go_ret
  exact⟨ret_b HF.o,HB0.o⟩
def Short (xs:List Ex):Prop:=∀x∈xs,x.n<=100000
structure Sx.Few (s:Sx):Prop where
 n:s.n<=100000
 n1:s.n1<=100000
 n2:s.n2<=100000
 av:Short s.av
 su:Short s.su
theorem own_other {α β:Type} {L:Lay α} {M:Lay β} (hLM:L.T≠M.T) {w w':World} {base base':Nat} {v u:Value} {es:List α} {fs:List β} (h:OwnK M w base u fs) (hv:OwnK L w base' v es) (hg:w.grownBy w' v.ownBlock):OwnK M w' base u fs:=by
 refine ⟨h.1,?_⟩
 rcases h.2 with h2|⟨g,cap,cur,hu,hbg,hh,r⟩
 ·exact .inl h2
 ·refine .inr ⟨g,cap,cur,hu,hbg,(hg.block g (Array.getElem?_eq_some_iff.1 hh).1 (fun e=>?_)).trans hh,r⟩
  rcases hv.2 with ⟨rfl,_⟩|⟨g',cap',cur',rfl,_,hh',_⟩
  ·simp[Value.ownBlock] at e
  ·simp[Value.ownBlock] at e
   subst e
   rw[hh] at hh'
   injection hh' with e1
   injection e1 with _ e2
   exact hLM e2.symm
theorem flt_other {w w':World} {base base':Nat} {v:Value} {es:List Ex} {x:Ex} (h:FltO w base x) (hv:OwnK layE w base' v es) (hg:w.grownBy w' v.ownBlock):FltO w' base x:=
 ⟨h.1,h.2.1,own_other (by decide) h.2.2 hv hg⟩
theorem make_ents (n:Nat) (hn:n<=100000):∃Z:Array Value,Z.size=n*3/\∀W:World,(Instr.makeSlice 23 (.int .i64 0) (.int .i64 (n:Int))).run Tryz.prog W=.ok (.slice (some ⟨W.heap.size,0,none⟩) 0 n) (W.alloc (.cells Z 44)):=by
 obtain⟨i,hi,hz,hs,hby⟩:=Lay.has layE
 refine ⟨madeCells (Value.agg layE.zero).cells (n*3),size_madeCells _ _,fun W=>?_⟩
 have h:=run_make (P:=Tryz.prog) W 23 44 i _ Tryz.underlying23 hi hz .i64 .i64 0 n (by omega) (by omega) (by rw[hby];show (40:Int)*n<=_;omega) (by omega)
 rw[hs,show layE.k=3 from rfl] at h
 simpa using h
theorem own_made0 {W:World} {base:Nat} {Z:Array Value} {n:Nat} (hZ:Z.size=n*3) (hb:base<=W.heap.size) (hn:n<=maxLen):OwnK layE (W.alloc (.cells Z 44)) base (.slice (some ⟨W.heap.size,0,none⟩) 0 n) ([]:List Ex):=
 ⟨by simp,.inr ⟨W.heap.size,n,Z,rfl,hb,heap_alloc_new _ _,Nat.zero_le _,hn,hZ,by simp⟩⟩
def GivesEs (w:World) (es:List En) (e:Ending) (w':World):Prop:=∃(ys:List Ex) (B:OA) (m d:Nat),e=.returned (.slice B m d)/\ys.length=m/\m<=d/\ys.map Ex.en=es/\OwnEn w' w.heap.size (.slice B m d) ys/\Below w.heap.size w w'
theorem copyEnts_at (A:OA) (es:List Ex) (n c:Nat) (hn:es.length=n) (hm:n<=100000) (hs:Short es) (w:World) (hr:RdEn w A es):
  Calls Tryz.prog 37 #[.slice A n c] w (GivesEs w (es.map Ex.en)):=by
 have HN:=Jh hn
 have HR:=Jh hr
 have HS:=Jh hs
 obtain⟨Z,hZ,hmk⟩:=make_ents n hm
 have hB0:Below w.heap.size w (w.alloc (.cells Z 44)):=(gr1 w (.cells Z 44)).below
 have HB0:=Jh hB0
 have HO0:=Jh (own_made0 (W:=w) (base:=w.heap.size) hZ (Jn) (by rw[maxLen_num];omega))
 have hw0:(0:Int)<=(n:Int):=by omega
 clear hn hr hs hB0 hZ
 go_enter Tryz.func37,Tryz.ntmps37
 go_wp2_with fail
 clear hmk
 generalize w.alloc (.cells Z 44)=w0 at *
 go_loopg [3,11] n (fun gg s3 s11 wr=>∃(k:Nat) (ys:List Ex) (B:OA) (d:Nat),k<=n/\n-k<=gg/\s11=.int .i64 (k:Int)/\s3=.slice B k d/\k<=d/\Hid (ys.length=k)/\Hid (ys.map Ex.en=(es.take k).map Ex.en)/\Hid (OwnEn wr w.heap.size (.slice B k d) ys)/\Hid (Below w.heap.size w wr))
 case atStart=>exact⟨0,[],_,n,Nat.zero_le _,by omega,rfl,rfl,Nat.zero_le _,rfl,by show _=_;simp,⟨HO0.o,fun x hx=>by cases hx⟩,HB0⟩
 case round=>
  obtain⟨k,ys,B,d,hk,hgg,rfl,rfl,hkd,HL,HM,HO,HB⟩:=hrel
  clear HB0 HO0
  by_cases hlt:k<n
  ·have hk':k<es.length:=by rw[HN.o];exact hlt
   obtain⟨g,off,rfl,hg,c0,c1,c2,hf⟩:=RdEn.at3 (HR.o.below HB.o) hk'
   have hsx:=HS.o _ (List.getElem_mem hk')
   obtain⟨x,hx⟩:∃x,es[k]=x:=⟨_,rfl⟩
   have HX:=Jh hx
   rw[hx] at c0 c1 c2 hf hsx
   clear hx
   obtain⟨xi,xr,xA,xn,xc,xf⟩:=x
   obtain⟨hf1,hf2,hf3⟩:=hf
   dsimp only at c0 c1 c2 hsx hf1 hf2 hf3
   have w5:(k:Int)<(n:Int):=by omega
   have hbA:Below wr.heap.size wr (wr.alloc (.cells (eC xi xr xA xn xc) 44)):=(gr1 wr (.cells (eC xi xr xA xn xc) 44)).below
   have HB1:=Jh (below_next HB.o (Jn) hbA)
   have HO1:=Jh (HO.o.below hbA)
   have HRX:=Jh (RdK.below hf3 hbA)
   have HF1:=Jh hf1
   clear hbA hf1 hf3
   go_wp2_with fail
   refine (copyEntry_at xi xr xA xn xc xf HF1.o hsx _ HRX.o).mono ?_
   rintro e w2 ⟨⟨yi,yr,yA,yn,yc,yf⟩,rfl,hye,hfl,hb2⟩
   have HB2:=Jh (below_next HB1.o (by have:=HB1.o.size;omega) hb2)
   have HO2:=Jh (HO1.o.below hb2)
   have HFL:=Jh (hfl.less HB1.o.size)
   have HYE:=Jh hye
   have hb3:Below w2.heap.size w2 (w2.alloc (.cells (eC yi yr yA yn yc) 44)):=(gr1 w2 (.cells (eC yi yr yA yn yc) 44)).below
   have hB3:=below_next HB2.o (Jn) hb3
   have HO3:=Jh (HO2.o.below hb3)
   have hO3:=HO3.o.1
   have HFL3:=Jh (HFL.o.below hb3)
   have hr3:=rdk_one layE w2 ⟨yi,yr,yA,yn,yc,yf⟩ 44 (eC yi yr yA yn yc) rfl
   have hs3:=hB3.size
   clear hb2 hb3 hfl hye c0 c1 c2 HRX HB1 HB2 HO1 HO2 HO HB HFL
   go_wp2_with (at_builtin;refine wpList_append_k layE (by rfl) (.tmp 15) (.tmp 18) 23 underE rfl w.heap.size _ ys (by rfl) hO3 _ [⟨yi,yr,yA,yn,yc,yf⟩] 1 1 (by rfl) hr3 rfl (by rw[maxLen_num,HL.o];omega) (by show (ys.length+1)*40<=_;rw[HL.o];omega) hs3 ?_;intro v6 w6 ho6 hB6' hg6' hl6';have hlen:(ys++[(⟨yi,yr,yA,yn,yc,yf⟩:Ex)]).length=k+1:=(by rw[List.length_append,HL.o];rfl);obtain⟨A9,c9,hv9,hc9,hr9⟩:=OwnK.form ho6 hlen;subst hv9)
   have HB6:=Jh (hB6' w hB3)
   have HL6:=Jh hlen
   have HO6:Hid (OwnEn w6 w.heap.size (.slice A9 (k+1) c9) (ys++[⟨yi,yr,yA,yn,yc,yf⟩])):=by
    refine ⟨ho6,fun z hz=>?_⟩
    rcases List.mem_append.1 hz with h|h
    ·exact flt_other (HO3.o.2 z h) hO3 hg6'
    ·simp at h;subst h;exact flt_other HFL3.o hO3 hg6'
   have HM6:Hid ((ys++[(⟨yi,yr,yA,yn,yc,yf⟩:Ex)]).map Ex.en=(es.take (k+1)).map Ex.en):=by
    show _=_
    rw[map_snoc _ hk',HX.o,List.map_append,HM.o]
    have:=HYE.o
    simp only[List.map_cons,List.map_nil]
    rw[this]
   clear hB6' hg6' hl6' ho6 hlen hr9 hr3 hO3 hB3 hs3 HO3 HFL3 HYE HL HM HX
   go_wp2_with fail
   go_roundg (n-(k+1))
   case measure=>omega
   case rel=>exact⟨k+1,_,A9,c9,by omega,Jn,by go_num,rfl,hc9,HL6,HM6,HO6,HB6⟩
  ·have hkn:k=n:=by omega
   subst hkn
   go_wp2_with fail
   go_ret
   refine ⟨ys,B,k,d,rfl,HL.o,hkd,?_,HO.o,HB.o⟩
   have:=HM.o
   rwa [List.take_of_length_le (by rw[HN.o];exact Jn)] at this
def GivesSt (w:World) (b:Bk) (e:Ending) (w':World):Prop:=∃t:Sx,e=.returned t.v/\t.bk=b/\t.Len/\t.Own w' w.heap.size/\Below w.heap.size w w'
def GivesSt2 (w:World) (b:Bk) (e:Ending) (w':World):Prop:=∃t:Sx,e=.returned t.v/\t.bk=b/\t.Len/\t.Own w' w.heap.size/\Below w.heap.size w w'/\∀k,(Value.slice t.A1 t.n1 t.c1).ownBlock=some k->(Value.slice t.A2 t.n2 t.c2).ownBlock≠some k
theorem copySt2_at (s:Sx) (ln:s.Len) (fw:s.Few) (w:World) (hr:s.Rd w):
  Calls Tryz.prog 14 #[s.v] w (GivesSt2 w s.bk):=by
 obtain⟨ep,A,n,c,ls,A1,n1,c1,av,A2,n2,c2,su⟩:=s
 have LN:=Jh ln
 have FW:=Jh fw
 have hn:n<=100000:=fw.n
 have hB0:=(gr2 w (.cells (xC ep A n c A1 n1 c1 A2 n2 c2) 25) (.cells xZ 25)).below
 have hX0:=(Blk.new w 25 (xC ep A n c A1 n1 c1 A2 n2 c2)).alloc (.cells xZ 25)
 have hY0:=Blk.new (w.alloc (.cells (xC ep A n c A1 n1 c1 A2 n2 c2) 25)) 25 xZ
 rw[show (w.alloc (.cells (xC ep A n c A1 n1 c1 A2 n2 c2) 25)).heap.size=w.heap.size+1 by simp] at hY0
 have hR0:=hr.below hB0
 have hs0:((w.alloc (.cells (xC ep A n c A1 n1 c1 A2 n2 c2) 25)).alloc (.cells xZ 25)).heap.size=w.heap.size+2:=by simp
 clear ln fw hr
 go_enter Tryz.func14,Tryz.ntmps14
 go_wp2_with fail
 generalize (w.alloc (.cells (xC ep A n c A1 n1 c1 A2 n2 c2) 25)).alloc (.cells xZ 25)=w0 at *
 have hS0:Blk w0.drew w.heap.size 25 (xC ep A n c A1 n1 c1 A2 n2 c2):=hX0
 refine wp_region_held_drew (S:=fun w'=>Blk w' w.heap.size 25 (xC ep A n c A1 n1 c1 A2 n2 c2)) (by kernel_rfl) hS0 (fun _=>?_)
 refine Jz 0 hS0 ?_ (hv:=by intro w' hSw;obtain⟨r0,r1,r2,r3,_⟩:=blk4 hSw;go_simp<;>with_reducible rfl)
 refine Jz 1 hS0 ?_ (hv:=by intro w' hSw;obtain⟨r0,r1,r2,r3,_⟩:=blk4 hSw;go_simp<;>with_reducible rfl)
 refine Jz 2 hS0 ?_ (hv:=by intro w' hSw;obtain⟨r0,r1,r2,r3,_⟩:=blk4 hSw;go_simp<;>with_reducible rfl)
 refine Jz 3 hS0 ?_ (hv:=by intro w' hSw;obtain⟨r0,r1,r2,r3,_⟩:=blk4 hSw;go_simp<;>with_reducible rfl)
 refine Jz 5 hS0 ?_ (hv:=by intro w' hSw;obtain⟨r0,r1,r2,r3,_⟩:=blk4 hSw;go_simp<;>with_reducible rfl)
 refine Jz 6 hS0 ?_ (hv:=by intro w' hSw;obtain⟨r0,r1,r2,r3,_⟩:=blk4 hSw;go_simp<;>with_reducible rfl)
 refine Jz 8 hS0 ?_ (hv:=by intro w' hSw;obtain⟨r0,r1,r2,r3,_⟩:=blk4 hSw;go_simp<;>with_reducible rfl)
 refine Jz 9 hS0 ?_ (hv:=by intro w' hSw;obtain⟨r0,r1,r2,r3,_⟩:=blk4 hSw;go_simp<;>with_reducible rfl)
 have HR:Hid (Sx.Rd w0.drew ⟨ep,A,n,c,ls,A1,n1,c1,av,A2,n2,c2,su⟩):=hR0.below (by exact (Below.refl _ _).drew)
 have HY:Hid (Blk w0.drew (w.heap.size+1) 25 xZ):=hY0
 have HB:Hid (Below w.heap.size w w0.drew):=hB0.drew
 have hs1:w.heap.size+2<=w0.drew.heap.size:=by have:w0.drew.heap.size=w0.heap.size:=rfl;omega
 have HX:=Jh hS0
 clear hR0 hY0 hB0 hX0 hs0 hS0
 generalize w0.drew=w1 at *
 refine Je 4 (fun K hK=>?_)
 have hO0:OwnLk w1 w1.heap.size (.slice none 0 0) []:=OwnK.none_ _ _
 refine op_append_k layL (.const (.slice none 0 0)) (.tmp 6) 22 underL (by rfl) w1.heap.size (.slice none 0 0) [] (by rfl) hO0 A ls n c (by rfl) HR.o.ls LN.o.n (by rw[maxLen_num];simp;omega) (by show (0+n)*24<=_;omega) (Jn) ?_
 intro v2 w2 ho2 hb2
 rw[List.nil_append] at ho2
 have hb:Below w1.heap.size w1 w2:=hb2 w1 (Below.refl _ _)
 obtain⟨B0,d0,hv2,hd0,_⟩:=OwnK.form ho2 LN.o.n
 subst hv2
 have HL:=Jh (ho2.less (show w.heap.size+2<=_ by omega))
 replace HR:=Jh (HR.o.below hb)
 replace HY:=Jh (Blk.below HY.o hb HY.o.lt)
 replace HB:=Jh (below_next HB.o (by have:=HB.o.size;omega) hb)
 replace hs1:w.heap.size+2<=w2.heap.size:=Nat.le_trans hs1 hb.size
 replace HX:=Jh (Blk.below HX.o hb HX.o.lt)
 clear hb2 hO0 ho2 hb
 refine hK.o _ _ HX.o ?_
 clear hK
 simp only[Act.put,zu0,zu1,zu2]
 refine Je 7 (fun K hK=>?_)
 go_simp
 with_reducible refine (copyEnts_at A1 av n1 c1 LN.o.n1 FW.o.n1 FW.o.av w2 HR.o.av).mono ?_
 rintro e w3 ⟨yv,B1,m1,d1,rfl,hm1,hd1,hy1,ho1,hb⟩
 have HA:=Jh (ho1.less hs1)
 replace HR:=Jh (HR.o.below hb)
 replace HY:=Jh (Blk.below HY.o hb HY.o.lt)
 replace HB:=Jh (below_next HB.o (by have:=HB.o.size;omega) hb)
 replace hs1:w.heap.size+2<=w3.heap.size:=Nat.le_trans hs1 hb.size
 replace HX:=Jh (Blk.below HX.o hb HX.o.lt)
 replace HL:=Jh (OwnK.below HL.o hb)
 have HM1:=Jh hm1
 have HE1:=Jh hy1
 clear hb hm1 hy1 ho1
 go_wp2_with fail
 refine hK.o _ _ HX.o ?_
 clear hK
 refine Je 10 (fun K hK=>?_)
 go_simp
 with_reducible refine (copyEnts_at A2 su n2 c2 LN.o.n2 FW.o.n2 FW.o.su w3 HR.o.su).mono ?_
 rintro e w4 ⟨yu,B2,m2,d2,rfl,hm2,hd2,hy2,ho2,hb⟩
 have HU:=Jh (ho2.less hs1)
 have HSEP:Hid (∀k,(Value.slice B1 m1 d1).ownBlock=some k->(Value.slice B2 m2 d2).ownBlock≠some k):=fun k h1 h2=>by
  have a:=(HA.o.1.lt k h1).2
  have b:=ho2.1.base_le k h2
  omega
 replace HR:=Jh (HR.o.below hb)
 replace HY:=Jh (Blk.below HY.o hb HY.o.lt)
 replace HB:=Jh (below_next HB.o (by have:=HB.o.size;omega) hb)
 replace hs1:w.heap.size+2<=w4.heap.size:=Nat.le_trans hs1 hb.size
 replace HX:=Jh (Blk.below HX.o hb HX.o.lt)
 replace HL:=Jh (OwnK.below HL.o hb)
 replace HA:=Jh (HA.o.below hb)
 have HM2:=Jh hm2
 have HE2:=Jh hy2
 clear hb hm2 hy2 ho2
 go_wp2_with fail
 refine hK.o _ _ HX.o ?_
 clear hK
 refine Jz 11 HX.o ?_ (hv:=by intro w' hSw;obtain⟨r0,r1,r2,r3,_⟩:=blk4 hSw;go_simp<;>with_reducible rfl)
 refine Je 12 (fun K hK=>?_)
 obtain⟨y0,y1,y2,y3,q0,q1,q2,q3⟩:=blk4 HY.o
 have hly:=HY.o.lt
 go_simp
 have hX3:Blk ((((w4.setCell ⟨w.heap.size+1,0,none⟩ (.int .i64 ep)).setCell ⟨w.heap.size+1,1,none⟩ (.slice B0 n d0)).setCell ⟨w.heap.size+1,2,none⟩ (.slice B1 m1 d1)).setCell ⟨w.heap.size+1,3,none⟩ (.slice B2 m2 d2)) w.heap.size 25 (xC ep A n c A1 n1 c1 A2 n2 c2):=Blk.far4 HX.o (by omega) _ _ _ _
 refine hK.o _ _ hX3 ?_
 clear hK K
 refine Jd ?_
 go_wp2_with fail
 refine bodyPost_ret (v:=Sx.v ⟨ep,B0,n,d0,ls,B1,m1,d1,yv,B2,m2,d2,yu⟩) (by simp[results,Tryz.results14,go_sem,y0,y1,y2,y3]) rfl ?_
 refine ⟨⟨ep,B0,n,d0,ls,B1,m1,d1,yv,B2,m2,d2,yu⟩,rfl,?_,⟨LN.o.n,hd0,HM1.o,hd1,HM2.o,hd2⟩,⟨?_,⟨?_,fun x hx=>?_⟩,⟨?_,fun x hx=>?_⟩⟩,below_put4 HB.o (Nat.le_succ w.heap.size) _ _ _ _,HSEP.o⟩
 ·show (⟨ep,ls,yv.map Ex.en,yu.map Ex.en⟩:Bk)=⟨ep,ls,av.map Ex.en,su.map Ex.en⟩
  rw[HE1.o,HE2.o]
 ·exact (OwnK.put4 HL.o (by omega) _ _ _ _).less (by omega)
 ·exact (OwnK.put4 HA.o.1 (by omega) _ _ _ _).less (by omega)
 ·exact⟨(HA.o.2 x hx).1,(HA.o.2 x hx).2.1,(OwnK.put4 (HA.o.2 x hx).2.2 (by omega) _ _ _ _).less (by omega)⟩
 ·exact (OwnK.put4 HU.o.1 (by omega) _ _ _ _).less (by omega)
 ·exact⟨(HU.o.2 x hx).1,(HU.o.2 x hx).2.1,(OwnK.put4 (HU.o.2 x hx).2.2 (by omega) _ _ _ _).less (by omega)⟩
end
end Go.Proofs.YtnfigjggjmncdaaGreat
