/- Contracts. -/
import Derived.Deep.CutRange
import Derived.Deep.CutBlock
import Derived.Test.YtnfigjggjmncdaaGreatT1
import Derived.Test.YtnfigjggjmncdaaGreatT2
import Derived.Test.YtnfigjggjmncdaaGreatT3
import Derived.Test.YtnfigjggjmncdaaGreatX2
import Derived.Test.YtnfigjggjmncdaaGreatK1
set_option maxRecDepth 100000
set_option maxHeartbeats 4000000
namespace Go.Proofs.YtnfigjggjmncdaaGreat
section
open Go.RowKit Go.ChangeShapes Go.WideShapes Go.Deep Go.Sort Spans Tb
def GivesR (w:World) (P:List Ex->Prop) (e:Ending) (w':World):Prop:=∃(ys:List Ex) (B:OA) (m d:Nat),e=.returned (.slice B m d)/\ys.length=m/\m<=d/\P ys/\OwnK layE w' w.heap.size (.slice B m d) ys/\Below w.heap.size w w'
theorem rless_at (A:OA) (es:List Ex) (n c:Nat) (i:Int) (hn:es.length=n) (hm:n<=100000) (w:World) (hr:RdEn w A es):
  Calls Tryz.prog 73 #[.slice A n c,.int .i64 i] w (GivesR w fun ys=>ys=es.filter fun x=>decide (x.id≠i)):=by
 have HN:=Jh hn
 have HR:=Jh hr
 clear hn hr
 go_enter Tryz.func73,Tryz.ntmps73
 go_wp2_with fail
 go_loopg [5,6] n (fun gg s5 s6 wr=>∃(k m d:Nat) (B:OA),k<=n/\n-k<=gg/\s6=.int .i64 (k:Int)/\s5=.slice B m d/\m<=d/\m<=k/\Hid (((es.take k).filter fun x=>decide (x.id≠i)).length=m)/\Hid (OwnK layE wr w.heap.size (.slice B m d) ((es.take k).filter fun x=>decide (x.id≠i)))/\Hid (Below w.heap.size w wr))
 case atStart=>exact⟨0,0,0,none,Nat.zero_le _,by omega,rfl,rfl,Jn,Jn,by show _=_;simp,by show OwnK _ _ _ _ _;simpa using OwnK.none_ _ _,Below.refl _ _⟩
 case round=>
  obtain⟨k,m,d,B,hk,hgg,rfl,rfl,hmd,hmk,HM,HO,HB⟩:=hrel
  by_cases hlt:k<n
  ·have hk':k<es.length:=by rw[HN.o];exact hlt
   obtain⟨g,off,rfl,hg,c0,c1,c2,_⟩:=RdEn.at3 (HR.o.below HB.o) hk'
   obtain⟨x,hx⟩:∃x,es[k]=x:=⟨_,rfl⟩
   have HX:=Jh hx
   rw[hx] at c0 c1 c2
   clear hx
   obtain⟨xi,xr,xA,xn,xc,xf⟩:=x
   dsimp only at c0 c1 c2
   have w5:(k:Int)<(n:Int):=by omega
   have hsn:(es.take (k+1)).filter (fun x=>decide (x.id≠i))=(es.take k).filter (fun x=>decide (x.id≠i))++(if xi=i then [] else [⟨xi,xr,xA,xn,xc,xf⟩]):=by
    rw[List.take_succ_eq_append_getElem hk',List.filter_append,HX.o]
    by_cases e:xi=i<;>simp[e]
   by_cases hxi:xi=i
   ·have hd:(xi != i)=false:=by simpa using hxi
    rw[if_pos hxi,List.append_nil] at hsn
    have HM2:Hid (((es.take (k+1)).filter fun x=>decide (x.id≠i)).length=m):=by rw[hsn];exact HM.o
    have HO2:Hid (OwnK layE wr w.heap.size (.slice B m d) ((es.take (k+1)).filter fun x=>decide (x.id≠i))):=by rw[hsn];exact HO.o
    clear hsn hxi
    go_wp2_with fail
    go_roundg (n-(k+1))
    case measure=>omega
    case rel=>exact⟨k+1,m,d,B,by omega,Jn,by go_num,rfl,hmd,by omega,HM2,HO2,HB⟩
   ·have hd:(xi != i)=true:=by simpa using hxi
    rw[if_neg hxi] at hsn
    have HSN:=Jh hsn
    have hrx:=rdk_one layE wr ⟨xi,xr,xA,xn,xc,xf⟩ 44 (eC xi xr xA xn xc) rfl
    have hbq:Below wr.heap.size wr (wr.alloc (.cells (eC xi xr xA xn xc) 44)):=(gr1 wr _).below
    have ho3:=OwnK.below HO.o hbq
    have hs3:w.heap.size<=(wr.alloc (.cells (eC xi xr xA xn xc) 44)).heap.size:=Nat.le_trans HB.o.size hbq.size
    have hb3:=below_next HB.o (Jn) hbq
    have hlm:=HM.o
    clear hsn hxi
    go_wp2_with (at_builtin;refine wpList_append_k layE (by rfl) (.tmp 20) (.tmp 25) 23 underE rfl w.heap.size _ ((es.take k).filter fun x=>decide (x.id≠i)) (by rfl) ho3 _ [⟨xi,xr,xA,xn,xc,xf⟩] 1 1 (by rfl) hrx rfl (by rw[maxLen_num,hlm];omega) (by simp only[layE];rw[hlm];omega) hs3 ?_;intro v2 y2 o2 b2 _ _;rw[<-HSN.o] at o2;have hl2:((es.take (k+1)).filter fun x=>decide (x.id≠i)).length=m+1:=(by rw[HSN.o,List.length_append,hlm];rfl);obtain⟨B2,d2,hv2,hd2,_⟩:=OwnK.form o2 hl2;subst hv2;have HB3:=Jh (b2 w hb3);have HO3:=Jh o2;have HM3:=Jh hl2;clear b2 o2 hl2 hb3 ho3 hrx hbq hs3 hlm c0 c1 c2 hg)
    go_roundg (n-(k+1))
    case measure=>omega
    case rel=>exact⟨k+1,m+1,d2,B2,by omega,Jn,by go_num,rfl,hd2,by omega,HM3,HO3,HB3⟩
  ·obtain rfl:n=k:=by omega
   have ht:es.take n=es:=List.take_of_length_le (by rw[HN.o];exact Jn)
   have hoo:=HO.o
   have hll:=HM.o
   rw[ht] at hoo hll
   have HOO:=Jh hoo
   have HLL:=Jh hll
   clear ht hoo hll HO HM
   go_wp2_with fail
   go_ret
   exact⟨_,B,m,d,rfl,HLL.o,hmd,rfl,HOO.o,HB.o⟩
theorem rmore_at (A:OA) (es:List Ex) (n c:Nat) (hc:n<=c) (x:Ex) (hn:es.length=n) (hm:n<=100000) (hp:es.Pairwise fun a b=>a.id<b.id) (w:World) (hr:RdEn w A es) (hx:Flt w x):
  Calls Tryz.prog 74 #[.slice A n c,exV x] w (GivesR w fun ys=>ys=Dm.ins es (Dm.place Ex.id es x.id) x):=by
 obtain⟨xi,xr,xA,xn,xc,xf⟩:=x
 have HN:=Jh hn
 have HP:=Jh hp
 have hb0:=(gr1 w (.cells (eC xi xr xA xn xc) 44)).below
 have BX:=Jh (Blk.new w 44 (eC xi xr xA xn xc))
 have HR:=Jh (hr.below hb0)
 have HX:=Jh (hx.below hb0)
 have HB:=Jh hb0
 clear hn hr hx hp hb0
 go_enter Tryz.func74,Tryz.ntmps74
 go_wp2_with fail
 generalize w.alloc (.cells (eC xi xr xA xn xc) 44)=w0 at *
 go_loopg [5] n (fun gg s5 wr=>∃k:Nat,k<=n/\n-k<=gg/\s5=.int .i64 (k:Int)/\Hid (Below w0.heap.size w0 wr)/\Hid (∀j (h:j<es.length),j<k->es[j].id<xi))
 case atStart=>exact⟨0,Nat.zero_le _,by omega,rfl,Below.refl _ _,fun j h h2=>by omega⟩
 case round=>
  obtain⟨k,hk,hgg,rfl,HG,HA⟩:=hrel
  have BX2:=Jh (Blk.below BX.o HG.o BX.o.lt)
  obtain⟨x0,x1,x2⟩:=gx3 BX2.o
  have hfin:(∀(h:k<es.length),xi<=es[k].id)->Hid (Dm.place Ex.id es xi=k):=fun h=>Dm.place_eq HP.o (by rw[HN.o];exact hk) HA.o fun j hj hkj=>by
   by_cases e:j=k
   ·subst e;exact h hj
   ·have h1:=h (by omega)
    have:=List.pairwise_iff_getElem.1 HP.o k j (by omega) hj (by omega)
    omega
  have HFIN:=Jh hfin
  clear hfin
  by_cases hgo:∃h:k<es.length,es[k].id<xi
  ·obtain⟨hk',hlt⟩:=hgo
   have hkn:k<n:=by rw[<-HN.o];exact hk'
   obtain⟨g,off,rfl,hg,c0,_⟩:=RdEn.at3 (HR.o.below HG.o) hk'
   obtain⟨y,hy⟩:∃y,es[k].id=y:=⟨_,rfl⟩
   have HY:=Jh hy
   rw[hy] at c0 hlt
   have z0:=gx_cell c0
   have hd:decide (k<n)=true:=decide_eq_true (by omega)
   have hd2:decide (y<xi)=true:=decide_eq_true hlt
   have HA2:Hid (∀j (h:j<es.length),j<k+1->es[j].id<xi):=fun j h h2=>by
    by_cases e:j=k
    ·subst e;rw[HY.o];exact hlt
    ·exact HA.o j h (by omega)
   clear hy hlt c0 hg HFIN
   go_wp2_with fail
   refine qbr (fun nq osq=>?_)
   have HG2:=Jh (below_next HG.o (Jn) (below_gx wr nq osq))
   clear z0 x0 x1 x2 hd hd2
   go_wp2_with fail
   go_roundg (n-(k+1))
   case measure=>omega
   case rel=>exact⟨k+1,by omega,Jn,by go_num,HG2,HA2⟩
  ·have HPL:=HFIN.o fun h=>by
    refine Classical.byContradiction fun hn=>hgo ⟨h,by omega⟩
   have hfact:∀b:Bool,b=false->b=false:=fun _ h=>h
   have hsplit:(k=n/\decide (k<n)=false)∨(∃h:k<es.length,decide (k<n)=true/\¬es[k].id<xi):=by
    by_cases e:k=n
    ·exact .inl ⟨e,decide_eq_false (by omega)⟩
    ·exact .inr ⟨by rw[HN.o];omega,decide_eq_true (by omega),fun h=>hgo ⟨by rw[HN.o];omega,h⟩⟩
   clear HFIN hgo hfact
   rcases hsplit with ⟨hkn,hd⟩|⟨hk',hd,hlt⟩
   ·clear hkn
    go_wp2_with fail
    refine qbr (fun nq osq=>?_)
    have HG2:=Jh (below_next HG.o (Jn) (below_gx wr nq osq))
    clear x0 x1 x2 hd
    generalize gx wr nq osq=wq at *
    have hkc:k<=c:=by omega
    have hhd:=run_headE A n c k hk hc
    obtain⟨A8,hcut,hr8⟩:=run_cutE (k:=k) (HR.o.below HG2.o).1 HN.o hk hc
    have hbq:Below wq.heap.size wq (wq.alloc (.cells #[] 44)):=(gr1 wq _).below
    have ho0:OwnK layE (wq.alloc (.cells #[] 44)) wq.heap.size (.slice (some ⟨wq.heap.size,0,none⟩) 0 0) []:=OwnK.empty wq wq.heap.size (Jn)
    have hs0:wq.heap.size<=(wq.alloc (.cells #[] 44)).heap.size:=hbq.size
    have hra:RdK layE (wq.alloc (.cells #[] 44)) A (es.take k):=RdK.take (RdK.below (HR.o.below HG2.o).1 hbq) k
    have hlk:(es.take k).length=k:=by rw[List.length_take,HN.o];omega
    have hld:(es.drop k).length=n-k:=by rw[List.length_drop,HN.o]
    have HR8:=Jh hr8
    have BX3:=Jh (Blk.below BX.o HG2.o BX.o.lt)
    clear hr8
    go_wp2_with (first
     | (at_builtin;refine wpList_append_k layE (by rfl) (.tmp 23) (.tmp 26) 23 underE rfl wq.heap.size _ [] (by rfl) ho0 A (es.take k) k c (by rfl) hra hlk (by rw[maxLen_num];simp;omega) (by simp[layE];omega) hs0 ?_;intro v4 wB o4 b4 _ _;rw[List.nil_append] at o4;have hB4:=b4 wq hbq;obtain⟨A4,c4,hv4,hc4,_⟩:=OwnK.form o4 hlk;subst hv4;have hb3:=Blk.below BX3.o hB4 BX3.o.lt;obtain⟨u0,u1,u2⟩:=cells3 hb3;have hlu:=hb3.lt;have hbx:Below wB.heap.size wB (wB.alloc (.cells (eC xi xr xA xn xc) 44)):=(gr1 wB _).below;have ho5:=OwnK.below o4 hbx;have hrx:=rdk_one layE wB ⟨xi,xr,xA,xn,xc,xf⟩ 44 (eC xi xr xA xn xc) rfl;have hB5:=below_next hB4 (Jn) hbx;have hs5:=hB5.size;clear b4 ho0 hs0 hra hb3)
     | (at_builtin;refine wpList_append_k layE (by rfl) (.tmp 28) (.tmp 30) 23 underE rfl wq.heap.size _ (es.take k) (by rfl) ho5 _ [⟨xi,xr,xA,xn,xc,xf⟩] 1 1 (by rfl) hrx rfl (by rw[maxLen_num,hlk];omega) (by simp only[layE];rw[hlk];omega) hs5 ?_;intro v6 wC o6 b6 _ _;have hB6:=b6 wq hB5;have hl6:(es.take k++[(⟨xi,xr,xA,xn,xc,xf⟩:Ex)]).length=k+1:=(by rw[List.length_append,hlk];rfl);obtain⟨A6,c6,hv6,hc6,_⟩:=OwnK.form o6 hl6;subst hv6;have hrb:=RdK.below HR8.o hB6;have hs6:=hB6.size;clear b6 ho5 hrx hs5 u0 u1 u2 hlu)
     | (at_builtin;refine wpList_append_k layE (by rfl) (.tmp 32) (.tmp 35) 23 underE rfl wq.heap.size _ (es.take k++[⟨xi,xr,xA,xn,xc,xf⟩]) (by rfl) o6 A8 (es.drop k) (n-k) (c-k) (by rfl) hrb hld (by rw[maxLen_num,hl6];omega) (by simp only[layE];rw[hl6];omega) hs6 ?_;intro v9 wE o9 b9 _ _;have hB9:=b9 wq hB6;have hl9:(es.take k++[(⟨xi,xr,xA,xn,xc,xf⟩:Ex)]++es.drop k).length=n+1:=(by rw[List.length_append,hl6,hld];omega);obtain⟨A9,c9,hv9,hc9,hr9⟩:=OwnK.form o9 hl9;subst hv9;have HR9:=Jh o9;have HL9:=Jh hl9;have HB9:=Jh (below_next HG2.o (Jn) hB9);clear b9 o6 hrb hs6))
    go_ret
    refine ⟨_,A9,n+1,c9,rfl,HL9.o,hc9,?_,HR9.o.less (Nat.le_trans HB.o.size HG2.o.size),below_next HB.o (Jn) HB9.o⟩
    ·rw[HPL.o];simp[Dm.ins]
   ·obtain⟨g,off,rfl,hg,c0,_⟩:=RdEn.at3 (HR.o.below HG.o) hk'
    obtain⟨y,hy⟩:∃y,es[k].id=y:=⟨_,rfl⟩
    rw[hy] at c0 hlt
    have z0:=gx_cell c0
    have hd2:decide (y<xi)=false:=decide_eq_false hlt
    have hkn:k<n:=of_decide_eq_true hd
    have w5:(k:Int)<(n:Int):=by omega
    clear hy hlt c0 hg
    go_wp2_with fail
    refine qbr (fun nq osq=>?_)
    have HG2:=Jh (below_next HG.o (Jn) (below_gx wr nq osq))
    clear x0 x1 x2 hd z0 hd2 w5
    generalize gx wr nq osq=wq at *
    have hkc:k<=c:=by omega
    have hhd:=run_headE (some ⟨g,off,none⟩) n c k hk hc
    obtain⟨A8,hcut,hr8⟩:=run_cutE (k:=k) (HR.o.below HG2.o).1 HN.o hk hc
    have hbq:Below wq.heap.size wq (wq.alloc (.cells #[] 44)):=(gr1 wq _).below
    have ho0:OwnK layE (wq.alloc (.cells #[] 44)) wq.heap.size (.slice (some ⟨wq.heap.size,0,none⟩) 0 0) []:=OwnK.empty wq wq.heap.size (Jn)
    have hs0:wq.heap.size<=(wq.alloc (.cells #[] 44)).heap.size:=hbq.size
    have hra:RdK layE (wq.alloc (.cells #[] 44)) (some ⟨g,off,none⟩) (es.take k):=RdK.take (RdK.below (HR.o.below HG2.o).1 hbq) k
    have hlk:(es.take k).length=k:=by rw[List.length_take,HN.o];omega
    have hld:(es.drop k).length=n-k:=by rw[List.length_drop,HN.o]
    have HR8:=Jh hr8
    have BX3:=Jh (Blk.below BX.o HG2.o BX.o.lt)
    clear hr8
    go_wp2_with (first
     | (at_builtin;refine wpList_append_k layE (by rfl) (.tmp 23) (.tmp 26) 23 underE rfl wq.heap.size _ [] (by rfl) ho0 (some ⟨g,off,none⟩) (es.take k) k c (by rfl) hra hlk (by rw[maxLen_num];simp;omega) (by simp[layE];omega) hs0 ?_;intro v4 wB o4 b4 _ _;rw[List.nil_append] at o4;have hB4:=b4 wq hbq;obtain⟨A4,c4,hv4,hc4,_⟩:=OwnK.form o4 hlk;subst hv4;have hb3:=Blk.below BX3.o hB4 BX3.o.lt;obtain⟨u0,u1,u2⟩:=cells3 hb3;have hlu:=hb3.lt;have hbx:Below wB.heap.size wB (wB.alloc (.cells (eC xi xr xA xn xc) 44)):=(gr1 wB _).below;have ho5:=OwnK.below o4 hbx;have hrx:=rdk_one layE wB ⟨xi,xr,xA,xn,xc,xf⟩ 44 (eC xi xr xA xn xc) rfl;have hB5:=below_next hB4 (Jn) hbx;have hs5:=hB5.size;clear b4 ho0 hs0 hra hb3)
     | (at_builtin;refine wpList_append_k layE (by rfl) (.tmp 28) (.tmp 30) 23 underE rfl wq.heap.size _ (es.take k) (by rfl) ho5 _ [⟨xi,xr,xA,xn,xc,xf⟩] 1 1 (by rfl) hrx rfl (by rw[maxLen_num,hlk];omega) (by simp only[layE];rw[hlk];omega) hs5 ?_;intro v6 wC o6 b6 _ _;have hB6:=b6 wq hB5;have hl6:(es.take k++[(⟨xi,xr,xA,xn,xc,xf⟩:Ex)]).length=k+1:=(by rw[List.length_append,hlk];rfl);obtain⟨A6,c6,hv6,hc6,_⟩:=OwnK.form o6 hl6;subst hv6;have hrb:=RdK.below HR8.o hB6;have hs6:=hB6.size;clear b6 ho5 hrx hs5 u0 u1 u2 hlu)
     | (at_builtin;refine wpList_append_k layE (by rfl) (.tmp 32) (.tmp 35) 23 underE rfl wq.heap.size _ (es.take k++[⟨xi,xr,xA,xn,xc,xf⟩]) (by rfl) o6 A8 (es.drop k) (n-k) (c-k) (by rfl) hrb hld (by rw[maxLen_num,hl6];omega) (by simp only[layE];rw[hl6];omega) hs6 ?_;intro v9 wE o9 b9 _ _;have hB9:=b9 wq hB6;have hl9:(es.take k++[(⟨xi,xr,xA,xn,xc,xf⟩:Ex)]++es.drop k).length=n+1:=(by rw[List.length_append,hl6,hld];omega);obtain⟨A9,c9,hv9,hc9,hr9⟩:=OwnK.form o9 hl9;subst hv9;have HR9:=Jh o9;have HL9:=Jh hl9;have HB9:=Jh (below_next HG2.o (Jn) hB9);clear b9 o6 hrb hs6))
    go_ret
    refine ⟨_,A9,n+1,c9,rfl,HL9.o,hc9,?_,HR9.o.less (Nat.le_trans HB.o.size HG2.o.size),below_next HB.o (Jn) HB9.o⟩
    ·rw[HPL.o];simp[Dm.ins]
end
section
open Go.RowKit Go.ChangeShapes Go.WideShapes Go.Deep Go.Sort Spans Tb Dm
def entR (ls:List Lk) (l:List En) (d:Dd):Int × List En:=if d.k.tmod 2=0 then leaveR l d else enterR ls l d
def GivesX (w:World) (es:List Ex) (x:Ex) (r:Int × List En) (e:Ending) (w':World):Prop:=∃(ys:List Ex) (B:OA) (m k:Nat) (er:Int),e=.returned (.tuple #[.slice B m k,.int .i64 er])/\ys.length=m/\m<=k/\OwnK layE w' w.heap.size (.slice B m k) ys/\(∀y∈ys,y∈es∨y=x)/\er=r.1/\(er=0->ys.map Ex.en=r.2)/\Below w.heap.size w w'
theorem givesX_bad {w w':World} {es:List Ex} {x:Ex} {r:Int × List En} {er:Int} (h:er=r.1) (h0:er≠0) (hb:Below w.heap.size w w'):GivesX w es x r (.returned (.tuple #[.slice none 0 0,.int .i64 er])) w':=
 ⟨[],none,0,0,er,rfl,rfl,Jn,OwnK.none_ _ _,(fun x hx=>by cases hx),h,fun e=>absurd e h0,hb⟩
theorem has_ex {es:List Ex} {i:Int}:Has (es.map Ex.en) i↔∃x∈es,x.id=i:=by
 constructor
 ·rintro ⟨y,hy,e⟩;obtain⟨x,hx,rfl⟩:=List.mem_map.1 hy;exact⟨x,hx,e⟩
 ·rintro ⟨x,hx,e⟩;exact⟨_,List.mem_map.2 ⟨x,hx,rfl⟩,e⟩
theorem rentry_at (s:Sx) (hsl:s.ls.length=s.n) (hsm:s.n<=100000) (A:OA) (es:List Ex) (n c:Nat) (hc:n<=c) (hn:es.length=n) (hm:n<=100000) (hp:es.Pairwise fun a b=>a.id<b.id) (d:Dd) (D:OA) (f c2:Nat) (hf:d.f.length=f) (hf2:f<=c2) (w:World) (hs:RdLk w s.A s.ls) (hr:RdEn w A es) (hd:RdQ w D d.f):
  Calls Tryz.prog 41 #[s.v,.slice A n c,dV d D f c2] w (GivesX w es ⟨d.id,d.fr,D,f,c2,d.f⟩ (entR s.ls (es.map Ex.en) d)):=by
 obtain⟨ep,sA,sn,sc,ls,A1,n1,c1,av,A2,n2,k2,su⟩:=s
 obtain⟨dk,di,df,da,fl⟩:=d
 dsimp only at *
 have HN:=Jh hn
 have HP:=Jh hp
 have HSL:=Jh hsl
 have HF:=Jh hf
 have HF2:=Jh hf2
 have hb0:=(gr2 w (.cells (xC ep sA sn sc A1 n1 c1 A2 n2 k2) 25) (.cells (dC dk di df da.toArray D f c2) 28)).below
 have hX0:=(Blk.new w 25 (xC ep sA sn sc A1 n1 c1 A2 n2 k2)).alloc (.cells (dC dk di df da.toArray D f c2) 28)
 have hY0:=Blk.new (w.alloc (.cells (xC ep sA sn sc A1 n1 c1 A2 n2 k2) 25)) 28 (dC dk di df da.toArray D f c2)
 rw[show (w.alloc (.cells (xC ep sA sn sc A1 n1 c1 A2 n2 k2) 25)).heap.size=w.heap.size+1 by simp] at hY0
 have BX:=Jh hX0
 have BD:=Jh hY0
 have BB:=Jh hb0
 have RS:=Jh (RdK.below hs hb0)
 have RE:=Jh (hr.below hb0)
 have RD:=Jh (RdK.below hd hb0)
 obtain⟨q,hq⟩:∃q:Bool,q=true↔Has (es.map Ex.en) di:=by
  by_cases h:Has (es.map Ex.en) di
  ·exact⟨true,by simp[h]⟩
  ·exact⟨false,by simp[h]⟩
 have HQ:=Jh hq
 obtain⟨rr,hrr⟩:∃rr,entR ls (es.map Ex.en) ⟨dk,di,df,da,fl⟩=rr:=⟨_,rfl⟩
 rw[hrr]
 have HRR:=Jh hrr
 clear hn hp hsl hf hf2 hb0 hX0 hY0 hs hr hd hq hrr
 go_enter Tryz.func41,Tryz.ntmps41
 obtain⟨x0,x1,x2,x3,_⟩:=blk4 BX.o
 have hlx:=BX.o.lt
 obtain⟨d0,d1,d2,d3,d4,_⟩:=blk5 BD.o
 have hld:=BD.o.lt
 go_wp2_with fail
 clear x0 x1 x2 x3 hlx d0 d1 d2 d3 d4 hld
 generalize (w.alloc (.cells (xC ep sA sn sc A1 n1 c1 A2 n2 k2) 25)).alloc (.cells (dC dk di df da.toArray D f c2) 28)=w0 at *
 refine (rfind_at A es n c di HN.o hm w0 RE.o q HQ.o).mono ?_
 rintro e w1 ⟨⟨yi,yr,yA,yn,yc,yf⟩,rfl,hb⟩
 replace hb:=hb.trans ((gr1 w1 (.cells (eC yi yr yA yn yc) 44)).below.mono hb.size)
 replace BX:=Jh (Blk.below BX.o hb BX.o.lt)
 replace BD:=Jh (Blk.below BD.o hb BD.o.lt)
 replace BB:=Jh (below_next BB.o (Jn) hb)
 replace RS:=Jh (RdK.below RS.o hb)
 replace RE:=Jh (RE.o.below hb)
 replace RD:=Jh (RdK.below RD.o hb)
 clear hb
 obtain⟨x0,x1,x2,x3,_⟩:=blk4 BX.o
 have hlx:=BX.o.lt
 obtain⟨d0,d1,d2,d3,d4,_⟩:=blk5 BD.o
 have hld:=BD.o.lt
 obtain⟨m2,hm2⟩:∃m,dk.tmod 2=m:=⟨_,rfl⟩
 have HM:=Jh hm2
 have hmb:-1<=m2/\m2<=1:=by rw[<-hm2];have h1:=Int.tmod_lt_of_pos dk (show (0:Int)<2 by decide);have h2:=Int.lt_tmod_of_pos dk (show (0:Int)<2 by decide);omega
 have hm3:IntKind.i64.wrap m2=m2:=by rw[IntKind.wrap_i64];omega
 by_cases hz:m2=0
 ·subst hz
  have HR2:Hid (rr=leaveR (es.map Ex.en) ⟨dk,di,df,da,fl⟩):=by show _=_;rw[<-HRR.o];unfold entR;rw[if_pos HM.o]
  cases q with
  | false=>
   have HF0:Hid ((7:Int)=rr.1):=by
    show _=_
    rw[HR2.o];unfold leaveR;rw[if_neg (fun h=>by have:=HQ.o.2 h;cases this)]
   go_wp2_with fail
   go_ret2
   exact givesX_bad HF0.o (by decide) BB.o
  | true=>
   have HH:=Jh (HQ.o.1 rfl)
   go_wp2_with fail
   clear x0 x1 x2 x3 hlx d0 d1 d2 d3 d4 hld hm2 hmb hm3
   generalize w1.alloc (.cells (eC yi yr yA yn yc) 44)=w2 at *
   refine (rless_at A es n c di HN.o hm w2 RE.o).mono ?_
   rintro e w3 ⟨ys,B,m,k,rfl,hl,hmk,hys,hrd,hb⟩
   have hh:∃x∈es,x.id=di:=has_ex.1 HH.o
   have HF0:Hid ((0:Int)=rr.1/\ys.map Ex.en=rr.2):=by
    show _/\_
    rw[HR2.o];unfold leaveR;rw[if_pos HH.o]
    refine ⟨rfl,?_⟩
    rw[hys,filter_cut (g:=Ex.id) HP.o hh,cut_map,place_map]
   have HSUB:Hid (∀y∈ys,y∈es∨y=⟨di,df,D,f,c2,fl⟩):=fun y hy=>.inl (by rw[hys] at hy;exact (List.mem_filter.1 hy).1)
   have HL:=Jh hl
   have HRD:=Jh (hrd.less BB.o.size)
   have HB3:=Jh (below_next BB.o (Jn) hb)
   clear hys hh hl hrd hb
   go_wp2_with fail
   go_ret2
   exact⟨ys,B,m,k,0,rfl,HL.o,hmk,HRD.o,HSUB.o,HF0.o.1,fun _=>HF0.o.2,HB3.o⟩
 ·have v2:(m2 == 0)=false:=beq_eq_false_iff_ne.2 hz
  have HR2:Hid (rr=enterR ls (es.map Ex.en) ⟨dk,di,df,da,fl⟩):=by show _=_;rw[<-HRR.o];unfold entR;rw[if_neg (by rw[HM.o];exact hz)]
  obtain⟨r,hr⟩:∃r,findL ls df=r:=⟨_,rfl⟩
  have HFL:=Jh hr
  clear hr hz
  go_wp2_with fail
  clear x0 x1 x2 x3 hlx d0 d1 d2 d3 d4 hld hm2 hmb hm3 v2
  generalize w1.alloc (.cells (eC yi yr yA yn yc) 44)=w2 at *
  refine (rlink_at ⟨ep,sA,sn,sc,ls,A1,n1,c1,av,A2,n2,k2,su⟩ df HSL.o hsm w2 RS.o r HFL.o).mono ?_
  rintro e w3 ⟨rfl,hb⟩
  replace hb:=hb.trans ((gr1 w3 (.cells #[.int .i64 (r.getD ⟨0,[]⟩).id,.string ⟨(r.getD ⟨0,[]⟩).ad.toArray⟩] 46)).below.mono hb.size)
  replace BX:=Jh (Blk.below BX.o hb BX.o.lt)
  replace BD:=Jh (Blk.below BD.o hb BD.o.lt)
  replace BB:=Jh (below_next BB.o (Jn) hb)
  replace RE:=Jh (RE.o.below hb)
  replace RD:=Jh (RdK.below RD.o hb)
  clear hb
  obtain⟨is,his⟩:∃q,r.isSome=q:=⟨_,rfl⟩
  have HIS:Hid (is=true↔Linked ls df):=by show _↔_;rw[<-his,<-HFL.o];exact findL_some
  rw[his]
  clear his
  obtain⟨d0,d1,d2,d3,d4,_⟩:=blk5 BD.o
  have hld:=BD.o.lt
  cases is with
  | false=>
   have HF0:Hid ((7:Int)=rr.1):=by
    show _=_
    rw[HR2.o];unfold enterR;rw[if_neg (fun h=>by have:=HIS.o.2 h;cases this)]
   go_wp2_with fail
   go_ret2
   exact givesX_bad HF0.o (by decide) BB.o
  | true=>
   have HLK:Hid (Linked ls df):=HIS.o.1 rfl
   cases q with
   | true=>
    have HF0:Hid ((8:Int)=rr.1):=by
     show _=_
     rw[HR2.o];unfold enterR;rw[if_pos HLK.o,if_pos (HQ.o.1 rfl)]
    go_wp2_with fail
    go_ret2
    exact givesX_bad HF0.o (by decide) BB.o
   | false=>
    have HNH:Hid (¬Has (es.map Ex.en) di):=fun h=>by have:=HQ.o.2 h;cases this
    by_cases h64:64<=n
    ·have hd:decide ((64:Int)<=(n:Int))=true:=decide_eq_true (by omega)
     have HF0:Hid ((4:Int)=rr.1):=by
      show _=_
      rw[HR2.o];unfold enterR;rw[if_pos HLK.o,if_neg HNH.o,if_pos (by rw[List.length_map,HN.o];exact h64)]
     go_wp2_with fail
     go_ret2
     exact givesX_bad HF0.o (by decide) BB.o
    ·have hd:decide ((64:Int)<=(n:Int))=false:=decide_eq_false (by omega)
     have HF0:Hid (rr=(0,ins (es.map Ex.en) (place En.id (es.map Ex.en) di) ⟨di,df,fl⟩)):=by
      show _=_
      rw[HR2.o];unfold enterR;rw[if_pos HLK.o,if_neg HNH.o,if_neg (by rw[List.length_map,HN.o];exact h64)]
     clear h64
     go_wp2_with fail
     clear d0 d1 d2 d3 d4 hld hd
     generalize w3.alloc (.cells #[.int .i64 (r.getD ⟨0,[]⟩).id,.string ⟨(r.getD ⟨0,[]⟩).ad.toArray⟩] 46)=w4 at *
     refine (rmore_at A es n c hc ⟨di,df,D,f,c2,fl⟩ HN.o hm HP.o w4 RE.o ⟨HF.o,HF2.o,RD.o⟩).mono ?_
     rintro e w5 ⟨ys,B,m,k,rfl,hl,hmk,hys,hrd,hb⟩
     have HG0:Hid ((0:Int)=rr.1/\ys.map Ex.en=rr.2):=by
      show _/\_
      rw[HF0.o]
      refine ⟨rfl,?_⟩
      rw[hys,ins_map]
      exact congrArg (fun k=>ins (es.map Ex.en) k (⟨di,df,fl⟩:En)) (place_map Ex.en En.id es di).symm
     have HSUB:Hid (∀y∈ys,y∈es∨y=⟨di,df,D,f,c2,fl⟩):=fun y hy=>by rw[hys] at hy;exact (ins_mem.1 hy).symm
     have HL:=Jh hl
     have HRD:=Jh (hrd.less BB.o.size)
     have HB3:=Jh (below_next BB.o (Jn) hb)
     clear hys hl hrd hb
     go_wp2_with fail
     go_ret2
     exact⟨ys,B,m,k,0,rfl,HL.o,hmk,HRD.o,HSUB.o,HG0.o.1,fun _=>HG0.o.2,HB3.o⟩
end
section
open Go.RowKit Go.Sort Spans Tb
theorem rents_at (A:OA) (es:List Ex) (n c:Nat) (hn:es.length=n) (hm:n<=100000) (hs:Short es) (A':OA) (fs:List Ex) (n' c':Nat) (hn':fs.length=n') (hm':n'<=100000) (hs':Short fs) (w:World) (hr:RdEn w A es) (hr':RdEn w A' fs) (q:Bool) (hq:decide (es.map Ex.en=fs.map Ex.en)=q):
  Calls Tryz.prog 42 #[.slice A n c,.slice A' n' c'] w fun e w'=>e=.returned (.bool q)/\Below w.heap.size w w':=by
 subst hq
 have HN:=Jh hn
 have HN':=Jh hn'
 have HR:=Jh hr
 have HR':=Jh hr'
 have HS:=Jh hs
 have HS':=Jh hs'
 clear hn hn' hr hr' hs hs'
 by_cases hne:n=n'
 ·subst hne
  have v1:((n:Int) != (n:Int))=false:=by simp
  go_enter Tryz.func42,Tryz.ntmps42
  go_wp2_with fail
  go_loopg [5] n (fun gg s8 wr=>∃k:Nat,k<=n/\n-k<=gg/\s8=.int .i64 (k:Int)/\Hid (Below w.heap.size w wr)/\Hid ((es.take k).map Ex.en=(fs.take k).map Ex.en))
  case atStart=>exact⟨0,Nat.zero_le _,by omega,rfl,Below.refl _ _,by show _=_;simp⟩
  case round=>
   obtain⟨k,hk,hgg,rfl,HB,HA⟩:=hrel
   by_cases hlt:k<n
   ·have hk':k<es.length:=by rw[HN.o];exact hlt
    have hk2:k<fs.length:=by rw[HN'.o];exact hlt
    obtain⟨g,off,rfl,hg,c0,c1,c2,hf⟩:=RdEn.at3 (HR.o.below HB.o) hk'
    obtain⟨g',off',rfl,hg',b0,b1,b2,hf'⟩:=RdEn.at3 (HR'.o.below HB.o) hk2
    have hsx:=HS.o _ (List.getElem_mem hk')
    have hsy:=HS'.o _ (List.getElem_mem hk2)
    obtain⟨x,hx⟩:∃x,es[k]=x:=⟨_,rfl⟩
    obtain⟨y,hy⟩:∃y,fs[k]=y:=⟨_,rfl⟩
    have HX:=Jh hx
    have HY:=Jh hy
    rw[hx] at c0 c1 c2 hf hsx
    rw[hy] at b0 b1 b2 hf' hsy
    clear hx hy
    obtain⟨xi,xr,xA,xn,xc,xf⟩:=x
    obtain⟨yi,yr,yA,yn,yc,yf⟩:=y
    dsimp only at c0 c1 c2 b0 b1 b2 hsx hsy
    have w5:(k:Int)<(n:Int):=by omega
    have z0:=gx_cell c0
    have z1:=gx_cell c1
    have z2:=gx_cell c2
    have z3:=gx_cell b0
    have z4:=gx_cell b1
    have z5:=gx_cell b2
    obtain⟨q,hq⟩:∃q,decide ((⟨xi,xr,xf⟩:En)=⟨yi,yr,yf⟩)=q:=⟨_,rfl⟩
    have HQ:=Jh hq
    have C1:=Jh (fun nn os=>one_at ⟨xi,xr,xA,xn,xc,xf⟩ ⟨yi,yr,yA,yn,yc,yf⟩ hf.1 hsx hf'.1 hsy (gx wr nn os) (RdK.below hf.2.2 (below_gx wr nn os)) (RdK.below hf'.2.2 (below_gx wr nn os)) q hq)
    clear hf hf' hsx hsy hq c0 c1 c2 b0 b1 b2
    go_wp2_with fail
    refine qbr (fun nq osq=>?_) (hq:=by (repeat (refine hq_step (fun K hK=>?_);go_simp;first | (refine hK _ ?_;clear hK K) | (apply Exists.intro;refine ⟨fun _=>?_,hK _ ?_⟩;(go_at_call 75;with_reducible exact calls_gx (C1.o _ _));clear hK K)));exact hq_nil rfl)
    have HB2:=Jh (below_next HB.o (Jn) (below_gx wr nq osq))
    clear z0 z1 z2 z3 z4 z5 C1 hg hg'
    generalize gx wr nq osq=wq at *
    cases q with
    | true=>
     have HQ2:Hid ((es.take (k+1)).map Ex.en=(fs.take (k+1)).map Ex.en):=by
      show _=_
      rw[map_snoc _ hk',map_snoc _ hk2,HX.o,HY.o,HA.o]
      show _++[(⟨xi,xr,xf⟩:En)]=_
      rw[of_decide_eq_true HQ.o]
     go_wp2_with fail
     go_roundg (n-(k+1))
     case measure=>omega
     case rel=>exact⟨k+1,by omega,Jn,by go_num,HB2,HQ2⟩
    | false=>
     have HQ2:Hid (es.map Ex.en≠fs.map Ex.en):=by
      show _≠_
      intro e
      have h1:(es.map Ex.en)[k]'(by simpa using hk')=(fs.map Ex.en)[k]'(by simpa using hk2):=by simp only[e]
      rw[List.getElem_map,List.getElem_map,HX.o,HY.o] at h1
      exact of_decide_eq_false HQ.o h1
     go_wp2_with fail
     go_ret
     exact⟨ret_b (decide_eq_false HQ2.o).symm,HB2.o⟩
   ·have hkn:Hid (k=n):=by show k=n;omega
    go_wp2_with fail
    go_ret
    refine ⟨ret_b (decide_eq_true ?_).symm,HB.o⟩
    have:=HA.o
    rwa [hkn.o,List.take_of_length_le (by rw[HN.o];exact Jn),List.take_of_length_le (by rw[HN'.o];exact Jn)] at this
 ·have v1:((n:Int) != (n':Int))=true:=by simp;omega
  go_enter Tryz.func42,Tryz.ntmps42
  go_wp2_with fail
  go_ret
  refine ⟨ret_b (decide_eq_false fun e=>hne ?_).symm,Below.refl _ _⟩
  have:=congrArg List.length e
  rw[List.length_map,List.length_map,HN.o,HN'.o] at this
  exact this
theorem rsame_st (s t:Sx) (ls:s.Len) (lt:t.Len) (fs:s.Few) (ft:t.Few) (w:World) (hr:s.Rd w) (hr':t.Rd w) (q:Bool) (hq:decide (s.bk=t.bk)=q):
  Calls Tryz.prog 17 #[s.v,t.v] w fun e w'=>e=.returned (.bool q)/\Below w.heap.size w w':=by
 obtain⟨se,sA,sn,sc,sl,sA1,sn1,sc1,sv,sA2,sn2,sc2,su⟩:=s
 obtain⟨te,tA,tn,tc,tl,tA1,tn1,tc1,tv,tA2,tn2,tc2,tu⟩:=t
 have LS:=Jh ls
 have LT:=Jh lt
 have FS:=Jh fs
 have FT:=Jh ft
 have HQ:=Jh hq
 have hls:sl.length=sn:=ls.n
 have hlt:tl.length=tn:=lt.n
 have HLS:=Jh hls
 have HLT:=Jh hlt
 have hB0:=(gr2 w (.cells (xC se sA sn sc sA1 sn1 sc1 sA2 sn2 sc2) 25) (.cells (xC te tA tn tc tA1 tn1 tc1 tA2 tn2 tc2) 25)).below
 have hX0:=(Blk.new w 25 (xC se sA sn sc sA1 sn1 sc1 sA2 sn2 sc2)).alloc (.cells (xC te tA tn tc tA1 tn1 tc1 tA2 tn2 tc2) 25)
 have hY0:=Blk.new (w.alloc (.cells (xC se sA sn sc sA1 sn1 sc1 sA2 sn2 sc2) 25)) 25 (xC te tA tn tc tA1 tn1 tc1 tA2 tn2 tc2)
 rw[show (w.alloc (.cells (xC se sA sn sc sA1 sn1 sc1 sA2 sn2 sc2) 25)).heap.size=w.heap.size+1 by simp] at hY0
 have HS:=Jh (hr.below hB0)
 have HT:=Jh (hr'.below hB0)
 have HB0:=Jh hB0
 have HX:=Jh hX0
 have HY:=Jh hY0
 obtain⟨b,hb⟩:∃b:Bool,((se != te) || (sn != tn))=b:=⟨_,rfl⟩
 have HBB:=Jh hb
 clear ls lt fs ft hr hr' hq hB0 hX0 hY0 hls hlt hb
 go_enter Tryz.func17,Tryz.ntmps17
 go_upto_region 1 with fail
 generalize (w.alloc (.cells (xC se sA sn sc sA1 sn1 sc1 sA2 sn2 sc2) 25)).alloc (.cells (xC te tA tn tc tA1 tn1 tc1 tA2 tn2 tc2) 25)=w0 at *
 obtain⟨x0,x1,x2,x3,_⟩:=blk4 HX.o
 obtain⟨y0,y1,y2,y3,_⟩:=blk4 HY.o
 have hl1:=HX.o.lt
 have hl2:=HY.o.lt
 cases b with
 | true=>
  have HF:Hid (false=q):=by
   show _=_
   rw[<-HQ.o]
   symm
   rw[decide_eq_false_iff_not]
   intro e
   have e1:se=te:=congrArg Bk.ep e
   have e2:sl=tl:=congrArg Bk.ls e
   have:=HBB.o
   rw[Bool.or_eq_true] at this
   rcases this with h|h
   ·simp[e1] at h
   ·rw[<-HLS.o,<-HLT.o,e2] at h;simp at h
  by_cases h0:se=te
  ·have d0:(se != te)=false:=by simpa using h0
   have d1:((sn:Int) != (tn:Int))=true:=by
    have:=HBB.o
    rw[d0,Bool.false_or] at this
    have h2:¬sn=tn:=by simpa using this
    exact bne_iff_ne.2 (by omega)
   clear h0
   go_wp2_with fail
   go_ret
   exact⟨ret_b HF.o,HB0.o⟩
  ·have d0:(se != te)=true:=by simpa using h0
   clear h0
   go_wp2_with fail
   go_ret
   exact⟨ret_b HF.o,HB0.o⟩
 | false=>
  have hbb:=HBB.o
  rw[Bool.or_eq_false_iff] at hbb
  have hsn5:sn<=100000:=FS.o.n
  have h0:se=te:=by simpa using hbb.1
  have hn:sn=tn:=by simpa using hbb.2
  subst h0 hn
  have d0:(se != se)=false:=by simp
  have d1:((sn:Int) != (sn:Int))=false:=by simp
  clear hbb HBB
  go_wp2_with fail
  clear d0 d1 x0 x1 x2 x3 y0 y1 y2 y3 hl1 hl2
  go_loopg [5] sn (fun gg s5 wr=>∃k:Nat,k<=sn/\sn-k<=gg/\s5=.int .i64 (k:Int)/\Hid (Below w0.heap.size w0 wr)/\Hid (sl.take k=tl.take k))
  case atStart=>exact⟨0,Nat.zero_le _,by omega,rfl,Below.refl _ _,by show _=_;simp⟩
  case round=>
   obtain⟨k,hk,hgg,rfl,HB,HA⟩:=hrel
   have HX2:=Jh (Blk.below HX.o HB.o HX.o.lt)
   have HY2:=Jh (Blk.below HY.o HB.o HY.o.lt)
   obtain⟨x0,x1,x2,x3,_⟩:=blk4 HX2.o
   obtain⟨y0,y1,y2,y3,_⟩:=blk4 HY2.o
   have hl1:=HX2.o.lt
   have hl2:=HY2.o.lt
   by_cases hlt:k<sn
   ·have hk':k<sl.length:=by rw[HLS.o];exact hlt
    have hk2:k<tl.length:=by rw[HLT.o];exact hlt
    obtain⟨g,off,hA1,hg,c0,c1⟩:=RdLk.at2 (RdK.below HS.o.ls HB.o) hk'
    obtain⟨g',off',hA2,hg',b0,b1⟩:=RdLk.at2 (RdK.below HT.o.ls HB.o) hk2
    dsimp only at hA1 hA2
    subst hA1 hA2
    obtain⟨x,hx⟩:∃x,sl[k]=x:=⟨_,rfl⟩
    obtain⟨y,hy⟩:∃y,tl[k]=y:=⟨_,rfl⟩
    have HXX:=Jh hx
    have HYY:=Jh hy
    rw[hx] at c0 c1
    rw[hy] at b0 b1
    clear hx hy
    obtain⟨xi,xa⟩:=x
    obtain⟨yi,ya⟩:=y
    dsimp only at c0 c1 b0 b1
    have w5:(k:Int)<(sn:Int):=by omega
    go_upto_region 6 with fail
    clear x0 x1 x2 x3 y0 y1 y2 y3 hl1 hl2
    obtain⟨x0,x1,x2,x3⟩:=gx4 HX2.o
    obtain⟨y0,y1,y2,y3⟩:=gx4 HY2.o
    have z0:=gx_cell c0
    have z1:=gx_cell c1
    have z2:=gx_cell b0
    have z3:=gx_cell b1
    by_cases h1:xi=yi
    ·subst h1
     by_cases h2:xa=ya
     ·subst h2
      have HA2:Hid (sl.take (k+1)=tl.take (k+1)):=by
       show _=_
       rw[List.take_succ_eq_append_getElem hk',List.take_succ_eq_append_getElem hk2,HXX.o,HYY.o,HA.o]
      refine qbr (fun nq osq=>?_)
      have HB2:=Jh (below_next HB.o (Jn) (below_gx wr nq osq))
      go_wp2_with fail
      go_roundg (sn-(k+1))
      case measure=>omega
      case rel=>exact⟨k+1,by omega,Jn,by go_num,HB2,HA2⟩
     ·have HF:Hid (false=q):=by
       show _=_
       rw[<-HQ.o]
       symm
       rw[decide_eq_false_iff_not]
       intro e
       have e2:sl=tl:=congrArg Bk.ls e
       have h1:sl[k]=tl[k]:=by simp only[e2]
       rw[HXX.o,HYY.o] at h1
       injection h1 with h3 h4
       exact h2 h4
      refine qbr (fun nq osq=>?_)
      have HB2:=Jh (below_next HB.o (Jn) (below_gx wr nq osq))
      go_wp2_with fail
      go_ret
      exact⟨ret_b HF.o,below_next HB0.o (by have:=HB0.o.size;omega) HB2.o⟩
    ·have HF:Hid (false=q):=by
      show _=_
      rw[<-HQ.o]
      symm
      rw[decide_eq_false_iff_not]
      intro e
      have e2:sl=tl:=congrArg Bk.ls e
      have h2:sl[k]=tl[k]:=by simp only[e2]
      rw[HXX.o,HYY.o] at h2
      injection h2 with h3 h4
      exact h1 h3
     refine qbr (fun nq osq=>?_)
     have HB2:=Jh (below_next HB.o (Jn) (below_gx wr nq osq))
     go_wp2_with fail
     go_ret
     exact⟨ret_b HF.o,below_next HB0.o (by have:=HB0.o.size;omega) HB2.o⟩
   ·obtain rfl:sn=k:=by omega
    have HE:Hid (sl=tl):=by
     have:=HA.o
     rwa [List.take_of_length_le (by rw[HLS.o];exact Jn),List.take_of_length_le (by rw[HLT.o];exact Jn)] at this
    obtain⟨qv,hqv⟩:∃q,decide (sv.map Ex.en=tv.map Ex.en)=q:=⟨_,rfl⟩
    have HQV:=Jh hqv
    clear hqv
    have HSr:=Jh (HS.o.below HB.o)
    have HTr:=Jh (HT.o.below HB.o)
    have HBr:=Jh (below_next HB0.o (Jn) HB.o)
    go_wp2_with fail
    refine (rents_at sA1 sv sn1 sc1 LS.o.n1 FS.o.n1 FS.o.av tA1 tv tn1 tc1 LT.o.n1 FT.o.n1 FT.o.av _ HSr.o.av HTr.o.av qv HQV.o).mono ?_
    rintro e w2 ⟨rfl,hb⟩
    have HX3:=Jh (Blk.below HX2.o hb HX2.o.lt)
    have HY3:=Jh (Blk.below HY2.o hb HY2.o.lt)
    replace HSr:=Jh (HSr.o.below hb)
    replace HTr:=Jh (HTr.o.below hb)
    replace HBr:=Jh (below_next HBr.o (Jn) hb)
    clear hb x0 x1 x2 x3 y0 y1 y2 y3 hl1 hl2
    obtain⟨x0,x1,x2,x3,_⟩:=blk4 HX3.o
    obtain⟨y0,y1,y2,y3,_⟩:=blk4 HY3.o
    have hl1:=HX3.o.lt
    have hl2:=HY3.o.lt
    cases qv with
    | false=>
     have HF:Hid (false=q):=by
      show _=_
      rw[<-HQ.o]
      symm
      rw[decide_eq_false_iff_not]
      intro e
      exact of_decide_eq_false HQV.o (congrArg Bk.av e)
     go_wp2_with fail
     go_ret
     exact⟨ret_b HF.o,HBr.o⟩
    | true=>
     have HF:Hid (decide (su.map Ex.en=tu.map Ex.en)=q):=by
      show _=_
      rw[<-HQ.o]
      have h1:=of_decide_eq_true HQV.o
      have h2:=HE.o
      simp[h1,h2]
     go_wp2_with fail
     refine (rents_at sA2 su sn2 sc2 LS.o.n2 FS.o.n2 FS.o.su tA2 tu tn2 tc2 LT.o.n2 FT.o.n2 FT.o.su _ HSr.o.su HTr.o.su q HF.o).mono ?_
     rintro e w3 ⟨rfl,hb⟩
     replace HBr:=Jh (below_next HBr.o (Jn) hb)
     go_wp2_with fail
     go_ret
     exact⟨rfl,HBr.o⟩
end
end Go.Proofs.YtnfigjggjmncdaaGreat
