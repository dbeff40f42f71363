/- Contracts. -/
import Derived.Deep.LoopGhost
import Derived.Test.YtnfigjggjmncdaaGreatM1
import Derived.Test.YtnfigjggjmncdaaGreatA4
import Derived.Test.YtnfigjggjmncdaaGreatB1
set_option maxRecDepth 100000
set_option maxHeartbeats 4000000
namespace Go.Proofs.YtnfigjggjmncdaaGreat
section
open Go.RowKit Go.Sort
def gx (w:World) (n:Nat) (os:Array Obj):World:={ w with drawn:=n,heap:=w.heap++os }
theorem gx_size (w:World) (n:Nat) (os:Array Obj):(gx w n os).heap.size=w.heap.size+os.size:=by simp[gx]
theorem below_gx (w:World) (n:Nat) (os:Array Obj):Below w.heap.size w (gx w n os):=
 ⟨rfl,rfl,rfl,by rw[gx_size];omega,fun k hk=>by show (w.heap++os)[k]?=_;rw[Array.getElem?_append_left hk]⟩
theorem gx_of {w w':World} (h:Below w.heap.size w w'):∃p:GrownBy,w'=gx w p.n p.os:=by
 have hh:w'.heap=w.heap++w'.heap.extract w.heap.size w'.heap.size:=by
  refine Array.ext_getElem? fun i=>?_
  by_cases hi:i<w.heap.size
  ·rw[Array.getElem?_append_left hi];exact h.block i hi
  ·rw[Array.getElem?_append_right (by omega),Array.getElem?_extract]
   by_cases hj:i<w'.heap.size
   ·rw[if_pos (by omega)];congr 1;omega
   ·rw[if_neg (by omega)];exact Array.getElem?_eq_none (by omega)
 have h1:=h.os
 have h2:=h.tape
 have h3:=h.output
 refine ⟨⟨w'.drawn,w'.heap.extract w.heap.size w'.heap.size⟩,?_⟩
 show w'={ w with drawn:=w'.drawn,heap:=w.heap++w'.heap.extract w.heap.size w'.heap.size }
 rw[<-hh,<-h1,<-h2,<-h3]
theorem gx_cell {w:World} {a:Addr} {v:Value} (h:w.cell? a=some v) (n:Nat) (os:Array Obj):(gx w n os).cell? a=some v:=
 ((below_gx w n os).cell (World.block_lt_of_cell? w _ h)).trans h
theorem calls_gx {P:Program} {f:FuncId} {args:Array Value} {w:World} {n:Nat} {os:Array Obj} {v:Value}
  (h:Calls P f args (gx w n os) fun e w'=>e=.returned v/\Below (gx w n os).heap.size (gx w n os) w'):Calls P f args (gx w n os) fun e w''=>e=.returned v/\∃p:GrownBy,w''=gx w p.n p.os:=
 h.mono fun _ _ ⟨he,hb⟩=>⟨he,gx_of (below_next (below_gx w n os) (Jn) hb)⟩
theorem calls_gr {P:Program} {f:FuncId} {args:Array Value} {w:World} {n:Nat} {os:Array Obj} {v:Value}
  (h:Calls P f args (gx w n os) fun e w'=>e=.returned v/\Grown (gx w n os) w'):Calls P f args (gx w n os) fun e w''=>e=.returned v/\∃p:GrownBy,w''=gx w p.n p.os:=
 calls_gx (h.mono fun _ _ ⟨he,hg⟩=>⟨he,hg.below⟩)
theorem qb_region {P:Program} {id:Nat} {Q:Exit->Act->World->Prop} {a:Act} {w:World} {l:List Oper} (hm:P.follows .mixedOrders=true) (hB:Region.lexB .any l.toArray=true)
  (h:HQ P l.toArray (fun w'=>∃p:GrownBy,w'=gx w p.n p.os) (fun a'=>∀w',(∃p:GrownBy,w'=gx w p.n p.os)->Q .normal a' w') l a):(Code.region id l.toArray true).wp P Q a w:=
 wp_region_quiet (C:=fun w'=>∃p:GrownBy,w'=gx w p.n p.os) hm hB ⟨⟨w.drawn+1,#[]⟩,by simp[gx]⟩ (by simpa using h.qo)
theorem qbr {id:Nat} {Q:Exit->Act->World->Prop} {a a':Act} {w:World} {l:List Oper} (h:∀nq osq,Q .normal a' (gx w nq osq))
  (hq:HQ Tryz.prog l.toArray (fun w'=>∃p:GrownBy,w'=gx w p.n p.os) (fun b=>b=a') l a:=by (repeat (refine hq_step (fun K hK=>?_);go_simp;refine hK _ ?_;clear hK K));exact hq_nil rfl)
  (hB:Region.lexB .any l.toArray=true:=by kernel_rfl):(Code.region id l.toArray true).wp Tryz.prog Q a w:=
 qb_region mixedT hB ⟨hq_mono (by rintro _ rfl w' ⟨p,rfl⟩;exact h _ _) _ _ hq.qo⟩
theorem blk4 {w:World} {g:Nat} {t:TypeId} {a b c d:Value} (hB:Blk w g t #[a,b,c,d]):
  w.cell? ⟨g,0,none⟩=some a/\w.cell? ⟨g,1,none⟩=some b/\w.cell? ⟨g,2,none⟩=some c/\w.cell? ⟨g,3,none⟩=some d /\
   w.frozen? ⟨g,0,none⟩=false/\w.frozen? ⟨g,1,none⟩=false/\w.frozen? ⟨g,2,none⟩=false/\w.frozen? ⟨g,3,none⟩=false:=
 ⟨hB.cell 0,hB.cell 1,hB.cell 2,hB.cell 3,hB.frozen 0,hB.frozen 1,hB.frozen 2,hB.frozen 3⟩
theorem gx4 {w:World} {g:Nat} {t:TypeId} {a b c d:Value} (hB:Blk w g t #[a,b,c,d]):
  (∀n os,(gx w n os).cell? ⟨g,0,none⟩=some a)/\(∀n os,(gx w n os).cell? ⟨g,1,none⟩=some b)/\(∀n os,(gx w n os).cell? ⟨g,2,none⟩=some c)/\(∀n os,(gx w n os).cell? ⟨g,3,none⟩=some d):=
 ⟨gx_cell (hB.cell 0),gx_cell (hB.cell 1),gx_cell (hB.cell 2),gx_cell (hB.cell 3)⟩
theorem gx3 {w:World} {g:Nat} {t:TypeId} {a b c:Value} (hB:Blk w g t #[a,b,c]):
  (∀n os,(gx w n os).cell? ⟨g,0,none⟩=some a)/\(∀n os,(gx w n os).cell? ⟨g,1,none⟩=some b)/\(∀n os,(gx w n os).cell? ⟨g,2,none⟩=some c):=
 ⟨gx_cell (by rw[hB.cell];rfl),gx_cell (by rw[hB.cell];rfl),gx_cell (by rw[hB.cell];rfl)⟩
theorem below_put2 {B b:Nat} {w0 w:World} (h:Below B w0 w) (hb:B<=b) (u0 u1:Value):Below B w0 ((w.setCell ⟨b,0,none⟩ u0).setCell ⟨b,1,none⟩ u1):=below_set (below_set h hb) hb
theorem below_put3 {B b:Nat} {w0 w:World} (h:Below B w0 w) (hb:B<=b) (u0 u1 u2:Value):Below B w0 (((w.setCell ⟨b,0,none⟩ u0).setCell ⟨b,1,none⟩ u1).setCell ⟨b,2,none⟩ u2):=below_set (below_put2 h hb _ _) hb
theorem below_put4 {B b:Nat} {w0 w:World} (h:Below B w0 w) (hb:B<=b) (u0 u1 u2 u3:Value):Below B w0 ((((w.setCell ⟨b,0,none⟩ u0).setCell ⟨b,1,none⟩ u1).setCell ⟨b,2,none⟩ u2).setCell ⟨b,3,none⟩ u3):=below_set (below_put3 h hb _ _ _) hb
theorem OwnK.put3 {α:Type} {L:Lay α} {w:World} {base:Nat} {v:Value} {es:List α} (h:OwnK L w base v es) {b:Nat} (hb:b<base) (u0 u1 u2:Value):
  OwnK L (((w.setCell ⟨b,0,none⟩ u0).setCell ⟨b,1,none⟩ u1).setCell ⟨b,2,none⟩ u2) base v es:=((h.set_ hb 0 u0).set_ hb 1 u1).set_ hb 2 u2
theorem OwnK.put4 {α:Type} {L:Lay α} {w:World} {base:Nat} {v:Value} {es:List α} (h:OwnK L w base v es) {b:Nat} (hb:b<base) (u0 u1 u2 u3:Value):
  OwnK L ((((w.setCell ⟨b,0,none⟩ u0).setCell ⟨b,1,none⟩ u1).setCell ⟨b,2,none⟩ u2).setCell ⟨b,3,none⟩ u3) base v es:=(h.put3 hb _ _ _).set_ hb 3 u3
theorem Blk.far2 {w:World} {g b:Nat} {t:TypeId} {cs:Array Value} (h:Blk w g t cs) (hb:g≠b) (u0 u1:Value):Blk ((w.setCell ⟨b,0,none⟩ u0).setCell ⟨b,1,none⟩ u1) g t cs:=Blk.far (Blk.far h (p:=⟨b,0,none⟩) hb u0) (p:=⟨b,1,none⟩) hb u1
theorem Blk.far3 {w:World} {g b:Nat} {t:TypeId} {cs:Array Value} (h:Blk w g t cs) (hb:g≠b) (u0 u1 u2:Value):Blk (((w.setCell ⟨b,0,none⟩ u0).setCell ⟨b,1,none⟩ u1).setCell ⟨b,2,none⟩ u2) g t cs:=Blk.far (Blk.far2 h hb u0 u1) (p:=⟨b,2,none⟩) hb u2
theorem Blk.far4 {w:World} {g b:Nat} {t:TypeId} {cs:Array Value} (h:Blk w g t cs) (hb:g≠b) (u0 u1 u2 u3:Value):Blk ((((w.setCell ⟨b,0,none⟩ u0).setCell ⟨b,1,none⟩ u1).setCell ⟨b,2,none⟩ u2).setCell ⟨b,3,none⟩ u3) g t cs:=Blk.far (Blk.far3 h hb u0 u1 u2) (p:=⟨b,3,none⟩) hb u3
theorem Blk.put3 {w:World} {b:Nat} {t:TypeId} {c0 c1 c2:Value} (h:Blk w b t #[c0,c1,c2]) (u0 u1 u2:Value):Blk (((w.setCell ⟨b,0,none⟩ u0).setCell ⟨b,1,none⟩ u1).setCell ⟨b,2,none⟩ u2) b t #[u0,u1,u2]:=by
 have h3:=((h.put 0 u0).put 1 u1).put 2 u2
 simpa using h3
theorem Blk.put4 {w:World} {b:Nat} {t:TypeId} {c0 c1 c2 c3:Value} (h:Blk w b t #[c0,c1,c2,c3]) (u0 u1 u2 u3:Value):Blk ((((w.setCell ⟨b,0,none⟩ u0).setCell ⟨b,1,none⟩ u1).setCell ⟨b,2,none⟩ u2).setCell ⟨b,3,none⟩ u3) b t #[u0,u1,u2,u3]:=by
 have h4:=(((h.put 0 u0).put 1 u1).put 2 u2).put 3 u3
 simpa using h4
end
section
namespace Tb
open Spans
structure Lk where
 id:Int
 ad:LU
instance:Inhabited Lk:=⟨⟨0,[]⟩⟩
instance:DecidableEq Lk:=fun a b=>decidable_of_iff (a.id=b.id/\a.ad=b.ad) (by cases a;cases b;simp)
structure En where
 id:Int
 fr:Int
 f:List Pr
instance:Inhabited En:=⟨⟨0,0,[]⟩⟩
instance:DecidableEq En:=fun a b=>decidable_of_iff (a.id=b.id/\a.fr=b.fr/\a.f=b.f) (by cases a;cases b;simp)
structure Bk where
 ep:Int
 ls:List Lk
 av:List En
 su:List En
instance:DecidableEq Bk:=fun a b=>decidable_of_iff (a.ep=b.ep/\a.ls=b.ls/\a.av=b.av/\a.su=b.su) (by cases a;cases b;simp)
def Rise (l:List Int):Prop:=l.Pairwise (fun a b=>a<b)/\∀x∈l,1<=x/\x<=1073741824
def last (l:List Int):Int:=l.getLast?.getD 0
theorem rise_nil:Rise []:=⟨.nil,fun x h=>by cases h⟩
theorem last_nil:last []=0:=rfl
theorem last_snoc (l:List Int) (x:Int):last (l++[x])=x:=by unfold last;simp
theorem le_last {l:List Int} (h:l.Pairwise (fun a b=>a<b)) {a:Int} (ha:a∈l):a<=last l:=by
 rcases List.eq_nil_or_concat l with rfl|⟨m,y,rfl⟩
 ·cases ha
 ·rw[List.concat_eq_append] at *
  rw[last_snoc]
  rcases List.mem_append.1 ha with h1|h1
  ·exact Int.le_of_lt ((List.pairwise_append.1 h).2.2 a h1 y (by simp))
  ·simp at h1;omega
theorem last_mem {l:List Int} (h:l≠[]):last l∈l:=by
 rcases List.eq_nil_or_concat l with rfl|⟨m,y,rfl⟩
 ·exact absurd rfl h
 ·rw[List.concat_eq_append,last_snoc];simp
theorem rise_snoc {l:List Int} {x:Int}:Rise (l++[x])↔Rise l/\last l<x/\x<=1073741824:=by
 constructor
 ·rintro ⟨h1,h2⟩
  obtain⟨p1,_,p3⟩:=List.pairwise_append.1 h1
  refine ⟨⟨p1,fun a ha=>h2 a (by simp[ha])⟩,?_,(h2 x (by simp)).2⟩
  by_cases hl:l=[]
  ·subst hl;rw[last_nil];have:=(h2 x (by simp)).1;omega
  ·exact p3 _ (last_mem hl) x (by simp)
 ·rintro ⟨⟨h1,h2⟩,h3,h4⟩
  refine ⟨List.pairwise_append.2 ⟨h1,by simp,fun a ha b hb=>?_⟩,fun a ha=>?_⟩
  ·simp at hb;subst hb;have:=le_last h1 ha;omega
  ·rcases List.mem_append.1 ha with h | h
   ·exact h2 a h
   ·simp at h;subst h
    refine ⟨?_,h4⟩
    by_cases hl:l=[]
    ·subst hl;rw[last_nil] at h3;omega
    ·have:=(h2 _ (last_mem hl)).1;omega
theorem Rise.sub {l m:List Int} (h:Rise l) (hs:m.Sublist l):Rise m:=⟨h.1.sublist hs,fun x hx=>h.2 x (hs.subset hx)⟩
theorem Rise.lt {A:Type} {g:A->Int} {l:List A} (h:Rise (l.map g)) {i k:Nat} (hk:k<l.length) (hik:i<k):g (l[i]'(Nat.lt_trans hik hk))<g l[k]:=by
 have:=(List.pairwise_iff_getElem.1 h.1) i k (by simp;omega) (by simp;omega) hik
 simpa using this
theorem Rise.inj {A:Type} {g:A->Int} {l:List A} (h:Rise (l.map g)) {i k:Nat} (hi:i<l.length) (hk:k<l.length) (e:g l[i]=g l[k]):i=k:=by
 rcases Nat.lt_trichotomy i k with h1|h1|h1
 ·have:=h.lt hk h1;omega
 ·exact h1
 ·have:=h.lt hi h1;omega
theorem Rise.mem {A:Type} {g:A->Int} {l:List A} (h:Rise (l.map g)) {a b:A} (ha:a∈l) (hb:b∈l) (e:g a=g b):a=b:=by
 obtain⟨i,hi,rfl⟩:=List.mem_iff_getElem.1 ha
 obtain⟨k,hk,rfl⟩:=List.mem_iff_getElem.1 hb
 have:=h.inj hi hk e
 subst this;rfl
/-! A row without one of it. -/
def cut {A:Type} (l:List A) (k:Nat):List A:=l.take k++l.drop (k+1)
theorem cut_sub {A:Type} (l:List A) (k:Nat):(cut l k).Sublist l:=by
 unfold cut
 conv=>rhs;rw[<-List.take_append_drop k l]
 exact List.Sublist.append (List.Sublist.refl _) (by rw[show k+1=k+1 from rfl,<-List.drop_drop];exact List.drop_sublist _ _)
theorem cut_len {A:Type} {l:List A} {k:Nat} (h:k<l.length):(cut l k).length+1=l.length:=by unfold cut;simp;omega
theorem cut_map {A B:Type} (g:A->B) (l:List A) (k:Nat):(cut l k).map g=cut (l.map g) k:=by unfold cut;simp[List.map_take,List.map_drop]
theorem cut_mem {A:Type} {l:List A} {k:Nat} {x:A} (hx:x∈l) (hk:k<l.length) (hn:x≠l[k]):x∈cut l k:=by
 obtain⟨j,hj,rfl⟩:=List.mem_iff_getElem.1 hx
 unfold cut
 rcases Nat.lt_trichotomy j k with h|h|h
 ·exact List.mem_append_left _ (List.mem_iff_getElem.2 ⟨j,by simp;omega,by simp⟩)
 ·subst h;exact absurd rfl hn
 ·exact List.mem_append_right _ (List.mem_iff_getElem.2 ⟨j-(k+1),by simp;omega,by simp;congr 1;omega⟩)
/-! Which states are right. -/
def LinksOk (ls:List Lk):Prop:=ls.length<=16/\Rise (ls.map Lk.id)/\∀k∈ls,k.ad.length<=32
def Linked (ls:List Lk) (i:Int):Prop:=∃k∈ls,k.id=i
def EntsOk (ls:List Lk) (l:List En):Prop:=l.length<=64/\Rise (l.map En.id)/\∀e∈l,Linked ls e.fr/\Fil.NormIs e.f e.f 0
structure Right (s:Bk):Prop where
 ep0:0<=s.ep
 ep1:s.ep<=1099511627776
 ls:LinksOk s.ls
 av:EntsOk s.ls s.av
 su:EntsOk s.ls s.su
theorem EntsOk.sub {ls:List Lk} {l m:List En} (h:EntsOk ls l) (hs:m.Sublist l):EntsOk ls m:=
 ⟨Nat.le_trans hs.length_le h.1,h.2.1.sub (hs.map _),fun e he=>h.2.2 e (hs.subset he)⟩
theorem LinksOk.sub {l m:List Lk} (h:LinksOk l) (hs:m.Sublist l):LinksOk m:=
 ⟨Nat.le_trans hs.length_le h.1,h.2.1.sub (hs.map _),fun e he=>h.2.2 e (hs.subset he)⟩
def findL (ls:List Lk) (i:Int):Option Lk:=ls.find? fun k=>decide (k.id=i)
def findE (l:List En) (i:Int):Option En:=l.find? fun e=>decide (e.id=i)
theorem findL_none {ls:List Lk} {i:Int}:findL ls i=none↔¬Linked ls i:=by
 unfold findL Linked
 rw[List.find?_eq_none]
 simp
theorem findL_some {ls:List Lk} {i:Int}:(findL ls i).isSome=true↔Linked ls i:=by
 have:=findL_none (ls:=ls) (i:=i)
 cases h:findL ls i with
 | none=>simp;exact this.1 h
 | some x=>rw[h] at this;simp at this ⊢;exact this
theorem Right.less {s:Bk} (h:Right s) (k:Nat):Right { s with su:=cut s.su k }:=⟨h.ep0,h.ep1,h.ls,h.av,h.su.sub (cut_sub _ _)⟩
end Tb
end
section
open Go.RowKit Go.Sort Spans Tb
theorem map_snoc {α β:Type} (g:α->β) {l:List α} {k:Nat} (h:k<l.length):(l.take (k+1)).map g=(l.take k).map g++[g l[k]]:=by
 rw[List.take_succ_eq_append_getElem h,List.map_append];rfl
theorem cells3 {w:World} {g:Nat} {t:TypeId} {a b c:Value} (hB:Blk w g t #[a,b,c]):
  w.cell? ⟨g,0,none⟩=some a/\w.cell? ⟨g,1,none⟩=some b/\w.cell? ⟨g,2,none⟩=some c:=⟨hB.cell 0,hB.cell 1,hB.cell 2⟩
def cellsL (a:Lk):List Value:=[.int .i64 a.id,.string ⟨a.ad.toArray⟩]
def layL:Lay Lk where
 enc:=cellsL
 k:=2
 T:=46
 zero:=#[.int .i64 0,.string ⟨#[]⟩]
 bytes:=24
 len:=fun _=>rfl
 one:=fun a v hv=>by simp[cellsL] at hv;rcases hv with rfl | rfl<;>rfl
 pos:=by decide
 zlen:=rfl
 info:=by kernel_rfl
structure Ex where
 id:Int
 fr:Int
 A:OA
 n:Nat
 c:Nat
 f:List Pr
instance:Inhabited Ex:=⟨⟨0,0,none,0,0,[]⟩⟩
abbrev Ex.en (x:Ex):En:=⟨x.id,x.fr,x.f⟩
def cellsE (x:Ex):List Value:=[.int .i64 x.id,.int .i64 x.fr,.slice x.A x.n x.c]
def layE:Lay Ex where
 enc:=cellsE
 k:=3
 T:=44
 zero:=(eC 0 0 none 0 0)
 bytes:=40
 len:=fun _=>rfl
 one:=fun a v hv=>by simp[cellsE] at hv;rcases hv with rfl | rfl | rfl<;>rfl
 pos:=by decide
 zlen:=rfl
 info:=by kernel_rfl
abbrev RdLk (w:World) (A:OA) (es:List Lk):Prop:=RdK layL w A es
abbrev OwnLk (w:World) (base:Nat) (v:Value) (es:List Lk):Prop:=OwnK layL w base v es
def Flt (w:World) (x:Ex):Prop:=x.f.length=x.n/\x.n<=x.c/\RdQ w x.A x.f
def FltO (w:World) (base:Nat) (x:Ex):Prop:=x.f.length=x.n/\x.n<=x.c/\OwnQ w base (.slice x.A x.n x.c) x.f
theorem Flt.below {w w':World} {x:Ex} (h:Flt w x) (hb:Below w.heap.size w w'):Flt w' x:=⟨h.1,h.2.1,RdK.below h.2.2 hb⟩
theorem FltO.below {w w':World} {base:Nat} {x:Ex} (h:FltO w base x) (hb:Below w.heap.size w w'):FltO w' base x:=⟨h.1,h.2.1,OwnK.below h.2.2 hb⟩
theorem FltO.less {w:World} {base base':Nat} {x:Ex} (h:FltO w base x) (hb:base'<=base):FltO w base' x:=⟨h.1,h.2.1,OwnK.less h.2.2 hb⟩
theorem FltO.rd {w:World} {base:Nat} {x:Ex} (h:FltO w base x):Flt w x:=by
 obtain⟨_,_,e,_,hr⟩:=OwnK.rd h.2.2
 injection e with e1 e2 e3
 exact⟨h.1,h.2.1,by rw[e1];exact hr⟩
def RdEn (w:World) (A:OA) (xs:List Ex):Prop:=RdK layE w A xs/\∀x∈xs,Flt w x
def OwnEn (w:World) (base:Nat) (v:Value) (xs:List Ex):Prop:=OwnK layE w base v xs/\∀x∈xs,FltO w base x
theorem RdEn.below {w w':World} {A:OA} {xs:List Ex} (h:RdEn w A xs) (hb:Below w.heap.size w w'):RdEn w' A xs:=⟨RdK.below h.1 hb,fun x hx=>(h.2 x hx).below hb⟩
theorem OwnEn.below {w w':World} {base:Nat} {v:Value} {xs:List Ex} (h:OwnEn w base v xs) (hb:Below w.heap.size w w'):OwnEn w' base v xs:=⟨OwnK.below h.1 hb,fun x hx=>(h.2 x hx).below hb⟩
theorem OwnEn.less {w:World} {base base':Nat} {v:Value} {xs:List Ex} (h:OwnEn w base v xs) (hb:base'<=base):OwnEn w base' v xs:=⟨OwnK.less h.1 hb,fun x hx=>(h.2 x hx).less hb⟩
theorem OwnEn.rd {w:World} {base:Nat} {A:OA} {n c:Nat} {xs:List Ex} (h:OwnEn w base (.slice A n c) xs):RdEn w A xs:=by
 obtain⟨_,_,e,_,hr⟩:=OwnK.rd h.1
 injection e with e1 e2 e3
 exact⟨by rw[e1];exact hr,fun x hx=>(h.2 x hx).rd⟩
theorem RdEn.nil (w:World) (A:OA):RdEn w A []:=⟨.inl rfl,fun x hx=>by cases hx⟩
theorem RdLk.at2 {w:World} {A:OA} {es:List Lk} (h:RdLk w A es) {k:Nat} (hk:k<es.length):∃g off,A=some ⟨g,off,none⟩/\g<w.heap.size /\
  w.cell? ⟨g,off+k*2,none⟩=some (.int .i64 es[k].id)/\w.cell? ⟨g,off+k*2+1,none⟩=some (.string ⟨es[k].ad.toArray⟩):=by
 obtain⟨g,off,rfl,hg,hc⟩:=RdK.at_ h hk
 exact⟨g,off,rfl,hg,hc 0 _ rfl,hc 1 _ rfl⟩
theorem RdEn.at3 {w:World} {A:OA} {es:List Ex} (h:RdEn w A es) {k:Nat} (hk:k<es.length):∃g off,A=some ⟨g,off,none⟩/\g<w.heap.size /\
  w.cell? ⟨g,off+k*3,none⟩=some (.int .i64 es[k].id)/\w.cell? ⟨g,off+k*3+1,none⟩=some (.int .i64 es[k].fr)/\w.cell? ⟨g,off+k*3+2,none⟩=some (.slice es[k].A es[k].n es[k].c)/\Flt w es[k]:=by
 obtain⟨g,off,rfl,hg,hc⟩:=RdK.at_ h.1 hk
 exact⟨g,off,rfl,hg,hc 0 _ rfl,hc 1 _ rfl,hc 2 _ rfl,h.2 _ (List.getElem_mem hk)⟩
theorem underL:Tryz.prog.underlying 22=some (.slice layL.T):=Tryz.underlying22
theorem underE:Tryz.prog.underlying 23=some (.slice layE.T):=Tryz.underlying23
structure Sx where
 ep:Int
 A:OA
 n:Nat
 c:Nat
 ls:List Lk
 A1:OA
 n1:Nat
 c1:Nat
 av:List Ex
 A2:OA
 n2:Nat
 c2:Nat
 su:List Ex
abbrev Sx.v (s:Sx):Value:=.agg (xC s.ep s.A s.n s.c s.A1 s.n1 s.c1 s.A2 s.n2 s.c2)
abbrev Sx.bk (s:Sx):Bk:=⟨s.ep,s.ls,s.av.map Ex.en,s.su.map Ex.en⟩
structure Sx.Len (s:Sx):Prop where
 n:s.ls.length=s.n
 c:s.n<=s.c
 n1:s.av.length=s.n1
 c1:s.n1<=s.c1
 n2:s.su.length=s.n2
 c2:s.n2<=s.c2
structure Sx.Rd (w:World) (s:Sx):Prop where
 ls:RdLk w s.A s.ls
 av:RdEn w s.A1 s.av
 su:RdEn w s.A2 s.su
theorem Sx.Rd.below {w w':World} {s:Sx} (h:s.Rd w) (hb:Below w.heap.size w w'):s.Rd w':=⟨RdK.below h.ls hb,h.av.below hb,h.su.below hb⟩
structure Sx.Own (w:World) (base:Nat) (s:Sx):Prop where
 ls:OwnLk w base (.slice s.A s.n s.c) s.ls
 av:OwnEn w base (.slice s.A1 s.n1 s.c1) s.av
 su:OwnEn w base (.slice s.A2 s.n2 s.c2) s.su
theorem Sx.Own.below {w w':World} {base:Nat} {s:Sx} (h:s.Own w base) (hb:Below w.heap.size w w'):s.Own w' base:=⟨OwnK.below h.ls hb,h.av.below hb,h.su.below hb⟩
theorem Sx.Own.less {w:World} {base base':Nat} {s:Sx} (h:s.Own w base) (hb:base'<=base):s.Own w base':=⟨OwnK.less h.ls hb,h.av.less hb,h.su.less hb⟩
theorem rdk_own {α:Type} {L:Lay α} {w:World} {base:Nat} {A:OA} {n c:Nat} {es:List α} (h:OwnK L w base (.slice A n c) es):RdK L w A es:=by
 obtain⟨_,_,e,_,hr⟩:=OwnK.rd h
 injection e with e1 e2 e3
 rw[e1];exact hr
theorem Sx.Own.rd {w:World} {base:Nat} {s:Sx} (h:s.Own w base):s.Rd w:=⟨rdk_own h.ls,h.av.rd,h.su.rd⟩
def PBx (f:List Pr):Prop:=∀p∈f,p.n.length<=9223372036854775807/\p.t.length<=9223372036854775807 /\ -9223372036854775808<=p.i/\p.i<=9223372036854775807
def EBx (xs:List Ex):Prop:=∀x∈xs,x.n<=2600000000000 /\ -9223372036854775808<=x.id/\x.id<=9223372036854775807/\PBx x.f
def LBx (l:List Lk):Prop:=∀k∈l,k.ad.length<=9223372036854775807 /\ -9223372036854775808<=k.id/\k.id<=9223372036854775807
end
section
open Go.RowKit Spans Op Tb
end
section
open Go.RowKit Go.Sort Spans Tb
theorem follows_at (a b:Int) (w:World) (q:Bool) (hq:(decide (a<b) && decide (b<=1073741824))=q):Calls Tryz.prog 66 #[.int .i64 a,.int .i64 b] w fun e w'=>e=.returned (.bool q)/\w'=w:=by
 subst hq
 by_cases h1:a<b
 ·have d1:decide (a<b)=true:=decide_eq_true h1
  by_cases h2:b<=1073741824
  ·have d2:decide (b<=1073741824)=true:=decide_eq_true h2
   go_enter Tryz.func66,Tryz.ntmps66
   go_wp2_with fail
   go_ret
   exact⟨ret_b (by simp[h1,h2]),rfl⟩
  ·have d2:decide (b<=1073741824)=false:=decide_eq_false h2
   go_enter Tryz.func66,Tryz.ntmps66
   go_wp2_with fail
   go_ret
   exact⟨ret_b (by simp),rfl⟩
 ·have d1:decide (a<b)=false:=decide_eq_false h1
  go_enter Tryz.func66,Tryz.ntmps66
  go_wp2_with fail
  go_ret
  exact⟨ret_b (by simp),rfl⟩
abbrev lkV (a:Lk):Value:=.agg #[.int .i64 a.id,.string ⟨a.ad.toArray⟩]
theorem link_at (s:Sx) (i:Int) (hn:s.ls.length=s.n) (hm:s.n<=100000) (w:World) (hr:RdLk w s.A s.ls) (r:Option Lk) (hq:findL s.ls i=r):
  Calls Tryz.prog 67 #[s.v,.int .i64 i] w fun e w'=>e=.returned (.tuple #[lkV (r.getD ⟨0,[]⟩),.bool r.isSome])/\Below w.heap.size w w':=by
 obtain⟨ep,A,n,c,ls,A1,n1,c1,av,A2,n2,c2,su⟩:=s
 dsimp only at *
 have HN:=Jh hn
 have HQ:=Jh hq
 have HR:=Jh hr
 have hB0:=(gr2 w (.cells (xC ep A n c A1 n1 c1 A2 n2 c2) 25) (.cells #[.int .i64 0,.string ⟨#[]⟩] 46)).below
 have hX0:=(Blk.new w 25 (xC ep A n c A1 n1 c1 A2 n2 c2)).alloc (.cells #[.int .i64 0,.string ⟨#[]⟩] 46)
 have hY0:=Blk.new (w.alloc (.cells (xC ep A n c A1 n1 c1 A2 n2 c2) 25)) 46 #[.int .i64 0,.string ⟨#[]⟩]
 rw[show (w.alloc (.cells (xC ep A n c A1 n1 c1 A2 n2 c2) 25)).heap.size=w.heap.size+1 by simp] at hY0
 obtain⟨x0,x1,x2,x3,_⟩:=blk4 hX0
 have HB0:=Jh hB0
 have HY0:=Jh hY0
 clear hn hq hr hB0 hX0 hY0
 go_enter Tryz.func67,Tryz.ntmps67
 go_wp2_with fail
 clear x0 x1 x2 x3
 generalize (w.alloc (.cells (xC ep A n c A1 n1 c1 A2 n2 c2) 25)).alloc (.cells #[.int .i64 0,.string ⟨#[]⟩] 46)=w0 at *
 go_loopg [11] n (fun gg s11 wr=>∃k:Nat,k<=n/\n-k<=gg/\s11=.int .i64 (k:Int)/\Hid (Below w.heap.size w wr)/\Hid (Blk wr (w.heap.size+1) 46 #[.int .i64 0,.string ⟨#[]⟩])/\Hid (∀x∈ls.take k,x.id≠i))
 case atStart=>exact⟨0,Nat.zero_le _,by omega,rfl,HB0,HY0,by show ∀_,_;simp⟩
 case round=>
  obtain⟨k,hk,hgg,rfl,HB,HY,HA⟩:=hrel
  clear HB0 HY0
  by_cases hlt:k<n
  ·have hk':k<ls.length:=by rw[HN.o];exact hlt
   obtain⟨g,off,rfl,hg,c0,c1⟩:=RdLk.at2 (RdK.below HR.o HB.o) hk'
   obtain⟨x,hx⟩:∃x,ls[k]=x:=⟨_,rfl⟩
   have HX:=Jh hx
   rw[hx] at c0 c1
   clear hx
   obtain⟨xi,xa⟩:=x
   dsimp only at c0 c1
   have w5:(k:Int)<(n:Int):=by omega
   have hB1:=HB.o.alloc HB.o.size (.cells #[.int .i64 xi,.string ⟨xa.toArray⟩] 46)
   have hY1:=HY.o.alloc (.cells #[.int .i64 xi,.string ⟨xa.toArray⟩] 46)
   have HB1:=Jh hB1
   have HY1:=Jh hY1
   have hwr:w.heap.size+1<wr.heap.size:=HY.o.lt
   clear hB1 hY1
   by_cases hxi:xi=i
   ·have hd:(xi == i)=true:=beq_iff_eq.2 hxi
    have HF:Hid (r=some ⟨xi,xa⟩):=by
     show _=_
     rw[<-HQ.o]
     have hsp:ls=ls.take k++⟨xi,xa⟩::ls.drop (k+1):=by
      have:=HX.o
      rw[<-this,List.getElem_cons_drop hk',List.take_append_drop]
     unfold findL
     rw[hsp,List.find?_append,List.find?_eq_none.2 (fun x hx=>by simpa using HA.o x hx)]
     simp[hxi]
    obtain⟨y0,y1,q0,q1⟩:=blk2 HY.o
    obtain⟨y2,y3,_⟩:=blk2 HY1.o
    have hly:=HY.o.lt
    have hne:w.heap.size+1≠wr.heap.size:=by omega
    clear hxi
    go_wp2_with fail
    refine bodyPost_ret (v:=.tuple #[lkV ⟨xi,xa⟩,.bool true]) (by simp[results,Tryz.results67,go_sem,y0,y1,hly]) rfl ?_
    refine ⟨by rw[HF.o];rfl,?_⟩
    have hb:=below_put2 HB.o (Nat.le_succ w.heap.size) (.int .i64 xi) (.string ⟨xa.toArray⟩)
    exact hb.alloc hb.size _
   ·have hd:(xi == i)=false:=beq_eq_false_iff_ne.2 hxi
    have HA2:Hid (∀x∈ls.take (k+1),x.id≠i):=fun x hx=>by
     rw[List.take_succ_eq_append_getElem hk',HX.o] at hx
     rcases List.mem_append.1 hx with h|h
     ·exact HA.o x h
     ·simp at h;subst h;exact hxi
    clear hxi
    go_wp2_with fail
    go_roundg (n-(k+1))
    case measure=>omega
    case rel=>exact⟨k+1,by omega,Jn,by go_num,HB1,HY1,HA2⟩
  ·have hkn:Hid (k=n):=by show k=n;omega
   have HF:Hid (r=none):=by
    show _=_
    rw[<-HQ.o]
    refine List.find?_eq_none.2 fun x hx=>?_
    have:=HA.o x (by rw[hkn.o,List.take_of_length_le (by rw[HN.o];exact Jn)];exact hx)
    simpa using this
   obtain⟨y0,y1,q0,q1⟩:=blk2 HY.o
   have hly:=HY.o.lt
   go_wp2_with fail
   refine bodyPost_ret (v:=.tuple #[lkV ⟨0,[]⟩,.bool false]) (by simp[results,Tryz.results67,go_sem,y0,y1]) rfl ?_
   refine ⟨by rw[HF.o];rfl,?_⟩
   exact below_put2 HB.o (Nat.le_succ w.heap.size) _ _
theorem run_cutE {w:World} {A:OA} {es:List Ex} {n cap k:Nat} (hr:RdK layE w A es) (hn:es.length=n) (hk:k<=n) (hc:n<=cap):
  ∃A',(∀W,(Instr.slice 23 (.slice A n cap) (some (.int .i64 (k:Int))) none none).run Tryz.prog W=.ok (.slice A' (n-k) (cap-k)) W)/\RdK layE w A' (es.drop k):=by
 by_cases hck:cap=k
 ·refine ⟨A,fun W=>?_,.inl (List.drop_eq_nil_of_le (by omega))⟩
  have h1:(0:Int)<=(k:Int):=by omega
  have h2:(k:Int)<=(n:Int):=by omega
  subst hck
  go_simp
 ·refine ⟨A.map fun x=>x.add (k*3),fun W=>?_,?_⟩
  ·have h1:(0:Int)<=(k:Int):=by omega
   have h2:(k:Int)<=(n:Int):=by omega
   go_simp
  ·rcases hr with rfl | ⟨g,off,rfl,hg,hcell⟩
   ·exact .inl (by simp)
   ·refine .inr ⟨g,off+k*3,by simp[add_lit],hg,fun i hi j v hv=>?_⟩
    have hi':k+i<es.length:=by simp at hi;omega
    rw[List.getElem_drop] at hv
    have:=hcell (k+i) hi' j v hv
    rw[show off+(k+i)*layE.k+j=off+k*3+i*layE.k+j by show off+(k+i)*3+j=off+k*3+i*3+j;omega] at this
    exact this
theorem run_headE (A:OA) (n cap k:Nat) (hk:k<=n) (hc:n<=cap) (W:World):
  (Instr.slice 23 (.slice A n cap) none (some (.int .i64 (k:Int))) none).run Tryz.prog W=.ok (.slice A k cap) W:=by
 have h1:(0:Int)<=(k:Int):=by omega
 have h2:(k:Int)<=(cap:Int):=by omega
 go_simp
end
end Go.Proofs.YtnfigjggjmncdaaGreat
