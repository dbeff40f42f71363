/- Contracts. -/
import Derived.Test.YtnfigjggjmncdaaGreatA4
import Derived.Test.YtnfigjggjmncdaaGreatB1
set_option maxRecDepth 100000
set_option maxHeartbeats 4000000
namespace Go.Proofs.YtnfigjggjmncdaaGreat
section
open Go.RowKit Go.ChangeShapes Go.WideShapes Go.Deep Go.Sort
structure LayZ (α:Type) where
 enc:α->List Value
 k:Nat
 T:TypeId
 zero:Value
 bytes:Nat
 len:∀a,(enc a).length=k
 one:∀a,∀v∈enc a,v.oneCell'=true
 pos:0<k
 zlen:zero.cells.size=k
 info:(Tryz.prog.info? T).map (fun i=>(i.zero,i.size,i.bytes))=some (some zero,k,bytes)
section
variable {α:Type} {L:LayZ α}
theorem LayZ.has (L:LayZ α):∃i,Tryz.prog.info? L.T=some i/\i.zero=some L.zero/\i.size=L.k/\i.bytes=L.bytes:=by
 have h:=L.info
 cases hq:Tryz.prog.info? L.T with
 | none=>rw[hq] at h;simp at h
 | some i=>rw[hq] at h;simp at h;exact⟨i,rfl,h.1,h.2.1,h.2.2⟩
def RdZ (L:LayZ α) (w:World) (A:OA) (es:List α):Prop:=
 es=[]∨∃g off,A=some ⟨g,off,none⟩/\g<w.heap.size/\∀i (h:i<es.length) j v,(L.enc es[i])[j]?=some v->w.cell? ⟨g,off+i*L.k+j,none⟩=some v
theorem RdZ.nil (w:World) (A:OA):RdZ L w A []:=.inl rfl
theorem RdZ.at_ {w:World} {A:OA} {es:List α} (h:RdZ L w A es) {k:Nat} (hk:k<es.length):
  ∃g off,A=some ⟨g,off,none⟩/\g<w.heap.size/\∀j v,(L.enc es[k])[j]?=some v->w.cell? ⟨g,off+k*L.k+j,none⟩=some v:=by
 rcases h with rfl|⟨g,off,rfl,hg,hc⟩
 ·simp at hk
 ·exact⟨g,off,rfl,hg,hc k hk⟩
theorem RdZ.below {w w':World} {A:OA} {es:List α} (h:RdZ L w A es) (hb:Below w.heap.size w w'):RdZ L w' A es:=by
 rcases h with rfl|⟨g,off,rfl,hg,hc⟩
 ·exact .inl rfl
 ·exact .inr ⟨g,off,rfl,Nat.lt_of_lt_of_le hg hb.size,fun i hi j v hv=>(hb.cell (p:=⟨g,off+i*L.k+j,none⟩) hg).trans (hc i hi j v hv)⟩
theorem RdZ.take {w:World} {A:OA} {es:List α} (h:RdZ L w A es) (k:Nat):RdZ L w A (es.take k):=by
 rcases h with rfl|⟨g,off,rfl,hg,hc⟩
 ·exact .inl (by simp)
 ·exact .inr ⟨g,off,rfl,hg,fun i hi=>by
   have hi':i<es.length:=by simp at hi;omega
   rw[List.getElem_take];exact hc i hi'⟩
theorem flatZ_length (es:List α):(es.flatMap L.enc).length=es.length*L.k:=by
 induction es with
 | nil=>simp
 | cons a r ih=>rw[List.flatMap_cons,List.length_append,ih,L.len,List.length_cons,Nat.add_mul,Nat.one_mul,Nat.add_comm]
theorem flatZ_at:∀(es:List α) (i:Nat) (h:i<es.length) (j:Nat),j<L.k->(es.flatMap L.enc)[i*L.k+j]?=(L.enc es[i])[j]?
 | [],_,h,_,_=>by simp at h
 | a::r,0,_,j,hj=>by
  rw[List.flatMap_cons,List.getElem?_append_left (by rw[L.len];omega)];simp
 | a::r,i+1,h,j,hj=>by
  have e:(i+1)*L.k+j-(L.enc a).length=i*L.k+j:=by rw[L.len,Nat.add_mul,Nat.one_mul];omega
  rw[List.flatMap_cons,List.getElem?_append_right (by rw[L.len,Nat.add_mul,Nat.one_mul];omega),e,flatZ_at r i (by simpa using h) j hj];rfl
theorem flatZ_one (es:List α):∀v∈es.flatMap L.enc,v.oneCell'=true:=by
 intro v hv
 obtain⟨a,_,hv⟩:=List.mem_flatMap.1 hv
 exact L.one a v hv
theorem flatZ_of {es:List α} {j:Nat} {v:Value} (hv:(es.flatMap L.enc)[j]?=some v):∃(h:j / L.k<es.length),(L.enc es[j / L.k])[j % L.k]?=some v:=by
 have hj:j<es.length*L.k:=by
  have:=(List.getElem?_eq_some_iff.1 hv).1
  rwa [flatZ_length] at this
 have hq:j / L.k<es.length:=Nat.div_lt_of_lt_mul (by rwa [Nat.mul_comm] at hj)
 have e:j / L.k*L.k+j % L.k=j:=by rw[Nat.mul_comm];exact Nat.div_add_mod j L.k
 refine ⟨hq,?_⟩
 rw[<-flatZ_at es (j / L.k) hq (j % L.k) (Nat.mod_lt _ L.pos),e];exact hv
theorem RdZ.src {w:World} {ad:Addr} {es:List α} (h:RdZ L w (some ad) es):∀j v,(es.flatMap L.enc)[j]?=some v->w.cell? (ad.add j)=some v:=by
 intro j v hv
 obtain⟨hq,hv⟩:=flatZ_of hv
 obtain⟨g,off,e,_,hc⟩:=h.at_ hq
 injection e with e
 subst e
 have e:j / L.k*L.k+j % L.k=j:=by rw[Nat.mul_comm];exact Nat.div_add_mod j L.k
 rw[add_lit]
 have:=hc _ v hv
 rw[Nat.add_assoc,e] at this
 exact this
theorem rdz_of_flat {w:World} {g:Nat} {t:TypeId} {cur:Array Value} {es:List α} (hg:Blk w g t cur) (h:cur.toList.take (es.length*L.k)=es.flatMap L.enc):RdZ L w (some ⟨g,0,none⟩) es:=by
 refine .inr ⟨g,0,rfl,hg.lt,fun i hi j v hv=>?_⟩
 have hj:j<L.k:=by have:=(List.getElem?_eq_some_iff.1 hv).1;rwa [L.len] at this
 have hb:i*L.k+j<es.length*L.k:=by
  have:(i+1)*L.k<=es.length*L.k:=Nat.mul_le_mul_right _ (by omega)
  rw[Nat.add_mul,Nat.one_mul] at this;omega
 rw[hg.cell,Nat.zero_add,<-hv,<-flatZ_at es i hi j hj,<-h,List.getElem?_take_of_lt hb]
 simp
def OwnZ (L:LayZ α) (w:World) (base:Nat) (v:Value) (es:List α):Prop:=w.ownsRow base L.T L.k v es.length (es.flatMap L.enc)
theorem OwnZ.rd {w:World} {base:Nat} {v:Value} {es:List α} (h:OwnZ L w base v es):∃A c,v=.slice A es.length c/\es.length<=c/\RdZ L w A es:=by
 rcases h.2 with ⟨rfl,hn⟩|⟨g,cap,cur,rfl,_,hg,hc,_,_,ht⟩
 ·have:es=[]:=List.eq_nil_of_length_eq_zero hn
  subst this
  exact⟨none,0,rfl,by simp,.inl rfl⟩
 ·exact⟨_,cap,rfl,hc,rdz_of_flat hg ht⟩
theorem OwnZ.base_le {w:World} {base:Nat} {v:Value} {es:List α} (h:OwnZ L w base v es):∀k,v.ownBlock=some k->base<=k:=fun k hk=>(h.lt k hk).1
theorem OwnZ.none_ (w:World) (base:Nat):OwnZ L w base (.slice none 0 0) []:=by
 have:=World.ownsRow_nil w base L.T L.k
 simpa[OwnZ] using this
theorem OwnZ.empty (w:World) (base:Nat) (hb:base<=w.heap.size):OwnZ L (w.alloc (.cells #[] L.T)) base (.slice (some ⟨w.heap.size,0,none⟩) 0 0) []:=
 ⟨by simp,.inr ⟨w.heap.size,0,#[],rfl,hb,heap_alloc_new _ _,by simp,by simp,by simp,by simp⟩⟩
theorem OwnZ.below {w w':World} {base:Nat} {v:Value} {es:List α} (h:OwnZ L w base v es) (hb:Below w.heap.size w w'):OwnZ L w' base v es:=by
 refine ⟨h.1,?_⟩
 rcases h.2 with h2|⟨g,cap,cur,hv,hbg,hg,r⟩
 ·exact .inl h2
 ·exact .inr ⟨g,cap,cur,hv,hbg,(hb.block g (Array.getElem?_eq_some_iff.1 hg).1).trans hg,r⟩
theorem OwnZ.less {w:World} {base base':Nat} {v:Value} {es:List α} (h:OwnZ L w base v es) (hb:base'<=base):OwnZ L w base' v es:=by
 refine ⟨h.1,?_⟩
 rcases h.2 with h2|⟨g,cap,cur,hv,hbg,r⟩
 ·exact .inl h2
 ·exact .inr ⟨g,cap,cur,hv,Nat.le_trans hb hbg,r⟩
theorem run_append_z (w:World) (base:Nat) (st ty:TypeId) (hst:Tryz.prog.underlying st=some (.slice L.T)) (v:Value) (es:List α) (hown:OwnZ L w base v es) (A:OA) (fs:List α) (m c:Nat) (hr:RdZ L w A fs) (hm:fs.length=m)
  (h63:es.length+m<=maxLen) (hlb:(es.length+m)*L.bytes<=140737488355328) (hbase:base<=w.heap.size):
  ∃v' w',(Builtin.append_ #[st,st] ty #[v,.slice A m c]).run Tryz.prog w=.ok v' w'/\OwnZ L w' base v' (es++fs)/\w.grownBy w' v.ownBlock/\(v'.ownBlock=v.ownBlock∨v'.ownBlock=some w.heap.size):=by
 subst hm
 obtain⟨i,hi,hz,hs,hby⟩:=L.has
 rcases A with _|ad
 ·have hfs:fs=[]:=by
   rcases hr with h|⟨_,_,h,_⟩
   ·exact h
   ·cases h
  subst hfs
  refine ⟨v,w,?_,by simpa using hown,World.grownBy.refl w _,.inl rfl⟩
  rcases hown.2 with ⟨rfl,_⟩|⟨g,cap,cur,rfl,_,_,hnc,_⟩
  ·simp[Builtin.append_,run_underlying hst,sizeOf,typeInfo,hi,Builtin.lenOf,Builtin.firstCells]
  ·simp[Builtin.append_,run_underlying hst,sizeOf,typeInfo,hi,Builtin.lenOf,Builtin.firstCells,hnc,storeCells]
 ·obtain⟨v',w',hrun,h2,h3,_,h5⟩:=run_append_own_at (P:=Tryz.prog) w base st ty L.T i _ L.k L.bytes hst hi hz hs hby L.zlen L.pos v es.length (es.flatMap L.enc) hown ad fs.length c (fs.flatMap L.enc) (flatZ_length fs) hr.src (flatZ_one fs) h63 hlb hbase
  refine ⟨v',w',hrun,?_,h3,h5⟩
  unfold OwnZ
  rw[List.length_append,List.flatMap_append]
  exact h2
theorem wpList_append_z (L:LayZ α) {w:World} {ops:Array Oper} {rest:List Oper} {o:Oper} {a:Act} {Q:Exit->Act->World->Prop} (hw:Region.wanted o (yielded ops a.tmps)=true) (s x:Operand) (st:TypeId) (hst:Tryz.prog.underlying st=some (.slice L.T))
  (ho:o.op=.call { callee:=.builtin .append,args:=#[s,x],argTypes:=#[st,st] }) (base:Nat)
  (v:Value) (es:List α) (hs:a.eval s=v) (hown:OwnZ L w base v es) (A:OA) (fs:List α) (m c:Nat) (hx:a.eval x=.slice A m c) (hr:RdZ L w A fs) (hm:fs.length=m)
  (h63:es.length+m<=maxLen) (hlb:(es.length+m)*L.bytes<=140737488355328) (hbase:base<=w.heap.size)
  (h:∀v' w',OwnZ L w' base v' (es++fs)->(∀w0,Below base w0 w->Below base w0 w')->w.grownBy w' v.ownBlock->(v'.ownBlock=v.ownBlock∨v'.ownBlock=some w.heap.size)->wpList Tryz.prog ops Q rest (a.put o.dst v') w'):wpList Tryz.prog ops Q (o::rest) a w:=by
 refine wpList_step fun K hK=>?_
 rw[if_pos hw]
 obtain⟨v',w',hrun,h2,h3,h4⟩:=run_append_z w base st o.type hst v es hown A fs m c hr hm h63 hlb hbase
 unfold Oper.wp execOp
 simp only[ho,resolve,invoke,builtin,Sem.run_bind,Sem.run_pure,Result.andThen_ok,List.map_toArray,List.map_cons,List.map_nil,hs,hx,hrun]
 exact hK _ _ (h v' w' h2 (fun w0 hb=>hb.grown h3 hbase hown.base_le) h3 h4)
theorem rdz_one (L:LayZ α) (w:World) (a:α) (t:TypeId) (cs:Array Value) (h:cs=(L.enc a).toArray):RdZ L (w.alloc (.cells cs t)) (some ⟨w.heap.size,0,none⟩) [a]:=
 rdz_of_flat (Blk.new w t _) (by subst h;simp;exact List.take_of_length_le (by rw[L.len];exact Jn))
/-! Rows as the library's contracts want them. -/
end
abbrev RTx:Type:=LU
def layT:LayZ (LU) where
 enc:=fun t=>[.string ⟨t.toArray⟩]
 k:=1
 T:=9
 zero:=.string ⟨#[]⟩
 bytes:=16
 len:=fun _=>rfl
 one:=fun a v hv=>by simp at hv;subst hv;rfl
 pos:=by decide
 zlen:=rfl
 info:=by kernel_rfl
theorem underT:Tryz.prog.underlying 92=some (.slice layT.T):=Tryz.underlying92
abbrev RdTx (w:World) (A:OA) (es:List (LU)):Prop:=RdZ layT w A es
abbrev OwnTx (w:World) (base:Nat) (v:Value) (es:List (LU)):Prop:=OwnZ layT w base v es
theorem OwnZ.form {α:Type} {L:LayZ α} {w:World} {base:Nat} {v:Value} {es:List α} (h:OwnZ L w base v es) {n:Nat} (hn:es.length=n):∃A c,v=.slice A n c/\n<=c/\RdZ L w A es:=by
 subst hn
 exact h.rd
theorem rdz_own {α:Type} {L:LayZ α} {w:World} {base:Nat} {A:OA} {n c:Nat} {es:List α} (h:OwnZ L w base (.slice A n c) es):RdZ L w A es:=by
 obtain⟨B,d,e,_,hr⟩:=h.rd
 injection e with e1 _ _
 subst e1
 exact hr
theorem RdTx.at1 {w:World} {A:OA} {es:List (LU)} (h:RdTx w A es) {k:Nat} (hk:k<es.length):∃g off,A=some ⟨g,off,none⟩/\g<w.heap.size/\w.cell? ⟨g,off+k,none⟩=some (.string ⟨es[k].toArray⟩):=by
 obtain⟨g,off,e,hg,hc⟩:=h.at_ hk
 refine ⟨g,off,e,hg,?_⟩
 have:=hc 0 _ rfl
 simpa[layT] using this
theorem run_cutTx {w:World} {A:OA} {es:List (LU)} {n cap k:Nat} (hr:RdTx w A es) (hn:es.length=n) (hk:k<=n) (hc:n<=cap):
  ∃A',(∀W,(Instr.slice 92 (.slice A n cap) (some (.int .i64 (k:Int))) none none).run Tryz.prog W=.ok (.slice A' (n-k) (cap-k)) W)/\RdTx w A' (es.drop k):=by
 by_cases hck:cap=k
 ·refine ⟨A,fun W=>?_,.inl (List.drop_eq_nil_of_le (by omega))⟩
  have h1:(0:Int)<=(k:Int):=by omega
  have h2:(k:Int)<=(n:Int):=by omega
  subst hck
  go_simp
 ·refine ⟨A.map fun x=>x.add k,fun W=>?_,?_⟩
  ·have h1:(0:Int)<=(k:Int):=by omega
   have h2:(k:Int)<=(n:Int):=by omega
   go_simp
  ·rcases hr with rfl | ⟨g,off,rfl,hg,hcell⟩
   ·exact .inl (by simp)
   ·refine .inr ⟨g,off+k,by simp[add_lit],hg,fun i hi j v hv=>?_⟩
    have hi':k+i<es.length:=by simp at hi;omega
    rw[List.getElem_drop] at hv
    have:=hcell (k+i) hi' j v hv
    rw[show off+(k+i)*layT.k+j=off+k+i*layT.k+j by show off+(k+i)*1+j=off+k+i*1+j;omega] at this
    exact this
theorem run_headTx (A:OA) (n cap k:Nat) (hk:k<=n) (hc:n<=cap) (W:World):
  (Instr.slice 92 (.slice A n cap) none (some (.int .i64 (k:Int))) none).run Tryz.prog W=.ok (.slice A k cap) W:=by
 have h1:(0:Int)<=(k:Int):=by omega
 have h2:(k:Int)<=(cap:Int):=by omega
 go_simp
def TellB (b:Bool) (P:Prop):Prop:=b=true↔P
end
end Go.Proofs.YtnfigjggjmncdaaGreat
namespace Spans
open Go.Op (bytesLess)
theorem least {P:Nat->Prop} (n:Nat) (h:P n):∃m,P m/\∀j,j<m->¬P j:=by
 induction n using Nat.strongRecOn with
 | _ n ih=>
  by_cases g:∃j,j<n/\P j
  ·obtain⟨j,hj,hp⟩:=g
   exact ih j hj hp
  ·exact⟨n,h,fun j hj hp=>g ⟨j,hj,hp⟩⟩
theorem rise_in {A:Type} {r:A->A->Prop} (tr:∀a b c,r a b->r b c->r a c) (x:A):∀m:List A,m.Pairwise r->(∀y∈m,r x y∨r y x)->∃m':List A,m'.Pairwise r/\∀y,y∈m'↔y=x∨y∈m
 | [],_,_=>⟨[x],List.pairwise_singleton _ _,fun y=>by simp⟩
 | y::m,hp,hc=>by
  have hp':=List.pairwise_cons.1 hp
  rcases hc y (by simp) with h|h
  ·refine ⟨x::y::m,List.pairwise_cons.2 ⟨fun z hz=>?_,hp⟩,fun z=>by simp⟩
   rcases List.mem_cons.1 hz with rfl|hz
   ·exact h
   ·exact tr _ _ _ h (hp'.1 z hz)
  ·obtain⟨m',h1,h2⟩:=rise_in tr x m hp'.2 (fun z hz=>hc z (List.mem_cons_of_mem _ hz))
   refine ⟨y::m',List.pairwise_cons.2 ⟨fun z hz=>?_,h1⟩,fun z=>?_⟩
   ·rcases (h2 z).1 hz with rfl | hz
    ·exact h
    ·exact hp'.1 z hz
   ·rw[List.mem_cons,h2 z,List.mem_cons]
    constructor
    ·rintro (h | h | h)
     ·exact .inr (.inl h)
     ·exact .inl h
     ·exact .inr (.inr h)
    ·rintro (h | h | h)
     ·exact .inr (.inl h)
     ·exact .inl h
     ·exact .inr (.inr h)
theorem rise_of {A:Type} {r:A->A->Prop} (tr:∀a b c,r a b->r b c->r a c):∀l:List A,(∀x∈l,∀y∈l,x=y∨r x y∨r y x)->∃m:List A,m.Pairwise r/\∀y,y∈m↔y∈l
 | [],_=>⟨[],.nil,fun _=>Iff.rfl⟩
 | x::l,hc=>by
  obtain⟨m,h1,h2⟩:=rise_of tr l (fun a ha b hb=>hc a (List.mem_cons_of_mem _ ha) b (List.mem_cons_of_mem _ hb))
  by_cases hx:x∈m
  ·refine ⟨m,h1,fun y=>?_⟩
   rw[List.mem_cons,h2 y]
   exact⟨.inr,fun h=>h.elim (fun e=>by rw[e];exact (h2 x).1 hx) id⟩
  ·obtain⟨m',h3,h4⟩:=rise_in tr x m h1 (fun y hy=>by
    rcases hc x (by simp) y (List.mem_cons_of_mem _ ((h2 y).1 hy)) with rfl|h|h
    ·exact absurd hy hx
    ·exact .inl h
    ·exact .inr h)
   exact⟨m',h3,fun y=>by rw[h4 y,List.mem_cons,h2 y]⟩
theorem ints_ex {k lo hi:Int} (l:List Val) (hk:k=1∨k=3) (h1:lowest k<=lo) (h2:hi<=highest k):∃r,IsInts k lo hi l r:=by
 by_cases hall:∀x,lo<=x->x<=hi->(⟨k,x,[]⟩:Val)∈l
 ·exact⟨none_,ints_none hk hall⟩
 have hex:∃x,lo<=x/\x<=hi/\(⟨k,x,[]⟩:Val)∉l:=Classical.byContradiction fun h=>hall fun x a b=>Classical.byContradiction fun c=>h ⟨x,a,b,c⟩
 obtain⟨x0,g1,g2,g3⟩:=hex
 obtain⟨na,pa,ma⟩:=least (P:=fun n=>(⟨k,lo+n,[]⟩:Val)∉l) (x0-lo).toNat (by rwa [show lo+((x0-lo).toNat:Int)=x0 by omega])
 obtain⟨nb,pb,mb⟩:=least (P:=fun n=>(⟨k,hi-n,[]⟩:Val)∉l) (hi-x0).toNat (by rwa [show hi-((hi-x0).toNat:Int)=x0 by omega])
 have la:na<=(x0-lo).toNat:=by
  rcases Nat.lt_or_ge (x0-lo).toNat na with h|h
  ·exact absurd (by rwa [show lo+((x0-lo).toNat:Int)=x0 by omega]) (ma _ h)
  ·exact h
 have lb:nb<=(hi-x0).toNat:=by
  rcases Nat.lt_or_ge (hi-x0).toNat nb with h|h
  ·exact absurd (by rwa [show hi-((hi-x0).toNat:Int)=x0 by omega]) (mb _ h)
  ·exact h
 obtain⟨m,hm1,hm2⟩:=rise_of (r:=fun u v:Val=>u.i<v.i) (fun a b c h h'=>by omega) (l.filter fun v=>decide (v.k=k/\v.t=[]/\lo+na<v.i/\v.i<hi-nb)) (fun x hx y hy=>by
  simp only[List.mem_filter,decide_eq_true_eq] at hx hy
  rcases Int.lt_trichotomy x.i y.i with h|h|h
  ·exact .inr (.inl h)
  ·exact .inl (Val.ext_ (hx.2.1.trans hy.2.1.symm) h (hx.2.2.1.trans hy.2.2.1.symm))
  ·exact .inr (.inr h))
 refine ⟨_,ints_mk (a:=lo+na) (b:=hi-nb) (m:=m) hk (by omega) (by omega) (by omega) (by omega) (by omega) (fun x a b=>?_) (fun x a b=>?_) pa pb (fun v=>?_) hm1⟩
 ·have:=ma (x-lo).toNat (by omega)
  rw[show lo+((x-lo).toNat:Int)=x by omega] at this
  exact Classical.byContradiction this
 ·have:=mb (hi-x).toNat (by omega)
  rw[show hi-((hi-x).toNat:Int)=x by omega] at this
  exact Classical.byContradiction this
 ·rw[hm2 v,List.mem_filter,decide_eq_true_eq]
theorem end_ex (l:List Val):∀(n:Nat) (t:LU),t.length=n->∃e b,t=zs e b/\(∀j,j<b->(⟨2,0,zs e j⟩:Val)∈l)/\∀u,e=u++[0]->(⟨2,0,u⟩:Val)∉l:=by
 intro n
 induction n with
 | zero=>intro t ht;exact⟨t,0,(zs_zero t).symm,fun j hj=>absurd hj (by omega),fun u hu=>by rw[hu] at ht;simp at ht⟩
 | succ n ih=>
  intro t ht
  by_cases hu:∃u,t=u++[0]/\(⟨2,0,u⟩:Val)∈l
  ·obtain⟨u,rfl,hm⟩:=hu
   obtain⟨e,b,h1,h2,h3⟩:=ih u (by simpa using ht)
   refine ⟨e,b+1,by rw[zs_succ,<-h1],fun j hj=>?_,h3⟩
   rcases Nat.lt_or_ge j b with h|h
   ·exact h2 j h
   ·obtain rfl:j=b:=by omega
    rw[<-h1];exact hm
  ·exact⟨t,0,(zs_zero t).symm,fun j hj=>absurd hj (by omega),fun u he hm=>hu ⟨u,he,hm⟩⟩
theorem texts_ex {frm to_:LU} {opn:Bool} {l:List Val} (hf:Short frm) (ht:opn=false->Short to_) (hl:∀v∈l,v.k=2/\v.i=0/\v.t.length<=32):∃r,IsTexts frm to_ opn l r:=by
 obtain⟨a,pa,ma⟩:=least (P:=fun j=>(⟨2,0,zs frm j⟩:Val)∉l) 33 (fun h=>by
  have:=(hl _ h).2.2
  rw[show (Val.mk 2 0 (zs frm 33)).t=zs frm 33 from rfl,zs_len] at this
  omega)
 have ga:∀j,j<a->(⟨2,0,zs frm j⟩:Val)∈l:=fun j hj=>Classical.byContradiction (ma j hj)
 have hsa:=moved_short (fun v hv=>(hl v hv).2.2) hf ga
 have hex:∀e:LU,∃m:List Val,m.Pairwise (fun u v=>bytesLess u.t v.t=true)/\∀v,v∈m↔v∈l/\bytesLess v.t (zs frm a)=false/\(opn=true∨bytesLess v.t e=true):=fun e=>by
  obtain⟨m,h1,h2⟩:=rise_of (r:=fun u v:Val=>bytesLess u.t v.t=true) (fun x y z h h'=>Vals.less_trans _ _ _ h h') (l.filter fun v=>decide (bytesLess v.t (zs frm a)=false/\(opn=true∨bytesLess v.t e=true))) (fun x hx y hy=>by
   have h3:=hl x (List.mem_filter.1 hx).1
   have h4:=hl y (List.mem_filter.1 hy).1
   rcases less_or x.t y.t with h|h|h
   ·exact .inr (.inl h)
   ·exact .inl (Val.ext_ (h3.1.trans h4.1.symm) (h3.2.1.trans h4.2.1.symm) h)
   ·exact .inr (.inr h))
  exact⟨m,h1,fun v=>by rw[h2 v,List.mem_filter,decide_eq_true_eq]⟩
 cases hop:opn with
 | true=>
  obtain⟨m,h1,h2⟩:=hex []
  rw[hop] at h2
  exact⟨_,texts_mk (e:=[]) (b:=0) ga pa (fun h=>by cases h) hsa (fun _=>rfl) (fun h=>by cases h) hl h2 h1⟩
 | false=>
  obtain⟨e,b,h1,h2,h3⟩:=end_ex l _ to_ rfl
  cases hlt:bytesLess (zs frm a) e with
  | false=>rw[h1];exact⟨none_,texts_none ga h2 hlt⟩
  | true=>
   obtain⟨m,h4,h5⟩:=hex e
   rw[hop] at h5
   exact⟨_,texts_mk (e:=e) (b:=b) ga pa (fun _=>⟨h1,h2⟩) hsa (fun h=>by cases h) (fun _=>⟨moved_short' (fun v hv=>(hl v hv).2.2) (h1 ▸ ht hop) h2,hlt,h3⟩) hl h5 h4⟩
theorem of_ex (p:Pr) (h1:-9223372036854775808<=p.i) (h2:p.i<=9223372036854775807):∃r,IsOf p r:=by
 cases hr:Preds.right p.n p.o p.k p.i p.t with
 | false=>exact⟨none_,of_wrong hr⟩
 | true=>
  have hP:rightP p=true:=(rightP_iff _).2 ⟨hr,h1,h2⟩
  rcases rightP_cases hP with ⟨h8,_,_,_⟩|⟨h8,g1,g2,hv,hlt,h7⟩
  ·exact⟨any_,of_E hP h8⟩
  ·by_cases hk2:p.k=2
   ·have hsd:∀v∈ofNo p,v.k=2/\v.i=0/\v.t.length<=32:=fun v hv'=>by
     unfold ofNo at hv'
     split at hv'
     ·simp at hv'
      subst hv'
      refine ⟨hk2,?_,hlt⟩
      show p.i=0
      rcases Vals.right_cases hv with ⟨h,_⟩|⟨_,h,_⟩|⟨h,_⟩<;>omega
     ·cases hv'
    have hf:Short (ofFrm p):=by
     unfold ofFrm
     split
     ·exact .inl hlt
     ·split
      ·exact .inr ⟨_,rfl,hlt⟩
      ·exact .inl (by simp)
    obtain⟨r,hr'⟩:=texts_ex (frm:=ofFrm p) (to_:=ofTo p) (opn:=ofOpn p) (l:=ofNo p) hf (fun ho=>by
     unfold ofOpn at ho
     unfold ofTo
     split
     ·exact .inr ⟨_,rfl,hlt⟩
     ·split
      ·exact .inl hlt
      ·split
       ·rename_i h7'
        rw[if_neg (by omega),if_pos h7'] at ho
        cases hu:up p.t with
        | none=>rw[hu] at ho;cases ho
        | some u=>exact .inl (by have:=up_len p.t u hu;simp;omega)
       ·exact .inl (by simp)) hsd
    exact⟨r,of_T hP hk2 hr'⟩
   ·have hk:p.k=1∨p.k=3:=by rcases Vals.right_cases hv with ⟨h,_⟩ | ⟨h,_⟩ | ⟨h,_⟩<;>omega
    have hb:=num_bd (rightP_side hP h8) hk
    have hb1:lowest p.k<=p.i:=hb.1
    have hb2:p.i<=highest p.k:=hb.2
    have hl:lowest p.k<=highest p.k:=by omega
    obtain⟨r,hr'⟩:=ints_ex (k:=p.k) (lo:=ofLo p) (hi:=ofHi p) (ofNo p) hk (by unfold ofLo;split<;>(try split)<;>omega) (by unfold ofHi;split<;>(try split)<;>omega)
    exact⟨r,of_N hP hk hr'⟩
theorem meet_ex {a b:Sp} (ha:Canon a) (hb:Canon b):∃r,IsMeet a b r:=by
 by_cases h4:a.kind=4
 ·have e:a=any_:=by
   rcases ha with rfl|rfl|h|h
   ·simp[none_] at h4
   ·rfl
   ·exact absurd h4 (N_not4 h).1
   ·exact absurd h4 (T_not4 h).1
  subst e
  exact⟨b,(meet_any hb).2⟩
 by_cases h4':b.kind=4
 ·have e:b=any_:=by
   rcases hb with rfl|rfl|h|h
   ·simp[none_] at h4'
   ·rfl
   ·exact absurd h4' (N_not4 h).1
   ·exact absurd h4' (T_not4 h).1
  subst e
  exact⟨a,(meet_any ha).1⟩
 by_cases hk:a.kind=b.kind
 ·rcases ha with rfl | rfl | ha | ha
  ·exact⟨none_,meet_none _ _ (.inl rfl)⟩
  ·exact absurd rfl h4
  ·have hb':CanonN b:=by
    rcases hb with rfl|rfl|hb|hb
    ·exact absurd hk (N_not4 ha).2.2
    ·exact absurd hk h4
    ·exact hb
    ·exact absurd (hk.trans hb.kind) (N_not4 ha).2.1
   obtain⟨r,hr⟩:=ints_ex (k:=a.kind) (lo:=max a.lo b.lo) (hi:=min a.hi b.hi) (a.no++b.no) ha.kind (Int.le_trans ha.low (Int.le_max_left _ _)) (Int.le_trans (Int.min_le_left _ _) ha.high)
   exact⟨r,meet_N ha hb' hk (fun x=>by omega) (fun x=>by omega) (fun v=>List.mem_append) hr⟩
  ·have hb':CanonT b:=by
    rcases hb with rfl|rfl|hb|hb
    ·exact absurd hk (T_not4 ha).2
    ·exact absurd hk h4
    ·exact absurd (hk.symm.trans ha.kind) (N_not4 hb).2.1
    ·exact hb
   have hl:∀v∈a.no++b.no,v.k=2/\v.i=0/\v.t.length<=32:=fun v hv=>by
    rcases List.mem_append.1 hv with h|h
    ·exact⟨(ha.no v h).1,(ha.no v h).2.1,(ha.no v h).2.2.1⟩
    ·exact⟨(hb'.no v h).1,(hb'.no v h).2.1,(hb'.no v h).2.2.1⟩
   obtain⟨ff,hff,hfl⟩:∃f,Short f/\∀t,bytesLess t f=false↔bytesLess t a.frm=false/\bytesLess t b.frm=false:=by
    cases h:bytesLess a.frm b.frm with
    | true=>exact⟨b.frm,hb'.flen,fun t=>⟨fun g=>⟨le_trans (le_of_lt h) g,g⟩,fun g=>g.2⟩⟩
    | false=>exact⟨a.frm,ha.flen,fun t=>⟨fun g=>⟨g,le_trans h g⟩,fun g=>g.1⟩⟩
   obtain⟨tt,oo,hts,hto⟩:∃t o,(o=false->Short t)/\∀x,(o=true∨bytesLess x t=true)↔(a.opn=true∨bytesLess x a.to_=true)/\(b.opn=true∨bytesLess x b.to_=true):=by
    cases h1:a.opn with
    | true=>exact⟨b.to_,b.opn,fun h=>(hb'.shut h).1,fun x=>by simp⟩
    | false=>
     cases h2:b.opn with
     | true=>exact⟨a.to_,false,fun _=>(ha.shut h1).1,fun x=>by simp⟩
     | false=>
      cases h:bytesLess b.to_ a.to_ with
      | true=>exact⟨b.to_,false,fun _=>(hb'.shut h2).1,fun x=>by simp only[Bool.false_eq_true,false_or];exact⟨fun g=>⟨Vals.less_trans _ _ _ g h,g⟩,fun g=>g.2⟩⟩
      | false=>exact⟨a.to_,false,fun _=>(ha.shut h1).1,fun x=>by simp only[Bool.false_eq_true,false_or];exact⟨fun g=>⟨g,lt_of_lt_of_le g h⟩,fun g=>g.1⟩⟩
   obtain⟨r,hr⟩:=texts_ex (frm:=ff) (to_:=tt) (opn:=oo) (l:=a.no++b.no) hff hts hl
   exact⟨r,meet_T ha hb' hfl hto (fun v=>List.mem_append) hr⟩
 ·exact⟨none_,meet_kinds h4 h4' hk⟩
def Bd (l:List Pr):Prop:=∀p∈l,-9223372036854775808<=p.i/\p.i<=9223372036854775807
theorem all_ex {l:List Pr} (h:Bd l):∃r,IsAll l r:=by
 have step:∀n,n<=l.length->∃r,IsAll (l.take n) r:=by
  intro n
  induction n with
  | zero=>intro _;exact⟨any_,by simpa using all_nil⟩
  | succ n ih=>
   intro hn
   obtain⟨a,ha⟩:=ih (by omega)
   have hb:=h _ (List.getElem_mem (show n<l.length by omega))
   obtain⟨b,hb'⟩:=of_ex l[n] hb.1 hb.2
   obtain⟨r,hr⟩:=meet_ex ha.1 hb'.1
   exact⟨r,by rw[List.take_succ_eq_append_getElem (show n<l.length by omega)];exact all_snoc ha hb' hr⟩
 obtain⟨r,hr⟩:=step l.length (Jn)
 exact⟨r,by rwa [List.take_of_length_le (Jn)] at hr⟩
end Spans
namespace Go.Proofs.YtnfigjggjmncdaaGreat.Fil
open Spans
open Go.Op (bytesLess)
theorem spans_ex {f:List Pr} (h:Bd f):∃S,IsSpans f S:=
 ⟨fun n=>Classical.choose (all_ex (l:=of f n) (fun p hp=>h p (mem_of.1 hp).1)),fun n _=>Classical.choose_spec (all_ex (l:=of f n) (fun p hp=>h p (mem_of.1 hp).1))⟩
theorem names_ex (f:List Pr):∃L,IsNames f L:=by
 obtain⟨m,h1,h2⟩:=rise_of (r:=fun a b:LU=>bytesLess a b=true) (fun a b c h h'=>Vals.less_trans _ _ _ h h') (f.map Pr.n) (fun x _ y _=>by
  rcases less_or x y with h|h|h
  ·exact .inr (.inl h)
  ·exact .inl h
  ·exact .inr (.inr h))
 refine ⟨m,h1,fun n=>?_⟩
 rw[h2 n,List.mem_map]
 exact Iff.rfl
end Go.Proofs.YtnfigjggjmncdaaGreat.Fil
