/- Contracts. -/
import Derived.Maps.RangeWalk
import Derived.Maps.Ext
import Derived.Maps.OwnSet
import Derived.Sort.KeysCollected
import Derived.Sort.Walk0
import Derived.Deep.LoopGhost
import Derived.Shelf.SlIter.Nil
import Derived.Shelf.SortM.Plain
import Derived.Shelf.SortM.SortNone
import Derived.Test.YtnfigjggjmncdaaGreatProg
import Derived.Shelf.SlGeneric
import Derived.Test.YtnfigjggjmncdaaGreatA4
set_option maxRecDepth 100000
set_option maxHeartbeats 4000000
namespace Go.Proofs.YtnfigjggjmncdaaGreat
section
open Go.RowKit Go.Maps Go.WideMaps Spans Op
theorem lawS:Keyed Tryz.prog 9:=string_keyed Tryz.underlying9
structure Rw where
 kind:Int
 lo:Int
 hi:Int
 frm:LU
 to_:LU
 opn:Bool
 A:OA
 n:Nat
 c:Nat
def mkR (r:Rw):Value:=spF r.kind r.lo r.hi r.frm r.to_ r.opn r.A r.n r.c
theorem mkR_inj {r s:Rw} (h:mkR r=mkR s):r=s:=by
 cases r;cases s
 simp only[mkR] at h
 injection h with h
 simp at h
 simp_all
open Classical in
noncomputable def elemR (v:Value):Option (DataW Rw × List MemPlace):=if h:∃r,v=mkR r then some (.held (Classical.choose h),[]) else none
theorem elemR_mk (r:Rw):elemR (mkR r)=some (.held r,[]):=by
 have h:∃s,mkR r=mkR s:=⟨r,rfl⟩
 unfold elemR
 rw[dif_pos h]
 have:=mkR_inj (Classical.choose_spec h)
 rw[<-this]
theorem elemR_inv {v:Value} {y:DataW Rw × List MemPlace} (h:elemR v=some y):∃r,v=mkR r/\y=(.held r,[]):=by
 unfold elemR at h
 by_cases hr:∃r,v=mkR r
 ·rw[dif_pos hr] at h
  injection h with h
  exact⟨_,Classical.choose_spec hr,h.symm⟩
 ·rw[dif_neg hr] at h;cases h
def zeroRw:Rw:=⟨0,0,0,[],[],false,none,0,0⟩
theorem zeroSp (w:World):(zeroValue 97).run Tryz.prog w=.ok (mkR zeroRw) w:=by kernel_rfl
def rw_ (a:Sp) (A:OA) (c:Nat):Rw:=⟨a.kind,a.lo,a.hi,a.frm,a.to_,a.opn,A,a.no.length,c⟩
abbrev OwnM (w:World) (b m:Nat) (D:DataW Rw):Prop:=w.ownsMap Tryz.prog 9 elemR b m D
structure Spm (w:World) (D:DataW Rw) (f:List Pr) (S:LU->Sp):Prop where
 map:IsMap D
 has:∀n,Maps.has D (.string n)=true↔Fil.Asked f n
 all:∀n,Fil.Asked f n->IsAll (Fil.of f n) (S n)/\(S n).no.length<=f.length/\∃A c,(∀z,D.atKey (.string n) z=.held (rw_ (S n) A c))/\(S n).no.length<=c/\RdW w A (S n).no
theorem Spm.below {w w':World} {D:DataW Rw} {f:List Pr} {S:LU->Sp} (h:Spm w D f S) (hb:Below w.heap.size w w'):Spm w' D f S:=
 ⟨h.map,h.has,fun n hn=>by
  obtain⟨h1,h2,A,c,h3,h4,h5⟩:=h.all n hn
  exact⟨h1,h2,A,c,h3,h4,h5.below hb⟩⟩
theorem Spm.spans {w:World} {D:DataW Rw} {f:List Pr} {S:LU->Sp} (h:Spm w D f S):Fil.IsSpans f S:=fun n hn=>(h.all n hn).1
def SpMap (w:World) (b:Nat) (f:List Pr) (S:LU->Sp):Prop:=∃m D,OwnM w b m D/\m<=f.length/\Spm w D f S
theorem OwnM.below {w w':World} {b m:Nat} {D:DataW Rw} (h:OwnM w b m D) (hb:Below w.heap.size w w'):OwnM w' b m D:=by
 obtain⟨es,clock,h1,h2⟩:=h
 exact⟨es,clock,(hb.block b (Array.getElem?_eq_some_iff.1 h1).1).trans h1,h2⟩
theorem SpMap.below {w w':World} {b:Nat} {f:List Pr} {S:LU->Sp} (h:SpMap w b f S) (hb:Below w.heap.size w w'):SpMap w' b f S:=by
 obtain⟨m,D,h1,h2,h3⟩:=h
 exact⟨m,D,OwnM.below h1 hb,h2,h3.below hb⟩
theorem SpMap.lt {w:World} {b:Nat} {f:List Pr} {S:LU->Sp} (h:SpMap w b f S):b<w.heap.size:=by
 obtain⟨m,D,h1,_⟩:=h
 exact World.ownsMap.lt h1
theorem keyN {n:LU} (h:n.length<=9223372036854775807):keyOf Tryz.prog 9 (.string ⟨n.toArray⟩)=some (.string n):=
 keyOf_string_mk Tryz.underlying9 (by show n.toArray.size<=_;rw[maxLen_num];simp;omega)
theorem look_yes {w:World} {b m:Nat} {D:DataW Rw} {n:LU} {r:Rw} (h:OwnM w b m D) (hn:n.length<=9223372036854775807) (hr:∀z,D.atKey (.string n) z=.held r):
  (Instr.lookup 87 (.map (some b)) (.string ⟨n.toArray⟩) true).run Tryz.prog w=.ok (.tuple #[mkR r,.bool true]) w/\(Instr.lookup 87 (.map (some b)) (.string ⟨n.toArray⟩) false).run Tryz.prog w=.ok (mkR r) w:=by
 have hh:Maps.has D (.string n)=true:=has_true_of_atKey hr
 obtain⟨v,ps,hrun,hv⟩:=World.ownsMap.look_ok h lawS Tryz.underlying87 (zeroSp w) (elemR_mk zeroRw) (keyN hn)
 obtain⟨v',ps',hrun',hv'⟩:=World.ownsMap.lookup h lawS Tryz.underlying87 (zeroSp w) (elemR_mk zeroRw) (keyN hn)
 rw[hr] at hv hv'
 obtain⟨s,rfl,hs⟩:=elemR_inv hv
 obtain⟨s',rfl,hs'⟩:=elemR_inv hv'
 simp only[Prod.mk.injEq,DataW.held.injEq] at hs hs'
 obtain⟨rfl,_⟩:=hs
 obtain⟨rfl,_⟩:=hs'
 rw[hh] at hrun
 exact⟨hrun,hrun'⟩
theorem look_no {w:World} {b m:Nat} {D:DataW Rw} {n:LU} (h:OwnM w b m D) (hn:n.length<=9223372036854775807) (hh:Maps.has D (.string n)=false):
  (Instr.lookup 87 (.map (some b)) (.string ⟨n.toArray⟩) true).run Tryz.prog w=.ok (.tuple #[spF 0 0 0 [] [] false none 0 0,.bool false]) w:=by
 obtain⟨v,ps,hrun,hv⟩:=World.ownsMap.look_ok h lawS Tryz.underlying87 (zeroSp w) (elemR_mk zeroRw) (keyN hn)
 rw[atKey_of_not_has hh] at hv
 obtain⟨s,rfl,hs⟩:=elemR_inv hv
 simp only[Prod.mk.injEq,DataW.held.injEq] at hs
 obtain⟨rfl,_⟩:=hs
 rw[hh] at hrun
 exact hrun
theorem isKey (n:LU):WideAt.IsKeyLit (.string n):=trivial
theorem Spm.snoc {w:World} {D:DataW Rw} {f:List Pr} {S:LU->Sp} {p:Pr} {a:Sp} {A:OA} {c:Nat} (h:Spm w D f S) (ha:IsAll (Fil.of f p.n++[p]) a) (hl:a.no.length<=f.length+1) (hc:a.no.length<=c) (hr:RdW w A a.no):
  Spm w (D.put (.string p.n) (.held (rw_ a A c))) (f++[p]) (fun n=>if n=p.n then a else S n) where
 map:=h.map.put _ _
 has:=fun n=>by
  by_cases hn:n=p.n
  ·subst hn
   rw[has_put_same h.map (isKey _)]
   exact⟨fun _=>Fil.asked_app.2 (.inr ⟨p,by simp,rfl⟩),fun _=>rfl⟩
  ·rw[has_put_other (by simpa using hn),h.has n,Fil.asked_app]
   exact⟨.inl,fun k=>k.resolve_right fun ⟨q,hq,e⟩=>by simp at hq;subst hq;exact hn e.symm⟩
 all:=fun n hn=>by
  by_cases e:n=p.n
  ·subst e
   rw[if_pos rfl]
   refine ⟨?_,by simp;omega,A,c,fun z=>atKey_put_same h.map (isKey _) _ _,hc,hr⟩
   rw[Fil.of_app]
   have:Fil.of [p] p.n=[p]:=by simp[Fil.of]
   rw[this]
   exact ha
  ·rw[if_neg e]
   have hn':Fil.Asked f n:=(Fil.asked_app.1 hn).resolve_right fun ⟨q,hq,k⟩=>by simp at hq;subst hq;exact e k.symm
   obtain⟨h1,h2,A',c',h3,h4,h5⟩:=h.all n hn'
   refine ⟨?_,by simp;omega,A',c',fun z=>by rw[atKey_put_other (by simpa using e)];exact h3 z,h4,h5⟩
   rw[Fil.of_app]
   have:Fil.of [p] n=[]:=by simp[Fil.of];exact fun k=>e k.symm
   rw[this,List.append_nil]
   exact h1
theorem of_none {f:List Pr} {n:LU} (h:¬Fil.Asked f n):Fil.of f n=[]:=List.filter_eq_nil_iff.2 fun p hp=>by simp;exact fun e=>h ⟨p,hp,e⟩
theorem names_of {w:World} {b m:Nat} {D:DataW Rw} {f:List Pr} {S:LU->Sp} (ho:OwnM w b m D) (h:Spm w D f S) {ss:List (LU)} (hp:ss.Perm (strKeys D)):Fil.IsNames f (ss.mergeSort (fun x y=>decide (x<=y))):=by
 obtain⟨es,rfl,hpw,hk⟩:=World.ownsMap.canon ho lawS
 have hstr:∀p∈es,∃x,p.1=.string x:=by
  obtain⟨es',clock,_,F,_,hD⟩:=ho
  intro p hp
  injection hD with hD
  subst hD
  obtain⟨x,hx,rfl⟩:=List.mem_map.1 (mem_sorted.1 hp)
  obtain⟨y,hy⟩:=F.reads x hx
  rw[WideElems.rg_of hy]
  obtain⟨z,_,hz,_⟩:=Maps.keyOf_str Tryz.underlying9 (WideElems.rd_key hy)
  exact⟨z,hz⟩
 have hmem:∀x,x∈ss↔Fil.Asked f x:=fun x=>by
  rw[hp.mem_iff,<-h.has x,Maps.has_eq,List.any_eq_true]
  unfold strKeys
  rw[List.mem_map]
  constructor
  ·rintro ⟨p,hpm,e⟩
   obtain⟨y,hy⟩:=hstr p hpm
   rw[hy] at e
   refine ⟨p,hpm,?_⟩
   rw[hy,<-e]
   exact WideAt.sameKey_self (isKey _)
  ·rintro ⟨p,hpm,e⟩
   have:=WideAt.sameKey_eq e
   exact⟨p,hpm,by rw[this];rfl⟩
 have hnd:ss.Nodup:=by
  rw[hp.nodup_iff]
  unfold strKeys
  rw[List.nodup_iff_pairwise_ne,List.pairwise_map]
  refine hpw.imp_of_mem fun {a c} ha hc hac e=>?_
  obtain⟨x,hx⟩:=hstr a ha
  obtain⟨y,hy⟩:=hstr c hc
  rw[hx,hy] at e
  have:a.1=c.1:=by rw[hx,hy];exact congrArg _ e
  rw[this,WideShapes.before_irrefl] at hac
  cases hac
 refine ⟨?_,fun n=>by rw[(List.mergeSort_perm ss _).mem_iff,hmem n]⟩
 have h1:=List.pairwise_mergeSort (le:=fun x y:LU=>decide (x<=y)) (fun a b c=>by simp;exact List.le_trans) (fun a b=>by simp;exact List.le_total a b) ss
 have h2:(ss.mergeSort (fun x y=>decide (x<=y))).Nodup:=(List.mergeSort_perm ss _).nodup_iff.2 hnd
 refine (h1.and (List.nodup_iff_pairwise_ne.1 h2)).imp fun {a c} ⟨h3,h4⟩=>?_
 have h5:bytesLess c a=false:=by
  rw[bytesLess_eq]
  have h3':=of_decide_eq_true h3
  exact decide_eq_false h3'
 cases h6:bytesLess a c with
 | true=>rfl
 | false=>exact absurd (Vals.less_tri _ _ h6 h5) h4
end
section
open Go.RowKit Spans Op
def PBd (f:List Pr):Prop:=∀p∈f,p.n.length<=100/\p.t.length<=100 /\ -9223372036854775808<=p.i/\p.i<=9223372036854775807
theorem PBd.right {f:List Pr} (h:PBd f) {p:Pr} (hp:p∈f):rightP p=Preds.right p.n p.o p.k p.i p.t:=by
 obtain⟨_,_,h1,h2⟩:=h p hp
 unfold rightP
 simp[h1,h2]
end
section
open Go.RowKit Go.Maps Spans Op
theorem allRight_at (A:OA) (f:List Pr) (n c:Nat) (hn:f.length=n) (hm:n<=100000) (hl:PBd f) (w:World) (hr:RdQ w A f) (b:Bool) (hb:decide (Fil.AllRight f)=b):
  Calls Tryz.prog 50 #[.slice A n c] w fun e w'=>e=.returned (.bool b)/\Below w.heap.size w w':=by
 subst hb
 have HN:=Jh hn
 have HLL:=Jh hl
 have HR:=Jh hr
 clear hn hl hr
 go_enter Tryz.func50,Tryz.ntmps50
 go_wp2_with fail
 go_loopg [7] n (fun gg s7 wr=>∃k:Nat,k<=n/\n-k<=gg/\s7=.int .i64 (k:Int)/\Hid (Below w.heap.size w wr)/\Hid (∀p∈f.take k,rightP p=true))
 case atStart=>exact⟨0,Nat.zero_le _,by omega,rfl,Below.refl _ _,fun p hp=>by simp at hp⟩
 case round=>
  obtain⟨k,hk,hgg,rfl,HB,HA⟩:=hrel
  by_cases hlt:k<n
  ·have hk':k<f.length:=by rw[HN.o];exact hlt
   have hpl:=HLL.o _ (List.getElem_mem hk')
   have hpr:=HLL.o.right (List.getElem_mem hk')
   obtain⟨g,off,rfl,hg,c0,c1,c2,c3,c4⟩:=RdQ.at5 (RdK.below HR.o HB.o) hk'
   obtain⟨x,hx⟩:∃x,f[k]=x:=⟨_,rfl⟩
   have HX:=Jh hx
   rw[hx] at c0 c1 c2 c3 c4 hpl hpr
   clear hx HLL HR
   obtain⟨xn,xo,xk,xi,xt⟩:=x
   obtain⟨hp1,hp2,hp3,hp4⟩:=hpl
   dsimp only at hp1 hp2 hp3 hp4 hpr c0 c1 c2 c3 c4
   have HPR:=Jh hpr
   clear hpr
   have w5:(k:Int)<(n:Int):=by omega
   have HB1:=Jh (HB.o.alloc (by have:=HB.o.size;omega) (.cells (pC xn.toArray xo xk xi xt.toArray) 54))
   cases hq:Preds.right xn xo xk xi xt with
   | true=>
    have HQ:=Jh hq
    clear hq
    go_wp2_with fail
    refine (pright_is xn xo xk xi xt _ (by omega) (by omega) true HQ.o).mono ?_
    rintro e w2 ⟨rfl,hb2⟩
    have HB2:=Jh (below_next HB1.o (by have:=HB1.o.size;omega) hb2)
    have HA2:Hid (∀p∈f.take (k+1),rightP p=true):=by
     show ∀p∈_,_
     rw[List.take_succ_eq_append_getElem hk',HX.o]
     intro p hp
     rcases List.mem_append.1 hp with hp|hp
     ·exact HA.o p hp
     ·simp at hp;subst hp;rw[HPR.o];exact HQ.o
    clear hb2 c0 c1 c2 c3 c4
    go_wp2_with fail
    go_roundg (n-(k+1))
    case measure=>omega
    case rel=>exact⟨k+1,by omega,Jn,by go_num,HB2,HA2⟩
   | false=>
    have HQ:=Jh hq
    clear hq
    go_wp2_with fail
    refine (pright_is xn xo xk xi xt _ (by omega) (by omega) false HQ.o).mono ?_
    rintro e w2 ⟨rfl,hb2⟩
    have HB2:=Jh (below_next HB1.o (by have:=HB1.o.size;omega) hb2)
    have HF:Hid (¬Fil.AllRight f):=fun h=>by
     have:=h _ (List.getElem_mem hk')
     rw[HX.o,HPR.o,HQ.o] at this
     cases this
    clear hb2 c0 c1 c2 c3 c4
    go_wp2_with fail
    go_ret
    exact⟨ret_b (decide_eq_false HF.o).symm,HB2.o⟩
  ·have hkn:Hid (k=n):=by show k=n;omega
   go_wp2_with fail
   go_ret
   refine ⟨ret_b (decide_eq_true ?_).symm,HB.o⟩
   have:=HA.o
   rwa [hkn.o,List.take_of_length_le (by rw[HN.o];exact Jn)] at this
theorem wpList_next_S {w:World} {ops:Array Oper} {rest:List Oper} {oo:Oper} {a:Act} {Q:Exit->Act->World->Prop} (hg:oo.guard=none) (it:Operand) (hop:oo.op=Op.next it false) (b r n:Nat) (D:DataW Rw) (left:Lit->Bool) (cnt:Nat)
  (hit:a.eval it=.pointer (some ⟨r,0,none⟩)) (h:w.ranges Tryz.prog 9 elemR b r n D left cnt)
  (hDone:cnt=0->(∀kl,left kl=false)->wpList Tryz.prog ops Q rest (a.put oo.dst (.tuple #[.bool false])) w)
  (hMore:∀(x:LU) (s:Rw) (w':World) (cnt':Nat),left (.string x)=true->(∀zd,D.atKey (.string x) zd=.held s)->w'.ranges Tryz.prog 9 elemR b r n D (fun z=>left z && !z.sameKey (.string x)) cnt'->cnt'<cnt ->
   w.grownBy w' (some r)->w'.heap.size=w.heap.size->(Instr.entry (.pointer (some ⟨r,0,none⟩))).run Tryz.prog w'=.ok (.tuple #[.string ⟨x.toArray⟩,.agg (sC s.kind s.lo s.hi s.frm.toArray s.to_.toArray s.opn s.A s.n s.c)]) w'->wpList Tryz.prog ops Q rest (a.put oo.dst (.tuple #[.bool true,.string ⟨x.toArray⟩,.agg (sC s.kind s.lo s.hi s.frm.toArray s.to_.toArray s.opn s.A s.n s.c)])) w'):
  wpList Tryz.prog ops Q (oo::rest) a w:=
 wpList_next_ranges w hg it hop 9 lawS elemR (fun l:LU=>Value.string ⟨l.toArray⟩) mkR (fun key kl hk=>by obtain⟨x,hx,_⟩:=Maps.keyOf_str Tryz.underlying9 hk;exact⟨x,hx⟩) (fun v y hv=>by obtain⟨s,rfl,_⟩:=elemR_inv hv;exact⟨s,rfl⟩) b r n D left cnt hit h hDone
  (fun x s kl y w' cnt' hkey hlk hv hat hrg hlt hgr hsz hen=>by
   obtain⟨x',ex,rfl,_⟩:=Maps.keyOf_str Tryz.underlying9 hkey
   obtain rfl:x=x':=by simpa using ex
   obtain⟨s',e1,rfl⟩:=elemR_inv hv
   obtain rfl:=mkR_inj e1
   exact hMore x s w' cnt' hlk hat hrg hlt hgr hsz hen)
instance (f:List Pr) (S:LU->Sp):Decidable (Fil.Void f S):=inferInstanceAs (Decidable (∃p∈f,_=_))
theorem Spm.kind {w:World} {D:DataW Rw} {f:List Pr} {S:LU->Sp} (h:Spm w D f S) {x:LU} {r:Rw} (hat:∀z,D.atKey (.string x) z=.held r):Fil.Asked f x/\∃A c,r=rw_ (S x) A c/\(S x).no.length<=c/\RdW w A (S x).no:=by
 have ha:=(h.has x).1 (has_true_of_atKey hat)
 obtain⟨_,_,A,c,h3,h4,h5⟩:=h.all x ha
 have e:=(hat .nil).symm.trans (h3 .nil)
 injection e with e
 exact⟨ha,A,c,e,h4,h5⟩
theorem left_next {left:Lit->Bool} {x n:LU} (h:(left (.string n) && !(Lit.string n).sameKey (.string x))=false):n=x∨left (.string n)=false:=by
 by_cases e:n=x
 ·exact .inl e
 ·rw[sameKey_ne (by simpa using e)] at h
  simp at h
  exact .inr h
theorem anyEmpty_at (b:Nat) (f:List Pr) (S:LU->Sp) (w:World) (h:SpMap w b f S) (q:Bool) (hq:decide (Fil.Void f S)=q):
  Calls Tryz.prog 52 #[.map (some b)] w fun e w'=>e=.returned (.bool q)/\Below w.heap.size w w':=by
 subst hq
 obtain⟨m,D,hown,_,hS⟩:=h
 have HS:=Jh hS
 clear hS
 have hbl:=World.ownsMap.lt hown
 go_enter Tryz.func52,Tryz.ntmps52
 go_wp2_with (first | (at_range;refine wpList_range_own _ rfl _ 87 rfl 9 97 lawS Tryz.underlying87 _ b m _ rfl hown ?_;intro w0 hrg0 hg0 hs0) | go_in)
 go_frame
 go_loopw [4] (fun _ wr=>∃(left:Lit->Bool) (cnt:Nat),wr.ranges Tryz.prog 9 elemR b w.heap.size m D left cnt/\Hid (∀n,Fil.Asked f n->left (.string n)=false->(S n).kind≠0)/\Hid (Below w.heap.size w wr)) (fun _ wr=>wr.rangeLeft b w.heap.size)
 case atStart=>exact⟨_,_,hrg0,fun n hn hl=>(by rw[(HS.o.has n).2 hn] at hl;cases hl),(Below.refl _ _).grown hg0 (Jn) (fun j hj=>by cases hj)⟩
 case round=>
  obtain⟨left,cnt,hrg,HL,HB⟩:=hrel
  clear hrg0 hg0 hs0
  go_wp2_with (first | (at_next;refine wpList_next_S rfl _ rfl b w.heap.size m D left cnt rfl hrg ?_ ?_) | go_in)
  ·intro _ hl0
   have HF:Hid (¬Fil.Void f S):=fun ⟨p,hp,e⟩=>HL.o p.n ⟨p,hp,rfl⟩ (hl0 _) e
   clear hl0 hrg
   go_wp2_with fail
   go_ret
   exact⟨ret_b (decide_eq_false HF.o).symm,HB.o⟩
  ·intro x s w1 cnt1 hlx hat hrg1 hlt hg1 hs1 hen
   obtain⟨hax,A',c',hr,_⟩:=HS.o.kind hat
   have hKS:Hid (s.kind=(S x).kind):=congrArg Rw.kind hr
   have HB1:Hid (Below w.heap.size w w1):=HB.o.grown hg1 HB.o.size (fun j hj=>by cases hj;exact Jn)
   have HB2:=Jh (HB1.o.alloc HB1.o.size (.cells (sC s.kind s.lo s.hi s.frm.toArray s.to_.toArray s.opn s.A s.n s.c) 97))
   have hrg2:=hrg1.alloc (.cells (sC s.kind s.lo s.hi s.frm.toArray s.to_.toArray s.opn s.A s.n s.c) 97)
   clear hs1 hat hg1 hrg1 hr
   by_cases hK:s.kind=0
   ·have v1:(s.kind == 0)=true:=beq_iff_eq.2 hK
    have HF:Hid (Fil.Void f S):=by
     obtain⟨p,hp,e⟩:=hax
     subst e
     exact⟨p,hp,hKS.o.symm.trans hK⟩
    clear hK
    go_wp2_with fail
    go_ret
    exact⟨ret_b (decide_eq_true HF.o).symm,HB2.o⟩
   ·have v1:(s.kind == 0)=false:=beq_eq_false_iff_ne.2 hK
    have HL2:Hid (∀n,Fil.Asked f n->(left (.string n) && !(Lit.string n).sameKey (.string x))=false->(S n).kind≠0):=fun n hn h=>by
     rcases left_next h with e|e
     ·subst e;rw[<-hKS.o];exact hK
     ·exact HL.o n hn e
    go_wp2_with fail
    go_roundw
    case rel=>exact⟨_,cnt1,hrg2,HL2,HB2⟩
    case measure=>rw[hrg2.left_eq,hrg.left_eq];exact hlt
end
end Go.Proofs.YtnfigjggjmncdaaGreat
namespace Go.Proofs
open Go.Shelf
def Tryz.keys84_ren:Go.Shelf.Ren:=⟨fun | 7=>84 | 10=>115 | n=>n,fun | 23=>87 | 26=>9 | 3=>97 | 28=>122 | 0=>0 | 27=>121 | 33=>141 | 4=>4 | n=>n,fun | n=>n⟩
theorem Tryz.keys84:Go.Proofs.SlLaysZ.n7 Tryz.prog Tryz.keys84_ren:={
 mixed:=by kernel_rfl
 f7:=⟨Tryz.f84.name,by decide,Tryz.func84.trans (congrArg some (by kernel_rfl))⟩
 f10:=⟨Tryz.f115.name,by decide,Tryz.func115.trans (congrArg some (by kernel_rfl))⟩
 t0:=Tryz.underlying0
 a0:=Tryz.isAgg0
 z0:=Tryz.sizeOf0
 v0:=Tryz.zeroValue0
 t4:=Tryz.underlying4
 a4:=Tryz.isAgg4
 z4:=Tryz.sizeOf4
 v4:=Tryz.zeroValue4
 t23:=Tryz.underlying87
 a23:=Tryz.isAgg87
 z23:=Tryz.sizeOf87
 v23:=Tryz.zeroValue87
 t26:=Tryz.underlying9
 a26:=Tryz.isAgg9
 z26:=Tryz.sizeOf9
 v26:=Tryz.zeroValue9
 t27:=Tryz.underlying121
 a27:=Tryz.isAgg121
 z27:=Tryz.sizeOf121
 v27:=Tryz.zeroValue121
 t28:=Tryz.underlying122
 a28:=Tryz.isAgg122
 z28:=Tryz.sizeOf122
 v28:=Tryz.zeroValue122
 t33:=Tryz.underlying141
 a33:=Tryz.isAgg141
 z33:=Tryz.sizeOf141
 v33:=Tryz.zeroValue141 }
def Tryz.sorted83_ren:Go.Shelf.Ren:=⟨fun | 6=>83 | 8=>113 | 9=>114 | 11=>145 | 13=>147 | 12=>146 | 23=>181 | 24=>125 | 14=>172 | 15=>173 | 16=>174 | 17=>175 | 18=>176 | 19=>177 | 20=>178 | 21=>179 | 22=>180 | 25=>200 | 26=>201 | 27=>202 | 28=>203 | 29=>204 | 30=>198 | 31=>212 | n=>n,fun | 26=>9 | 28=>122 | 24=>92 | 0=>0 | 3=>3 | 37=>148 | 48=>194 | 50=>68 | 4=>4 | 40=>188 | 39=>187 | 45=>149 | 5=>5 | 9=>9 | 51=>204 | 55=>207 | 57=>215 | 58=>216 | 33=>141 | n=>n,fun | n=>n⟩
theorem Tryz.sorted83:Go.Proofs.SlLaysZ.n6 Tryz.prog Tryz.sorted83_ren:={
 mixed:=by kernel_rfl
 f6:=⟨Tryz.f83.name,by decide,Tryz.func83.trans (congrArg some (by kernel_rfl))⟩
 f8:=⟨Tryz.f113.name,by decide,Tryz.func113.trans (congrArg some (by kernel_rfl))⟩
 f11:=⟨Tryz.f145.name,by decide,Tryz.func145.trans (congrArg some (by kernel_rfl))⟩
 t0:=Tryz.underlying0
 a0:=Tryz.isAgg0
 z0:=Tryz.sizeOf0
 v0:=Tryz.zeroValue0
 t24:=Tryz.underlying92
 a24:=Tryz.isAgg92
 z24:=Tryz.sizeOf92
 v24:=Tryz.zeroValue92
 t26:=Tryz.underlying9
 a26:=Tryz.isAgg9
 z26:=Tryz.sizeOf9
 v26:=Tryz.zeroValue9
 t28:=Tryz.underlying122
 a28:=Tryz.isAgg122
 z28:=Tryz.sizeOf122
 v28:=Tryz.zeroValue122
 i26:=by kernel_rfl }
def Tryz.sort114_ren:Go.Shelf.Ren:=⟨fun | 6=>114 | 8=>147 | 9=>146 | 19=>181 | 20=>125 | 21=>172 | 22=>173 | 23=>174 | 24=>175 | 25=>176 | 26=>177 | 27=>178 | 28=>179 | 29=>180 | 36=>200 | 31=>201 | 32=>202 | 37=>203 | 38=>204 | 39=>198 | 41=>212 | n=>n,fun | 27=>92 | 29=>9 | 3=>3 | 32=>148 | 26=>92 | 0=>0 | 44=>194 | 46=>68 | 4=>4 | 36=>188 | 35=>187 | 41=>149 | 5=>5 | 9=>9 | 53=>204 | 57=>207 | 63=>215 | 64=>216 | n=>n,fun | n=>n⟩
theorem Tryz.sort114:Go.Proofs.SlLaysM.n6 Tryz.prog Tryz.sort114_ren:={
 mixed:=by kernel_rfl
 f6:=⟨Tryz.f114.name,by decide,Tryz.func114.trans (congrArg some (by kernel_rfl))⟩
 f8:=Tryz.func147.trans (congrArg some (by kernel_rfl))
 f9:=⟨Tryz.f146.name,by decide,Tryz.func146.trans (congrArg some (by kernel_rfl))⟩
 f19:=Tryz.func181.trans (congrArg some (by kernel_rfl))
 f20:=Tryz.func125.trans (congrArg some (by kernel_rfl))
 f21:=⟨Tryz.f172.name,by decide,Tryz.func172.trans (congrArg some (by kernel_rfl))⟩
 f22:=⟨Tryz.f173.name,by decide,Tryz.func173.trans (congrArg some (by kernel_rfl))⟩
 f23:=⟨Tryz.f174.name,by decide,Tryz.func174.trans (congrArg some (by kernel_rfl))⟩
 f24:=⟨Tryz.f175.name,by decide,Tryz.func175.trans (congrArg some (by kernel_rfl))⟩
 f25:=⟨Tryz.f176.name,by decide,Tryz.func176.trans (congrArg some (by kernel_rfl))⟩
 f26:=⟨Tryz.f177.name,by decide,Tryz.func177.trans (congrArg some (by kernel_rfl))⟩
 f27:=⟨Tryz.f178.name,by decide,Tryz.func178.trans (congrArg some (by kernel_rfl))⟩
 f28:=⟨Tryz.f179.name,by decide,Tryz.func179.trans (congrArg some (by kernel_rfl))⟩
 f29:=⟨Tryz.f180.name,by decide,Tryz.func180.trans (congrArg some (by kernel_rfl))⟩
 f31:=Tryz.func201.trans (congrArg some (by kernel_rfl))
 f32:=Tryz.func202.trans (congrArg some (by kernel_rfl))
 f36:=⟨Tryz.f200.name,by decide,Tryz.func200.trans (congrArg some (by kernel_rfl))⟩
 f37:=⟨Tryz.f203.name,by decide,Tryz.func203.trans (congrArg some (by kernel_rfl))⟩
 f38:=⟨Tryz.f204.name,by decide,Tryz.func204.trans (congrArg some (by kernel_rfl))⟩
 f39:=⟨Tryz.f198.name,by decide,Tryz.func198.trans (congrArg some (by kernel_rfl))⟩
 f41:=⟨Tryz.f212.name,by decide,Tryz.func212.trans (congrArg some (by kernel_rfl))⟩
 t0:=Tryz.underlying0
 a0:=Tryz.isAgg0
 z0:=Tryz.sizeOf0
 v0:=Tryz.zeroValue0
 t3:=Tryz.underlying3
 a3:=Tryz.isAgg3
 z3:=Tryz.sizeOf3
 v3:=Tryz.zeroValue3
 t4:=Tryz.underlying4
 a4:=Tryz.isAgg4
 z4:=Tryz.sizeOf4
 v4:=Tryz.zeroValue4
 t5:=Tryz.underlying5
 a5:=Tryz.isAgg5
 z5:=Tryz.sizeOf5
 v5:=Tryz.zeroValue5
 t9:=Tryz.underlying9
 a9:=Tryz.isAgg9
 z9:=Tryz.sizeOf9
 v9:=Tryz.zeroValue9
 t26:=Tryz.underlying92
 a26:=Tryz.isAgg92
 z26:=Tryz.sizeOf92
 v26:=Tryz.zeroValue92
 t27:=Tryz.underlying92
 a27:=Tryz.isAgg92
 z27:=Tryz.sizeOf92
 v27:=Tryz.zeroValue92
 t29:=Tryz.underlying9
 a29:=Tryz.isAgg9
 z29:=Tryz.sizeOf9
 v29:=Tryz.zeroValue9
 t32:=Tryz.underlying148
 a32:=Tryz.isAgg148
 z32:=Tryz.sizeOf148
 v32:=Tryz.zeroValue148
 t35:=Tryz.underlying187
 a35:=Tryz.isAgg187
 z35:=Tryz.sizeOf187
 v35:=Tryz.zeroValue187
 t36:=Tryz.underlying188
 a36:=Tryz.isAgg188
 z36:=Tryz.sizeOf188
 v36:=Tryz.zeroValue188
 t41:=Tryz.underlying149
 a41:=Tryz.isAgg149
 z41:=Tryz.sizeOf149
 v41:=Tryz.zeroValue149
 t44:=Tryz.underlying194
 a44:=Tryz.isAgg194
 z44:=Tryz.sizeOf194
 v44:=Tryz.zeroValue194
 t46:=Tryz.underlying68
 a46:=Tryz.isAgg68
 z46:=Tryz.sizeOf68
 v46:=Tryz.zeroValue68
 t53:=Tryz.underlying204
 a53:=Tryz.isAgg204
 z53:=Tryz.sizeOf204
 v53:=Tryz.zeroValue204
 t57:=Tryz.underlying207
 a57:=Tryz.isAgg207
 z57:=Tryz.sizeOf207
 v57:=Tryz.zeroValue207
 t63:=Tryz.underlying215
 a63:=Tryz.isAgg215
 z63:=Tryz.sizeOf215
 v63:=Tryz.zeroValue215
 t64:=Tryz.underlying216
 a64:=Tryz.isAgg216
 z64:=Tryz.sizeOf216
 v64:=Tryz.zeroValue216 }
end Go.Proofs
namespace Go.Proofs
open Go.RowKit Go.Maps Go.Sort Go.Shelf
theorem Tryz.sorts83 (m:Nat):AnyZ.SortsIn Tryz.prog Tryz.sorted83_ren Fence.wide m:=
 ⟨fun blk off cap ss W hH hblk hsz=>callsIn_wide.2 (AnyM.slices_Sort_string Tryz.sort114 blk off cap ss W hH hblk hsz),
  fun p cap W=>callsIn_wide.2 (AnyM.slices_Sort_string_none Tryz.sort114 p cap W)⟩
theorem Tryz.maps_Keys_84 (mb:Option Nat) (W:World):CallsIn Fence.wide 5 Tryz.prog 84 #[.map mb] W fun e w'=>e=.returned (.func (.func 115) #[] #[.pointer (some ⟨W.heap.size,0,none⟩)])/\w'=W.alloc (.cells #[.map mb] 87):=
 AnyZ.keys_in Tryz.keys84 Fence.wide 5 trivial rfl mb W
theorem Tryz.slices_Sorted_keys_83_84 {H:Type} (b nn:Nat) (D0:DataW H) (R:Value->Option (DataW H × List MemPlace)) (w:World) (hown:w.ownsMap Tryz.prog 9 R b nn D0) (hmax:Maps.size D0<=maxLen) (hbytes:Maps.size D0*16<=140737488355328):
  CallsIn Fence.wide 5 Tryz.prog 83 #[.func (.func 115) #[] #[.pointer (some ⟨w.heap.size,0,none⟩)]] (w.alloc (.cells #[.map (some b)] 87)) fun e w'=>∃(v:Value) (ss:List (LU)),e=.returned v/\ss.Perm (strKeys D0) /\
   w'.ownsRow (w.alloc (.cells #[.map (some b)] 87)).heap.size 9 1 v ss.length ((ss.mergeSort (fun x y=>decide (x<=y))).map encStr)/\(v=.slice none 0 0↔ss=[])/\Below (w.alloc (.cells #[.map (some b)] 87)).heap.size (w.alloc (.cells #[.map (some b)] 87)) w':=by
 have hbl:=hown.lt
 have hseq:SeqGives Fence.wide 2 Tryz.prog 115 #[.pointer (some ⟨w.heap.size,0,none⟩)] encStr (fun ss=>ss.Perm (strKeys D0)) (Maps.size D0) (w.alloc (.cells #[.map (some b)] 87)):=
  AnyZ.keys_gives (ρ:=Tryz.keys84_ren) { Tryz.keys84 with } Fence.wide _ trivial rfl (by omega) w.heap.size b nn D0 _ (by simp) (by simp) (by
   obtain⟨es,clock,hb,Ft,hs,hD⟩:=hown
   exact⟨es,clock,(Below.heap_alloc _ _ b hbl).trans hb,Ft,hs,hD⟩)
 exact AnyZ.sorted_in Tryz.sorted83 Fence.wide 5 trivial trivial trivial trivial rfl (by omega) (Tryz.sorts83 _) (enters_of Tryz.func114 (by kernel_rfl) rfl) 115 #[.pointer (some ⟨w.heap.size,0,none⟩)] trivial (enters_of Tryz.func115 (by kernel_rfl) rfl) _ _ hmax hbytes _ hseq
end Go.Proofs
