/- Contracts. -/
import Derived.Lib.Overlaps
import Derived.Lib.AppendZerosOnto
import Derived.Test.YtnfigjggjmncdaaGreatB1
import Derived.Test.YtnfigjggjmncdaaGreatT1
set_option maxRecDepth 100000
set_option maxHeartbeats 4000000
namespace Go.Proofs.YtnfigjggjmncdaaGreat
section
namespace Dm
open Spans Tb
structure Dd where
 k:Int
 id:Int
 fr:Int
 ad:LU
 f:List Pr
instance:Inhabited Dd:=⟨⟨0,0,0,[],[]⟩⟩
def Ent (k:Int):Prop:=k=3∨k=5
instance (k:Int):Decidable (Ent k):=inferInstanceAs (Decidable (_∨_))
def Fit (d:Dd):Prop:=1<=d.k/\d.k<=6/\1<=d.id/\d.id<=1073741824/\(d.k=1->d.ad.length<=32)/\(d.k≠1->d.ad=[])/\(Ent d.k->1<=d.fr/\d.fr<=1073741824)/\(¬Ent d.k->d.fr=0/\d.f=[])
instance (d:Dd):Decidable (Fit d):=inferInstanceAs (Decidable (_/\_))
def zeroD:Dd:=⟨0,0,0,[],[]⟩
def DNorm (d out:Dd) (e:Int):Prop:=(¬Fit d/\out=zeroD/\e=1)∨(Fit d/\∃g,Fil.NormIs d.f g e/\((e=0/\out={ d with f:=g })∨(e≠0/\out=zeroD)))
theorem DNorm.one {d o o':Dd} {e e':Int} (h:DNorm d o e) (k:DNorm d o' e'):o=o'/\e=e':=by
 rcases h with ⟨a,rfl,rfl⟩|⟨a,g,hg,h⟩<;>rcases k with ⟨b,rfl,rfl⟩|⟨b,g',hg',k⟩
 ·exact⟨rfl,rfl⟩
 ·exact absurd b a
 ·exact absurd a b
 ·obtain⟨rfl,rfl⟩:=hg.one hg'
  rcases h with ⟨h0,rfl⟩|⟨h0,rfl⟩<;>rcases k with ⟨k0,rfl⟩|⟨k0,rfl⟩
  ·exact⟨rfl,rfl⟩
  ·exact absurd h0 k0
  ·exact absurd k0 h0
  ·exact⟨rfl,rfl⟩
def Own (d:Dd):Prop:=Fit d/\Fil.NormIs d.f d.f 0
theorem Own.norm {d:Dd} (h:Own d):DNorm d d 0:=.inr ⟨h.1,d.f,h.2,.inl ⟨rfl,rfl⟩⟩
theorem norm_nil:Fil.NormIs [] [] 0:=.inr (.inr ⟨⟨by simp,fun p hp=>by cases hp⟩,fun _=>⟨0,0,0,[],[],false,[]⟩,[],(fun n hn=>(by obtain⟨p,hp,_⟩:=hn;cases hp)),Fil.IsNames.nil,.inr (.inr ⟨(fun h=>(by obtain⟨p,hp,_⟩:=h;cases hp)),by simp[Fil.outOf],by simp[Fil.outOf],rfl⟩)⟩)
theorem DNorm.good {d o:Dd} (h:DNorm d o 0):Own o/\o.k=d.k/\o.id=d.id/\o.fr=d.fr/\o.ad=d.ad:=by
 rcases h with ⟨_,_,e⟩|⟨a,g,hg,⟨_,rfl⟩|⟨h,_⟩⟩
 ·cases e
 ·refine ⟨⟨⟨a.1,a.2.1,a.2.2.1,a.2.2.2.1,a.2.2.2.2.1,a.2.2.2.2.2.1,a.2.2.2.2.2.2.1,fun hn=>⟨(a.2.2.2.2.2.2.2 hn).1,?_⟩⟩,?_⟩,rfl,rfl,rfl,rfl⟩
  ·rw[(a.2.2.2.2.2.2.2 hn).2] at hg
   exact (hg.one norm_nil).1
  ·obtain⟨S,L,hG⟩:=hg.good
   exact hG.again.norm
 ·exact absurd rfl h
theorem DNorm.bad {d o:Dd} {e:Int} (h:DNorm d o e) (he:e≠0):o=zeroD:=by
 rcases h with ⟨_,rfl,_⟩|⟨_,g,_,⟨h,_⟩|⟨_,rfl⟩⟩
 ·rfl
 ·exact absurd h he
 ·rfl
/-! Places in rows. -/
def ins {A:Type} (l:List A) (k:Nat) (x:A):List A:=l.take k++x::l.drop k
def place {A:Type} (g:A->Int) (l:List A) (i:Int):Nat:=l.countP fun x=>decide (g x<i)
theorem place_le {A:Type} (g:A->Int) (l:List A) (i:Int):place g l i<=l.length:=List.countP_le_length
theorem place_map {A B:Type} (f:A->B) (g:B->Int) (l:List A) (i:Int):place g (l.map f) i=place (fun x=>g (f x)) l i:=by
 unfold place;rw[List.countP_map];rfl
theorem place_cons_lt {A:Type} {g:A->Int} {a:A} {l:List A} {i:Int} (h:g a<i):place g (a::l) i=place g l i+1:=by
 unfold place;rw[List.countP_cons_of_pos (by simpa using h)]
theorem place_cons_ge {A:Type} {g:A->Int} {a:A} {l:List A} {i:Int} (h:i<=g a) (hl:∀x∈l,g a<g x):place g (a::l) i=0:=by
 unfold place;rw[List.countP_eq_zero]
 intro x hx
 rcases List.mem_cons.1 hx with rfl|hx
 ·simp;omega
 ·have:=hl x hx;simp;omega
theorem place_spec {A:Type} {g:A->Int}:∀{l:List A} {i:Int},l.Pairwise (fun a b=>g a<g b)->(∀j (hj:j<l.length),j<place g l i->g l[j]<i)/\∀j (hj:j<l.length),place g l i<=j->i<=g l[j]
 | [],i,_=>⟨fun j hj=>(by cases hj),fun j hj=>(by cases hj)⟩
 | a::l,i,h=>by
  obtain⟨h1,h2⟩:=List.pairwise_cons.1 h
  by_cases ha:g a<i
  ·rw[place_cons_lt ha]
   obtain⟨p,q⟩:=place_spec (i:=i) h2
   refine ⟨fun j hj hl=>?_,fun j hj hl=>?_⟩
   ·cases j with
    | zero=>exact ha
    | succ j=>exact p j (by simpa using hj) (by omega)
   ·cases j with
    | zero=>omega
    | succ j=>exact q j (by simpa using hj) (by omega)
  ·rw[place_cons_ge (by omega) h1]
   refine ⟨fun j hj hl=>by omega,fun j hj _=>?_⟩
   cases j with
   | zero=>simp;omega
   | succ j=>have:=h1 _ (List.getElem_mem (show j<l.length by simpa using hj));simp;omega
theorem place_eq {A:Type} {g:A->Int} {l:List A} {i:Int} (h:l.Pairwise (fun a b=>g a<g b)) {k:Nat} (hk:k<=l.length) (h1:∀j (hj:j<l.length),j<k->g l[j]<i) (h2:∀j (hj:j<l.length),k<=j->i<=g l[j]):place g l i=k:=by
 obtain⟨p,q⟩:=place_spec (i:=i) h
 have hp:=place_le g l i
 rcases Nat.lt_trichotomy (place g l i) k with e|e|e
 ·have a:=q _ (show place g l i<l.length by omega) (Jn)
  have b:=h1 _ (show place g l i<l.length by omega) e
  omega
 ·exact e
 ·have a:=p k (by omega) e
  have b:=h2 k (by omega) (Jn)
  omega
theorem pw {A:Type} {g:A->Int} {l:List A} (h:Rise (l.map g)):l.Pairwise (fun a b=>g a<g b):=by
 have:=h.1;rwa [List.pairwise_map] at this
theorem place_has {A:Type} {g:A->Int} {l:List A} {i:Int} (h:l.Pairwise (fun a b=>g a<g b)):(∃x∈l,g x=i)↔∃hk:place g l i<l.length,g l[place g l i]=i:=by
 obtain⟨p,q⟩:=place_spec (i:=i) h
 constructor
 ·rintro ⟨x,hx,e⟩
  obtain⟨j,hj,rfl⟩:=List.getElem_of_mem hx
  have h1:place g l i<=j:=by
   rcases Nat.lt_or_ge j (place g l i) with c|c
   ·have:=p j hj c;omega
   ·exact c
  have hk:place g l i<l.length:=by omega
  refine ⟨hk,?_⟩
  have h2:=q _ hk (Jn)
  rcases Nat.lt_or_ge (place g l i) j with c|c
  ·have:=(List.pairwise_iff_getElem.1 h) _ _ hk hj c;omega
  ·have:place g l i=j:=by omega
   have e2:g l[place g l i]=g l[j]:=by congr 2
   omega
 ·rintro ⟨hk,e⟩
  exact⟨_,List.getElem_mem hk,e⟩
theorem ins_len {A:Type} {l:List A} {k:Nat} (x:A) (h:k<=l.length):(ins l k x).length=l.length+1:=by unfold ins;simp;omega
theorem ins_map {A B:Type} (f:A->B) (l:List A) (k:Nat) (x:A):(ins l k x).map f=ins (l.map f) k (f x):=by unfold ins;simp[List.map_take,List.map_drop]
theorem ins_mem {A:Type} {l:List A} {k:Nat} {x y:A}:y∈ins l k x↔y=x∨y∈l:=by
 unfold ins
 rw[List.mem_append,List.mem_cons]
 conv=>rhs;rw[<-List.take_append_drop k l,List.mem_append]
 constructor<;>(rintro (h | h | h)<;>simp[h])
theorem ins_pw {A:Type} {g:A->Int} {l:List A} {x:A} (h:l.Pairwise (fun a b=>g a<g b)) (hn:¬ ∃y∈l,g y=g x):(ins l (place g l (g x)) x).Pairwise (fun a b=>g a<g b):=by
 obtain⟨p,q⟩:=place_spec (i:=g x) h
 have hd:∀y∈l.drop (place g l (g x)),g x<g y:=fun y hy=>by
  obtain⟨j,hj,rfl⟩:=List.getElem_of_mem hy
  simp at hj
  rw[List.getElem_drop]
  have h1:=q (place g l (g x)+j) (by omega) (by omega)
  have h2:g l[place g l (g x)+j]≠g x:=fun e=>hn ⟨_,List.getElem_mem _,e⟩
  omega
 have ht:∀y∈l.take (place g l (g x)),g y<g x:=fun y hy=>by
  obtain⟨j,hj,rfl⟩:=List.getElem_of_mem hy
  simp at hj
  rw[List.getElem_take]
  exact p j (by omega) (by omega)
 unfold ins
 refine List.pairwise_append.2 ⟨h.sublist (List.take_sublist _ _),List.pairwise_cons.2 ⟨hd,h.sublist (List.drop_sublist _ _)⟩,fun a ha b hb=>?_⟩
 rcases List.mem_cons.1 hb with rfl|hb
 ·exact ht a ha
 ·have:=ht a ha;have:=hd b hb;omega
/-! What a deed does. -/
instance (ls:List Lk) (i:Int):Decidable (Linked ls i):=inferInstanceAs (Decidable (∃k∈ls,k.id=i))
def Has (l:List En) (i:Int):Prop:=∃e∈l,e.id=i
instance (l:List En) (i:Int):Decidable (Has l i):=inferInstanceAs (Decidable (∃e∈l,e.id=i))
def From (l:List En) (i:Int):Prop:=∃e∈l,e.fr=i
instance (l:List En) (i:Int):Decidable (From l i):=inferInstanceAs (Decidable (∃e∈l,e.fr=i))
def linkR (ls:List Lk) (d:Dd):Int × List Lk:=
 if Linked ls d.id then (0,ls.set (place Lk.id ls d.id) ⟨d.id,d.ad⟩) else if 16<=ls.length then (4,ls) else (0,ins ls (place Lk.id ls d.id) ⟨d.id,d.ad⟩)
def unlinkR (s:Bk) (d:Dd):Int × List Lk:=
 if Linked s.ls d.id then if From s.av d.id∨From s.su d.id then (10,s.ls) else (0,cut s.ls (place Lk.id s.ls d.id)) else (7,s.ls)
def enterR (ls:List Lk) (l:List En) (d:Dd):Int × List En:=
 if Linked ls d.fr then if Has l d.id then (8,l) else if 64<=l.length then (4,l) else (0,ins l (place En.id l d.id) ⟨d.id,d.fr,d.f⟩) else (7,l)
def leaveR (l:List En) (d:Dd):Int × List En:=
 if Has l d.id then (0,cut l (place En.id l d.id)) else (7,l)
def change (s:Bk) (d:Dd):Int × Bk:=
 if d.k=1 then ((linkR s.ls d).1,{ s with ls:=(linkR s.ls d).2 })
 else if d.k=2 then ((unlinkR s d).1,{ s with ls:=(unlinkR s d).2 })
 else if d.k=3 then ((enterR s.ls s.av d).1,{ s with av:=(enterR s.ls s.av d).2 })
 else if d.k=4 then ((leaveR s.av d).1,{ s with av:=(leaveR s.av d).2 })
 else if d.k=5 then ((enterR s.ls s.su d).1,{ s with su:=(enterR s.ls s.su d).2 })
 else ((leaveR s.su d).1,{ s with su:=(leaveR s.su d).2 })
def Does (s:Bk) (d:Dd) (t:Bk) (e:Int):Prop:=∃o er,DNorm d o er /\
 ((er≠0/\t=s/\e=er)∨(er=0/\1099511627776<=s.ep/\t=s/\e=4) ∨
  (er=0/\s.ep<1099511627776/\(change s o).1≠0/\t=s/\e=(change s o).1) ∨
  (er=0/\s.ep<1099511627776/\(change s o).1=0/\t={ (change s o).2 with ep:=s.ep+1 }/\e=0))
theorem Does.one {s t t':Bk} {d:Dd} {e e':Int} (h:Does s d t e) (k:Does s d t' e'):t=t'/\e=e':=by
 obtain⟨o,er,hn,h⟩:=h
 obtain⟨o',er',hn',k⟩:=k
 obtain⟨rfl,rfl⟩:=hn.one hn'
 rcases h with ⟨a,rfl,rfl⟩|⟨a,b,rfl,rfl⟩|⟨a,b,c,rfl,rfl⟩|⟨a,b,c,rfl,rfl⟩<;>rcases k with ⟨a',rfl,rfl⟩|⟨a',b',rfl,rfl⟩|⟨a',b',c',rfl,rfl⟩|⟨a',b',c',rfl,rfl⟩ <;>
  first | exact⟨rfl,rfl⟩ | (exfalso;first | omega | contradiction)
theorem links_ins {s:Bk} (h:Right s) {d:Dd} (hd:Own d) (hk:d.k=1) (h0:(linkR s.ls d).1=0):LinksOk (linkR s.ls d).2/\∀i,Linked s.ls i->Linked (linkR s.ls d).2 i:=by
 have hp:=pw h.ls.2.1
 have had:=hd.1.2.2.2.2.1 hk
 unfold linkR at h0 ⊢
 by_cases hl:Linked s.ls d.id
 ·rw[if_pos hl]
  obtain⟨hk,e⟩:=(place_has (g:=Lk.id) hp).1 hl
  have hm:(s.ls.set (place Lk.id s.ls d.id) ⟨d.id,d.ad⟩).map Lk.id=s.ls.map Lk.id:=by
   obtain⟨p,hq⟩:∃p,place Lk.id s.ls d.id=p:=⟨_,rfl⟩
   simp only[hq] at *
   rw[List.map_set]
   exact List.ext_getElem (by simp) fun i h1 h2=>by
    rw[List.getElem_set]
    split
    ·next hh=>subst hh;simp[e]
    ·rfl
  refine ⟨⟨by simp;exact h.ls.1,by show Rise _;rw[hm];exact h.ls.2.1,fun x hx=>?_⟩,fun i hi=>?_⟩
  ·rcases List.mem_or_eq_of_mem_set hx with hx | rfl
   ·exact h.ls.2.2 x hx
   ·exact had
  ·obtain⟨x,hx,rfl⟩:=hi
   have:x.id∈(s.ls.set (place Lk.id s.ls d.id) ⟨d.id,d.ad⟩).map Lk.id:=by rw[hm];exact List.mem_map_of_mem hx
   obtain⟨y,hy,e⟩:=List.mem_map.1 this
   exact⟨y,hy,e⟩
 ·rw[if_neg hl] at h0 ⊢
  by_cases h16:16<=s.ls.length
  ·rw[if_pos h16] at h0;cases h0
  ·rw[if_neg h16]
   refine ⟨⟨by show (ins _ _ _).length<=_;rw[ins_len _ (place_le _ _ _)];omega,⟨?_,fun x hx=>?_⟩,fun x hx=>?_⟩,fun i hi=>?_⟩
   ·show ((ins _ _ _).map Lk.id).Pairwise _
    rw[List.pairwise_map]
    exact ins_pw (x:=(⟨d.id,d.ad⟩:Lk)) hp hl
   ·obtain⟨y,hy,rfl⟩:=List.mem_map.1 hx
    rcases ins_mem.1 hy with rfl|hy
    ·exact⟨hd.1.2.2.1,hd.1.2.2.2.1⟩
    ·exact h.ls.2.1.2 _ (List.mem_map_of_mem hy)
   ·rcases ins_mem.1 hx with rfl | hy
    ·exact had
    ·exact h.ls.2.2 x hy
   ·obtain⟨x,hx,rfl⟩:=hi
    exact⟨x,ins_mem.2 (.inr hx),rfl⟩
theorem ents_ins {s:Bk} {l:List En} (h:EntsOk s.ls l) {d:Dd} (hd:Own d) (h0:(enterR s.ls l d).1=0):EntsOk s.ls (enterR s.ls l d).2:=by
 have hp:=pw h.2.1
 unfold enterR at h0 ⊢
 by_cases hl:Linked s.ls d.fr
 ·rw[if_pos hl] at h0 ⊢
  by_cases hh:Has l d.id
  ·rw[if_pos hh] at h0;cases h0
  ·rw[if_neg hh] at h0 ⊢
   by_cases h64:64<=l.length
   ·rw[if_pos h64] at h0;cases h0
   ·rw[if_neg h64]
    refine ⟨by show (ins _ _ _).length<=_;rw[ins_len _ (place_le _ _ _)];omega,⟨?_,fun x hx=>?_⟩,fun x hx=>?_⟩
    ·show ((ins _ _ _).map En.id).Pairwise _
     rw[List.pairwise_map]
     exact ins_pw (x:=(⟨d.id,d.fr,d.f⟩:En)) hp hh
    ·obtain⟨y,hy,rfl⟩:=List.mem_map.1 hx
     rcases ins_mem.1 hy with rfl|hy
     ·exact⟨hd.1.2.2.1,hd.1.2.2.2.1⟩
     ·exact h.2.1.2 _ (List.mem_map_of_mem hy)
    ·rcases ins_mem.1 hx with rfl | hy
     ·exact⟨hl,hd.2⟩
     ·exact h.2.2 x hy
 ·rw[if_neg hl] at h0;cases h0
theorem leave_ok {ls:List Lk} {l:List En} (h:EntsOk ls l) (d:Dd):EntsOk ls (leaveR l d).2:=by
 unfold leaveR
 by_cases hh:Has l d.id
 ·rw[if_pos hh];exact h.sub (cut_sub _ _)
 ·rw[if_neg hh];exact h
theorem linked_cut {ls:List Lk} {i j:Int} (hp:Rise (ls.map Lk.id)) (hl:Linked ls i) (hj:Linked ls j) (hn:j≠i):Linked (cut ls (place Lk.id ls i)) j:=by
 obtain⟨hk,e⟩:=(place_has (g:=Lk.id) (pw hp)).1 hl
 obtain⟨x,hx,rfl⟩:=hj
 exact⟨x,cut_mem hx hk (fun h=>hn (by rw[h];exact e)),rfl⟩
theorem change_right {s:Bk} (h:Right s) {d:Dd} (hd:Own d) (h0:(change s d).1=0) (he:s.ep<1099511627776):Right { (change s d).2 with ep:=s.ep+1 }:=by
 have he0:=h.ep0
 unfold change at h0 ⊢
 by_cases h1:d.k=1
 ·rw[if_pos h1] at h0 ⊢
  obtain⟨a,b⟩:=links_ins h hd h1 h0
  exact⟨by show 0<=s.ep+1;omega,by show s.ep+1<=_;omega,a,⟨h.av.1,h.av.2.1,fun e m=>⟨b _ (h.av.2.2 e m).1,(h.av.2.2 e m).2⟩⟩,⟨h.su.1,h.su.2.1,fun e m=>⟨b _ (h.su.2.2 e m).1,(h.su.2.2 e m).2⟩⟩⟩
 rw[if_neg h1] at h0 ⊢
 by_cases h2:d.k=2
 ·rw[if_pos h2] at h0 ⊢
  unfold unlinkR at h0 ⊢
  by_cases hl:Linked s.ls d.id
  ·rw[if_pos hl] at h0 ⊢
   by_cases hf:From s.av d.id∨From s.su d.id
   ·rw[if_pos hf] at h0;cases h0
   ·rw[if_neg hf]
    have hj:∀e,(e∈s.av∨e∈s.su)->Linked s.ls e.fr->Linked (cut s.ls (place Lk.id s.ls d.id)) e.fr:=fun e m hj=>
     linked_cut h.ls.2.1 hl hj fun hq=>hf (m.elim (fun m=>.inl ⟨e,m,hq⟩) (fun m=>.inr ⟨e,m,hq⟩))
    exact⟨by show 0<=s.ep+1;omega,by show s.ep+1<=_;omega,h.ls.sub (cut_sub _ _),⟨h.av.1,h.av.2.1,fun e m=>⟨hj e (.inl m) (h.av.2.2 e m).1,(h.av.2.2 e m).2⟩⟩,⟨h.su.1,h.su.2.1,fun e m=>⟨hj e (.inr m) (h.su.2.2 e m).1,(h.su.2.2 e m).2⟩⟩⟩
  ·rw[if_neg hl] at h0;cases h0
 rw[if_neg h2] at h0 ⊢
 by_cases h3:d.k=3
 ·rw[if_pos h3] at h0 ⊢
  exact⟨by show 0<=s.ep+1;omega,by show s.ep+1<=_;omega,h.ls,ents_ins h.av hd h0,h.su⟩
 rw[if_neg h3] at h0 ⊢
 by_cases h4:d.k=4
 ·rw[if_pos h4]
  exact⟨by show 0<=s.ep+1;omega,by show s.ep+1<=_;omega,h.ls,leave_ok h.av d,h.su⟩
 rw[if_neg h4] at h0 ⊢
 by_cases h5:d.k=5
 ·rw[if_pos h5] at h0 ⊢
  exact⟨by show 0<=s.ep+1;omega,by show s.ep+1<=_;omega,h.ls,h.av,ents_ins h.su hd h0⟩
 rw[if_neg h5]
 exact⟨by show 0<=s.ep+1;omega,by show s.ep+1<=_;omega,h.ls,h.av,leave_ok h.su d⟩
theorem Does.right {s t:Bk} {d:Dd} {e:Int} (h:Does s d t e) (hr:Right s):Right t/\(e≠0->t=s)/\(e=0->t.ep=s.ep+1):=by
 obtain⟨o,er,hn,h⟩:=h
 rcases h with ⟨a,rfl,rfl⟩|⟨a,b,rfl,rfl⟩|⟨a,b,c,rfl,rfl⟩|⟨rfl,b,c,rfl,rfl⟩
 ·exact⟨hr,fun _=>rfl,fun h=>absurd h a⟩
 ·exact⟨hr,fun _=>rfl,fun h=>by cases h⟩
 ·exact⟨hr,fun _=>rfl,fun h=>absurd h c⟩
 ·exact⟨change_right hr hn.good.1 c b,fun h=>absurd rfl h,fun _=>rfl⟩
inductive Folds:Bk->List Dd->Bk->Nat->Int->Prop
 | nil (s:Bk):Folds s [] s 0 0
 | bad {s:Bk} {d:Dd} {l:List Dd} {e:Int} (h:Does s d s e) (he:e≠0):Folds s (d::l) s 0 e
 | good {s t u:Bk} {d:Dd} {l:List Dd} {n:Nat} {e:Int} (h:Does s d t 0) (k:Folds t l u n e):Folds s (d::l) u (n+1) e
theorem Folds.one {s:Bk} {l:List Dd} {t:Bk} {n:Nat} {e:Int} (h:Folds s l t n e):∀{t':Bk} {n':Nat} {e':Int},Folds s l t' n' e'->t=t'/\n=n'/\e=e':=by
 induction h with
 | nil s=>intro _ _ _ k;cases k;exact⟨rfl,rfl,rfl⟩
 | bad h he=>
  intro _ _ _ k
  cases k with
  | bad h' he'=>exact⟨rfl,rfl,(h.one h').2⟩
  | good h' k'=>exact absurd (h.one h').2 he
 | good h k ih=>
  intro _ _ _ m
  cases m with
  | bad h' he'=>exact absurd (h'.one h).2 he'
  | good h' k'=>
   obtain⟨rfl,_⟩:=h.one h'
   obtain⟨a,b,c⟩:=ih k'
   exact⟨a,by rw[b],c⟩
theorem Folds.right {s:Bk} {l:List Dd} {t:Bk} {n:Nat} {e:Int} (h:Folds s l t n e) (hr:Right s):Right t/\t.ep=s.ep+n/\n<=l.length/\(e=0↔n=l.length):=by
 induction h with
 | nil s=>exact⟨hr,by simp,Jn,by simp⟩
 | bad h he=>exact⟨hr,by simp,by simp,by simp[he]⟩
 | good h k ih=>
  obtain⟨a,_,b⟩:=h.right hr
  obtain⟨c1,c2,c3,c4⟩:=ih a
  have b:=b rfl
  refine ⟨c1,by rw[c2,b];push_cast;omega,by simp;omega,by rw[c4];simp⟩
end Dm
end
section
open Go.RowKit Go.Sort
section
variable {α:Type} {L:Lay α}
def LieK (L:Lay α) (w:World) (g:Nat) (es:List α) (sp:List Value):Prop:=Blk w g L.T (es.flatMap L.enc++sp).toArray
theorem LieK.rd {w:World} {g:Nat} {es:List α} {sp:List Value} (h:LieK L w g es sp):RdK L w (some ⟨g,0,none⟩) es:=
 rdk_of_flat h (by
  rw[show (es.flatMap L.enc++sp).toArray.toList=es.flatMap L.enc++sp from rfl]
  exact List.take_left' (flatL_length es))
theorem LieK.from_ {w:World} {g:Nat} {es:List α} {sp:List Value} (h:LieK L w g es sp) (k:Nat):RdK L w (some ⟨g,k*L.k,none⟩) (es.drop k):=by
 by_cases hk:k<es.length
 ·refine .inr ⟨g,k*L.k,rfl,h.lt,fun i hi j v hv=>?_⟩
  have hi':k+i<es.length:=by simp at hi;omega
  rw[List.getElem_drop] at hv
  have hj:j<L.k:=by have:=(List.getElem?_eq_some_iff.1 hv).1;rwa [L.len] at this
  have e:k*L.k+i*L.k+j=(k+i)*L.k+j:=by rw[Nat.add_mul]
  have hb:(k+i)*L.k+j<es.length*L.k:=by
   have:(k+i+1)*L.k<=es.length*L.k:=Nat.mul_le_mul_right _ (by omega)
   rw[Nat.add_mul,Nat.one_mul] at this;omega
  rw[e,Blk.cell h]
  show (es.flatMap L.enc++sp).toArray[(k+i)*L.k+j]?=_
  rw[List.getElem?_toArray,List.getElem?_append_left (by rw[flatL_length];exact hb),flatL_at es (k+i) hi' j hj]
  exact hv
 ·rw[List.drop_eq_nil_of_le (by omega)];exact .inl rfl
theorem liek_of_own {w:World} {base:Nat} {v:Value} {es:List α} (h:OwnK L w base v es):(v=.slice none 0 0/\es=[])∨∃g cap sp,v=.slice (some ⟨g,0,none⟩) es.length cap/\base<=g/\es.length<=cap/\cap<=maxLen/\LieK L w g es sp/\es.length*L.k+sp.length=cap*L.k:=by
 rcases h.2 with ⟨rfl,hn⟩|⟨g,cap,cur,rfl,hb,hg,hc,hm,hs,ht⟩
 ·exact .inl ⟨rfl,List.eq_nil_of_length_eq_zero hn⟩
 ·refine .inr ⟨g,cap,cur.toList.drop (es.length*L.k),rfl,hb,hc,hm,?_,?_⟩
  ·unfold LieK Blk
   have e:es.flatMap L.enc=cur.toList.take (es.length*L.k):=ht.symm
   rw[e,List.take_append_drop]
   exact hg
  ·have hs':cur.size=cap*L.k:=hs
   have:es.length*L.k<=cap*L.k:=Nat.mul_le_mul_right _ hc
   simp;omega
theorem own_of_liek {w:World} {base g cap:Nat} {es:List α} {sp:List Value} (h:LieK L w g es sp) (hb:base<=g) (hc:es.length<=cap) (hm:cap<=maxLen) (hs:es.length*L.k+sp.length=cap*L.k) {n:Nat} (hn:es.length=n):OwnK L w base (.slice (some ⟨g,0,none⟩) n cap) es:=by
 subst hn
 have hl:(es.flatMap L.enc).length=es.length*L.k:=flatL_length es
 refine ⟨flatL_length es,.inr ⟨g,cap,_,rfl,hb,h,hc,hm,?_,?_⟩⟩
 ·show (es.flatMap L.enc++sp).toArray.size=cap*L.k
  simp only[List.size_toArray,List.length_append,hl];exact hs
 ·exact List.take_left' hl
theorem LieK.split {w:World} {g:Nat} {es:List α} {sp:List Value} (h:LieK L w g es sp) (k:Nat):LieK L w g (es.take k) ((es.drop k).flatMap L.enc++sp):=by
 unfold LieK at *
 rw[<-List.append_assoc,<-List.flatMap_append,List.take_append_drop]
 exact h
theorem LieK.join {w:World} {g:Nat} {es fs:List α} {sp:List Value} (h:LieK L w g es (fs.flatMap L.enc++sp)):LieK L w g (es++fs) sp:=by
 unfold LieK at *
 rw[List.flatMap_append,List.append_assoc]
 exact h
theorem LieK.below {w w':World} {g:Nat} {es:List α} {sp:List Value} (h:LieK L w g es sp) (hb:Below w.heap.size w w'):LieK L w' g es sp:=Blk.below h hb h.lt
theorem lay_over (cs fs:List α) (tl:List Value):
  ((cs.flatMap L.enc++tl).toArray.toList.take (cs.length*L.k)++fs.flatMap L.enc++(cs.flatMap L.enc++tl).toArray.toList.drop (cs.length*L.k+(fs.flatMap L.enc).length)).toArray=((cs++fs).flatMap L.enc++tl.drop (fs.length*L.k)).toArray:=by
 have hl:(cs.flatMap L.enc).length=cs.length*L.k:=flatL_length cs
 rw[show (cs.flatMap L.enc++tl).toArray.toList=cs.flatMap L.enc++tl from rfl,List.take_left' hl,flatL_length fs,<-List.drop_drop,List.drop_left' hl,List.flatMap_append]
theorem run_append_over {w:World} {g:Nat} {cs fs:List α} {tl:List Value} (h:LieK L w g cs tl) (st:TypeId) (hst:Tryz.prog.underlying st=some (.slice L.T)) (A:OA) (n m cap c:Nat) (hn:cs.length=n) (hm:fs.length=m) (hc:n+m<=cap) (hr:RdK L w A fs) (hf:m*L.k<=tl.length):
  ∃w',(∀ty,(Builtin.append_ #[st,st] ty #[.slice (some ⟨g,0,none⟩) n cap,.slice A m c]).run Tryz.prog w=.ok (.slice (some ⟨g,0,none⟩) (n+m) cap) w')/\LieK L w' g (cs++fs) (tl.drop (m*L.k))/\Touch g w w':=by
 subst hn hm
 obtain⟨i,hi,hz,hs,hby⟩:=L.has
 rcases A with _|ad
 ·have hfs:fs=[]:=by
   rcases hr with h|⟨_,_,h,_⟩
   ·exact h
   ·cases h
  subst hfs
  refine ⟨w,fun ty=>?_,by simpa using h,Touch.refl g w⟩
  simp only[List.length_nil,Nat.add_zero] at hc ⊢
  simp[Builtin.append_,run_underlying hst,sizeOf,typeInfo,hi,Builtin.lenOf,Builtin.firstCells,hc,storeCells]
 ·have hrun:=fun ty=>run_append_room (P:=Tryz.prog) w st ty L.T i hst hi g cs.length cap _ h ad fs.length c (fs.flatMap L.enc) (by rw[flatL_length,hs]) hr.src (flatL_one fs) hc (by rw[hs,flatL_length];simp only[List.size_toArray,List.length_append,flatL_length];omega)
  simp only[hs,lay_over cs fs tl] at hrun
  exact⟨_,hrun,setRow_heap w g _ _ _ _ h,touch_setRow w g _⟩
theorem run_copy_over {w:World} {g:Nat} {cs fs:List α} {tl:List Value} (h:LieK L w g cs tl) (st:TypeId) (hst:Tryz.prog.underlying st=some (.slice L.T)) (D A:OA) (n m o k cd c:Nat) (hn:cs.length=n) (hm:fs.length=m) (hmin:Nat.min k o=m) (hD:fs≠[]->D=some ⟨g,n*L.k,none⟩) (hr:RdK L w A fs) (hf:m*L.k<=tl.length) (hDs:D≠none):
  ∃w',(∀ty,(Builtin.copy_ #[st,st] ty #[.slice D o cd,.slice A k c]).run Tryz.prog w=.ok (goInt m) w')/\LieK L w' g (cs++fs) (tl.drop (m*L.k))/\Touch g w w':=by
 subst hn hm
 obtain⟨i,hi,hz,hs,hby⟩:=L.has
 by_cases h0:fs=[]
 ·subst h0
  refine ⟨w,fun ty=>?_,by simpa using h,Touch.refl g w⟩
  have hl:∀(x:Addr),(loadCells x 0).run Tryz.prog w=.ok #[] w:=fun x=>by simpa using run_loadCells_list (P:=Tryz.prog) w x [] (by simp)
  simp only[List.length_nil] at hmin
  cases D<;>cases A<;>simp[Builtin.copy_,run_underlying hst,Builtin.lenOf,Builtin.firstCells,sizeOf,typeInfo,hi,hmin,storeCells,hl,goInt]
 ·obtain rfl:=hD h0
  obtain⟨ad,rfl⟩:∃ad,A=some ad:=by
   rcases hr with h|⟨_,_,h,_⟩
   ·exact absurd h h0
   ·exact⟨_,h⟩
  have hl:=run_loadCells_list (P:=Tryz.prog) w ad (fs.flatMap L.enc) hr.src
  have hst':=run_storeCells_at Tryz.prog g (cs.length*L.k) L.T (fs.flatMap L.enc) 0 _ w h (by rw[flatL_length];simp only[List.size_toArray,List.length_append,flatL_length];omega) (flatL_one fs)
  rw[Nat.add_zero,lay_over cs fs tl] at hst'
  refine ⟨_,fun ty=>?_,setRow_heap w g _ _ _ _ h,touch_setRow w g _⟩
  rw[flatL_length] at hl
  simp[Builtin.copy_,run_underlying hst,Builtin.lenOf,Builtin.firstCells,sizeOf,typeInfo,hi,hs,hmin,hl,hst',goInt]
theorem zero_one (L:Lay α) (n:Nat):∀v∈(Builtin.zeroCells L.zero n).toList,(∀u∈L.zero.toList,u.oneCell'=true)->v.oneCell'=true:=by
 intro v hv hz
 simp only[Builtin.zeroCells,Array.toList_map,List.mem_map] at hv
 obtain⟨j,_,rfl⟩:=hv
 have hj:j % L.zero.size<L.zero.size:=Nat.mod_lt _ (by rw[L.zlen];exact L.pos)
 rw[getElem!_pos L.zero _ hj]
 exact hz _ (by simp)
theorem LieK.clear {w:World} {g:Nat} {cs:List α} {sp:List Value} (h:LieK L w g cs sp) (hz1:∀u∈L.zero.toList,u.oneCell'=true) (st:TypeId) (hst:Tryz.prog.underlying st=some (.slice L.T)) (i n:Nat) (hn:cs.length=n) (hi:i<n) (c:Nat):
  ∃w' sp',(∀ty,(Builtin.clear_ #[st] ty #[.slice (some ⟨g,i*L.k,none⟩) (n-i) c]).run Tryz.prog w=.ok (.tuple #[]) w')/\LieK L w' g (cs.take i) sp'/\Touch g w w'/\i*L.k+sp'.length=n*L.k+sp.length:=by
 subst hn
 obtain⟨inf,hinf,hzz,hss,hby⟩:=L.has
 have hl:(cs.flatMap L.enc).length=cs.length*L.k:=flatL_length cs
 obtain⟨Z,hZ⟩:∃Z,(Builtin.zeroCells L.zero (cs.length-i)).toList=Z:=⟨_,rfl⟩
 have hZl:Z.length=(cs.length-i)*L.k:=by rw[<-hZ];simp[size_zeroCells,L.zlen]
 have hZ1:∀v∈Z,v.oneCell'=true:=fun v hv=>zero_one L (cs.length-i) v (by rw[hZ];exact hv) hz1
 have hsum:i*L.k+(cs.length-i)*L.k=cs.length*L.k:=by rw[<-Nat.add_mul,Nat.add_sub_cancel' (Nat.le_of_lt hi)]
 have hst1:=run_storeCells_at Tryz.prog g (i*L.k) L.T Z 0 _ w h (by simp only[List.size_toArray,List.length_append,hl,hZl];omega) hZ1
 have e1:(cs.flatMap L.enc++sp).take (i*L.k)=(cs.take i).flatMap L.enc:=by
  have:(cs.take i).flatMap L.enc++(cs.drop i).flatMap L.enc=cs.flatMap L.enc:=by rw[<-List.flatMap_append,List.take_append_drop]
  rw[<-this,List.append_assoc]
  exact List.take_left' (by rw[flatL_length,List.length_take,Nat.min_eq_left (Nat.le_of_lt hi)])
 have e2:i*L.k+Z.length=cs.length*L.k:=by omega
 obtain⟨sp',hsp⟩:∃sp',Z++(cs.flatMap L.enc++sp).drop (cs.length*L.k)=sp':=⟨_,rfl⟩
 have hst':(storeCells ⟨g,i*L.k,none⟩ Z).run Tryz.prog w=.ok () (w.setRow g ((cs.take i).flatMap L.enc++sp').toArray):=by
  rw[hst1,Nat.add_zero,show ((cs.flatMap L.enc++sp).toArray.toList)=cs.flatMap L.enc++sp from rfl,e1,e2,List.append_assoc,hsp]
 have hlen:i*L.k+sp'.length=cs.length*L.k+sp.length:=by
  rw[<-hsp]
  simp only[List.length_append,List.length_drop,hZl,hl];omega
 refine ⟨w.setRow g ((cs.take i).flatMap L.enc++sp').toArray,sp',fun ty=>?_,setRow_heap w g _ _ _ _ h,touch_setRow w g _,hlen⟩
 obtain⟨m,hm⟩:∃m,cs.length-i=m+1:=⟨cs.length-i-1,by omega⟩
 have hzv:(zeroValue L.T).run Tryz.prog w=.ok (.agg L.zero) w:=by simp[zeroValue,typeInfo,hinf,hzz]
 rw[hm] at hZ ⊢
 simp[Builtin.clear_,run_underlying hst,hzv,Value.cells,hZ,hst']
theorem run_grow_zeros {w:World} {g:Nat} {cs:List α} {tl:List Value} (h:LieK L w g cs tl) (st tn:TypeId) (kn kq:IntKind) (hst:Tryz.prog.underlying st=some (.slice L.T)) (htn:Tryz.prog.underlying tn=some (.int kn)) (n m cap:Nat) (hn:cs.length=n) (h0:0<m) (hc:cap<n+m) (h63:n+m<=maxLen) (hlb:(n+m)*L.bytes<=140737488355328):
  ∃c' w',(∀ty,(Builtin.append_ #[st,tn] ty #[.slice (some ⟨g,0,none⟩) n cap,.int kq (m:Int)]).run Tryz.prog w=.ok (.slice (some ⟨w.heap.size,0,none⟩) (n+m) c') w')/\n+m<=c'/\c'<=maxLen/\Below w.heap.size w w'/\∃sp',LieK L w' w.heap.size cs sp'/\n*L.k+sp'.length=c'*L.k:=by
 subst hn
 obtain⟨i,hi,hz,hs,hby⟩:=L.has
 have hsmall:cs.length+m<=9223372036854775807:=by have:=maxLen_num;omega
 have hold:(Builtin.firstCells i.size cs.length (.slice (some ⟨g,0,none⟩) cs.length cap)).run Tryz.prog w.drew=.ok (cs.flatMap L.enc).toArray w.drew:=by
  have hl:=run_loadCells_list (P:=Tryz.prog) w.drew ⟨g,0,none⟩ (cs.flatMap L.enc) (LieK.rd (w:=w.drew) h).src
  rw[flatL_length] at hl
  simp[Builtin.firstCells,hs,hl]
 have hmb:m*i.bytes<=281474976710656:=by rw[hby];have:m*L.bytes<=(cs.length+m)*L.bytes:=Nat.mul_le_mul_right _ (by omega);omega
 have hrun:=fun ty=>Lib.run_append_grow_zeros (P:=Tryz.prog) w st tn ty L.T i _ kq kn hst htn hi hz (some ⟨g,0,none⟩) cs.length cap (cs.flatMap L.enc) hold m h0 (by rw[hs];exact L.pos) hc (by omega) hmb (growslice_fits hc (by rw[hby];exact hlb))
 have hge:=grownCap_ge w (cs.length+m) cap L.T
 have hcm:=grownCap_le_maxLen w (cs.length+m) cap L.T h63
 generalize grownCap w (cs.length+m) cap L.T=c' at *
 refine ⟨c',_,hrun,hge,hcm,((Below.refl w.heap.size w).drew).alloc (Jn) _,(Builtin.zeroCells L.zero m).toList++(Builtin.zeroCells L.zero (c'-(cs.length+m))).toList,?_,?_⟩
 ·have:=heap_alloc_new w.drew (.cells ((cs.flatMap L.enc).toArray++Builtin.zeroCells L.zero m++Builtin.zeroCells L.zero (c'-(cs.length+m))) L.T)
  unfold LieK Blk
  rw[show (cs.flatMap L.enc++((Builtin.zeroCells L.zero m).toList++(Builtin.zeroCells L.zero (c'-(cs.length+m))).toList)).toArray=(cs.flatMap L.enc).toArray++Builtin.zeroCells L.zero m++Builtin.zeroCells L.zero (c'-(cs.length+m)) by simp]
  exact this
 ·simp only[List.length_append,Array.length_toList,size_zeroCells,L.zlen]
  rw[<-Nat.add_assoc,<-Nat.add_mul,<-Nat.add_mul]
  exact congrArg (· * L.k) (by omega)
theorem Touch.own {g:Nat} {w w':World} (h:Touch g w w'):w.grownBy w' (some g):=⟨h.os,h.tape,h.output,h.size,fun k hk hne=>h.block k hk fun e=>hne (by rw[e])⟩
theorem Blk.shape {w:World} {g:Nat} {t:TypeId} {cs:Array Value} (h:Blk w g t cs):w.shape? g=some (t,cs.size):=by
 unfold Blk at h
 simp[World.shape?,h]
theorem op_copy_run {w:World} {o:Oper} {a:Act} {K:Act->World->Prop} {Q:Exit->Act->World->Prop} (d s:Operand) (t:TypeId) (ho:o.op=.call { callee:=.builtin .copy,args:=#[d,s],argTypes:=#[t,t] }) {v u v':Value} (hd:a.eval d=v) (hs:a.eval s=u) {w':World}
  (hr:∀ty,(Builtin.copy_ #[t,t] ty #[v,u]).run Tryz.prog w=.ok v' w') (h:K (a.put o.dst v') w'):o.wp Tryz.prog a w K Q:=by
 have hr2:=hr o.type
 unfold Oper.wp execOp
 simp only[ho,resolve,invoke,builtin,Sem.run_bind,Sem.run_pure,Result.andThen_ok,List.map_toArray,List.map_cons,List.map_nil,hd,hs,hr2]
 exact h
theorem wpList_copy_run {w:World} {ops:Array Oper} {rest:List Oper} {o:Oper} {a:Act} {Q:Exit->Act->World->Prop} (hgd:o.guard=none) (d s:Operand) (t:TypeId) (ho:o.op=.call { callee:=.builtin .copy,args:=#[d,s],argTypes:=#[t,t] }) {v u v':Value} (hd:a.eval d=v) (hs:a.eval s=u) {w':World}
  (hr:∀ty,(Builtin.copy_ #[t,t] ty #[v,u]).run Tryz.prog w=.ok v' w') (h:wpList Tryz.prog ops Q rest (a.put o.dst v') w'):wpList Tryz.prog ops Q (o::rest) a w:=
 wpList_plain hgd fun _ hK=>op_copy_run d s t ho hd hs hr (hK _ _ h)
end
end
section
open Go.RowKit Go.Sort Spans Tb Dm
theorem drop_split {A:Type} {l:List A} {k m:Nat} (hk:k<=m) (hm:l.length=m+1):l.drop k=(l.drop k).take (m-k)++[l[m]'(by omega)]:=by
 have e1:(l.drop k).drop (m-k)=[l[m]'(by omega)]:=by rw[List.drop_drop,show k+(m-k)=m by omega,List.drop_eq_getElem_cons (by omega),List.drop_eq_nil_of_le (by omega)]
 rw[<-e1,List.take_append_drop]
theorem cutL_at {w:World} {g:Nat} {es:List Lk} {sp:List Value} (h:LieK layL w g es sp) {n cap k:Nat} (hn:es.length=n) (hk:k<=n) (hc:n<=cap):
  ∃A',(∀W,(Instr.slice 22 (.slice (some ⟨g,0,none⟩) n cap) (some (.int .i64 (k:Int))) none none).run Tryz.prog W=.ok (.slice A' (n-k) (cap-k)) W)/\RdK layL w A' (es.drop k)/\A'≠none/\(k<cap->A'=some ⟨g,k*2,none⟩):=by
 have h1:(0:Int)<=(k:Int):=by omega
 have h2:(k:Int)<=(n:Int):=by omega
 by_cases hck:cap=k
 ·refine ⟨some ⟨g,0,none⟩,fun W=>?_,.inl (List.drop_eq_nil_of_le (by omega)),by simp,fun h=>by omega⟩
  subst hck
  go_simp
 ·refine ⟨some ⟨g,k*2,none⟩,fun W=>?_,h.from_ k,by simp,fun _=>rfl⟩
  go_simp
theorem headL_at (A:OA) {n cap k:Nat} (hk:k<=cap) (W:World):(Instr.slice 22 (.slice A n cap) none (some (.int .i64 (k:Int))) none).run Tryz.prog W=.ok (.slice A k cap) W:=by
 have h1:(0:Int)<=(k:Int):=by omega
 have h2:(k:Int)<=(cap:Int):=by omega
 go_simp
theorem dropL_at {w:World} {g:Nat} {es:List Lk} {sp:List Value} (h:LieK layL w g es sp) {n cap k:Nat} (hk:k<=n) (hc:n<cap):
  ∃A',(∀W,(Instr.slice 22 (.slice (some ⟨g,0,none⟩) (n+1) cap) (some (.int .i64 (k:Int))) none none).run Tryz.prog W=.ok (.slice A' (n+1-k) (cap-k)) W)/\RdK layL w A' (es.drop k)/\A'=some ⟨g,k*2,none⟩:=by
 have h1:(0:Int)<=(k:Int):=by omega
 have h2:(k:Int)<=(n:Int)+1:=by omega
 have hck:¬cap=k:=by omega
 refine ⟨some ⟨g,k*2,none⟩,fun W=>?_,h.from_ k,rfl⟩
 go_simp
theorem zerosL:∀u∈layL.zero.toList,u.oneCell'=true:=by
 intro u hu
 simp[layL] at hu
 rcases hu with rfl|rfl<;>rfl
theorem deleteL_at (base:Nat) (A:OA) (m c:Nat) (es:List Lk) (k:Nat) (w:World) (ho:OwnK layL w base (.slice A (m+1) c) es) (hn:es.length=m+1) (hm:m<=100000) (hk:k<=m):
  Calls Tryz.prog 131 #[.slice A (m+1) c,.int .i64 (k:Int),.int .i64 ((k:Int)+1)] w fun e w'=>e=.returned (.slice A m c)/\OwnK layL w' base (.slice A m c) (cut es k)/\w.grownBy w' (Value.slice A (m+1) c).ownBlock:=by
 obtain⟨g,cap,sp,hv,hbg,hcc,hcm,hlie,hls⟩:∃g cap sp,Value.slice A (m+1) c=.slice (some ⟨g,0,none⟩) es.length cap/\base<=g/\es.length<=cap/\cap<=maxLen/\LieK layL w g es sp/\es.length*layL.k+sp.length=cap*layL.k:=by
  rcases liek_of_own ho with ⟨h,h2⟩|h
  ·rw[h2] at hn;simp at hn
  ·exact h
 injection hv with e1 e2 e3
 subst e1 e3
 clear e2
 rw[hn] at hcc hls
 obtain⟨A2,hcut,hrd,_,_⟩:=cutL_at (k:=k+1) (hlie.below (Below.refl w.heap.size w).drew) hn (by omega) hcc
 have hhd:=headL_at (some ⟨g,0,none⟩) (n:=m+1) (cap:=c) (k:=k) (by omega)
 rw[Nat.add_sub_add_right] at hcut
 have hcut':∀W,(Instr.slice 22 (.slice (some ⟨g,0,none⟩) (m+1) c) (some (.int .i64 ((k:Int)+1))) none none).run Tryz.prog W=.ok (.slice A2 (m-k) (c-(k+1))) W:=hcut
 obtain⟨w3,hrun,hl3,ht3⟩:=run_append_over ((hlie.below (Below.refl w.heap.size w).drew).split k) 22 underL A2 k (m-k) c (c-(k+1)) (by rw[List.length_take,hn];omega) (by rw[List.length_drop,hn];omega) (by omega) hrd (by rw[List.length_append,flatL_length,List.length_drop,hn];have:(m-k)*layL.k<=(m+1-k)*layL.k:=Nat.mul_le_mul_right _ (by omega);omega)
 rw[show k+(m-k)=m by omega] at hrun
 have hl4:LieK layL w3 g (cut es k++[es[m]'(by omega)]) sp:=by
  have e:(es.drop k).flatMap layL.enc++sp=((es.drop k).take (m-k)).flatMap layL.enc++(([es[m]'(by omega)].flatMap layL.enc)++sp):=by
   rw[<-List.append_assoc,<-List.flatMap_append,<-drop_split hk hn]
  rw[e,List.drop_left' (by rw[flatL_length,List.length_take,List.length_drop,hn];congr 1;omega)] at hl3
  exact hl3.join
 have hcl:(cut es k++[es[m]'(by omega)]).length=m+1:=by rw[List.length_append];have:=cut_len (l:=es) (k:=k) (by omega);simp;omega
 obtain⟨w4,sp',hcr,hl5,ht5,hs5⟩:=hl4.clear zerosL 22 underL m (m+1) hcl (by omega) (c-m)
 have hl6:LieK layL w4 g (cut es k) sp':=by
  rw[List.take_left' (by have:=cut_len (l:=es) (k:=k) (by omega);omega)] at hl5
  exact hl5
 rw[show m+1-m=1 by omega] at hcr
 simp only[show layL.k=2 from rfl] at hcr
 have hcut2:∀W,(Instr.slice 22 (.slice (some ⟨g,0,none⟩) m c) (some (.int .i64 (m:Int))) (some (.int .i64 ((m:Int)+1))) none).run Tryz.prog W=.ok (.slice (some ⟨g,m*2,none⟩) 1 (c-m)) W:=fun W=>by
  have h1:(0:Int)<=(m:Int):=by omega
  have h2:(m:Int)<=(m:Int)+1:=by omega
  have h3:(m:Int)+1<=(c:Int):=by omega
  have h4:¬c=m:=by omega
  go_simp
 have HT:=Jh ((Touch.of_below (g:=g) (Below.refl w.heap.size w).drew).trans (ht3.trans ht5))
 have HL6:=Jh hl6
 have HS5:=Jh hs5
 have h1:(0:Int)<=(k:Int):=by omega
 have h2:(k:Int)<=(k:Int)+1:=by omega
 have h3:(k:Int)+1<=(m:Int)+1:=by omega
 have h4:(m:Int)+1<=(c:Int):=by omega
 have h5:((k:Int) == (k:Int)+1)=false:=beq_eq_false_iff_ne.2 (by omega)
 have HCL:=Jh hcm
 have HBG:=Jh hbg
 have HN:=Jh hn
 have HLS:=Jh hls
 clear hl3 hl4 hl5 hl6 ht3 ht5 hs5 hlie hls hrd hcut hcl ho hcm hbg hn
 go_enter Tryz.func131,Tryz.ntmps131
 go_wp2_with fail
 refine wp_region_held_drew (S:=fun _=>True) (by kernel_rfl) trivial (fun _=>?_)
 refine Jz 0 trivial ?_
 refine Jz 1 trivial ?_
 refine Jz 2 trivial ?_
 refine Jz 3 trivial ?_
 refine Jz 4 trivial ?_
 refine Jz 5 trivial ?_
 refine Je 6 (fun K hK=>?_)
 refine Lib.wp_append_run _ (.tmp 22) (.tmp 25) 22 22 (by rfl) _ _ (by rfl) (by rfl) _ _ (hrun _) ?_
 refine hK.o _ _ trivial ?_
 clear hK
 simp only[Act.put,zu0,zu1,zu2]
 refine Jz 7 trivial ?_
 refine Jd ?_
 go_wp2_with fail
 go_ret
 have hm6:(cut es k).length=m:=by have:=cut_len (l:=es) (k:=k) (by rw[HN.o];omega);have:=HN.o;omega
 refine ⟨rfl,own_of_liek HL6.o HBG.o (by rw[hm6];omega) HCL.o ?_ hm6,HT.o.own⟩
 rw[hm6];have:=HS5.o;have:=HLS.o;omega
theorem cutanyL (A:OA) {n cap k:Nat} (hk:k<=n):∃v,∀W,(Instr.slice 22 (.slice A n cap) (some (.int .i64 (k:Int))) none none).run Tryz.prog W=.ok v W:=by
 have h1:(0:Int)<=(k:Int):=by omega
 have h2:(k:Int)<=(n:Int):=by omega
 by_cases hck:cap=k
 ·refine ⟨.slice A (n-k) (cap-k),fun W=>?_⟩
  subst hck
  go_simp
 ·refine ⟨.slice (A.map fun x=>x.add (k*2)) (n-k) (cap-k),fun W=>?_⟩
  go_simp
theorem insertL_at (base:Nat) (A:OA) (n c:Nat) (es:List Lk) (k:Nat) (x:Lk) (gb:Nat) (w:World) (ho:OwnK layL w base (.slice A n c) es) (hn:es.length=n) (hm:n<=100000) (hk:k<=n) (hB:Blk w gb 46 (layL.enc x).toArray) (hbs:base<=w.heap.size) (hne:∀a,A=some a->a.block≠gb):
  Calls Tryz.prog 129 #[.slice A n c,.int .i64 (k:Int),.slice (some ⟨gb,0,none⟩) 1 1] w fun e w'=>∃A' c',e=.returned (.slice A' (n+1) c')/\n+1<=c'/\OwnK layL w' base (.slice A' (n+1) c') (ins es k x)/\w.grownBy w' (Value.slice A n c).ownBlock/\((Value.slice A' (n+1) c').ownBlock=(Value.slice A n c).ownBlock∨∃b,(Value.slice A' (n+1) c').ownBlock=some b/\w.heap.size<=b):=by
 have hrx:RdK layL w (some ⟨gb,0,none⟩) [x]:=rdk_of_flat hB (by simp;exact List.take_of_length_le (by rw[layL.len];exact Jn))
 obtain⟨v0,hc0⟩:=cutanyL A (n:=n) (cap:=c) hk
 have z1:((1:Int) == 0)=false:=rfl
 have hxl:(layL.enc x).length=2:=layL.len x
 have hN:=Jh hn
 by_cases hkn:k=n
 ·subst hkn
  have z2:((k:Int) == (k:Int))=true:=by simp
  go_enter Tryz.func129,Tryz.ntmps129
  go_wp2_with (at_builtin;refine wpList_append_k layL (by rfl) (.tmp 23) (.tmp 24) 22 underL rfl base _ es (by rfl) ho _ [x] 1 1 (by rfl) hrx rfl (by rw[maxLen_num,hN.o];omega) (by simp only[layL];rw[hN.o];omega) hbs ?_;intro v1 w1 o1 b1 g1 l1)
  have hl1:(es++[x]).length=k+1:=by rw[List.length_append,hN.o];rfl
  obtain⟨A9,c9,hv9,hc9,_⟩:=OwnK.form o1 hl1
  subst hv9
  go_ret
  refine ⟨A9,c9,rfl,hc9,by unfold ins;rw[List.take_of_length_le (by omega),List.drop_eq_nil_of_le (by omega)];exact o1,g1,l1.imp id fun h=>⟨_,h,Jn⟩⟩
 ·have z2:((k:Int) == (n:Int))=false:=beq_eq_false_iff_ne.2 (by omega)
  obtain⟨g,cap,sp,hv,hbg,hcc,hcm,hlie,hls⟩:∃g cap sp,Value.slice A n c=.slice (some ⟨g,0,none⟩) es.length cap/\base<=g/\es.length<=cap/\cap<=maxLen/\LieK layL w g es sp/\es.length*layL.k+sp.length=cap*layL.k:=by
   rcases liek_of_own ho with ⟨h,h2⟩|h
   ·rw[h2] at hn;simp at hn;omega
   ·exact h
  injection hv with e1 e2 e3
  subst e1 e3
  clear e2
  rw[hn] at hcc hls
  simp only[show layL.k=2 from rfl] at hls
  have hgb:gb≠g:=fun e=>hne _ rfl e.symm
  have hkl:(es.take k).length=k:=by rw[List.length_take,hn];omega
  have hdl:(es.drop k).length=n-k:=by rw[List.length_drop,hn]
  have hw1:IntKind.i64.wrap ((n:Int)+1)=(n:Int)+1:=by rw[IntKind.wrap_i64];omega
  have hw2:IntKind.i64.wrap ((k:Int)+1)=(k:Int)+1:=by rw[IntKind.wrap_i64];omega
  have hw3:IntKind.i64.wrap ((n:Int)+1-(k:Int))=(n:Int)+1-(k:Int):=by rw[IntKind.wrap_i64];omega
  have hcb:=maxLen_num
  by_cases hroom:c<n+1
  ·have d8:decide ((c:Int)<(n:Int)+1)=true:=decide_eq_true (by omega)
   have hhd:=headL_at (some ⟨g,0,none⟩) (n:=n) (cap:=c) (k:=k) (by omega)
   obtain⟨c2,w2,hrun,hc2,hcm2,hb2,sp2,hl2,hs2⟩:=run_grow_zeros (hlie.split k) 22 3 .i64 .i64 underL Tryz.underlying3 k (n+1-k) c hkl (by omega) (by omega) (by omega) (by simp only[layL];omega)
   rw[show k+(n+1-k)=n+1 by omega] at hrun hc2
   rw[show (((n+1-k:Nat)):Int)=(n:Int)+1-(k:Int) by omega] at hrun
   simp only[show layL.k=2 from rfl] at hs2
   have hcut1:∀W,(Instr.slice 22 (.slice (some ⟨w.heap.size,0,none⟩) (n+1) c2) (some (.int .i64 (k:Int))) none none).run Tryz.prog W=.ok (.slice (some ⟨w.heap.size,k*2,none⟩) (n+1-k) (c2-k)) W:=fun W=>by
    have h1:(0:Int)<=(k:Int):=by omega
    have h2:(k:Int)<=(n:Int)+1:=by omega
    have hck:¬c2=k:=by omega
    go_simp
   obtain⟨w3,hcp1,hl3,ht3⟩:=run_copy_over hl2 22 underL (some ⟨w.heap.size,k*2,none⟩) (some ⟨gb,0,none⟩) k 1 (n+1-k) 1 (c2-k) 1 hkl rfl (by simp only[Nat.min_def];split<;>omega) (fun _=>rfl) (RdK.below hrx hb2) (by rw[Nat.one_mul];show 2<=_;omega) (by simp)
   have hb3:Below w.heap.size w w3:=⟨ht3.os.trans hb2.os,ht3.tape.trans hb2.tape,ht3.output.trans hb2.output,Nat.le_trans hb2.size ht3.size,fun i hi=>(ht3.block i (Nat.lt_of_lt_of_le hi hb2.size) (fun e=>by injection e with e;omega)).trans (hb2.block i hi)⟩
   have hcut2:∀W,(Instr.slice 22 (.slice (some ⟨w.heap.size,0,none⟩) (n+1) c2) (some (.int .i64 ((k:Int)+1))) none none).run Tryz.prog W=.ok (.slice (some ⟨w.heap.size,(k+1)*2,none⟩) (n-k) (c2-(k+1))) W:=fun W=>by
    have h1:(0:Int)<=(k:Int)+1:=by omega
    have h2:(k:Int)+1<=(n:Int)+1:=by omega
    have hck:¬c2=k+1:=by omega
    have hnn:((k:Int)+1).toNat=k+1:=by omega
    go_simp
   obtain⟨A2,hcut,hrd,_,_⟩:=cutL_at hlie hn hk hcc
   obtain rfl:v0=.slice A2 (n-k) (c-k):=by have h:=(hc0 w).symm.trans (hcut w);injection h
   clear hc0
   obtain⟨w4,hcp2,hl4,ht4⟩:=run_copy_over (w:=w3.drew) (hl3.below (Below.refl _ _).drew) 22 underL (some ⟨w.heap.size,(k+1)*2,none⟩) A2 (k+1) (n-k) (n-k) (n-k) (c2-(k+1)) (c-k) (by rw[List.length_append,hkl];rfl) hdl (Nat.min_self _) (fun _=>rfl) (RdK.below hrd hb3.drew) (by rw[List.length_drop,Nat.one_mul];show (n-k)*2<=sp2.length-2;omega) (by simp)
   have hb4:Below w.heap.size w w4:=⟨ht4.os.trans hb3.os,ht4.tape.trans hb3.tape,ht4.output.trans hb3.output,Nat.le_trans hb3.size ht4.size,fun i hi=>(ht4.block i (Nat.lt_of_lt_of_le hi hb3.size) (fun e=>by injection e with e;omega)).trans (hb3.block i hi)⟩
   have hl5:LieK layL w4 w.heap.size (ins es k x) ((sp2.drop (1*2)).drop ((n-k)*2)):=by unfold ins;rw[List.append_cons];exact hl4
   have HB4:=Jh hb4
   have HL5:=Jh hl5
   clear hl2 hl3 hl4 hl5 ht3 ht4 hb2 hb3 hb4 hrx hrd ho hB
   go_enter Tryz.func129,Tryz.ntmps129
   go_wp2_with (first | (at_builtin;refine Lib.wpList_append_run _ rfl (.tmp 34) (.tmp 39) 22 3 rfl _ _ (by rfl) (by rfl) _ _ (hrun _) ?_) | (at_builtin;refine wpList_copy_run rfl (.tmp 43) (.tmp 44) 22 rfl (by rfl) (by rfl) hcp1 ?_))
   refine wp_region_held_drew (S:=fun _=>True) (by kernel_rfl) trivial (fun _=>?_)
   refine Jz 0 trivial ?_
   refine Jz 1 trivial ?_
   refine Jz 2 trivial ?_
   refine Jz 3 trivial ?_
   refine Jz 4 trivial ?_
   refine Jz 5 trivial ?_
   refine Jz 6 trivial ?_
   refine Jz 7 trivial ?_
   refine Je 8 (fun K hK=>?_)
   refine op_copy_run (.tmp 50) (.tmp 53) 22 (by rfl) (by rfl) (by rfl) hcp2 ?_
   refine hK.o _ _ trivial ?_
   clear hK
   refine Jd ?_
   go_wp2_with fail
   go_ret
   refine ⟨some ⟨w.heap.size,0,none⟩,c2,rfl,hc2,own_of_liek HL5.o hbs (by rw[ins_len x (by omega),hn];exact hc2) hcm2 ?_ (by rw[ins_len x (by omega),hn]),⟨HB4.o.os,HB4.o.tape,HB4.o.output,HB4.o.size,fun i hi _=>HB4.o.block i hi⟩,.inr ⟨_,rfl,Jn⟩⟩
   rw[ins_len x (by omega),hn,List.length_drop,List.length_drop]
   show (n+1)*2+_=c2*2
   omega
  ·have d8:decide ((c:Int)<(n:Int)+1)=false:=decide_eq_false (by omega)
   have hhd2:∀W,(Instr.slice 22 (.slice (some ⟨g,0,none⟩) n c) none (some (.int .i64 ((n:Int)+1))) none).run Tryz.prog W=.ok (.slice (some ⟨g,0,none⟩) (n+1) c) W:=headL_at (some ⟨g,0,none⟩) (n:=n) (cap:=c) (k:=n+1) (by omega)
   obtain⟨A3,hcutK,hrdK,rfl⟩:=dropL_at hlie (n:=n) (cap:=c) (k:=k) hk (by omega)
   obtain⟨A4,hcutK1,_,rfl⟩:=dropL_at hlie (n:=n) (cap:=c) (k:=k+1) (by omega) (by omega)
   rw[Nat.add_sub_add_right] at hcutK1
   have hcutK2:∀W,(Instr.slice 22 (.slice (some ⟨g,0,none⟩) (n+1) c) (some (.int .i64 ((k:Int)+1))) none none).run Tryz.prog W=.ok (.slice (some ⟨g,(k+1)*2,none⟩) (n-k) (c-(k+1))) W:=hcutK1
   clear hcutK1
   have hov:(callFunc 156 #[.slice (some ⟨gb,0,none⟩) 1 1,.slice (some ⟨g,(k+1)*2,none⟩) (n-k) (c-(k+1))]).run Tryz.prog w=.ok (.value (.bool false)) w:=by
    rw[run_callFunc_extern Tryz.func156 (by kernel_rfl) (by kernel_rfl) (by kernel_rfl) (e:=Extern.SlicesOverlaps.overlaps #[22,22] #[46]) (by kernel_rfl),Lib.run_overlaps_apart w 22 46 46 underL 2 (fun W=>by obtain⟨i,hi,_,hs,_⟩:=layL.has;have hi':Tryz.prog.info? 46=some i:=hi;simp[sizeOf,typeInfo,hi',hs];rfl) ⟨gb,0,none⟩ ⟨g,(k+1)*2,none⟩ 1 1 (n-k) (c-(k+1)) hgb _ _ _ _ (Blk.shape hB) (Blk.shape hlie) (by simp only[List.size_toArray,List.length_append,flatL_length,hn];show n*2+sp.length≠0;omega) (Blk.frozen hB 0) (Blk.frozen hB _)]
    rfl
   obtain⟨w3,hcp1,hl3,ht3⟩:=run_copy_over (w:=w.drew) (cs:=es.take (k+1)) ((hlie.below (Below.refl _ _).drew).split (k+1)) 22 underL (some ⟨g,(k+1)*2,none⟩) (some ⟨g,k*2,none⟩) (k+1) (n-k) (n-k) (n+1-k) (c-(k+1)) (c-k) (by rw[List.length_take,hn];omega) hdl (by simp only[Nat.min_def];split<;>omega) (fun _=>rfl) (RdK.below hrdK (Below.refl _ _).drew) (by rw[List.length_append,flatL_length,List.length_drop,hn];show (n-k)*2<=(n-(k+1))*2+sp.length;omega) (by simp)
   obtain⟨tl,htl⟩:∃tl,((es.drop (k+1)).flatMap layL.enc++sp).drop ((n-k)*layL.k)=tl:=⟨_,rfl⟩
   rw[htl] at hl3
   have htll:tl.length=(n-(k+1))*2+sp.length-(n-k)*2:=by rw[<-htl,List.length_drop,List.length_append,flatL_length,List.length_drop,hn];rfl
   have hl3':LieK layL w3 g (es.take k) ((es[k]'(by omega)::es.drop k).flatMap layL.enc++tl):=by
    have h:=hl3.split k
    rw[List.take_append_of_le_length (by rw[List.length_take,hn];omega),List.take_take,Nat.min_eq_left (by omega),List.drop_append_of_le_length (by rw[List.length_take,hn];omega)] at h
    rw[List.take_succ_eq_append_getElem (by omega),List.drop_left' hkl] at h
    exact h
   have hb3:RdK layL w3 (some ⟨gb,0,none⟩) [x]:=by
    have hB3:Blk w3 gb 46 (layL.enc x).toArray:=((ht3.block gb (Blk.lt hB) (fun e=>hgb (by injection e))).trans hB:_)
    exact rdk_of_flat hB3 (by simp;exact List.take_of_length_le (by rw[layL.len];exact Jn))
   obtain⟨w4,hcp2,hl4,ht4⟩:=run_copy_over hl3' 22 underL (some ⟨g,k*2,none⟩) (some ⟨gb,0,none⟩) k 1 (n+1-k) 1 (c-k) 1 hkl rfl (by simp only[Nat.min_def];split<;>omega) (fun _=>rfl) hb3 (by rw[List.length_append,flatL_length,List.length_cons,hdl,Nat.one_mul];show 2<=(n-k+1)*2+tl.length;omega) (by simp)
   have hl5:LieK layL w4 g (ins es k x) tl:=by
    rw[List.flatMap_cons,List.append_assoc,List.drop_left' (by rw[Nat.one_mul];exact layL.len _)] at hl4
    have h:=hl4.join
    unfold ins
    rwa [List.append_assoc] at h
   have HL5:=Jh hl5
   have HT:=Jh ((Touch.of_below (g:=g) (Below.refl w.heap.size w).drew).trans (ht3.trans ht4))
   clear hl3 hl3' hl4 hl5 ht3 ht4 hb3 hrx hrdK ho hB htl
   go_enter Tryz.func129,Tryz.ntmps129
   go_wp2_with (simp only[hov])
   refine wp_region_held_drew (S:=fun _=>True) (by kernel_rfl) trivial (fun _=>?_)
   refine Jz 0 trivial ?_
   refine Jz 1 trivial ?_
   refine Jz 2 trivial ?_
   refine Jz 3 trivial ?_
   refine Jz 4 trivial ?_
   refine Jz 5 trivial ?_
   refine Jz 6 trivial ?_
   refine Jz 7 trivial ?_
   refine Je 8 (fun K hK=>?_)
   refine op_copy_run (.tmp 73) (.tmp 76) 22 (by rfl) (by rfl) (by rfl) hcp1 ?_
   refine hK.o _ _ trivial ?_
   clear hK
   refine Jd ?_
   go_wp2_with (at_builtin;refine wpList_copy_run rfl (.tmp 80) (.tmp 81) 22 rfl (by rfl) (by rfl) hcp2 ?_)
   go_ret
   refine ⟨some ⟨g,0,none⟩,c,rfl,by omega,own_of_liek HL5.o hbg (by rw[ins_len x (by omega),hn];omega) hcm ?_ (by rw[ins_len x (by omega),hn]),HT.o.own,.inl rfl⟩
   rw[ins_len x (by omega),hn,htll]
   show (n+1)*2+_=c*2
   omega
theorem cutE_at {w:World} {g:Nat} {es:List Ex} {sp:List Value} (h:LieK layE w g es sp) {n cap k:Nat} (hn:es.length=n) (hk:k<=n) (hc:n<=cap):
  ∃A',(∀W,(Instr.slice 23 (.slice (some ⟨g,0,none⟩) n cap) (some (.int .i64 (k:Int))) none none).run Tryz.prog W=.ok (.slice A' (n-k) (cap-k)) W)/\RdK layE w A' (es.drop k)/\A'≠none/\(k<cap->A'=some ⟨g,k*3,none⟩):=by
 have h1:(0:Int)<=(k:Int):=by omega
 have h2:(k:Int)<=(n:Int):=by omega
 by_cases hck:cap=k
 ·refine ⟨some ⟨g,0,none⟩,fun W=>?_,.inl (List.drop_eq_nil_of_le (by omega)),by simp,fun h=>by omega⟩
  subst hck
  go_simp
 ·refine ⟨some ⟨g,k*3,none⟩,fun W=>?_,h.from_ k,by simp,fun _=>rfl⟩
  go_simp
theorem headE_at (A:OA) {n cap k:Nat} (hk:k<=cap) (W:World):(Instr.slice 23 (.slice A n cap) none (some (.int .i64 (k:Int))) none).run Tryz.prog W=.ok (.slice A k cap) W:=by
 have h1:(0:Int)<=(k:Int):=by omega
 have h2:(k:Int)<=(cap:Int):=by omega
 go_simp
theorem dropE_at {w:World} {g:Nat} {es:List Ex} {sp:List Value} (h:LieK layE w g es sp) {n cap k:Nat} (hk:k<=n) (hc:n<cap):
  ∃A',(∀W,(Instr.slice 23 (.slice (some ⟨g,0,none⟩) (n+1) cap) (some (.int .i64 (k:Int))) none none).run Tryz.prog W=.ok (.slice A' (n+1-k) (cap-k)) W)/\RdK layE w A' (es.drop k)/\A'=some ⟨g,k*3,none⟩:=by
 have h1:(0:Int)<=(k:Int):=by omega
 have h2:(k:Int)<=(n:Int)+1:=by omega
 have hck:¬cap=k:=by omega
 refine ⟨some ⟨g,k*3,none⟩,fun W=>?_,h.from_ k,rfl⟩
 go_simp
theorem zerosE:∀u∈layE.zero.toList,u.oneCell'=true:=by
 intro u hu
 simp[layE] at hu
 rcases hu with rfl|rfl|rfl<;>rfl
theorem deleteE_at (base:Nat) (A:OA) (m c:Nat) (es:List Ex) (k:Nat) (w:World) (ho:OwnK layE w base (.slice A (m+1) c) es) (hn:es.length=m+1) (hm:m<=100000) (hk:k<=m):
  Calls Tryz.prog 135 #[.slice A (m+1) c,.int .i64 (k:Int),.int .i64 ((k:Int)+1)] w fun e w'=>e=.returned (.slice A m c)/\OwnK layE w' base (.slice A m c) (cut es k)/\w.grownBy w' (Value.slice A (m+1) c).ownBlock:=by
 obtain⟨g,cap,sp,hv,hbg,hcc,hcm,hlie,hls⟩:∃g cap sp,Value.slice A (m+1) c=.slice (some ⟨g,0,none⟩) es.length cap/\base<=g/\es.length<=cap/\cap<=maxLen/\LieK layE w g es sp/\es.length*layE.k+sp.length=cap*layE.k:=by
  rcases liek_of_own ho with ⟨h,h2⟩|h
  ·rw[h2] at hn;simp at hn
  ·exact h
 injection hv with e1 e2 e3
 subst e1 e3
 clear e2
 rw[hn] at hcc hls
 obtain⟨A2,hcut,hrd,_,_⟩:=cutE_at (k:=k+1) (hlie.below (Below.refl w.heap.size w).drew) hn (by omega) hcc
 have hhd:=headE_at (some ⟨g,0,none⟩) (n:=m+1) (cap:=c) (k:=k) (by omega)
 rw[Nat.add_sub_add_right] at hcut
 have hcut':∀W,(Instr.slice 23 (.slice (some ⟨g,0,none⟩) (m+1) c) (some (.int .i64 ((k:Int)+1))) none none).run Tryz.prog W=.ok (.slice A2 (m-k) (c-(k+1))) W:=hcut
 obtain⟨w3,hrun,hl3,ht3⟩:=run_append_over ((hlie.below (Below.refl w.heap.size w).drew).split k) 23 underE A2 k (m-k) c (c-(k+1)) (by rw[List.length_take,hn];omega) (by rw[List.length_drop,hn];omega) (by omega) hrd (by rw[List.length_append,flatL_length,List.length_drop,hn];have:(m-k)*layE.k<=(m+1-k)*layE.k:=Nat.mul_le_mul_right _ (by omega);omega)
 rw[show k+(m-k)=m by omega] at hrun
 have hl4:LieK layE w3 g (cut es k++[es[m]'(by omega)]) sp:=by
  have e:(es.drop k).flatMap layE.enc++sp=((es.drop k).take (m-k)).flatMap layE.enc++(([es[m]'(by omega)].flatMap layE.enc)++sp):=by
   rw[<-List.append_assoc,<-List.flatMap_append,<-drop_split hk hn]
  rw[e,List.drop_left' (by rw[flatL_length,List.length_take,List.length_drop,hn];congr 1;omega)] at hl3
  exact hl3.join
 have hcl:(cut es k++[es[m]'(by omega)]).length=m+1:=by rw[List.length_append];have:=cut_len (l:=es) (k:=k) (by omega);simp;omega
 obtain⟨w4,sp',hcr,hl5,ht5,hs5⟩:=hl4.clear zerosE 23 underE m (m+1) hcl (by omega) (c-m)
 have hl6:LieK layE w4 g (cut es k) sp':=by
  rw[List.take_left' (by have:=cut_len (l:=es) (k:=k) (by omega);omega)] at hl5
  exact hl5
 rw[show m+1-m=1 by omega] at hcr
 simp only[show layE.k=3 from rfl] at hcr
 have hcut2:∀W,(Instr.slice 23 (.slice (some ⟨g,0,none⟩) m c) (some (.int .i64 (m:Int))) (some (.int .i64 ((m:Int)+1))) none).run Tryz.prog W=.ok (.slice (some ⟨g,m*3,none⟩) 1 (c-m)) W:=fun W=>by
  have h1:(0:Int)<=(m:Int):=by omega
  have h2:(m:Int)<=(m:Int)+1:=by omega
  have h3:(m:Int)+1<=(c:Int):=by omega
  have h4:¬c=m:=by omega
  go_simp
 have HT:=Jh ((Touch.of_below (g:=g) (Below.refl w.heap.size w).drew).trans (ht3.trans ht5))
 have HL6:=Jh hl6
 have HS5:=Jh hs5
 have h1:(0:Int)<=(k:Int):=by omega
 have h2:(k:Int)<=(k:Int)+1:=by omega
 have h3:(k:Int)+1<=(m:Int)+1:=by omega
 have h4:(m:Int)+1<=(c:Int):=by omega
 have h5:((k:Int) == (k:Int)+1)=false:=beq_eq_false_iff_ne.2 (by omega)
 have HCL:=Jh hcm
 have HBG:=Jh hbg
 have HN:=Jh hn
 have HLS:=Jh hls
 clear hl3 hl4 hl5 hl6 ht3 ht5 hs5 hlie hls hrd hcut hcl ho hcm hbg hn
 go_enter Tryz.func135,Tryz.ntmps135
 go_wp2_with fail
 refine wp_region_held_drew (S:=fun _=>True) (by kernel_rfl) trivial (fun _=>?_)
 refine Jz 0 trivial ?_
 refine Jz 1 trivial ?_
 refine Jz 2 trivial ?_
 refine Jz 3 trivial ?_
 refine Jz 4 trivial ?_
 refine Jz 5 trivial ?_
 refine Je 6 (fun K hK=>?_)
 refine Lib.wp_append_run _ (.tmp 22) (.tmp 25) 23 23 (by rfl) _ _ (by rfl) (by rfl) _ _ (hrun _) ?_
 refine hK.o _ _ trivial ?_
 clear hK
 simp only[Act.put,zu0,zu1,zu2]
 refine Jz 7 trivial ?_
 refine Jd ?_
 go_wp2_with fail
 go_ret
 have hm6:(cut es k).length=m:=by have:=cut_len (l:=es) (k:=k) (by rw[HN.o];omega);have:=HN.o;omega
 refine ⟨rfl,own_of_liek HL6.o HBG.o (by rw[hm6];omega) HCL.o ?_ hm6,HT.o.own⟩
 rw[hm6];have:=HS5.o;have:=HLS.o;omega
theorem cutanyE (A:OA) {n cap k:Nat} (hk:k<=n):∃v,∀W,(Instr.slice 23 (.slice A n cap) (some (.int .i64 (k:Int))) none none).run Tryz.prog W=.ok v W:=by
 have h1:(0:Int)<=(k:Int):=by omega
 have h2:(k:Int)<=(n:Int):=by omega
 by_cases hck:cap=k
 ·refine ⟨.slice A (n-k) (cap-k),fun W=>?_⟩
  subst hck
  go_simp
 ·refine ⟨.slice (A.map fun x=>x.add (k*3)) (n-k) (cap-k),fun W=>?_⟩
  go_simp
theorem insertE_at (base:Nat) (A:OA) (n c:Nat) (es:List Ex) (k:Nat) (x:Ex) (gb:Nat) (w:World) (ho:OwnK layE w base (.slice A n c) es) (hn:es.length=n) (hm:n<=100000) (hk:k<=n) (hB:Blk w gb 44 (layE.enc x).toArray) (hbs:base<=w.heap.size) (hne:∀a,A=some a->a.block≠gb):
  Calls Tryz.prog 134 #[.slice A n c,.int .i64 (k:Int),.slice (some ⟨gb,0,none⟩) 1 1] w fun e w'=>∃A' c',e=.returned (.slice A' (n+1) c')/\n+1<=c'/\OwnK layE w' base (.slice A' (n+1) c') (ins es k x)/\w.grownBy w' (Value.slice A n c).ownBlock/\((Value.slice A' (n+1) c').ownBlock=(Value.slice A n c).ownBlock∨∃b,(Value.slice A' (n+1) c').ownBlock=some b/\w.heap.size<=b):=by
 have hrx:RdK layE w (some ⟨gb,0,none⟩) [x]:=rdk_of_flat hB (by simp;exact List.take_of_length_le (by rw[layE.len];exact Jn))
 obtain⟨v0,hc0⟩:=cutanyE A (n:=n) (cap:=c) hk
 have z1:((1:Int) == 0)=false:=rfl
 have hxl:(layE.enc x).length=3:=layE.len x
 have hN:=Jh hn
 by_cases hkn:k=n
 ·subst hkn
  have z2:((k:Int) == (k:Int))=true:=by simp
  go_enter Tryz.func134,Tryz.ntmps134
  go_wp2_with (at_builtin;refine wpList_append_k layE (by rfl) (.tmp 23) (.tmp 24) 23 underE rfl base _ es (by rfl) ho _ [x] 1 1 (by rfl) hrx rfl (by rw[maxLen_num,hN.o];omega) (by simp only[layE];rw[hN.o];omega) hbs ?_;intro v1 w1 o1 b1 g1 l1)
  have hl1:(es++[x]).length=k+1:=by rw[List.length_append,hN.o];rfl
  obtain⟨A9,c9,hv9,hc9,_⟩:=OwnK.form o1 hl1
  subst hv9
  go_ret
  refine ⟨A9,c9,rfl,hc9,by unfold ins;rw[List.take_of_length_le (by omega),List.drop_eq_nil_of_le (by omega)];exact o1,g1,l1.imp id fun h=>⟨_,h,Jn⟩⟩
 ·have z2:((k:Int) == (n:Int))=false:=beq_eq_false_iff_ne.2 (by omega)
  obtain⟨g,cap,sp,hv,hbg,hcc,hcm,hlie,hls⟩:∃g cap sp,Value.slice A n c=.slice (some ⟨g,0,none⟩) es.length cap/\base<=g/\es.length<=cap/\cap<=maxLen/\LieK layE w g es sp/\es.length*layE.k+sp.length=cap*layE.k:=by
   rcases liek_of_own ho with ⟨h,h2⟩|h
   ·rw[h2] at hn;simp at hn;omega
   ·exact h
  injection hv with e1 e2 e3
  subst e1 e3
  clear e2
  rw[hn] at hcc hls
  simp only[show layE.k=3 from rfl] at hls
  have hgb:gb≠g:=fun e=>hne _ rfl e.symm
  have hkl:(es.take k).length=k:=by rw[List.length_take,hn];omega
  have hdl:(es.drop k).length=n-k:=by rw[List.length_drop,hn]
  have hw1:IntKind.i64.wrap ((n:Int)+1)=(n:Int)+1:=by rw[IntKind.wrap_i64];omega
  have hw2:IntKind.i64.wrap ((k:Int)+1)=(k:Int)+1:=by rw[IntKind.wrap_i64];omega
  have hw3:IntKind.i64.wrap ((n:Int)+1-(k:Int))=(n:Int)+1-(k:Int):=by rw[IntKind.wrap_i64];omega
  have hcb:=maxLen_num
  by_cases hroom:c<n+1
  ·have d8:decide ((c:Int)<(n:Int)+1)=true:=decide_eq_true (by omega)
   have hhd:=headE_at (some ⟨g,0,none⟩) (n:=n) (cap:=c) (k:=k) (by omega)
   obtain⟨c2,w2,hrun,hc2,hcm2,hb2,sp2,hl2,hs2⟩:=run_grow_zeros (hlie.split k) 23 3 .i64 .i64 underE Tryz.underlying3 k (n+1-k) c hkl (by omega) (by omega) (by omega) (by simp only[layE];omega)
   rw[show k+(n+1-k)=n+1 by omega] at hrun hc2
   rw[show (((n+1-k:Nat)):Int)=(n:Int)+1-(k:Int) by omega] at hrun
   simp only[show layE.k=3 from rfl] at hs2
   have hcut1:∀W,(Instr.slice 23 (.slice (some ⟨w.heap.size,0,none⟩) (n+1) c2) (some (.int .i64 (k:Int))) none none).run Tryz.prog W=.ok (.slice (some ⟨w.heap.size,k*3,none⟩) (n+1-k) (c2-k)) W:=fun W=>by
    have h1:(0:Int)<=(k:Int):=by omega
    have h2:(k:Int)<=(n:Int)+1:=by omega
    have hck:¬c2=k:=by omega
    go_simp
   obtain⟨w3,hcp1,hl3,ht3⟩:=run_copy_over hl2 23 underE (some ⟨w.heap.size,k*3,none⟩) (some ⟨gb,0,none⟩) k 1 (n+1-k) 1 (c2-k) 1 hkl rfl (by simp only[Nat.min_def];split<;>omega) (fun _=>rfl) (RdK.below hrx hb2) (by rw[Nat.one_mul];show 3<=_;omega) (by simp)
   have hb3:Below w.heap.size w w3:=⟨ht3.os.trans hb2.os,ht3.tape.trans hb2.tape,ht3.output.trans hb2.output,Nat.le_trans hb2.size ht3.size,fun i hi=>(ht3.block i (Nat.lt_of_lt_of_le hi hb2.size) (fun e=>by injection e with e;omega)).trans (hb2.block i hi)⟩
   have hcut2:∀W,(Instr.slice 23 (.slice (some ⟨w.heap.size,0,none⟩) (n+1) c2) (some (.int .i64 ((k:Int)+1))) none none).run Tryz.prog W=.ok (.slice (some ⟨w.heap.size,(k+1)*3,none⟩) (n-k) (c2-(k+1))) W:=fun W=>by
    have h1:(0:Int)<=(k:Int)+1:=by omega
    have h2:(k:Int)+1<=(n:Int)+1:=by omega
    have hck:¬c2=k+1:=by omega
    have hnn:((k:Int)+1).toNat=k+1:=by omega
    go_simp
   obtain⟨A2,hcut,hrd,_,_⟩:=cutE_at hlie hn hk hcc
   obtain rfl:v0=.slice A2 (n-k) (c-k):=by have h:=(hc0 w).symm.trans (hcut w);injection h
   clear hc0
   obtain⟨w4,hcp2,hl4,ht4⟩:=run_copy_over (w:=w3.drew) (hl3.below (Below.refl _ _).drew) 23 underE (some ⟨w.heap.size,(k+1)*3,none⟩) A2 (k+1) (n-k) (n-k) (n-k) (c2-(k+1)) (c-k) (by rw[List.length_append,hkl];rfl) hdl (Nat.min_self _) (fun _=>rfl) (RdK.below hrd hb3.drew) (by rw[List.length_drop,Nat.one_mul];show (n-k)*3<=sp2.length-3;omega) (by simp)
   have hb4:Below w.heap.size w w4:=⟨ht4.os.trans hb3.os,ht4.tape.trans hb3.tape,ht4.output.trans hb3.output,Nat.le_trans hb3.size ht4.size,fun i hi=>(ht4.block i (Nat.lt_of_lt_of_le hi hb3.size) (fun e=>by injection e with e;omega)).trans (hb3.block i hi)⟩
   have hl5:LieK layE w4 w.heap.size (ins es k x) ((sp2.drop (1*3)).drop ((n-k)*3)):=by unfold ins;rw[List.append_cons];exact hl4
   have HB4:=Jh hb4
   have HL5:=Jh hl5
   clear hl2 hl3 hl4 hl5 ht3 ht4 hb2 hb3 hb4 hrx hrd ho hB
   go_enter Tryz.func134,Tryz.ntmps134
   go_wp2_with (first | (at_builtin;refine Lib.wpList_append_run _ rfl (.tmp 34) (.tmp 39) 23 3 rfl _ _ (by rfl) (by rfl) _ _ (hrun _) ?_) | (at_builtin;refine wpList_copy_run rfl (.tmp 43) (.tmp 44) 23 rfl (by rfl) (by rfl) hcp1 ?_))
   refine wp_region_held_drew (S:=fun _=>True) (by kernel_rfl) trivial (fun _=>?_)
   refine Jz 0 trivial ?_
   refine Jz 1 trivial ?_
   refine Jz 2 trivial ?_
   refine Jz 3 trivial ?_
   refine Jz 4 trivial ?_
   refine Jz 5 trivial ?_
   refine Jz 6 trivial ?_
   refine Jz 7 trivial ?_
   refine Je 8 (fun K hK=>?_)
   refine op_copy_run (.tmp 50) (.tmp 53) 23 (by rfl) (by rfl) (by rfl) hcp2 ?_
   refine hK.o _ _ trivial ?_
   clear hK
   refine Jd ?_
   go_wp2_with fail
   go_ret
   refine ⟨some ⟨w.heap.size,0,none⟩,c2,rfl,hc2,own_of_liek HL5.o hbs (by rw[ins_len x (by omega),hn];exact hc2) hcm2 ?_ (by rw[ins_len x (by omega),hn]),⟨HB4.o.os,HB4.o.tape,HB4.o.output,HB4.o.size,fun i hi _=>HB4.o.block i hi⟩,.inr ⟨_,rfl,Jn⟩⟩
   rw[ins_len x (by omega),hn,List.length_drop,List.length_drop]
   show (n+1)*3+_=c2*3
   omega
  ·have d8:decide ((c:Int)<(n:Int)+1)=false:=decide_eq_false (by omega)
   have hhd2:∀W,(Instr.slice 23 (.slice (some ⟨g,0,none⟩) n c) none (some (.int .i64 ((n:Int)+1))) none).run Tryz.prog W=.ok (.slice (some ⟨g,0,none⟩) (n+1) c) W:=headE_at (some ⟨g,0,none⟩) (n:=n) (cap:=c) (k:=n+1) (by omega)
   obtain⟨A3,hcutK,hrdK,rfl⟩:=dropE_at hlie (n:=n) (cap:=c) (k:=k) hk (by omega)
   obtain⟨A4,hcutK1,_,rfl⟩:=dropE_at hlie (n:=n) (cap:=c) (k:=k+1) (by omega) (by omega)
   rw[Nat.add_sub_add_right] at hcutK1
   have hcutK2:∀W,(Instr.slice 23 (.slice (some ⟨g,0,none⟩) (n+1) c) (some (.int .i64 ((k:Int)+1))) none none).run Tryz.prog W=.ok (.slice (some ⟨g,(k+1)*3,none⟩) (n-k) (c-(k+1))) W:=hcutK1
   clear hcutK1
   have hov:(callFunc 162 #[.slice (some ⟨gb,0,none⟩) 1 1,.slice (some ⟨g,(k+1)*3,none⟩) (n-k) (c-(k+1))]).run Tryz.prog w=.ok (.value (.bool false)) w:=by
    rw[run_callFunc_extern Tryz.func162 (by kernel_rfl) (by kernel_rfl) (by kernel_rfl) (e:=Extern.SlicesOverlaps.overlaps #[23,23] #[44]) (by kernel_rfl),Lib.run_overlaps_apart w 23 44 44 underE 3 (fun W=>by obtain⟨i,hi,_,hs,_⟩:=layE.has;have hi':Tryz.prog.info? 44=some i:=hi;simp[sizeOf,typeInfo,hi',hs];rfl) ⟨gb,0,none⟩ ⟨g,(k+1)*3,none⟩ 1 1 (n-k) (c-(k+1)) hgb _ _ _ _ (Blk.shape hB) (Blk.shape hlie) (by simp only[List.size_toArray,List.length_append,flatL_length,hn];show n*3+sp.length≠0;omega) (Blk.frozen hB 0) (Blk.frozen hB _)]
    rfl
   obtain⟨w3,hcp1,hl3,ht3⟩:=run_copy_over (w:=w.drew) (cs:=es.take (k+1)) ((hlie.below (Below.refl _ _).drew).split (k+1)) 23 underE (some ⟨g,(k+1)*3,none⟩) (some ⟨g,k*3,none⟩) (k+1) (n-k) (n-k) (n+1-k) (c-(k+1)) (c-k) (by rw[List.length_take,hn];omega) hdl (by simp only[Nat.min_def];split<;>omega) (fun _=>rfl) (RdK.below hrdK (Below.refl _ _).drew) (by rw[List.length_append,flatL_length,List.length_drop,hn];show (n-k)*3<=(n-(k+1))*3+sp.length;omega) (by simp)
   obtain⟨tl,htl⟩:∃tl,((es.drop (k+1)).flatMap layE.enc++sp).drop ((n-k)*layE.k)=tl:=⟨_,rfl⟩
   rw[htl] at hl3
   have htll:tl.length=(n-(k+1))*3+sp.length-(n-k)*3:=by rw[<-htl,List.length_drop,List.length_append,flatL_length,List.length_drop,hn];rfl
   have hl3':LieK layE w3 g (es.take k) ((es[k]'(by omega)::es.drop k).flatMap layE.enc++tl):=by
    have h:=hl3.split k
    rw[List.take_append_of_le_length (by rw[List.length_take,hn];omega),List.take_take,Nat.min_eq_left (by omega),List.drop_append_of_le_length (by rw[List.length_take,hn];omega)] at h
    rw[List.take_succ_eq_append_getElem (by omega),List.drop_left' hkl] at h
    exact h
   have hb3:RdK layE w3 (some ⟨gb,0,none⟩) [x]:=by
    have hB3:Blk w3 gb 44 (layE.enc x).toArray:=((ht3.block gb (Blk.lt hB) (fun e=>hgb (by injection e))).trans hB:_)
    exact rdk_of_flat hB3 (by simp;exact List.take_of_length_le (by rw[layE.len];exact Jn))
   obtain⟨w4,hcp2,hl4,ht4⟩:=run_copy_over hl3' 23 underE (some ⟨g,k*3,none⟩) (some ⟨gb,0,none⟩) k 1 (n+1-k) 1 (c-k) 1 hkl rfl (by simp only[Nat.min_def];split<;>omega) (fun _=>rfl) hb3 (by rw[List.length_append,flatL_length,List.length_cons,hdl,Nat.one_mul];show 3<=(n-k+1)*3+tl.length;omega) (by simp)
   have hl5:LieK layE w4 g (ins es k x) tl:=by
    rw[List.flatMap_cons,List.append_assoc,List.drop_left' (by rw[Nat.one_mul];exact layE.len _)] at hl4
    have h:=hl4.join
    unfold ins
    rwa [List.append_assoc] at h
   have HL5:=Jh hl5
   have HT:=Jh ((Touch.of_below (g:=g) (Below.refl w.heap.size w).drew).trans (ht3.trans ht4))
   clear hl3 hl3' hl4 hl5 ht3 ht4 hb3 hrx hrdK ho hB htl
   go_enter Tryz.func134,Tryz.ntmps134
   go_wp2_with (simp only[hov])
   refine wp_region_held_drew (S:=fun _=>True) (by kernel_rfl) trivial (fun _=>?_)
   refine Jz 0 trivial ?_
   refine Jz 1 trivial ?_
   refine Jz 2 trivial ?_
   refine Jz 3 trivial ?_
   refine Jz 4 trivial ?_
   refine Jz 5 trivial ?_
   refine Jz 6 trivial ?_
   refine Jz 7 trivial ?_
   refine Je 8 (fun K hK=>?_)
   refine op_copy_run (.tmp 73) (.tmp 76) 23 (by rfl) (by rfl) (by rfl) hcp1 ?_
   refine hK.o _ _ trivial ?_
   clear hK
   refine Jd ?_
   go_wp2_with (at_builtin;refine wpList_copy_run rfl (.tmp 80) (.tmp 81) 23 rfl (by rfl) (by rfl) hcp2 ?_)
   go_ret
   refine ⟨some ⟨g,0,none⟩,c,rfl,by omega,own_of_liek HL5.o hbg (by rw[ins_len x (by omega),hn];omega) hcm ?_ (by rw[ins_len x (by omega),hn]),HT.o.own,.inl rfl⟩
   rw[ins_len x (by omega),hn,htll]
   show (n+1)*3+_=c*3
   omega
end
end Go.Proofs.YtnfigjggjmncdaaGreat
