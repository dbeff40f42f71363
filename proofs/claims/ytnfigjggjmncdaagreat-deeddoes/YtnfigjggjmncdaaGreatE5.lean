/- Contracts. -/
import Derived.Test.YtnfigjggjmncdaaGreatC1
import Derived.Test.YtnfigjggjmncdaaGreatC2
import Derived.Test.YtnfigjggjmncdaaGreatE1
set_option maxRecDepth 100000
set_option maxHeartbeats 4000000
namespace Go.Proofs.YtnfigjggjmncdaaGreat
section
open Go.RowKit Go.Sort Spans Op
def haF (K lo hi:Int) (f t:LU) (o:Bool) (es:List Val) (k i:Int) (x:LU):Bool:=
 Vals.right k i x && (K == 4 || (K == k && ((if K=2 then inT f t o x else inN lo hi i) && !decide ((⟨k,i,x⟩:Val)∈es))))
theorem rzero_at (s:LU) (hs:s.length<=1000) (w:World):
  Calls Tryz.prog 120 #[.string ⟨s.toArray⟩] w fun e w'=>e=.returned (.bool (zeroEnd s).isSome)/\Grown w w':=by
 rcases List.eq_nil_or_concat s with rfl|⟨u,x,rfl⟩
 ·have HZ:Hid ((zeroEnd ([]:LU)).isSome=false):=by show _=_;rfl
  go_enter Tryz.func120,Tryz.ntmps120
  go_wp2_with fail
  go_ret
  exact⟨ret_b (by rw[HZ.o]),Grown.refl _⟩
 ·rw[List.concat_eq_append] at hs ⊢
  have hz1:(⟨(u++[x]).toArray⟩:ByteArray).size=u.length+1:=by simp[ByteArray.size]
  have hz2:∀h,(⟨(u++[x]).toArray⟩:ByteArray)[u.length]'h=x:=by intro h;show (u++[x]).toArray[u.length]=x;simp
  have hul:u.length<=1000:=by simp at hs;omega
  by_cases hx:x=0
  ·subst hx
   have HZ:Hid ((zeroEnd (u++[0])).isSome=true):=by show _=_;rw[(zeroEnd_iff _ _).2 rfl];rfl
   generalize hS:(⟨(u++[0]).toArray⟩:ByteArray)=S at *
   clear hS
   go_enter Tryz.func120,Tryz.ntmps120
   go_wp2_with fail
   go_ret
   exact⟨ret_b (by rw[HZ.o]),Grown.refl _⟩
  ·have HZ:Hid ((zeroEnd (u++[x])).isSome=false):=by
    show _=_
    cases hz:zeroEnd (u++[x]) with
    | none=>rfl
    | some v=>
     have:=(zeroEnd_iff _ _).1 hz
     exact absurd (List.append_inj_right' this rfl) (by simpa using hx)
   have hd:(((x.toNat:Nat):Int) == 0)=false:=by
    have:x.toNat≠0:=fun e=>hx (UInt8.toNat_inj.1 e)
    simpa using this
   generalize hS:(⟨(u++[x]).toArray⟩:ByteArray)=S at *
   clear hS hx
   go_enter Tryz.func120,Tryz.ntmps120
   go_wp2_with fail
   go_ret
   exact⟨ret_b (by rw[HZ.o]),Grown.refl _⟩
def inF (K lo hi:Int) (f t:LU) (o:Bool) (es:List Val) (K' lo' hi':Int) (f' t':LU) (o':Bool) (fs:List Val):Bool:=
 if K=0∨K'=4 then true else if K≠K' then false
 else !(fs.any fun v=>haF K lo hi f t o es v.k v.i v.t) && (if K=2 then !bytesLess f f' && (o' || (!o && !bytesLess t' t)) else decide (lo'<=lo) && decide (hi<=hi'))
theorem canon_bd {a:Sp} (h:Canon a):a.frm.length<=33/\a.to_.length<=33 /\ -9223372036854775808<=a.lo/\a.lo<=9223372036854775807 /\ -9223372036854775808<=a.hi/\a.hi<=9223372036854775807:=by
 rcases h with rfl|rfl|h|h
 ·simp[none_]
 ·simp[any_]
 ·have h1:=h.low
  have h2:=h.ord
  have h3:=h.high
  have h4:-9223372036854775808<=lowest a.kind:=by unfold lowest;split<;>omega
  have h5:highest a.kind<=9223372036854775807:=by unfold highest;split<;>omega
  rw[h.frm,h.to_]
  simp
  omega
 ·refine ⟨h.flen.len,?_,by rw[h.lo];decide,by rw[h.lo];decide,by rw[h.hi];decide,by rw[h.hi];decide⟩
  cases ho:a.opn with
  | true=>rw[h.isOpn ho];simp
  | false=>exact (h.shut ho).1.len
theorem rdk_own' {α:Type} {L:Lay α} {w:World} {base:Nat} {A:OA} {n c:Nat} {es:List α} (h:OwnK L w base (.slice A n c) es):RdK L w A es:=by
 obtain⟨B,d,e,_,hr⟩:=h.rd
 injection e with e1 _ _
 subst e1
 exact hr
def GivesB (base:Nat) (w:World) (a:Sp) (e:Ending) (w':World):Prop:=∃A n c,e=.returned (spF a.kind a.lo a.hi a.frm a.to_ a.opn A n c)/\a.no.length=n/\n<=c/\OwnW w' base (.slice A n c) a.no/\Below w.heap.size w w'
theorem Gives.b {base:Nat} {w w':World} {a:Sp} {e:Ending} (h:Gives w a e w') (hb:base<=w.heap.size):GivesB base w a e w':=by
 obtain⟨A,n,c,h1,h2,h3,h4,h5⟩:=h
 exact⟨A,n,c,h1,h2,h3,h4.less hb,h5⟩
end
end Go.Proofs.YtnfigjggjmncdaaGreat
